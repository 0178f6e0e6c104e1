/-
  Escapes, paths and pseudo-versions as plain functions.
-/
import Derived.Test.YthcafeoamabkgaaGreatDoorPure3
namespace Go.Proofs.YthcafeoamabkgaaGreatDoor

def escC (c : UInt8) : Str := if upperB c then [33, UInt8.ofNat (c.toNat + 32)] else [c]
def escL (s : Str) : Str := s.flatMap escC
def unescL : Str → Option Str
  | [] => some []
  | c :: l =>
    if c = 33 then
      match l with
      | [] => none
      | d :: l => if lowerB d then (unescL l).map fun r => UInt8.ofNat (d.toNat - 32) :: r else none
    else (unescL l).map fun r => c :: r
/-- The text, and the error's number. -/
def escR (s : Str) : Str × Nat := if s.all plainB then (escL s, 0) else ([], 15)
def unescR (s : Str) : Str × Nat := if s.all escapedB then (match unescL s with | some r => (r, 0) | none => ([], 15)) else ([], 15)

theorem upper_lower {c : UInt8} (h : upperB c = true) : (UInt8.ofNat (c.toNat + 32)).toNat = c.toNat + 32 ∧ lowerB (UInt8.ofNat (c.toNat + 32)) = true ∧ UInt8.ofNat ((UInt8.ofNat (c.toNat + 32)).toNat - 32) = c := by
  simp only [upperB, Bool.and_eq_true, decide_eq_true_eq] at h
  have e : (UInt8.ofNat (c.toNat + 32)).toNat = c.toNat + 32 := by simp; omega
  refine ⟨e, by simp only [lowerB, e, Bool.and_eq_true, decide_eq_true_eq]; omega, ?_⟩
  rw [e, Nat.add_sub_cancel]
  exact UInt8.ofNat_toNat

theorem unescL_plain {c : UInt8} (h : c ≠ 33) (l : Str) : unescL (c :: l) = (unescL l).map fun r => c :: r := by cases l <;> simp [unescL, h]

theorem unesc_esc : ∀ s : Str, s.all plainB = true → unescL (escL s) = some s
  | [], _ => rfl
  | c :: s, h => by
    simp only [List.all_cons, Bool.and_eq_true] at h
    have ih := unesc_esc s h.2
    have hc : c ≠ 33 := by rintro rfl; have := h.1; revert this; decide
    have e : escL (c :: s) = escC c ++ escL s := rfl
    rw [e]
    unfold escC
    cases hu : upperB c with
    | true =>
      obtain ⟨_, h2, h3⟩ := upper_lower hu
      simp only [if_true, List.cons_append, List.nil_append, unescL, h2, ih, Option.map_some, h3]
    | false =>
      simp only [Bool.false_eq_true, if_false, List.cons_append, List.nil_append]
      rw [unescL_plain hc, ih]; rfl

theorem escaped_esc : ∀ s : Str, s.all plainB = true → (escL s).all escapedB = true
  | [], _ => rfl
  | c :: s, h => by
    simp only [List.all_cons, Bool.and_eq_true] at h
    have ih := escaped_esc s h.2
    have e : escL (c :: s) = escC c ++ escL s := rfl
    rw [e, List.all_append, ih, Bool.and_true]
    unfold escC
    cases hu : upperB c with
    | true =>
      obtain ⟨h1, _, _⟩ := upper_lower hu
      simp only [upperB, Bool.and_eq_true, decide_eq_true_eq] at hu
      have : escapedB (UInt8.ofNat (c.toNat + 32)) = true := by
        simp only [escapedB, asciiB, upperB, h1, Bool.and_eq_true, decide_eq_true_eq, Bool.not_eq_true', Bool.and_eq_false_iff, decide_eq_false_iff_not]
        omega
      simp only [if_true, List.all_cons, List.all_nil, this, Bool.and_true]
      decide
    | false =>
      simp only [Bool.false_eq_true, if_false, List.all_cons, List.all_nil, Bool.and_true]
      have h1 := h.1
      simp only [plainB, Bool.and_eq_true] at h1
      simp [escapedB, h1.1, hu]

theorem unescR_esc {s : Str} (h : s.all plainB = true) : unescR (escL s) = (s, 0) := by
  unfold unescR
  rw [if_pos (escaped_esc s h), unesc_esc s h]
theorem escL_inj {a b : Str} (ha : a.all plainB = true) (hb : b.all plainB = true) (h : escL a = escL b) : a = b := by
  have h1 := unesc_esc a ha
  rw [h, unesc_esc b hb] at h1
  exact (Option.some.inj h1).symm
theorem escL_length (s : Str) : (escL s).length ≤ 2 * s.length := by
  induction s with
  | nil => simp [escL]
  | cons c s ih =>
    have e : escL (c :: s) = escC c ++ escL s := rfl
    rw [e, List.length_append, List.length_cons]
    unfold escC
    split <;> simp <;> omega

/-! ### Paths -/

def elemB (may : UInt8 → Bool) (s : Str) : Bool := !s.isEmpty && s.all may && !Lib.hasPrefix s [46] && !Lib.hasSuffix s [46]
def elemsB (may : UInt8 → Bool) (p : Str) : Bool := (pieces 47 p).all (elemB may)
def hostOk (s : Str) : Bool := s.contains 46 && !Lib.hasPrefix s [45] && s.all hostB
def looksB (p : Str) : Bool :=
  match splitLast 47 p with
  | some (_, t) => Lib.hasPrefix t [118] && digitsB (t.drop 1)
  | none => false
def majorR (p : Str) : Str × Nat :=
  if looksB p then
    match splitLast 47 p with
    | some (f, t) => if numOk (t.drop 1) && decide (2 ≤ numVal (t.drop 1)) then (f, numVal (t.drop 1)) else (p, 0)
    | none => (p, 0)
  else (p, 0)
def pathR (p : Str) : Nat :=
  if 100 < p.length then 13
  else if !elemsB pathB p || !hostOk (ahead 47 p) then 9
  else if (majorR p).2 = 0 && looksB p then 10 else 0
def importR (p : Str) : Nat := if 100 < p.length then 13 else if elemsB importB p then 0 else 9
def partsR (v : Str) : Nat × Nat × Nat × Str × Bool :=
  match parseV v with
  | some x => (x.a, x.b, x.c, x.pre, true)
  | none => (0, 0, 0, [], false)
def matchesR (v p : Str) : Bool :=
  match parseV v with
  | none => false
  | some x => if (majorR p).2 = 0 then decide (x.a ≤ 1) else decide (x.a = (majorR p).2)
def checkR (p v : Str) : Nat :=
  if pathR p ≠ 0 then pathR p else if (parseV v).isNone then 8 else if matchesR v p then 0 else 10

/-! ### Pseudo-versions -/

/-- Two digits between two bounds. -/
def betw (lo hi : Nat) (s : Str) : Bool := decide (lo ≤ numVal s) && decide (numVal s ≤ hi)
def timeB (t : Str) : Bool :=
  decide (t.length = 14) && digitsB t && betw 1 12 ((t.drop 4).take 2) && betw 1 31 ((t.drop 6).take 2) && betw 0 23 ((t.drop 8).take 2) && betw 0 59 ((t.drop 10).take 2) && betw 0 59 ((t.drop 12).take 2)
def revB (r : Str) : Bool := decide (r.length = 12) && r.all hexB
def releaseL (a b c : Nat) : Str := 118 :: Lib.decDigits a ++ 46 :: Lib.decDigits b ++ 46 :: Lib.decDigits c
def frontR (major : Nat) (base : Str) : Option Str :=
  if base = [] then some (releaseL major 0 0 ++ [45])
  else match parseV base with
    | none => none
    | some x => if x.a = major then (if x.pre ≠ [] then some (base ++ [46, 48, 46]) else some (releaseL major x.b (x.c + 1) ++ [45, 48, 46])) else none
def pseudoR (major : Int) (base time rev : Str) : Str × Nat :=
  if major < 0 ∨ 999999999 < major then ([], 6)
  else if !timeB time || !revB rev then ([], 15)
  else match frontR major.toNat base with
    | none => ([], 8)
    | some f => if (parseV (f ++ time ++ 45 :: rev)).isSome then (f ++ time ++ 45 :: rev, 0) else ([], 8)

end Go.Proofs.YthcafeoamabkgaaGreatDoor
