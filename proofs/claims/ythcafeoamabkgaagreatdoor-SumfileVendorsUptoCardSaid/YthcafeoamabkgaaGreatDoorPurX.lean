/-
  What the statements on majors and on pseudo-versions say, of the plain functions.
-/
import Derived.Lib.Split
import Derived.Lib.SplitLaws
import Derived.Lib.Strings
import Derived.Lib.LastIndexByte
import Derived.Lib.Atoi
import Derived.Lib.ItoaNum
namespace Go.Proofs.YthcafeoamabkgaaGreatDoor

abbrev Str := List UInt8
/-- The string of a list of bytes. -/
def ba (l : Str) : ByteArray := ⟨l.toArray⟩
theorem ba_data (l : Str) : (ba l).data.toList = l := rfl
theorem ba_size (l : Str) : (ba l).size = l.length := by simp [ba, ByteArray.size]
theorem ba_of (s : ByteArray) : ba s.data.toList = s := Lib.mk_data s
theorem ba_inj {a b : Str} : ba a = ba b ↔ a = b := by
  constructor
  · intro h; have := congrArg (fun s : ByteArray => s.data.toList) h; simpa [ba] using this
  · rintro rfl; rfl

def digitB (c : UInt8) : Bool := decide (48 ≤ c.toNat) && decide (c.toNat ≤ 57)
def lowerB (c : UInt8) : Bool := decide (97 ≤ c.toNat) && decide (c.toNat ≤ 122)
def upperB (c : UInt8) : Bool := decide (65 ≤ c.toNat) && decide (c.toNat ≤ 90)
def asciiB (c : UInt8) : Bool := decide (c.toNat < 128)
def plainB (c : UInt8) : Bool := asciiB c && !decide (c.toNat = 33)
def escapedB (c : UInt8) : Bool := asciiB c && !upperB c
def hostB (c : UInt8) : Bool := lowerB c || digitB c || decide (c.toNat = 45) || decide (c.toNat = 46)
def pathB (c : UInt8) : Bool := hostB c || upperB c || decide (c.toNat = 95) || decide (c.toNat = 126)
def importB (c : UInt8) : Bool := pathB c || decide (c.toNat = 43)
def hexB (c : UInt8) : Bool := digitB c || (decide (97 ≤ c.toNat) && decide (c.toNat ≤ 102))
def letterB (c : UInt8) : Bool := lowerB c || upperB c
def identB (c : UInt8) : Bool := digitB c || letterB c || decide (c.toNat = 45)

def digitsB (s : Str) : Bool := !s.isEmpty && s.all digitB
def zeroAheadB (s : Str) : Bool := decide (1 < s.length) && decide (s.getD 0 0 = 48)
def numOk (s : Str) : Bool := decide (s.length ≤ 9) && digitsB s && !zeroAheadB s
def numVal (s : Str) : Nat := s.foldl (fun a c => a * 10 + (c.toNat - 48)) 0

/-- A text cut at a byte. -/
def pieces (c : UInt8) : Str → List Str
  | [] => [[]]
  | b :: l => if b = c then [] :: pieces c l else
    match pieces c l with
    | [] => [[b]]
    | p :: ps => (b :: p) :: ps
/-- What stands ahead of a byte's first place, and behind it. -/
def ahead (c : UInt8) (l : Str) : Str := l.takeWhile fun b => b != c
def behind (c : UInt8) (l : Str) : Str := (l.dropWhile fun b => b != c).drop 1

def validIdB (s : Str) : Bool := if digitsB s then !zeroAheadB s else !s.isEmpty && s.all identB
def validPreB (s : Str) : Bool := (pieces 46 s).all validIdB

structure Ver where
  a : Nat
  b : Nat
  c : Nat
  pre : Str
deriving DecidableEq

def numsOf (l : List Str) : Option (Nat × Nat × Nat) :=
  match l with
  | [x, y, z] => if numOk x && numOk y && numOk z then some (numVal x, numVal y, numVal z) else none
  | _ => none

def parseR (rest : Str) : Option Ver :=
  match numsOf (pieces 46 (ahead 45 rest)) with
  | none => none
  | some (a, b, c) => if rest.contains 45 && !validPreB (behind 45 rest) then none else some ⟨a, b, c, behind 45 rest⟩
def parseV (v : Str) : Option Ver :=
  if v.length ≤ 60 then
    match v with
    | 118 :: rest => parseR rest
    | _ => none
  else none

/-- Three-way orders. -/
def cmpNat (a b : Nat) : Int := if a < b then -1 else if b < a then 1 else 0
def orI (a b : Int) : Int := if a = 0 then b else a
def cmpIds (a b : Str) : Int :=
  if digitsB a then
    if digitsB b then orI (cmpNat a.length b.length) (Lib.compareBytes a b) else -1
  else if digitsB b then 1 else Lib.compareBytes a b
def cmpList (f : Str → Str → Int) : List Str → List Str → Int
  | [], [] => 0
  | [], _ :: _ => -1
  | _ :: _, [] => 1
  | a :: l, b :: m => orI (f a b) (cmpList f l m)
def cmpPres (a b : Str) : Int :=
  if a = b then 0 else if a = [] then 1 else if b = [] then -1 else cmpList cmpIds (pieces 46 a) (pieces 46 b)
def cmpVer (x y : Ver) : Int := orI (orI (cmpNat x.a y.a) (orI (cmpNat x.b y.b) (cmpNat x.c y.c))) (cmpPres x.pre y.pre)
def cmpV (a b : Str) : Int :=
  match parseV a, parseV b with
  | some x, some y => cmpVer x y
  | some _, none => 1
  | none, some _ => -1
  | none, none => Lib.compareBytes a b

/-! ### Orders -/

structure Orders {α : Type} (f : α → α → Int) : Prop where
  turn : ∀ a b, f b a = - f a b
  eq : ∀ a b, f a b = 0 ↔ a = b
  lt : ∀ a b c, f a b < 0 → f b c < 0 → f a c < 0
  three : ∀ a b, f a b = -1 ∨ f a b = 0 ∨ f a b = 1

theorem Orders.self {α : Type} {f : α → α → Int} (h : Orders f) (a : α) : f a a = 0 := (h.eq a a).2 rfl

theorem orders_nat : Orders cmpNat where
  turn a b := by unfold cmpNat; split <;> split <;> (try split) <;> omega
  eq a b := by unfold cmpNat; split <;> (try split) <;> omega
  lt a b c := by unfold cmpNat; intro h1 h2; split at h1 <;> (try split at h1) <;> split at h2 <;> (try split at h2) <;> first | omega | (rw [if_pos (by omega)]; decide)
  three a b := by unfold cmpNat; split <;> (try split) <;> simp

theorem orders_bytes : Orders Lib.compareBytes := by
  have turn : ∀ a b, Lib.compareBytes b a = - Lib.compareBytes a b := by
    intro a
    induction a with
    | nil => intro b; cases b <;> simp [Lib.compareBytes]
    | cons x l ih =>
      intro b
      cases b with
      | nil => simp [Lib.compareBytes]
      | cons y m =>
        simp only [Lib.compareBytes]
        have hxy : ∀ u v : UInt8, u < v ↔ u.toNat < v.toNat := fun u v => UInt8.lt_iff_toNat_lt
        by_cases h1 : x < y
        · have h2 : ¬ y < x := by rw [hxy] at *; omega
          simp [h1, h2]
        · by_cases h2 : y < x
          · simp [h1, h2]
          · simp [h1, h2, ih m]
  have eq : ∀ a b, Lib.compareBytes a b = 0 ↔ a = b := by
    intro a
    induction a with
    | nil => intro b; cases b <;> simp [Lib.compareBytes]
    | cons x l ih =>
      intro b
      cases b with
      | nil => simp [Lib.compareBytes]
      | cons y m =>
        simp only [Lib.compareBytes]
        have hxy : ∀ u v : UInt8, u < v ↔ u.toNat < v.toNat := fun u v => UInt8.lt_iff_toNat_lt
        by_cases h1 : x < y
        · rw [if_pos h1]
          constructor
          · intro h; omega
          · intro h; injection h with h _; subst h; rw [hxy] at h1; omega
        · by_cases h2 : y < x
          · rw [if_neg h1, if_pos h2]
            constructor
            · intro h; omega
            · intro h; injection h with h _; subst h; rw [hxy] at h2; omega
          · rw [if_neg h1, if_neg h2, ih m]
            have : x = y := by rw [hxy] at h1 h2; exact UInt8.toNat_inj.1 (by omega)
            simp [this]
  refine ⟨turn, eq, ?_, ?_⟩
  · intro a
    induction a with
    | nil => intro b c; cases b <;> cases c <;> simp [Lib.compareBytes]
    | cons x l ih =>
      intro b c
      cases b with
      | nil => simp [Lib.compareBytes]
      | cons y m =>
        cases c with
        | nil => intro _ h; simp [Lib.compareBytes] at h
        | cons z n =>
          simp only [Lib.compareBytes]
          have hxy : ∀ u v : UInt8, u < v ↔ u.toNat < v.toNat := fun u v => UInt8.lt_iff_toNat_lt
          simp only [hxy]
          intro h1 h2
          by_cases a1 : x.toNat < y.toNat
          · by_cases a2 : y.toNat < z.toNat
            · rw [if_pos (by omega)]; decide
            · rw [if_neg a2] at h2
              by_cases a3 : z.toNat < y.toNat
              · rw [if_pos a3] at h2; omega
              · rw [if_pos (by omega)]; decide
          · rw [if_neg a1] at h1
            by_cases a4 : y.toNat < x.toNat
            · rw [if_pos a4] at h1; omega
            · rw [if_neg a4] at h1
              by_cases a2 : y.toNat < z.toNat
              · rw [if_pos (by omega)]; decide
              · rw [if_neg a2] at h2
                by_cases a3 : z.toNat < y.toNat
                · rw [if_pos a3] at h2; omega
                · rw [if_neg a3] at h2
                  rw [if_neg (by omega), if_neg (by omega)]
                  exact ih m n h1 h2
  · intro a
    induction a with
    | nil => intro b; cases b <;> simp [Lib.compareBytes]
    | cons x l ih =>
      intro b
      cases b with
      | nil => simp [Lib.compareBytes]
      | cons y m => simp only [Lib.compareBytes]; split <;> (try split) <;> first | simp | exact ih m

theorem orI_zero {a b : Int} : orI a b = 0 ↔ a = 0 ∧ b = 0 := by unfold orI; split <;> simp_all
theorem orI_neg (a b : Int) : orI (-a) (-b) = - orI a b := by
  unfold orI
  by_cases h : a = 0
  · simp [h]
  · rw [if_neg (by omega), if_neg h]

/-- One order ahead of another. -/
theorem orders_or {α β : Type} {f : α → α → Int} {g : β → β → Int} (hf : Orders f) (hg : Orders g) : Orders fun (x y : α × β) => orI (f x.1 y.1) (g x.2 y.2) where
  turn x y := by rw [hf.turn x.1 y.1, hg.turn x.2 y.2, orI_neg]
  eq x y := by rw [orI_zero, hf.eq, hg.eq]; constructor; exact fun h => Prod.ext h.1 h.2; rintro rfl; exact ⟨rfl, rfl⟩
  lt x y z h1 h2 := by
    unfold orI at *
    by_cases a1 : f x.1 y.1 = 0
    · rw [if_pos a1] at h1
      have e1 := (hf.eq _ _).1 a1
      rw [← e1] at h2
      by_cases a2 : f x.1 z.1 = 0
      · rw [if_pos a2] at h2 ⊢
        exact hg.lt _ _ _ h1 h2
      · rw [if_neg a2] at h2 ⊢
        exact h2
    · rw [if_neg a1] at h1
      by_cases a2 : f y.1 z.1 = 0
      · have e1 := (hf.eq _ _).1 a2
        rw [e1] at h1
        rw [if_neg (by omega)]; exact h1
      · rw [if_neg a2] at h2
        have := hf.lt _ _ _ h1 h2
        rw [if_neg (by omega)]; exact this
  three x y := by unfold orI; split; exact hg.three _ _; exact hf.three _ _

theorem orders_pull {α β : Type} {f : β → β → Int} (hf : Orders f) (k : α → β) (hk : ∀ a b, k a = k b → a = b) : Orders fun x y => f (k x) (k y) where
  turn x y := hf.turn _ _
  eq x y := by rw [hf.eq]; exact ⟨hk x y, fun h => by rw [h]⟩
  lt x y z := hf.lt _ _ _
  three x y := hf.three _ _

theorem orders_list {f : Str → Str → Int} (hf : Orders f) : Orders (cmpList f) where
  turn := by
    intro a
    induction a with
    | nil => intro b; cases b <;> simp [cmpList]
    | cons x l ih => intro b; cases b with
      | nil => simp [cmpList]
      | cons y m => simp only [cmpList]; rw [hf.turn x y, ih m, orI_neg]
  eq := by
    intro a
    induction a with
    | nil => intro b; cases b <;> simp [cmpList]
    | cons x l ih => intro b; cases b with
      | nil => simp [cmpList]
      | cons y m => simp only [cmpList]; rw [orI_zero, hf.eq, ih m]; simp
  lt := by
    intro a
    induction a with
    | nil => intro b c; cases b <;> cases c <;> simp [cmpList]
    | cons x l ih => intro b c; cases b with
      | nil => simp [cmpList]
      | cons y m => cases c with
        | nil => intro _ h; simp [cmpList] at h
        | cons z n =>
          simp only [cmpList]
          intro h1 h2
          unfold orI at *
          by_cases a1 : f x y = 0
          · rw [if_pos a1] at h1
            have e1 := (hf.eq _ _).1 a1
            rw [← e1] at h2
            by_cases a2 : f x z = 0
            · rw [if_pos a2] at h2 ⊢
              exact ih _ _ h1 h2
            · rw [if_neg a2] at h2 ⊢
              exact h2
          · rw [if_neg a1] at h1
            by_cases a2 : f y z = 0
            · have e1 := (hf.eq _ _).1 a2
              rw [e1] at h1
              rw [if_neg (by omega)]; exact h1
            · rw [if_neg a2] at h2
              have := hf.lt _ _ _ h1 h2
              rw [if_neg (by omega)]; exact this
  three := by
    intro a
    induction a with
    | nil => intro b; cases b <;> simp [cmpList]
    | cons x l ih => intro b; cases b with
      | nil => simp [cmpList]
      | cons y m => simp only [cmpList]; unfold orI; split; exact ih m; exact hf.three _ _

theorem orders_ids : Orders cmpIds := by
  have h := orders_pull (orders_or orders_nat (orders_or orders_nat orders_bytes)) (fun s : Str => ((if digitsB s then 0 else 1 : Nat), (if digitsB s then s.length else 0 : Nat), s)) (fun a b e => by simp only [Prod.mk.injEq] at e; exact e.2.2)
  have e : (fun x y : Str => (fun (x y : Nat × Nat × Str) => orI (cmpNat x.1 y.1) ((fun (x y : Nat × Str) => orI (cmpNat x.1 y.1) (Lib.compareBytes x.2 y.2)) x.2 y.2)) ((fun s : Str => ((if digitsB s then 0 else 1 : Nat), (if digitsB s then s.length else 0 : Nat), s)) x) ((fun s : Str => ((if digitsB s then 0 else 1 : Nat), (if digitsB s then s.length else 0 : Nat), s)) y)) = cmpIds := by
    funext x y
    unfold cmpIds
    cases hx : digitsB x <;> cases hy : digitsB y <;> (simp only [hx, hy, Bool.false_eq_true, if_false, if_true]; rfl)
  rw [← e]; exact h

theorem pieces_ne (c : UInt8) (l : Str) : pieces c l ≠ [] := by
  cases l with
  | nil => simp [pieces]
  | cons b l => unfold pieces; split; simp; split <;> simp

/-- The pieces with the byte between are the text. -/
def glue (c : UInt8) : List Str → Str
  | [] => []
  | [p] => p
  | p :: q :: ps => p ++ c :: glue c (q :: ps)
theorem glue_cons (c b : UInt8) (p : Str) (ps : List Str) : glue c ((b :: p) :: ps) = b :: glue c (p :: ps) := by cases ps <;> simp [glue]
theorem glue_pieces (c : UInt8) : ∀ l : Str, glue c (pieces c l) = l
  | [] => rfl
  | b :: l => by
    have ih := glue_pieces c l
    have hne := pieces_ne c l
    unfold pieces
    cases hp : pieces c l with
    | nil => exact absurd hp hne
    | cons p ps =>
      rw [hp] at ih
      split
      · rename_i h; subst h; simp [glue, ih]
      · simp only [glue_cons, ih]
theorem pieces_inj (c : UInt8) {a b : Str} (h : pieces c a = pieces c b) : a = b := by rw [← glue_pieces c a, h, glue_pieces]

theorem orders_pres : Orders cmpPres := by
  have hl := orders_pull (orders_list orders_ids) (pieces 46) (fun a b => pieces_inj 46)
  have h := orders_pull (orders_or orders_nat hl) (fun s : Str => ((if s = [] then 1 else 0 : Nat), s)) (fun a b e => by simp only [Prod.mk.injEq] at e; exact e.2)
  have e : (fun x y : Str => orI (cmpNat (if x = [] then 1 else 0) (if y = [] then 1 else 0)) (cmpList cmpIds (pieces 46 x) (pieces 46 y))) = cmpPres := by
    funext x y
    unfold cmpPres
    by_cases e : x = y
    · subst e; rw [if_pos rfl, (orders_list orders_ids).self, orders_nat.self]; rfl
    · rw [if_neg e]
      by_cases e1 : x = []
      · have : y ≠ [] := fun h => e (by rw [e1, h])
        simp [e1, this, cmpNat, orI]
      · by_cases e2 : y = [] <;> simp [e1, e2, cmpNat, orI]
  rw [← e]; exact h

theorem orders_ver : Orders cmpVer := by
  have h := orders_pull (orders_or (orders_or orders_nat (orders_or orders_nat orders_nat)) orders_pres) (fun v : Ver => ((v.a, v.b, v.c), v.pre)) (fun a b e => by cases a; cases b; simp_all)
  exact h

end Go.Proofs.YthcafeoamabkgaaGreatDoor

namespace Go.Proofs.YthcafeoamabkgaaGreatDoor

theorem digitB_iff (c : UInt8) : digitB c = true ↔ 48 ≤ c.toNat ∧ c.toNat ≤ 57 := by simp [digitB]

theorem numVal_append (s : Str) (c : UInt8) : numVal (s ++ [c]) = numVal s * 10 + (c.toNat - 48) := by simp [numVal]

theorem split_last (s : Str) (h : s ≠ []) : ∃ t c, s = t ++ [c] := ⟨s.dropLast, s.getLast h, (List.dropLast_concat_getLast h).symm⟩

/-- Digits without a zero ahead. -/
def Plain (s : Str) : Prop := s ≠ [] ∧ s.all digitB = true ∧ (1 < s.length → s.getD 0 0 ≠ 48)

theorem plain_of {s : Str} (h1 : digitsB s = true) (h2 : zeroAheadB s = false) : Plain s := by
  simp only [digitsB, Bool.and_eq_true, Bool.not_eq_true', List.isEmpty_eq_false_iff] at h1
  refine ⟨h1.1, h1.2, fun hl he => ?_⟩
  simp [zeroAheadB, hl] at h2
  exact h2 (by simpa using he)

theorem plain_digits : ∀ (n : Nat) (s : Str), s.length ≤ n → Plain s → Lib.decDigits (numVal s) = s ∧ (s.getD 0 0 ≠ 48 → 1 ≤ numVal s)
  | 0, s, hn, h => absurd (List.length_eq_zero_iff.1 (Nat.le_zero.1 hn)) h.1
  | n + 1, s, hn, h => by
    obtain ⟨t, c, rfl⟩ := split_last s h.1
    have hc : 48 ≤ c.toNat ∧ c.toNat ≤ 57 := by
      have := h.2.1
      rw [List.all_append] at this
      simp only [Bool.and_eq_true, List.all_cons, List.all_nil, Bool.and_true] at this
      exact (digitB_iff c).1 this.2
    have ec : UInt8.ofNat (48 + (c.toNat - 48)) = c := by
      have : 48 + (c.toNat - 48) = c.toNat := by omega
      rw [this]; exact UInt8.ofNat_toNat
    rw [numVal_append]
    by_cases ht : t = []
    · subst ht
      constructor
      · have e : numVal [] * 10 + (c.toNat - 48) = c.toNat - 48 := by simp [numVal]
        rw [e, Lib.decDigits, dif_pos (by omega), ec]; rfl
      · intro h0
        have : c.toNat ≠ 48 := fun e => h0 (by simp; exact UInt8.toNat_inj.1 e)
        omega
    · have hl : 1 < (t ++ [c]).length := by
        have := List.length_pos_iff.2 ht
        simp; omega
      have hd : (t ++ [c]).getD 0 0 = t.getD 0 0 := by
        obtain ⟨x, t', rfl⟩ := List.exists_cons_of_ne_nil ht
        rfl
      have h0 : t.getD 0 0 ≠ 48 := by rw [← hd]; exact h.2.2 hl
      have hall : t.all digitB = true := by
        have := h.2.1
        rw [List.all_append] at this
        simp only [Bool.and_eq_true] at this
        exact this.1
      obtain ⟨r1, r2⟩ := plain_digits n t (by simp at hn; omega) ⟨ht, hall, fun _ => h0⟩
      have r2 := r2 h0
      constructor
      · rw [Lib.decDigits, dif_neg (by omega)]
        have e1 : (numVal t * 10 + (c.toNat - 48)) / 10 = numVal t := by omega
        have e2 : (numVal t * 10 + (c.toNat - 48)) % 10 = c.toNat - 48 := by omega
        rw [e1, e2, r1, ec]
      · intro _; omega

theorem decDigits_numVal {s : Str} (h : Plain s) : Lib.decDigits (numVal s) = s := (plain_digits s.length s (Nat.le_refl _) h).1
theorem plain_numOk {s : Str} (h : numOk s = true) : Plain s := by
  simp only [numOk, Bool.and_eq_true, Bool.not_eq_true'] at h
  exact plain_of h.1.2 h.2
theorem numVal_inj {s t : Str} (h : numOk s = true) (h' : numOk t = true) (e : numVal s = numVal t) : s = t := by
  rw [← decDigits_numVal (plain_numOk h), e, decDigits_numVal (plain_numOk h')]

theorem numVal_lt : ∀ (n : Nat) (s : Str), s.length ≤ n → s.all digitB = true → numVal s < 10 ^ s.length
  | 0, s, hn, _ => by rw [List.length_eq_zero_iff.1 (Nat.le_zero.1 hn)]; decide
  | n + 1, s, hn, h => by
    by_cases hs : s = []
    · subst hs; decide
    · obtain ⟨t, c, rfl⟩ := split_last s hs
      rw [List.all_append] at h
      simp only [Bool.and_eq_true, List.all_cons, List.all_nil, Bool.and_true] at h
      have hc := (digitB_iff c).1 h.2
      have := numVal_lt n t (by simp at hn; omega) h.1
      rw [numVal_append]
      simp only [List.length_append, List.length_cons, List.length_nil, Nat.zero_add, Nat.pow_succ]
      omega
theorem numVal_le {s : Str} (h : numOk s = true) : numVal s ≤ 999999999 := by
  simp only [numOk, digitsB, Bool.and_eq_true, decide_eq_true_eq] at h
  have h1 := numVal_lt s.length s (Nat.le_refl _) h.1.2.2
  have h2 : 10 ^ s.length ≤ 10 ^ 9 := Nat.pow_le_pow_right (by decide) h.1.1
  have h3 : (10 : Nat) ^ 9 = 1000000000 := by decide
  omega

theorem decFrom_eq : ∀ (s : Str) (acc : Nat), s.all digitB = true → Lib.decFrom acc s = some (s.foldl (fun a c => a * 10 + (c.toNat - 48)) acc)
  | [], _, _ => rfl
  | c :: s, acc, h => by
    simp only [List.all_cons, Bool.and_eq_true] at h
    have hc := (digitB_iff c).1 h.1
    have e : Lib.digitVal c = some (c.toNat - 48) := by unfold Lib.digitVal; rw [if_pos hc]
    simp only [Lib.decFrom, e, List.foldl_cons]
    exact decFrom_eq s _ h.2
theorem atoi_digits {s : Str} (h : digitsB s = true) : Lib.atoi s = some (numVal s : Int) := by
  simp only [digitsB, Bool.and_eq_true, Bool.not_eq_true', List.isEmpty_eq_false_iff] at h
  obtain ⟨c, t, rfl⟩ := List.exists_cons_of_ne_nil h.1
  have hc := (digitB_iff c).1 (by have := h.2; simp only [List.all_cons, Bool.and_eq_true] at this; exact this.1)
  have n1 : (c == 45) = false := by simp; rintro rfl; revert hc; decide
  have n2 : (c == 43) = false := by simp; rintro rfl; revert hc; decide
  simp only [Lib.atoi, n1, n2, Bool.false_eq_true, if_false, Lib.decNat, List.isEmpty_cons]
  rw [decFrom_eq _ _ h.2]; rfl

/-! ### A numeral's digits -/

theorem digits_decDigits (u : Nat) : Plain (Lib.decDigits u) ∧ numVal (Lib.decDigits u) = u ∧ (1 ≤ u → (Lib.decDigits u).getD 0 0 ≠ 48) := by
  induction u using Nat.strongRecOn with
  | _ u ih =>
    by_cases h : u < 10
    · have e : Lib.decDigits u = [UInt8.ofNat (48 + u)] := by rw [Lib.decDigits, dif_pos h]
      have en : (UInt8.ofNat (48 + u)).toNat = 48 + u := by simp; omega
      rw [e]
      refine ⟨⟨by simp, by simp only [List.all_cons, List.all_nil, Bool.and_true, digitB_iff, en]; omega, by simp⟩, ?_, ?_⟩
      · simp only [numVal, List.foldl_cons, List.foldl_nil, en]; omega
      · intro h1 he
        have he : UInt8.ofNat (48 + u) = 48 := by simpa using he
        have := congrArg UInt8.toNat he
        rw [en] at this
        have h48 : (48 : UInt8).toNat = 48 := rfl
        omega
    · have e : Lib.decDigits u = Lib.decDigits (u / 10) ++ [UInt8.ofNat (48 + u % 10)] := by rw [Lib.decDigits, dif_neg h]
      have en : (UInt8.ofNat (48 + u % 10)).toNat = 48 + u % 10 := by simp; omega
      obtain ⟨p, v, z⟩ := ih (u / 10) (by omega)
      have z := z (by omega)
      have hd : (Lib.decDigits (u / 10) ++ [UInt8.ofNat (48 + u % 10)]).getD 0 0 = (Lib.decDigits (u / 10)).getD 0 0 := by
        obtain ⟨x, t', ht⟩ := List.exists_cons_of_ne_nil p.1
        rw [ht]; rfl
      rw [e]
      refine ⟨⟨by simp, ?_, fun _ => by rw [hd]; exact z⟩, ?_, fun _ => by rw [hd]; exact z⟩
      · rw [List.all_append, p.2.1]
        simp only [List.all_cons, List.all_nil, Bool.and_true, Bool.true_and, digitB_iff, en]; omega
      · rw [numVal_append, v, en]; omega

theorem decDigits_length {u : Nat} (h : u ≤ 999999999) : (Lib.decDigits u).length ≤ 9 := by
  have h1 := Lib.decDigits_eq u
  rw [h1]
  simp only [List.length_map, List.length_range]
  apply Classical.byContradiction
  intro hn
  have key : ∀ k u, u < 10 ^ (k + 1) → Lib.nDigits u ≤ k + 1 := by
    intro k
    induction k with
    | zero => intro u hu; rw [Lib.nDigits_small (by simpa using hu)]; exact Nat.le_refl _
    | succ k ih =>
      intro u hu
      by_cases hs : u < 10
      · rw [Lib.nDigits_small hs]; omega
      · rw [Lib.nDigits_big hs]
        have := ih (u / 10) (by rw [Nat.pow_succ] at hu ⊢; rw [Nat.pow_succ] at hu; omega)
        omega
  have := key 8 u (by have : (10 : Nat) ^ (8 + 1) = 1000000000 := by decide
                      omega)
  omega

theorem numOk_decDigits {u : Nat} (h : u ≤ 999999999) : numOk (Lib.decDigits u) = true := by
  obtain ⟨p, _, _⟩ := digits_decDigits u
  have h1 := decDigits_length h
  simp only [numOk, digitsB, zeroAheadB, Bool.and_eq_true, decide_eq_true_eq, Bool.not_eq_true', List.isEmpty_eq_false_iff, h1, p.1, p.2.1, true_and, ne_eq, not_false_eq_true, and_self]
  cases hd : decide (1 < (Lib.decDigits u).length) with
  | false => rfl
  | true => simp only [Bool.true_and, decide_eq_false_iff_not]; exact p.2.2 (of_decide_eq_true hd)

/-! ### A text cut in two -/

theorem ahead_behind (c : UInt8) (l : Str) (h : l.contains c = true) : l = ahead c l ++ c :: behind c l := by
  induction l with
  | nil => simp at h
  | cons b l ih =>
    by_cases e : b = c
    · subst e; simp [ahead, behind]
    · have h' : l.contains c = true := by
        simp only [List.contains_cons, Bool.or_eq_true, beq_iff_eq] at h
        rcases h with h | h
        · exact absurd h.symm e
        · exact h
      have hb : (b != c) = true := by simpa using e
      have := ih h'
      simp only [ahead, behind, List.takeWhile_cons, hb, if_true, List.dropWhile_cons, List.cons_append] at this ⊢
      rw [← this]
theorem ahead_none (c : UInt8) (l : Str) (h : l.contains c = false) : ahead c l = l ∧ behind c l = [] := by
  induction l with
  | nil => exact ⟨rfl, rfl⟩
  | cons b l ih =>
    simp only [List.contains_cons, Bool.or_eq_false_iff, beq_eq_false_iff_ne, ne_eq] at h
    have hb : (b != c) = true := by simpa using fun e => h.1 e.symm
    obtain ⟨h1, h2⟩ := ih h.2
    simp only [ahead, behind, List.takeWhile_cons, hb, if_true, List.dropWhile_cons] at h1 h2 ⊢
    exact ⟨by rw [h1], h2⟩
theorem not_mem_ahead (c : UInt8) (l : Str) : (ahead c l).contains c = false := by
  induction l with
  | nil => rfl
  | cons b l ih =>
    unfold ahead at ih ⊢
    rw [List.takeWhile_cons]
    split
    · rename_i h
      simp only [List.contains_cons, ih, Bool.or_false, beq_eq_false_iff_ne]
      intro e; rw [e] at h; simp at h
    · rfl
theorem ahead_of (c : UInt8) (a b : Str) (h : a.contains c = false) : ahead c (a ++ c :: b) = a ∧ behind c (a ++ c :: b) = b := by
  induction a with
  | nil => simp [ahead, behind]
  | cons x a ih =>
    simp only [List.contains_cons, Bool.or_eq_false_iff, beq_eq_false_iff_ne, ne_eq] at h
    have hb : (x != c) = true := by simpa using fun e => h.1 e.symm
    obtain ⟨h1, h2⟩ := ih h.2
    simp only [ahead, behind, List.cons_append, List.takeWhile_cons, hb, if_true, List.dropWhile_cons] at h1 h2 ⊢
    exact ⟨by rw [h1], h2⟩

theorem validPre_ne {s : Str} (h : validPreB s = true) : s ≠ [] := by rintro rfl; revert h; decide

theorem numsOf_inj {l m : List Str} {x : Nat × Nat × Nat} (h : numsOf l = some x) (h' : numsOf m = some x) : l = m := by
  unfold numsOf at h h'
  split at h
  · split at h'
    · split at h
      · split at h'
        · rename_i a b c a' b' c' h1 h2
          simp only [Bool.and_eq_true] at h1 h2
          injection h with h
          injection h' with h'
          rw [← h'] at h
          simp only [Prod.mk.injEq] at h
          rw [numVal_inj h1.1.1 h2.1.1 h.1, numVal_inj h1.1.2 h2.1.2 h.2.1, numVal_inj h1.2 h2.2 h.2.2]
        · cases h'
      · cases h
    · cases h'
  · cases h

theorem parseR_spec {rest : Str} {x : Ver} (h : parseR rest = some x) : numsOf (pieces 46 (ahead 45 rest)) = some (x.a, x.b, x.c) ∧ x.pre = behind 45 rest ∧ (rest.contains 45 = true → validPreB x.pre = true) ∧ (rest.contains 45 = false → x.pre = []) := by
  unfold parseR at h
  split at h
  · cases h
  · rename_i a b c hn
    split at h
    · cases h
    · rename_i hv
      injection h with h
      subst h
      refine ⟨hn, rfl, fun hc => ?_, fun hc => (ahead_none 45 rest hc).2⟩
      cases hb : validPreB (behind 45 rest) with
      | true => rfl
      | false => rw [hc, hb] at hv; exact absurd rfl hv

theorem parseR_inj {a b : Str} {x : Ver} (h : parseR a = some x) (h' : parseR b = some x) : a = b := by
  obtain ⟨n1, p1, v1, e1⟩ := parseR_spec h
  obtain ⟨n2, p2, v2, e2⟩ := parseR_spec h'
  have ha : ahead 45 a = ahead 45 b := pieces_inj 46 (numsOf_inj n1 n2)
  have hb : behind 45 a = behind 45 b := by rw [← p1, p2]
  cases ca : a.contains 45 with
  | true =>
    have cb : b.contains 45 = true := by
      cases cb : b.contains 45 with
      | true => rfl
      | false => exact absurd (e2 cb) (validPre_ne (v1 ca))
    rw [ahead_behind 45 a ca, ahead_behind 45 b cb, ha, hb]
  | false =>
    have cb : b.contains 45 = false := by
      cases cb : b.contains 45 with
      | false => rfl
      | true => exact absurd (e1 ca) (validPre_ne (v2 cb))
    rw [← (ahead_none 45 a ca).1, ← (ahead_none 45 b cb).1, ha]

theorem parseV_some {v : Str} {x : Ver} (h : parseV v = some x) : v.length ≤ 60 ∧ ∃ rest, v = 118 :: rest ∧ parseR rest = some x := by
  unfold parseV at h
  split at h
  · rename_i hl
    split at h
    · exact ⟨hl, _, rfl, h⟩
    · cases h
  · cases h
theorem parseV_inj {a b : Str} {x : Ver} (h : parseV a = some x) (h' : parseV b = some x) : a = b := by
  obtain ⟨_, r, rfl, hr⟩ := parseV_some h
  obtain ⟨_, s, rfl, hs⟩ := parseV_some h'
  rw [parseR_inj hr hs]

theorem orders_v : Orders cmpV where
  turn a b := by
    unfold cmpV
    cases ha : parseV a <;> cases hb : parseV b <;> simp
    · exact orders_bytes.turn _ _
    · exact orders_ver.turn _ _
  eq a b := by
    unfold cmpV
    cases ha : parseV a with
    | none =>
      cases hb : parseV b with
      | none => simp only; exact orders_bytes.eq a b
      | some y => simp only; constructor; intro h; omega; rintro rfl; rw [ha] at hb; cases hb
    | some x =>
      cases hb : parseV b with
      | none => simp only; constructor; intro h; omega; rintro rfl; rw [ha] at hb; cases hb
      | some y =>
        simp only
        rw [orders_ver.eq]
        constructor
        · rintro rfl; exact parseV_inj ha hb
        · rintro rfl; rw [ha] at hb; injection hb
  lt a b c := by
    unfold cmpV
    cases ha : parseV a <;> cases hb : parseV b <;> cases hc : parseV c <;> simp
    · exact orders_bytes.lt _ _ _
    · exact orders_ver.lt _ _ _
  three a b := by
    unfold cmpV
    cases ha : parseV a <;> cases hb : parseV b <;> simp
    · exact orders_bytes.three _ _
    · exact orders_ver.three _ _

end Go.Proofs.YthcafeoamabkgaaGreatDoor

namespace Go.Proofs.YthcafeoamabkgaaGreatDoor

theorem index_cons (b c : UInt8) (l : Str) : Lib.index (b :: l) [c] = if b = c then 0 else if Lib.index l [c] = -1 then -1 else Lib.index l [c] + 1 := by
  rw [Lib.index]
  by_cases h : b = c
  · subst h; simp [List.isPrefixOf]
  · have h' : ¬ c = b := fun e => h e.symm
    simp [List.isPrefixOf, h, h']

theorem index_contains (c : UInt8) : ∀ l : Str, (0 ≤ Lib.index l [c]) ↔ l.contains c = true
  | [] => by simp [Lib.index]
  | b :: l => by
    have ih := index_contains c l
    have hge := Lib.index_ge l [c]
    rw [index_cons]
    by_cases h : b = c
    · subst h; simp
    · have h' : ¬ c = b := fun e => h e.symm
      simp only [h, if_false, List.contains_cons, Bool.or_eq_true, beq_iff_eq, h', false_or]
      rw [← ih]
      split <;> omega

theorem contains_eq (c : UInt8) (l : Str) : Lib.contains l [c] = l.contains c := by
  unfold Lib.contains
  have := index_contains c l
  cases h : l.contains c with
  | true => rw [h] at this; simpa using this
  | false => rw [h] at this; simp only [decide_eq_false_iff_not]; intro h0; exact absurd (this.1 h0) (by decide)

theorem index_ahead (c : UInt8) : ∀ l : Str, l.contains c = true → Lib.index l [c] = ((ahead c l).length : Int)
  | [], h => by simp at h
  | b :: l, h => by
    rw [index_cons]
    by_cases e : b = c
    · subst e; simp [ahead]
    · have e' : ¬ c = b := fun x => e x.symm
      have h' : l.contains c = true := by simpa [e'] using h
      have ih := index_ahead c l h'
      have hb : (b != c) = true := by simpa using e
      rw [if_neg e, if_neg (by rw [ih]; omega), ih]
      simp [ahead, hb]

theorem cut_eq (c : UInt8) (l : Str) : Lib.cut l [c] = (ahead c l, behind c l, l.contains c) := by
  unfold Lib.cut
  cases h : l.contains c with
  | true =>
    rw [if_pos ((index_contains c l).2 h), index_ahead c l h]
    have e := ahead_behind c l h
    simp only [Int.toNat_natCast, List.length_cons, List.length_nil, Nat.zero_add, Prod.mk.injEq, and_true]
    have g1 : ∀ a b : Str, (a ++ c :: b).take a.length = a := fun a b => by simp
    have g2 : ∀ a b : Str, (a ++ c :: b).drop (a.length + 1) = b := fun a b => by rw [List.drop_append]; simp
    have h1 := g1 (ahead c l) (behind c l)
    have h2 := g2 (ahead c l) (behind c l)
    rw [← e] at h1 h2
    exact ⟨h1, h2⟩
  | false =>
    rw [if_neg (fun x => by have := (index_contains c l).1 x; rw [h] at this; cases this)]
    obtain ⟨h1, h2⟩ := ahead_none c l h
    rw [h1, h2]

theorem splitK_cons (b c : UInt8) (l : Str) (h : b ≠ c) : ∀ k, ∃ p ps, Lib.splitK [c] 0 k l = p :: ps ∧ Lib.splitK [c] 0 k (b :: l) = (b :: p) :: ps
  | 0 => ⟨l, [], rfl, rfl⟩
  | k + 1 => by
    have hge := Lib.index_ge l [c]
    simp only [Lib.splitK, index_cons, if_neg h]
    by_cases hm : Lib.index l [c] = -1
    · simp only [hm, if_true, beq_self_eq_true]
      exact ⟨l, [], rfl, rfl⟩
    · have e1 : (Lib.index l [c] == -1) = false := by simpa using hm
      have e2 : (Lib.index l [c] + 1 == -1) = false := by simp; omega
      simp only [if_neg hm, e1, e2, Bool.false_eq_true, if_false]
      have e3 : (Lib.index l [c] + 1).toNat = (Lib.index l [c]).toNat + 1 := by omega
      refine ⟨_, _, rfl, ?_⟩
      rw [e3]
      simp

theorem splitK_pieces (c : UInt8) : ∀ l : Str, Lib.splitK [c] 0 (Lib.count l [c]) l = pieces c l
  | [] => by rw [Lib.count_miss (by simp [Lib.index])]; rfl
  | b :: l => by
    have ih := splitK_pieces c l
    by_cases h : b = c
    · subst h
      rw [Lib.count_cons_eq, Nat.add_comm]
      simp only [Lib.splitK, index_cons, if_true]
      simp [pieces, ih]
    · rw [Lib.count_cons_ne b c l h]
      obtain ⟨p, ps, e1, e2⟩ := splitK_cons b c l h (Lib.count l [c])
      rw [e2]
      rw [ih] at e1
      simp [pieces, h, e1]

theorem splitB_pieces (c : UInt8) (s : ByteArray) : Lib.splitB (ba [c]) 0 (Lib.countB s (ba [c])) s = (pieces c s.data.toList).map ba := by
  have h := Lib.splitB_data (ba [c]) 0 (Lib.countB s (ba [c])) s
  have e : Lib.countB s (ba [c]) = Lib.count s.data.toList [c] := rfl
  rw [ba_data] at h
  rw [e] at h ⊢
  rw [splitK_pieces] at h
  rw [← h, List.map_map]
  have : (ba ∘ fun x : ByteArray => x.data.toList) = id := by funext x; exact ba_of x
  rw [this, List.map_id]

theorem pieces_length (c : UInt8) (l : Str) : (pieces c l).length = Lib.count l [c] + 1 := by
  have h := congrArg List.length (splitB_pieces c (ba l))
  rw [List.length_map, ba_data] at h
  rw [← h]
  exact Lib.splitB_all (ba [c]) (by rw [ba_size]; exact Nat.le_refl _) 0 _ _ rfl

theorem pieces_small (c : UInt8) : ∀ (l : Str) (p : Str), p ∈ pieces c l → p.length ≤ l.length
  | [], p, h => by simp [pieces] at h; simp [h]
  | b :: l, p, h => by
    have ih := pieces_small c l
    unfold pieces at h
    split at h
    · rcases List.mem_cons.1 h with rfl | h
      · simp
      · have := ih p h; simp; omega
    · split at h
      · simp at h; simp [h]
      · rename_i q qs e
        rcases List.mem_cons.1 h with rfl | h
        · have := ih q (by rw [e]; simp); simp; omega
        · have := ih p (by rw [e]; simp [h]); simp; omega

theorem pieces_free (c : UInt8) : ∀ (l : Str) (p : Str), p ∈ pieces c l → p.contains c = false
  | [], p, h => by simp [pieces] at h; simp [h]
  | b :: l, p, h => by
    have ih := pieces_free c l
    unfold pieces at h
    split at h
    · rcases List.mem_cons.1 h with rfl | h
      · rfl
      · exact ih p h
    · rename_i hb
      have hb' : ¬ c = b := fun e => hb e.symm
      split at h
      · simp at h; simp [h, hb']
      · rename_i q qs e
        rcases List.mem_cons.1 h with rfl | h
        · have := ih q (by rw [e]; simp)
          simpa [hb'] using this
        · exact ih p (by rw [e]; simp [h])

/-- A text at the last place of a byte. -/
def splitLast (c : UInt8) : Str → Option (Str × Str)
  | [] => none
  | b :: l => match splitLast c l with
    | some (f, t) => some (b :: f, t)
    | none => if b = c then some ([], l) else none

theorem splitLast_none {c : UInt8} : ∀ {l : Str}, splitLast c l = none ↔ l.contains c = false
  | [] => by simp [splitLast]
  | b :: l => by
    have ih := @splitLast_none c l
    rw [splitLast]
    cases h : splitLast c l with
    | some x =>
      have hc : l.contains c = true := by
        cases hc : l.contains c with
        | true => rfl
        | false => rw [ih.2 hc] at h; cases h
      obtain ⟨f, t⟩ := x
      simp only [List.contains_cons, hc, Bool.or_true]
      constructor <;> intro x <;> cases x
    | none =>
      have hc := ih.1 h
      simp only [List.contains_cons, hc, Bool.or_false]
      by_cases e : b = c
      · subst e; simp
      · have e' : ¬ c = b := fun x => e x.symm
        simp [e, e']

theorem splitLast_some {c : UInt8} : ∀ {l f t : Str}, splitLast c l = some (f, t) ↔ l = f ++ c :: t ∧ t.contains c = false
  | [], f, t => by simp [splitLast]
  | b :: l, f, t => by
    rw [splitLast]
    cases h : splitLast c l with
    | some x =>
      obtain ⟨f', t'⟩ := x
      have ih := (@splitLast_some c l f' t').1 h
      simp only [Option.some.injEq, Prod.mk.injEq]
      constructor
      · rintro ⟨rfl, rfl⟩; exact ⟨by rw [ih.1]; rfl, ih.2⟩
      · rintro ⟨e, hc⟩
        cases f with
        | nil =>
          simp only [List.nil_append, List.cons.injEq] at e
          have hl : l.contains c = true := by rw [ih.1]; simp
          rw [e.2, hc] at hl; cases hl
        | cons x f =>
          simp only [List.cons_append, List.cons.injEq] at e
          have := (@splitLast_some c l f t).2 ⟨e.2, hc⟩
          rw [h] at this
          simp only [Option.some.injEq, Prod.mk.injEq] at this
          exact ⟨by rw [e.1, this.1], this.2⟩
    | none =>
      have hc := splitLast_none.1 h
      by_cases e : b = c
      · subst e
        simp only [if_true, Option.some.injEq, Prod.mk.injEq]
        constructor
        · rintro ⟨rfl, rfl⟩; exact ⟨rfl, hc⟩
        · rintro ⟨e, hc'⟩
          cases f with
          | nil => simp only [List.nil_append, List.cons.injEq] at e; exact ⟨rfl, e.2⟩
          | cons x f =>
            simp only [List.cons_append, List.cons.injEq] at e
            rw [e.2] at hc; simp at hc
      · simp only [if_neg e]
        constructor
        · intro x; cases x
        · rintro ⟨e', _⟩
          cases f with
          | nil => simp only [List.nil_append, List.cons.injEq] at e'; exact absurd e'.1 e
          | cons x f =>
            simp only [List.cons_append, List.cons.injEq] at e'
            rw [e'.2] at hc; simp at hc

theorem getBang (l : Str) (j : Nat) (h : j < l.length) : ((ba l).data[j]!) = l[j] := by
  have : (ba l).data = l.toArray := rfl
  rw [this]
  simp [h]

theorem lastIx_eq (c : UInt8) (l : Str) : Lib.lastIndexByte (ba l) (c.toNat : Int) = match splitLast c l with | none => -1 | some (f, _) => (f.length : Int) := by
  have hs := Lib.lastIndexByte_spec (ba l) (c.toNat : Int)
  rw [ba_size] at hs
  cases h : splitLast c l with
  | none =>
    have hc := splitLast_none.1 h
    rcases hs with ⟨h1, _⟩ | ⟨i, hi, _, h3, _⟩
    · exact h1
    · exfalso
      rw [getBang l i hi] at h3
      have h3 : l[i] = c := UInt8.toNat_inj.1 (by omega)
      have : l.contains c = true := by rw [List.contains_iff_mem, ← h3]; exact List.getElem_mem hi
      rw [hc] at this; cases this
  | some x =>
    obtain ⟨f, t⟩ := x
    obtain ⟨e, hc⟩ := splitLast_some.1 h
    have hlen : l.length = f.length + (t.length + 1) := by rw [e]; simp
    have hf : l[f.length]'(by omega) = c := by simp [e]
    rcases hs with ⟨_, h2⟩ | ⟨i, hi, h2, h3, h4⟩
    · exfalso
      refine h2 f.length (by omega) ?_
      rw [getBang l _ (by omega), hf]
    · rw [h2]
      rw [getBang l i hi] at h3
      have h3 : l[i] = c := UInt8.toNat_inj.1 (by omega)
      have hle : ¬ i < f.length := by
        intro hlt
        refine h4 f.length hlt (by omega) ?_
        rw [getBang l _ (by omega), hf]
      by_cases he : i = f.length
      · simp [he]
      · exfalso
        have hge : f.length < i := by omega
        have hix : l[i] = t[i - f.length - 1]'(by omega) := by
          have : l[i]? = t[i - f.length - 1]? := by
            rw [e, List.getElem?_append_right (by omega)]
            have : i - f.length = (i - f.length - 1) + 1 := by omega
            rw [this, List.getElem?_cons_succ]
            simp
          rw [List.getElem?_eq_getElem hi, List.getElem?_eq_getElem (by omega)] at this
          exact Option.some.inj this
        have : t.contains c = true := by rw [List.contains_iff_mem, ← h3, hix]; exact List.getElem_mem _
        rw [hc] at this; cases this

end Go.Proofs.YthcafeoamabkgaaGreatDoor

namespace Go.Proofs.YthcafeoamabkgaaGreatDoor

def escC (c : UInt8) : Str := if upperB c then [33, UInt8.ofNat (c.toNat + 32)] else [c]
def escL (s : Str) : Str := s.flatMap escC
def unescL : Str → Option Str
  | [] => some []
  | c :: l =>
    if c = 33 then
      match l with
      | [] => none
      | d :: l => if lowerB d then (unescL l).map fun r => UInt8.ofNat (d.toNat - 32) :: r else none
    else (unescL l).map fun r => c :: r
/-- The text, and the error's number. -/
def escR (s : Str) : Str × Nat := if s.all plainB then (escL s, 0) else ([], 15)
def unescR (s : Str) : Str × Nat := if s.all escapedB then (match unescL s with | some r => (r, 0) | none => ([], 15)) else ([], 15)

theorem upper_lower {c : UInt8} (h : upperB c = true) : (UInt8.ofNat (c.toNat + 32)).toNat = c.toNat + 32 ∧ lowerB (UInt8.ofNat (c.toNat + 32)) = true ∧ UInt8.ofNat ((UInt8.ofNat (c.toNat + 32)).toNat - 32) = c := by
  simp only [upperB, Bool.and_eq_true, decide_eq_true_eq] at h
  have e : (UInt8.ofNat (c.toNat + 32)).toNat = c.toNat + 32 := by simp; omega
  refine ⟨e, by simp only [lowerB, e, Bool.and_eq_true, decide_eq_true_eq]; omega, ?_⟩
  rw [e, Nat.add_sub_cancel]
  exact UInt8.ofNat_toNat

theorem unescL_plain {c : UInt8} (h : c ≠ 33) (l : Str) : unescL (c :: l) = (unescL l).map fun r => c :: r := by cases l <;> simp [unescL, h]

theorem unesc_esc : ∀ s : Str, s.all plainB = true → unescL (escL s) = some s
  | [], _ => rfl
  | c :: s, h => by
    simp only [List.all_cons, Bool.and_eq_true] at h
    have ih := unesc_esc s h.2
    have hc : c ≠ 33 := by rintro rfl; have := h.1; revert this; decide
    have e : escL (c :: s) = escC c ++ escL s := rfl
    rw [e]
    unfold escC
    cases hu : upperB c with
    | true =>
      obtain ⟨_, h2, h3⟩ := upper_lower hu
      simp only [if_true, List.cons_append, List.nil_append, unescL, h2, ih, Option.map_some, h3]
    | false =>
      simp only [Bool.false_eq_true, if_false, List.cons_append, List.nil_append]
      rw [unescL_plain hc, ih]; rfl

theorem escaped_esc : ∀ s : Str, s.all plainB = true → (escL s).all escapedB = true
  | [], _ => rfl
  | c :: s, h => by
    simp only [List.all_cons, Bool.and_eq_true] at h
    have ih := escaped_esc s h.2
    have e : escL (c :: s) = escC c ++ escL s := rfl
    rw [e, List.all_append, ih, Bool.and_true]
    unfold escC
    cases hu : upperB c with
    | true =>
      obtain ⟨h1, _, _⟩ := upper_lower hu
      simp only [upperB, Bool.and_eq_true, decide_eq_true_eq] at hu
      have : escapedB (UInt8.ofNat (c.toNat + 32)) = true := by
        simp only [escapedB, asciiB, upperB, h1, Bool.and_eq_true, decide_eq_true_eq, Bool.not_eq_true', Bool.and_eq_false_iff, decide_eq_false_iff_not]
        omega
      simp only [if_true, List.all_cons, List.all_nil, this, Bool.and_true]
      decide
    | false =>
      simp only [Bool.false_eq_true, if_false, List.all_cons, List.all_nil, Bool.and_true]
      have h1 := h.1
      simp only [plainB, Bool.and_eq_true] at h1
      simp [escapedB, h1.1, hu]

theorem unescR_esc {s : Str} (h : s.all plainB = true) : unescR (escL s) = (s, 0) := by
  unfold unescR
  rw [if_pos (escaped_esc s h), unesc_esc s h]
theorem escL_inj {a b : Str} (ha : a.all plainB = true) (hb : b.all plainB = true) (h : escL a = escL b) : a = b := by
  have h1 := unesc_esc a ha
  rw [h, unesc_esc b hb] at h1
  exact (Option.some.inj h1).symm
theorem escL_length (s : Str) : (escL s).length ≤ 2 * s.length := by
  induction s with
  | nil => simp [escL]
  | cons c s ih =>
    have e : escL (c :: s) = escC c ++ escL s := rfl
    rw [e, List.length_append, List.length_cons]
    unfold escC
    split <;> simp <;> omega

/-! ### Paths -/

def elemB (may : UInt8 → Bool) (s : Str) : Bool := !s.isEmpty && s.all may && !Lib.hasPrefix s [46] && !Lib.hasSuffix s [46]
def elemsB (may : UInt8 → Bool) (p : Str) : Bool := (pieces 47 p).all (elemB may)
def hostOk (s : Str) : Bool := s.contains 46 && !Lib.hasPrefix s [45] && s.all hostB
def looksB (p : Str) : Bool :=
  match splitLast 47 p with
  | some (_, t) => Lib.hasPrefix t [118] && digitsB (t.drop 1)
  | none => false
def majorR (p : Str) : Str × Nat :=
  if looksB p then
    match splitLast 47 p with
    | some (f, t) => if numOk (t.drop 1) && decide (2 ≤ numVal (t.drop 1)) then (f, numVal (t.drop 1)) else (p, 0)
    | none => (p, 0)
  else (p, 0)
def pathR (p : Str) : Nat :=
  if 100 < p.length then 13
  else if !elemsB pathB p || !hostOk (ahead 47 p) then 9
  else if (majorR p).2 = 0 && looksB p then 10 else 0
def importR (p : Str) : Nat := if 100 < p.length then 13 else if elemsB importB p then 0 else 9
def partsR (v : Str) : Nat × Nat × Nat × Str × Bool :=
  match parseV v with
  | some x => (x.a, x.b, x.c, x.pre, true)
  | none => (0, 0, 0, [], false)
def matchesR (v p : Str) : Bool :=
  match parseV v with
  | none => false
  | some x => if (majorR p).2 = 0 then decide (x.a ≤ 1) else decide (x.a = (majorR p).2)
def checkR (p v : Str) : Nat :=
  if pathR p ≠ 0 then pathR p else if (parseV v).isNone then 8 else if matchesR v p then 0 else 10

/-! ### Pseudo-versions -/

/-- Two digits between two bounds. -/
def betw (lo hi : Nat) (s : Str) : Bool := decide (lo ≤ numVal s) && decide (numVal s ≤ hi)
def timeB (t : Str) : Bool :=
  decide (t.length = 14) && digitsB t && betw 1 12 ((t.drop 4).take 2) && betw 1 31 ((t.drop 6).take 2) && betw 0 23 ((t.drop 8).take 2) && betw 0 59 ((t.drop 10).take 2) && betw 0 59 ((t.drop 12).take 2)
def revB (r : Str) : Bool := decide (r.length = 12) && r.all hexB
def releaseL (a b c : Nat) : Str := 118 :: Lib.decDigits a ++ 46 :: Lib.decDigits b ++ 46 :: Lib.decDigits c
def frontR (major : Nat) (base : Str) : Option Str :=
  if base = [] then some (releaseL major 0 0 ++ [45])
  else match parseV base with
    | none => none
    | some x => if x.a = major then (if x.pre ≠ [] then some (base ++ [46, 48, 46]) else some (releaseL major x.b (x.c + 1) ++ [45, 48, 46])) else none
def pseudoR (major : Int) (base time rev : Str) : Str × Nat :=
  if major < 0 ∨ 999999999 < major then ([], 6)
  else if !timeB time || !revB rev then ([], 15)
  else match frontR major.toNat base with
    | none => ([], 8)
    | some f => if (parseV (f ++ time ++ 45 :: rev)).isSome then (f ++ time ++ 45 :: rev, 0) else ([], 8)

end Go.Proofs.YthcafeoamabkgaaGreatDoor

namespace Go.Proofs.YthcafeoamabkgaaGreatDoor

/-! ### Majors -/

theorem prefix_one {t : Str} {c : UInt8} (h : Lib.hasPrefix t [c] = true) : t = c :: t.drop 1 := by
  cases t with
  | nil => simp [Lib.hasPrefix] at h
  | cons b l =>
    simp [Lib.hasPrefix, List.isPrefixOf] at h
    simp [h]

theorem majorR_cases (p : Str) : ((majorR p).2 = 0 ∧ (majorR p).1 = p) ∨ (2 ≤ (majorR p).2 ∧ (majorR p).2 ≤ 999999999 ∧ p = (majorR p).1 ++ 47 :: 118 :: Lib.decDigits (majorR p).2 ∧ looksB p = true) := by
  unfold majorR
  cases hl : looksB p with
  | false => exact Or.inl ⟨rfl, rfl⟩
  | true =>
    simp only [if_true]
    unfold looksB at hl
    cases hs : splitLast 47 p with
    | none => rw [hs] at hl; cases hl
    | some x =>
      obtain ⟨f, t⟩ := x
      rw [hs] at hl
      simp only [Bool.and_eq_true] at hl
      simp only
      split
      · rename_i hn
        simp only [Bool.and_eq_true, decide_eq_true_eq] at hn
        refine Or.inr ⟨hn.2, numVal_le hn.1, ?_, trivial⟩
        obtain ⟨e, _⟩ := splitLast_some.1 hs
        rw [decDigits_numVal (plain_numOk hn.1), ← prefix_one hl.1]
        exact e
      · exact Or.inl ⟨rfl, rfl⟩

theorem path_import {p : Str} (h : pathR p = 0) : importR p = 0 := by
  unfold pathR at h
  unfold importR
  split at h
  · cases h
  · rename_i hl
    rw [if_neg hl]
    split at h
    · cases h
    · rename_i he
      have he : elemsB pathB p = true := by
        cases e : elemsB pathB p with
        | true => rfl
        | false => rw [e] at he; simp at he
      have : elemsB importB p = true := by
        unfold elemsB at he ⊢
        rw [List.all_eq_true] at he ⊢
        intro x hx
        have := he x hx
        unfold elemB at this ⊢
        simp only [Bool.and_eq_true] at this ⊢
        refine ⟨⟨⟨this.1.1.1, ?_⟩, this.1.2⟩, this.2⟩
        have h2 := this.1.1.2
        rw [List.all_eq_true] at h2 ⊢
        intro c hc
        unfold importB
        rw [h2 c hc]; rfl
      rw [this]; rfl

/-! ### Texts joined -/

theorem pieces_cons (c b : UInt8) (l : Str) : pieces c (b :: l) = if b = c then [] :: pieces c l else match pieces c l with | [] => [[b]] | p :: ps => (b :: p) :: ps := by rw [pieces]; rfl
theorem pieces_join (c : UInt8) : ∀ (a b : Str), pieces c (a ++ c :: b) = pieces c a ++ pieces c b
  | [], b => by simp [pieces]
  | x :: a, b => by
    have ih := pieces_join c a b
    have hne := pieces_ne c a
    rw [List.cons_append, pieces_cons, pieces_cons, ih]
    by_cases h : x = c
    · simp only [if_pos h]; rfl
    · simp only [if_neg h]
      cases hp : pieces c a with
      | nil => exact absurd hp hne
      | cons p ps => rfl
theorem pieces_one (c : UInt8) (a : Str) (h : a.contains c = false) : pieces c a = [a] := by
  induction a with
  | nil => rfl
  | cons x a ih =>
    simp only [List.contains_cons, Bool.or_eq_false_iff, beq_eq_false_iff_ne, ne_eq] at h
    unfold pieces
    rw [if_neg (fun e => h.1 e.symm), ih h.2]

theorem not_contains {p : UInt8 → Bool} {c : UInt8} {s : Str} (h : s.all p = true) (hc : p c = false) : s.contains c = false := by
  cases e : s.contains c with
  | false => rfl
  | true =>
    rw [List.contains_iff_mem] at e
    rw [List.all_eq_true.1 h c e] at hc; cases hc
theorem dec_free (u : Nat) {c : UInt8} (hc : digitB c = false) : (Lib.decDigits u).contains c = false := not_contains (digits_decDigits u).1.2.1 hc

theorem contains_append (c : UInt8) (a b : Str) : (a ++ b).contains c = (a.contains c || b.contains c) := by
  induction a with
  | nil => simp
  | cons x a ih => simp only [List.cons_append, List.contains_cons, ih, Bool.or_assoc]

/-- What a release reads as, a pre behind it. -/
theorem ahead_release (a b c : Nat) (r : Str) : ahead 45 ((releaseL a b c).drop 1 ++ 45 :: r) = (releaseL a b c).drop 1 ∧ behind 45 ((releaseL a b c).drop 1 ++ 45 :: r) = r := by
  apply ahead_of
  simp only [releaseL, List.cons_append, List.drop_succ_cons, List.drop_zero, contains_append, List.contains_cons, dec_free _ (show digitB 45 = false by decide)]
  decide

theorem pieces_release (a b c : Nat) : pieces 46 ((releaseL a b c).drop 1) = [Lib.decDigits a, Lib.decDigits b, Lib.decDigits c] := by
  have h : ∀ u, pieces 46 (Lib.decDigits u) = [Lib.decDigits u] := fun u => pieces_one 46 _ (dec_free u (by decide))
  have e : (releaseL a b c).drop 1 = Lib.decDigits a ++ 46 :: (Lib.decDigits b ++ 46 :: Lib.decDigits c) := by simp [releaseL]
  rw [e, pieces_join, pieces_join, h, h, h]; rfl

theorem numVal_dec (u : Nat) : numVal (Lib.decDigits u) = u := (digits_decDigits u).2.1

theorem numOk_dec {u : Nat} : numOk (Lib.decDigits u) = true ↔ u ≤ 999999999 := by
  constructor
  · intro h; have := numVal_le h; rwa [numVal_dec] at this
  · exact numOk_decDigits

theorem nums_release (a b c : Nat) : numsOf (pieces 46 ((releaseL a b c).drop 1)) = if a ≤ 999999999 ∧ b ≤ 999999999 ∧ c ≤ 999999999 then some (a, b, c) else none := by
  rw [pieces_release]
  simp only [numsOf, numVal_dec]
  by_cases h : a ≤ 999999999 ∧ b ≤ 999999999 ∧ c ≤ 999999999
  · rw [if_pos h, if_pos]
    simp only [Bool.and_eq_true]
    exact ⟨⟨numOk_dec.2 h.1, numOk_dec.2 h.2.1⟩, numOk_dec.2 h.2.2⟩
  · rw [if_neg h, if_neg]
    intro h'
    simp only [Bool.and_eq_true] at h'
    exact h ⟨numOk_dec.1 h'.1.1, numOk_dec.1 h'.1.2, numOk_dec.1 h'.2⟩

theorem release_cons (a b c : Nat) : releaseL a b c = 118 :: (releaseL a b c).drop 1 := rfl

theorem parse_release_pre {a b c : Nat} {r : Str} (hr : validPreB r = true) (hl : (releaseL a b c ++ 45 :: r).length ≤ 60) : parseV (releaseL a b c ++ 45 :: r) = if a ≤ 999999999 ∧ b ≤ 999999999 ∧ c ≤ 999999999 then some ⟨a, b, c, r⟩ else none := by
  obtain ⟨h1, h2⟩ := ahead_release a b c r
  have hc : ((releaseL a b c).drop 1 ++ 45 :: r).contains 45 = true := by rw [contains_append]; simp
  unfold parseV
  rw [if_pos hl]
  rw [release_cons, List.cons_append]
  simp only [parseR, h1, h2, nums_release, hc, hr]
  by_cases h : a ≤ 999999999 ∧ b ≤ 999999999 ∧ c ≤ 999999999
  · simp [h]
  · simp [h]

theorem release_length {a b c : Nat} (ha : a ≤ 999999999) (hb : b ≤ 999999999) (hc : c ≤ 999999999) : (releaseL a b c).length ≤ 30 := by
  have h1 := decDigits_length ha
  have h2 := decDigits_length hb
  have h3 := decDigits_length hc
  simp [releaseL]; omega

theorem parse_release {a b c : Nat} (ha : a ≤ 999999999) (hb : b ≤ 999999999) (hc : c ≤ 999999999) : parseV (releaseL a b c) = some ⟨a, b, c, []⟩ := by
  have hl := release_length ha hb hc
  have hn : ((releaseL a b c).drop 1).contains 45 = false := by
    simp only [releaseL, List.cons_append, List.drop_succ_cons, List.drop_zero, contains_append, List.contains_cons, dec_free _ (show digitB 45 = false by decide)]
    decide
  obtain ⟨h1, h2⟩ := ahead_none 45 _ hn
  unfold parseV
  rw [if_pos (by omega)]
  rw [release_cons]
  simp only [parseR, h1, h2, nums_release, hn]
  simp [ha, hb, hc]

/-- A version is its release, and its pre behind it. -/
theorem parse_form {v : Str} {x : Ver} (h : parseV v = some x) : x.a ≤ 999999999 ∧ x.b ≤ 999999999 ∧ x.c ≤ 999999999 ∧ v.length ≤ 60 ∧ ((x.pre = [] ∧ v = releaseL x.a x.b x.c) ∨ (validPreB x.pre = true ∧ v = releaseL x.a x.b x.c ++ 45 :: x.pre)) := by
  obtain ⟨hl, rest, rfl, hr⟩ := parseV_some h
  obtain ⟨n1, p1, v1, e1⟩ := parseR_spec hr
  have n2 := n1
  unfold numsOf at n1
  split at n1
  · rename_i x1 x2 x3 hp
    split at n1
    · rename_i hn
      simp only [Bool.and_eq_true] at hn
      simp only [Option.some.injEq, Prod.mk.injEq] at n1
      have l1 := numVal_le hn.1.1
      have l2 := numVal_le hn.1.2
      have l3 := numVal_le hn.2
      rw [n1.1] at l1; rw [n1.2.1] at l2; rw [n1.2.2] at l3
      have ha : ahead 45 rest = (releaseL x.a x.b x.c).drop 1 := by
        apply pieces_inj 46
        apply numsOf_inj n2
        rw [nums_release, if_pos ⟨l1, l2, l3⟩]
      refine ⟨l1, l2, l3, hl, ?_⟩
      cases hc : rest.contains 45 with
      | true =>
        refine Or.inr ⟨v1 hc, ?_⟩
        have := ahead_behind 45 rest hc
        rw [ha, ← p1] at this
        rw [release_cons, List.cons_append, ← this]
      | false =>
        refine Or.inl ⟨e1 hc, ?_⟩
        rw [release_cons, ← ha, (ahead_none 45 rest hc).1]
    · cases n1
  · cases n1

/-! ### Pseudo-versions -/

def stampL (time rev : Str) : Str := time ++ 45 :: rev

theorem timeB_spec {t : Str} (h : timeB t = true) : t.length = 14 ∧ t.all digitB = true := by
  simp only [timeB, digitsB, Bool.and_eq_true, decide_eq_true_eq] at h
  exact ⟨h.1.1.1.1.1.1, h.1.1.1.1.1.2.2⟩
theorem revB_spec {t : Str} (h : revB t = true) : t.length = 12 ∧ t.all hexB = true := by
  simp only [revB, Bool.and_eq_true, decide_eq_true_eq] at h
  exact h

theorem stamp_free {t r : Str} (ht : timeB t = true) (hr : revB r = true) : (stampL t r).contains 46 = false ∧ t.contains 45 = false := by
  have h1 := (timeB_spec ht).2
  have h2 := (revB_spec hr).2
  refine ⟨?_, not_contains h1 (by decide)⟩
  rw [stampL, contains_append, not_contains h1 (by decide), List.contains_cons, not_contains h2 (by decide)]
  decide

theorem stamp_valid {t r : Str} (ht : timeB t = true) (hr : revB r = true) : validIdB (stampL t r) = true := by
  have h1 := (timeB_spec ht).2
  have h2 := (revB_spec hr).2
  have hd : digitsB (stampL t r) = false := by
    unfold digitsB stampL
    rw [List.all_append, List.all_cons]
    have : digitB 45 = false := by decide
    rw [this]; simp
  unfold validIdB
  rw [hd]
  simp only [Bool.false_eq_true, if_false, Bool.and_eq_true, Bool.not_eq_true']
  refine ⟨by simp [stampL], ?_⟩
  have m1 : ∀ c, digitB c = true → identB c = true := fun c h => by simp [identB, h]
  have m2 : ∀ c, hexB c = true → identB c = true := fun c h => by
    simp only [hexB, Bool.or_eq_true, Bool.and_eq_true, decide_eq_true_eq] at h
    simp only [identB, letterB, lowerB, Bool.or_eq_true, Bool.and_eq_true, decide_eq_true_eq]
    rcases h with h | h
    · exact Or.inl (Or.inl h)
    · exact Or.inl (Or.inr (Or.inl ⟨h.1, by omega⟩))
  rw [stampL, List.all_append, List.all_cons, Bool.and_eq_true, Bool.and_eq_true]
  rw [List.all_eq_true] at h1 h2 ⊢
  refine ⟨fun c hc => m1 c (h1 c hc), by decide, ?_⟩
  rw [List.all_eq_true]
  exact fun c hc => m2 c (h2 c hc)

theorem stamp_pieces {t r : Str} (ht : timeB t = true) (hr : revB r = true) : pieces 46 (stampL t r) = [stampL t r] := pieces_one _ _ (stamp_free ht hr).1

def stampOf (pre : Str) : Str := match splitLast 46 pre with | some (_, t) => t | none => pre
def baseR (v : Str) (x : Ver) (stamp : Str) : Option Str :=
  if Lib.trimSuffix x.pre stamp = [] then (if x.b = 0 ∧ x.c = 0 then some [] else none)
  else if Lib.trimSuffix x.pre stamp = [48, 46] then (if x.c = 0 then none else some (releaseL x.a x.b (x.c - 1)))
  else if Lib.hasSuffix v (46 :: 48 :: 46 :: stamp) then some (Lib.trimSuffix v (46 :: 48 :: 46 :: stamp)) else none
/-- What Parts gives of whatever text, as a version. -/
def verOf (v : Str) : Ver := (parseV v).getD ⟨0, 0, 0, []⟩
def splitPR (v : Str) : Str × Str × Str × Bool :=
  if !timeB (ahead 45 (stampOf (verOf v).pre)) || !revB (behind 45 (stampOf (verOf v).pre)) then ([], [], [], false)
  else match baseR v (verOf v) (stampOf (verOf v).pre) with
    | none => ([], [], [], false)
    | some b => (b, ahead 45 (stampOf (verOf v).pre), behind 45 (stampOf (verOf v).pre), true)

theorem trim_append (a b : Str) : Lib.trimSuffix (a ++ b) b = a ∧ Lib.hasSuffix (a ++ b) b = true := by
  have h : Lib.hasSuffix (a ++ b) b = true := by
    unfold Lib.hasSuffix
    rw [List.isSuffixOf_iff_suffix]
    exact List.suffix_append a b
  refine ⟨?_, h⟩
  unfold Lib.trimSuffix
  rw [if_pos h]
  simp

theorem stampOf_join (a b : Str) (h : b.contains 46 = false) : stampOf (a ++ 46 :: b) = b := by
  unfold stampOf
  rw [(splitLast_some (c := 46)).2 ⟨rfl, h⟩]
theorem stampOf_one (b : Str) (h : b.contains 46 = false) : stampOf b = b := by
  unfold stampOf
  rw [splitLast_none.2 h]

theorem orI_pos {a b : Int} (h : a = 0) : orI a b = b := by unfold orI; rw [if_pos h]

theorem cmpList_longer {f : Str → Str → Int} (hf : Orders f) : ∀ (l : List Str) (x : Str) (m : List Str), cmpList f (l ++ x :: m) l = 1
  | [], _, _ => rfl
  | a :: l, x, m => by
    simp only [List.cons_append, cmpList]
    rw [orI_pos (hf.self a)]
    exact cmpList_longer hf l x m

theorem cmpNat_self (a : Nat) : cmpNat a a = 0 := orders_nat.self a

theorem below_next {x : Ver} (h : x.pre ≠ []) : cmpVer x ⟨x.a, x.b, x.c, []⟩ < 0 := by
  unfold cmpVer
  simp only [cmpNat_self]
  rw [orI_pos (by rfl)]
  unfold cmpPres
  rw [if_neg h, if_neg h, if_pos rfl]
  decide

theorem cmpV_of {a b : Str} {x y : Ver} (ha : parseV a = some x) (hb : parseV b = some y) : cmpV a b = cmpVer x y := by
  unfold cmpV; rw [ha, hb]

/-- What a made pseudo-version is: its parts, and what it is taken apart into. -/
theorem pseudo_holds {major : Int} {base time rev : Str} (h : (pseudoR major base time rev).2 = 0) :
    ∃ x, parseV (pseudoR major base time rev).1 = some x ∧ (x.a : Int) = major ∧ splitPR (pseudoR major base time rev).1 = (base, time, rev, true) ∧
      (base = [] ∨ 0 < cmpV (pseudoR major base time rev).1 base) ∧ cmpV (pseudoR major base time rev).1 (releaseL x.a x.b x.c) < 0 := by
  unfold pseudoR at h ⊢
  split at h
  · cases h
  · rename_i hm
    rw [if_neg hm]
    split at h
    · cases h
    · rename_i htr
      rw [if_neg htr]
      have ht : timeB time = true := by
        cases e : timeB time with
        | true => rfl
        | false => rw [e] at htr; simp at htr
      have hr : revB rev = true := by
        cases e : revB rev with
        | true => rfl
        | false => rw [e] at htr; simp at htr
      obtain ⟨f1, f2⟩ := stamp_free ht hr
      obtain ⟨a1, a2⟩ := ahead_of 45 time rev f2
      have sv := stamp_valid ht hr
      have sp := stamp_pieces ht hr
      have hs : ∀ f : Str, f ++ time ++ 45 :: rev = f ++ stampL time rev := fun f => by simp [stampL]
      have hne : stampL time rev ≠ [] := by simp [stampL]
      cases hf : frontR major.toNat base with
      | none => rw [hf] at h; cases h
      | some f =>
        rw [hf] at h
        simp only [hs] at h ⊢
        cases hv : parseV (f ++ stampL time rev) with
        | none => rw [hv] at h; cases h
        | some x =>
          simp only [Option.isSome_some, if_true]
          unfold frontR at hf
          have nx : x.pre ≠ [] → cmpV (f ++ stampL time rev) (releaseL x.a x.b x.c) < 0 := fun hp => by
            obtain ⟨l1, l2, l3, _, _⟩ := parse_form hv
            rw [cmpV_of hv (parse_release l1 l2 l3)]
            exact below_next hp
          split at hf
          · -- without a base
            rename_i hb
            injection hf with hf
            have hvp : validPreB (stampL time rev) = true := by unfold validPreB; rw [sp]; simp [sv]
            have e : f ++ stampL time rev = releaseL major.toNat 0 0 ++ 45 :: stampL time rev := by rw [← hf]; simp
            have hl := (parseV_some hv).1
            have hp := hv
            rw [e, parse_release_pre hvp (by rw [← e]; exact hl)] at hp
            split at hp
            · injection hp with hp
              refine ⟨x, hv, ?_, ?_, Or.inl hb, nx (by rw [← hp]; exact hne)⟩
              · rw [← hp]; simp only; omega
              · unfold splitPR
                have ev : verOf (f ++ stampL time rev) = x := by unfold verOf; rw [hv]; rfl
                have es : stampOf x.pre = stampL time rev := by rw [← hp]; exact stampOf_one _ f1
                rw [ev, es]
                simp only [stampL, a1, a2, ht, hr]
                have eb : baseR (f ++ (time ++ 45 :: rev)) x (time ++ 45 :: rev) = some [] := by
                  unfold baseR
                  have := (trim_append [] (time ++ 45 :: rev)).1
                  rw [List.nil_append] at this
                  rw [← hp]
                  simp only [stampL]
                  rw [if_pos this, if_pos (by simp)]
                rw [eb, hb]; rfl
            · cases hp
          · -- of a base
            rename_i hb
            cases hpb : parseV base with
            | none => rw [hpb] at hf; cases hf
            | some y =>
              rw [hpb] at hf
              simp only at hf
              obtain ⟨l1, l2, l3, l4, l5⟩ := parse_form hpb
              split at hf
              · rename_i hya
                split at hf
                · -- with a pre
                  rename_i hpre
                  injection hf with hf
                  have l5 : validPreB y.pre = true ∧ base = releaseL y.a y.b y.c ++ 45 :: y.pre := by
                    rcases l5 with l5 | l5
                    · exact absurd l5.1 hpre
                    · exact l5
                  have hq : pieces 46 (y.pre ++ 46 :: 48 :: 46 :: stampL time rev) = pieces 46 y.pre ++ [[48], stampL time rev] := by
                    have h2 := pieces_join 46 [48] (stampL time rev)
                    rw [sp] at h2
                    rw [pieces_join, show (48 :: 46 :: stampL time rev : Str) = [48] ++ 46 :: stampL time rev from rfl, h2]
                    rfl
                  have hvp : validPreB (y.pre ++ 46 :: 48 :: 46 :: stampL time rev) = true := by
                    have := l5.1
                    unfold validPreB at this ⊢
                    rw [hq, List.all_append, this]
                    simp only [List.all_cons, List.all_nil, sv, Bool.and_true, Bool.true_and]
                    decide
                  have e : f ++ stampL time rev = releaseL y.a y.b y.c ++ 45 :: (y.pre ++ 46 :: 48 :: 46 :: stampL time rev) := by rw [← hf, l5.2]; simp
                  have hl := (parseV_some hv).1
                  have hp := hv
                  rw [e, parse_release_pre hvp (by rw [← e]; exact hl), if_pos ⟨l1, l2, l3⟩] at hp
                  injection hp with hp
                  refine ⟨x, hv, ?_, ?_, Or.inr ?_, nx (by rw [← hp]; simp)⟩
                  · rw [← hp]; simp only; omega
                  · unfold splitPR
                    have ev : verOf (f ++ stampL time rev) = x := by unfold verOf; rw [hv]; rfl
                    have es : stampOf x.pre = stampL time rev := by
                      rw [← hp]
                      have := stampOf_join (y.pre ++ [46, 48]) (stampL time rev) f1
                      simpa using this
                    rw [ev, es]
                    simp only [stampL, a1, a2, ht, hr]
                    have eb : baseR (f ++ (time ++ 45 :: rev)) x (time ++ 45 :: rev) = some base := by
                      unfold baseR
                      have h1 := (trim_append (y.pre ++ [46, 48, 46]) (time ++ 45 :: rev)).1
                      have e1 : x.pre = (y.pre ++ [46, 48, 46]) ++ (time ++ 45 :: rev) := by rw [← hp]; simp [stampL]
                      have e2 : f ++ (time ++ 45 :: rev) = base ++ (46 :: 48 :: 46 :: (time ++ 45 :: rev)) := by rw [← hf]; simp
                      obtain ⟨t1, t2⟩ := trim_append base (46 :: 48 :: 46 :: (time ++ 45 :: rev))
                      rw [e1, h1, if_neg (by simp), if_neg ?_, e2, t2, t1]
                      · rfl
                      · intro hx
                        have := congrArg List.length hx
                        simp only [List.length_append, List.length_cons, List.length_nil] at this
                        omega
                    rw [eb]; rfl
                  · rw [cmpV_of hv hpb, ← hp]
                    unfold cmpVer
                    simp only [cmpNat_self]
                    rw [orI_pos (by rfl)]
                    unfold cmpPres
                    rw [if_neg ?_, if_neg (by simp), if_neg hpre, hq, cmpList_longer orders_ids]
                    · decide
                    · intro hx
                      have := congrArg List.length hx
                      simp only [List.length_append, List.length_cons] at this
                      omega
                · -- without a pre
                  rename_i hpre
                  have hpre : y.pre = [] := by simpa using hpre
                  injection hf with hf
                  have l5 : base = releaseL y.a y.b y.c := by
                    rcases l5 with l5 | l5
                    · exact l5.2
                    · exact absurd hpre (validPre_ne l5.1)
                  have hq : pieces 46 (48 :: 46 :: stampL time rev) = [[48], stampL time rev] := by
                    have h2 := pieces_join 46 [48] (stampL time rev)
                    rw [sp] at h2
                    exact h2
                  have hvp : validPreB (48 :: 46 :: stampL time rev) = true := by
                    unfold validPreB
                    rw [hq]
                    simp only [List.all_cons, List.all_nil, sv, Bool.and_true]
                    decide
                  have e : f ++ stampL time rev = releaseL major.toNat y.b (y.c + 1) ++ 45 :: (48 :: 46 :: stampL time rev) := by rw [← hf]; simp
                  have hl := (parseV_some hv).1
                  have hp := hv
                  rw [e, parse_release_pre hvp (by rw [← e]; exact hl)] at hp
                  split at hp
                  · injection hp with hp
                    refine ⟨x, hv, ?_, ?_, Or.inr ?_, nx (by rw [← hp]; simp)⟩
                    · rw [← hp]; simp only; omega
                    · unfold splitPR
                      have ev : verOf (f ++ stampL time rev) = x := by unfold verOf; rw [hv]; rfl
                      have es : stampOf x.pre = stampL time rev := by
                        rw [← hp]
                        exact stampOf_join [48] (stampL time rev) f1
                      rw [ev, es]
                      simp only [stampL, a1, a2, ht, hr]
                      have eb : baseR (f ++ (time ++ 45 :: rev)) x (time ++ 45 :: rev) = some base := by
                        unfold baseR
                        have h1 := (trim_append [48, 46] (time ++ 45 :: rev)).1
                        have e1 : x.pre = [48, 46] ++ (time ++ 45 :: rev) := by rw [← hp]; simp [stampL]
                        rw [e1, h1, if_neg (by simp), if_pos rfl, ← hp, if_neg (by simp)]
                        simp only [Nat.add_sub_cancel]
                        rw [l5, ← hya]
                      rw [eb]; rfl
                    · rw [cmpV_of hv hpb, ← hp]
                      unfold cmpVer
                      simp only [hya, cmpNat_self]
                      have : cmpNat (y.c + 1) y.c = 1 := by unfold cmpNat; rw [if_neg (by omega), if_pos (by omega)]
                      rw [this]
                      simp [orI]
                  · cases hp
              · cases hf

end Go.Proofs.YthcafeoamabkgaaGreatDoor
