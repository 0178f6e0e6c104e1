/-
  A sum's form, by the signs and by base64: the same.
-/
import Derived.Test.YthcafeoamabkgaaGreatDoorB64X
import Derived.Test.YthcafeoamabkgaaGreatDoorSumP
namespace Go.Proofs.YthcafeoamabkgaaGreatDoor
open Go.RowKit

theorem b64_app : ∀ (k : Nat) (x y : Bs), x.length = 3 * k → b64 (x ++ y) = b64 x ++ b64 y
  | 0, x, y, h => by
    have : x = [] := List.length_eq_zero_iff.1 (by omega)
    subst this
    rfl
  | k + 1, x, y, h => by
    match x, h with
    | a :: b :: c :: r, h =>
      have hr : r.length = 3 * k := by simp at h; omega
      show grp [a, b, c] ++ b64 (r ++ y) = (grp [a, b, c] ++ b64 r) ++ b64 y
      rw [b64_app k r y hr, List.append_assoc]
    | [], h => simp at h
    | [_], h => simp at h; omega
    | [_, _], h => simp at h; omega

theorem let_pos {c : UInt8} {n : Nat} (h : posN c = some n) : letN n = c := by
  unfold posN at h
  obtain ⟨hlt, hp, _⟩ := List.findIdx?_eq_some_iff_getElem.1 h
  unfold letN
  rw [List.getD_eq_getElem?_getD, List.getElem?_eq_getElem hlt]
  simpa using hp

theorem index_pos (x : UInt8) : Lib.indexByte lettersB.data.toList x = match posN x with | some v => (v : Int) | none => -1 := by
  unfold posN
  generalize lettersB.data.toList = l
  induction l with
  | nil => rfl
  | cons b l ih =>
    unfold Lib.indexByte
    rw [List.findIdx?_cons]
    cases h : b == x with
    | true => rfl
    | false =>
      simp only [Bool.false_eq_true, if_false]
      rw [ih]
      cases h2 : l.findIdx? (· == x) with
      | none => rfl
      | some v =>
        simp only [Option.map_some]
        have : ((v : Int) == -1) = false := by simp <;> omega
        rw [this]
        simp

theorem sign_pos (x : UInt8) : signAt x = match posN x with | some v => (v : Int) | none => -1 := index_pos x

theorem end_four {v : Nat} (h : v < 64) : endB (v : Int) = decide (v % 4 = 0) := by
  have : ∀ i : Fin 64, endB (i.1 : Int) = decide (i.1 % 4 = 0) := by decide +kernel
  exact this ⟨v, h⟩

theorem last_snoc (x : UInt8) : ∀ (c : Str) (z : Int), lastOf (c ++ [x]) z = if c.all (fun y => (posN y).isSome) then (match posN x with | some v => some (v : Int) | none => none) else none
  | [], z => by
    show (if signAt x < 0 then none else some (signAt x)) = _
    rw [sign_pos]
    cases posN x with
    | none => rfl
    | some v => simp <;> omega
  | y :: c, z => by
    show (if signAt y < 0 then none else lastOf (c ++ [x]) (signAt y)) = _
    rw [last_snoc x c, sign_pos]
    cases h : posN y with
    | none => simp [h]
    | some v =>
      simp only [List.all_cons, h, Option.isSome_some, Bool.true_and]
      rw [if_neg (by omega)]

/-- The form of a sum behind its head. -/
def SumForm (t : Str) : Prop := ∃ c r, t = c ++ [r] ++ [61] ∧ c.length = 42 ∧ c.all (fun y => (posN y).isSome) = true ∧ ∃ v, posN r = some v ∧ v % 4 = 0

theorem sum_form (s : Str) : sumB s = true ↔ ∃ t, s = headL ++ t ∧ SumForm t := by
  constructor
  · intro h
    unfold sumB at h
    simp only [Bool.and_eq_true, decide_eq_true_eq] at h
    obtain ⟨⟨⟨h1, h2⟩, h3⟩, h4⟩ := h
    unfold Lib.hasPrefix at h1
    obtain ⟨t, ht⟩ := List.isPrefixOf_iff_prefix.1 h1
    have ep : Lib.trimPrefix s headL = t := by
      unfold Lib.trimPrefix Lib.hasPrefix
      rw [if_pos h1, ← ht]
      simp
    rw [ep] at h2 h3 h4
    have h2' := h2
    unfold Lib.hasSuffix at h2
    obtain ⟨u, hu⟩ := List.isSuffixOf_iff_suffix.1 h2
    have es : Lib.trimSuffix t [61] = u := by
      unfold Lib.trimSuffix
      rw [if_pos h2', ← hu]
      simp
    rw [es] at h3 h4
    refine ⟨t, ht.symm, u.dropLast, u.getLast (by intro e; rw [e] at h3; simp at h3), by rw [List.dropLast_concat_getLast, hu], by simp; omega, ?_⟩
    have eu : u = u.dropLast ++ [u.getLast (by intro e; rw [e] at h3; simp at h3)] := (List.dropLast_concat_getLast _).symm
    generalize u.getLast _ = r at eu ⊢
    generalize u.dropLast = c at eu ⊢
    subst eu
    rw [last_snoc] at h4
    cases ha : c.all (fun y => (posN y).isSome) with
    | false => rw [ha] at h4; simp at h4
    | true =>
      rw [ha] at h4
      simp only [if_true] at h4
      cases hr : posN r with
      | none => rw [hr] at h4; simp at h4
      | some v =>
        rw [hr] at h4
        simp only [end_four (pos_lt hr), decide_eq_true_eq] at h4
        exact ⟨rfl, v, rfl, h4⟩
  · rintro ⟨t, rfl, c, r, rfl, hc, ha, v, hr, hv⟩
    have hp : Lib.hasPrefix (headL ++ (c ++ [r] ++ [61])) headL = true := List.isPrefixOf_iff_prefix.2 ⟨_, rfl⟩
    have ep : Lib.trimPrefix (headL ++ (c ++ [r] ++ [61])) headL = c ++ [r] ++ [61] := by
      unfold Lib.trimPrefix
      rw [if_pos hp]
      simp
    have hs : Lib.hasSuffix (c ++ [r] ++ [61]) [61] = true := List.isSuffixOf_iff_suffix.2 ⟨_, rfl⟩
    have es : Lib.trimSuffix (c ++ [r] ++ [61]) [61] = c ++ [r] := by
      unfold Lib.trimSuffix
      rw [if_pos hs]
      exact List.take_left' (by simp)
    unfold sumB
    rw [hp, ep, hs, es, last_snoc, ha, hr]
    simp only [if_true, Bool.true_and, end_four (pos_lt hr)]
    simp [hc, hv]

theorem grp_back {a b c d : UInt8} {p q r s : Nat} (h1 : posN a = some p) (h2 : posN b = some q) (h3 : posN c = some r) (h4 : posN d = some s) : grp (dec4 (num4 a b c d)) = [a, b, c, d] := by
  have l1 := pos_lt h1
  have l2 := pos_lt h2
  have l3 := pos_lt h3
  have l4 := pos_lt h4
  have e : num4 a b c d = ((p * 64 + q) * 64 + r) * 64 + s := by unfold num4 plc; rw [h1, h2, h3, h4]; rfl
  obtain ⟨n, hn⟩ : ∃ n, ((p * 64 + q) * 64 + r) * 64 + s = n := ⟨_, rfl⟩
  rw [e, hn]
  have en : num3 (UInt8.ofNat (n / 65536)) (UInt8.ofNat (n / 256 % 256)) (UInt8.ofNat (n % 256)) = n := by
    unfold num3
    rw [UInt8.toNat_ofNat', UInt8.toNat_ofNat', UInt8.toNat_ofNat']
    omega
  show lets (num3 (UInt8.ofNat (n / 65536)) (UInt8.ofNat (n / 256 % 256)) (UInt8.ofNat (n % 256))) 4 = _
  rw [en]
  show [letN (n / 262144 % 64), letN (n / 4096 % 64), letN (n / 64 % 64), letN (n % 64)] = _
  have a1 : n / 262144 % 64 = p := by omega
  have a2 : n / 4096 % 64 = q := by omega
  have a3 : n / 64 % 64 = r := by omega
  have a4 : n % 64 = s := by omega
  rw [a1, a2, a3, a4, let_pos h1, let_pos h2, let_pos h3, let_pos h4]

theorem isSome_get {o : Option Nat} (h : o.isSome = true) : ∃ v, o = some v := Option.isSome_iff_exists.1 h

theorem b64_back : ∀ (k : Nat) (c : Bs), c.length = 4 * k → c.all (fun y => (posN y).isSome) = true → b64 (decG c) = c
  | 0, c, h, _ => by
    have : c = [] := List.length_eq_zero_iff.1 (by omega)
    subst this
    rfl
  | k + 1, c, h, ha => by
    match c, h, ha with
    | a :: b :: c :: d :: r, h, ha =>
      simp only [List.all_cons, Bool.and_eq_true] at ha
      obtain ⟨h1, h2, h3, h4, h5⟩ := ha
      obtain ⟨p, e1⟩ := isSome_get h1
      obtain ⟨q, e2⟩ := isSome_get h2
      obtain ⟨s, e3⟩ := isSome_get h3
      obtain ⟨t, e4⟩ := isSome_get h4
      have ih := b64_back k r (by simp at h; omega) h5
      show b64 (dec4 (num4 a b c d) ++ decG r) = _
      rw [b64_app 1 _ _ (by rfl), ih]
      have := grp_back e1 e2 e3 e4
      show b64 (dec4 (num4 a b c d)) ++ r = _
      have e : b64 (dec4 (num4 a b c d)) = grp (dec4 (num4 a b c d)) ++ [] := rfl
      rw [e, this]
      rfl
    | [], h, _ => simp at h
    | [_], h, _ => simp at h; omega
    | [_, _], h, _ => simp at h; omega
    | [_, _, _], h, _ => simp at h; omega

theorem lets_all (n k : Nat) : (lets n k).all (fun y => (posN y).isSome) = true := by
  rw [List.all_eq_true]
  intro x hx
  have := List.mem_of_mem_take hx
  simp only [List.mem_cons, List.not_mem_nil, or_false] at this
  rcases this with rfl | rfl | rfl | rfl <;> rw [pos_let (Nat.mod_lt _ (by decide))] <;> rfl

theorem b64_all : ∀ (k : Nat) (b : Bs), b.length = 3 * k → (b64 b).all (fun y => (posN y).isSome) = true ∧ (b64 b).length = 4 * k
  | 0, b, h => by
    have : b = [] := List.length_eq_zero_iff.1 (by omega)
    subst this
    exact ⟨rfl, rfl⟩
  | k + 1, b, h => by
    match b, h with
    | x :: y :: z :: r, h =>
      obtain ⟨i1, i2⟩ := b64_all k r (by simp at h; omega)
      show (lets (num3 x y z) 4 ++ b64 r).all _ = true ∧ (lets (num3 x y z) 4 ++ b64 r).length = _
      rw [List.all_append, i1, lets_all, List.length_append, i2]
      refine ⟨rfl, ?_⟩
      show 4 + 4 * k = _
      omega
    | [], h => simp at h
    | [_], h => simp at h; omega
    | [_, _], h => simp at h; omega

theorem ref_form (t : Str) : (∃ b, fromL t = some b ∧ b.length = 32) ↔ SumForm t := by
  constructor
  · rintro ⟨b, hb, hl⟩
    have ht := from_some hb
    obtain ⟨b0, x, y, rfl, h0⟩ : ∃ b0 x y, b = b0 ++ [x, y] ∧ b0.length = 3 * 10 := by
      have e : b = b.take 30 ++ b.drop 30 := (List.take_append_drop 30 b).symm
      have hd : (b.drop 30).length = 2 := by rw [List.length_drop]; omega
      match hm : b.drop 30, hd with
      | [x, y], _ => exact ⟨b.take 30, x, y, by rw [hm] at e; exact e, by rw [List.length_take]; omega⟩
    obtain ⟨a1, a2⟩ := b64_all 10 b0 h0
    rw [b64_app 10 b0 [x, y] h0] at ht
    have hy := UInt8.toNat_lt y
    have z : (0 : UInt8).toNat = 0 := rfl
    refine ⟨b64 b0 ++ [letN (num3 x y 0 / 262144 % 64), letN (num3 x y 0 / 4096 % 64)], letN (num3 x y 0 / 64 % 64), ?_, by rw [List.length_append, a2]; rfl, ?_, num3 x y 0 / 64 % 64, pos_let (Nat.mod_lt _ (by decide)), ?_⟩
    · rw [← ht]
      show b64 b0 ++ (lets (num3 x y 0) 3 ++ [61]) = _
      simp [lets]
    · rw [List.all_append, a1]
      simp [pos_let (Nat.mod_lt _ (show 0 < 64 by decide))]
    · unfold num3
      rw [z]
      omega
  · rintro ⟨c, r, rfl, hc, ha, v, hr, hv⟩
    obtain ⟨c0, p, q, rfl, h0⟩ : ∃ c0 p q, c = c0 ++ [p, q] ∧ c0.length = 4 * 10 := by
      have e : c = c.take 40 ++ c.drop 40 := (List.take_append_drop 40 c).symm
      have hd : (c.drop 40).length = 2 := by rw [List.length_drop]; omega
      match hm : c.drop 40, hd with
      | [x, y], _ => exact ⟨c.take 40, x, y, by rw [hm] at e; exact e, by rw [List.length_take]; omega⟩
    rw [List.all_append, Bool.and_eq_true] at ha
    obtain ⟨h1, h2⟩ := ha
    simp only [List.all_cons, List.all_nil, Bool.and_true, Bool.and_eq_true] at h2
    obtain ⟨P, e1⟩ := isSome_get h2.1
    obtain ⟨Q, e2⟩ := isSome_get h2.2
    have l1 := pos_lt e1
    have l2 := pos_lt e2
    have l3 := pos_lt hr
    have hne : r ≠ 61 := by rw [← let_pos hr]; exact let_ne l3
    have et : c0 ++ [p, q] ++ [r] ++ [61] = c0 ++ [p, q, r, 61] := by simp
    rw [et]
    obtain ⟨n, hn⟩ : ∃ n, ((P * 64 + Q) * 64 + v) * 64 = n := ⟨_, rfl⟩
    have en : num4 p q r 61 = n := by unfold num4; rw [plc_fill]; unfold plc; rw [e1, e2, hr, ← hn]; rfl
    have eu : unb [p, q, r, 61] = [UInt8.ofNat (n / 65536), UInt8.ofNat (n / 256 % 256)] := by
      have ef : fills [p, q, r, 61] = 1 := by
        unfold fills
        simp [hne]
      unfold unb
      rw [ef]
      show ((dec4 (num4 p q r 61) ++ []).take _) = _
      rw [en]
      rfl
    have eU : unb (c0 ++ [p, q, r, 61]) = decG c0 ++ [UInt8.ofNat (n / 65536), UInt8.ofNat (n / 256 % 256)] := by rw [unb_app h0 rfl, eu]
    have dl := decG_len 10 c0 h0
    have en3 : num3 (UInt8.ofNat (n / 65536)) (UInt8.ofNat (n / 256 % 256)) 0 = n := by
      unfold num3
      rw [UInt8.toNat_ofNat', UInt8.toNat_ofNat', show (0 : UInt8).toNat = 0 from rfl]
      omega
    refine ⟨_, from_is (b := unb (c0 ++ [p, q, r, 61])) ?_, by rw [eU, List.length_append, dl]; rfl⟩
    rw [eU, b64_app 10 _ _ dl, b64_back 10 c0 h0 h1]
    show c0 ++ (lets (num3 (UInt8.ofNat (n / 65536)) (UInt8.ofNat (n / 256 % 256)) 0) 3 ++ [61]) = _
    rw [en3]
    have a1 : n / 262144 % 64 = P := by omega
    have a2 : n / 4096 % 64 = Q := by omega
    have a3 : n / 64 % 64 = v := by omega
    show c0 ++ ([letN (n / 262144 % 64), letN (n / 4096 % 64), letN (n / 64 % 64)] ++ [61]) = _
    rw [a1, a2, a3, let_pos e1, let_pos e2, let_pos hr]
    rfl

/-- By base64. -/
theorem sum_ref {s : Str} (_h : s.length = 47) (hp : s.take 3 = headL) : sumB s = (decide ((if (fromL (s.drop 3)).isSome then (0 : Int) else 15) = 0) && decide (((fromL (s.drop 3)).getD []).length = 32)) := by
  have es : s = headL ++ s.drop 3 := by rw [← hp, List.take_append_drop]
  rw [Bool.eq_iff_iff, sum_form, Bool.and_eq_true, decide_eq_true_eq, decide_eq_true_eq]
  have key := ref_form (s.drop 3)
  constructor
  · rintro ⟨t, e, hf⟩
    have : s.drop 3 = t := by rw [e]; rfl
    rw [← this] at hf
    obtain ⟨b, h1, h2⟩ := key.2 hf
    rw [h1]
    exact ⟨rfl, h2⟩
  · rintro ⟨h1, h2⟩
    cases hb : fromL (s.drop 3) with
    | none => rw [hb] at h1; simp at h1
    | some b =>
      rw [hb] at h2
      exact ⟨_, es, key.1 ⟨b, hb, h2⟩⟩

theorem sum_long {s : Str} (h : ¬ s.length = 47) : sumB s = false := by
  rw [Bool.eq_false_iff]
  intro h1
  obtain ⟨t, rfl, c, r, rfl, hc, _⟩ := (sum_form s).1 h1
  apply h
  simp [hc, headL]
theorem sum_head {s : Str} (h : ¬ s.take 3 = headL) : sumB s = false := by
  rw [Bool.eq_false_iff]
  intro h1
  obtain ⟨t, rfl, _⟩ := (sum_form s).1 h1
  exact h rfl

end Go.Proofs.YthcafeoamabkgaaGreatDoor
