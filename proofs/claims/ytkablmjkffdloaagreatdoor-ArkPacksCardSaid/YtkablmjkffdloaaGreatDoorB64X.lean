/-
  Base64 is read back.
-/
import Derived.Test.YtkablmjkffdloaaGreatDoorBas
namespace Go.Proofs.YtkablmjkffdloaaGreatDoor
open Go.RowKit

def lettersB : ByteArray := ⟨#[65, 66, 67, 68, 69, 70, 71, 72, 73, 74, 75, 76, 77, 78, 79, 80, 81, 82, 83, 84, 85, 86, 87, 88, 89, 90, 97, 98, 99, 100, 101, 102, 103, 104, 105, 106, 107, 108, 109, 110, 111, 112, 113, 114, 115, 116, 117, 118, 119, 120, 121, 122, 48, 49, 50, 51, 52, 53, 54, 55, 56, 57, 43, 47]⟩
/-- A letter. -/
def letN (n : Nat) : UInt8 := lettersB.data.toList.getD n 0
/-- Three bytes as a number. -/
def num3 (a b c : UInt8) : Nat := a.toNat * 65536 + b.toNat * 256 + c.toNat
/-- So many letters of a number. -/
def lets (n k : Nat) : Bs := ([letN (n / 262144 % 64), letN (n / 4096 % 64), letN (n / 64 % 64), letN (n % 64)]).take k
/-- One to three bytes as four letters. -/
def grp : Bs → Bs
  | [a] => lets (num3 a 0 0) 2 ++ [61, 61]
  | [a, b] => lets (num3 a b 0) 3 ++ [61]
  | [a, b, c] => lets (num3 a b c) 4
  | _ => []
/-- Bytes as letters. -/
def b64 : Bs → Bs
  | [] => []
  | [a] => grp [a]
  | [a, b] => grp [a, b]
  | a :: b :: c :: r => grp [a, b, c] ++ b64 r

theorem b64_app : ∀ (k : Nat) (x y : Bs), x.length = 3 * k → b64 (x ++ y) = b64 x ++ b64 y
  | 0, x, y, h => by
    have : x = [] := List.length_eq_zero_iff.1 (by omega)
    subst this
    rfl
  | k + 1, x, y, h => by
    match x, h with
    | a :: b :: c :: r, h =>
      have hr : r.length = 3 * k := by simp at h; omega
      show grp [a, b, c] ++ b64 (r ++ y) = (grp [a, b, c] ++ b64 r) ++ b64 y
      rw [b64_app k r y hr, List.append_assoc]
    | [], h => simp at h
    | [_], h => simp at h; omega
    | [_, _], h => simp at h; omega
theorem grp_len (g : Bs) (h1 : 1 ≤ g.length) (h3 : g.length ≤ 3) : (grp g).length = 4 := by
  match g, h1, h3 with
  | [a], _, _ => rfl
  | [a, b], _, _ => rfl
  | [a, b, c], _, _ => rfl
theorem b64_grp (g : Bs) (h1 : 1 ≤ g.length) (h3 : g.length ≤ 3) : b64 g = grp g := by
  match g, h1, h3 with
  | [a], _, _ => rfl
  | [a, b], _, _ => rfl
  | [a, b, c], _, _ => show grp [a, b, c] ++ [] = _; rw [List.append_nil]
/-- A group more. -/
theorem b64_next {b : Bs} {k i : Nat} (hi : i = 3 * k) (hlt : i < b.length) : b64 (b.take (i + 3)) = b64 (b.take i) ++ grp ((b.drop i).take 3) := by
  have e : b.take (i + 3) = b.take i ++ (b.drop i).take 3 := by rw [List.take_add]
  rw [e, b64_app k _ _ (by rw [List.length_take]; omega), b64_grp ((b.drop i).take 3) (by rw [List.length_take, List.length_drop]; omega) (by rw [List.length_take]; omega)]
theorem b64_len : ∀ (k : Nat) (b : Bs), b.length ≤ 3 * k → (b64 b).length ≤ 4 * k
  | 0, b, h => by
    have : b = [] := List.length_eq_zero_iff.1 (by omega)
    subst this
    exact Nat.le_refl _
  | k + 1, b, h => by
    match b, h with
    | [], _ => exact Nat.zero_le _
    | [a], _ => show (grp [a]).length ≤ _; rw [grp_len _ (by simp) (by simp)]; omega
    | [a, b], _ => show (grp [a, b]).length ≤ _; rw [grp_len _ (by simp) (by simp)]; omega
    | a :: b :: c :: r, h =>
      have := b64_len k r (by simp at h; omega)
      show (grp [a, b, c] ++ b64 r).length ≤ _
      rw [List.length_append, grp_len _ (by simp) (by simp)]
      omega

/-! ### Letters read -/
/-- Where a letter stands. -/
def posN (c : UInt8) : Option Nat := lettersB.data.toList.findIdx? (· == c)
theorem pos_let {n : Nat} (h : n < 64) : posN (letN n) = some n := by
  have : ∀ i : Fin 64, posN (letN i.1) = some i.1 := by decide +kernel
  exact this ⟨n, h⟩
theorem let_ne {n : Nat} (h : n < 64) : letN n ≠ 61 := by
  have : ∀ i : Fin 64, letN i.1 ≠ 61 := by decide +kernel
  exact this ⟨n, h⟩
theorem pos_lt {c : UInt8} {n : Nat} (h : posN c = some n) : n < 64 := by
  unfold posN at h
  have h2 := (List.findIdx?_eq_some_iff_getElem.1 h).1
  exact h2

/-- A reading on the way: what has been read, the bits that wait, how many. -/
structure Rd where
  out : Bs
  r : Nat
  k : Nat
/-- A letter more. -/
def Rd.next (s : Rd) (v : Nat) : Rd :=
  if 2 ≤ s.k then ⟨s.out ++ [UInt8.ofNat ((s.r * 64 + v) / 2 ^ (s.k - 2))], (s.r * 64 + v) % 2 ^ (s.k - 2), s.k - 2⟩ else ⟨s.out, s.r * 64 + v, s.k + 6⟩
/-- Letters read one behind the other. -/
def Rd.all : Rd → Bs → Option Rd
  | s, [] => some s
  | s, c :: l => match posN c with
    | none => none
    | some v => Rd.all (s.next v) l

theorem Rd.all_app : ∀ (l m : Bs) (s : Rd), Rd.all s (l ++ m) = (Rd.all s l).bind fun t => Rd.all t m
  | [], m, s => rfl
  | c :: l, m, s => by
    show (match posN c with | none => none | some v => Rd.all (s.next v) (l ++ m)) = (match posN c with | none => none | some v => Rd.all (s.next v) l).bind fun t => Rd.all t m
    cases posN c with
    | none => rfl
    | some v => exact Rd.all_app l m (s.next v)
theorem Rd.all_lets {s : Rd} {n k : Nat} (hk : k ≤ 4) : Rd.all s (lets n k) = some (([n / 262144 % 64, n / 4096 % 64, n / 64 % 64, n % 64].take k).foldl Rd.next s) := by
  have p1 := pos_let (n := n / 262144 % 64) (Nat.mod_lt _ (by decide))
  have p2 := pos_let (n := n / 4096 % 64) (Nat.mod_lt _ (by decide))
  have p3 := pos_let (n := n / 64 % 64) (Nat.mod_lt _ (by decide))
  have p4 := pos_let (n := n % 64) (Nat.mod_lt _ (by decide))
  have : k = 0 ∨ k = 1 ∨ k = 2 ∨ k = 3 ∨ k = 4 := by omega
  rcases this with rfl | rfl | rfl | rfl | rfl <;> simp [lets, Rd.all, p1, p2, p3, p4]
theorem ofNat_toNat {a : UInt8} {n : Nat} (h : n = a.toNat) : UInt8.ofNat n = a := by rw [h]; simp
theorem rd_three (o : Bs) (a b c : UInt8) : Rd.all ⟨o, 0, 0⟩ (lets (num3 a b c) 4) = some ⟨o ++ [a, b, c], 0, 0⟩ := by
  have ha := UInt8.toNat_lt a
  have hb := UInt8.toNat_lt b
  have hc := UInt8.toNat_lt c
  rw [Rd.all_lets (by omega)]
  simp only [List.take_succ_cons, List.take_zero, List.foldl_cons, List.foldl_nil, Rd.next, num3]
  obtain ⟨n, hn⟩ : ∃ n, a.toNat * 65536 + b.toNat * 256 + c.toNat = n := ⟨_, rfl⟩
  rw [hn]
  simp only [show ¬ (2 ≤ 0) by decide, if_false, show 2 ≤ 0 + 6 by decide, if_true, show 2 ≤ 0 + 6 - 2 by decide, show 2 ≤ 0 + 6 - 2 - 2 by decide, show 0 + 6 - 2 = 4 from rfl, show 0 + 6 - 2 - 2 = 2 from rfl, show 0 + 6 - 2 - 2 - 2 = 0 from rfl]
  rw [ofNat_toNat (a := a) (by omega), ofNat_toNat (a := b) (by omega), ofNat_toNat (a := c) (by omega)]
  simp [List.append_assoc]
  omega
theorem rd_two (o : Bs) (a b : UInt8) : ∃ r, Rd.all ⟨o, 0, 0⟩ (lets (num3 a b 0) 3) = some ⟨o ++ [a, b], r, 2⟩ := by
  have ha := UInt8.toNat_lt a
  have hb := UInt8.toNat_lt b
  rw [Rd.all_lets (by omega)]
  have z : (0 : UInt8).toNat = 0 := rfl
  simp only [List.take_succ_cons, List.take_zero, List.foldl_cons, List.foldl_nil, Rd.next, num3, z]
  obtain ⟨n, hn⟩ : ∃ n, a.toNat * 65536 + b.toNat * 256 + 0 = n := ⟨_, rfl⟩
  rw [hn]
  simp only [show ¬ (2 ≤ 0) by decide, if_false, show 2 ≤ 0 + 6 by decide, if_true, show 2 ≤ 0 + 6 - 2 by decide, show 0 + 6 - 2 = 4 from rfl, show 0 + 6 - 2 - 2 = 2 from rfl]
  rw [ofNat_toNat (a := a) (by omega), ofNat_toNat (a := b) (by omega)]
  exact ⟨_, by simp [List.append_assoc]; rfl⟩
theorem rd_one (o : Bs) (a : UInt8) : ∃ r, Rd.all ⟨o, 0, 0⟩ (lets (num3 a 0 0) 2) = some ⟨o ++ [a], r, 4⟩ := by
  have ha := UInt8.toNat_lt a
  rw [Rd.all_lets (by omega)]
  have z : (0 : UInt8).toNat = 0 := rfl
  simp only [List.take_succ_cons, List.take_zero, List.foldl_cons, List.foldl_nil, Rd.next, num3, z]
  obtain ⟨n, hn⟩ : ∃ n, a.toNat * 65536 + 0 * 256 + 0 = n := ⟨_, rfl⟩
  rw [hn]
  simp only [show ¬ (2 ≤ 0) by decide, if_false, show 2 ≤ 0 + 6 by decide, if_true, show 0 + 6 - 2 = 4 from rfl]
  rw [ofNat_toNat (a := a) (by omega)]
  exact ⟨_, rfl⟩

/-- What is written is read back, but for what is laid behind it. -/
theorem rd_back : ∀ (k : Nat) (b o : Bs), b.length ≤ 3 * k → ∃ (l : Bs) (z : Nat) (r q : Nat), b64 b = l ++ List.replicate z 61 ∧ z ≤ 2 ∧ (∀ c ∈ l, c ≠ 61) ∧ Rd.all ⟨o, 0, 0⟩ l = some ⟨o ++ b, r, q⟩
  | 0, b, o, h => by
    have : b = [] := List.length_eq_zero_iff.1 (by omega)
    subst this
    exact ⟨[], 0, 0, 0, rfl, by omega, (fun c hc => by cases hc), (by simp [Rd.all])⟩
  | k + 1, b, o, h => by
    have hl : ∀ n j, ∀ c ∈ lets n j, c ≠ 61 := fun n j c hc => by
      have := List.mem_of_mem_take hc
      simp only [List.mem_cons, List.not_mem_nil, or_false] at this
      rcases this with rfl | rfl | rfl | rfl <;> exact let_ne (Nat.mod_lt _ (by decide))
    match b, h with
    | [], _ => exact ⟨[], 0, 0, 0, rfl, by omega, (fun c hc => by cases hc), (by simp [Rd.all])⟩
    | [a], _ =>
      obtain ⟨r, hr⟩ := rd_one o a
      exact ⟨lets (num3 a 0 0) 2, 2, r, 4, rfl, by omega, hl _ _, hr⟩
    | [a, b], _ =>
      obtain ⟨r, hr⟩ := rd_two o a b
      exact ⟨lets (num3 a b 0) 3, 1, r, 2, rfl, by omega, hl _ _, hr⟩
    | a :: b :: c :: t, h =>
      obtain ⟨l, z, r, q, h1, h2, h3, h4⟩ := rd_back k t (o ++ [a, b, c]) (by simp at h; omega)
      refine ⟨lets (num3 a b c) 4 ++ l, z, r, q, ?_, h2, fun x hx => ?_, ?_⟩
      · show lets (num3 a b c) 4 ++ b64 t = _
        rw [h1, List.append_assoc]
      · rcases List.mem_append.1 hx with e | e
        · exact hl _ _ x e
        · exact h3 x e
      · rw [Rd.all_app, rd_three]
        show Rd.all ⟨o ++ [a, b, c], 0, 0⟩ l = _
        rw [h4]
        simp
end Go.Proofs.YtkablmjkffdloaaGreatDoor

namespace Go.Proofs.YtkablmjkffdloaaGreatDoor
open Go.RowKit

/-- A letter's place; of what is none: 0. -/
def plc (c : UInt8) : Nat := (posN c).getD 0
theorem plc_let {n : Nat} (h : n < 64) : plc (letN n) = n := by unfold plc; rw [pos_let h]; rfl
theorem plc_fill : plc 61 = 0 := by decide +kernel
theorem plc_lt (c : UInt8) : plc c < 64 := by
  unfold plc
  cases h : posN c with
  | none => decide
  | some n => exact pos_lt h
/-- Four letters as three bytes. -/
def num4 (a b c d : UInt8) : Nat := ((plc a * 64 + plc b) * 64 + plc c) * 64 + plc d
def dec4 (n : Nat) : Bs := [UInt8.ofNat (n / 65536), UInt8.ofNat (n / 256 % 256), UInt8.ofNat (n % 256)]
def decG : Bs → Bs
  | a :: b :: c :: d :: r => dec4 (num4 a b c d) ++ decG r
  | _ => []
/-- How many signs are laid behind it, no more than two. -/
def fills (s : Bs) : Nat := if s.getLast? = some 61 then (if s.dropLast.getLast? = some 61 then 2 else 1) else 0
/-- Letters as bytes. -/
def unb (s : Bs) : Bs := (decG s).take ((decG s).length - fills s)
/-- The bytes whose letters a text is. -/
def fromL (s : Bs) : Option Bs := if b64 (unb s) = s then some (unb s) else none

theorem decG_app : ∀ (k : Nat) (x y : Bs), x.length = 4 * k → decG (x ++ y) = decG x ++ decG y
  | 0, x, y, h => by
    have : x = [] := List.length_eq_zero_iff.1 (by omega)
    subst this
    rfl
  | k + 1, x, y, h => by
    match x, h with
    | a :: b :: c :: d :: r, h =>
      have hr : r.length = 4 * k := by simp at h; omega
      show dec4 (num4 a b c d) ++ decG (r ++ y) = (dec4 (num4 a b c d) ++ decG r) ++ decG y
      rw [decG_app k r y hr, List.append_assoc]
    | [], h => simp at h
    | [_], h => simp at h; omega
    | [_, _], h => simp at h; omega
    | [_, _, _], h => simp at h; omega
theorem decG_len : ∀ (k : Nat) (x : Bs), x.length = 4 * k → (decG x).length = 3 * k
  | 0, x, h => by
    have : x = [] := List.length_eq_zero_iff.1 (by omega)
    subst this
    rfl
  | k + 1, x, h => by
    match x, h with
    | a :: b :: c :: d :: r, h =>
      have := decG_len k r (by simp at h; omega)
      show (dec4 (num4 a b c d) ++ decG r).length = _
      rw [List.length_append, this]
      simp [dec4]
      omega
    | [], h => simp at h
    | [_], h => simp at h; omega
    | [_, _], h => simp at h; omega
    | [_, _, _], h => simp at h; omega
theorem b64_len4 : ∀ (b : Bs), ∃ k, (b64 b).length = 4 * k
  | [] => ⟨0, rfl⟩
  | [a] => ⟨1, grp_len [a] (by simp) (by simp)⟩
  | [a, b] => ⟨1, grp_len [a, b] (by simp) (by simp)⟩
  | a :: b :: c :: r => by
    obtain ⟨k, hk⟩ := b64_len4 r
    refine ⟨k + 1, ?_⟩
    show (grp [a, b, c] ++ b64 r).length = _
    rw [List.length_append, hk, grp_len _ (by simp) (by simp)]
    omega
theorem dec_three (a b c : UInt8) : decG (grp [a, b, c]) = [a, b, c] := by
  have ha := UInt8.toNat_lt a
  have hb := UInt8.toNat_lt b
  have hc := UInt8.toNat_lt c
  show dec4 (num4 (letN (num3 a b c / 262144 % 64)) (letN (num3 a b c / 4096 % 64)) (letN (num3 a b c / 64 % 64)) (letN (num3 a b c % 64))) ++ [] = _
  unfold num4
  rw [plc_let (Nat.mod_lt _ (by decide)), plc_let (Nat.mod_lt _ (by decide)), plc_let (Nat.mod_lt _ (by decide)), plc_let (Nat.mod_lt _ (by decide))]
  unfold num3 dec4
  obtain ⟨n, hn⟩ : ∃ n, a.toNat * 65536 + b.toNat * 256 + c.toNat = n := ⟨_, rfl⟩
  rw [hn, ofNat_toNat (a := a) (by omega), ofNat_toNat (a := b) (by omega), ofNat_toNat (a := c) (by omega)]
  rfl
theorem dec_two (a b : UInt8) : ∃ x, decG (grp [a, b]) = [a, b, x] := by
  have ha := UInt8.toNat_lt a
  have hb := UInt8.toNat_lt b
  have z : (0 : UInt8).toNat = 0 := rfl
  show ∃ x, dec4 (num4 (letN (num3 a b 0 / 262144 % 64)) (letN (num3 a b 0 / 4096 % 64)) (letN (num3 a b 0 / 64 % 64)) 61) ++ [] = _
  unfold num4
  rw [plc_let (Nat.mod_lt _ (by decide)), plc_let (Nat.mod_lt _ (by decide)), plc_let (Nat.mod_lt _ (by decide)), plc_fill]
  unfold num3 dec4
  rw [z]
  obtain ⟨n, hn⟩ : ∃ n, a.toNat * 65536 + b.toNat * 256 + 0 = n := ⟨_, rfl⟩
  rw [hn, ofNat_toNat (a := a) (by omega), ofNat_toNat (a := b) (by omega)]
  exact ⟨_, rfl⟩
theorem dec_one (a : UInt8) : ∃ x y, decG (grp [a]) = [a, x, y] := by
  have ha := UInt8.toNat_lt a
  have z : (0 : UInt8).toNat = 0 := rfl
  show ∃ x y, dec4 (num4 (letN (num3 a 0 0 / 262144 % 64)) (letN (num3 a 0 0 / 4096 % 64)) 61 61) ++ [] = _
  unfold num4
  rw [plc_let (Nat.mod_lt _ (by decide)), plc_let (Nat.mod_lt _ (by decide)), plc_fill]
  unfold num3 dec4
  rw [z]
  obtain ⟨n, hn⟩ : ∃ n, a.toNat * 65536 + 0 * 256 + 0 = n := ⟨_, rfl⟩
  rw [hn, ofNat_toNat (a := a) (by omega)]
  exact ⟨_, _, rfl⟩
theorem fills_app {x y : Bs} (hy : 2 ≤ y.length) : fills (x ++ y) = fills y := by
  unfold fills
  have h1 : y ≠ [] := by intro e; rw [e] at hy; simp at hy
  have h2 : y.dropLast ≠ [] := by
    intro e
    have := congrArg List.length e
    simp at this
    omega
  have h3 : ∀ (a b : Bs), b ≠ [] → (a ++ b).getLast? = b.getLast? := fun a b hb => by
    rw [List.getLast?_append]
    cases e : b.getLast? with
    | none => exact absurd (List.getLast?_eq_none_iff.1 e) hb
    | some z => rfl
  rw [h3 _ _ h1, List.dropLast_append_of_ne_nil h1, h3 _ _ h2]
theorem unb_app {k : Nat} {x y : Bs} (hx : x.length = 4 * k) (hy : y.length = 4) : unb (x ++ y) = decG x ++ unb y := by
  unfold unb
  have h2 : fills y ≤ 2 := by unfold fills; split <;> (try split) <;> omega
  have hl := decG_len 1 y (by omega)
  rw [fills_app (by omega), decG_app k x y hx, List.length_append, Nat.add_sub_assoc (by omega), List.take_length_add_append]
theorem unb_grp {g : Bs} (h1 : 1 ≤ g.length) (h3 : g.length ≤ 3) : unb (grp g) = g := by
  have e1 : ∀ n, letN (n % 64) ≠ 61 := fun n => let_ne (Nat.mod_lt _ (by decide))
  match g, h1, h3 with
  | [a], _, _ =>
    obtain ⟨x, y, h⟩ := dec_one a
    unfold unb
    rw [h]
    have : fills (grp [a]) = 2 := by simp [fills, grp, lets]
    rw [this]
    rfl
  | [a, b], _, _ =>
    obtain ⟨x, h⟩ := dec_two a b
    unfold unb
    rw [h]
    have : fills (grp [a, b]) = 1 := by simp [fills, grp, lets, e1]
    rw [this]
    rfl
  | [a, b, c], _, _ =>
    unfold unb
    rw [dec_three]
    have : fills (grp [a, b, c]) = 0 := by simp [fills, grp, lets, e1]
    rw [this]
    rfl
/-- What is written is read back. -/
theorem unb_b64 : ∀ (b : Bs), unb (b64 b) = b
  | [] => rfl
  | [a] => unb_grp (g := [a]) (by simp) (by simp)
  | [a, b] => unb_grp (g := [a, b]) (by simp) (by simp)
  | [a, b, c] => by
    show unb (grp [a, b, c] ++ []) = _
    rw [List.append_nil]
    exact unb_grp (by simp) (by simp)
  | a :: b :: c :: d :: r => by
    have ih := unb_b64 (d :: r)
    show unb (grp [a, b, c] ++ b64 (d :: r)) = _
    obtain ⟨k, hk⟩ := b64_len4 (d :: r)
    have hk1 : 1 ≤ k := by
      apply Classical.byContradiction
      intro hc
      have h0 : b64 (d :: r) = [] := List.length_eq_zero_iff.1 (by omega)
      have : unb (b64 (d :: r)) = [] := by rw [h0]; rfl
      rw [ih] at this
      cases this
    -- the last four letters
    obtain ⟨p, q, hpq, hp, hq⟩ : ∃ p q, b64 (d :: r) = p ++ q ∧ p.length = 4 * (k - 1) ∧ q.length = 4 :=
      ⟨(b64 (d :: r)).take (4 * (k - 1)), (b64 (d :: r)).drop (4 * (k - 1)), (List.take_append_drop _ _).symm, by rw [List.length_take]; omega, by rw [List.length_drop]; omega⟩
    rw [hpq] at ih ⊢
    rw [unb_app hp hq] at ih
    have hg : (grp [a, b, c]).length = 4 := grp_len _ (by simp) (by simp)
    rw [← List.append_assoc, unb_app (k := k - 1 + 1) (by rw [List.length_append, hg, hp]; omega) hq, decG_app 1 _ _ (by omega), List.append_assoc, ih, dec_three]
    rfl
theorem from_b64 (b : Bs) : fromL (b64 b) = some b := by unfold fromL; rw [unb_b64, if_pos rfl]
theorem from_some {s b : Bs} (h : fromL s = some b) : b64 b = s := by
  unfold fromL at h
  split at h
  · cases h; assumption
  · cases h
theorem b64_inj {a b : Bs} (h : b64 a = b64 b) : a = b := by
  have := unb_b64 a
  rw [h, unb_b64] at this
  exact this.symm
theorem from_is {s b : Bs} (h : b64 b = s) : fromL s = some b := by rw [← h]; exact from_b64 b
theorem from_not {s : Bs} (h : ∀ b, b64 b ≠ s) : fromL s = none := by
  cases e : fromL s with
  | none => rfl
  | some b => exact absurd (from_some e) (h b)
/-- A text without what is laid behind it. -/
def trimE (s : Bs) : Bs := (s.reverse.dropWhile (· == 61)).reverse
theorem trim_app {l : Bs} {z : Nat} (h : ∀ c ∈ l, c ≠ 61) : trimE (l ++ List.replicate z 61) = l := by
  unfold trimE
  rw [List.reverse_append, List.reverse_replicate]
  have h1 : ∀ (z : Nat) (m : Bs), (List.replicate z (61 : UInt8) ++ m).dropWhile (· == 61) = m.dropWhile (· == 61) := by
    intro z m
    induction z with
    | zero => rfl
    | succ z ih => rw [List.replicate_succ, List.cons_append, List.dropWhile_cons_of_pos (by decide), ih]
  rw [h1]
  cases hl : l.reverse with
  | nil => simp at hl; subst hl; rfl
  | cons c m =>
    have hc : c ∈ l := by rw [← List.mem_reverse, hl]; exact List.mem_cons_self
    rw [List.dropWhile_cons_of_neg (by simpa using h c hc), ← hl, List.reverse_reverse]
/-- What the program's reading says: no letter that is none, and written anew it is the text. -/
def readL (s : Bs) : Option Bs := match Rd.all ⟨[], 0, 0⟩ (trimE s) with
  | none => none
  | some t => if b64 t.out = s then some t.out else none
theorem read_is (s : Bs) : readL s = fromL s := by
  unfold readL
  cases e : fromL s with
  | some b =>
    have hb := from_some e
    obtain ⟨l, z, r, q, h1, _, h3, h4⟩ := rd_back b.length b [] (by omega)
    rw [hb] at h1
    have ht : trimE s = l := by rw [h1]; exact trim_app h3
    rw [ht, h4]
    simp [hb]
  | none =>
    cases e2 : Rd.all ⟨[], 0, 0⟩ (trimE s) with
    | none => rfl
    | some t =>
      by_cases hb : b64 t.out = s
      · rw [from_is hb] at e; cases e
      · simp [hb]
end Go.Proofs.YtkablmjkffdloaaGreatDoor
