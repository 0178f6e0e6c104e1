/-
  Reading what the program packs gives the files (plain).
-/
import Derived.Test.YtkablmjkffdloaaGreatDoorUnpX
import Derived.Test.YtkablmjkffdloaaGreatDoorArcQ
namespace Go.Proofs.YtkablmjkffdloaaGreatDoor
open Go.RowKit

theorem getN_leN (x : Nat) : ∀ i, getN (leN i x) = x % 2 ^ (8 * i)
  | 0 => by simp [leN, getN, Nat.mod_one]
  | i + 1 => by
    show getN (leN i x ++ [UInt8.ofNat (x / 2 ^ (8 * i) % 256)]) = _
    rw [getN_snoc, getN_leN x i, leN_len]
    have e : (UInt8.ofNat (x / 2 ^ (8 * i) % 256)).toNat = x / 2 ^ (8 * i) % 256 := by simp
    rw [e, show 8 * (i + 1) = 8 * i + 8 by omega, Nat.pow_add, Nat.mod_mul, show (256 : Nat) ^ i = 2 ^ (8 * i) by rw [show (256 : Nat) = 2 ^ 8 from rfl, ← Nat.pow_mul]]
    rw [Nat.mul_comm (2 ^ (8 * i))]
theorem getN_leN4 {x : Nat} (h : x < 4294967296) : getN (leN 4 x) = x := by rw [getN_leN]; exact Nat.mod_eq_of_lt h
theorem getN_leN2 {x : Nat} (h : x < 65536) : getN (leN 2 x) = x := by rw [getN_leN]; exact Nat.mod_eq_of_lt h

def ndOk (p : Nd) : Prop := p.1.length < 65536 ∧ p.2.length < 4294967296
def sfP (p : Nd) : Sf := ⟨p.1, p.2, (crcL p.2).toNat⟩
theorem headL_parts (p : Nd) (T : Bs) : ∃ A : Bs, A.length = 14 ∧ headL p ++ T = A ++ (leN 4 (crcL p.2).toNat ++ (leN 4 p.2.length ++ (leN 4 p.2.length ++ (leN 2 p.1.length ++ (leN 2 0 ++ (p.1 ++ (p.2 ++ T))))))) ∧ A.take 4 = [80, 75, 3, 4] := by
  refine ⟨[80, 75, 3, 4] ++ leAll 2 [20, 0, 0, 0, 33], by rw [List.length_append, leAll_len]; rfl, ?_, rfl⟩
  unfold headL descL
  have e3 : ∀ a b c : Nat, leAll 4 [a, b, c] = leN 4 a ++ (leN 4 b ++ leN 4 c) := fun a b c => by unfold leAll; simp
  have e2 : ∀ a b : Nat, leAll 2 [a, b] = leN 2 a ++ leN 2 b := fun a b => by unfold leAll; simp
  rw [e3, e2]
  simp only [List.append_assoc]
theorem drop_len {A B : Bs} {n : Nat} (h : A.length = n) : (A ++ B).drop n = B := List.drop_left' h
theorem take_len {A B : Bs} {n : Nat} (h : A.length = n) : (A ++ B).take n = A := List.take_left' h
theorem head_reads {p : Nd} (hp : ndOk p) (T : Bs) : (headL p ++ T).take 4 = [80, 75, 3, 4] ∧ 30 + p.1.length + p.2.length ≤ (headL p ++ T).length ∧ nmN (headL p ++ T) = p.1.length ∧ daN (headL p ++ T) = p.2.length ∧ sfOf (headL p ++ T) = sfP p ∧ restOf (headL p ++ T) = T := by
  obtain ⟨A, hA, e, h4⟩ := headL_parts p T
  have hlen := headL_len p
  have l4 : ∀ x, (leN 4 x).length = 4 := fun x => leN_len x 4
  have l2 : ∀ x, (leN 2 x).length = 2 := fun x => leN_len x 2
  have d14 : (headL p ++ T).drop 14 = leN 4 (crcL p.2).toNat ++ (leN 4 p.2.length ++ (leN 4 p.2.length ++ (leN 2 p.1.length ++ (leN 2 0 ++ (p.1 ++ (p.2 ++ T)))))) := by rw [e]; exact drop_len hA
  have d18 : (headL p ++ T).drop 18 = leN 4 p.2.length ++ (leN 4 p.2.length ++ (leN 2 p.1.length ++ (leN 2 0 ++ (p.1 ++ (p.2 ++ T))))) := by
    rw [show 18 = 14 + 4 from rfl, ← List.drop_drop, d14]; exact drop_len (l4 _)
  have d22 : (headL p ++ T).drop 22 = leN 4 p.2.length ++ (leN 2 p.1.length ++ (leN 2 0 ++ (p.1 ++ (p.2 ++ T)))) := by
    rw [show 22 = 18 + 4 from rfl, ← List.drop_drop, d18]; exact drop_len (l4 _)
  have d26 : (headL p ++ T).drop 26 = leN 2 p.1.length ++ (leN 2 0 ++ (p.1 ++ (p.2 ++ T))) := by
    rw [show 26 = 22 + 4 from rfl, ← List.drop_drop, d22]; exact drop_len (l4 _)
  have d28 : (headL p ++ T).drop 28 = leN 2 0 ++ (p.1 ++ (p.2 ++ T)) := by
    rw [show 28 = 26 + 2 from rfl, ← List.drop_drop, d26]; exact drop_len (l2 _)
  have d30 : (headL p ++ T).drop 30 = p.1 ++ (p.2 ++ T) := by
    rw [show 30 = 28 + 2 from rfl, ← List.drop_drop, d28]; exact drop_len (l2 _)
  have hn : nmN (headL p ++ T) = p.1.length := by unfold nmN; rw [d26, take_len (l2 _), getN_leN2 hp.1]
  have hd : daN (headL p ++ T) = p.2.length := by unfold daN; rw [d18, take_len (l4 _), getN_leN4 hp.2]
  have hc : crN (headL p ++ T) = (crcL p.2).toNat := by unfold crN; rw [d14, take_len (l4 _), getN_leN4 (u32_lt _)]
  refine ⟨?_, by rw [List.length_append, hlen]; omega, hn, hd, ?_, ?_⟩
  · rw [e, List.take_append_of_le_length (by omega)]; exact h4
  · unfold sfOf sfP
    rw [hn, hd, hc, d30, take_len rfl, drop_len rfl, take_len rfl]
  · unfold restOf
    rw [hn, hd, d30, drop_len rfl, drop_len rfl]
theorem heads_back : ∀ (l : List Nd) (T : Bs), (∀ p ∈ l, ndOk p) → ¬ T.take 4 = [80, 75, 3, 4] → headsR (headsL l ++ T) = some (l.map sfP)
  | [], T, _, hT => by
    rw [show headsL [] ++ T = T from rfl, headsR_no hT]
    rfl
  | p :: l, T, h, hT => by
    have e : headsL (p :: l) ++ T = headL p ++ (headsL l ++ T) := by
      unfold headsL
      rw [List.flatMap_cons, List.append_assoc]
    obtain ⟨h1, h2, h3, h4, h5, h6⟩ := head_reads (h p (by simp)) (headsL l ++ T)
    rw [e, headsR_next h1 (by omega) (by rw [h3, h4]; omega), h5, h6, heads_back l T (fun q hq => h q (by simp [hq])) hT]
    rfl
theorem arc_back {l : List Nd} (h : ∀ p ∈ l, ndOk p) : headsR (arcL l) = some (l.map sfP) := by
  unfold arcL
  rw [List.append_assoc]
  refine heads_back l _ h ?_
  cases l with
  | nil => decide
  | cons p r =>
    intro e
    have h2 := congrArg (fun x : Bs => x.drop 2 |>.take 1) e
    simp [entsL, entryL] at h2
end Go.Proofs.YtkablmjkffdloaaGreatDoor
