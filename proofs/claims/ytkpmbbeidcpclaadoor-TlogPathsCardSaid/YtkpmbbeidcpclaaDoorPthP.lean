/-
  Texts taken apart at a byte, as plain lists.
-/
import Derived.Test.YtkpmbbeidcpclaaDoorPath
namespace Go.Proofs.YtkpmbbeidcpclaaDoor
open Go.RowKit

theorem index_no {c : UInt8} {r : Bs} : ∀ {a : Bs}, c ∉ a → Lib.index a (c :: r) = -1
  | [], _ => rfl
  | x :: a, h => by
    have hx : x ≠ c := fun e => h (by simp [e])
    have ha : c ∉ a := fun e => h (by simp [e])
    show (if (c :: r).isPrefixOf (x :: a) then (0 : Int) else if Lib.index a (c :: r) == -1 then -1 else Lib.index a (c :: r) + 1) = -1
    have hp : (c :: r).isPrefixOf (x :: a) = false := by
      show ((c == x) && r.isPrefixOf a) = false
      rw [beq_eq_false_iff_ne.2 (fun e => hx e.symm)]; rfl
    rw [hp, index_no ha]
    rfl
theorem prefix_self : ∀ (r b : Bs), r.isPrefixOf (r ++ b) = true
  | [], _ => by simp
  | x :: r, b => by
    show ((x == x) && r.isPrefixOf (r ++ b)) = true
    rw [prefix_self r b]; simp
theorem index_at {c : UInt8} {r b : Bs} : ∀ {a : Bs}, c ∉ a → Lib.index (a ++ (c :: (r ++ b))) (c :: r) = (a.length : Int)
  | [], _ => by
    show (if (c :: r).isPrefixOf (c :: (r ++ b)) then (0 : Int) else _) = 0
    have hp : (c :: r).isPrefixOf (c :: (r ++ b)) = true := prefix_self (c :: r) b
    rw [hp]; rfl
  | x :: a, h => by
    have hx : x ≠ c := fun e => h (by simp [e])
    have ha : c ∉ a := fun e => h (by simp [e])
    show (if (c :: r).isPrefixOf (x :: (a ++ (c :: (r ++ b)))) then (0 : Int) else if Lib.index (a ++ (c :: (r ++ b))) (c :: r) == -1 then -1 else Lib.index (a ++ (c :: (r ++ b))) (c :: r) + 1) = _
    have hp : (c :: r).isPrefixOf (x :: (a ++ (c :: (r ++ b)))) = false := by
      show ((c == x) && _) = false
      rw [beq_eq_false_iff_ne.2 (fun e => hx e.symm)]; rfl
    have hi := index_at (r := r) (b := b) ha
    rw [hp, hi]
    have : (((a.length : Int) == -1)) = false := by simp
    rw [this]
    simp

theorem cut_no {c : UInt8} {r a : Bs} (h : c ∉ a) : Lib.cut a (c :: r) = (a, [], false) := by
  unfold Lib.cut
  rw [index_no h, if_neg (by decide)]
theorem cut_at {c : UInt8} {r a b : Bs} (h : c ∉ a) : Lib.cut (a ++ (c :: (r ++ b))) (c :: r) = (a, b, true) := by
  unfold Lib.cut
  rw [index_at h, if_pos (by omega)]
  have h1 : ((a.length : Int)).toNat = a.length := by omega
  rw [h1, List.take_left]
  have h2 : (a ++ (c :: (r ++ b))).drop (a.length + (c :: r).length) = b := by
    rw [← List.drop_drop, List.drop_left]
    show (c :: (r ++ b)).drop (r.length + 1) = b
    rw [List.drop_succ_cons, List.drop_left]
  rw [h2]

theorem replaceAll_no {c : UInt8} {a : Bs} (h : c ∉ a) : Lib.replaceAll a [c] [] = a := by
  unfold Lib.replaceAll Lib.replace
  rw [if_neg (by simp)]
  cases Lib.replaceNum a [c] (-1) with
  | zero => rfl
  | succ k =>
    show (if Lib.index a [c] == -1 then a else _) = a
    rw [index_no h]
    rfl

theorem splitB_at {c : UInt8} {a b : Bs} {k : Nat} (h : c ∉ a) : Lib.splitB ⟨#[c]⟩ 0 (k + 1) ⟨(a ++ c :: b).toArray⟩ = ⟨a.toArray⟩ :: Lib.splitB ⟨#[c]⟩ 0 k ⟨b.toArray⟩ := by
  have hi : Lib.indexB ⟨(a ++ c :: b).toArray⟩ ⟨#[c]⟩ = (a.length : Int) := by
    unfold Lib.indexB
    show Lib.index (a ++ c :: b).toArray.toList [c] = _
    exact index_at (r := []) (b := b) h
  show (if Lib.indexB _ _ == -1 then _ else _) = _
  rw [hi]
  have : (((a.length : Int) == -1)) = false := by simp
  rw [this, if_neg (by decide)]
  have e1 : (ByteArray.mk (a ++ c :: b).toArray).extract 0 (((a.length : Int)).toNat + 0) = ⟨a.toArray⟩ := by
    rw [Int.toNat_natCast, Nat.add_zero]
    apply ByteArray.ext
    rw [ByteArray.data_extract]
    show (a ++ c :: b).toArray.extract 0 a.length = a.toArray
    rw [List.extract_toArray]
    simp
  have e2 : (ByteArray.mk (a ++ c :: b).toArray).extract (((a.length : Int)).toNat + (ByteArray.mk #[c]).size) (ByteArray.mk (a ++ c :: b).toArray).size = ⟨b.toArray⟩ := by
    rw [Int.toNat_natCast]
    apply ByteArray.ext
    rw [ByteArray.data_extract]
    show (a ++ c :: b).toArray.extract (a.length + 1) (a ++ c :: b).toArray.size = b.toArray
    rw [List.extract_toArray]
    have hd : (a ++ c :: b).drop (a.length + 1) = b := by
      rw [← List.drop_drop, List.drop_left]; rfl
    rw [List.extract_eq_take_drop, hd, List.take_of_length_le (by simp; omega)]
  rw [e1, e2]

end Go.Proofs.YtkpmbbeidcpclaaDoor
