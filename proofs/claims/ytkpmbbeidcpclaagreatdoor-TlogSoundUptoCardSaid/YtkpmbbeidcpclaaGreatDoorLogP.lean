/-
  The hashes that a log stores, as plain lists.
-/
import Derived.Test.YtkpmbbeidcpclaaGreatDoorOnes
import Derived.Test.YtkpmbbeidcpclaaGreatDoorLeaf
namespace Go.Proofs.YtkpmbbeidcpclaaGreatDoor
open Go.RowKit

/-- The hash of the whole tree of the first 2^v of some leaves. -/
def treeH : Nat → List Bs → Bs
  | 0, l => l.headD []
  | v + 1, l => nodeL (treeH v l) (treeH v (l.drop (2 ^ v)))

theorem treeH_app : ∀ (v : Nat) (l m : List Bs), 2 ^ v ≤ l.length → treeH v (l ++ m) = treeH v l
  | 0, l, m, h => by
    cases l with
    | nil => simp at h
    | cons x r => rfl
  | v + 1, l, m, h => by
    have e : (2 : Nat) ^ (v + 1) = 2 ^ v + 2 ^ v := by rw [Nat.pow_succ]; omega
    show nodeL (treeH v (l ++ m)) (treeH v ((l ++ m).drop (2 ^ v))) = _
    rw [treeH_app v l m (by omega), List.drop_append_of_le_length (by omega), treeH_app v (l.drop (2 ^ v)) m (by rw [List.length_drop]; omega)]
    rfl

/-- What a log stores of its leaves. -/
structure Inv (lv hs : List Bs) : Prop where
  len : hs.length = stored lv.length
  tree : ∀ v k, (k + 1) * 2 ^ v ≤ lv.length → hs[stored ((k + 1) * 2 ^ v - 1) + v]? = some (treeH v (lv.drop (k * 2 ^ v)))

theorem Inv.nil : Inv [] [] := ⟨by decide, fun v k h => by
  have : 0 < 2 ^ v := Nat.two_pow_pos v
  have h2 : (k + 1) * 2 ^ v = k * 2 ^ v + 2 ^ v := by rw [Nat.add_mul, Nat.one_mul]
  simp at h
  omega⟩

/-- The hashes that are stored with a record, up to a level. -/
structure Ext (lv : List Bs) (leaf : Bs) (v : Nat) (ext : List Bs) : Prop where
  len : ext.length = v + 1
  div : (lv.length + 1) % 2 ^ v = 0
  tree : ∀ u, u ≤ v → ext[u]? = some (treeH u ((lv ++ [leaf]).drop (lv.length / 2 ^ u * 2 ^ u)))

theorem Ext.start (lv : List Bs) (leaf : Bs) : Ext lv leaf 0 [leaf] := ⟨rfl, by rw [Nat.pow_zero]; exact Nat.mod_one _, fun u hu => by
  have : u = 0 := by omega
  subst this
  simp [treeH]⟩

theorem div_down {n v : Nat} (h : (n + 1) % 2 ^ v = 0) : n / 2 ^ v * 2 ^ v + 2 ^ v = n + 1 := by
  have hp : 0 < 2 ^ v := Nat.two_pow_pos v
  obtain ⟨q, hq⟩ := Nat.dvd_of_mod_eq_zero h
  cases q with
  | zero => simp at hq
  | succ q =>
    have e : n = 2 ^ v * q + (2 ^ v - 1) := by rw [Nat.mul_succ] at hq; omega
    have e2 : n / 2 ^ v = q := by
      rw [e, Nat.mul_add_div hp, Nat.div_eq_of_lt (by omega)]; omega
    rw [e2, Nat.mul_comm q]
    rw [Nat.mul_succ] at hq
    omega

/-- One level more. -/
theorem Ext.next {lv : List Bs} {leaf : Bs} {v : Nat} {ext : List Bs} {h : Bs} (he : Ext lv leaf v ext) (hodd : lv.length / 2 ^ v % 2 = 1) (hh : h = nodeL (treeH v (lv.drop ((lv.length / 2 ^ v - 1) * 2 ^ v))) (treeH v ((lv ++ [leaf]).drop (lv.length / 2 ^ v * 2 ^ v)))) : Ext lv leaf (v + 1) (ext ++ [h]) := by
  have hp : 0 < 2 ^ v := Nat.two_pow_pos v
  have e1 : (2 : Nat) ^ (v + 1) = 2 ^ v * 2 := Nat.pow_succ ..
  have hd := div_down he.div
  obtain ⟨k, hk⟩ : ∃ k, lv.length / 2 ^ v = k := ⟨_, rfl⟩
  rw [hk] at hodd hh hd
  have e2 : lv.length / 2 ^ (v + 1) = k / 2 := by rw [e1, ← Nat.div_div_eq_div_mul, hk]
  have e3 : k / 2 * 2 ^ (v + 1) = (k - 1) * 2 ^ v := by
    rw [e1, Nat.mul_comm (2 ^ v) 2, ← Nat.mul_assoc]
    congr 1
    omega
  have e4 : (k - 1) * 2 ^ v + 2 ^ v = k * 2 ^ v := by
    rw [← Nat.succ_mul]; congr 1; omega
  refine ⟨by simp [he.len], ?_, fun u hu => ?_⟩
  · rw [e1]
    have : lv.length + 1 = 2 ^ v * 2 * ((k + 1) / 2) := by
      rw [Nat.mul_assoc]
      have h2 : 2 * ((k + 1) / 2) = k + 1 := by omega
      rw [h2, Nat.mul_succ, Nat.mul_comm]
      omega
    rw [this, Nat.mul_mod_right]
  · by_cases huv : u ≤ v
    · rw [List.getElem?_append_left (by rw [he.len]; omega)]
      exact he.tree u huv
    · have : u = v + 1 := by omega
      subst this
      rw [List.getElem?_append_right (by rw [he.len]; omega), he.len, Nat.sub_self, List.getElem?_cons_zero, e2, e3, hh]
      show some _ = some (nodeL (treeH v ((lv ++ [leaf]).drop ((k - 1) * 2 ^ v))) (treeH v (((lv ++ [leaf]).drop ((k - 1) * 2 ^ v)).drop (2 ^ v))))
      have e5 : treeH v ((lv ++ [leaf]).drop ((k - 1) * 2 ^ v)) = treeH v (lv.drop ((k - 1) * 2 ^ v)) := by
        rw [List.drop_append_of_le_length (by omega), treeH_app v _ _ (by rw [List.length_drop]; omega)]
      rw [List.drop_drop, e4, e5]

/-- The whole of it: a record more. -/
theorem Ext.done {lv hs : List Bs} {leaf : Bs} {v : Nat} {ext : List Bs} (hi : Inv lv hs) (he : Ext lv leaf v ext) (heven : lv.length / 2 ^ v % 2 = 0) (hn : lv.length < 1048576) : Inv (lv ++ [leaf]) (hs ++ ext) := by
  have hp : 0 < 2 ^ v := Nat.two_pow_pos v
  have e1 : (2 : Nat) ^ (v + 1) = 2 ^ v * 2 := Nat.pow_succ ..
  have hd := div_down he.div
  have hnd : (lv.length + 1) % 2 ^ (v + 1) ≠ 0 := by
    intro h
    have h2 := div_down h
    have e2 : lv.length / 2 ^ (v + 1) = lv.length / 2 ^ v / 2 := by rw [e1, ← Nat.div_div_eq_div_mul]
    rw [e2] at h2
    obtain ⟨k, hk⟩ : ∃ k, lv.length / 2 ^ v = k := ⟨_, rfl⟩
    rw [hk] at heven h2 hd
    have e5 : k / 2 * 2 ^ (v + 1) = k * 2 ^ v := by
      rw [e1, Nat.mul_comm (2 ^ v) 2, ← Nat.mul_assoc]; congr 1; omega
    omega
  have hnx := stored_next v (lv.length + 1) (by omega) (by omega) he.div hnd
  simp only [Nat.add_sub_cancel] at hnx
  refine ⟨?_, fun u k hu => ?_⟩
  · rw [List.length_append, List.length_append, hi.len, he.len]
    simp only [List.length_cons, List.length_nil, Nat.zero_add]
    omega
  · have hpu : 0 < 2 ^ u := Nat.two_pow_pos u
    have hsm : (k + 1) * 2 ^ u = k * 2 ^ u + 2 ^ u := Nat.succ_mul ..
    rw [List.length_append] at hu
    simp only [List.length_cons, List.length_nil, Nat.zero_add] at hu
    by_cases hold : (k + 1) * 2 ^ u ≤ lv.length
    · have ht := hi.tree u k hold
      have hlt : stored ((k + 1) * 2 ^ u - 1) + u < hs.length := by
        apply Classical.byContradiction; intro hc
        rw [List.getElem?_eq_none (by omega)] at ht; cases ht
      rw [List.getElem?_append_left hlt, ht, List.drop_append_of_le_length (by omega), treeH_app u _ _ (by rw [List.length_drop]; omega)]
    · have heq : (k + 1) * 2 ^ u = lv.length + 1 := by omega
      have hdu : (lv.length + 1) % 2 ^ u = 0 := by rw [← heq]; exact Nat.mul_mod_left _ _
      have huv : u ≤ v := by
        apply Classical.byContradiction; intro hc
        have hd2 : (2 : Nat) ^ (v + 1) ∣ 2 ^ u := Nat.pow_dvd_pow 2 (by omega)
        exact hnd (Nat.mod_eq_zero_of_dvd (Nat.dvd_trans hd2 (Nat.dvd_of_mod_eq_zero hdu)))
      have hk : lv.length / 2 ^ u * 2 ^ u = k * 2 ^ u := by
        have := div_down hdu; omega
      rw [heq, Nat.add_sub_cancel, ← hi.len, List.getElem?_append_right (by omega), Nat.add_sub_cancel_left, he.tree u huv, hk]

end Go.Proofs.YtkpmbbeidcpclaaGreatDoor
