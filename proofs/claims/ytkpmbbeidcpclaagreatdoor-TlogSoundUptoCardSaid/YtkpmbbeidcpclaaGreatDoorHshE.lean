/-
  The hash of a whole tree of a log; what both sides say of places.
-/
import Derived.Test.YtkpmbbeidcpclaaGreatDoorHshQ
import Derived.Test.YtkpmbbeidcpclaaGreatDoorHshD
import Derived.Test.YtkpmbbeidcpclaaGreatDoorLogQ
import Derived.Test.YtkpmbbeidcpclaaGreatDoorShelf
namespace Go.Proofs.YtkpmbbeidcpclaaGreatDoor
open Go.RowKit

theorem half_pow {v : Nat} (hv : v + 1 ≤ 20) : half (2 ^ (v + 1)) = 2 ^ v := by
  have e : (2 : Nat) ^ (v + 1) = 2 ^ v * 2 := Nat.pow_succ ..
  have hp : 1 ≤ 2 ^ v := Nat.one_le_two_pow
  have hb : (2 : Nat) ^ (v + 1) ≤ 1048576 := Nat.le_trans (Nat.pow_le_pow_right (by decide) hv) (by decide)
  obtain ⟨g1, g2, _, _⟩ := half_is (n := 2 ^ (v + 1)) (by omega) hb
  unfold half at g1 g2 ⊢
  congr 1
  exact pow_unique (n := 2 ^ (v + 1)) g1 g2 (by omega) (by omega)

theorem mth_tree : ∀ (v f : Nat) (l : List Bs), v ≤ 20 → l.length = 2 ^ v → 2 ^ v ≤ f → mth f l = treeH v l
  | 0, 0, l, _, _, hf => by simp at hf
  | 0, f + 1, l, _, hl, _ => by
    match l, hl with
    | [x], _ => rfl
  | v + 1, 0, l, _, _, hf => by have := Nat.two_pow_pos (v + 1); omega
  | v + 1, f + 1, l, hv, hl, hf => by
    have e : (2 : Nat) ^ (v + 1) = 2 ^ v * 2 := Nat.pow_succ ..
    have hp : 1 ≤ 2 ^ v := Nat.one_le_two_pow
    rw [mth_two (by omega), hl, half_pow hv, mth_tree v f (l.take (2 ^ v)) (by omega) (by rw [List.length_take]; omega) (by omega), mth_tree v f (l.drop (2 ^ v)) (by omega) (by rw [List.length_drop]; omega) (by omega)]
    show _ = nodeL (treeH v l) (treeH v (l.drop (2 ^ v)))
    congr 1
    conv => rhs; rw [← List.take_append_drop (2 ^ v) l]
    rw [treeH_app v _ _ (by rw [List.length_take]; omega)]

/-- bytes.Clone of a hash. -/
theorem clone_any {w : World} {B O c n : Nat} {h : Bs} (hn : h.length = n) (hN : n ≤ 1073741824) (hb : BAt w (some ⟨B, O, none⟩) h) : Calls Tryz.prog 63 #[.slice (some ⟨B, O, none⟩) n c] w fun e w' => ∃ v, e = .returned v ∧ OwnB w.heap.size w' v h ∧ Below w.heap.size w w' := by
  refine (Tryz.bytes_Clone_at ⟨B, O, none⟩ n c (h.map fun x => (x.toNat : Int)) w (by simpa using hn) (by omega) (fun i hi => ?_)).mono ?_
  · rcases hb.els with e | ⟨B', O', ea, hx⟩
    · rw [e] at hn; simp at hn; omega
    · cases ea
      rw [WideShapes.add_plain, hx i (by omega), List.getD_eq_getElem?_getD, List.getElem?_map, List.getElem?_eq_getElem (by omega)]
      rfl
  · rintro e w' ⟨v, rfl, o, _, bl⟩
    refine ⟨v, rfl, ?_, bl⟩
    unfold OwnB
    rw [hn]
    have e2 : (h.map fun x => (x.toNat : Int)).map (Value.int .u8) = h.map byteV := by rw [List.map_map]; rfl
    rw [← e2]
    exact o

set_option maxRecDepth 100000 in
set_option maxHeartbeats 1000000 in
theorem logHash_ok {base : Nat} {w : World} {F n v j : Nat} {lv hs : List Bs} (hL : LogAt base w F n hs) (hI : Inv lv hs) (hn : lv.length = n) (hn2 : n ≤ 100000) (hv : v ≤ 20) (hj : (j + 1) * 2 ^ v ≤ n) :
    Calls Tryz.prog 25 #[.pointer (some ⟨F, 0, none⟩), .int .i64 (v : Int), .int .i64 (j : Int)] w fun e w' => ∃ a c, e = .returned (.tuple #[.slice a 32 c, .int .i64 0]) ∧ OwnB w.heap.size w' (.slice a 32 c) (treeH v (lv.drop (j * 2 ^ v))) ∧ Below w.heap.size w w' := by
  have hb : treeB (v : Int) (j : Int) (n : Int) = true := tree_nat hv hj
  have HT := hide (isTree_any (level := (v : Int)) (k := (j : Int)) (n := (n : Int)) w)
  rw [hb] at HT
  have hpos : 1 ≤ (j + 1) * 2 ^ v := Nat.mul_pos (by omega) (Nat.two_pow_pos v)
  have ht := hI.tree v j (by omega)
  have hst := stored_le (n := n) (by omega)
  have h32 : (treeH v (lv.drop (j * 2 ^ v))).length = 32 := hL.all _ (List.mem_of_getElem? ht)
  have HAT := hide (at_any (v := v) (k := j) (p := (j + 1) * 2 ^ v) (q := (j + 1) * 2 ^ v - 1) hL hv rfl (by omega) (by omega) rfl ht (by rw [hI.len, hn]; omega))
  obtain ⟨T, hT⟩ : ∃ T, treeH v (lv.drop (j * 2 ^ v)) = T := ⟨_, rfl⟩
  rw [hT] at h32 HAT ⊢
  have hc0 : w.cell? ⟨F, 0, none⟩ = some (.int .i64 (n : Int)) := by
    obtain ⟨x, hF, _⟩ := hL.at_
    exact hF.cell 0
  have H32 := hide h32
  clear hL hI hn ht h32 hT hb hpos hst hj
  go_enter Tryz.func25, Tryz.ntmps25
  go_wp2_with (go_at_call 46; fail)
  refine (unhide HT).mono ?_
  rintro e w1 ⟨rfl, rfl⟩
  go_wp2_with (go_at_call 51; fail)
  refine (unhide HAT).mono ?_
  rintro e w2 ⟨G, O, rfl, hbG, _, q, hw2⟩
  have hb2 : Below w1.heap.size w1 w2 := by rw [hw2]; exact lowN (Below.refl _ _) _
  have HC := hide (clone_any (c := 32) (unhide H32) (by omega) (hbG.low hb2))
  have HB2 := hide hb2
  clear hbG hw2 hb2 HAT
  go_wp2_with (go_at_call 63; fail)
  refine (unhide HC).mono ?_
  rintro e w3 ⟨v3, rfl, o3, b3⟩
  obtain ⟨g3, c3, rfl, _⟩ := OwnB.adr o3 (unhide H32)
  have HP : Hid (OwnB w1.heap.size w3 (.slice (some ⟨g3, 0, none⟩) 32 c3) T ∧ Below w1.heap.size w1 w3) := hide ⟨OwnB.less (unhide HB2).size o3, low_trans (unhide HB2) b3⟩
  clear o3 b3 HC
  go_wp2
  go_ret2
  exact ⟨_, c3, rfl, unhide HP⟩

theorem logHash_bad {base : Nat} {w : World} {F n : Nat} {level k : Int} {hs : List Bs} (hL : LogAt base w F n hs) (hb : treeB level k n = false) :
    Calls Tryz.prog 25 #[.pointer (some ⟨F, 0, none⟩), .int .i64 level, .int .i64 k] w fun e w' => e = .returned (.tuple #[.slice none 0 0, .int .i64 6]) ∧ w' = w := by
  have HT := hide (isTree_any (level := level) (k := k) (n := (n : Int)) w)
  rw [hb] at HT
  have hc0 : w.cell? ⟨F, 0, none⟩ = some (.int .i64 (n : Int)) := by
    obtain ⟨x, hF, _⟩ := hL.at_
    exact hF.cell 0
  clear hL hb
  go_enter Tryz.func25, Tryz.ntmps25
  go_wp2_with (go_at_call 46; fail)
  refine (unhide HT).mono ?_
  rintro e w1 ⟨rfl, rfl⟩
  go_wp2
  go_ret2
  exact ⟨rfl, rfl⟩

end Go.Proofs.YtkpmbbeidcpclaaGreatDoor
