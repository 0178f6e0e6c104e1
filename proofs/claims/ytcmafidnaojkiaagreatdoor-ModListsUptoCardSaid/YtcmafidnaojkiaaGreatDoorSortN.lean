/-
  Sort: a new row that holds the texts in rising order.
-/
import Derived.Test.YtcmafidnaojkiaaGreatDoorSortM
import Derived.Test.YtcmafidnaojkiaaGreatDoorRefB
import Derived.Shelf.SlicesE.Clone
namespace Go.Proofs
def Tryz.clone57_ren : Go.Shelf.Ren := ⟨fun | 41 => 57 | n => n, fun | 22 => 24 | 23 => 9 | 4 => 4 | n => n, fun | n => n⟩
theorem Tryz.clone57 : Go.Proofs.SlLaysE0.n41 Tryz.prog Tryz.clone57_ren := {
  mixed := by kernel_rfl
  f41 := ⟨Tryz.f57.name, by decide, Tryz.func57.trans (congrArg some (by kernel_rfl))⟩
  t4 := Tryz.underlying4
  a4 := Tryz.isAgg4
  z4 := Tryz.sizeOf4
  v4 := Tryz.zeroValue4
  t22 := Tryz.underlying24
  a22 := Tryz.isAgg24
  z22 := Tryz.sizeOf24
  v22 := Tryz.zeroValue24 }

namespace YtcmafidnaojkiaaGreatDoor
open Go.RowKit Go.Lib

theorem clone_T {ps : List Str} {B off c : Nat} {w : World} (hn : ps.length ≤ 1099511627776) (ht : ∀ k (hk : k < ps.length), w.cell? ⟨B, off + k, none⟩ = some (.string (ba ps[k]))) :
    Calls Tryz.prog 57 #[.slice (some ⟨B, off, none⟩) ps.length c] w fun e w' => ∃ g cap, e = .returned (.slice (some ⟨g, 0, none⟩) ps.length cap) ∧ RowT g ps w' ∧ w.heap.size ≤ g ∧ g < w'.heap.size ∧ Below w.heap.size w w' := by
  obtain ⟨i0, hi, hz0, hz1, hz2⟩ := info_parts info9
  refine (AnyE.slices_Clone Tryz.clone57 i0 _ 1 16 hi hz0 hz1 hz2 rfl (by omega) Tryz.sizeOf9 B off ps.length c (strsV ps) w (by simp [strsV]) (by unfold maxLen; omega) (by omega) ?_ ?_).mono ?_
  · intro j u hu
    have hj : j < ps.length := by
      have := (List.getElem?_eq_some_iff.1 hu).1
      simpa [strsV] using this
    rw [ht j hj]
    have : (strsV ps)[j]? = some (.string (ba ps[j])) := by simp [strsV, hj]
    rw [this] at hu
    exact hu
  · intro u hu
    obtain ⟨x, _, rfl⟩ := List.mem_map.1 hu
    rfl
  · rintro e w' ⟨v, rfl, hown, hne, hb⟩
    rcases hown.2 with ⟨h1, _⟩ | ⟨g, cap, cur, rfl, hg, hblk, _, _, _, htk⟩
    · exact absurd h1 hne
    · refine ⟨g, cap, rfl, ?_, hg, (Array.getElem?_eq_some_iff.1 hblk).1, hb⟩
      intro k hk
      have h1 : cur.toList[k]? = (strsV ps)[k]? := by rw [← htk, List.getElem?_take_of_lt (by omega)]
      have h2 : cur[k]? = cur.toList[k]? := by simp
      refine ⟨?_, ?_⟩
      · rw [Lib.cell_of_heap hblk, h2, h1]
        simp [strsV, hk]
      · unfold World.frozen?
        show (match w'.heap[g]? with | some (.cells _ _ (lo, hi)) => decide (lo ≤ k) && decide (k < hi) | _ => false) = false
        rw [hblk]
        simp

set_option maxHeartbeats 1000000 in
theorem sort_T {ps : List Str} {B off c : Nat} {w : World} (hg : Gd w) (hn : ps.length ≤ 1099511627776) (ht : ∀ k (hk : k < ps.length), w.cell? ⟨B, off + k, none⟩ = some (.string (ba ps[k]))) :
    Calls Tryz.prog 20 #[.slice (some ⟨B, off, none⟩) ps.length c] w fun e w' => ∃ g cap x, e = .returned (.slice (some ⟨g, 0, none⟩) ps.length cap) ∧ x.Perm ps ∧ Srt ltV x ∧ RowT g x w' ∧ w.heap.size ≤ g ∧ g < w'.heap.size ∧ Below w.heap.size w w' := by
  have HT := hide ht
  obtain ⟨n, hnn⟩ : ∃ n, ps.length = n := ⟨_, rfl⟩
  have HC := hide (clone_T (c := c) hn ht)
  rw [hnn] at HC hn ⊢
  have HN := hide hnn
  clear ht hnn HT
  go_enter Tryz.func20, Tryz.ntmps20
  go_wp2_with (go_at_call 57; fail)
  refine (unhide HC).mono ?_
  rintro e w1 ⟨g, cap, rfl, hrow, hg1, hg2, b1⟩
  have hR : RSort w g w1.heap.size n cap ps (w1.alloc (.cells #[.slice (some ⟨g, 0, none⟩) n cap] 24)) := by
    have b2 : Below w1.heap.size w1 (w1.alloc (.cells #[.slice (some ⟨g, 0, none⟩) n cap] 24)) := (Below.refl _ _).alloc (Nat.le_refl _) _
    refine ⟨unhide HN, hrow.below b2 hg2, ?_, Nat.lt_of_lt_of_le hg2 b2.size, ?_, below_trans b1 b2⟩
    · rw [Lib.cell_of_heap (heap_new w1 _)]; rfl
    · show w1.heap.size < (w1.heap.push _).size
      simp
  have HR := hide hR
  have hne : w1.heap.size ≠ g := by omega
  clear hrow hR HC
  go_wp2_with (go_at_call 58; fail)
  refine (sliceStable_T hg hg1 hne hn (unhide HR)).mono ?_
  rintro e w2 ⟨rfl, x, k1, k2, k3, k4⟩
  have c0 := k3.2.2.1
  have H3 := hide k3
  have H1 := hide k1
  have H2 := hide k2
  clear k1 k2 k3 k4
  go_wp2
  go_ret
  exact ⟨g, cap, x, rfl, unhide H1, unhide H2, (unhide H3).2.1, hg1, (unhide H3).2.2.2.1, (unhide H3).2.2.2.2.2⟩

end YtcmafidnaojkiaaGreatDoor
end Go.Proofs
