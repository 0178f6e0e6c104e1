/-
  slices.Concat of bytes; the hashes of a leaf and of a node.
-/
import Derived.Test.YtkablmjkffdloaaGreatDoorHex
import Derived.Lib.AppendZeros
import Derived.Deep.AppendLies
import Derived.Laws.OwnMore
namespace Go.Proofs.YtkablmjkffdloaaGreatDoor
open Go.RowKit

set_option maxRecDepth 100000 in
set_option maxHeartbeats 1000000 in
theorem grow_any {n : Nat} (hn : n ≤ 1073741824) (w : World) :
    Calls Tryz.prog 163 #[.slice none 0 0, .int .i64 n] w fun e w' => ∃ v, e = .returned v ∧ OwnB w.heap.size w' v [] ∧ Below w.heap.size w w' := by
  obtain ⟨i0, hi, hz0, hz1, hz2⟩ := info_parts info5
  by_cases h0 : n = 0
  · subst h0
    go_enter Tryz.func163, Tryz.ntmps163
    go_wp2
    go_ret
    exact ⟨_, rfl, World.ownsRow_nil _ _ _ _, Below.refl _ _⟩
  · have hpos : 0 < n := by omega
    have hrz := fun ty => Lib.run_append_nil_zeros w 23 3 ty 5 i0 _ .i64 .i64 Tryz.underlying23 Tryz.underlying3 hi hz0 n hpos (by rw [hz1]; decide) (by omega) (by rw [hz2]; omega)
    have hGn := grownCap_ge w n 0 5
    have hGm := grownCap_le_maxLen w n 0 5 (by unfold maxLen; omega)
    obtain ⟨G, hG⟩ : ∃ G, grownCap w n 0 5 = G := ⟨_, rfl⟩
    rw [hG] at hGn hGm
    simp only [hG] at hrz
    have hG63 : G ≤ 9223372036854775807 := by unfold maxLen at hGm; omega
    obtain ⟨W, hW⟩ : ∃ W, w.drew.alloc (.cells (Builtin.zeroCells (Value.cells (.int .u8 0)) n ++ Builtin.zeroCells (Value.cells (.int .u8 0)) (G - n)) 5) = W := ⟨_, rfl⟩
    have HD : Hid (OwnB w.heap.size W (.slice (some ⟨w.heap.size, 0, none⟩) 0 G) [] ∧ Below w.heap.size w W) := by
      refine ⟨⟨rfl, Or.inr ⟨w.heap.size, G, _, rfl, Nat.le_refl _, by rw [← hW]; exact heap_alloc_new w.drew _, Nat.zero_le _, hGm, ?_, rfl⟩⟩, ?_⟩
      · simp only [Array.size_append, size_zeroCells]
        simp [Value.cells]
        omega
      · rw [← hW]
        exact (Below.refl w.heap.size w).drew.alloc (Nat.le_refl _) _
    simp only [hW] at hrz
    clear hW hG
    go_enter Tryz.func163, Tryz.ntmps163
    go_wp2_with (at_builtin; refine Lib.wpList_append_run _ rfl _ _ _ _ rfl _ _ rfl rfl _ _ (hrz _) ?_)
    go_ret
    exact ⟨_, rfl, (unhide HD).1, (unhide HD).2⟩

/-- Parts that lie in a row of slices. -/
def Parts (w : World) (Z : Nat) (ps : List Bs) : Prop := ∀ k (hk : k < ps.length), ∃ a c, w.cell? ⟨Z, k, none⟩ = some (.slice a ps[k].length c) ∧ BAt w a ps[k]
theorem Parts.low {w w' : World} {Z : Nat} {ps : List Bs} (h : Parts w Z ps) (hb : Below w.heap.size w w') : Parts w' Z ps := fun k hk => by
  obtain ⟨a, c, h1, h2⟩ := h k hk
  exact ⟨a, c, (hb.cell (lt_of_cell h1)).trans h1, h2.low hb⟩

theorem flat_snoc {ps : List Bs} {k : Nat} (hk : k < ps.length) : (ps.take (k + 1)).flatten = (ps.take k).flatten ++ ps[k] := by
  rw [List.take_add_one, List.getElem?_eq_getElem hk, List.flatten_append]
  simp
theorem flat_le (ps : List Bs) (k : Nat) : (ps.take k).flatten.length ≤ ps.flatten.length := by
  have e : ps.flatten = (ps.take k).flatten ++ (ps.drop k).flatten := by rw [← List.flatten_append, List.take_append_drop]
  rw [e, List.length_append]
  omega

set_option maxRecDepth 100000 in
set_option maxHeartbeats 4000000 in
theorem concat_any {w : World} {Z q : Nat} {ps : List Bs} (hq : ps.length = q) (hq2 : q ≤ 1000) (hl : ps.flatten.length ≤ 1073741824) (h : Parts w Z ps) :
    Calls Tryz.prog 117 #[.slice (some ⟨Z, 0, none⟩) q q] w fun e w' => ∃ v, e = .returned v ∧ OwnB w.heap.size w' v ps.flatten ∧ Below w.heap.size w w' := by
  have HQ := hide hq
  have H := hide h
  have HL := hide hl
  clear hq h hl
  go_enter Tryz.func117, Tryz.ntmps117
  go_wp2
  go_loopw [3, 5, 11] (fun v3 _ v11 wr => wr = w ∧ ∃ k : Nat, k ≤ q ∧ v11 = .int .i64 (k : Int) ∧ v3 = .int .i64 (((ps.take k).flatten.length : Nat) : Int)) (fun _ _ v11 _ => q - (intOf v11).toNat)
  case atStart => exact ⟨rfl, 0, Nat.zero_le _, rfl, rfl⟩
  case round =>
    obtain ⟨rfl, k, hk, rfl, rfl⟩ := hrel
    by_cases hlt : k < q
    · have hkq : k < ps.length := by rw [unhide HQ]; exact hlt
      obtain ⟨a, c, hc, _⟩ := unhide H k hkq
      have hs := congrArg List.length (flat_snoc hkq)
      rw [List.length_append] at hs
      have hle := Nat.le_trans (flat_le ps (k + 1)) (unhide HL)
      obtain ⟨m, hm⟩ : ∃ m, (ps.take k).flatten.length = m := ⟨_, rfl⟩
      obtain ⟨n, hn⟩ : ∃ n, ps[k].length = n := ⟨_, rfl⟩
      obtain ⟨t, ht⟩ : ∃ t, (ps.take (k + 1)).flatten.length = t := ⟨_, rfl⟩
      rw [ht, hm, hn] at hs
      rw [ht] at hle
      rw [hn] at hc
      rw [hm]
      have e1 : (m : Int) + (n : Int) = (t : Int) := by omega
      have HT := hide ht
      have hneg : ¬ ((t : Int) < 0) := by omega
      clear hs hm hn ht
      go_wp2
      go_roundw
      case rel => exact ⟨by trivial, k + 1, hlt, by simp, by rw [unhide HT]⟩
      case measure => simp [intOf]; omega
    · have hkq : k = q := by omega
      subst hkq
      have e0 : ps.take k = ps := List.take_of_length_le (by rw [unhide HQ]; omega)
      rw [e0]
      obtain ⟨t, ht⟩ : ∃ t, ps.flatten.length = t := ⟨_, rfl⟩
      have hle := unhide HL
      rw [ht] at hle
      rw [ht]
      have HG := hide (fun w => grow_any (n := t) hle w)
      have HE := hide e0
      clear e0 ht
      go_wp2_with (go_at_call 163; fail)
      refine (unhide HG _).mono ?_
      rintro e w1 ⟨v1, rfl, l1, b1⟩
      have HO1 := hide l1
      have HB1 := hide b1
      clear l1 b1 HG
      go_wp2
      go_loopw [6, 8, 27] (fun v6 _ v27 wq => Below wr.heap.size wr wq ∧ ∃ j : Nat, j ≤ k ∧ v27 = .int .i64 (j : Int) ∧ OwnB wr.heap.size wq v6 (ps.take j).flatten) (fun _ _ v27 _ => k - (intOf v27).toNat)
      case atStart => exact ⟨unhide HB1, 0, Nat.zero_le _, rfl, unhide HO1⟩
      case round =>
        rename World => wq
        obtain ⟨hlow, j, hj, rfl, ho⟩ := hrel
        by_cases hjt : j < k
        · have hjq : j < ps.length := by rw [unhide HQ]; exact hjt
          obtain ⟨a, c, hc, hb⟩ := (unhide H).low hlow j hjq
          have hs := flat_snoc hjq
          have hle2 := Nat.le_trans (flat_le ps (j + 1)) (unhide HL)
          rw [hs, List.length_append] at hle2
          obtain ⟨v', w', hr, h2, h3⟩ := app_at (c := c) rfl hb ho hlow.size (by omega)
          rw [← hs] at h2
          have HD : Hid (OwnB wr.heap.size w' v' (ps.take (j + 1)).flatten ∧ Below wr.heap.size wr w') := hide ⟨h2, hlow.trans (h3.low hlow.size (OwnB.base ho))⟩
          obtain ⟨n, hn⟩ : ∃ n, ps[j].length = n := ⟨_, rfl⟩
          rw [hn] at hc hr
          clear ho hlow h2 h3 hs hle2 hb hn HO1 HB1
          go_wp2_with (at_builtin; refine Lib.wpList_append_run _ rfl _ _ _ _ rfl _ _ rfl rfl _ _ hr ?_)
          go_roundw
          case rel => exact ⟨(unhide HD).2, j + 1, hjt, by simp, (unhide HD).1⟩
          case measure => simp [intOf]; omega
        · have hjk : j = k := by omega
          subst hjk
          rw [unhide HE] at ho
          have HD := hide ho
          have HLW := hide hlow
          clear ho hlow HO1 HB1
          go_wp2
          go_ret
          exact ⟨_, rfl, unhide HD, unhide HLW⟩

def leafL (b : Bs) : Bs := shaL (0 :: b)
def nodeL (a b : Bs) : Bs := shaL (1 :: (a ++ b))

theorem sha_own {w : World} {B : Nat} {v : Value} {b : Bs} (h : OwnB B w v b) (hl : b.length ≤ 1073741824) : Calls Tryz.prog 27 #[v] w fun e w' => ∃ v', e = .returned v' ∧ OwnB w.heap.size w' v' (shaL b) ∧ Below w.heap.size w w' := by
  obtain ⟨a, c, rfl, hb, h1, h2⟩ := OwnB.at h
  refine sha_any rfl (by omega) h1 (by unfold maxLen at h2; omega) ?_ hb
  rcases h.2 with ⟨e, _⟩ | ⟨g, cap, cur, e, _⟩
  · exact Or.inl (Value.slice.inj e).1
  · exact Or.inr ⟨_, _, (Value.slice.inj e).1⟩

end Go.Proofs.YtkablmjkffdloaaGreatDoor
