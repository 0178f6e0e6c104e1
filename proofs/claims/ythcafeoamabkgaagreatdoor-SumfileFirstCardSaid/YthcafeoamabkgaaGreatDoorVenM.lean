/-
  vendorSorted.
-/
import Derived.Test.YthcafeoamabkgaaGreatDoorVenL
import Derived.Test.YthcafeoamabkgaaGreatDoorVenY
namespace Go.Proofs.YthcafeoamabkgaaGreatDoor
open Go.RowKit

theorem rowT_mono {w : World} {A B n k : Nat} {T : TypeId} {v : Value} {xs : List Value} (h : w.ownsRow B T k v n xs) (hAB : A ≤ B) : w.ownsRow A T k v n xs := by
  refine ⟨h.1, ?_⟩
  rcases h.2 with h | ⟨g, cap, cur, e, hb, rest⟩
  · exact Or.inl h
  · exact Or.inr ⟨g, cap, cur, e, Nat.le_trans hAB hb, rest⟩
theorem rowT_cell {w : World} {base n k g cap : Nat} {T : TypeId} {xs : List Value} (h : w.ownsRow base T k (.slice (some ⟨g, 0, none⟩) n cap) n xs) {j : Nat} {u : Value} (hu : xs[j]? = some u) : w.cell? ⟨g, j, none⟩ = some u := by
  rcases h.2 with ⟨e, _⟩ | ⟨g', cap', cur, e, _, hb, _, _, _, ht⟩
  · cases e
  · cases e
    have hj : j < n * k := by
      have := (List.getElem?_eq_some_iff.1 hu).1
      rwa [h.1] at this
    rw [Lib.cell_of_heap hb]
    rw [← ht, List.getElem?_take_of_lt hj] at hu
    simpa using hu

theorem vds_at (rs : List (Vd × Value)) (z : Vd × Value) (r : List (Vd × Value)) : (vdsV (rs ++ z :: r))[rs.length * 4]? = some (.string (ba z.1.m.1)) ∧ (vdsV (rs ++ z :: r))[rs.length * 4 + 1]? = some (.string (ba z.1.m.2)) ∧ (vdsV (rs ++ z :: r))[rs.length * 4 + 2]? = some (.bool z.1.x) ∧ (vdsV (rs ++ z :: r))[rs.length * 4 + 3]? = some z.2 := by
  have h : ∀ j, (vdsV (rs ++ z :: r))[rs.length * 4 + j]? = (vdsV (z :: r))[j]? := fun j => by
    rw [vdsV_append, List.getElem?_append_right (by rw [vdsV_length]; omega), vdsV_length, Nat.add_sub_cancel_left]
  exact ⟨h 0, h 1, h 2, h 3⟩
theorem vds_setm (rs : List (Vd × Value)) (z : Vd × Value) (r : List (Vd × Value)) (s : Value) (pk : List Str) : (vdsV (rs ++ z :: r)).set (rs.length * 4 + 3) s = vdsV ((rs ++ [((⟨z.1.m, z.1.x, pk⟩ : Vd), s)]) ++ r) := by
  rw [vdsV_append, List.append_assoc, vdsV_append, List.set_append_right _ _ (by rw [vdsV_length]; omega), vdsV_length]
  congr 1
  rw [Nat.add_sub_cancel_left]
  rfl

/-- An element, and what stands for it behind the sort. -/
def Elt (z : VE) (r : Vd × Value) : Prop := r.1.m = z.1.m ∧ r.1.x = z.1.x ∧ r.1.pk.Perm z.1.pk ∧ RisingS r.1.pk

/-- How far the sort of the packages has come. -/
structure VMid (w wr : World) (v : Value) (ys : List VE) (i : Nat) (rs : List (Vd × Value)) : Prop where
  low : Below w.heap.size w wr
  len : rs.length = i
  elt : ∀ j (h1 : j < rs.length) (h2 : j < ys.length), Elt ys[j] rs[j]
  row : wr.ownsRow w.heap.size 81 4 v ys.length (vdsV (rs ++ (ys.drop i).map vv))
  all : VAll w wr rs

/-- What vendorSorted answers. -/
def VSorted (w : World) (zs : List VE) (v' : Value) (w' : World) : Prop :=
  ∃ ys : List VE, ys.Perm zs ∧ RisingV ys ∧ ∃ rs, VMid w w' v' ys ys.length rs

/-- The packages of each element, as they can be read. -/
def PacksR (w : World) (zs : List VE) : Prop := ∀ z ∈ zs, z.1.pk.length = z.2.2.1 ∧ z.2.2.1 ≤ 1000000 ∧ (z.1.pk = [] ∨ PlainA z.2.1) ∧ RowS w z.2.1 z.1.pk

theorem VMid.next {w wr w5 : World} {g cap i : Nat} {ys : List VE} {rs : List (Vd × Value)} {y : VE} {s : Value} (h : VMid w wr (.slice (some ⟨g, 0, none⟩) ys.length cap) ys i rs) (hi : i < ys.length) (hy : ys[i] = y) (b4 : Below wr.heap.size wr w5) (w4 : World) (h4 : w.heap.size ≤ w4.heap.size) (hs : ∃ qs : List Str, qs.Perm y.1.pk ∧ RisingS qs ∧ w5.ownsRow w4.heap.size 9 1 s qs.length (strsV qs)) :
    ∃ rs', VMid w (w5.setCell ⟨g, i * 4 + 3, none⟩ s) (.slice (some ⟨g, 0, none⟩) ys.length cap) ys (i + 1) rs' := by
  obtain ⟨qs, q1, q2, q3⟩ := hs
  have hli := h.len
  subst hli
  have hd : ys.drop rs.length = y :: ys.drop (rs.length + 1) := by rw [← hy]; exact List.drop_eq_getElem_cons hi
  have hrow := h.row
  rw [hd, List.map_cons] at hrow
  have hrow5 := rowT_low hrow b4
  obtain ⟨hg, cur, hb⟩ := rowT hrow5 (g := g) rfl
  have hset := rowT_set (j := rs.length * 4 + 3) hrow5 (by omega) s
  rw [vds_setm rs (vv y) _ s qs] at hset
  have far : ∀ k, k ≠ g → (w5.setCell ⟨g, rs.length * 4 + 3, none⟩ s).heap[k]? = w5.heap[k]? := fun k hk => Below.heap_setCell _ _ _ _ hk
  have h9 : ∀ {A : Nat} {v : Value} {m : Nat} {xs : List Value}, w5.ownsRow A 9 1 v m xs → (w5.setCell ⟨g, rs.length * 4 + 3, none⟩ s).ownsRow A 9 1 v m xs := fun hr => rowT_same hr fun b hbb => far b (fun e => by
    obtain ⟨_, c, hc⟩ := rowT hr hbb
    rw [e, hb] at hc
    simp at hc)
  refine ⟨rs ++ [((⟨(vv y).1.m, (vv y).1.x, qs⟩ : Vd), s)], ⟨(h.low.trans (b4.mono h.low.size)).setCell (p := ⟨g, rs.length * 4 + 3, none⟩) hg _, by simp, ?_, hset, ?_⟩⟩
  · intro j h1 h2
    by_cases hj : j < rs.length
    · rw [List.getElem_append_left hj]
      exact h.elt j hj h2
    · have ej : j = rs.length := by simp at h1; omega
      subst ej
      simp only [List.getElem_concat_length]
      rw [hy]
      exact ⟨rfl, rfl, q1, q2⟩
  · intro z hz
    rcases List.mem_append.1 hz with hz | hz
    · exact h9 (rowT_low (h.all z hz) b4)
    · rw [List.mem_singleton] at hz
      subst hz
      exact h9 (rowT_mono q3 h4)

set_option maxRecDepth 100000 in
set_option maxHeartbeats 4000000 in
theorem vendorSorted_any {w : World} {a : Option Addr} {n c : Nat} {zs : List VE} (hg : Gd w) (hn : zs.length = n) (hN : n ≤ 1000000) (hp : PlainA a) (h : RowV w a zs) (hk : PacksR w zs) :
    Calls Tryz.prog 57 #[.slice a n c] w fun e w' => ∃ v', e = .returned v' ∧ VSorted w zs v' w' := by
  have HC := hide (sortedV_any (c := c) hg hn hN hp h)
  have HK := hide hk
  have hn2 : zs.length ≤ 1000000 := by omega
  clear h hg hp hk hN hn
  go_enter Tryz.func57, Tryz.ntmps57
  go_wp2_with (go_at_call 100; fail)
  refine (unhide HC).mono ?_
  rintro e w1 ⟨v', rfl, ys, hpm, hri, hrow, hb⟩
  obtain ⟨a0, cap, rfl⟩ := slice_own hrow
  have hlen : ys.length ≤ 1000000 := by rw [hpm.length_eq]; exact hn2
  have HM := hide (show VMid w w1 (.slice a0 ys.length cap) ys 0 [] from ⟨hb, rfl, fun j hj => by simp at hj, hrow, fun z hz => by cases hz⟩)
  have HP := hide hpm
  have HR := hide hri
  clear hpm hri hrow hb HC hn2
  obtain ⟨N, hNl⟩ : ∃ N, ys.length = N := ⟨_, rfl⟩
  have HNL := hide hNl
  rw [hNl] at HM hlen ⊢
  clear hNl
  go_wp2
  go_loopw [4, 5, 10] (fun _ _ v10 wr => ∃ i : Nat, i ≤ N ∧ v10 = .int .i64 i ∧ ∃ rs, VMid w wr (.slice a0 N cap) ys i rs) (fun _ _ v10 _ => N - (intOf v10).toNat)
  case atStart => exact ⟨0, Nat.zero_le _, rfl, _, unhide HM⟩
  case round =>
    rename World => wr
    obtain ⟨i, hi, rfl, rs, hm⟩ := hrel
    clear HM
    by_cases hlt : i < N
    · have hN := unhide HNL
      have hi' : i < ys.length := by omega
      obtain ⟨g, rfl⟩ : ∃ g, a0 = some ⟨g, 0, none⟩ := by
        rcases hm.row.2 with ⟨_, h0⟩ | ⟨g, _, _, e, _⟩
        · omega
        · cases e; exact ⟨g, rfl⟩
      obtain ⟨y, hy⟩ : ∃ y, ys[i] = y := ⟨_, rfl⟩
      have hym : y ∈ zs := (unhide HP).mem_iff.1 (by rw [← hy]; exact List.getElem_mem hi')
      obtain ⟨k1, k2, k3, k4⟩ := unhide HK y hym
      have hli := hm.len
      have hrow := hm.row
      have hd : ys.drop i = y :: ys.drop (i + 1) := by rw [← hy]; exact List.drop_eq_getElem_cons hi'
      rw [hd, List.map_cons, hN] at hrow
      obtain ⟨a1, a2, a3, a4⟩ := vds_at rs (vv y) ((ys.drop (i + 1)).map vv)
      rw [hli] at a1 a2 a3 a4
      have c0 := rowT_cell hrow a1
      have c1 := rowT_cell hrow a2
      have c2 := rowT_cell hrow a3
      have c3 := rowT_cell hrow a4
      obtain ⟨_, cur, hblk⟩ := rowT hrow (g := g) rfl
      have hgl : g < wr.heap.size := (Array.getElem?_eq_some_iff.1 hblk).1
      obtain ⟨⟨⟨p, v⟩, x, pk⟩, ay, ny, cy⟩ := y
      simp only [vv] at c0 c1 c2 c3 k1 k2 k3 k4
      obtain ⟨W4, hW4⟩ : ∃ W4, wr.alloc (.cells #[.string (ba p), .string (ba v), .bool x, .slice ay ny cy] 81) = W4 := ⟨_, rfl⟩
      have b4 : Below wr.heap.size wr W4 := by rw [← hW4]; exact (Below.refl _ _).alloc (Nat.le_refl _) _
      have q4 : Blk W4 wr.heap.size #[.string (ba p), .string (ba v), .bool x, .slice ay ny cy] 81 := by rw [← hW4]; exact Blk.new _ _ _
      have l3 : W4.cell? ⟨wr.heap.size, 3, none⟩ = some (.slice ay ny cy) := q4.cell 3
      have HS := hide (sortedS_any (w := W4) (a := ay) (n := ny) (c := cy) (ps := pk) k1 k2 k3 (k4.low (low_trans hm.low b4)))
      have h4 : w.heap.size ≤ W4.heap.size := Nat.le_trans hm.low.size b4.size
      have HB4 := hide b4
      have HH4 := hide h4
      have HMM := hide hm
      have HY : Hid (∀ h : i < ys.length, ys[i] = ((⟨(p, v), x, pk⟩ : Vd), ay, ny, cy)) := hide (fun _ => hy)
      have HI := hide hi'
      have HC3 := hide (And.intro hgl (And.intro c3 hblk))
      have HW4 := hide hW4
      clear hm hy hi' hli hrow hd a1 a2 a3 a4 k1 k2 k3 k4 b4 q4 hym h4 hblk hgl hN hW4
      go_wp2_with (go_at_call 102; fail)
      rw [unhide HW4]
      refine (unhide HS).mono ?_
      rintro e w5 ⟨s, rfl, qs, q1, q2, q3, b5⟩
      obtain ⟨a9, c9, rfl⟩ := slice_own q3
      obtain ⟨n9, hn9⟩ : ∃ n9, qs.length = n9 := ⟨_, rfl⟩
      have b45 := low_trans (unhide HB4) b5
      have hb5 : w5.heap[g]? = some (.cells cur 81 (0, 0)) := (b45.block g (unhide HC3).1).trans (unhide HC3).2.2
      have e3 : w5.cell? ⟨g, i * 4 + 3, none⟩ = some (.slice ay ny cy) := (b45.cell (p := ⟨g, i * 4 + 3, none⟩) (unhide HC3).1).trans (unhide HC3).2.1
      have ef : w5.frozen? ⟨g, i * 4 + 3, none⟩ = false := Lib.frozen_of_heap hb5 _
      have hnext := VMid.next (g := g) (cap := cap) (s := .slice a9 qs.length c9) (by rw [unhide HNL]; exact unhide HMM) (unhide HI) (unhide HY (unhide HI)) b45 W4 (unhide HH4) ⟨qs, q1, q2, q3⟩
      rw [unhide HNL, hn9] at hnext
      rw [hn9]
      have HX := hide hnext
      clear hnext q1 q2 q3 b5 b45 hb5 hn9
      go_wp2
      go_roundw
      case rel => exact ⟨i + 1, by omega, by simp, unhide HX⟩
      case measure => simp [intOf]; omega
    · have hiN : i = N := by omega
      subst hiN
      have HD : Hid (VSorted w zs (.slice a0 i cap) wr) := hide ⟨ys, unhide HP, unhide HR, rs, by rw [unhide HNL]; exact hm⟩
      clear hm
      go_wp2
      go_ret
      exact ⟨_, rfl, unhide HD⟩

end Go.Proofs.YthcafeoamabkgaaGreatDoor
