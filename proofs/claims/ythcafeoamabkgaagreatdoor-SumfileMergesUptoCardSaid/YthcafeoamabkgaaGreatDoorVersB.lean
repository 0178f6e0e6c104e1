/-
  The contracts of parseNumbers, parse, ValidVersion, Parts.
-/
import Derived.Test.YthcafeoamabkgaaGreatDoorVersA
namespace Go.Proofs.YthcafeoamabkgaaGreatDoor
open Go.RowKit

/-- A block that is not frozen. -/
def Blk (w : World) (b : Nat) (cs : Array Value) (t : TypeId) : Prop := w.heap[b]? = some (.cells cs t (0, 0))
theorem Blk.cell {w : World} {b : Nat} {cs : Array Value} {t : TypeId} (h : Blk w b cs t) (i : Nat) : w.cell? ⟨b, i, none⟩ = cs[i]? := Lib.cell_of_heap h i
theorem Blk.free {w : World} {b : Nat} {cs : Array Value} {t : TypeId} (h : Blk w b cs t) (i : Nat) : w.frozen? ⟨b, i, none⟩ = false := Lib.frozen_of_heap h i
theorem Blk.below {w w' : World} {b : Nat} {cs : Array Value} {t : TypeId} (h : Blk w b cs t) (hb : Bel w.heap.size w w') : Blk w' b cs t := by
  unfold Blk at h ⊢
  rw [hb.block b (by apply Classical.byContradiction; intro hn; rw [Array.getElem?_eq_none (by omega)] at h; cases h)]
  exact h
theorem Blk.lt {w : World} {b : Nat} {cs : Array Value} {t : TypeId} (h : Blk w b cs t) : b < w.heap.size := by
  unfold Blk at h
  apply Classical.byContradiction; intro hn; rw [Array.getElem?_eq_none (by omega)] at h; cases h
theorem Blk.new (w : World) (cs : Array Value) (t : TypeId) : Blk (w.alloc (.cells cs t)) w.heap.size cs t := heap_new w _
theorem Blk.alloc {w : World} {b : Nat} {cs : Array Value} {t : TypeId} (h : Blk w b cs t) (o : Obj) : Blk (w.alloc o) b cs t := h.below ((Bel.refl _ _).alloc (Nat.le_refl _) o)
theorem Blk.drewN {w : World} {b : Nat} {cs : Array Value} {t : TypeId} (h : Blk w b cs t) (n : Nat) : Blk (w.drewN n) b cs t := h

def zero3 : Array Value := #[.int .i64 0, .int .i64 0, .int .i64 0]

theorem parseNumbers_len {l : Str} (hl : l.length < 4294967281) (h3 : (pieces 46 l).length ≠ 3) {w : World} (hg : Gd w) : Gives 217 #[.string (ba l)] w (.tuple #[.agg #[.int .i64 0, .int .i64 0, .int .i64 0], .bool false]) := by
  unfold Gives
  have hq : ((pieces 46 l).length : Int) ≠ 3 := by omega
  have e46 : (⟨#[46]⟩ : ByteArray) = ba [46] := rfl
  have b0 : Bel w.heap.size w ((w.alloc (.cells #[.int .i64 0, .int .i64 0, .int .i64 0] 203)).alloc (.cells #[.int .i64 0, .int .i64 0, .int .i64 0] 203)) := ((Bel.refl _ _).alloc (Nat.le_refl _) _).alloc (by simp) _
  go_enter Tryz.func217, Tryz.ntmps217
  go_wp2_with (go_at_call 76; fail)
  refine (split_any 46 hl (hg.below b0)).mono ?_
  rintro e w1 ⟨B, rfl, ht, hB, hb⟩
  have k1 : Blk w1 w.heap.size #[.int .i64 0, .int .i64 0, .int .i64 0] 203 := ((Blk.new w _ 203).alloc _).below hb
  have c0 := k1.cell 0
  have c1 := k1.cell 1
  have c2 := k1.cell 2
  have f0 := k1.free 0
  have f1 := k1.free 1
  have f2 := k1.free 2
  have hb1 : Bel w.heap.size w w1 := b0.trans (hb.mono b0.size)
  simp at c0 c1 c2
  clear ht hb b0
  go_wp2
  exact bodyPost_ret (v := .tuple #[.agg #[.int .i64 0, .int .i64 0, .int .i64 0], .bool false]) (by simp [results, Tryz.results217, go_sem, c0, c1, c2]) rfl ⟨rfl, ((hb1.setCell (Nat.le_refl _) _).setCell (Nat.le_refl _) _).setCell (Nat.le_refl _) _⟩

theorem heap_setCell_at {w : World} {F i : Nat} {cs : Array Value} {e : TypeId} {fr : Nat × Nat} (h : w.heap[F]? = some (.cells cs e fr)) (v : Value) :
    (w.setCell ⟨F, i, none⟩ v).heap[F]? = some (.cells (cs.setIfInBounds i v) e fr) := by
  simp only [World.setCell]
  rw [Array.getElem?_modify]
  simp [h]
theorem Blk.set {w : World} {b : Nat} {cs : Array Value} {t : TypeId} (h : Blk w b cs t) (i : Nat) (v : Value) : Blk (w.setCell ⟨b, i, none⟩ v) b (cs.setIfInBounds i v) t := heap_setCell_at h v
theorem Blk.other {w : World} {b : Nat} {cs : Array Value} {t : TypeId} (h : Blk w b cs t) {a : Addr} (hne : b ≠ a.block) (v : Value) : Blk (w.setCell a v) b cs t := (Below.heap_setCell _ _ _ _ hne).trans h

/-- The numbers read so far. -/
def numsA (ps : List Str) (k : Nat) : Array Value := #[.int .i64 (if 0 < k then (numVal (ps.getD 0 []) : Int) else 0), .int .i64 (if 1 < k then (numVal (ps.getD 1 []) : Int) else 0), .int .i64 (if 2 < k then (numVal (ps.getD 2 []) : Int) else 0)]
theorem numsA_set (ps : List Str) (k : Nat) (hk : k < 3) : (numsA ps k).setIfInBounds k (.int .i64 (numVal (ps.getD k []) : Int)) = numsA ps (k + 1) := by
  match k, hk with
  | 0, _ => rfl
  | 1, _ => rfl
  | 2, _ => rfl
theorem numsA_get (ps : List Str) (k j : Nat) (hj : j < 3) : ∃ n, (numsA ps k)[j]? = some (.int .i64 n) := by
  match j, hj with
  | 0, _ => exact ⟨_, rfl⟩
  | 1, _ => exact ⟨_, rfl⟩
  | 2, _ => exact ⟨_, rfl⟩

/-- What parseNumbers answers of three pieces. -/
def numsV (ps : List Str) : Value := if ps.all numOk then .tuple #[.agg (numsA ps 3), .bool true] else .tuple #[.agg #[.int .i64 0, .int .i64 0, .int .i64 0], .bool false]
theorem numsV_no {ps : List Str} (h : ps.all numOk = false) : numsV ps = .tuple #[.agg #[.int .i64 0, .int .i64 0, .int .i64 0], .bool false] := by unfold numsV; rw [h]; rfl
theorem numsV_yes {ps : List Str} (h : ps.all numOk = true) : numsV ps = .tuple #[.agg (numsA ps 3), .bool true] := by unfold numsV; rw [h]; rfl
theorem retv {a b : Value} (h : a = b) : Ending.returned a = .returned b := by rw [h]

set_option maxHeartbeats 1000000 in
theorem parseNumbers_three {l : Str} (hl : l.length < 4294967281) (h3 : (pieces 46 l).length = 3) {w : World} (hg : Gd w) : Gives 217 #[.string (ba l)] w (numsV (pieces 46 l)) := by
  unfold Gives
  have hq : ((pieces 46 l).length : Int) = 3 := by omega
  have e46 : (⟨#[46]⟩ : ByteArray) = ba [46] := rfl
  have b0 : Bel w.heap.size w ((w.alloc (.cells #[.int .i64 0, .int .i64 0, .int .i64 0] 203)).alloc (.cells #[.int .i64 0, .int .i64 0, .int .i64 0] 203)) := ((Bel.refl _ _).alloc (Nat.le_refl _) _).alloc (by simp) _
  have HS : Hid (∀ p ∈ pieces 46 l, p.length ≤ 4294967281) := fun p hp => by have := pieces_small 46 l p hp; omega
  go_enter Tryz.func217, Tryz.ntmps217
  go_wp2_with (go_at_call 76; fail)
  refine (split_any 46 hl (hg.below b0)).mono ?_
  rintro e w1 ⟨B, rfl, ht, hB, hb⟩
  have k1 : Blk w1 w.heap.size #[.int .i64 0, .int .i64 0, .int .i64 0] 203 := ((Blk.new w _ 203).alloc _).below hb
  have k2 : Blk w1 (w.heap.size + 1) (numsA (pieces 46 l) 0) 203 := by
    have := (Blk.new (w.alloc (.cells #[.int .i64 0, .int .i64 0, .int .i64 0] 203)) #[.int .i64 0, .int .i64 0, .int .i64 0] 203).below hb
    have e : (w.alloc (.cells #[.int .i64 0, .int .i64 0, .int .i64 0] 203)).heap.size = w.heap.size + 1 := by simp
    rw [e] at this
    exact this
  have hb1 : Bel w.heap.size w w1 := b0.trans (hb.mono b0.size)
  have HB : Hid (B ≠ w.heap.size + 1) := by
    have h2 := hB.2
    simp at h2
    show B ≠ _
    omega
  have hB := hB.1
  have K1 := hide k1
  have K2 := hide k2
  have HT := hide ht
  have H3 := hide h3
  clear ht hb b0 k1 k2 h3
  go_wp2
  go_loopw [18] (fun i wr => ∃ k : Nat, k ≤ 3 ∧ i = .int .i64 k ∧ ((pieces 46 l).take k).all numOk = true ∧ Texts wr B (pieces 46 l) ∧ B < wr.heap.size ∧ Blk wr w.heap.size #[.int .i64 0, .int .i64 0, .int .i64 0] 203 ∧ Blk wr (w.heap.size + 1) (numsA (pieces 46 l) k) 203 ∧ Bel w.heap.size w wr) (fun i _ => 3 - (intOf i).toNat)
  case atStart => exact ⟨0, by omega, rfl, rfl, unhide HT, hB, unhide K1, unhide K2, hb1⟩
  case round =>
    obtain ⟨k, hk, rfl, hall, ht, hBr, r1, r2, rb⟩ := hrel
    have HA := hide hall
    have HT := hide ht
    have R1 := hide r1
    have R2 := hide r2
    have RB := hide rb
    clear hall ht r1 r2 rb
    by_cases hlt : k < 3
    · have hkl : k < (pieces 46 l).length := by rw [unhide H3]; exact hlt
      have hc := (unhide HT) k hkl
      go_wp2_with (go_at_call 215; fail)
      cases hv : numOk (pieces 46 l)[k] with
      | false =>
        have HF := hide (numsV_no (all_no hkl hv))
        refine (number_no ((unhide HS) _ (List.getElem_mem hkl)) hv _).mono ?_
        rintro e w2 ⟨rfl, b2⟩
        have k1 := (unhide R1).below b2
        have c0 := k1.cell 0
        have c1 := k1.cell 1
        have c2 := k1.cell 2
        have f0 := k1.free 0
        have f1 := k1.free 1
        have f2 := k1.free 2
        have hb2 := (unhide RB).trans (b2.mono (unhide RB).size)
        have HB2 := hide hb2
        simp at c0 c1 c2
        clear hb2 b2 hv hc
        go_wp2
        exact bodyPost_ret (v := .tuple #[.agg #[.int .i64 0, .int .i64 0, .int .i64 0], .bool false]) (by simp [results, Tryz.results217, go_sem, c0, c1, c2]) rfl ⟨retv (unhide HF).symm, (((unhide HB2).setCell (Nat.le_refl _) _).setCell (Nat.le_refl _) _).setCell (Nat.le_refl _) _⟩
      | true =>
        have HF := hide (all_take (unhide HA) hkl hv)
        refine (number_ok hv _).mono ?_
        rintro e w2 ⟨rfl, b2⟩
        have hB2 : B < w2.heap.size := Nat.lt_of_lt_of_le hBr b2.size
        have T2 := hide ((unhide HT).below hBr b2)
        have K1 := hide ((unhide R1).below b2)
        have K2 := hide ((unhide R2).below b2)
        have BB := hide ((unhide RB).trans (b2.mono (unhide RB).size))
        obtain ⟨n0, hn0⟩ := numsA_get (pieces 46 l) k k hlt
        have cN : w2.cell? ⟨w.heap.size + 1, k, none⟩ = some (.int .i64 n0) := by rw [(unhide K2).cell k]; exact hn0
        have fN := (unhide K2).free k
        have HD : Hid ((pieces 46 l).getD k [] = (pieces 46 l)[k]) := by show (pieces 46 l).getD k [] = _; simp [List.getD, hkl]
        clear b2 hc hv HA HT R1 R2 RB hn0
        go_wp2
        go_roundw
        case rel =>
          refine ⟨k + 1, hlt, by simp, unhide HF, ?_, by simpa using hB2, (unhide K1).other (by simp) _, ?_, (unhide BB).setCell (by simp) _⟩
          · intro j hj
            have := (unhide T2) j hj
            rw [← this]
            exact World.cell?_of_block (Below.heap_setCell _ _ _ _ (unhide HB))
          · have := (unhide K2).set k (.int .i64 (numVal ((pieces 46 l).getD k []) : Int))
            rw [numsA_set _ _ hlt, unhide HD] at this
            exact this
        case measure => simp [intOf]; omega
    · have hke : k = 3 := by omega
      subst hke
      have HF : Hid (numsV (pieces 46 l) = .tuple #[.agg (numsA (pieces 46 l) 3), .bool true]) := by
        have := unhide HA
        rw [← unhide H3, List.take_length] at this
        exact numsV_yes this
      have c0 := (unhide R1).cell 0
      have c1 := (unhide R1).cell 1
      have c2 := (unhide R1).cell 2
      have f0 := (unhide R1).free 0
      have f1 := (unhide R1).free 1
      have f2 := (unhide R1).free 2
      simp at c0 c1 c2
      have d0 : wr.cell? ⟨w.heap.size + 1, 0, none⟩ = some (.int .i64 (numVal ((pieces 46 l).getD 0 []))) := (unhide R2).cell 0
      have d1 : wr.cell? ⟨w.heap.size + 1, 1, none⟩ = some (.int .i64 (numVal ((pieces 46 l).getD 1 []))) := (unhide R2).cell 1
      have d2 : wr.cell? ⟨w.heap.size + 1, 2, none⟩ = some (.int .i64 (numVal ((pieces 46 l).getD 2 []))) := (unhide R2).cell 2
      go_wp2
      exact bodyPost_ret (v := .tuple #[.agg (numsA (pieces 46 l) 3), .bool true]) (by simp [results, Tryz.results217, go_sem, c0, c1, c2, numsA]) rfl ⟨retv (unhide HF).symm, (((unhide RB).setCell (Nat.le_refl _) _).setCell (Nat.le_refl _) _).setCell (Nat.le_refl _) _⟩

end Go.Proofs.YthcafeoamabkgaaGreatDoor
