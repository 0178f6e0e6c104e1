/-
  What Sort asks of sort.SliceStable: its closure and its row.
-/
import Derived.Test.YtcmafidnaojkiaaGreatDoorSortK
import Derived.Test.YtcmafidnaojkiaaGreatDoorFirst
import Derived.Deep.RegionHeld3
namespace Go.Proofs.YtcmafidnaojkiaaGreatDoor
open Go.RowKit Go.Lib

theorem frozen_same {B : Nat} {a w : World} (h : Below B a w) {p : Addr} (hp : p.block < B) : w.frozen? p = a.frozen? p := by
  have e := h.block p.block hp
  unfold World.frozen?
  rw [e]

theorem RowT.below {blk : Nat} {d : List Str} {a w : World} (h : RowT blk d a) (hb : Below a.heap.size a w) (hin : blk < a.heap.size) : RowT blk d w :=
  fun k hk => ⟨(hb.cell (p := ⟨blk, k, none⟩) hin).trans (h k hk).1, (frozen_same hb (p := ⟨blk, k, none⟩) hin).trans (h k hk).2⟩

/-- The row at work, the closure's variable, and all that was there before. -/
def RSort (w0 : World) (blk Bs n c : Nat) (d : List Str) (w : World) : Prop :=
  d.length = n ∧ RowT blk d w ∧ w.cell? ⟨Bs, 0, none⟩ = some (.slice (some ⟨blk, 0, none⟩) n c) ∧ blk < w.heap.size ∧ Bs < w.heap.size ∧ Below w0.heap.size w0 w

theorem RSort.below {w0 a w : World} {blk Bs n c : Nat} {d : List Str} (h : RSort w0 blk Bs n c d a) (hb : Below a.heap.size a w) : RSort w0 blk Bs n c d w := by
  obtain ⟨h1, h2, h3, h4, h5, h6⟩ := h
  exact ⟨h1, h2.below hb h4, (hb.cell (p := ⟨Bs, 0, none⟩) h5).trans h3, Nat.lt_of_lt_of_le h4 hb.size, Nat.lt_of_lt_of_le h5 hb.size, below_trans h6 hb⟩

theorem RSort.drew {w0 w : World} {blk Bs n c : Nat} {d : List Str} (h : RSort w0 blk Bs n c d w) : RSort w0 blk Bs n c d w.drew := h.below (Below.refl _ _).drew

/-- What holds while the closure reads. -/
def Reads (w0 : World) (blk Bs n c : Nat) (d : List Str) (w w' : World) : Prop := RSort w0 blk Bs n c d w' ∧ Fr blk w w'

theorem reads_via {w0 w wq : World} {blk Bs n c i j : Nat} {d : List Str} {x y : Str} {r : Int} (hg : Gd w0) (hr : cmpV x y = r)
    (hS : wq.cell? ⟨Bs, 0, none⟩ = some (.slice (some ⟨blk, 0, none⟩) n c) ∧ wq.cell? ⟨blk, i, none⟩ = some (.string (ba x)) ∧ wq.cell? ⟨blk, j, none⟩ = some (.string (ba y)) ∧ Reads w0 blk Bs n c d w wq) :
    Calls Tryz.prog 15 #[.string (ba x), .string (ba y)] wq fun e w' => e = .returned (.int .i64 r) ∧ w'.cell? ⟨Bs, 0, none⟩ = some (.slice (some ⟨blk, 0, none⟩) n c) ∧ w'.cell? ⟨blk, i, none⟩ = some (.string (ba x)) ∧ w'.cell? ⟨blk, j, none⟩ = some (.string (ba y)) ∧ Reads w0 blk Bs n c d w w' := by
  obtain ⟨s1, s2, s3, s4, s5⟩ := hS
  obtain ⟨_, _, _, hin, hbs, hb0⟩ := id s4
  refine (cmp_is hr (hg.below hb0)).mono ?_
  rintro e w' ⟨rfl, b⟩
  exact ⟨rfl, (b.cell (p := ⟨Bs, 0, none⟩) hbs).trans s1, (b.cell (p := ⟨blk, i, none⟩) hin).trans s2, (b.cell (p := ⟨blk, j, none⟩) hin).trans s3, s4.below b, s5.trans (Fr.below b)⟩

theorem reads_drew {w0 w wq : World} {blk Bs n c i j : Nat} {d : List Str} {x y : Str}
    (hS : wq.cell? ⟨Bs, 0, none⟩ = some (.slice (some ⟨blk, 0, none⟩) n c) ∧ wq.cell? ⟨blk, i, none⟩ = some (.string (ba x)) ∧ wq.cell? ⟨blk, j, none⟩ = some (.string (ba y)) ∧ Reads w0 blk Bs n c d w wq) :
    wq.drew.cell? ⟨Bs, 0, none⟩ = some (.slice (some ⟨blk, 0, none⟩) n c) ∧ wq.drew.cell? ⟨blk, i, none⟩ = some (.string (ba x)) ∧ wq.drew.cell? ⟨blk, j, none⟩ = some (.string (ba y)) ∧ Reads w0 blk Bs n c d w wq.drew :=
  ⟨hS.1, hS.2.1, hS.2.2.1, hS.2.2.2.1.drew, hS.2.2.2.2.drew⟩

theorem reads_end {w0 w wq : World} {blk Bs n c i j : Nat} {d : List Str} {x y : Str}
    (hS : wq.cell? ⟨Bs, 0, none⟩ = some (.slice (some ⟨blk, 0, none⟩) n c) ∧ wq.cell? ⟨blk, i, none⟩ = some (.string (ba x)) ∧ wq.cell? ⟨blk, j, none⟩ = some (.string (ba y)) ∧ Reads w0 blk Bs n c d w wq) : RSort w0 blk Bs n c d wq ∧ Fr blk w wq := hS.2.2.2

set_option maxHeartbeats 2000000 in
theorem less59 {w0 w : World} {blk Bs n c i j : Nat} {d : List Str} (hg : Gd w0) (_hsm : n ≤ 1099511627776) (hi : i < d.length) (hj : j < d.length) (hR : RSort w0 blk Bs n c d w) :
    Calls Tryz.prog 59 #[.int .i64 (i : Int), .int .i64 (j : Int), .pointer (some ⟨Bs, 0, none⟩)] w fun e w' => e = .returned (.bool (decide (cmpV d[i] d[j] < 0))) ∧ RSort w0 blk Bs n c d w' ∧ Fr blk w w' := by
  obtain ⟨r, hr⟩ : ∃ r, cmpV d[i] d[j] = r := ⟨_, rfl⟩
  have ci := (hR.2.1 i hi).1
  have cj := (hR.2.1 j hj).1
  have c0 := hR.2.2.1
  have hin : i < n := by rw [← hR.1]; exact hi
  have hjn : j < n := by rw [← hR.1]; exact hj
  have H0 : Reads w0 blk Bs n c d w w := ⟨hR, Fr.refl _ _⟩
  rw [hr]
  obtain ⟨x, hx⟩ : ∃ x, d[i] = x := ⟨_, rfl⟩
  obtain ⟨y, hy⟩ : ∃ y, d[j] = y := ⟨_, rfl⟩
  rw [hx] at hr ci
  rw [hy] at hr cj
  have HR := hide hr
  clear hr hx hy hi hj hR
  go_enter Tryz.func59, Tryz.ntmps59
  go_wp2
  go_region_held3 (fun w' => w'.cell? ⟨Bs, 0, none⟩ = some (.slice (some ⟨blk, 0, none⟩) n c) ∧ w'.cell? ⟨blk, i, none⟩ = some (.string (ba x)) ∧ w'.cell? ⟨blk, j, none⟩ = some (.string (ba y)) ∧ Reads w0 blk Bs n c d w w')
    (first | assumption | exact reads_drew (by assumption) | exact ⟨c0, ci, cj, H0⟩ | exact reads_drew ⟨c0, ci, cj, H0⟩)
    (first
      | (go_at_call 15; refine (reads_via hg (unhide HR) (by assumption)).mono ?_; rintro e w' ⟨rfl, k⟩))
  go_wp2
  go_ret
  exact ⟨rfl, reads_end (i := i) (j := j) (x := x) (y := y) (by assumption)⟩

end Go.Proofs.YtcmafidnaojkiaaGreatDoor
