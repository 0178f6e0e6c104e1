/-
  ModLists, all that is its own: Less, rows of modules and their sorting, the reference's SortMods, SameMods, the walk, what came in opened.
-/
import Derived.Test.YtcmafidnaojkiaaGreatDoorRefO
import Derived.Test.YtcmafidnaojkiaaGreatDoorFirst
import Derived.Test.YtcmafidnaojkiaaGreatDoorSortM
import Derived.Deep.RegionHeld3
import Derived.Test.YtcmafidnaojkiaaGreatDoorSortN
import Derived.Test.YtcmafidnaojkiaaGreatDoorSortQ
import Derived.Laws.AppendOwnNone
import Derived.BigQuiet
import Derived.Deep.AppendLies
import Derived.Deep.RegionLaw
import Derived.Deep.DrawnRows
import Derived.Test.YtcmafidnaojkiaaGreatDoorOpenU
namespace Go.Proofs.YtcmafidnaojkiaaGreatDoor
open Go.RowKit

/-- A module: a path, a version. -/
abbrev Md := Str × Str
abbrev modV (p : Md) : Value := .agg #[.string (ba p.1), .string (ba p.2)]
def cmpM (p q : Md) : Int := orI (Lib.compareBytes p.1 q.1) (cmpV p.2 q.2)
theorem orders_m : Orders cmpM := orders_or orders_bytes orders_v
abbrev ltM (p q : Md) : Bool := decide (cmpM p q < 0)

theorem ltM_ne {p q : Md} {r : Int} (h : Lib.compareBytes p.1 q.1 = r) (h0 : r ≠ 0) : ltM p q = decide (r < 0) := by
  show decide (orI (Lib.compareBytes p.1 q.1) _ < 0) = _
  rw [h, or_left h0]
theorem ltM_eq {p q : Md} {r : Int} (h : Lib.compareBytes p.1 q.1 = 0) (hr : cmpV p.2 q.2 = r) : ltM p q = decide (r < 0) := by
  show decide (orI (Lib.compareBytes p.1 q.1) (cmpV p.2 q.2) < 0) = _
  rw [h, hr]; rfl

theorem cmpBytes_is {a b : Str} {r : Int} (h : Lib.compareBytes a b = r) (w : World) : Calls Tryz.prog 52 #[.string (ba a), .string (ba b)] w fun e w' => e = .returned (.int .i64 r) ∧ w' = w := by rw [← h]; exact cmpBytes_any a b w

theorem less_any {p q : Md} {w : World} (hg : Gd w) : Gives 46 #[modV p, modV q] w (.bool (ltM p q)) := by
  unfold Gives
  obtain ⟨p1, p2⟩ := p
  obtain ⟨q1, q2⟩ := q
  obtain ⟨r, hr⟩ : ∃ r, Lib.compareBytes p1 q1 = r := ⟨_, rfl⟩
  have b2 : Below w.heap.size w ((w.alloc (.cells #[.string (ba p1), .string (ba p2)] 45)).alloc (.cells #[.string (ba q1), .string (ba q2)] 45)) := ((Below.refl _ _).alloc (Nat.le_refl _) _).alloc (by simp) _
  by_cases h0 : r = 0
  · obtain ⟨s, hs⟩ : ∃ s, cmpV p2 q2 = s := ⟨_, rfl⟩
    have HV := hide (ltM_eq (p := (p1, p2)) (q := (q1, q2)) (h0 ▸ hr) hs)
    have HR := hide hr
    have HS := hide hs
    subst h0
    clear hr hs
    go_enter Tryz.func46, Tryz.ntmps46
    go_wp2_with (go_at_call 52; fail)
    refine (cmpBytes_is (unhide HR) _).mono ?_
    rintro e w1 ⟨rfl, hw⟩
    rw [hw]; clear hw w1
    go_wp2_with (go_at_call 15; fail)
    refine (cmp_is (unhide HS) (hg.below b2)).mono ?_
    rintro e w1 ⟨rfl, b3⟩
    have b3 := below_trans b2 b3
    go_wp2
    go_ret
    exact ⟨ret_bool (unhide HV).symm, b3⟩
  · have HV := hide (ltM_ne (p := (p1, p2)) (q := (q1, q2)) hr h0)
    have HR := hide hr
    clear hr
    go_enter Tryz.func46, Tryz.ntmps46
    go_wp2_with (go_at_call 52; fail)
    refine (cmpBytes_is (unhide HR) _).mono ?_
    rintro e w1 ⟨rfl, hw⟩
    rw [hw]; clear hw w1
    go_wp2
    go_ret
    exact ⟨ret_bool (unhide HV).symm, b2⟩

theorem refLess_any {p q : Md} (w : World) : Gives 47 #[modV p, modV q] w (.bool (ltM p q)) := by
  unfold Gives
  obtain ⟨p1, p2⟩ := p
  obtain ⟨q1, q2⟩ := q
  obtain ⟨r, hr⟩ : ∃ r, Lib.compareBytes p1 q1 = r := ⟨_, rfl⟩
  have b2 : Below w.heap.size w ((w.alloc (.cells #[.string (ba p1), .string (ba p2)] 45)).alloc (.cells #[.string (ba q1), .string (ba q2)] 45)) := ((Below.refl _ _).alloc (Nat.le_refl _) _).alloc (by simp) _
  have lp := ba_list p1
  have lq := ba_list q1
  by_cases h0 : r = 0
  · obtain ⟨s, hs⟩ : ∃ s, cmpV p2 q2 = s := ⟨_, rfl⟩
    have HV := hide (ltM_eq (p := (p1, p2)) (q := (q1, q2)) (h0 ▸ hr) hs)
    have HS := hide hs
    subst h0
    obtain rfl : p1 = q1 := (orders_bytes.eq p1 q1).1 hr
    clear hr hs lq
    go_enter Tryz.func47, Tryz.ntmps47
    go_wp2_with (go_at_call 23; fail)
    refine (refCmp_is (unhide HS) _).mono ?_
    rintro e w1 ⟨rfl, b3⟩
    have b3 := below_trans b2 b3
    go_wp2
    go_ret
    exact ⟨ret_bool (unhide HV).symm, b3⟩
  · have HV := hide (ltM_ne (p := (p1, p2)) (q := (q1, q2)) hr h0)
    have q1' : (p1 == q1) = false := by
      simp only [beq_eq_false_iff_ne]
      intro e
      exact h0 (hr.symm.trans ((orders_bytes.eq p1 q1).2 e))
    have HL : Hid (Op.bytesLess p1 q1 = decide (r < 0)) := by rw [← hr]; exact less_cmp p1 q1
    clear hr
    go_enter Tryz.func47, Tryz.ntmps47
    go_wp2
    go_ret
    exact ⟨ret_bool ((unhide HL).trans (unhide HV).symm), b2⟩

end Go.Proofs.YtcmafidnaojkiaaGreatDoor

namespace Go.Proofs.YtcmafidnaojkiaaGreatDoor
open Go.RowKit Go.Lib Go.Shelf Go.Sort

/-- A block holds these modules. -/
def RowM (blk : Nat) (d : List Md) (w : World) : Prop := ∀ k (hk : k < d.length), (w.cell? ⟨blk, k * 2, none⟩ = some (.string (ba d[k].1)) ∧ w.cell? ⟨blk, k * 2 + 1, none⟩ = some (.string (ba d[k].2))) ∧ w.frozen? ⟨blk, k * 2, none⟩ = false ∧ w.frozen? ⟨blk, k * 2 + 1, none⟩ = false

theorem RowM.put {blk : Nat} {d : List Md} {w : World} (h : RowM blk d w) {i : Nat} (hi : i < d.length) (x : Md) : RowM blk (d.set i x) ((w.setCell ⟨blk, i * 2, none⟩ (.string (ba x.1))).setCell ⟨blk, i * 2 + 1, none⟩ (.string (ba x.2))) := by
  intro k hk
  have hk' : k < d.length := by simpa using hk
  refine ⟨?_, by rw [World.frozen?_setCell, World.frozen?_setCell]; exact (h k hk').2.1, by rw [World.frozen?_setCell, World.frozen?_setCell]; exact (h k hk').2.2⟩
  rw [List.getElem_set]
  have o1 : ∀ (u : World) (v : Value) (m m' : Nat), m ≠ m' → (u.setCell ⟨blk, m, none⟩ v).cell? ⟨blk, m', none⟩ = u.cell? ⟨blk, m', none⟩ := fun u v m m' hne =>
    World.cell?_setCell_other (w := u) (a := ⟨blk, m, none⟩) (b := ⟨blk, m', none⟩) (h := by intro hh; exact hne (congrArg Addr.off hh)) v
  by_cases e : i = k
  · subst e
    rw [if_pos rfl]
    constructor
    · rw [o1 _ _ _ _ (by omega)]
      exact World.cell?_setCell_same' _ _ _ (by rw [(h i hi).1.1]; rfl)
    · exact World.cell?_setCell_same' _ _ _ (by rw [o1 _ _ _ _ (by omega), (h i hi).1.2]; rfl)
  · rw [if_neg e, o1 _ _ _ _ (by omega), o1 _ _ _ _ (by omega), o1 _ _ _ _ (by omega), o1 _ _ _ _ (by omega)]
    exact (h k hk').1

theorem RowM.below {blk : Nat} {d : List Md} {a w : World} (h : RowM blk d a) (hb : Below a.heap.size a w) (hin : blk < a.heap.size) : RowM blk d w :=
  fun k hk => ⟨⟨(hb.cell (p := ⟨blk, k * 2, none⟩) hin).trans (h k hk).1.1, (hb.cell (p := ⟨blk, k * 2 + 1, none⟩) hin).trans (h k hk).1.2⟩, (frozen_same hb (p := ⟨blk, k * 2, none⟩) hin).trans (h k hk).2.1, (frozen_same hb (p := ⟨blk, k * 2 + 1, none⟩) hin).trans (h k hk).2.2⟩

noncomputable def infoM : TypeInfo := (Tryz.prog.info? 45).get (by kernel_rfl)
theorem infoM_at : Tryz.prog.info? 45 = some infoM := by kernel_rfl
theorem infoM_size : infoM.size = 2 := by kernel_rfl
theorem aggM (w : World) : (isAgg 45).run Tryz.prog w = .ok true w := by kernel_rfl

/-- Swapper's literal exchanges two modules. -/
theorem swapM {blk n c : Nat} {d : List Md} {w : World} (hn : d.length = n) (h : RowM blk d w) {i j : Nat} (hi : i < d.length) (hj : j < d.length) :
    (callFunc 141 (#[.int .i64 (i : Int), .int .i64 (j : Int)] ++ #[.slice (some ⟨blk, 0, none⟩) n c, typeHandle Tryz.prog 45])).run Tryz.prog w = .ok (.value (.tuple #[])) ((((w.setCell ⟨blk, i * 2, none⟩ (.string (ba d[j].1))).setCell ⟨blk, i * 2 + 1, none⟩ (.string (ba d[j].2))).setCell ⟨blk, j * 2, none⟩ (.string (ba d[i].1))).setCell ⟨blk, j * 2 + 1, none⟩ (.string (ba d[i].2))) := by
  have two : ∀ (k : Nat) (hk : k < d.length) (m : Nat) (v : Value), [Value.string (ba d[k].1), .string (ba d[k].2)][m]? = some v → w.cell? ⟨blk, 0 + k * infoM.size + m, none⟩ = some v := by
    intro k hk m v hv
    rw [infoM_size, Nat.zero_add]
    match m, hv with
    | 0, hv => simp at hv; subst hv; exact (h k hk).1.1
    | 1, hv => simp at hv; subst hv; exact (h k hk).1.2
  have frz : ∀ (k : Nat) (hk : k < d.length) (m : Nat), m < infoM.size → w.frozen? ⟨blk, 0 + k * infoM.size + m, none⟩ = false := by
    intro k hk m hm
    rw [infoM_size] at hm
    rw [infoM_size, Nat.zero_add]
    match m, hm with
    | 0, _ => exact (h k hk).2.1
    | 1, _ => exact (h k hk).2.2
  have one : ∀ (p : Md), ∀ v ∈ [Value.string (ba p.1), .string (ba p.2)], v.oneCell' = true := by
    intro p v hv
    rcases List.mem_cons.1 hv with rfl | hv
    · rfl
    · obtain rfl : v = .string (ba p.2) := by simpa using hv
      rfl
  have hr := run_swap_cells (P := Tryz.prog) false 45 infoM infoM_at aggM blk 0 n c i j (by omega) (by omega) [.string (ba d[i].1), .string (ba d[i].2)] [.string (ba d[j].1), .string (ba d[j].2)] (by rw [infoM_size]; rfl) (by rw [infoM_size]; rfl) (one _) (one _) w (two i hi) (two j hj) (frz i hi) (frz j hj)
  rw [infoM_size, Nat.zero_add, Nat.zero_add] at hr
  rw [run_callFunc_extern Tryz.func141 (by kernel_rfl) (by kernel_rfl) (by kernel_rfl) (e := Extern.ReflectliteSwapper.swap false) (by kernel_rfl),
    show (#[Value.int .i64 (i : Int), Value.int .i64 (j : Int)] ++ #[Value.slice (some ⟨blk, 0, none⟩) n c, typeHandle Tryz.prog 45]) = #[.int .i64 i, .int .i64 j, .slice (some ⟨blk, 0, none⟩) n c, typeHandle Tryz.prog 45] from rfl, hr]
  rfl

/-- The row at work, the closure's variable, and all that was there before. -/
def RSortM (w0 : World) (blk Bs n c : Nat) (d : List Md) (w : World) : Prop :=
  d.length = n ∧ RowM blk d w ∧ w.cell? ⟨Bs, 0, none⟩ = some (.slice (some ⟨blk, 0, none⟩) n c) ∧ blk < w.heap.size ∧ Bs < w.heap.size ∧ Below w0.heap.size w0 w

theorem RSortM.below {w0 a w : World} {blk Bs n c : Nat} {d : List Md} (h : RSortM w0 blk Bs n c d a) (hb : Below a.heap.size a w) : RSortM w0 blk Bs n c d w := by
  obtain ⟨h1, h2, h3, h4, h5, h6⟩ := h
  exact ⟨h1, h2.below hb h4, (hb.cell (p := ⟨Bs, 0, none⟩) h5).trans h3, Nat.lt_of_lt_of_le h4 hb.size, Nat.lt_of_lt_of_le h5 hb.size, below_trans h6 hb⟩

theorem RSortM.drew {w0 w : World} {blk Bs n c : Nat} {d : List Md} (h : RSortM w0 blk Bs n c d w) : RSortM w0 blk Bs n c d w.drew := h.below (Below.refl _ _).drew

/-- What holds while the closure reads. -/
def ReadsM (w0 : World) (blk Bs n c : Nat) (d : List Md) (w w' : World) : Prop := RSortM w0 blk Bs n c d w' ∧ Fr blk w w'

/-- The cells that the closure reads. -/
abbrev HeldM (w0 : World) (blk Bs n c i j : Nat) (d : List Md) (x1 x2 y1 y2 : Str) (w wq : World) : Prop :=
  wq.cell? ⟨Bs, 0, none⟩ = some (.slice (some ⟨blk, 0, none⟩) n c) ∧ wq.cell? ⟨blk, i * 2, none⟩ = some (.string (ba x1)) ∧ wq.cell? ⟨blk, i * 2 + 1, none⟩ = some (.string (ba x2)) ∧ wq.cell? ⟨blk, j * 2, none⟩ = some (.string (ba y1)) ∧ wq.cell? ⟨blk, j * 2 + 1, none⟩ = some (.string (ba y2)) ∧ ReadsM w0 blk Bs n c d w wq

theorem readsM_via {w0 w wq : World} {blk Bs n c i j : Nat} {d : List Md} {x1 x2 y1 y2 : Str} {r : Bool} (hg : Gd w0) (hr : ltM (x1, x2) (y1, y2) = r) (hS : HeldM w0 blk Bs n c i j d x1 x2 y1 y2 w wq) :
    Calls Tryz.prog 46 #[.agg #[.string (ba x1), .string (ba x2)], .agg #[.string (ba y1), .string (ba y2)]] wq fun e w' => e = .returned (.bool r) ∧ HeldM w0 blk Bs n c i j d x1 x2 y1 y2 w w' := by
  obtain ⟨s1, s2, s3, s4, s5, s6, s7⟩ := hS
  obtain ⟨_, _, _, hin, hbs, hb0⟩ := id s6
  refine (less_any (p := (x1, x2)) (q := (y1, y2)) (hg.below hb0)).mono ?_
  rintro e w' ⟨rfl, b⟩
  exact ⟨ret_bool hr, (b.cell (p := ⟨Bs, 0, none⟩) hbs).trans s1, (b.cell (p := ⟨blk, i * 2, none⟩) hin).trans s2, (b.cell (p := ⟨blk, i * 2 + 1, none⟩) hin).trans s3, (b.cell (p := ⟨blk, j * 2, none⟩) hin).trans s4, (b.cell (p := ⟨blk, j * 2 + 1, none⟩) hin).trans s5, s6.below b, s7.trans (Fr.below b)⟩

theorem readsM_drew {w0 w wq : World} {blk Bs n c i j : Nat} {d : List Md} {x1 x2 y1 y2 : Str} (hS : HeldM w0 blk Bs n c i j d x1 x2 y1 y2 w wq) : HeldM w0 blk Bs n c i j d x1 x2 y1 y2 w wq.drew :=
  ⟨hS.1, hS.2.1, hS.2.2.1, hS.2.2.2.1, hS.2.2.2.2.1, hS.2.2.2.2.2.1.drew, hS.2.2.2.2.2.2.drew⟩

theorem readsM_end {w0 w wq : World} {blk Bs n c i j : Nat} {d : List Md} {x1 x2 y1 y2 : Str} (hS : HeldM w0 blk Bs n c i j d x1 x2 y1 y2 w wq) : RSortM w0 blk Bs n c d wq ∧ Fr blk w wq := hS.2.2.2.2.2

set_option maxHeartbeats 2000000 in
theorem less96 {w0 w : World} {blk Bs n c i j : Nat} {d : List Md} (hg : Gd w0) (_hsm : n ≤ 1099511627776) (hi : i < d.length) (hj : j < d.length) (hR : RSortM w0 blk Bs n c d w) :
    Calls Tryz.prog 96 #[.int .i64 (i : Int), .int .i64 (j : Int), .pointer (some ⟨Bs, 0, none⟩)] w fun e w' => e = .returned (.bool (ltM d[i] d[j])) ∧ RSortM w0 blk Bs n c d w' ∧ Fr blk w w' := by
  obtain ⟨r, hr⟩ : ∃ r, ltM d[i] d[j] = r := ⟨_, rfl⟩
  have ci := (hR.2.1 i hi).1
  have cj := (hR.2.1 j hj).1
  have c0 := hR.2.2.1
  have hin : i < n := by rw [← hR.1]; exact hi
  have hjn : j < n := by rw [← hR.1]; exact hj
  have H0 : ReadsM w0 blk Bs n c d w w := ⟨hR, Fr.refl _ _⟩
  rw [hr]
  obtain ⟨x1, x2, hx⟩ : ∃ x1 x2, d[i] = (x1, x2) := ⟨_, _, rfl⟩
  obtain ⟨y1, y2, hy⟩ : ∃ y1 y2, d[j] = (y1, y2) := ⟨_, _, rfl⟩
  rw [hx] at hr ci
  rw [hy] at hr cj
  obtain ⟨ci1, ci2⟩ := ci
  obtain ⟨cj1, cj2⟩ := cj
  have HR := hide hr
  clear hr hx hy hi hj hR
  go_enter Tryz.func96, Tryz.ntmps96
  go_wp2
  go_region_held3 (fun w' => w'.cell? ⟨Bs, 0, none⟩ = some (.slice (some ⟨blk, 0, none⟩) n c) ∧ w'.cell? ⟨blk, i * 2, none⟩ = some (.string (ba x1)) ∧ w'.cell? ⟨blk, i * 2 + 1, none⟩ = some (.string (ba x2)) ∧ w'.cell? ⟨blk, j * 2, none⟩ = some (.string (ba y1)) ∧ w'.cell? ⟨blk, j * 2 + 1, none⟩ = some (.string (ba y2)) ∧ ReadsM w0 blk Bs n c d w w')
    (first | assumption | exact readsM_drew (by assumption) | exact ⟨c0, ci1, ci2, cj1, cj2, H0⟩ | exact readsM_drew ⟨c0, ci1, ci2, cj1, cj2, H0⟩)
    (first
      | (go_at_call 46; refine (readsM_via hg (unhide HR) (by assumption)).mono ?_; rintro e w' ⟨rfl, k⟩))
  go_wp2
  go_ret
  exact ⟨rfl, readsM_end (i := i) (j := j) (x1 := x1) (x2 := x2) (y1 := y1) (y2 := y2) (by assumption)⟩

end Go.Proofs.YtcmafidnaojkiaaGreatDoor

namespace Go.Proofs
def Tryz.clone95_ren : Go.Shelf.Ren := ⟨fun | 41 => 95 | n => n, fun | 22 => 52 | 23 => 45 | 4 => 4 | n => n, fun | n => n⟩
theorem Tryz.clone95 : Go.Proofs.SlLaysE0.n41 Tryz.prog Tryz.clone95_ren := {
  mixed := by kernel_rfl
  f41 := ⟨Tryz.f95.name, by decide, Tryz.func95.trans (congrArg some (by kernel_rfl))⟩
  t4 := Tryz.underlying4
  a4 := Tryz.isAgg4
  z4 := Tryz.sizeOf4
  v4 := Tryz.zeroValue4
  t22 := Tryz.underlying52
  a22 := Tryz.isAgg52
  z22 := Tryz.sizeOf52
  v22 := Tryz.zeroValue52 }

namespace YtcmafidnaojkiaaGreatDoor
open Go.RowKit Go.Lib Go.Shelf Go.Sort

theorem sortsM {w0 : World} {blk Bs n c : Nat} (hg : Gd w0) (hblk : w0.heap.size ≤ blk) (hne : Bs ≠ blk) (hsm : n ≤ 1099511627776) :
    Sorts 96 #[.pointer (some ⟨Bs, 0, none⟩)] 141 #[.slice (some ⟨blk, 0, none⟩) n c, typeHandle Tryz.prog 45] blk n ltM (RSortM w0 blk Bs n c) where
  enter := enters_of Tryz.func96 (by kernel_rfl) rfl
  small := hsm
  len := fun d w h => h.1
  inside := fun d w h => h.2.2.2.1
  less := fun d w i j hi hj h => less96 hg hsm hi hj h
  swap := fun d w i j hi hj h => by
    obtain ⟨h1, h2, h3, h4, h5, h6⟩ := h
    have far : ∀ (u : World) (m : Nat) (v : Value), (u.setCell ⟨blk, m, none⟩ v).cell? ⟨Bs, 0, none⟩ = u.cell? ⟨Bs, 0, none⟩ := fun u m v => World.cell?_setCell_far _ _ _ _ (by show blk ≠ Bs; exact fun e => hne e.symm)
    refine ⟨_, swapM h1 h2 hi hj, ⟨by simpa using h1, ?_, ?_, by simpa [World.setCell] using h4, by simpa [World.setCell] using h5, (((h6.setCell (p := ⟨blk, i * 2, none⟩) hblk _).setCell (p := ⟨blk, i * 2 + 1, none⟩) hblk _).setCell (p := ⟨blk, j * 2, none⟩) hblk _).setCell (p := ⟨blk, j * 2 + 1, none⟩) hblk _⟩, (((Fr.put _ _ _ _).trans (Fr.put _ _ _ _)).trans (Fr.put _ _ _ _)).trans (Fr.put _ _ _ _)⟩
    · exact (h2.put hi d[j]).put (by simpa using hj) d[i]
    · rw [far, far, far, far]
      exact h3
  alloc := fun d w o h => h.below ((Below.refl _ _).alloc (Nat.le_refl _) o)

theorem strictM : Strict ltM where
  asym := fun x y h => by
    have t := orders_m.turn x y
    simp only [decide_eq_true_eq, decide_eq_false_iff_not] at h ⊢
    omega
  ntrans := fun x y z h1 h2 => by
    simp only [decide_eq_false_iff_not] at h1 h2 ⊢
    intro h3
    have t1 := orders_m.turn x y
    have t2 := orders_m.turn y z
    have t3 := orders_m.turn x z
    by_cases e1 : cmpM x y = 0
    · obtain rfl := (orders_m.eq x y).1 e1
      omega
    · by_cases e2 : cmpM y z = 0
      · obtain rfl := (orders_m.eq y z).1 e2
        omega
      · have := orders_m.lt x y z (by omega) (by omega)
        omega

noncomputable def infoL : TypeInfo := (Tryz.prog.info? 52).get (by kernel_rfl)

theorem swapKM {n : Nat} (h2 : 2 ≤ n) : Lib.swapperK n infoM 25 = 9 := by
  have a : infoM.hasPointers = true := by kernel_rfl
  have b : infoM.bytes = 32 := by kernel_rfl
  have c : (n == 0) = false := by simp; omega
  have d : (n == 1) = false := by simp; omega
  simp [Lib.swapperK, a, b, c, d]

set_option maxHeartbeats 1000000 in
theorem sliceStable_M {w0 w : World} {blk Bs n c : Nat} {d : List Md} (hg : Gd w0) (hblk : w0.heap.size ≤ blk) (hne : Bs ≠ blk) (hsm : n ≤ 1099511627776) (hR : RSortM w0 blk Bs n c d w) :
    Calls Tryz.prog 58 #[.iface 52 (.slice (some ⟨blk, 0, none⟩) n c), .func (.func 96) #[] #[.pointer (some ⟨Bs, 0, none⟩)]] w fun e w' => e = .returned (.tuple #[]) ∧ ∃ x, x.Perm d ∧ Srt ltM x ∧ RSortM w0 blk Bs n c x w' ∧ Fr blk w w' := by
  by_cases h2 : 2 ≤ n
  · refine Any.sort_SliceStable_of_stable Tryz.sl58 52 45 infoL infoM (by kernel_rfl) (by kernel_rfl) (by kernel_rfl) (by kernel_rfl) 25 (fun _ => by kernel_rfl) (some ⟨blk, 0, none⟩) n c (by omega) 141 (by rw [swapKM h2]; kernel_rfl) (.func 96) #[] _ w _ ?_
    have hB : sliceBound Tryz.prog 45 infoM 25 (some ⟨blk, 0, none⟩) n c = #[.slice (some ⟨blk, 0, none⟩) n c, typeHandle Tryz.prog 45] := by
      unfold sliceBound; rw [if_neg (swapperK_gt _ _ _ h2)]
    rw [hB]
    have b1 : Below w.heap.size w (stableWorld Tryz.prog Tryz.sl58_ren 52 (some ⟨blk, 0, none⟩) n c w) := by
      unfold stableWorld
      exact ((Below.refl _ _).alloc (Nat.le_refl _) _).alloc (by simp) _
    refine (stable_any (sortsM hg hblk hne hsm) strictM (hR.below b1)).mono ?_
    rintro e w' ⟨rfl, x, k1, k2, k3, k4⟩
    exact ⟨rfl, x, k1, k2, k3, (Fr.below b1).trans k4⟩
  · have hd : d.length ≤ 1 := by have := hR.1; omega
    have hs : Srt ltM d := by
      match d, hd with
      | [], _ => exact List.Pairwise.nil
      | [a], _ => exact List.pairwise_singleton _ _
    obtain ⟨f, hf⟩ : ∃ f, Tryz.prog.funcs.findIdx? (·.name == "internal/reflectlite" ++ ".Swapper$" ++ toString (swapperK n infoM 25)) = some f := by
      by_cases h0 : n = 0
      · subst h0; exact ⟨133, by kernel_rfl⟩
      · have h1 : n = 1 := by omega
        subst h1; exact ⟨134, by kernel_rfl⟩
    refine (Any.sort_SliceStable_tiny Tryz.sl58 52 45 infoL infoM (by kernel_rfl) (by kernel_rfl) (by kernel_rfl) (by kernel_rfl) 25 (fun _ => by kernel_rfl) (some ⟨blk, 0, none⟩) n c (by omega) f hf (.func 96) #[] _ w).mono ?_
    rintro e w' ⟨rfl, os, rfl⟩
    exact ⟨rfl, d, List.Perm.refl _, hs, hR.below (below_grow w os), Fr.below (below_grow w os)⟩

/-- The cells of a list of modules. -/
def modsV : List Md → List Value
  | [] => []
  | p :: l => .string (ba p.1) :: .string (ba p.2) :: modsV l

theorem modsV_length (l : List Md) : (modsV l).length = l.length * 2 := by
  induction l with
  | nil => rfl
  | cons p l ih => simp [modsV, ih]; omega
theorem modsV_at : ∀ {l : List Md} {k : Nat} (hk : k < l.length), (modsV l)[k * 2]? = some (.string (ba l[k].1)) ∧ (modsV l)[k * 2 + 1]? = some (.string (ba l[k].2))
  | [], k, hk => by simp at hk
  | p :: l, 0, _ => ⟨rfl, rfl⟩
  | p :: l, k + 1, hk => by
    have ih := modsV_at (l := l) (k := k) (by simpa using hk)
    have e1 : (k + 1) * 2 = k * 2 + 1 + 1 := by omega
    simp only [modsV, e1, List.getElem?_cons_succ, List.getElem_cons_succ]
    exact ih
theorem modsV_append (l m : List Md) : modsV (l ++ m) = modsV l ++ modsV m := by
  induction l with
  | nil => rfl
  | cons p l ih => simp [modsV, ih]
theorem modsV_one (l : List Md) : ∀ u ∈ modsV l, u.oneCell' = true := by
  induction l with
  | nil => intro u hu; cases hu
  | cons p l ih =>
    intro u hu
    simp only [modsV, List.mem_cons] at hu
    rcases hu with rfl | rfl | hu
    · rfl
    · rfl
    · exact ih u hu

/-- The cells of a row, by their places. -/
theorem modsV_cells {l : List Md} {w : World} {B O : Nat} (h : ∀ k (hk : k < l.length), w.cell? ⟨B, O + k * 2, none⟩ = some (.string (ba l[k].1)) ∧ w.cell? ⟨B, O + k * 2 + 1, none⟩ = some (.string (ba l[k].2))) :
    ∀ j u, (modsV l)[j]? = some u → w.cell? ⟨B, O + j, none⟩ = some u := by
  intro j u hu
  have hj : j < l.length * 2 := by
    have := (List.getElem?_eq_some_iff.1 hu).1
    rwa [modsV_length] at this
  have hk : j / 2 < l.length := by omega
  obtain ⟨a1, a2⟩ := modsV_at hk
  obtain ⟨c1, c2⟩ := h _ hk
  by_cases e : j % 2 = 0
  · have ej : j / 2 * 2 = j := by omega
    rw [ej] at a1 c1
    rw [a1] at hu
    rw [c1, hu]
  · have ej : j / 2 * 2 + 1 = j := by omega
    rw [ej] at a2
    rw [Nat.add_assoc, ej] at c2
    rw [a2] at hu
    rw [c2, hu]

theorem infoMP : (Tryz.prog.info? 45).map (fun i => (i.zero, i.size, i.bytes)) = some (some (.agg #[.string ByteArray.empty, .string ByteArray.empty]), 2, 32) := by kernel_rfl

/-- A row that is owned and is not nil holds its modules. -/
theorem own_rowM {w : World} {base n : Nat} {v : Value} {x : List Md} (h : w.ownsRow base 45 2 v n (modsV x)) (hne : ¬ v = .slice none 0 0) : ∃ g cap, v = .slice (some ⟨g, 0, none⟩) n cap ∧ base ≤ g ∧ g < w.heap.size ∧ x.length = n ∧ RowM g x w := by
  have hn : x.length = n := by have := h.1; rw [modsV_length] at this; omega
  rcases h.2 with ⟨rfl, _⟩ | ⟨g, cap, cur, rfl, hb, hblk, hcap, hcm, hcs, hcur⟩
  · exact absurd rfl hne
  · refine ⟨g, cap, rfl, hb, (Array.getElem?_eq_some_iff.1 hblk).1, hn, fun k hk => ?_⟩
    obtain ⟨a1, a2⟩ := modsV_at hk
    have at' : ∀ j, j < n * 2 → cur[j]? = (modsV x)[j]? := by
      intro j hj
      have h1 : cur.toList[j]? = (modsV x)[j]? := by rw [← hcur, List.getElem?_take_of_lt hj]
      have h2 : cur[j]? = cur.toList[j]? := by simp
      rw [h2, h1]
    refine ⟨⟨?_, ?_⟩, Lib.frozen_of_heap hblk _, Lib.frozen_of_heap hblk _⟩
    · rw [Lib.cell_of_heap hblk, at' _ (by omega), a1]
    · rw [Lib.cell_of_heap hblk, at' _ (by omega), a2]

theorem clone_M {ps : List Md} {B off c : Nat} {w : World} (hn : ps.length ≤ 1099511627776) (ht : ∀ k (hk : k < ps.length), w.cell? ⟨B, off + k * 2, none⟩ = some (.string (ba ps[k].1)) ∧ w.cell? ⟨B, off + k * 2 + 1, none⟩ = some (.string (ba ps[k].2))) :
    Calls Tryz.prog 95 #[.slice (some ⟨B, off, none⟩) ps.length c] w fun e w' => ∃ g cap, e = .returned (.slice (some ⟨g, 0, none⟩) ps.length cap) ∧ RowM g ps w' ∧ w.heap.size ≤ g ∧ g < w'.heap.size ∧ Below w.heap.size w w' := by
  obtain ⟨i0, hi, hz0, hz1, hz2⟩ := info_parts infoMP
  refine (AnyE.slices_Clone Tryz.clone95 i0 _ 2 32 hi hz0 hz1 hz2 rfl (by omega) Tryz.sizeOf45 B off ps.length c (modsV ps) w (by rw [modsV_length]) (by unfold maxLen; omega) (by omega) ?_ (modsV_one ps)).mono ?_
  · exact modsV_cells ht
  · rintro e w' ⟨v, rfl, hown, hne, hb⟩
    obtain ⟨g, cap, rfl, h1, h2, _, h3⟩ := own_rowM hown hne
    exact ⟨g, cap, rfl, h3, h1, h2, hb⟩

set_option maxHeartbeats 1000000 in
theorem sort_M {ps : List Md} {B off c : Nat} {w : World} (hg : Gd w) (hn : ps.length ≤ 1099511627776) (ht : ∀ k (hk : k < ps.length), w.cell? ⟨B, off + k * 2, none⟩ = some (.string (ba ps[k].1)) ∧ w.cell? ⟨B, off + k * 2 + 1, none⟩ = some (.string (ba ps[k].2))) :
    Calls Tryz.prog 43 #[.slice (some ⟨B, off, none⟩) ps.length c] w fun e w' => ∃ g cap x, e = .returned (.slice (some ⟨g, 0, none⟩) ps.length cap) ∧ x.Perm ps ∧ Srt ltM x ∧ RowM g x w' ∧ w.heap.size ≤ g ∧ g < w'.heap.size ∧ Below w.heap.size w w' := by
  obtain ⟨n, hnn⟩ : ∃ n, ps.length = n := ⟨_, rfl⟩
  have HC := hide (clone_M (c := c) hn ht)
  rw [hnn] at HC hn ⊢
  have HN := hide hnn
  clear ht hnn
  go_enter Tryz.func43, Tryz.ntmps43
  go_wp2_with (go_at_call 95; fail)
  refine (unhide HC).mono ?_
  rintro e w1 ⟨g, cap, rfl, hrow, hg1, hg2, b1⟩
  have hR : RSortM w g w1.heap.size n cap ps (w1.alloc (.cells #[.slice (some ⟨g, 0, none⟩) n cap] 52)) := by
    have b2 : Below w1.heap.size w1 (w1.alloc (.cells #[.slice (some ⟨g, 0, none⟩) n cap] 52)) := (Below.refl _ _).alloc (Nat.le_refl _) _
    refine ⟨unhide HN, hrow.below b2 hg2, ?_, Nat.lt_of_lt_of_le hg2 b2.size, ?_, below_trans b1 b2⟩
    · rw [Lib.cell_of_heap (heap_new w1 _)]; rfl
    · show w1.heap.size < (w1.heap.push _).size
      simp
  have HR := hide hR
  have hne : w1.heap.size ≠ g := by omega
  clear hrow hR HC
  go_wp2_with (go_at_call 58; fail)
  refine (sliceStable_M hg hg1 hne hn (unhide HR)).mono ?_
  rintro e w2 ⟨rfl, x, k1, k2, k3, k4⟩
  have c0 := k3.2.2.1
  have H3 := hide k3
  have H1 := hide k1
  have H2 := hide k2
  clear k1 k2 k3 k4
  go_wp2
  go_ret
  exact ⟨g, cap, x, rfl, unhide H1, unhide H2, (unhide H3).2.1, hg1, (unhide H3).2.2.2.1, (unhide H3).2.2.2.2.2⟩

end YtcmafidnaojkiaaGreatDoor
end Go.Proofs

namespace Go.Proofs.YtcmafidnaojkiaaGreatDoor
open Go.RowKit

theorem wrapD {k : Nat} (h : k ≤ 60) : IntKind.i64.wrap (k : Int) = (k : Int) := by rw [IntKind.wrap_i64]; omega

theorem own_newM (w : World) : (w.alloc (.cells #[] 45)).ownsRow w.heap.size 45 2 (.slice (some ⟨w.heap.size, 0, none⟩) 0 0) 0 [] :=
  ⟨rfl, Or.inr ⟨w.heap.size, 0, #[], rfl, Nat.le_refl _, heap_new w _, Nat.le_refl _, Nat.zero_le _, rfl, rfl⟩⟩

theorem own_countM {w : World} {base n n' : Nat} {v : Value} {xs ys : List Value} (h : w.ownsRow base 45 2 v n xs) (e : n = n') (e2 : xs = ys) : w.ownsRow base 45 2 v n' ys := by rw [← e, ← e2]; exact h

/-- What holds while the reference reads. -/
abbrev HeldR (W : World) (g q B o : Nat) (y t : Md) (wq : World) : Prop :=
  wq.cell? ⟨g, q * 2, none⟩ = some (.string (ba y.1)) ∧ wq.cell? ⟨g, q * 2 + 1, none⟩ = some (.string (ba y.2)) ∧ wq.cell? ⟨B, o, none⟩ = some (.string (ba t.1)) ∧ wq.cell? ⟨B, o + 1, none⟩ = some (.string (ba t.2)) ∧ Below W.heap.size W wq

theorem refless_held {W wq : World} {g q B o : Nat} {y t : Md} {r : Bool} (hgW : g < W.heap.size) (hBW : B < W.heap.size) (hr : ltM t y = r) (hS : HeldR W g q B o y t wq) :
    Calls Tryz.prog 47 #[.agg #[.string (ba t.1), .string (ba t.2)], .agg #[.string (ba y.1), .string (ba y.2)]] wq fun e w' => e = .returned (.bool r) ∧ HeldR W g q B o y t w' := by
  obtain ⟨s1, s2, s3, s4, s5⟩ := hS
  have h1 := Nat.lt_of_lt_of_le hgW s5.size
  have h2 := Nat.lt_of_lt_of_le hBW s5.size
  refine (refLess_any (p := t) (q := y) wq).mono ?_
  rintro e w' ⟨rfl, b⟩
  exact ⟨ret_bool hr, (b.cell (p := ⟨g, q * 2, none⟩) h1).trans s1, (b.cell (p := ⟨g, q * 2 + 1, none⟩) h1).trans s2, (b.cell (p := ⟨B, o, none⟩) h2).trans s3, (b.cell (p := ⟨B, o + 1, none⟩) h2).trans s4, below_trans s5 b⟩

theorem refless_drew {W wq : World} {g q B o : Nat} {y t : Md} (hS : HeldR W g q B o y t wq) : HeldR W g q B o y t wq.drew := ⟨hS.1, hS.2.1, hS.2.2.1, hS.2.2.2.1, hS.2.2.2.2.drew⟩
theorem refless_end {W wq : World} {g q B o : Nat} {y t : Md} (hS : HeldR W g q B o y t wq) : Below W.heap.size W wq := hS.2.2.2.2

theorem ins_permM {p r ps : List Md} {t : Md} {k : Nat} (hk : k < ps.length) (ht : ps[k] = t) (h : (p ++ r).Perm (ps.take k)) : (p ++ t :: r).Perm (ps.take (k + 1)) := by
  rw [List.take_add_one, List.getElem?_eq_getElem hk, ht]
  exact List.perm_middle.trans ((h.cons t).trans (List.perm_append_singleton t _).symm)

/-- What an insertion leaves. -/
def InsM (ps : List Md) (w : World) (k : Nat) (v : Value) (wr : World) : Prop :=
  ∃ x : List Md, x.length = k ∧ wr.ownsRow w.heap.size 45 2 v x.length (modsV x) ∧ x.Perm (ps.take k) ∧ Srt ltM x ∧ Below w.heap.size w wr

theorem insM_next {ps p r : List Md} {t : Md} {w wr W w3 : World} {k : Nat} {v : Value} (hk : k < ps.length) (ht : ps[k] = t) (hlen : (p ++ r).length = k) (hp : (p ++ r).Perm (ps.take k)) (hs : Srt ltM (p ++ r)) (hr : ∀ q ∈ r, ltM t q = true) (hl : p = [] ∨ ∃ l' q, p = l' ++ [q] ∧ ltM t q = false)
    (b0 : Below w.heap.size w wr) (b1 : Below wr.heap.size wr W) (b2 : Below W.heap.size W w3) {n : Nat} (hn : n = (p ++ t :: r).length) (ho : w3.ownsRow W.heap.size 45 2 v n (modsV (p ++ t :: r))) : InsM ps w (k + 1) v w3 := by
  refine ⟨p ++ t :: r, by simp at hlen ⊢; omega, ?_, ins_permM hk ht hp, ins_fit strictM hs hr hl, below_trans b0 (below_trans b1 b2)⟩
  rw [← hn]
  refine ⟨ho.1, ?_⟩
  rcases ho.2 with h | ⟨g, cap, cur, e, hb, rest⟩
  · exact Or.inl h
  · exact Or.inr ⟨g, cap, cur, e, Nat.le_trans (below_trans b0 b1).size hb, rest⟩

set_option maxHeartbeats 4000000 in
set_option maxRecDepth 100000 in
theorem refSort_M {ps : List Md} {B off c : Nat} {w : World} (hn : ps.length ≤ 60) (hB : B < w.heap.size) (ht : ∀ k (hk : k < ps.length), w.cell? ⟨B, off + k * 2, none⟩ = some (.string (ba ps[k].1)) ∧ w.cell? ⟨B, off + k * 2 + 1, none⟩ = some (.string (ba ps[k].2))) :
    Calls Tryz.prog 45 #[.slice (some ⟨B, off, none⟩) ps.length c] w fun e w' => ∃ v, e = .returned v ∧ InsM ps w ps.length v w' := by
  obtain ⟨i0, hi, hz0, hz1, hz2⟩ := info_parts infoMP
  obtain ⟨n, hnn⟩ : ∃ n, ps.length = n := ⟨_, rfl⟩
  have HT := hide ht
  rw [hnn] at hn ⊢
  have HN := hide hnn
  clear ht hnn
  go_enter Tryz.func45, Tryz.ntmps45
  go_wp2
  go_loopw [3, 4, 5, 6] (fun v3 v4 _ _ wr => ∃ k : Nat, k ≤ n ∧ v4 = .int .i64 k ∧ InsM ps w k v3 wr) (fun _ v4 _ _ _ => n - (intOf v4).toNat)
  case atStart => exact ⟨0, Nat.zero_le _, rfl, [], rfl, ⟨rfl, Or.inl ⟨rfl, rfl⟩⟩, by simp, List.Pairwise.nil, Below.refl _ _⟩
  case round =>
    obtain ⟨k, hkn, rfl, hins⟩ := hrel
    by_cases hlt : k < n
    · obtain ⟨x, hxl, hown, hperm, hsrt, hb0⟩ := hins
      have hkp : k < ps.length := by rw [unhide HN]; exact hlt
      obtain ⟨t1, t2, ht0⟩ : ∃ t1 t2, ps[k] = (t1, t2) := ⟨_, _, rfl⟩
      have HT0 := hide ht0
      have hBr : B < wr.heap.size := Nat.lt_of_lt_of_le hB hb0.size
      have HCT1 : Hid (wr.cell? ⟨B, off + k * 2, none⟩ = some (.string (ba t1))) := by
        have := ((unhide HT) k hkp).1
        rw [ht0] at this
        exact (hb0.cell (p := ⟨B, off + k * 2, none⟩) hB).trans this
      have HCT2 : Hid (wr.cell? ⟨B, off + k * 2 + 1, none⟩ = some (.string (ba t2))) := by
        have := ((unhide HT) k hkp).2
        rw [ht0] at this
        exact (hb0.cell (p := ⟨B, off + k * 2 + 1, none⟩) hB).trans this
      clear ht0
      have HB0 := hide hb0
      clear hb0
      by_cases hv : u3 = .slice none 0 0
      · have h0 : x.length = 0 := by
          rcases hown.2 with ⟨_, h⟩ | ⟨g, cap, cur, h, _⟩
          · exact h
          · rw [hv] at h; cases h
        subst hv
        have hx0 : x = [] := List.length_eq_zero_iff.1 h0
        subst hx0
        obtain rfl : k = 0 := by simpa using hxl.symm
        have ct1 : wr.cell? ⟨B, off, none⟩ = some (.string (ba t1)) := by have := unhide HCT1; simpa using this
        have ct2 : wr.cell? ⟨B, off + 1, none⟩ = some (.string (ba t2)) := by have := unhide HCT2; simpa using this
        have HPE := hide hperm
        have HSR := hide hsrt
        clear hxl hown h0 hperm hsrt hkn
        go_wp2
        refine wp_loop_rounds 1 ?_
        rw [rounds_succ]
        go_wp2
        go_quiet (fail)
        obtain ⟨W, hW⟩ : ∃ W, wr.drewN nq = W := ⟨_, rfl⟩
        have b1 : Below wr.heap.size wr W := by rw [← hW]; exact below_drewN (Below.refl _ _) _
        rw [hW]
        have hBI : B < W.heap.size := Nat.lt_of_lt_of_le hBr b1.size
        have ctI1 : W.cell? ⟨B, off, none⟩ = some (.string (ba t1)) := (b1.cell (p := ⟨B, off, none⟩) hBr).trans ct1
        have ctI2 : W.cell? ⟨B, off + 1, none⟩ = some (.string (ba t2)) := (b1.cell (p := ⟨B, off + 1, none⟩) hBr).trans ct2
        have ctJ1 : (W.alloc (.cells #[] 45)).cell? ⟨B, off, none⟩ = some (.string (ba t1)) := (((Below.refl W.heap.size W).alloc (Nat.le_refl _) _).cell (p := ⟨B, off, none⟩) hBI).trans ctI1
        have ctJ2 : (W.alloc (.cells #[] 45)).cell? ⟨B, off + 1, none⟩ = some (.string (ba t2)) := (((Below.refl W.heap.size W).alloc (Nat.le_refl _) _).cell (p := ⟨B, off + 1, none⟩) hBI).trans ctI2
        have HB1 := hide b1
        clear b1 hW ctI1 ctI2 ct1 ct2
        go_wp2_with (at_builtin; first | refine wpList_append_own_none rfl _ _ 52 rfl W.heap.size 45 i0 2 Tryz.underlying52 hi _ 0 [] rfl (own_newM W) rfl ?_ | refine wpList_append_own _ rfl _ _ 52 rfl W.heap.size 45 i0 (.agg #[.string ByteArray.empty, .string ByteArray.empty]) 2 32 Tryz.underlying52 hi hz0 hz1 hz2 rfl (by decide) _ _ _ rfl ((own_newM W).alloc _) ⟨W.heap.size + 1, 0, none⟩ 1 1 [.string (ba t1), .string (ba t2)] rfl rfl ?cells ?kind ?room ?len ?base ?_)
        case cells =>
          intro j u hj
          match j, hj with
          | 0, hj => simp at hj; subst hj; simp [Addr.add]
          | 1, hj => simp at hj; subst hj; simp [Addr.add]
        case kind =>
          intro u hu
          simp at hu
          rcases hu with rfl | rfl
          · rfl
          · rfl
        case room => unfold maxLen; omega
        case len => omega
        case base => simp; omega
        intro v2 w2 own2 grow2 _
        have bg2 := hide ((((Below.refl W.heap.size W).alloc (Nat.le_refl _) _).alloc (by simp) _).grown grow2 (by simp; omega) (fun j hj => by simp [Value.ownBlock] at hj; omega))
        have HO2 := hide own2
        clear own2 grow2
        go_wp2_with (at_builtin; refine wpList_append_own_none rfl _ _ 52 rfl W.heap.size 45 i0 2 Tryz.underlying52 hi _ _ _ rfl (unhide HO2) rfl ?_)
        go_roundw
        case rel => exact ⟨1, hlt, by simp, insM_next (p := []) (r := []) (t := (t1, t2)) hkp (unhide HT0) rfl (unhide HPE) (unhide HSR) (by simp) (Or.inl rfl) (unhide HB0) (unhide HB1) (unhide bg2) rfl (by simpa [modsV] using unhide HO2)⟩
        case measure => simp [intOf]; omega
      · obtain ⟨g, cap, rfl, _, hg2, _, hrow⟩ := own_rowM hown hv
        have hcap : x.length ≤ cap := by
          rcases hown.2 with ⟨h, _⟩ | ⟨g', cap', cur, h, _, _, h1, _⟩
          · cases h
          · cases h; exact h1
        have HX0 : Hid (∀ j (hj : j < x.length), wr.cell? ⟨g, j * 2, none⟩ = some (.string (ba x[j].1)) ∧ wr.cell? ⟨g, j * 2 + 1, none⟩ = some (.string (ba x[j].2))) := fun j hj => (hrow j hj).1
        have HPE0 := hide hperm
        have HSR0 := hide hsrt
        have HK := hide hxl
        rw [hxl] at hcap ⊢
        clear hown hperm hsrt hrow hxl hv
        go_wp2
        go_loopw [5] (fun v5 wr2 => ∃ (p r : List Md) (m : Nat), x = p ++ r ∧ p.length = m ∧ v5 = .int .i64 m ∧ (∀ q ∈ r, ltM (t1, t2) q = true) ∧ Below wr.heap.size wr wr2) (fun v5 _ => (intOf v5).toNat)
        case atStart => exact ⟨x, [], k, by simp, unhide HK, rfl, by simp, Below.refl _ _⟩
        case round =>
          obtain ⟨p, r, m, hx, hm, rfl, hr, hbw⟩ := hrel
          rename World => wi
          have HXE := hide hx
          have HM := hide hm
          have HR := hide hr
          have HXL : Hid ((p ++ r).length = k) := by rw [← hx]; exact unhide HK
          have HX : Hid (∀ j (hj : j < (p ++ r).length), wr.cell? ⟨g, j * 2, none⟩ = some (.string (ba (p ++ r)[j].1)) ∧ wr.cell? ⟨g, j * 2 + 1, none⟩ = some (.string (ba (p ++ r)[j].2))) := by rw [← hx]; exact unhide HX0
          have HPE : Hid ((p ++ r).Perm (ps.take k)) := by rw [← hx]; exact unhide HPE0
          have HSR : Hid (Srt ltM (p ++ r)) := by rw [← hx]; exact unhide HSR0
          clear hr hx hm
          by_cases hp0 : m = 0
          · have HLAST : Hid (p = [] ∨ ∃ l' q, p = l' ++ [q] ∧ ltM (t1, t2) q = false) := Or.inl (List.length_eq_zero_iff.1 ((unhide HM).trans hp0))
            have k1 : decide (0 < m) = false := by simp; omega
            have k2 : decide ((0 : Int) < (m : Int)) = false := by simp; omega
            clear hp0
            go_wp2
            go_quiet (fail)
            obtain ⟨W, hW⟩ : ∃ W, wi.drewN nq = W := ⟨_, rfl⟩
            have b1 : Below wr.heap.size wr W := by rw [← hW]; exact below_drewN hbw _
            rw [hW]
            clear hW hbw k1 k2
            have hgI : g < W.heap.size := Nat.lt_of_lt_of_le hg2 b1.size
            have hBI : B < W.heap.size := Nat.lt_of_lt_of_le hBr b1.size
            have ctI1 : W.cell? ⟨B, off + k * 2, none⟩ = some (.string (ba t1)) := (b1.cell (p := ⟨B, off + k * 2, none⟩) hBr).trans (unhide HCT1)
            have ctI2 : W.cell? ⟨B, off + k * 2 + 1, none⟩ = some (.string (ba t2)) := (b1.cell (p := ⟨B, off + k * 2 + 1, none⟩) hBr).trans (unhide HCT2)
            have HP1 : Hid (∀ j u, (modsV p)[j]? = some u → (W.alloc (.cells #[] 45)).cell? ((⟨g, 0, none⟩ : Addr).add j) = some u) := by
              intro j u hu
              rw [WideShapes.add_plain]
              refine modsV_cells (O := 0) (fun q hq => ?_) j u hu
              have h0 : q < (p ++ r).length := by simp; omega
              have e : (p ++ r)[q] = p[q] := List.getElem_append_left hq
              obtain ⟨h1, h2⟩ := (unhide HX) q h0
              rw [e] at h1 h2
              rw [Nat.zero_add]
              exact ⟨(((Below.refl W.heap.size W).alloc (Nat.le_refl _) _).cell (p := ⟨g, q * 2, none⟩) hgI).trans ((b1.cell (p := ⟨g, q * 2, none⟩) hg2).trans h1), (((Below.refl W.heap.size W).alloc (Nat.le_refl _) _).cell (p := ⟨g, q * 2 + 1, none⟩) hgI).trans ((b1.cell (p := ⟨g, q * 2 + 1, none⟩) hg2).trans h2)⟩
            have HP2 : Hid (∀ w2, Below W.heap.size W w2 → ∀ j u, (modsV r)[j]? = some u → w2.cell? ((⟨g, m * 2, none⟩ : Addr).add j) = some u) := by
              intro w2 bw j u hu
              have hm := unhide HM
              rw [WideShapes.add_plain]
              refine modsV_cells (O := m * 2) (fun q hq => ?_) j u hu
              have h0 : m + q < (p ++ r).length := by simp; omega
              have e : (p ++ r)[m + q] = r[q] := by
                rw [List.getElem_append_right (by omega)]
                simp [hm]
              obtain ⟨h1, h2⟩ := (unhide HX) (m + q) h0
              rw [e] at h1 h2
              have e2 : m * 2 + q * 2 = (m + q) * 2 := by omega
              rw [e2]
              exact ⟨(bw.cell (p := ⟨g, (m + q) * 2, none⟩) hgI).trans ((b1.cell (p := ⟨g, (m + q) * 2, none⟩) hg2).trans h1), (bw.cell (p := ⟨g, (m + q) * 2 + 1, none⟩) hgI).trans ((b1.cell (p := ⟨g, (m + q) * 2 + 1, none⟩) hg2).trans h2)⟩
            have HB1 := hide b1
            have hmk : m ≤ k := by have h1 := unhide HXL; have h2 := unhide HM; simp at h1; omega
            have hmc : m ≤ cap := by omega
            have HRL : Hid (r.length = k - m) := by have h1 := unhide HXL; have h2 := unhide HM; simp at h1; show r.length = k - m; omega
            clear b1
            go_wp2_with (at_builtin; refine wpList_append_own _ rfl _ _ 52 rfl W.heap.size 45 i0 (.agg #[.string ByteArray.empty, .string ByteArray.empty]) 2 32 Tryz.underlying52 hi hz0 hz1 hz2 rfl (by decide) _ 0 [] rfl (own_newM W) ⟨g, 0, none⟩ m cap (modsV p) rfl (by have := unhide HM; rw [modsV_length]; omega) ?cells ?kind ?room ?len ?base ?_)
            case cells => exact (unhide HP1)
            case kind => exact modsV_one p
            case room => unfold maxLen; omega
            case len => omega
            case base => simp
            intro v1 w1 own1 grow1 _
            have bg1 := hide (((Below.refl W.heap.size W).alloc (Nat.le_refl _) _).grown grow1 (by simp) (fun j hj => by simp [Value.ownBlock] at hj; omega))
            have HO1 := hide own1
            have cu1 : w1.cell? ⟨B, off + k * 2, none⟩ = some (.string (ba t1)) := ((unhide bg1).cell (p := ⟨B, off + k * 2, none⟩) hBI).trans ctI1
            have cu2 : w1.cell? ⟨B, off + k * 2 + 1, none⟩ = some (.string (ba t2)) := ((unhide bg1).cell (p := ⟨B, off + k * 2 + 1, none⟩) hBI).trans ctI2
            clear own1 grow1 ctI1 ctI2 HP1
            go_wp2_with (at_builtin; refine wpList_append_own _ rfl _ _ 52 rfl W.heap.size 45 i0 (.agg #[.string ByteArray.empty, .string ByteArray.empty]) 2 32 Tryz.underlying52 hi hz0 hz1 hz2 rfl (by decide) _ _ _ rfl ((unhide HO1).alloc _) ⟨w1.heap.size, 0, none⟩ 1 1 [.string (ba t1), .string (ba t2)] rfl rfl ?cells ?kind ?room ?len ?base ?_)
            case cells =>
              intro j u hj
              match j, hj with
              | 0, hj => simp at hj; subst hj; simp [Addr.add]
              | 1, hj => simp at hj; subst hj; simp [Addr.add]
            case kind =>
              intro u hu
              simp at hu
              rcases hu with rfl | rfl
              · rfl
              · rfl
            case room => unfold maxLen; omega
            case len => omega
            case base => have := (unhide bg1).size; simp; omega
            intro v2 w2 own2 grow2 _
            have bg2 := hide (((unhide bg1).alloc (unhide bg1).size _).grown grow2 (by have := (unhide bg1).size; simp; omega) (fun j hj => ((unhide HO1).lt j hj).1))
            have HO2 := hide own2
            clear own2 grow2 cu1 cu2 HO1 bg1
            by_cases hcz : cap = m
            · obtain rfl : k = cap := by omega
              obtain rfl : k = m := by omega
              clear HP2 hcz hmc hmk hcap
              go_wp2_with (at_builtin; refine wpList_append_own _ rfl _ _ 52 rfl W.heap.size 45 i0 (.agg #[.string ByteArray.empty, .string ByteArray.empty]) 2 32 Tryz.underlying52 hi hz0 hz1 hz2 rfl (by decide) _ _ _ rfl (unhide HO2) _ 0 _ (modsV r) rfl (by have h := unhide HRL; have e : r = [] := List.length_eq_zero_iff.1 (by omega); rw [e]; rfl) ?cells ?kind ?room ?len ?base ?_)
              case cells => intro j u hu; have h := unhide HRL; have e : r = [] := List.length_eq_zero_iff.1 (by omega); rw [e] at hu; simp [modsV] at hu
              case kind => exact modsV_one r
              case room => unfold maxLen; omega
              case len => omega
              case base => exact (unhide bg2).size
              intro v3 w3 own3 grow3 _
              have bg3 := hide ((unhide bg2).grown grow3 (unhide bg2).size (fun j hj => ((unhide HO2).lt j hj).1))
              have HO3 := hide own3
              clear own3 grow3 HO2 bg2
              go_wp2
              go_roundw
              case rel => exact ⟨k + 1, hlt, by simp, insM_next (t := (t1, t2)) hkp (unhide HT0) (unhide HXL) (unhide HPE) (unhide HSR) (unhide HR) (unhide HLAST) (unhide HB0) (unhide HB1) (unhide bg3) rfl (own_countM (unhide HO3) (by have h1 := unhide HXL; have h2 := unhide HM; have h3 := unhide HRL; simp at h1 ⊢; omega) (by simp [modsV_append, modsV]))⟩
              case measure => simp [intOf]; omega
            · have z2 : ¬ m = cap := fun e => hcz e.symm
              have z3 : ¬ cap - m = 0 := by omega
              have z4 : m < cap := by omega
              go_wp2_with (at_builtin; refine wpList_append_own _ rfl _ _ 52 rfl W.heap.size 45 i0 (.agg #[.string ByteArray.empty, .string ByteArray.empty]) 2 32 Tryz.underlying52 hi hz0 hz1 hz2 rfl (by decide) _ _ _ rfl (unhide HO2) ⟨g, m * 2, none⟩ (k - m) (cap - m) (modsV r) rfl (by have := unhide HRL; rw [modsV_length]; omega) ?cells ?kind ?room ?len ?base ?_)
              case cells => exact (unhide HP2) _ (unhide bg2)
              case kind => exact modsV_one r
              case room => unfold maxLen; omega
              case len => omega
              case base => exact (unhide bg2).size
              intro v3 w3 own3 grow3 _
              have bg3 := hide ((unhide bg2).grown grow3 (unhide bg2).size (fun j hj => ((unhide HO2).lt j hj).1))
              have HO3 := hide own3
              clear own3 grow3 HO2 bg2 HP2
              go_wp2
              go_roundw
              case rel => exact ⟨k + 1, hlt, by simp, insM_next (t := (t1, t2)) hkp (unhide HT0) (unhide HXL) (unhide HPE) (unhide HSR) (unhide HR) (unhide HLAST) (unhide HB0) (unhide HB1) (unhide bg3) rfl (own_countM (unhide HO3) (by have h1 := unhide HXL; have h2 := unhide HM; have h3 := unhide HRL; simp at h1 ⊢; omega) (by simp [modsV_append, modsV]))⟩
              case measure => simp [intOf]; omega
          · obtain ⟨p', y, rfl⟩ : ∃ p' y, p = p' ++ [y] := ⟨p.dropLast, p.getLast (by intro e; have := unhide HM; simp [e] at this; omega), (List.dropLast_concat_getLast _).symm⟩
            obtain ⟨y1, y2⟩ := y
            obtain ⟨q, hq⟩ : ∃ q, p'.length = q := ⟨_, rfl⟩
            have hpm : q + 1 = m := by have := unhide HM; simp at this; omega
            have cy : wi.cell? ⟨g, q * 2, none⟩ = some (.string (ba y1)) ∧ wi.cell? ⟨g, q * 2 + 1, none⟩ = some (.string (ba y2)) := by
              have h0 : q < (p' ++ [(y1, y2)] ++ r).length := by simp; omega
              have h2 : (p' ++ [(y1, y2)] ++ r)[q] = (y1, y2) := by
                subst hq
                simp
              obtain ⟨h1, h3⟩ := (unhide HX) q h0
              rw [h2] at h1 h3
              exact ⟨(hbw.cell (p := ⟨g, q * 2, none⟩) hg2).trans h1, (hbw.cell (p := ⟨g, q * 2 + 1, none⟩) hg2).trans h3⟩
            obtain ⟨cy1, cy2⟩ := cy
            have ct1 : wi.cell? ⟨B, off + k * 2, none⟩ = some (.string (ba t1)) := (hbw.cell (p := ⟨B, off + k * 2, none⟩) hBr).trans (unhide HCT1)
            have ct2 : wi.cell? ⟨B, off + k * 2 + 1, none⟩ = some (.string (ba t2)) := (hbw.cell (p := ⟨B, off + k * 2 + 1, none⟩) hBr).trans (unhide HCT2)
            have hkm : m ≤ k := by have h1 := unhide HXL; have h2 := unhide HM; simp at h1 h2; omega
            have e1 : (m : Int) - 1 = (q : Int) := by omega
            have k0 : q < k := by omega
            have k1 : decide (0 < m) = true := by simp; omega
            have k2 : decide ((0 : Int) < (m : Int)) = true := by simp; omega
            have k3 : m ≤ 60 := by omega
            have k6 : q ≤ 60 := by omega
            have k8 : IntKind.i64.wrap (q : Int) = (q : Int) := wrapD k6
            have k4 : (q : Int) < (k : Int) := by omega
            have k5 : (k : Int) < (n : Int) := by omega
            have HQ := hide hq
            have HQM := hide hpm
            cases hrr : ltM (t1, t2) (y1, y2) with
            | true =>
              have HRR := hide hrr
              have HR2 : Hid (∀ q ∈ (y1, y2) :: r, ltM (t1, t2) q = true) := by
                intro q hq
                rcases List.mem_cons.1 hq with rfl | h
                · exact unhide HRR
                · exact (unhide HR) q h
              have HX2 : Hid (x = p' ++ ((y1, y2) :: r)) := by show x = p' ++ ((y1, y2) :: r); have := unhide HXE; simpa using this
              clear hrr hp0 hq hpm
              go_wp2
              go_region_held3 (fun w' => w'.cell? ⟨g, q * 2, none⟩ = some (.string (ba y1)) ∧ w'.cell? ⟨g, q * 2 + 1, none⟩ = some (.string (ba y2)) ∧ w'.cell? ⟨B, off + k * 2, none⟩ = some (.string (ba t1)) ∧ w'.cell? ⟨B, off + k * 2 + 1, none⟩ = some (.string (ba t2)) ∧ Below wr.heap.size wr w')
                (first | assumption | exact refless_drew (y := (y1, y2)) (t := (t1, t2)) (by assumption) | exact ⟨cy1, cy2, ct1, ct2, hbw⟩ | exact refless_drew (y := (y1, y2)) (t := (t1, t2)) ⟨cy1, cy2, ct1, ct2, hbw⟩)
                (first
                  | (go_at_call 47; refine (refless_held (q := q) (o := off + k * 2) (y := (y1, y2)) (t := (t1, t2)) hg2 hBr (unhide HRR) (by assumption)).mono ?_; rintro e w' ⟨rfl, hk9⟩))
              go_wp2
              go_roundw
              case rel => exact ⟨p', (y1, y2) :: r, q, unhide HX2, unhide HQ, by simp, unhide HR2, refless_end (g := g) (q := q) (B := B) (o := off + k * 2) (y := (y1, y2)) (t := (t1, t2)) (by assumption)⟩
              case measure => have := unhide HQM; simp [intOf]; omega
            | false =>
              have HRR := hide hrr
              have HLAST : Hid ((p' ++ [(y1, y2)]) = [] ∨ ∃ l' q, (p' ++ [(y1, y2)]) = l' ++ [q] ∧ ltM (t1, t2) q = false) := Or.inr ⟨p', (y1, y2), rfl, hrr⟩
              clear hrr hp0 hq hpm
              go_wp2
              go_region_held3 (fun w' => w'.cell? ⟨g, q * 2, none⟩ = some (.string (ba y1)) ∧ w'.cell? ⟨g, q * 2 + 1, none⟩ = some (.string (ba y2)) ∧ w'.cell? ⟨B, off + k * 2, none⟩ = some (.string (ba t1)) ∧ w'.cell? ⟨B, off + k * 2 + 1, none⟩ = some (.string (ba t2)) ∧ Below wr.heap.size wr w')
                (first | assumption | exact refless_drew (y := (y1, y2)) (t := (t1, t2)) (by assumption) | exact ⟨cy1, cy2, ct1, ct2, hbw⟩ | exact refless_drew (y := (y1, y2)) (t := (t1, t2)) ⟨cy1, cy2, ct1, ct2, hbw⟩)
                (first
                  | (go_at_call 47; refine (refless_held (q := q) (o := off + k * 2) (y := (y1, y2)) (t := (t1, t2)) hg2 hBr (unhide HRR) (by assumption)).mono ?_; rintro e w' ⟨rfl, hk9⟩))
              rename World => W
              have b1 : Below wr.heap.size wr W := refless_end (g := g) (q := q) (B := B) (o := off + k * 2) (y := (y1, y2)) (t := (t1, t2)) (by assumption)
              obtain ⟨p, hp⟩ : ∃ p, p' ++ [(y1, y2)] = p := ⟨_, rfl⟩
              rw [hp] at HX HPE HSR HXL HM HLAST
              clear e1 k1 k2 k3 k4 k5 k6 k8 cy1 cy2 ct1 ct2 hbw hp
              have hgI : g < W.heap.size := Nat.lt_of_lt_of_le hg2 b1.size
              have hBI : B < W.heap.size := Nat.lt_of_lt_of_le hBr b1.size
              have ctI1 : W.cell? ⟨B, off + k * 2, none⟩ = some (.string (ba t1)) := (b1.cell (p := ⟨B, off + k * 2, none⟩) hBr).trans (unhide HCT1)
              have ctI2 : W.cell? ⟨B, off + k * 2 + 1, none⟩ = some (.string (ba t2)) := (b1.cell (p := ⟨B, off + k * 2 + 1, none⟩) hBr).trans (unhide HCT2)
              have HP1 : Hid (∀ j u, (modsV p)[j]? = some u → (W.alloc (.cells #[] 45)).cell? ((⟨g, 0, none⟩ : Addr).add j) = some u) := by
                intro j u hu
                rw [WideShapes.add_plain]
                refine modsV_cells (O := 0) (fun q hq => ?_) j u hu
                have h0 : q < (p ++ r).length := by simp; omega
                have e : (p ++ r)[q] = p[q] := List.getElem_append_left hq
                obtain ⟨h1, h2⟩ := (unhide HX) q h0
                rw [e] at h1 h2
                rw [Nat.zero_add]
                exact ⟨(((Below.refl W.heap.size W).alloc (Nat.le_refl _) _).cell (p := ⟨g, q * 2, none⟩) hgI).trans ((b1.cell (p := ⟨g, q * 2, none⟩) hg2).trans h1), (((Below.refl W.heap.size W).alloc (Nat.le_refl _) _).cell (p := ⟨g, q * 2 + 1, none⟩) hgI).trans ((b1.cell (p := ⟨g, q * 2 + 1, none⟩) hg2).trans h2)⟩
              have HP2 : Hid (∀ w2, Below W.heap.size W w2 → ∀ j u, (modsV r)[j]? = some u → w2.cell? ((⟨g, m * 2, none⟩ : Addr).add j) = some u) := by
                intro w2 bw j u hu
                have hm := unhide HM
                rw [WideShapes.add_plain]
                refine modsV_cells (O := m * 2) (fun q hq => ?_) j u hu
                have h0 : m + q < (p ++ r).length := by simp; omega
                have e : (p ++ r)[m + q] = r[q] := by
                  rw [List.getElem_append_right (by omega)]
                  simp [hm]
                obtain ⟨h1, h2⟩ := (unhide HX) (m + q) h0
                rw [e] at h1 h2
                have e2 : m * 2 + q * 2 = (m + q) * 2 := by omega
                rw [e2]
                exact ⟨(bw.cell (p := ⟨g, (m + q) * 2, none⟩) hgI).trans ((b1.cell (p := ⟨g, (m + q) * 2, none⟩) hg2).trans h1), (bw.cell (p := ⟨g, (m + q) * 2 + 1, none⟩) hgI).trans ((b1.cell (p := ⟨g, (m + q) * 2 + 1, none⟩) hg2).trans h2)⟩
              have HB1 := hide b1
              have hmk : m ≤ k := by have h1 := unhide HXL; have h2 := unhide HM; simp at h1; omega
              have hmc : m ≤ cap := by omega
              have HRL : Hid (r.length = k - m) := by have h1 := unhide HXL; have h2 := unhide HM; simp at h1; show r.length = k - m; omega
              clear b1
              go_wp2_with (at_builtin; refine wpList_append_own _ rfl _ _ 52 rfl W.heap.size 45 i0 (.agg #[.string ByteArray.empty, .string ByteArray.empty]) 2 32 Tryz.underlying52 hi hz0 hz1 hz2 rfl (by decide) _ 0 [] rfl (own_newM W) ⟨g, 0, none⟩ m cap (modsV p) rfl (by have := unhide HM; rw [modsV_length]; omega) ?cells ?kind ?room ?len ?base ?_)
              case cells => exact (unhide HP1)
              case kind => exact modsV_one p
              case room => unfold maxLen; omega
              case len => omega
              case base => simp
              intro v1 w1 own1 grow1 _
              have bg1 := hide (((Below.refl W.heap.size W).alloc (Nat.le_refl _) _).grown grow1 (by simp) (fun j hj => by simp [Value.ownBlock] at hj; omega))
              have HO1 := hide own1
              have cu1 : w1.cell? ⟨B, off + k * 2, none⟩ = some (.string (ba t1)) := ((unhide bg1).cell (p := ⟨B, off + k * 2, none⟩) hBI).trans ctI1
              have cu2 : w1.cell? ⟨B, off + k * 2 + 1, none⟩ = some (.string (ba t2)) := ((unhide bg1).cell (p := ⟨B, off + k * 2 + 1, none⟩) hBI).trans ctI2
              clear own1 grow1 ctI1 ctI2 HP1
              go_wp2_with (at_builtin; refine wpList_append_own _ rfl _ _ 52 rfl W.heap.size 45 i0 (.agg #[.string ByteArray.empty, .string ByteArray.empty]) 2 32 Tryz.underlying52 hi hz0 hz1 hz2 rfl (by decide) _ _ _ rfl ((unhide HO1).alloc _) ⟨w1.heap.size, 0, none⟩ 1 1 [.string (ba t1), .string (ba t2)] rfl rfl ?cells ?kind ?room ?len ?base ?_)
              case cells =>
                intro j u hj
                match j, hj with
                | 0, hj => simp at hj; subst hj; simp [Addr.add]
                | 1, hj => simp at hj; subst hj; simp [Addr.add]
              case kind =>
                intro u hu
                simp at hu
                rcases hu with rfl | rfl
                · rfl
                · rfl
              case room => unfold maxLen; omega
              case len => omega
              case base => have := (unhide bg1).size; simp; omega
              intro v2 w2 own2 grow2 _
              have bg2 := hide (((unhide bg1).alloc (unhide bg1).size _).grown grow2 (by have := (unhide bg1).size; simp; omega) (fun j hj => ((unhide HO1).lt j hj).1))
              have HO2 := hide own2
              clear own2 grow2 cu1 cu2 HO1 bg1
              by_cases hcz : cap = m
              · obtain rfl : k = cap := by omega
                obtain rfl : k = m := by omega
                clear HP2 hcz hmc hmk hcap
                go_wp2_with (at_builtin; refine wpList_append_own _ rfl _ _ 52 rfl W.heap.size 45 i0 (.agg #[.string ByteArray.empty, .string ByteArray.empty]) 2 32 Tryz.underlying52 hi hz0 hz1 hz2 rfl (by decide) _ _ _ rfl (unhide HO2) _ 0 _ (modsV r) rfl (by have h := unhide HRL; have e : r = [] := List.length_eq_zero_iff.1 (by omega); rw [e]; rfl) ?cells ?kind ?room ?len ?base ?_)
                case cells => intro j u hu; have h := unhide HRL; have e : r = [] := List.length_eq_zero_iff.1 (by omega); rw [e] at hu; simp [modsV] at hu
                case kind => exact modsV_one r
                case room => unfold maxLen; omega
                case len => omega
                case base => exact (unhide bg2).size
                intro v3 w3 own3 grow3 _
                have bg3 := hide ((unhide bg2).grown grow3 (unhide bg2).size (fun j hj => ((unhide HO2).lt j hj).1))
                have HO3 := hide own3
                clear own3 grow3 HO2 bg2
                go_wp2
                go_roundw
                case rel => exact ⟨k + 1, hlt, by simp, insM_next (t := (t1, t2)) hkp (unhide HT0) (unhide HXL) (unhide HPE) (unhide HSR) (unhide HR) (unhide HLAST) (unhide HB0) (unhide HB1) (unhide bg3) rfl (own_countM (unhide HO3) (by have h1 := unhide HXL; have h2 := unhide HM; have h3 := unhide HRL; simp at h1 ⊢; omega) (by simp [modsV_append, modsV]))⟩
                case measure => simp [intOf]; omega
              · have z2 : ¬ m = cap := fun e => hcz e.symm
                have z3 : ¬ cap - m = 0 := by omega
                have z4 : m < cap := by omega
                go_wp2_with (at_builtin; refine wpList_append_own _ rfl _ _ 52 rfl W.heap.size 45 i0 (.agg #[.string ByteArray.empty, .string ByteArray.empty]) 2 32 Tryz.underlying52 hi hz0 hz1 hz2 rfl (by decide) _ _ _ rfl (unhide HO2) ⟨g, m * 2, none⟩ (k - m) (cap - m) (modsV r) rfl (by have := unhide HRL; rw [modsV_length]; omega) ?cells ?kind ?room ?len ?base ?_)
                case cells => exact (unhide HP2) _ (unhide bg2)
                case kind => exact modsV_one r
                case room => unfold maxLen; omega
                case len => omega
                case base => exact (unhide bg2).size
                intro v3 w3 own3 grow3 _
                have bg3 := hide ((unhide bg2).grown grow3 (unhide bg2).size (fun j hj => ((unhide HO2).lt j hj).1))
                have HO3 := hide own3
                clear own3 grow3 HO2 bg2 HP2
                go_wp2
                go_roundw
                case rel => exact ⟨k + 1, hlt, by simp, insM_next (t := (t1, t2)) hkp (unhide HT0) (unhide HXL) (unhide HPE) (unhide HSR) (unhide HR) (unhide HLAST) (unhide HB0) (unhide HB1) (unhide bg3) rfl (own_countM (unhide HO3) (by have h1 := unhide HXL; have h2 := unhide HM; have h3 := unhide HRL; simp at h1 ⊢; omega) (by simp [modsV_append, modsV]))⟩
                case measure => simp [intOf]; omega
    · have hke : k = n := by omega
      subst hke
      clear hkn
      go_wp2
      go_ret
      exact ⟨_, rfl, hins⟩

end Go.Proofs.YtcmafidnaojkiaaGreatDoor

namespace Go.Proofs.YtcmafidnaojkiaaGreatDoor
open Go.RowKit

theorem cell_heapM {w w' : World} (h : w'.heap = w.heap) {p : Addr} : w'.cell? p = w.cell? p := by
  unfold World.cell?
  rw [h]

set_option maxHeartbeats 1000000 in
theorem sameMods_same {x : List Md} {A ao ac B bo bc : Nat} {w : World} (hn : x.length ≤ 1099511627776) (ha : ∀ k (hk : k < x.length), w.cell? ⟨A, ao + k * 2, none⟩ = some (.string (ba x[k].1)) ∧ w.cell? ⟨A, ao + k * 2 + 1, none⟩ = some (.string (ba x[k].2)))
    (hb : ∀ k (hk : k < x.length), w.cell? ⟨B, bo + k * 2, none⟩ = some (.string (ba x[k].1)) ∧ w.cell? ⟨B, bo + k * 2 + 1, none⟩ = some (.string (ba x[k].2))) :
    Calls Tryz.prog 44 #[.slice (some ⟨A, ao, none⟩) x.length ac, .slice (some ⟨B, bo, none⟩) x.length bc] w fun e w' => e = .returned (.bool true) ∧ Below w.heap.size w w' := by
  have HA := hide ha
  have HB := hide hb
  obtain ⟨n, hnn⟩ : ∃ n, x.length = n := ⟨_, rfl⟩
  rw [hnn] at hn ⊢
  have HN := hide hnn
  clear ha hb hnn
  go_enter Tryz.func44, Tryz.ntmps44
  go_wp2
  go_loopw [5] (fun v wr => ∃ k : Nat, k ≤ n ∧ v = .int .i64 k ∧ wr.heap = w.heap ∧ Below w.heap.size w wr) (fun v _ => n - (intOf v).toNat)
  case atStart => exact ⟨0, Nat.zero_le _, rfl, rfl, Below.refl _ _⟩
  case round =>
    obtain ⟨k, hk, rfl, hw, hbw⟩ := hrel
    have HW := hide hw
    have HBW := hide hbw
    by_cases hlt : k < n
    · have hkx : k < x.length := by rw [unhide HN]; exact hlt
      obtain ⟨t1, t2, ht⟩ : ∃ t1 t2, x[k] = (t1, t2) := ⟨_, _, rfl⟩
      have ca1 : wr.cell? ⟨A, ao + k * 2, none⟩ = some (.string (ba t1)) := by rw [cell_heapM hw]; have := ((unhide HA) k hkx).1; rw [ht] at this; exact this
      have ca2 : wr.cell? ⟨A, ao + k * 2 + 1, none⟩ = some (.string (ba t2)) := by rw [cell_heapM hw]; have := ((unhide HA) k hkx).2; rw [ht] at this; exact this
      have cb1 : wr.cell? ⟨B, bo + k * 2, none⟩ = some (.string (ba t1)) := by rw [cell_heapM hw]; have := ((unhide HB) k hkx).1; rw [ht] at this; exact this
      have cb2 : wr.cell? ⟨B, bo + k * 2 + 1, none⟩ = some (.string (ba t2)) := by rw [cell_heapM hw]; have := ((unhide HB) k hkx).2; rw [ht] at this; exact this
      have hl1 := ba_list t1
      have hl2 := ba_list t2
      clear hw ht hbw
      go_wp2
      go_quiet (fail)
      go_wp2
      go_roundw
      case rel => exact ⟨k + 1, hlt, by simp, unhide HW, below_drewN (unhide HBW) _⟩
      case measure => simp [intOf]; omega
    · clear hw hbw
      go_wp2
      go_ret
      exact ⟨rfl, unhide HBW⟩

theorem sameMods_none {a b : Option Addr} {ac bc : Nat} (w : World) : Calls Tryz.prog 44 #[.slice a 0 ac, .slice b 0 bc] w fun e w' => e = .returned (.bool true) ∧ w' = w := by
  go_enter Tryz.func44, Tryz.ntmps44
  go_wp2
  refine wp_loop_rounds 1 ?_
  rw [rounds_succ]
  go_wp2
  go_ret
  exact ⟨rfl, rfl⟩

theorem refSortM_none (w : World) : Calls Tryz.prog 45 #[.slice none 0 0] w fun e w' => e = .returned (.slice none 0 0) ∧ w' = w := by
  go_enter Tryz.func45, Tryz.ntmps45
  go_wp2
  refine wp_loop_rounds 1 ?_
  rw [rounds_succ]
  go_wp2
  go_ret
  exact ⟨rfl, rfl⟩

theorem RowM.mods {g : Nat} {x : List Md} {w : World} (h : RowM g x w) : ∀ k (hk : k < x.length), w.cell? ⟨g, 0 + k * 2, none⟩ = some (.string (ba x[k].1)) ∧ w.cell? ⟨g, 0 + k * 2 + 1, none⟩ = some (.string (ba x[k].2)) := fun k hk => by rw [Nat.zero_add]; exact (h k hk).1

/-- Two rows of the same modules, one of them by what is owned. -/
theorem same_ownM {w : World} {base g n c : Nat} {v : Value} {x : List Md} (hx : x.length = n) (hn : n ≤ 60) (hr : RowM g x w) (ho : w.ownsRow base 45 2 v n (modsV x)) :
    Calls Tryz.prog 44 #[.slice (some ⟨g, 0, none⟩) n c, v] w fun e w' => e = .returned (.bool true) ∧ Below w.heap.size w w' := by
  by_cases hv : v = .slice none 0 0
  · subst hv
    have h0 : n = 0 := by
      rcases ho.2 with ⟨_, h⟩ | ⟨g, cap, cur, h, _⟩
      · exact h
      · cases h
    subst h0
    exact (sameMods_none w).mono fun e w' ⟨he, hw⟩ => ⟨he, by rw [hw]; exact Below.refl _ _⟩
  · obtain ⟨g2, cap, rfl, _, hg2, _, hr2⟩ := own_rowM ho hv
    subst hx
    exact sameMods_same (ao := 0) (bo := 0) (by omega) hr.mods hr2.mods

/-- few at a row of texts that is owned. -/
theorem few_own {w : World} {base n : Nat} {v : Value} {x : List Str} {r : Bool} (h : fewB x = r) (hn : n ≤ 61) (ho : w.ownsRow base 9 1 v n (strsV x)) : Calls Tryz.prog 14 #[v] w fun e w' => e = .returned (.bool r) ∧ w' = w := by
  have hxn : x.length = n := by have := ho.1; simpa [strsV] using this
  rcases ho.2 with ⟨rfl, h0⟩ | ⟨g, cap, cur, rfl, hb, hblk, hcap, hcm, hcs, hcur⟩
  · have hx : x = [] := List.length_eq_zero_iff.1 (by omega)
    subst hx
    have : r = true := by rw [← h]; rfl
    rw [this]
    exact few_none w
  · have := few_at (ps := x) (cp := cap) (B := g) (off := 0) (w := w) (by omega) (fun k hk => by
      rw [Nat.zero_add, Lib.cell_of_heap hblk]
      have h1 : cur.toList[k]? = (strsV x)[k]? := by rw [← hcur, List.getElem?_take_of_lt (by omega)]
      have h2 : cur[k]? = cur.toList[k]? := by simp
      rw [h2, h1]
      simp [strsV, hk])
    rw [h, hxn] at this
    exact this

/-- The texts that few is asked of. -/
def cats (ps : List Md) : List Str := ps.map fun p => p.1 ++ p.2
theorem cats_length (ps : List Md) : (cats ps).length = ps.length := by simp [cats]

theorem few_cut {l : List Str} {k : Nat} (h1 : k ≤ l.length) (h2 : k = l.length ∨ k = 61) : fewB (l.take k) = fewB l := by
  rcases h2 with h | h
  · rw [h, List.take_length]
  · by_cases hl : l.length = 61
    · rw [h, ← hl, List.take_length]
    · unfold fewB
      have a1 : decide ((l.take k).length ≤ 60) = false := by simp; omega
      have a2 : decide (l.length ≤ 60) = false := by simp; omega
      rw [a1, a2]; rfl

/-- What holds while both Less read. -/
abbrev HeldL (W : World) (B o p : Nat) (x y : Md) (wq : World) : Prop :=
  wq.cell? ⟨B, o, none⟩ = some (.string (ba x.1)) ∧ wq.cell? ⟨B, o + 1, none⟩ = some (.string (ba x.2)) ∧ wq.cell? ⟨B, p, none⟩ = some (.string (ba y.1)) ∧ wq.cell? ⟨B, p + 1, none⟩ = some (.string (ba y.2)) ∧ Below W.heap.size W wq

theorem heldL_keep {W wq w' : World} {B o p : Nat} {x y : Md} (hBW : B < W.heap.size) (hS : HeldL W B o p x y wq) (b : Below wq.heap.size wq w') : HeldL W B o p x y w' := by
  obtain ⟨s1, s2, s3, s4, s5⟩ := hS
  have h2 := Nat.lt_of_lt_of_le hBW s5.size
  exact ⟨(b.cell (p := ⟨B, o, none⟩) h2).trans s1, (b.cell (p := ⟨B, o + 1, none⟩) h2).trans s2, (b.cell (p := ⟨B, p, none⟩) h2).trans s3, (b.cell (p := ⟨B, p + 1, none⟩) h2).trans s4, below_trans s5 b⟩

theorem less_heldL {w W wq : World} {B o p : Nat} {x y : Md} {r : Bool} (hg : Gd w) (hW : Below w.heap.size w W) (hBW : B < W.heap.size) (hr : ltM x y = r) (hS : HeldL W B o p x y wq) :
    Calls Tryz.prog 46 #[.agg #[.string (ba x.1), .string (ba x.2)], .agg #[.string (ba y.1), .string (ba y.2)]] wq fun e w' => e = .returned (.bool r) ∧ HeldL W B o p x y w' := by
  refine (less_any (p := x) (q := y) (hg.below (below_trans hW hS.2.2.2.2))).mono ?_
  rintro e w' ⟨rfl, b⟩
  exact ⟨ret_bool hr, heldL_keep hBW hS b⟩
theorem refless_heldL {W wq : World} {B o p : Nat} {x y : Md} {r : Bool} (hBW : B < W.heap.size) (hr : ltM x y = r) (hS : HeldL W B o p x y wq) :
    Calls Tryz.prog 47 #[.agg #[.string (ba x.1), .string (ba x.2)], .agg #[.string (ba y.1), .string (ba y.2)]] wq fun e w' => e = .returned (.bool r) ∧ HeldL W B o p x y w' := by
  refine (refLess_any (p := x) (q := y) wq).mono ?_
  rintro e w' ⟨rfl, b⟩
  exact ⟨ret_bool hr, heldL_keep hBW hS b⟩
theorem heldL_drew {W wq : World} {B o p : Nat} {x y : Md} (hS : HeldL W B o p x y wq) : HeldL W B o p x y wq.drew := ⟨hS.1, hS.2.1, hS.2.2.1, hS.2.2.2.1, hS.2.2.2.2.drew⟩
theorem heldL_end {W wq : World} {B o p : Nat} {x y : Md} (hS : HeldL W B o p x y wq) : Below W.heap.size W wq := hS.2.2.2.2

theorem ltM_antisymm {a b : Md} (h1 : ltM a b = false) (h2 : ltM b a = false) : a = b := by
  have t := orders_m.turn a b
  simp only [decide_eq_false_iff_not] at h1 h2
  exact (orders_m.eq a b).1 (by omega)

theorem srt_uniqueM : ∀ {x y : List Md}, x.Perm y → Srt ltM x → Srt ltM y → x = y
  | [], y, h, _, _ => (List.Perm.nil_eq h)
  | a :: x, [], h, _, _ => absurd h.length_eq (by simp)
  | a :: x, b :: y, h, hx, hy => by
    have hx' := List.pairwise_cons.1 hx
    have hy' := List.pairwise_cons.1 hy
    have e : a = b := by
      rcases List.mem_cons.1 (h.mem_iff.1 (List.mem_cons_self (a := a) (l := x))) with e | ha
      · exact e
      · rcases List.mem_cons.1 (h.mem_iff.2 (List.mem_cons_self (a := b) (l := y))) with e | hb
        · exact e.symm
        · exact ltM_antisymm (hy'.1 a ha) (hx'.1 b hb)
    subst e
    rw [srt_uniqueM (List.Perm.cons_inv h) hx'.2 hy'.2]

end Go.Proofs.YtcmafidnaojkiaaGreatDoor

namespace Go.Proofs.YtcmafidnaojkiaaGreatDoor
open Go.RowKit
attribute [local go_sem ↓] Go.wp_at_zero Go.wp_at_succ

theorem size_dn (w : World) (o : Obj) : (w.drew.alloc o).heap.size = w.heap.size + 1 := by
  show (w.heap.push _).size = _
  simp

theorem cats_step {ps : List Md} {k : Nat} {t1 t2 : Str} (hk : k < ps.length) (ht : ps[k] = (t1, t2)) : strsV ((cats ps).take (k + 1)) = strsV ((cats ps).take k) ++ [.string (ba (t1 ++ t2))] := by
  have h : k < (cats ps).length := by rw [cats_length]; exact hk
  have e : (cats ps)[k] = t1 ++ t2 := by simp [cats, ht]
  rw [List.take_add_one, List.getElem?_eq_getElem h, e]
  simp [strsV]

set_option maxHeartbeats 4000000 in
set_option maxRecDepth 100000 in
theorem lists_at {ps : List Md} {B off c : Nat} {w : World} (hg : Gd w) (hn : ps.length ≤ 1048576) (hB : B < w.heap.size) (hsz : ∀ p ∈ ps, p.1.length + p.2.length ≤ 1048576) (ht : ∀ k (hk : k < ps.length), w.cell? ⟨B, off + k * 2, none⟩ = some (.string (ba ps[k].1)) ∧ w.cell? ⟨B, off + k * 2 + 1, none⟩ = some (.string (ba ps[k].2))) :
    Gives 8 #[.slice (some ⟨B, off, none⟩) ps.length c] w (.bool true) := by
  unfold Gives
  obtain ⟨i0, hi, hz0, hz1, hz2⟩ := info_parts info9
  obtain ⟨i1, hj, hy0, hy1, hy2⟩ := info_parts infoMP
  have HT := hide ht
  have HSZ := hide hsz
  obtain ⟨n, hnn⟩ : ∃ n, ps.length = n := ⟨_, rfl⟩
  rw [hnn] at hn ⊢
  have HN := hide hnn
  clear ht hsz hnn
  go_enter Tryz.func8, Tryz.ntmps8
  go_wp2_with (go_at_call 13; fail)
  refine (first_any hg).mono ?_
  rintro e w1 ⟨rfl, b1⟩
  have HB1 := hide b1
  clear b1
  go_wp2
  go_loopw [4, 5] (fun v4 v5 wr => ∃ k : Nat, k ≤ n ∧ k ≤ 61 ∧ v5 = .int .i64 k ∧ wr.ownsRow w.heap.size 9 1 v4 k (strsV ((cats ps).take k)) ∧ Below w.heap.size w wr) (fun _ v5 _ => 61 - (intOf v5).toNat)
  case atStart => exact ⟨0, Nat.zero_le _, Nat.zero_le _, rfl, ⟨rfl, Or.inl ⟨rfl, rfl⟩⟩, unhide HB1⟩
  case round =>
    obtain ⟨k, hkn, hk61, rfl, hown, hbw⟩ := hrel
    by_cases hlt : k < n
    · by_cases h60 : k ≤ 60
      · have hkp : k < ps.length := by rw [unhide HN]; exact hlt
        obtain ⟨t1, t2, ht0⟩ : ∃ t1 t2, ps[k] = (t1, t2) := ⟨_, _, rfl⟩
        have c1 : wr.cell? ⟨B, off + k * 2, none⟩ = some (.string (ba t1)) := by
          have := ((unhide HT) k hkp).1
          rw [ht0] at this
          exact (hbw.cell (p := ⟨B, off + k * 2, none⟩) hB).trans this
        have c2 : wr.cell? ⟨B, off + k * 2 + 1, none⟩ = some (.string (ba t2)) := by
          have := ((unhide HT) k hkp).2
          rw [ht0] at this
          exact (hbw.cell (p := ⟨B, off + k * 2 + 1, none⟩) hB).trans this
        have hs12 : t1.length + t2.length ≤ 1048576 := by
          have := (unhide HSZ) ps[k] (List.getElem_mem hkp)
          rw [ht0] at this
          exact this
        have hcat : ba t1 ++ ba t2 = ba (t1 ++ t2) := ba_add t1 t2
        have hlim : ¬ 9223372036854775807 < t1.length + t2.length := by omega
        have HT0 := hide ht0
        clear ht0
        have s1 := ba_size t1
        have s2 := ba_size t2
        have HO := hide hown
        have HBW := hide hbw
        have hbs : w.heap.size ≤ wr.heap.size := hbw.size
        clear hown hbw
        go_wp2
        go_region_law (refine step_append_lies _ (by rfl) _ _ _ (by rfl) w.heap.size 9 i0 _ 1 16 Tryz.underlying24 hi hz0 hz1 hz2 rfl (by omega) u4 k _ (by rfl) ((unhide HO).drew.alloc _) ⟨wr.heap.size, 0, none⟩ 1 1 [.string (ba (t1 ++ t2))] (by rfl) (by rfl) (World.news_of_block (cs := #[.string (ba (t1 ++ t2))]) (t := 9) (fr := (0, 0)) (heap_new wr.drew _)) (by simp [Value.oneCell']) (by omega) (by unfold maxLen; omega) (by omega) (by show w.heap.size ≤ (wr.heap.push _).size; rw [Array.size_push]; omega) (wr.heap.size + 1) (size_dn wr _) ?_; intro g cap w4 hown4 hgrow hat hlt4)
        all_goals
          have bg := hide ((((unhide HBW).drew).alloc hbs _).grown hgrow (by show w.heap.size ≤ (wr.heap.push _).size; rw [Array.size_push]; omega) (fun j hj => ((unhide HO).lt j hj).1))
          have HO4 := hide hown4
          clear hown4 hgrow hat
          go_wp2
          go_roundw
          case rel => exact ⟨k + 1, hlt, by omega, by simp, by rw [cats_step hkp (unhide HT0)]; exact unhide HO4, unhide bg⟩
          case measure => simp [intOf]; omega
      · have hke : k = 61 := by omega
        have HF := hide (few_own (r := false) (by subst hke; unfold fewB; have a1 : decide (((cats ps).take 61).length ≤ 60) = false := by { have := unhide HN; simp [cats]; omega }; rw [a1]; rfl) (by omega) hown)
        have HBW := hide hbw
        have q2 : ¬ (k : Int) ≤ 60 := by omega
        clear hown hbw hke
        go_wp2_with (go_at_call 14; fail)
        refine (unhide HF).mono ?_
        rintro e w2 ⟨rfl, hw⟩
        rw [hw]; clear hw w2
        go_wp2
        go_ret
        exact ⟨rfl, unhide HBW⟩
    · have hke : k = n := by omega
      subst hke
      have HTK : Hid (((cats ps).take k) = cats ps) := by
        show (cats ps).take k = cats ps
        rw [← unhide HN, ← cats_length, List.take_length]
      rw [unhide HTK] at hown
      cases hfw : fewB (cats ps) with
      | false =>
        have HF := hide (few_own hfw (by omega) hown)
        have HBW := hide hbw
        clear hown hbw hfw
        go_wp2_with (go_at_call 14; fail)
        refine (unhide HF).mono ?_
        rintro e w2 ⟨rfl, hw⟩
        rw [hw]; clear hw w2
        go_wp2
        go_ret
        exact ⟨rfl, unhide HBW⟩
      | true =>
        have HF := hide (few_own hfw (by omega) hown)
        have HFW := hide hfw
        have b0 := hbw
        obtain ⟨n, hnk⟩ : ∃ n, k = n := ⟨_, rfl⟩
        rw [hnk] at HN hkn hlt hk61 hn ⊢
        clear hown hbw hfw hlt hkn hnk HTK
        go_wp2_with (go_at_call 14; fail)
        refine (unhide HF).mono ?_
        rintro e w2 ⟨rfl, hw⟩
        rw [hw]; clear hw w2
        have hn60 : n ≤ 60 := by have h1 := unhide HFW; unfold fewB at h1; simp [cats_length] at h1; have := unhide HN; omega
        have HNEWS : Hid (∀ j u, (modsV ps)[j]? = some u → (wr.alloc (.cells #[] 45)).cell? ((⟨B, off, none⟩ : Addr).add j) = some u) := by
          intro j u hu
          rw [WideShapes.add_plain]
          refine modsV_cells (fun q hq => ?_) j u hu
          have hq := (unhide HT) q hq
          exact ⟨((b0.alloc b0.size (.cells #[] 45)).cell (p := ⟨B, off + q * 2, none⟩) hB).trans hq.1, ((b0.alloc b0.size (.cells #[] 45)).cell (p := ⟨B, off + q * 2 + 1, none⟩) hB).trans hq.2⟩
        go_wp2_with (at_builtin; refine wpList_append_own _ rfl _ _ 52 rfl wr.heap.size 45 i1 (.agg #[.string ByteArray.empty, .string ByteArray.empty]) 2 32 Tryz.underlying52 hj hy0 hy1 hy2 rfl (by decide) _ 0 [] rfl (own_newM wr) ⟨B, off, none⟩ n c (modsV ps) rfl (by have := unhide HN; rw [modsV_length]; omega) ?cells ?kind ?room ?len ?base ?_)
        case cells => exact (unhide HNEWS)
        case kind => exact modsV_one ps
        case room => unfold maxLen; omega
        case len => omega
        case base => simp
        intro v5 w5 own5 grow5 ne5
        have b5 := (b0.alloc b0.size (.cells #[] 45)).grown grow5 (by have := b0.size; simp; omega) (fun j hj => by simp [Value.ownBlock] at hj; have := b0.size; omega)
        have own5' : w5.ownsRow wr.heap.size 45 2 v5 n (modsV ps) := by simpa using own5
        obtain ⟨gi, ci, rfl, _, hgi, _, hrow5⟩ := own_rowM own5' ne5
        have HROW := hide hrow5
        clear own5 own5' grow5 ne5 HNEWS b0
        have HS : Hid (Calls Tryz.prog 43 #[.slice (some ⟨gi, 0, none⟩) n ci] w5 fun e w' => ∃ g cap x, e = .returned (.slice (some ⟨g, 0, none⟩) n cap) ∧ x.Perm ps ∧ Srt ltM x ∧ RowM g x w' ∧ w5.heap.size ≤ g ∧ g < w'.heap.size ∧ Below w5.heap.size w5 w') := by
          have := sort_M (ps := ps) (c := ci) (hg.below b5) (by have := unhide HN; omega) hrow5.mods
          rw [unhide HN] at this
          exact this
        clear hrow5
        go_wp2_with (go_at_call 43; fail)
        refine (unhide HS).mono ?_
        rintro e w6 ⟨gs, cs, x, rfl, hperm, hsrt, hrow6, _, hgs, b6⟩
        have HROW6 := hide ((unhide HROW).below b6 hgi)
        have hgi6 : gi < w6.heap.size := Nat.lt_of_lt_of_le hgi b6.size
        have b6 := below_trans b5 b6
        have HX6 := hide hrow6
        have HPE := hide hperm
        have HSR := hide hsrt
        have HRS : Hid (Calls Tryz.prog 45 #[.slice (some ⟨B, off, none⟩) n c] w6 fun e w' => ∃ v, e = .returned v ∧ InsM ps w6 ps.length v w') := by
          have := refSort_M (ps := ps) (c := c) (B := B) (off := off) (w := w6) (by have := unhide HN; omega) (Nat.lt_of_lt_of_le hB b6.size) (fun k hk => ⟨(b6.cell (p := ⟨B, off + k * 2, none⟩) hB).trans ((unhide HT) k hk).1, (b6.cell (p := ⟨B, off + k * 2 + 1, none⟩) hB).trans ((unhide HT) k hk).2⟩)
          rw [unhide HN] at this ⊢
          exact this
        clear HS b5 hperm hsrt hrow6 HROW
        go_wp2_with (go_at_call 45; fail)
        refine (unhide HRS).mono ?_
        rintro e w7 ⟨v, rfl, y, hyl, hown, hyp, hys, b7⟩
        rw [List.take_length] at hyp
        obtain rfl : y = x := srt_uniqueM (hyp.trans (unhide HPE).symm) hys (unhide HSR)
        have HX7 := hide ((unhide HX6).below b7 hgs)
        have HROW7 := hide ((unhide HROW6).below b7 hgi6)
        have hgi7 : gi < w7.heap.size := Nat.lt_of_lt_of_le hgi6 b7.size
        have hyn : y.length = n := hyl.trans (unhide HN)
        have HST : Hid (Calls Tryz.prog 44 #[.slice (some ⟨gs, 0, none⟩) n cs, v] w7 fun e w' => e = .returned (.bool true) ∧ Below w7.heap.size w7 w') :=
          same_ownM hyn (by omega) (unhide HX7) (by rw [← hyn]; exact hown)
        have b7 := below_trans b6 b7
        clear HRS hyl hown hyp hys b6 HX6 HROW6 hyn
        go_wp2_with (go_at_call 44; fail)
        refine (unhide HST).mono ?_
        rintro e w8 ⟨rfl, b8⟩
        have HROW8 := hide ((unhide HROW7).below b8 hgi7)
        have b8 := below_trans b7 b8
        have HST2 : Hid (Calls Tryz.prog 44 #[.slice (some ⟨gi, 0, none⟩) n ci, .slice (some ⟨B, off, none⟩) n c] w8 fun e w' => e = .returned (.bool true) ∧ Below w8.heap.size w8 w') := by
          have := sameMods_same (x := ps) (ac := ci) (bc := c) (A := gi) (ao := 0) (B := B) (bo := off) (w := w8) (by have := unhide HN; omega) (unhide HROW8).mods (fun k hk => ⟨(b8.cell (p := ⟨B, off + k * 2, none⟩) hB).trans ((unhide HT) k hk).1, (b8.cell (p := ⟨B, off + k * 2 + 1, none⟩) hB).trans ((unhide HT) k hk).2⟩)
          rw [unhide HN] at this
          exact this
        clear HST b7 HROW7 HX7
        go_wp2_with (go_at_call 44; fail)
        refine (unhide HST2).mono ?_
        rintro e W ⟨rfl, b9⟩
        have bW := below_trans b8 b9
        have hBW : B < W.heap.size := Nat.lt_of_lt_of_le hB bW.size
        clear HST2 b8 HROW8 b9
        go_wp2
        go_loopw [10] (fun v10 wz => ∃ i : Nat, 1 ≤ i ∧ i ≤ n + 1 ∧ v10 = .int .i64 i ∧ Below W.heap.size W wz) (fun v10 _ => n + 1 - (intOf v10).toNat)
        case atStart => exact ⟨1, by omega, by omega, rfl, Below.refl _ _⟩
        case round =>
          obtain ⟨i, hi1, hin, rfl, hbz⟩ := hrel
          rename World => wz
          have HBZ := hide hbz
          by_cases hlt : i < n
          · obtain ⟨q, hq⟩ : ∃ q, i = q + 1 := ⟨i - 1, by omega⟩
            have hqp : q < ps.length := by rw [unhide HN]; omega
            have hip : i < ps.length := by rw [unhide HN]; exact hlt
            obtain ⟨x1, x2, hx⟩ : ∃ x1 x2, ps[q] = (x1, x2) := ⟨_, _, rfl⟩
            obtain ⟨y1, y2, hy⟩ : ∃ y1 y2, ps[i] = (y1, y2) := ⟨_, _, rfl⟩
            have c1 : wz.cell? ⟨B, off + q * 2, none⟩ = some (.string (ba x1)) := by
              have := ((unhide HT) q hqp).1; rw [hx] at this
              exact (hbz.cell (p := ⟨B, off + q * 2, none⟩) hBW).trans ((bW.cell (p := ⟨B, off + q * 2, none⟩) hB).trans this)
            have c2 : wz.cell? ⟨B, off + q * 2 + 1, none⟩ = some (.string (ba x2)) := by
              have := ((unhide HT) q hqp).2; rw [hx] at this
              exact (hbz.cell (p := ⟨B, off + q * 2 + 1, none⟩) hBW).trans ((bW.cell (p := ⟨B, off + q * 2 + 1, none⟩) hB).trans this)
            have c3 : wz.cell? ⟨B, off + i * 2, none⟩ = some (.string (ba y1)) := by
              have := ((unhide HT) i hip).1; rw [hy] at this
              exact (hbz.cell (p := ⟨B, off + i * 2, none⟩) hBW).trans ((bW.cell (p := ⟨B, off + i * 2, none⟩) hB).trans this)
            have c4 : wz.cell? ⟨B, off + i * 2 + 1, none⟩ = some (.string (ba y2)) := by
              have := ((unhide HT) i hip).2; rw [hy] at this
              exact (hbz.cell (p := ⟨B, off + i * 2 + 1, none⟩) hBW).trans ((bW.cell (p := ⟨B, off + i * 2 + 1, none⟩) hB).trans this)
            obtain ⟨r, hr⟩ : ∃ r, ltM (x1, x2) (y1, y2) = r := ⟨_, rfl⟩
            have HR := hide hr
            have e1 : (i : Int) - 1 = (q : Int) := by omega
            have k0 : q < n := by omega
            have k3 : i ≤ 60 := by omega
            have k6 : q ≤ 60 := by omega
            have k8 : IntKind.i64.wrap (q : Int) = (q : Int) := wrapD k6
            have k4 : (q : Int) < (n : Int) := by omega
            have k5 : (i : Int) < (n : Int) := by omega
            clear hr hx hy hq hqp hip hi1 hin
            go_wp2
            go_region_held3 (fun w' => w'.cell? ⟨B, off + q * 2, none⟩ = some (.string (ba x1)) ∧ w'.cell? ⟨B, off + q * 2 + 1, none⟩ = some (.string (ba x2)) ∧ w'.cell? ⟨B, off + i * 2, none⟩ = some (.string (ba y1)) ∧ w'.cell? ⟨B, off + i * 2 + 1, none⟩ = some (.string (ba y2)) ∧ Below W.heap.size W w')
              (first | assumption | exact heldL_drew (x := (x1, x2)) (y := (y1, y2)) (by assumption) | exact ⟨c1, c2, c3, c4, hbz⟩ | exact heldL_drew (x := (x1, x2)) (y := (y1, y2)) ⟨c1, c2, c3, c4, hbz⟩)
              (first
                | (go_at_call 46; refine (less_heldL (o := off + q * 2) (p := off + i * 2) (x := (x1, x2)) (y := (y1, y2)) hg bW hBW (unhide HR) (by assumption)).mono ?_; rintro e w' ⟨rfl, hk9⟩)
                | (go_at_call 47; refine (refless_heldL (o := off + q * 2) (p := off + i * 2) (x := (x1, x2)) (y := (y1, y2)) hBW (unhide HR) (by assumption)).mono ?_; rintro e w' ⟨rfl, hk9⟩))
            go_wp2
            go_roundw
            case rel => exact ⟨i + 1, by omega, by omega, by simp, heldL_end (B := B) (o := off + q * 2) (p := off + i * 2) (x := (x1, x2)) (y := (y1, y2)) (by assumption)⟩
            case measure => simp [intOf]; omega
          · go_wp2
            go_ret
            exact ⟨rfl, below_trans bW (unhide HBZ)⟩

end Go.Proofs.YtcmafidnaojkiaaGreatDoor

namespace Go.Proofs.YtcmafidnaojkiaaGreatDoor
open Go.ChangeShapes Go.WideShapes Go.ChangeAt Go.RowKit

theorem bytes_size (s : ByteArray) : s.data.toList.length = s.size := by
  show s.data.toList.length = s.data.size
  exact Array.length_toList

set_option maxRecDepth 100000 in
theorem open_mod {H : Type} {enc : TypeId × Value → H} {W : World} {fuel : Nat} {cs : List Value} {y : DataW H × List MemPlace} (h : DataW.trod enc Tryz.prog W 0 (fun _ => true) true fuel 45 cs = some y) :
    ∃ p : Md, cs = [.string (ba p.1), .string (ba p.2)] ∧ p.1.length + p.2.length ≤ Rows.uptoBulk y.1 := by
  obtain ⟨xs, k, _, hxy, hcl, hxl, hf⟩ := DataW.trod_struct Tryz.underlying45 h
  have c45 : Tryz.prog.cellsOf 45 = 2 := by kernel_rfl
  have c9 : Tryz.prog.cellsOf 9 = 1 := by kernel_rfl
  rw [c45] at hcl
  have hxl2 : xs.length = 2 := hxl
  match xs, hxl2, cs, hcl with
  | [y0, y1], _, [v0, v1], _ =>
    have g0 := hf 0 _ rfl
    have g1 := hf 1 _ rfl
    simp [c9] at g0 g1
    obtain ⟨s0, e0, f0, _⟩ := DataW.trod_string Tryz.underlying9 g0
    obtain ⟨s1, e1, f1, _⟩ := DataW.trod_string Tryz.underlying9 g1
    simp at e0 e1
    subst e0 e1
    refine ⟨(s0.data.toList, s1.data.toList), by rw [ba_of, ba_of], ?_⟩
    rw [hxy]
    simp only [List.map_cons, List.map_nil, Rows.uptoBulk, Rows.uptoBulkAll, f0, f1]
    omega

set_option maxRecDepth 100000 in
theorem open_mods {H : Type} {enc : TypeId × Value → H} {W : World} {base : Nat} {a : Option Addr} {len cap : Nat} {d : DataW H} {p : List MemPlace} (hv : Value.okWide Tryz.prog W .any base 52 (.slice a len cap))
    (h : DataW.Trod enc Tryz.prog W 0 (fun _ => true) true 52 (.slice a len cap) d p) :
    (a = none ∧ len = 0 ∧ cap = 0) ∨ ∃ (B O : Nat) (ps : List Md), a = some ⟨B, O, none⟩ ∧ len = ps.length ∧ B < W.heap.size ∧ (∀ p ∈ ps, p.1.length + p.2.length ≤ Rows.uptoBulk d) ∧
      ∀ k (hk : k < ps.length), W.cell? ⟨B, O + k * 2, none⟩ = some (.string (ba ps[k].1)) ∧ W.cell? ⟨B, O + k * 2 + 1, none⟩ = some (.string (ba ps[k].2)) := by
  obtain ⟨fuel, hf⟩ := h
  rcases Deep.open_slice Tryz.underlying52 hf with ⟨hcs, _⟩ | ⟨x, len', cap', m, n, D, Pl, hcs, _, hl, hm, hmm, hx, hel⟩
  · simp [Value.cells] at hcs
    exact Or.inl hcs
  · simp [Value.cells] at hcs
    obtain ⟨rfl, rfl, rfl⟩ := hcs
    right
    obtain ⟨hs, hb⟩ := slice_ok Tryz.underlying52 hv
    obtain ⟨B, O, sp⟩ := x
    have hsp : sp = none := hs
    subst hsp
    have hmm' : m = cap := by simpa using hmm
    subst hmm'
    have c45 : Tryz.prog.cellsOf 45 = 2 := by kernel_rfl
    rw [c45] at hel
    simp only [Prod.mk.injEq] at hx
    rw [hx.1]
    have hb2 := bulk_slice (Nat.le_refl (Rows.uptoBulk (.slice ((List.range len).map D) ((List.range (m - len)).map fun j => D (len + j)))))
    obtain ⟨f, hfx⟩ := Deep.choose_lt (α := Md) (n := len) (p := fun i s => (W.cell? ⟨B, O + i * 2, none⟩ = some (.string (ba s.1)) ∧ W.cell? ⟨B, O + i * 2 + 1, none⟩ = some (.string (ba s.2))) ∧ s.1.length + s.2.length ≤ Rows.uptoBulk (D i)) (fun i hi => by
      obtain ⟨cs, h1, h2⟩ := hel i (by omega)
      obtain ⟨p, rfl, hp⟩ := open_mod h2
      obtain ⟨_, _, hcell⟩ := World.cells?_some h1
      have z0 := hcell 0 (by omega)
      have z1 := hcell 1 (by omega)
      rw [WideShapes.add_plain, WideShapes.add_plain] at z0 z1
      exact ⟨p, ⟨z0, z1⟩, hp⟩)
    refine ⟨B, O, (List.range len).map f, rfl, by simp, hb, ?_, fun k hk => ?_⟩
    · intro p hp
      obtain ⟨i, hi, rfl⟩ := List.mem_map.1 hp
      have h1 := (hfx i (List.mem_range.1 hi)).2
      have h2 : Rows.uptoBulk (D i) ≤ Rows.uptoBulkAll ((List.range len).map D) := bulk_mem (List.mem_map.2 ⟨i, hi, rfl⟩)
      omega
    · have hk' : k < len := by simpa using hk
      have e : ((List.range len).map f)[k] = f k := by simp
      rw [e]
      exact (hfx k hk').1

theorem lists_nil {w : World} (hg : Gd w) : Gives 8 #[.slice none 0 0] w (.bool true) := by
  unfold Gives
  obtain ⟨i1, hj, hy0, hy1, hy2⟩ := info_parts infoMP
  go_enter Tryz.func8, Tryz.ntmps8
  go_wp2_with (go_at_call 13; fail)
  refine (first_any hg).mono ?_
  rintro e w1 ⟨rfl, b1⟩
  go_wp2
  refine wp_loop_rounds 1 ?_
  rw [rounds_succ]
  go_wp2_with (go_at_call 14; fail)
  refine (few_none w1).mono ?_
  rintro e w2 ⟨rfl, hw⟩
  rw [hw]; clear hw w2
  have b5 := b1.alloc b1.size (.cells #[] 45)
  have HS : Hid (Calls Tryz.prog 43 #[.slice (some ⟨w1.heap.size, 0, none⟩) 0 0] (w1.alloc (.cells #[] 45)) fun e w' => ∃ g cap x, e = .returned (.slice (some ⟨g, 0, none⟩) 0 cap) ∧ x.Perm [] ∧ Srt ltM x ∧ RowM g x w' ∧ (w1.alloc (.cells #[] 45)).heap.size ≤ g ∧ g < w'.heap.size ∧ Below (w1.alloc (.cells #[] 45)).heap.size (w1.alloc (.cells #[] 45)) w') :=
    sort_M (ps := []) (hg.below b5) (by simp) (fun k hk => by cases hk)
  go_wp2_with (first | (at_builtin; refine wpList_append_own_none rfl _ _ 52 rfl w1.heap.size 45 i1 2 Tryz.underlying52 hj _ 0 [] rfl (own_newM w1) rfl ?_) | (go_at_call 43; fail))
  refine (unhide HS).mono ?_
  rintro e w6 ⟨gs, cs, x, rfl, _, _, _, _, _, b6⟩
  have b6 := below_trans b5 b6
  clear HS b5
  go_wp2_with (go_at_call 45; fail)
  refine (refSortM_none w6).mono ?_
  rintro e w7 ⟨rfl, hw⟩
  rw [hw]; clear hw w7
  go_wp2_with (go_at_call 44; fail)
  refine (sameMods_none w6).mono ?_
  rintro e w7 ⟨rfl, hw⟩
  rw [hw]; clear hw w7
  go_wp2_with (go_at_call 44; fail)
  refine (sameMods_none w6).mono ?_
  rintro e w7 ⟨rfl, hw⟩
  rw [hw]; clear hw w7
  go_wp2
  refine wp_loop_rounds 1 ?_
  rw [rounds_succ]
  go_wp2
  go_ret
  exact ⟨rfl, b6⟩

theorem lists_any {v : Option Addr} {len cap bulk : Nat} {w : World} (hg : Gd w) (hb : len ≤ 1048576 ∧ bulk ≤ 1048576) (h : (v = none ∧ len = 0 ∧ cap = 0) ∨ ∃ (B O : Nat) (ps : List Md), v = some ⟨B, O, none⟩ ∧ len = ps.length ∧ B < w.heap.size ∧ (∀ p ∈ ps, p.1.length + p.2.length ≤ bulk) ∧
      ∀ k (hk : k < ps.length), w.cell? ⟨B, O + k * 2, none⟩ = some (.string (ba ps[k].1)) ∧ w.cell? ⟨B, O + k * 2 + 1, none⟩ = some (.string (ba ps[k].2))) :
    Gives 8 #[.slice v len cap] w (.bool true) := by
  rcases h with ⟨rfl, rfl, rfl⟩ | ⟨B, O, ps, rfl, rfl, hB, hs, ht⟩
  · exact lists_nil hg
  · exact lists_at hg hb.1 hB (fun p hp => Nat.le_trans (hs p hp) hb.2) ht

end Go.Proofs.YtcmafidnaojkiaaGreatDoor
