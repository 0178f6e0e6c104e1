/-
  sorted, of texts; how two vendored modules compare; the sort of them.
-/
import Derived.Test.YthcafeoamabkgaaGreatDoorSrtX
import Derived.Test.YthcafeoamabkgaaGreatDoorFmtA
import Derived.Test.YthcafeoamabkgaaGreatDoorVenX
namespace Go.Proofs
def Tryz.clone146_ren : Go.Shelf.Ren := ⟨fun | 41 => 146 | n => n, fun | 22 => 23 | 23 => 81 | 4 => 4 | n => n, fun | n => n⟩
theorem Tryz.clone146 : Go.Proofs.SlLaysE0.n41 Tryz.prog Tryz.clone146_ren := {
  mixed := by kernel_rfl
  f41 := ⟨Tryz.f146.name, by decide, Tryz.func146.trans (congrArg some (by kernel_rfl))⟩
  t4 := Tryz.underlying4
  a4 := Tryz.isAgg4
  z4 := Tryz.sizeOf4
  v4 := Tryz.zeroValue4
  t22 := Tryz.underlying23
  a22 := Tryz.isAgg23
  z22 := Tryz.sizeOf23
  v22 := Tryz.zeroValue23 }

namespace YthcafeoamabkgaaGreatDoor
open Go.RowKit Go.Sort Go.Shelf

/-- A list of texts, as it can be read. -/
def RowS (w : World) (a : Option Addr) (ps : List Str) : Prop := ps = [] ∨ ∃ B O, a = some ⟨B, O, none⟩ ∧ B < w.heap.size ∧ ∀ j (hj : j < ps.length), w.cell? ⟨B, O + j, none⟩ = some (.string (ba ps[j]))

theorem RowS.low {w w' : World} {a : Option Addr} {ps : List Str} (h : RowS w a ps) (b : Go.RowKit.Below w.heap.size w w') : RowS w' a ps := by
  rcases h with h | ⟨B, O, h1, h2, h3⟩
  · exact Or.inl h
  · exact Or.inr ⟨B, O, h1, Nat.lt_of_lt_of_le h2 b.size, fun j hj => (b.cell (p := ⟨B, O + j, none⟩) h2).trans (h3 j hj)⟩

theorem clone_S {w : World} {a : Option Addr} {n c : Nat} {ps : List Str} (hn : ps.length = n) (hN : n ≤ 1000000) (hp : ps = [] ∨ PlainA a) (h : RowS w a ps) :
    Calls Tryz.prog 148 #[.slice a n c] w fun e w' => ∃ v', e = .returned v' ∧ w'.ownsRow w.heap.size 9 1 v' ps.length (strsV ps) ∧ Go.RowKit.Below w.heap.size w w' := by
  subst hn
  cases a with
  | none =>
    refine (Tryz.slices_Clone_string_nil ps.length c w).mono ?_
    rintro e w' ⟨rfl, rfl⟩
    have h0 : ps = [] := by
      rcases h with h0 | ⟨_, _, e, _⟩
      · exact h0
      · cases e
    subst h0
    exact ⟨_, rfl, ⟨rfl, Or.inl ⟨rfl, rfl⟩⟩, Go.RowKit.Below.refl _ _⟩
  | some ad =>
    rcases hp with rfl | hp
    · refine (Tryz.slices_Clone_string_zero ad c w).mono ?_
      rintro e w' ⟨v', rfl, h1, _, h2⟩
      exact ⟨v', rfl, h1, h2⟩
    obtain ⟨B, O, rfl⟩ := hp ad rfl
    have e : ((ps.map ba).take ps.length).map Value.string = strsV ps := by
      rw [List.take_of_length_le (by simp)]
      simp [strsV]
    have hc := Tryz.slices_Clone_string B O ps.length c (ps.map ba) w (by simp) (by omega) (fun j hj => by
      rw [List.length_map] at hj
      rcases h with h0 | ⟨B', O', e1, _, h1⟩
      · rw [h0] at hj; cases hj
      · cases e1
        rw [h1 j hj]
        simp [List.getD, hj])
    rw [e] at hc
    refine hc.mono ?_
    rintro e w' ⟨v', rfl, h1, _, h2⟩
    exact ⟨v', rfl, h1, h2⟩

/-- What sorted answers. -/
def SortS (w : World) (ps : List Str) (v' : Value) (w' : World) : Prop := ∃ qs : List Str, qs.Perm ps ∧ RisingS qs ∧ w'.ownsRow w.heap.size 9 1 v' qs.length (strsV qs) ∧ Go.RowKit.Below w.heap.size w w'

set_option maxHeartbeats 1000000 in
theorem sortedS_any {w : World} {a : Option Addr} {n c : Nat} {ps : List Str} (hn : ps.length = n) (hN : n ≤ 1000000) (hp : ps = [] ∨ PlainA a) (h : RowS w a ps) :
    Calls Tryz.prog 102 #[.slice a n c, .func (.func 103) #[] #[]] w fun e w' => ∃ v', e = .returned v' ∧ SortS w ps v' w' := by
  have HC := hide (clone_S (c := c) hn hN hp h)
  have HN : Hid (ps.length ≤ 1000000) := hide (by omega)
  clear h hn hp
  go_enter Tryz.func102, Tryz.ntmps102
  go_wp2_with (go_at_call 148; fail)
  refine (unhide HC).mono ?_
  rintro e w1 ⟨v', rfl, hr, hb⟩
  have HS : Hid (Calls Tryz.prog 149 #[v', .func (.func 103) #[] #[]] w1 fun e w' => e = .returned (.tuple #[]) ∧ SortS w ps v' w') := by
    rcases hr.2 with ⟨rfl, h0⟩ | ⟨g, cap, cur, rfl, hB, hblk, hcap, hcm, hcs, hcur⟩
    · refine (AnyF.slices_SortFunc_none (ρ := Tryz.sort149_ren) { Tryz.sort149 with } none 0 _ w1).mono ?_
      rintro e w' ⟨rfl, rfl⟩
      have e0 : ps = [] := List.length_eq_zero_iff.1 h0
      subst e0
      exact ⟨rfl, [], List.Perm.refl _, fun i j hi => by simp at hi, hr, hb⟩
    · refine (sort_S hb hB hb.size hblk hcap hcm hcs hcur (unhide HN)).mono ?_
      rintro e w' ⟨rfl, ys, h1, h2, h3, h4⟩
      have hl := h1.length_eq
      exact ⟨rfl, ys, h1, h2, h3, h4⟩
  clear hr hb HC
  go_wp2_with (go_at_call 149; fail)
  refine (unhide HS).mono ?_
  rintro e w2 ⟨rfl, hs⟩
  have HD := hide hs
  clear hs
  go_wp2
  go_ret
  exact ⟨v', rfl, unhide HD⟩

/-- A vendored module with the slice of its packages. -/
abbrev VE : Type := Vd × (Option Addr × Nat × Nat)
instance : Inhabited VE := ⟨⟨⟨([], []), false, []⟩, none, 0, 0⟩⟩
def vv (z : VE) : Vd × Value := (z.1, .slice z.2.1 z.2.2.1 z.2.2.2)
def vdE (z : VE) : List Value := [.string (ba z.1.m.1), .string (ba z.1.m.2), .bool z.1.x, .slice z.2.1 z.2.2.1 z.2.2.2]
def cmpVd (x y : VE) : Int := cmpM x.1.m y.1.m
theorem swo_V : SWO (ltOf cmpVd) := swo_of orders_m (fun z : VE => z.1.m) fun _ _ => rfl

set_option maxRecDepth 100000 in
set_option maxHeartbeats 2000000 in
theorem cmpVd_any {x y : VE} {w : World} (hg : Gd w) : Calls Tryz.prog 101 #[.agg (vdE x).toArray, .agg (vdE y).toArray] w fun e w' => e = .returned (.int .i64 (cmpVd x y)) ∧ Bel w.heap.size w w' := by
  obtain ⟨⟨m1, x1, k1⟩, a1, n1, c1⟩ := x
  obtain ⟨⟨m2, x2, k2⟩, a2, n2, c2⟩ := y
  obtain ⟨p1, v1⟩ := m1
  obtain ⟨p2, v2⟩ := m2
  obtain ⟨W, hW⟩ : ∃ W, (w.alloc (.cells #[.string (ba p1), .string (ba v1), .bool x1, .slice a1 n1 c1] 81)).alloc (.cells #[.string (ba p2), .string (ba v2), .bool x2, .slice a2 n2 c2] 81) = W := ⟨_, rfl⟩
  have b1 : Bel w.heap.size w W := by rw [← hW]; exact ((Bel.refl _ _).alloc (Nat.le_refl _) _).alloc (by simp) _
  have q1 : Blk W w.heap.size #[.string (ba p1), .string (ba v1), .bool x1, .slice a1 n1 c1] 81 := by rw [← hW]; exact (Blk.new _ _ _).alloc _
  have q2 : Blk W (w.heap.size + 1) #[.string (ba p2), .string (ba v2), .bool x2, .slice a2 n2 c2] 81 := by
    rw [← hW]
    have := Blk.new (w.alloc (.cells #[.string (ba p1), .string (ba v1), .bool x1, .slice a1 n1 c1] 81)) #[.string (ba p2), .string (ba v2), .bool x2, .slice a2 n2 c2] 81
    simpa using this
  have l1 : W.cell? ⟨w.heap.size, 0, none⟩ = some (.string (ba p1)) := q1.cell 0
  have l2 : W.cell? ⟨w.heap.size, 1, none⟩ = some (.string (ba v1)) := q1.cell 1
  have l3 : W.cell? ⟨w.heap.size + 1, 0, none⟩ = some (.string (ba p2)) := q2.cell 0
  have l4 : W.cell? ⟨w.heap.size + 1, 1, none⟩ = some (.string (ba v2)) := q2.cell 1
  have HC := hide (compareMods_any (p := (p1, v1)) (q := (p2, v2)) (hg.below b1))
  obtain ⟨r, hr⟩ : ∃ r, cmpM (p1, v1) (p2, v2) = r := ⟨_, rfl⟩
  have HR : Hid (cmpVd ((⟨(p1, v1), x1, k1⟩ : Vd), a1, n1, c1) ((⟨(p2, v2), x2, k2⟩ : Vd), a2, n2, c2) = r) := hide hr
  rw [unhide HR]
  rw [hr] at HC
  have HB := hide b1
  show Calls Tryz.prog 101 #[.agg #[.string (ba p1), .string (ba v1), .bool x1, .slice a1 n1 c1], .agg #[.string (ba p2), .string (ba v2), .bool x2, .slice a2 n2 c2]] w _
  clear b1 q1 q2 hg hr
  go_enter Tryz.func101, Tryz.ntmps101
  go_wp2_with (go_at_call 94; fail)
  refine (unhide HC).mono ?_
  rintro e w2 ⟨rfl, b2⟩
  have HB2 := hide (below_trans (unhide HB) b2)
  clear b2
  go_wp2
  go_ret
  exact ⟨rfl, unhide HB2⟩

end YthcafeoamabkgaaGreatDoor
end Go.Proofs
