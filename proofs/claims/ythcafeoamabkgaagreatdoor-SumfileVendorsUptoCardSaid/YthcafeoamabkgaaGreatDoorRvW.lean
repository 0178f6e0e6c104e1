/-
  The law's SameVendored at two lists that hold the same modules.
-/
import Derived.Test.YthcafeoamabkgaaGreatDoorRvZ
import Derived.Deep.RegionLaw
import Derived.Deep.QuietTactic
import Derived.BigQuiet
namespace Go.Proofs.YthcafeoamabkgaaGreatDoor
open Go.RowKit

theorem step_append_run {ops : Array Oper} {o : Oper} {a : Act} {w : World} {K : Act → World → Prop} {Q : Exit → Act → World → Prop} {E : Prop} (hgd : o.guard = none) (s x : Operand) (t tn : TypeId)
    (ho : o.op = .call { callee := .builtin .append, args := #[s, x], argTypes := #[t, tn] }) (vs vx : Value) (hs : a.eval s = vs) (hx : a.eval x = vx)
    (v' : Value) (w' : World) (hr : (Builtin.append_ #[t, tn] o.type #[vs, vx]).run Tryz.prog w = .ok v' w') (h : K (a.put o.dst v') w') :
    if Region.wanted o (yielded ops a.tmps) = true then Oper.wp Tryz.prog o a w K Q else E := by
  have hw : Region.wanted o (yielded ops a.tmps) = true := by simp [Region.wanted, hgd]
  rw [if_pos hw]
  exact Lib.wp_append_run w s x t tn ho vs vx hs hx v' w' hr h

/-- An element's cells, in a world that has grown. -/
abbrev HeldM (W : World) (B o : Nat) (p v : Str) (x : Bool) (s : Value) (wq : World) : Prop :=
  wq.cell? ⟨B, o, none⟩ = some (.string (ba p)) ∧ wq.cell? ⟨B, o + 1, none⟩ = some (.string (ba v)) ∧ wq.cell? ⟨B, o + 2, none⟩ = some (.bool x) ∧ wq.cell? ⟨B, o + 3, none⟩ = some s ∧ Below W.heap.size W wq
theorem heldM_of {W wq : World} {B o : Nat} {p v : Str} {x : Bool} {s : Value} (h1 : W.cell? ⟨B, o, none⟩ = some (.string (ba p))) (h2 : W.cell? ⟨B, o + 1, none⟩ = some (.string (ba v))) (h3 : W.cell? ⟨B, o + 2, none⟩ = some (.bool x)) (h4 : W.cell? ⟨B, o + 3, none⟩ = some s) (b : Below W.heap.size W wq) : HeldM W B o p v x s wq :=
  ⟨keep_cell b h1, keep_cell b h2, keep_cell b h3, keep_cell b h4, b⟩

/-- How far the copy has come. -/
def CopyZ (zs : List VE) (w : World) (k : Nat) (v : Value) (wr : World) : Prop :=
  ∃ x : List VZ, x.map Prod.fst = (zs.take k).map Prod.fst ∧ x.length = k ∧ ZRow w.heap.size wr v x ∧ PAll w.heap.size wr x ∧ Below w.heap.size w wr

set_option maxRecDepth 100000 in
set_option maxHeartbeats 8000000 in
theorem vendored_copy {w : World} {a : Option Addr} {n c : Nat} {zs : List VE} (hn : zs.length = n) (hN : n ≤ 100000) (h : RowV w a zs) (hk : PacksM w zs) :
    Calls Tryz.prog 33 #[.slice a n c] w fun e w' => ∃ v x, e = .returned v ∧ x.map Prod.fst = zs.map Prod.fst ∧ x.length = n ∧ ZRow w.heap.size w' v x ∧ PAll w.heap.size w' x ∧ Below w.heap.size w w' := by
  have HN := hide hn
  have H := hide h
  have HK := hide hk
  clear hn h hk
  go_enter Tryz.func33, Tryz.ntmps33
  go_wp2
  go_loopw [3, 4] (fun v3 v4 wr => ∃ k : Nat, k ≤ n ∧ v4 = .int .i64 k ∧ CopyZ zs w k v3 wr) (fun _ v4 _ => n - (intOf v4).toNat)
  case atStart => exact ⟨0, Nat.zero_le _, rfl, [], rfl, rfl, ⟨rfl, Or.inl ⟨rfl, rfl⟩⟩, (fun z hz => by cases hz), Below.refl _ _⟩
  case round =>
    rename World => wr
    obtain ⟨k, hkn, rfl, x, hxm, hxl, hrow, hall, hbw⟩ := hrel
    by_cases hlt : k < n
    · have hit : k < zs.length := by rw [unhide HN]; exact hlt
      obtain ⟨B, O, rfl, m1, m2, m3, m4⟩ := (unhide H).at hit
      obtain ⟨q1, q2, q4⟩ := unhide HK _ (List.getElem_mem hit)
      have htk : zs.take (k + 1) = zs.take k ++ [zs[k]] := List.take_succ_eq_append_getElem hit
      obtain ⟨z, hz⟩ : ∃ z, zs[k] = z := ⟨_, rfl⟩
      rw [hz] at m1 m2 m3 m4 q1 q2 q4 htk
      obtain ⟨⟨⟨p0, v0⟩, x0, pk0⟩, az, nz, cz⟩ := z
      simp only at m1 m2 m3 m4 q1 q2 q4
      obtain ⟨ax, cx, rfl, _⟩ := hrow.at
      -- the worlds of the statement
      have b1 : Below wr.heap.size wr (wr.drew.alloc (.cells #[] 9)) := (Below.refl _ _).drew.alloc (Nat.le_refl _) _
      obtain ⟨s4, w4, r1, l1, g1⟩ := app_strs (w := wr.drew.alloc (.cells #[] 9)) (c := cz) 69 (srow_new wr.drew) q1 (q4.low (low_trans hbw b1)) b1.size (by simp; omega)
      rw [List.nil_append] at l1
      have b4 : Below wr.heap.size wr w4 := b1.grown g1 b1.size (fun j hj => (rowT (srow_new wr.drew) hj).1)
      obtain ⟨sa, sc, rfl, _⟩ := l1.at
      have hrow4 := rowT_low hrow b4
      have hall4 := hall.low b4
      have hlow4 := low_trans hbw b4
      obtain ⟨v6, w6, r2, l2, b6, g6⟩ := app_onez (x := ((⟨(p0, v0), x0, pk0⟩ : Vd), .slice sa pk0.length sc)) hrow4 rfl hlow4.size (by omega)
      have hb6 : Below w.heap.size w w6 := hlow4.trans b6
      have hall6 : PAll w.heap.size w6 (x ++ [((⟨(p0, v0), x0, pk0⟩ : Vd), Value.slice sa pk0.length sc)]) := by
        have b5 : Below w4.heap.size w4 (w4.alloc (.cells #[.string (ba p0), .string (ba v0), .bool x0, .slice sa pk0.length sc] 119)) := (Below.refl _ _).alloc (Nat.le_refl _) _
        have h5 : PAll w.heap.size w4 (x ++ [((⟨(p0, v0), x0, pk0⟩ : Vd), Value.slice sa pk0.length sc)]) := fun u hu => by
          rcases List.mem_append.1 hu with hu | hu
          · exact hall4 u hu
          · rw [List.mem_singleton] at hu
            subst hu
            exact rowT_mono l1 hbw.size
        exact (h5.low b5).grown (World.ownsRow.alloc hrow4 _) g6
      obtain ⟨a6, c6, rfl, _⟩ := l2.at
      have hx6 : (x ++ [((⟨(p0, v0), x0, pk0⟩ : Vd), Value.slice sa pk0.length sc)]).length = k + 1 := by rw [List.length_append, hxl]; rfl
      rw [hx6] at r2
      rw [q1] at r2
      rw [q1] at r1
      have K0 : HeldM w B (O + k * 4) p0 v0 x0 (.slice az nz cz) wr := heldM_of m1 m2 m3 m4 hbw
      have K1 : HeldM w B (O + k * 4) p0 v0 x0 (.slice az nz cz) wr.drew := heldM_of m1 m2 m3 m4 (low_trans hbw (Below.refl _ _).drew)
      have K2 : HeldM w B (O + k * 4) p0 v0 x0 (.slice az nz cz) (wr.drew.alloc (.cells #[] 9)) := heldM_of m1 m2 m3 m4 (low_trans hbw b1)
      have K4 : HeldM w B (O + k * 4) p0 v0 x0 (.slice az nz cz) w4 := heldM_of m1 m2 m3 m4 hlow4
      have K5 : HeldM w B (O + k * 4) p0 v0 x0 (.slice az nz cz) (w4.alloc (.cells #[.string (ba p0), .string (ba v0), .bool x0, .slice sa nz sc] 119)) := heldM_of m1 m2 m3 m4 (hlow4.alloc hlow4.size _)
      have K6 : HeldM w B (O + k * 4) p0 v0 x0 (.slice az nz cz) w6 := heldM_of m1 m2 m3 m4 hb6
      obtain ⟨n1, n2, n3, n4, _⟩ := id K0
      have HD : Hid (CopyZ zs w (k + 1) (.slice a6 (k + 1) c6) w6) := hide ⟨_, by rw [List.map_append, hxm, htk, List.map_append]; rfl, hx6, by rw [← hx6]; exact l2, hall6, hb6⟩
      have HR1 := hide r1
      have HR2 := hide r2
      rw [hxl] at HR2
      have hkz : (k : Int) < (n : Int) := by omega
      rw [hxl]
      clear b1 r1 l1 g1 b4 hrow4 hall4 hlow4 r2 l2 b6 g6 hb6 hall6 hx6 htk hz q1 q4 hxm hrow hall hbw m1 m2 m3 m4
      go_wp2
      go_region_held3 (fun w' => w'.cell? ⟨B, O + k * 4, none⟩ = some (.string (ba p0)) ∧ w'.cell? ⟨B, O + k * 4 + 1, none⟩ = some (.string (ba v0)) ∧ w'.cell? ⟨B, O + k * 4 + 2, none⟩ = some (.bool x0) ∧ w'.cell? ⟨B, O + k * 4 + 3, none⟩ = some (.slice az nz cz) ∧ Below w.heap.size w w')
        (first | assumption)
        (first
          | (go_loud (refine step_append_run rfl _ _ _ _ rfl _ _ rfl rfl _ _ (unhide HR1) ?_))
          | (refine step_append_run rfl _ _ _ _ rfl _ _ rfl rfl _ _ (unhide HR2) ?_))
      go_wp2
      go_roundw
      case rel => exact ⟨k + 1, hlt, by simp, unhide HD⟩
      case measure => simp [intOf]; omega
    · have hkn2 : k = n := by omega
      subst hkn2
      have hfin : zs.take k = zs := List.take_of_length_le (by rw [unhide HN]; omega)
      rw [hfin] at hxm
      have HD : Hid (∃ v x, Ending.returned u3 = .returned v ∧ x.map Prod.fst = zs.map Prod.fst ∧ x.length = k ∧ ZRow w.heap.size wr v x ∧ PAll w.heap.size wr x ∧ Below w.heap.size w wr) := hide ⟨_, x, rfl, hxm, hxl, hrow, hall, hbw⟩
      clear hxm hxl hrow hall hbw hfin
      go_wp2
      go_ret
      exact unhide HD

end Go.Proofs.YthcafeoamabkgaaGreatDoor

namespace Go.Proofs.YthcafeoamabkgaaGreatDoor
open Go.RowKit

set_option maxHeartbeats 1000000 in
theorem sameTexts_q {x : List Str} {a b : Option Addr} {n ac bc : Nat} {w : World} (hx : x.length = n) (hn : n ≤ 1000000) (ha : RowS w a x) (hb : RowS w b x) :
    Calls Tryz.prog 38 #[.slice a n ac, .slice b n bc] w fun e w' => e = .returned (.bool true) ∧ ∃ q, w' = w.drewN q := by
  have HA := hide ha
  have HB := hide hb
  have HN := hide hx
  clear ha hb hx
  go_enter Tryz.func38, Tryz.ntmps38
  go_wp2
  go_loopw [5] (fun v wr => ∃ k nr : Nat, k ≤ n ∧ v = .int .i64 k ∧ wr = w.drewN nr) (fun v _ => n - (intOf v).toNat)
  case atStart => exact ⟨0, 0, Nat.zero_le _, rfl, rfl⟩
  case round =>
    obtain ⟨k, nr, hk, rfl, hwr⟩ := hrel
    have HWR := hide hwr
    by_cases hlt : k < n
    · have hkx : k < x.length := by rw [unhide HN]; exact hlt
      obtain ⟨A, ao, rfl, _, he⟩ : ∃ B O, a = some ⟨B, O, none⟩ ∧ B < w.heap.size ∧ ∀ j (hj : j < x.length), w.cell? ⟨B, O + j, none⟩ = some (.string (ba x[j])) := by
        rcases unhide HA with h | h
        · rw [h] at hkx; cases hkx
        · exact h
      obtain ⟨B, bo, rfl, _, hf⟩ : ∃ B O, b = some ⟨B, O, none⟩ ∧ B < w.heap.size ∧ ∀ j (hj : j < x.length), w.cell? ⟨B, O + j, none⟩ = some (.string (ba x[j])) := by
        rcases unhide HB with h | h
        · rw [h] at hkx; cases hkx
        · exact h
      have h1 := he k hkx
      have h2 := hf k hkx
      obtain ⟨t, ht⟩ : ∃ t, x[k] = t := ⟨_, rfl⟩
      rw [ht] at h1 h2
      have ca : wr.cell? ⟨A, ao + k, none⟩ = some (.string (ba t)) := by rw [hwr]; exact h1
      have cb : wr.cell? ⟨B, bo + k, none⟩ = some (.string (ba t)) := by rw [hwr]; exact h2
      clear hwr ht he hf h1 h2
      go_wp2
      go_quiet (fail)
      go_wp2
      go_roundw
      case rel => exact ⟨k + 1, nr + nq, hlt, by simp, by rw [unhide HWR, World.drewN_drewN]⟩
      case measure => simp [intOf]; omega
    · clear hwr
      go_wp2
      go_ret
      exact ⟨rfl, nr, unhide HWR⟩

set_option maxRecDepth 100000 in
set_option maxHeartbeats 4000000 in
theorem sameVend_same {w : World} {a b : Option Addr} {n ac bc : Nat} {zs ys : List VE} (hn : zs.length = n) (hN : n ≤ 1000000) (hm : zs.map Prod.fst = ys.map Prod.fst) (ha : RowV w a zs) (hb : RowV w b ys)
    (ka : ∀ z ∈ zs, z.1.pk.length = z.2.2.1 ∧ z.2.2.1 ≤ 1000000 ∧ RowS w z.2.1 z.1.pk) (kb : ∀ z ∈ ys, z.1.pk.length = z.2.2.1 ∧ RowS w z.2.1 z.1.pk) :
    Calls Tryz.prog 35 #[.slice a n ac, .slice b n bc] w fun e w' => e = .returned (.bool true) ∧ ∃ q, w' = w.drewN q := by
  have hy : ys.length = n := by
    have h1 := congrArg List.length hm
    rw [List.length_map, List.length_map] at h1
    omega
  have HN := hide hn
  have HY := hide hy
  have HM := hide hm
  have HA := hide ha
  have HB := hide hb
  have KA := hide ka
  have KB := hide kb
  clear hn hy hm ha hb ka kb
  go_enter Tryz.func35, Tryz.ntmps35
  go_wp2
  go_loopw [5] (fun v5 wr => ∃ k nr : Nat, k ≤ n ∧ v5 = .int .i64 k ∧ wr = w.drewN nr) (fun v5 _ => n - (intOf v5).toNat)
  case atStart => exact ⟨0, 0, Nat.zero_le _, rfl, rfl⟩
  case round =>
    obtain ⟨k, nr, hk, rfl, hwr⟩ := hrel
    have HWR := hide hwr
    by_cases hlt : k < n
    · have hkz : k < zs.length := by rw [unhide HN]; exact hlt
      have hky : k < ys.length := by rw [unhide HY]; exact hlt
      obtain ⟨A, ao, rfl, m1, m2, m3, m4⟩ := (unhide HA).at hkz
      obtain ⟨B, bo, rfl, p1, p2, p3, p4⟩ := (unhide HB).at hky
      obtain ⟨q1, q2, q3⟩ := unhide KA _ (List.getElem_mem hkz)
      obtain ⟨r1, r2⟩ := unhide KB _ (List.getElem_mem hky)
      have he : zs[k].1 = ys[k].1 := by
        have h1 : (zs.map Prod.fst)[k]'(by rw [List.length_map]; exact hkz) = (ys.map Prod.fst)[k]'(by rw [List.length_map]; exact hky) := by
          have := unhide HM
          simp only [this]
        rw [List.getElem_map, List.getElem_map] at h1
        exact h1
      obtain ⟨z, hz⟩ : ∃ z, zs[k] = z := ⟨_, rfl⟩
      obtain ⟨y, hyk⟩ : ∃ y, ys[k] = y := ⟨_, rfl⟩
      rw [hz] at m1 m2 m3 m4 q1 q2 q3 he
      rw [hyk] at p1 p2 p3 p4 r1 r2 he
      obtain ⟨⟨⟨t, v⟩, e, pk⟩, az, nz, cz⟩ := z
      obtain ⟨d, ay, ny, cy⟩ := y
      simp only at he
      subst he
      simp only at m1 m2 m3 m4 p1 p2 p3 p4 q1 q2 q3 r1 r2
      have hny : ny = nz := by rw [← r1, ← q1]
      subst hny
      have n1 : wr.cell? ⟨A, ao + k * 4, none⟩ = some (.string (ba t)) := by rw [hwr]; exact m1
      have n2 : wr.cell? ⟨A, ao + k * 4 + 1, none⟩ = some (.string (ba v)) := by rw [hwr]; exact m2
      have n3 : wr.cell? ⟨A, ao + k * 4 + 2, none⟩ = some (.bool e) := by rw [hwr]; exact m3
      have n4 : wr.cell? ⟨A, ao + k * 4 + 3, none⟩ = some (.slice az ny cz) := by rw [hwr]; exact m4
      have o1 : wr.cell? ⟨B, bo + k * 4, none⟩ = some (.string (ba t)) := by rw [hwr]; exact p1
      have o2 : wr.cell? ⟨B, bo + k * 4 + 1, none⟩ = some (.string (ba v)) := by rw [hwr]; exact p2
      have o3 : wr.cell? ⟨B, bo + k * 4 + 2, none⟩ = some (.bool e) := by rw [hwr]; exact p3
      have o4 : wr.cell? ⟨B, bo + k * 4 + 3, none⟩ = some (.slice ay ny cy) := by rw [hwr]; exact p4
      have HQ := hide (fun q : Nat => sameTexts_q (w := wr.drewN q) (ac := cz) (bc := cy) q1 q2 (by rw [hwr, World.drewN_drewN]; exact q3.low (low_drewN (Below.refl _ _) _)) (by rw [hwr, World.drewN_drewN]; exact r2.low (low_drewN (Below.refl _ _) _)))
      clear m1 m2 m3 m4 p1 p2 p3 p4 q1 q2 q3 r1 r2 hz hyk hwr
      go_wp2
      go_quiet ((go_at_call 38; exact Calls.quiet_of (unhide HQ _)))
      rename Nat => nq1
      go_wp2
      go_quiet (fail)
      go_wp2
      go_roundw
      case rel => exact ⟨k + 1, nr + (nq1 + nq), hlt, by simp, by rw [unhide HWR]; simp only [World.drewN_drewN]⟩
      case measure => simp [intOf]; omega
    · clear hwr
      go_wp2
      go_ret
      exact ⟨rfl, nr, unhide HWR⟩

/-- A list of our own, as elements, with its capacities. -/
theorem vz_vc {B : Nat} {w : World} {v : Value} {zs : List VZ} (h : ZRow B w v zs) (hp : PAll B w zs) : ∃ (a : Option Addr) (c : Nat) (ve : List VE), v = .slice a zs.length c ∧ zs.length ≤ c ∧ ve.length = zs.length ∧ ve.map Prod.fst = zs.map Prod.fst ∧ RowV w a ve ∧ ∀ u ∈ ve, u.1.pk.length = u.2.2.1 ∧ u.2.2.1 ≤ u.2.2.2 ∧ RowS w u.2.1 u.1.pk := by
  have cap : ∀ {T k : Nat} {u : Value} {n : Nat} {cs : List Value}, w.ownsRow B T k u n cs → ∃ a c, u = .slice a n c ∧ n ≤ c := by
    intro T k u n cs h
    rcases h.2 with ⟨rfl, h0⟩ | ⟨g, cap, cur, rfl, hb, hblk, hcap, _⟩
    · exact ⟨none, 0, by rw [h0], by omega⟩
    · exact ⟨_, cap, rfl, hcap⟩
  have key : ∀ l : List VZ, PAll B w l → ∃ ve : List VE, ve.map vv = l ∧ ∀ u ∈ ve, u.1.pk.length = u.2.2.1 ∧ u.2.2.1 ≤ u.2.2.2 ∧ RowS w u.2.1 u.1.pk := by
    intro l
    induction l with
    | nil => intro _; exact ⟨[], rfl, fun u hu => by cases hu⟩
    | cons z l ih =>
      intro h
      obtain ⟨ve, e, hp⟩ := ih fun y hy => h y (List.mem_cons_of_mem _ hy)
      obtain ⟨sa, sc, es, hs⟩ := SRow.at (h z (by simp))
      obtain ⟨sa2, sc2, es2, hc2⟩ := cap (h z (by simp))
      rw [es2] at es
      cases es
      refine ⟨(z.1, sa, z.1.pk.length, sc) :: ve, ?_, fun u hu => ?_⟩
      · rw [List.map_cons, e]
        show (z.1, Value.slice sa z.1.pk.length sc) :: l = z :: l
        rw [← es2]
      · rcases List.mem_cons.1 hu with rfl | hu
        · exact ⟨rfl, hc2, hs⟩
        · exact hp u hu
  obtain ⟨ve, e, hq⟩ := key zs hp
  obtain ⟨a, c, rfl, hr⟩ := h.at
  obtain ⟨a2, c2, e2, hc⟩ := cap h
  cases e2
  refine ⟨a, c, ve, rfl, hc, by rw [← e, List.length_map], by rw [← e, List.map_map]; rfl, ?_, hq⟩
  rcases hr with h | ⟨B, O, h1, h2, h3⟩
  · rw [h] at e
    exact Or.inl (List.map_eq_nil_iff.1 e)
  · exact Or.inr ⟨B, O, h1, h2, by rw [e]; exact h3⟩

end Go.Proofs.YthcafeoamabkgaaGreatDoor
