/-
  The reference's inOrder: the contract.
-/
import Derived.Test.YthcafeoamabkgaaGreatDoorRvX
namespace Go.Proofs.YthcafeoamabkgaaGreatDoor
open Go.RowKit

set_option maxHeartbeats 8000000 in
set_option maxRecDepth 100000 in
theorem inOrder_any {w : World} {a : Option Addr} {n c : Nat} {zs : List VE} (hnn : zs.length = n) (hn : n ≤ 100000) (h : RowV w a zs) (hk : PacksN w zs) :
    Calls Tryz.prog 75 #[.slice a n c] w fun e w' => ∃ v rs, e = .returned v ∧ ZRow w.heap.size w' v rs ∧ PAll w.heap.size w' rs ∧ VSort (zs.map Prod.fst) (rs.map Prod.fst) ∧ Below w.heap.size w w' := by
  have HN := hide hnn
  have H := hide h
  have HKP := hide hk
  clear hnn h hk
  go_enter Tryz.func75, Tryz.ntmps75
  go_wp2
  go_loopw [3, 4, 5, 6, 7] (fun v3 v4 _ _ _ wr => ∃ k : Nat, k ≤ n ∧ v4 = .int .i64 k ∧ InsZ zs w k v3 wr) (fun _ v4 _ _ _ _ => n - (intOf v4).toNat)
  case atStart => exact ⟨0, Nat.zero_le _, rfl, [], rfl, ⟨rfl, Or.inl ⟨rfl, rfl⟩⟩, (fun z hz => by cases hz), ⟨[], by simp, .nil⟩, List.Pairwise.nil, Below.refl _ _⟩
  case round =>
    rename World => wr
    obtain ⟨k, hkn, rfl, hins⟩ := hrel
    by_cases hlt : k < n
    · obtain ⟨x, hxl, hown, hall, hels, hsrt, hb0⟩ := hins
      have hkp : k < zs.length := by rw [unhide HN]; exact hlt
      obtain ⟨B, O, rfl, m1, m2, m3, m4⟩ := ((unhide H).low hb0).at hkp
      obtain ⟨q1, q2, q3, q4⟩ := unhide HKP _ (List.getElem_mem hkp)
      obtain ⟨z, hz0⟩ : ∃ z, zs[k] = z := ⟨_, rfl⟩
      rw [hz0] at m1 m2 m3 m4 q1 q2 q3 q4
      have HZ0 := hide hz0
      obtain ⟨⟨⟨p0, v0⟩, x0, pk0⟩, az, nz, cz⟩ := z
      simp only at m1 m2 m3 m4 q1 q2 q3 q4
      have HR := hide (fun wx (hx : Below wr.heap.size wr wx) => risingS_any (w := wx) (c := cz) q1 q2 q3 (q4.low (low_trans hb0 hx)))
      have HB0 := hide hb0
      have HOWN := hide hown
      have HALL := hide hall
      have HELS := hide hels
      have HSRT := hide hsrt
      have HXL := hide hxl
      have HM := hide (And.intro m1 (And.intro m2 (And.intro m3 m4)))
      have hk6 : (k : Int) < (n : Int) := by omega
      clear hz0 q1 q2 q3 q4 hb0 hown hall hels hsrt hxl
      go_upto_region 5 with fail
      go_cut [5] from 8 to 61 (fun v5 wx => NewZ wr.heap.size wr ⟨(p0, v0), x0, pk0⟩ v5 wx)
      case first =>
        have up : ∀ {p : Addr} {u : Value}, wr.cell? p = some u → ∀ o, (wr.alloc o).cell? p = some u := fun {p u} hp o => (((Below.refl wr.heap.size wr).alloc (Nat.le_refl _) o).cell (lt_of_cell hp)).trans hp
        have i1 := up m1
        have i2 := up m2
        have i3 := up m3
        have i4 := up m4
        have upd : ∀ {p : Addr} {u : Value}, wr.cell? p = some u → ∀ o, (wr.drew.alloc o).cell? p = some u := fun {p u} hp o => (((Below.refl wr.heap.size wr).drew.alloc (Nat.le_refl _) o).cell (lt_of_cell hp)).trans hp
        have d1 := upd m1
        have d2 := upd m2
        have d3 := upd m3
        have d4 := upd m4
        clear up upd
        go_region_with (first
          | (go_at_call 117; refine (unhide HR _ (by first | exact Below.refl _ _ | exact (Below.refl _ _).drew)).mono ?_; rintro e w2 ⟨sv, qs, rfl, s1, s2, s3, b2⟩; obtain ⟨sa, sc, rfl⟩ := slice_own s1; have g1 := keep_cell b2 (by exact m1); have g2 := keep_cell b2 (by exact m2); have g3 := keep_cell b2 (by exact m3); have g4 := keep_cell b2 (by exact m4); have j1 := keep_new g1; have j2 := keep_new g2; have j3 := keep_new g3; have j4 := keep_new g4; have HF := hide (newZ_a (B := wr.heap.size) (wr := wr) (z := ⟨(p0, v0), x0, pk0⟩) (Nat.le_refl _) (by first | exact b2 | exact low_trans (Below.refl _ _).drew b2) s1 s2 s3); clear s1 s2 s3 b2)
          | (go_at_call 117; refine (unhide HR _ (by first | exact (Below.refl _ _).alloc (Nat.le_refl _) _ | exact (Below.refl _ _).drew.alloc (Nat.le_refl _) _)).mono ?_; rintro e w2 ⟨sv, qs, rfl, s1, s2, s3, b2⟩; obtain ⟨sa, sc, rfl⟩ := slice_own s1; have kz : Blk w2 wr.heap.size zero119 119 := Blk.low (Blk.new wr.drew zero119 119) b2; obtain ⟨e0, e1, e2, e3, f0, f1, f2, f3⟩ := kz.four; have g1 := keep_cell b2 (d1 _); have g2 := keep_cell b2 (d2 _); have g3 := keep_cell b2 (d3 _); have g4 := keep_cell b2 (d4 _); have HF := hide (newZ_b (B := wr.heap.size) (wr := wr) (z := ⟨(p0, v0), x0, pk0⟩) (Nat.le_refl _) rfl b2 s1 s2 s3); clear s1 s2 s3 b2 kz))
        all_goals (try go_wp2_with fail)
        all_goals go_meet
        all_goals exact unhide HF
      case rest =>
        obtain ⟨A, s0, qs, rfl, kA, sA, pA, rA, bA⟩ := hcut
        obtain ⟨sa, sc, rfl⟩ := slice_own sA
        obtain ⟨t, ht⟩ : ∃ t : VZ, ((⟨(p0, v0), x0, qs⟩ : Vd), Value.slice sa qs.length sc) = t := ⟨_, rfl⟩
        have HTT := hide ht
        have HEL : Hid (EltD (⟨(p0, v0), x0, pk0⟩ : Vd) t.1) := hide (by rw [← ht]; exact ⟨rfl, rfl, pA, rA⟩)
        have HPT : Hid (SRow w.heap.size wc t.2 t.1.pk) := hide (by rw [← ht]; exact rowT_mono sA (unhide HB0).size)
        have HKA := hide kA
        have HBA := hide bA
        have HALC := hide ((unhide HALL).low bA)
        obtain ⟨a0, a1, a2, a3⟩ : wc.cell? ⟨A, 0, none⟩ = some (.string (ba p0)) ∧ wc.cell? ⟨A, 1, none⟩ = some (.string (ba v0)) ∧ wc.cell? ⟨A, 2, none⟩ = some (.bool x0) ∧ wc.cell? ⟨A, 3, none⟩ = some (.slice sa qs.length sc) := ⟨kA.cell 0, kA.cell 1, kA.cell 2, kA.cell 3⟩
        obtain ⟨qn, hqn⟩ : ∃ qn, qs.length = qn := ⟨_, rfl⟩
        rw [hqn] at a3 ht
        have HA := hide (And.intro a0 (And.intro a1 (And.intro a2 a3)))
        have HTT2 := hide ht
        clear kA sA pA rA bA m1 m2 m3 m4 ht a0 a1 a2 a3 hqn HTT
        by_cases hv : u3 = .slice none 0 0
        · subst hv
          have h0 : x.length = 0 := by
            rcases (unhide HOWN).2 with ⟨_, h⟩ | ⟨g, cap, cur, h, _⟩
            · exact h
            · cases h
          have hx0 : x = [] := List.length_eq_zero_iff.1 h0
          subst hx0
          obtain rfl : k = 0 := by simpa using (unhide HXL).symm
          obtain ⟨a0, a1, a2, a3⟩ := unhide HA
          clear h0 hkn
          go_wp2
          refine wp_loop_rounds 1 ?_
          rw [rounds_succ]
          go_wp2
          go_quiet (fail)
          obtain ⟨W, hW⟩ : ∃ W, wc.drewN nq = W := ⟨_, rfl⟩
          have b1 : Below wc.heap.size wc W := by rw [← hW]; exact low_drewN (Below.refl _ _) _
          rw [hW]
          clear hW
          obtain ⟨v1, w1, v2, w2, v3, w3, r1, r2, r3, r4, bw1, bw2, l3, l4, b3⟩ := three_appsZ (W := W) (a := none) (a2 := none) (B0 := w.heap.size) (m := 0) (k := 0) (c := 0) (c2 := 0) (p := []) (r := []) (t := t) rfl rfl (by omega) (Nat.le_refl _) (Or.inl rfl) (Or.inl rfl) (fun z hz => by
            simp at hz
            subst hz
            exact srow_low (unhide HPT) b1)
          have c0 := keep_cell bw1 (keep_cell b1 a0)
          have c1 := keep_cell bw1 (keep_cell b1 a1)
          have c2 := keep_cell bw1 (keep_cell b1 a2)
          have c3 := keep_cell bw1 (keep_cell b1 a3)
          have HB1 := hide (low_trans (unhide HBA) b1)
          have HB2 := hide bw2
          have HL4 := hide (r4 rfl none).2
          have r2' := r2
          rw [← unhide HTT2] at r2'
          have HQ1 := hide r1
          have HQ2 := hide r2'
          have HQ5 := hide (r4 rfl none).1
          clear b1 bw1 bw2 l3 l4 b3 r4 r1 r2 r2' r3 a0 a1 a2 a3
          go_wp2_with (at_builtin; first | refine Lib.wpList_append_run _ rfl _ _ _ _ rfl _ _ rfl rfl _ _ (unhide HQ1) ?_ | refine Lib.wpList_append_run _ rfl _ _ _ _ rfl _ _ rfl rfl _ _ (unhide HQ2) ?_ | refine Lib.wpList_append_run _ rfl _ _ _ _ rfl _ _ rfl rfl _ _ (unhide HQ5) ?_)
          go_roundw
          case rel => exact ⟨1, hlt, by simp, insZ_next (p := []) (r := []) hkp (unhide HZ0) (unhide HEL) rfl (unhide HELS) (unhide HSRT) (by simp) (Or.inl rfl) (unhide HB0) (unhide HB1) (unhide HB2) (unhide HL4).1 (unhide HL4).2⟩
          case measure => simp [intOf]; omega
        · obtain ⟨g, cap, rfl, hcap, hrow⟩ := own_rowZ (unhide HOWN) hv
          have HX0 := hide (hrow.low (unhide HBA))
          rw [unhide HXL] at hcap ⊢
          clear hrow hv
          go_wp2
          go_loopw [6] (fun v6 wr2 => ∃ (p r : List VZ) (m : Nat), x = p ++ r ∧ p.length = m ∧ v6 = .int .i64 m ∧ (∀ q ∈ r, ltZ t q = true) ∧ Below wc.heap.size wc wr2) (fun v6 _ => (intOf v6).toNat)
          case atStart => exact ⟨x, [], k, by simp, unhide HXL, rfl, by simp, Below.refl _ _⟩
          case round =>
            obtain ⟨p, r, m, hx, hm, rfl, hr, hbw⟩ := hrel
            rename World => wi
            have HM2 := hide hm
            have HRR := hide hr
            have HXE := hide hx
            have HXL2 : Hid ((p ++ r).length = k) := hide (by rw [← hx]; exact unhide HXL)
            have HX : Hid (RowZ wc (some ⟨g, 0, none⟩) (p ++ r)) := hide (by rw [← hx]; exact unhide HX0)
            have HELX : Hid (∃ ys : List Vd, ys.Perm ((zs.take k).map Prod.fst) ∧ Elts ys ((p ++ r).map Prod.fst)) := hide (by rw [← hx]; exact unhide HELS)
            have HSX : Hid (Srt ltZ (p ++ r)) := hide (by rw [← hx]; exact unhide HSRT)
            have HAX : Hid (PAll w.heap.size wc (p ++ r)) := hide (by rw [← hx]; exact unhide HALC)
            have HBW := hide hbw
            clear hr hx hm hbw
            by_cases hp0 : m = 0
            · have HLAST : Hid (p = [] ∨ ∃ l' q, p = l' ++ [q] ∧ ltZ t q = false) := hide (Or.inl (List.length_eq_zero_iff.1 ((unhide HM2).trans hp0)))
              have k1 : decide (0 < m) = false := by simp; omega
              have k2 : decide ((0 : Int) < (m : Int)) = false := by simp; omega
              clear hp0
              go_wp2
              go_quiet (fail)
              obtain ⟨W, hW⟩ : ∃ W, wi.drewN nq = W := ⟨_, rfl⟩
              have b1 : Below wc.heap.size wc W := by rw [← hW]; exact low_drewN (unhide HBW) _
              rw [hW]
              clear hW k1 k2
              have hmk : m ≤ k := by have h1 := unhide HXL2; have h2 := unhide HM2; rw [List.length_append] at h1; omega
              have hmc : m ≤ cap := by omega
              have HRL : Hid (r.length = k - m) := hide (by have h1 := unhide HXL2; have h2 := unhide HM2; rw [List.length_append] at h1; omega)
              have hxw := (unhide HX).low b1
              obtain ⟨v1, w1, v2, w2, v3, w3, r1, r2, r3, r4, bw1, bw2, l3, l4, b3⟩ := three_appsZ (c := cap) (c2 := cap - m) (B0 := w.heap.size) (t := t) (unhide HM2) (unhide HRL) (by omega) hmk hxw.front (hxw.back (unhide HM2)) (fun z hz => by
                have hz2 : z = t ∨ z ∈ p ++ r := by
                  rcases List.mem_append.1 hz with hz | hz
                  · rcases List.mem_append.1 hz with hz | hz
                    · exact Or.inr (List.mem_append_left _ hz)
                    · rw [List.mem_singleton] at hz; exact Or.inl hz
                  · exact Or.inr (List.mem_append_right _ hz)
                rcases hz2 with rfl | hz2
                · exact srow_low (unhide HPT) b1
                · exact ((unhide HAX).low b1) z hz2)
              obtain ⟨a0, a1, a2, a3⟩ := unhide HA
              have c0 := keep_cell bw1 (keep_cell b1 a0)
              have c1 := keep_cell bw1 (keep_cell b1 a1)
              have c2 := keep_cell bw1 (keep_cell b1 a2)
              have c3 := keep_cell bw1 (keep_cell b1 a3)
              have HB1 := hide (low_trans (unhide HBA) b1)
              have HL3 := hide (And.intro l3 l4)
              have HB3 := hide b3
              have HB2 := hide bw2
              have HR4 := hide r4
              have r2' := r2
              rw [← unhide HTT2] at r2'
              have HQ1 := hide r1
              have HQ2 := hide r2'
              have HQ3 := hide r3
              clear b1 bw1 bw2 l3 l4 b3 r4 hxw a0 a1 a2 a3 r1 r2 r2' r3
              by_cases hcz : cap = m
              · have hrn : r = [] := by have h := unhide HRL; exact List.length_eq_zero_iff.1 (by omega)
                obtain rfl : k = cap := by omega
                obtain rfl : k = m := by omega
                have HQ5 := hide (fun a => ((unhide HR4) hrn a).1)
                have HL4 := hide ((unhide HR4) hrn none).2
                clear hcz hmc hmk hcap HQ3
                go_wp2_with (at_builtin; first | refine Lib.wpList_append_run _ rfl _ _ _ _ rfl _ _ rfl rfl _ _ (unhide HQ1) ?_ | refine Lib.wpList_append_run _ rfl _ _ _ _ rfl _ _ rfl rfl _ _ (unhide HQ2) ?_ | refine Lib.wpList_append_run _ rfl _ _ _ _ rfl _ _ rfl rfl _ _ (unhide HQ5 _) ?_)
                go_roundw
                case rel => exact ⟨k + 1, hlt, by simp, insZ_next hkp (unhide HZ0) (unhide HEL) (unhide HXL2) (unhide HELX) (unhide HSX) (unhide HRR) (unhide HLAST) (unhide HB0) (unhide HB1) (unhide HB2) (unhide HL4).1 (unhide HL4).2⟩
                case measure => simp [intOf]; omega
              · have z2 : ¬ m = cap := fun e => hcz e.symm
                have z3 : ¬ cap - m = 0 := by omega
                have z4 : m < cap := by omega
                go_wp2_with (at_builtin; first | refine Lib.wpList_append_run _ rfl _ _ _ _ rfl _ _ rfl rfl _ _ (unhide HQ1) ?_ | refine Lib.wpList_append_run _ rfl _ _ _ _ rfl _ _ rfl rfl _ _ (unhide HQ2) ?_ | refine Lib.wpList_append_run _ rfl _ _ _ _ rfl _ _ rfl rfl _ _ (unhide HQ3) ?_)
                go_roundw
                case rel => exact ⟨k + 1, hlt, by simp, insZ_next hkp (unhide HZ0) (unhide HEL) (unhide HXL2) (unhide HELX) (unhide HSX) (unhide HRR) (unhide HLAST) (unhide HB0) (unhide HB1) (unhide HB3) (unhide HL3).1 (unhide HL3).2⟩
                case measure => simp [intOf]; omega
            · obtain ⟨p', y, rfl⟩ : ∃ p' y, p = p' ++ [y] := ⟨p.dropLast, p.getLast (by intro e; have := unhide HM2; simp [e] at this; omega), (List.dropLast_concat_getLast _).symm⟩
              obtain ⟨q, hq⟩ : ∃ q, p'.length = q := ⟨_, rfl⟩
              have hpm : q + 1 = m := by have := unhide HM2; simp at this; omega
              obtain ⟨y1, y2⟩ : wi.cell? ⟨g, q * 4, none⟩ = some (.string (ba y.1.m.1)) ∧ wi.cell? ⟨g, q * 4 + 1, none⟩ = some (.string (ba y.1.m.2)) := by
                have h0 : q < (p' ++ [y] ++ r).length := by simp; omega
                have h2 : (p' ++ [y] ++ r)[q] = y := by
                  subst hq
                  simp
                obtain ⟨B', O', e, c1, c2, _, _⟩ := ((unhide HX).low (unhide HBW)).at h0
                cases e
                rw [h2, Nat.zero_add] at c1 c2
                exact ⟨c1, c2⟩
              have t0 := keep_cell (unhide HBW) (unhide HA).1
              have t1 := keep_cell (unhide HBW) (unhide HA).2.1
              have HH : HeldZ wc g (q * 4) A y.1.m (p0, v0) wi := ⟨y1, y2, t0, t1, unhide HBW⟩
              have hkm : m ≤ k := by have h1 := unhide HXL2; have h2 := unhide HM2; simp at h1 h2; omega
              have e1 : (m : Int) - 1 = (q : Int) := by omega
              have k0 : q < k := by omega
              have k1 : decide (0 < m) = true := by simp; omega
              have k2 : decide ((0 : Int) < (m : Int)) = true := by simp; omega
              have k8 : IntKind.i64.wrap (q : Int) = (q : Int) := by rw [IntKind.wrap_i64]; omega
              have k4 : (q : Int) < (k : Int) := by omega
              have HQ := hide hq
              have HQM := hide hpm
              have hty : ltZ t y = ltM (p0, v0) y.1.m := by rw [← unhide HTT2]; rfl
              clear y1 y2 t0 t1
              obtain ⟨⟨ym1, ym2⟩, hym⟩ : ∃ ym : Md, y.1.m = ym := ⟨_, rfl⟩
              rw [hym] at HH hty
              clear hym
              cases hrr : ltM (p0, v0) (ym1, ym2) with
              | true =>
                have HLT := hide hrr
                have HR2 : Hid (∀ q ∈ y :: r, ltZ t q = true) := hide (by
                  intro q hq
                  rcases List.mem_cons.1 hq with rfl | h
                  · exact hty.trans (unhide HLT)
                  · exact (unhide HRR) q h)
                have HX2 : Hid (x = p' ++ (y :: r)) := hide (by have := unhide HXE; simpa using this)
                clear hrr hp0 hq hpm hty
                go_wp2
                go_region_held3 (fun w' => w'.cell? ⟨g, q * 4, none⟩ = some (.string (ba ym1)) ∧ w'.cell? ⟨g, q * 4 + 1, none⟩ = some (.string (ba ym2)) ∧ w'.cell? ⟨A, 0, none⟩ = some (.string (ba p0)) ∧ w'.cell? ⟨A, 1, none⟩ = some (.string (ba v0)) ∧ Below wc.heap.size wc w')
                  (first | assumption | exact HeldZ.drew (by assumption) | exact HH | exact HeldZ.drew HH)
                  (first
                    | (go_at_call 118; refine (lessZ_held (q := q * 4) (y := (ym1, ym2)) (t := (p0, v0)) (unhide HLT) (by assumption)).mono ?_; rintro e w' ⟨rfl, hk9⟩))
                go_wp2
                go_roundw
                case rel => exact ⟨p', y :: r, q, unhide HX2, unhide HQ, by simp, unhide HR2, HeldZ.end (g := g) (q := q * 4) (A := A) (y := (ym1, ym2)) (t := (p0, v0)) (by assumption)⟩
                case measure => have := unhide HQM; simp [intOf]; omega
              | false =>
                have HLT := hide hrr
                have HLAST : Hid ((p' ++ [y]) = [] ∨ ∃ l' q, (p' ++ [y]) = l' ++ [q] ∧ ltZ t q = false) := hide (Or.inr ⟨p', y, rfl, hty.trans hrr⟩)
                clear hrr hp0 hq hpm hty
                obtain ⟨p, hp⟩ : ∃ p, p' ++ [y] = p := ⟨_, rfl⟩
                rw [hp] at HX HELX HSX HAX HXL2 HM2 HLAST
                clear hp
                go_wp2
                go_region_held3 (fun w' => w'.cell? ⟨g, q * 4, none⟩ = some (.string (ba ym1)) ∧ w'.cell? ⟨g, q * 4 + 1, none⟩ = some (.string (ba ym2)) ∧ w'.cell? ⟨A, 0, none⟩ = some (.string (ba p0)) ∧ w'.cell? ⟨A, 1, none⟩ = some (.string (ba v0)) ∧ Below wc.heap.size wc w')
                  (first | assumption | exact HeldZ.drew (by assumption) | exact HH | exact HeldZ.drew HH)
                  (first
                    | (go_at_call 118; refine (lessZ_held (q := q * 4) (y := (ym1, ym2)) (t := (p0, v0)) (unhide HLT) (by assumption)).mono ?_; rintro e w' ⟨rfl, hk9⟩))
                rename World => W
                have b1 : Below wc.heap.size wc W := HeldZ.end (g := g) (q := q * 4) (A := A) (y := (ym1, ym2)) (t := (p0, v0)) (by assumption)
                clear e1 k1 k2 k4 k8 HH
                have hmk : m ≤ k := by have h1 := unhide HXL2; have h2 := unhide HM2; rw [List.length_append] at h1; omega
                have hmc : m ≤ cap := by omega
                have HRL : Hid (r.length = k - m) := hide (by have h1 := unhide HXL2; have h2 := unhide HM2; rw [List.length_append] at h1; omega)
                have hxw := (unhide HX).low b1
                obtain ⟨v1, w1, v2, w2, v3, w3, r1, r2, r3, r4, bw1, bw2, l3, l4, b3⟩ := three_appsZ (c := cap) (c2 := cap - m) (B0 := w.heap.size) (t := t) (unhide HM2) (unhide HRL) (by omega) hmk hxw.front (hxw.back (unhide HM2)) (fun z hz => by
                  have hz2 : z = t ∨ z ∈ p ++ r := by
                    rcases List.mem_append.1 hz with hz | hz
                    · rcases List.mem_append.1 hz with hz | hz
                      · exact Or.inr (List.mem_append_left _ hz)
                      · rw [List.mem_singleton] at hz; exact Or.inl hz
                    · exact Or.inr (List.mem_append_right _ hz)
                  rcases hz2 with rfl | hz2
                  · exact srow_low (unhide HPT) b1
                  · exact ((unhide HAX).low b1) z hz2)
                obtain ⟨a0, a1, a2, a3⟩ := unhide HA
                have c0 := keep_cell bw1 (keep_cell b1 a0)
                have c1 := keep_cell bw1 (keep_cell b1 a1)
                have c2 := keep_cell bw1 (keep_cell b1 a2)
                have c3 := keep_cell bw1 (keep_cell b1 a3)
                have HB1 := hide (low_trans (unhide HBA) b1)
                have HL3 := hide (And.intro l3 l4)
                have HB3 := hide b3
                have HB2 := hide bw2
                have HR4 := hide r4
                have r2' := r2
                rw [← unhide HTT2] at r2'
                have HQ1 := hide r1
                have HQ2 := hide r2'
                have HQ3 := hide r3
                clear b1 bw1 bw2 l3 l4 b3 r4 hxw a0 a1 a2 a3 r1 r2 r2' r3
                by_cases hcz : cap = m
                · have hrn : r = [] := by have h := unhide HRL; exact List.length_eq_zero_iff.1 (by omega)
                  obtain rfl : k = cap := by omega
                  obtain rfl : k = m := by omega
                  have HQ5 := hide (fun a => ((unhide HR4) hrn a).1)
                  have HL4 := hide ((unhide HR4) hrn none).2
                  clear hcz hmc hmk hcap HQ3
                  go_wp2_with (at_builtin; first | refine Lib.wpList_append_run _ rfl _ _ _ _ rfl _ _ rfl rfl _ _ (unhide HQ1) ?_ | refine Lib.wpList_append_run _ rfl _ _ _ _ rfl _ _ rfl rfl _ _ (unhide HQ2) ?_ | refine Lib.wpList_append_run _ rfl _ _ _ _ rfl _ _ rfl rfl _ _ (unhide HQ5 _) ?_)
                  go_roundw
                  case rel => exact ⟨k + 1, hlt, by simp, insZ_next hkp (unhide HZ0) (unhide HEL) (unhide HXL2) (unhide HELX) (unhide HSX) (unhide HRR) (unhide HLAST) (unhide HB0) (unhide HB1) (unhide HB2) (unhide HL4).1 (unhide HL4).2⟩
                  case measure => simp [intOf]; omega
                · have z2 : ¬ m = cap := fun e => hcz e.symm
                  have z3 : ¬ cap - m = 0 := by omega
                  have z4 : m < cap := by omega
                  go_wp2_with (at_builtin; first | refine Lib.wpList_append_run _ rfl _ _ _ _ rfl _ _ rfl rfl _ _ (unhide HQ1) ?_ | refine Lib.wpList_append_run _ rfl _ _ _ _ rfl _ _ rfl rfl _ _ (unhide HQ2) ?_ | refine Lib.wpList_append_run _ rfl _ _ _ _ rfl _ _ rfl rfl _ _ (unhide HQ3) ?_)
                  go_roundw
                  case rel => exact ⟨k + 1, hlt, by simp, insZ_next hkp (unhide HZ0) (unhide HEL) (unhide HXL2) (unhide HELX) (unhide HSX) (unhide HRR) (unhide HLAST) (unhide HB0) (unhide HB1) (unhide HB3) (unhide HL3).1 (unhide HL3).2⟩
                  case measure => simp [intOf]; omega
    · obtain ⟨x, hxl, hown, hall, hels, hsrt, hb0⟩ := hins
      have HD : Hid (∃ v rs, Ending.returned u3 = .returned v ∧ ZRow w.heap.size wr v rs ∧ PAll w.heap.size wr rs ∧ VSort (zs.map Prod.fst) (rs.map Prod.fst) ∧ Below w.heap.size w wr) := hide ⟨u3, x, rfl, hown, hall, insZ_sort (by rw [unhide HN]; omega) hels hsrt, hb0⟩
      clear hxl hown hall hels hsrt hb0
      go_wp2
      go_ret
      exact unhide HD

end Go.Proofs.YthcafeoamabkgaaGreatDoor
