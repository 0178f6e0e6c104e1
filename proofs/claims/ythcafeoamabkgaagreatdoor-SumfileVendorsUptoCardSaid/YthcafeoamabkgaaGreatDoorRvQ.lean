/-
  The reference's ParseVendor: the walk.
-/
import Derived.Test.YthcafeoamabkgaaGreatDoorRvZ
import Derived.Test.YthcafeoamabkgaaGreatDoorRvH
import Derived.Test.YthcafeoamabkgaaGreatDoorVfX
namespace Go.Proofs.YthcafeoamabkgaaGreatDoor
open Go.RowKit

/-- A row of elements, in the form in which it is put in order. -/
theorem vz_ve {B : Nat} {w : World} {a : Option Addr} {zs : List VZ} (h : PAll B w zs) (hr : RowZ w a zs) : ∃ ve : List VE, ve.map vv = zs ∧ RowV w a ve ∧ ∀ u ∈ ve, u.1.pk.length = u.2.2.1 ∧ u.2.2.1 = u.1.pk.length ∧ RowS w u.2.1 u.1.pk := by
  have key : ∀ l : List VZ, PAll B w l → ∃ ve : List VE, ve.map vv = l ∧ ∀ u ∈ ve, u.1.pk.length = u.2.2.1 ∧ u.2.2.1 = u.1.pk.length ∧ RowS w u.2.1 u.1.pk := by
    intro l
    induction l with
    | nil => intro _; exact ⟨[], rfl, fun u hu => by cases hu⟩
    | cons z l ih =>
      intro h
      obtain ⟨ve, e, hp⟩ := ih fun y hy => h y (List.mem_cons_of_mem _ hy)
      obtain ⟨sa, sc, es, hs⟩ := (h z (by simp)).at
      refine ⟨(z.1, sa, z.1.pk.length, sc) :: ve, by rw [List.map_cons, e]; congr 1; unfold vv; rw [← es], fun u hu => ?_⟩
      rcases List.mem_cons.1 hu with rfl | hu
      · exact ⟨rfl, rfl, hs⟩
      · exact hp u hu
  obtain ⟨ve, e, hp⟩ := key zs h
  refine ⟨ve, e, ?_, hp⟩
  rcases hr with h | ⟨B, O, h1, h2, h3⟩
  · rw [h] at e
    exact Or.inl (List.map_eq_nil_iff.1 e)
  · exact Or.inr ⟨B, O, h1, h2, by rw [e]; exact h3⟩

set_option maxRecDepth 100000 in
set_option maxHeartbeats 32000000 in
theorem refParseV_any {w : World} {t : Str} (ht : t.length ≤ 65536) : Calls Tryz.prog 32 #[.string (ba t)] w (FinV w (vendF t)) := by
  have htz := ba_size t
  have hq : ¬ (65536 : Int) < (t.length : Int) := by omega
  obtain ⟨ps, hps⟩ : ∃ ps, pieces 10 t = ps := ⟨_, rfl⟩
  have hsm : ∀ l ∈ ps, l.length ≤ 65536 := fun l hl => by
    rw [← hps] at hl
    exact Nat.le_trans (pieces_small 10 t l hl) ht
  have hpl : ps.length ≤ 65538 := by
    rw [← hps]
    have h1 := pieces_length 10 t
    have h2 := Lib.count_le t [10]
    omega
  obtain ⟨qs, z, hpz⟩ : ∃ qs z, ps = qs ++ [z] := by
    have hne : ps ≠ [] := by rw [← hps]; exact pieces_ne _ _
    exact ⟨ps.dropLast, ps.getLast hne, (List.dropLast_concat_getLast hne).symm⟩
  obtain ⟨q, hqn⟩ : ∃ q, qs.length = q := ⟨_, rfl⟩
  obtain ⟨K, hK⟩ : ∃ K, (if z = [] then q else q + 1) = K := ⟨_, rfl⟩
  obtain ⟨bz, hbz⟩ : ∃ b, decide (z = []) = b := ⟨_, rfl⟩
  have HLI := hide (refLines_any (t := t) (by omega) (hps.trans hpz) hqn hK hbz w)
  rw [hps] at HLI
  obtain ⟨R, hR⟩ : ∃ R, vendF t = R := ⟨_, rfl⟩
  have hR0 : LeftV ps q z [] [] none 0 R := by
    refine Or.inl ⟨Nat.zero_le _, ?_⟩
    rw [← hR]
    unfold vendF
    rw [if_neg (by omega), read_vend _ _ _ _ _ _ (Nat.le_refl _), hps]
    rfl
  have hKp : K ≤ ps.length := by
    rw [hpz, List.length_append, hqn]
    simp only [List.length_singleton]
    split at hK <;> omega
  rw [hR]
  have HRR := hide hR
  have HRZ : Hid (R.2.2 = 0 → (vendF t).2.2 = 0) := hide (fun h => by rw [hR]; exact h)
  have HR0 := hide hR0
  have HPZ := hide (And.intro hpz (And.intro hqn hK))
  have HSM := hide hsm
  have HKP := hide hKp
  have HPL := hide hpl
  have HBZ := hide hbz
  clear hR hR0 hps hpz hqn hK hsm hbz
  go_enter Tryz.func32, Tryz.ntmps32
  go_wp2_with (go_at_call 61; fail)
  refine (unhide HLI).mono ?_
  rintro e w1 ⟨B, cp, rfl, htx, ⟨hB1, hB2⟩, b1⟩
  have HB1 := hide b1
  have HTX := hide htx
  have HBB := hide hB1
  clear htx b1 HLI
  go_wp2
  go_loopw [7, 8, 9, 10, 11, 12, 13, 14] (fun v7 v8 v9 _ _ _ _ _ wr => ∃ (i : Nat) (ms : List Md) (xs : List Vd) (y : Option Vd), i ≤ K ∧ v9 = .int .i64 i ∧ v8 = .bool (freshB y) ∧ LeftV ps q z ms xs y i R ∧ ZSt w1 wr v7 ms xs y i) (fun _ _ v9 _ _ _ _ _ _ => K - (intOf v9).toNat)
  case atStart => exact ⟨0, [], [], none, Nat.zero_le _, rfl, rfl, unhide HR0, ⟨Below.refl _ _, by simp, Nat.zero_le _, Or.inl ⟨rfl, rfl, rfl⟩⟩⟩
  case round =>
    rename World => wr
    obtain ⟨i, ms, xs, y, hi, rfl, rfl, hlv, hst⟩ := hrel
    clear HR0
    have HB2 := hide (low_trans (unhide HB1) hst.low)
    by_cases hlt : i < K
    · have hip : i < ps.length := Nat.lt_of_lt_of_le hlt (unhide HKP)
      have hcl := keep_cell hst.low (unhide HTX i hip)
      have hll := unhide HSM _ (List.getElem_mem hip)
      obtain ⟨l, hl⟩ : ∃ l, ps[i] = l := ⟨_, rfl⟩
      have hdo := line_do (unhide HPZ).1 (unhide HPZ).2.1 (unhide HPZ).2.2 hlt hip hl hlv
      rw [hl] at hcl hll
      have HDO := hide hdo
      have HST := hide hst
      have HLL := hide hll
      have hiK : i ≤ 65538 := by have := unhide HPL; omega
      have hsl := ba_size l
      clear hl hlv hdo hst
      by_cases hx : l = explL
      · subst hx
        have hex : (ba explL).toList = [35, 35, 32, 101, 120, 112, 108, 105, 99, 105, 116] := ba_list _
        have HDO2 := unhide HDO
        rw [step_expl] at HDO2
        cases hfr : freshB y with
        | true =>
          rw [hfr, if_pos rfl] at HDO2
          obtain ⟨y1, rfl⟩ : ∃ y1, y = some y1 := by
            cases y with
            | none => cases hfr
            | some y1 => exact ⟨y1, rfl⟩
          simp only at HDO2
          have HD2 := hide HDO2
          have hfy : y1.x = false ∧ y1.pk = [] := by
            unfold freshB at hfr
            simpa using hfr
          have hst := unhide HST
          rcases hst.st with ⟨h, _⟩ | ⟨y2, zs, s, e1, hzs, h3, h4, h5, h6, h7, h8⟩
          · cases h
          cases e1
          obtain ⟨g, cap, rfl, hcap, hrow⟩ := own_rowZ h5 (fun e => by
            rcases h5.2 with ⟨_, h0⟩ | ⟨_, _, _, e2, _⟩
            · simp at h0
            · rw [e] at e2; cases e2)
          obtain ⟨N, hN⟩ : ∃ N, zs.length = N := ⟨_, rfl⟩
          have hlen : (zs ++ [(y1, s)]).length = N + 1 := by simp [hN]
          obtain ⟨B', O', e2, c0, c1, c2, c3⟩ := hrow.at (i := N) (by rw [hlen]; omega)
          cases e2
          have hg : (zs ++ [(y1, s)])[N]'(by rw [hlen]; omega) = (y1, s) := by subst hN; simp
          rw [hg, Nat.zero_add] at c2
          simp only at c2
          rw [hfy.1] at c2
          obtain ⟨_, cur, hcur⟩ := rowT h5 (g := g) rfl
          have f2 : wr.frozen? ⟨g, N * 4 + 2, none⟩ = false := Lib.frozen_of_heap hcur _
          rw [hlen] at hcap ⊢
          have hmk := zst_mark (i := i) (n := N + 1) (cap := cap) hst.low (by rw [hzs]; exact hst.mm) (by rw [hzs]; exact hst.len) h3 h4 (by rw [← hlen]; exact h5) (by rw [hN]) h6 h7 h8
          rw [hzs, hN] at hmk
          have HMK := hide hmk
          have e1 : (N : Int) + 1 - 1 = (N : Int) := by omega
          have hnl : N ≤ 65538 := by have h := hst.len; rw [← hzs, List.length_append, List.length_map, hN] at h; omega
          have HFR : Hid (freshB (some ⟨y1.m, true, y1.pk⟩) = false) := hide (by unfold freshB; simp)
          clear HDO2 hfr hst hzs h3 h4 h5 h6 h7 h8 hrow hlen hg hcur hmk c0 c1 c3 hfy hN
          go_wp2
          go_roundw
          case rel => exact ⟨i + 1, ms, xs, some ⟨y1.m, true, y1.pk⟩, hlt, by simp, by rw [unhide HFR], unhide HD2, unhide HMK⟩
          case measure => simp [intOf]; omega
        | false =>
          rw [hfr, if_neg (by simp)] at HDO2
          have HD := hide (fun (w' : World) (b : Below w.heap.size w w') => fin_bad (m := (i : Int) + 1) (w' := w') HDO2 (by simp) b)
          clear HDO2 hfr
          obtain ⟨zw, hzw, hrw, haw⟩ := (unhide HST).row
          obtain ⟨ar, cr, rfl, hzr⟩ := hrw.at
          obtain ⟨Nw, hNw⟩ : ∃ Nw, zw.length = Nw := ⟨_, rfl⟩
          rw [hNw]
          have HZW := hide (And.intro hzw (And.intro hrw (And.intro haw (And.intro hzr hNw))))
          clear hzw hrw haw hzr hNw
          go_wp2
          go_ret3
          exact unhide HD _ (unhide HB2)
      · have hx1 : ¬ (ba l).toList = [35, 35, 32, 101, 120, 112, 108, 105, 99, 105, 116] := by rw [ba_list]; exact hx
        have hx2 : ((ba l).toList == [35, 35, 32, 101, 120, 112, 108, 105, 99, 105, 116]) = false := by rw [beq_eq_false_iff_ne]; exact hx1
        have HX := hide hx
        have HBG := begins_any l [35, 32] wr
        obtain ⟨hp, hhp⟩ : ∃ b, Lib.hasPrefix l [35, 32] = b := ⟨_, rfl⟩
        have hhp2 : List.isPrefixOf [35, 32] l = hp := hhp
        rw [hhp2] at HBG
        have HBG2 := hide HBG
        clear hx HBG hhp2
        obtain ⟨zw, hzw, hrw, haw⟩ := (unhide HST).row
        obtain ⟨ar, cr, rfl, hzr⟩ := hrw.at
        obtain ⟨Nw, hNw⟩ : ∃ Nw, zw.length = Nw := ⟨_, rfl⟩
        rw [hNw]
        have HZW := hide (And.intro hzw (And.intro hrw (And.intro haw (And.intro hzr hNw))))
        clear hzw hrw haw hzr hNw
        cases hp with
        | true =>
          obtain ⟨hsh, hnx, hne, r, hr⟩ := head_two hhp
          have hml := mod_two (r := r)
          rw [← hr] at hml
          have hrl : l.length = r.length + 2 := by rw [hr]; simp
          have hxe : (ba l).extract 2 (r.length + 2) = ba r := by
            rw [sub_of, hr]
            congr 1
            simp
          rw [hrl] at hsl
          obtain ⟨pcs, hpc⟩ : ∃ pcs, pieces 32 r = pcs := ⟨_, rfl⟩
          have hCU := refCut_any 32 (l := r) (by omega) wr
          rw [hpc] at hml hCU
          have HCU := hide hCU
          have HML := hide hml
          have HSH := hide hsh
          have h232 : (2 : Int) ≤ (r.length : Int) + 2 := by omega
          have hpcl : pcs.length ≤ r.length + 2 := by
            rw [← hpc]
            have h1 := pieces_length 32 r
            have h2 := Lib.count_le r [32]
            omega
          have HRL := hide hrl
          have hpsm : ∀ p ∈ pcs, p.length ≤ r.length := fun p hp => pieces_small 32 r p (by rw [hpc]; exact hp)
          have HPSM := hide hpsm
          clear hCU hml hsh hnx hne hr hhp hpc hpsm
          go_wp2_with (go_at_call 43; fail)
          refine (unhide HBG2).mono ?_
          rintro e w2 ⟨rfl, hw⟩
          rw [hw]; clear hw w2
          go_wp2_with (go_at_call 44; fail)
          refine (unhide HCU).mono ?_
          rintro e w3 ⟨B3, c3, rfl, tx3, ⟨hB3, hB4⟩, b3⟩
          have HB3 := hide (low_trans (unhide HB2) b3)
          have HLB3 := hide b3
          by_cases hpn : pcs.length = 2
          · obtain ⟨a, b, rfl⟩ : ∃ a b, pcs = [a, b] := by
              match pcs, hpn with
              | [a, b], _ => exact ⟨a, b, rfl⟩
            have t0 : w3.cell? ⟨B3, 0, none⟩ = some (.string (ba a)) := tx3 0 (by simp)
            have t1 : w3.cell? ⟨B3, 1, none⟩ = some (.string (ba b)) := tx3 1 (by simp)
            have hal := unhide HPSM a (by simp)
            have hbl := unhide HPSM b (by simp)
            clear tx3 hpn HCU
            by_cases ha0 : a = []
            · have HDO2 := unhide HDO
              have hmn : modL l = none := by rw [unhide HML, ha0]; rfl
              rw [step_bad hmn (unhide HX) (Or.inr (Or.inr (unhide HSH)))] at HDO2
              have HD := hide (fun (w' : World) (b : Below w.heap.size w w') => fin_bad (m := (i : Int) + 1) (w' := w') HDO2 (by simp) b)
              have g1 : ((ba a).toList == []) = true := by rw [ba_list, ha0]; rfl
              clear HDO2 ha0 hmn
              go_wp2
              go_ret3
              exact unhide HD _ (unhide HB3)
            · have g1 : ((ba a).toList == []) = false := by rw [ba_list, beq_eq_false_iff_ne]; exact ha0
              by_cases hb0 : b = []
              · have HDO2 := unhide HDO
                have hmn : modL l = none := by
                  rw [unhide HML, hb0, if_neg]
                  unfold fullB
                  simp
                rw [step_bad hmn (unhide HX) (Or.inr (Or.inr (unhide HSH)))] at HDO2
                have HD := hide (fun (w' : World) (b : Below w.heap.size w w') => fin_bad (m := (i : Int) + 1) (w' := w') HDO2 (by simp) b)
                have g2 : ((ba b).toList == []) = true := by rw [ba_list, hb0]; rfl
                clear HDO2 ha0 hb0 hmn
                go_wp2
                go_ret3
                exact unhide HD _ (unhide HB3)
              · have g2 : ((ba b).toList == []) = false := by rw [ba_list, beq_eq_false_iff_ne]; exact hb0
                have hmn : modL l = some (a, b) := by
                  rw [unhide HML, if_pos]
                  · rfl
                  · unfold fullB
                    have c0 : [a, b].contains [] = false := by
                      rw [Bool.eq_false_iff]
                      intro hc
                      rw [List.contains_iff_mem] at hc
                      simp only [List.mem_cons, List.not_mem_nil, or_false] at hc
                      rcases hc with e | e
                      · exact ha0 e.symm
                      · exact hb0 e.symm
                    rw [c0]
                    rfl
                have hdo2 := unhide HDO
                rw [step_mod hmn] at hdo2
                obtain ⟨F, hF⟩ : ∃ F, modE ms (a, b) = F := ⟨_, rfl⟩
                rw [hF] at hdo2
                have HDO2 := hide hdo2
                have HF := hide hF
                have hal2 : a.length ≤ 65536 := by have := unhide HRL; omega
                clear ha0 hb0 hmn hdo2 hF
                go_wp2
                go_region
                obtain ⟨W4, hW4⟩ : ∃ W4, (w3.alloc (.cells #[.string (ba a), .string (ba b)] 36)).drew = W4 := ⟨_, rfl⟩
                rw [hW4]
                have b4 : Below w3.heap.size w3 W4 := by rw [← hW4]; exact ((Below.refl _ _).alloc (Nat.le_refl _) _).drew
                have n0 : W4.cell? ⟨w3.heap.size, 0, none⟩ = some (.string (ba a)) := by rw [← hW4]; exact (Blk.new w3 #[.string (ba a), .string (ba b)] 36).cell 0
                have n1 : W4.cell? ⟨w3.heap.size, 1, none⟩ = some (.string (ba b)) := by rw [← hW4]; exact (Blk.new w3 #[.string (ba a), .string (ba b)] 36).cell 1
                have b34 : Below wr.heap.size wr W4 := low_trans (unhide HLB3) b4
                obtain ⟨hzw, hrw, haw, hzr, hNw⟩ := unhide HZW
                have HMD := hide (refModuleM_any (w := W4) (n := Nw) (c := cr) (m := (a, b)) (zs := zw.map fun z => z.1.m) (by rw [List.length_map]; exact hNw) (by have h := (unhide HST).len; rw [← hzw, List.length_map] at h; omega) (hzr.low b34).mods (by show a.length < _; omega))
                have hmE : modE (zw.map fun z => z.1.m) (a, b) = F := by
                  rw [← unhide HF]
                  refine modE_mem fun c => ?_
                  rw [(unhide HST).mm c, ← hzw, List.map_map]
                  rfl
                rw [hmE] at HMD
                have HN01 := hide (And.intro n0 n1)
                have HB34 := hide b34
                clear hW4 b4 b34 hzw hrw haw hzr hmE t0 t1
                go_wp2_with (go_at_call 73; fail)
                refine (unhide HMD).mono ?_
                rintro e w5 ⟨rfl, b5⟩
                clear n0 n1
                have n0 := keep_cell b5 (unhide HN01).1
                have n1 := keep_cell b5 (unhide HN01).2
                have b35 : Below wr.heap.size wr w5 := low_trans (unhide HB34) b5
                obtain ⟨hzw, hrw, haw, hzr, hNw⟩ := unhide HZW
                have hst5 := (unhide HST).on b35
                have hrw5 : ZRow w1.heap.size w5 (.slice ar Nw cr) zw := by rw [← hNw]; exact rowT_low hrw b35
                have haw5 := haw.low b35
                obtain ⟨v6, w6, hrun, hr6, hb6, hg6⟩ := app_onez (x := ((⟨(a, b), false, []⟩ : Vd), .slice none 0 0)) hrw5 rfl hst5.low.size (by have h := (unhide HST).len; rw [← hzw, List.length_map] at h; omega)
                have haw6 : PAll w1.heap.size w6 zw := (haw5.low ((Below.refl _ _).alloc (Nat.le_refl _) _)).grown (World.ownsRow.alloc hrw5 _) hg6
                obtain ⟨a6, c6, rfl, _⟩ := hr6.at
                have hlow6 := hst5.low.trans hb6
                have hnew := fun (_ : F = 0) => hst5.new (i := i) (a := (a, b)) (by rw [hzw]) haw6 hr6 hal2 hlow6
                obtain ⟨N6, hN6⟩ : ∃ N6, (zw ++ [((⟨(a, b), false, []⟩ : Vd), Value.slice none 0 0)]).length = N6 := ⟨_, rfl⟩
                rw [hN6] at hrun hnew
                have HNEW := hide hnew
                have HRUN := hide hrun
                have HB6 := hide (low_trans (unhide HB1) hlow6)
                have HFR : Hid (freshB (some (⟨(a, b), false, []⟩ : Vd)) = true) := hide rfl
                clear hzw hrw haw hzr hNw hst5 hrw5 haw5 hrun hr6 hb6 hg6 haw6 hlow6 hnew hN6 b35 b5
                by_cases hf0 : F = 0
                · have HD2 : Hid (LeftV ps q z ((a, b) :: ms) (xs ++ y.toList) (some ⟨(a, b), false, []⟩) (i + 1) R) := hide (by
                    have := unhide HDO2
                    rw [if_pos hf0] at this
                    exact this)
                  have HM := hide (unhide HNEW hf0)
                  subst hf0
                  go_wp2_with (at_builtin; refine Lib.wpList_append_run _ rfl _ _ _ _ rfl _ _ rfl rfl _ _ (unhide HRUN) ?_)
                  go_roundw
                  case rel => exact ⟨i + 1, (a, b) :: ms, xs ++ y.toList, some ⟨(a, b), false, []⟩, hlt, by simp, by rw [unhide HFR], unhide HD2, unhide HM⟩
                  case measure => simp [intOf]; omega
                · have HD := hide (fun (w' : World) (b : Below w.heap.size w w') => by
                    have h := unhide HDO2
                    rw [if_neg hf0] at h
                    exact fin_bad (m := (i : Int) + 1) (w' := w') h (by simp) b)
                  have hne : (F != 0) = true := by simpa using hf0
                  clear hf0
                  go_wp2_with (at_builtin; refine Lib.wpList_append_run _ rfl _ _ _ _ rfl _ _ rfl rfl _ _ (unhide HRUN) ?_)
                  go_ret3
                  exact unhide HD _ (unhide HB6)
          · have HDO2 := unhide HDO
            have hmn : modL l = none := by
              rw [unhide HML, if_neg]
              unfold fullB
              simp [hpn]
            rw [step_bad hmn (unhide HX) (Or.inr (Or.inr (unhide HSH)))] at HDO2
            have HD := hide (fun (w' : World) (b : Below w.heap.size w w') => fin_bad (m := (i : Int) + 1) (w' := w') HDO2 (by simp) b)
            have g1 : ((pcs.length : Int) != 2) = true := by simp; omega
            have g2 : ((pcs.length : Int) == 2) = false := by simp; omega
            clear HDO2 hpn hmn tx3
            go_wp2
            go_ret3
            exact unhide HD _ (unhide HB3)
        | false =>
          have HMN : Hid (modL l = none) := hide (by unfold modL; rw [if_neg (fun h => by rw [hhp] at h; cases h.1)])
          clear hhp
          by_cases hle : l = []
          · subst hle
            have HDO2 := unhide HDO
            rw [step_bad (unhide HMN) (unhide HX) (Or.inr (Or.inl rfl))] at HDO2
            have HD := hide (fun (w' : World) (b : Below w.heap.size w w') => fin_bad (m := (i : Int) + 1) (w' := w') HDO2 (by simp) b)
            have g1 : ((ba []).toList == []) = true := by rw [ba_list]; rfl
            clear HDO2
            go_wp2_with (go_at_call 43; fail)
            refine (unhide HBG2).mono ?_
            rintro e w2 ⟨rfl, hw⟩
            rw [hw]; clear hw w2
            go_wp2
            go_ret3
            exact unhide HD _ (unhide HB2)
          · obtain ⟨c, l', hcl2⟩ : ∃ c l', l = c :: l' := by
              cases l with
              | nil => exact absurd rfl hle
              | cons c l' => exact ⟨c, l', rfl⟩
            have g1 : ((ba l).toList == []) = false := by rw [ba_list, beq_eq_false_iff_ne]; exact hle
            have g2 : (ba l).toList.isEmpty = false := ba_ne hle
            have g3 : ¬ (ba l).toList = [] := by rw [ba_list]; exact hle
            have g4 : ((ba l).data[0]!) = c := by
              have := getBang l 0 (by rw [hcl2]; simp)
              rw [this]
              subst hcl2
              rfl
            have g6 : ∀ (h : 0 < (ba l).size), ((ba l)[0]'h) = c := fun h => by
              subst hcl2
              rfl
            have g5 : 0 < l.length := by rw [hcl2]; simp
            have HLE := hide hle
            have HC2 := hide hcl2
            clear hle hcl2
            by_cases hsh : c = 35
            · have HDO2 := unhide HDO
              rw [step_bad (unhide HMN) (unhide HX) (Or.inr (Or.inr (by rw [unhide HC2, hsh]; simp [Lib.hasPrefix, List.isPrefixOf])))] at HDO2
              have HD := hide (fun (w' : World) (b : Below w.heap.size w w') => fin_bad (m := (i : Int) + 1) (w' := w') HDO2 (by simp) b)
              subst hsh
              clear HDO2
              go_wp2_with (go_at_call 43; fail)
              refine (unhide HBG2).mono ?_
              rintro e w2 ⟨rfl, hw⟩
              rw [hw]; clear hw w2
              go_wp2
              go_ret3
              exact unhide HD _ (unhide HB2)
            · have hsh2 : (((c.toNat : Nat) : Int) == 35) = false := by
                rw [beq_eq_false_iff_ne]
                intro h
                have h2 : c.toNat = 35 := by omega
                exact hsh (UInt8.toNat_inj.1 h2)
              have hsh3 : ¬ ((c.toNat : Nat) : Int) = 35 := by simpa using hsh2
              have hnp : Lib.hasPrefix l [35] = false := by
                rw [unhide HC2]
                simp only [Lib.hasPrefix, List.isPrefixOf, Bool.and_true]
                simpa using fun e : (35 : UInt8) = c => hsh e.symm
              have HNP := hide hnp
              clear hsh hnp
              rcases Nat.eq_zero_or_pos Nw with hN0 | hN0
              · have hyn : y = none := by
                  have h := unhide HZW
                  have h2 := congrArg List.length h.1
                  rw [List.length_map, h.2.2.2.2, hN0, List.length_append] at h2
                  cases y with
                  | none => rfl
                  | some y1 => simp at h2
                have HDO2 := unhide HDO
                rw [step_bad (unhide HMN) (unhide HX) (Or.inl hyn)] at HDO2
                have HD := hide (fun (w' : World) (b : Below w.heap.size w w') => fin_bad (m := (i : Int) + 1) (w' := w') HDO2 (by simp) b)
                subst hN0
                clear HDO2 hyn
                go_wp2_with (go_at_call 43; fail)
                refine (unhide HBG2).mono ?_
                rintro e w2 ⟨rfl, hw⟩
                rw [hw]; clear hw w2
                go_wp2
                go_ret3
                exact unhide HD _ (unhide HB2)
              · obtain ⟨N, hN1⟩ : ∃ N, Nw = N + 1 := ⟨Nw - 1, by omega⟩
                subst hN1
                have hzw := unhide HZW
                have hst := unhide HST
                rw [hzw.2.2.2.2] at hst
                rcases hst.st with ⟨rfl, rfl, e1⟩ | ⟨y1, zs, s, rfl, hzs, h3, h4, h5, h6, h7, h8⟩
                · have h2 := congrArg List.length hzw.1
                  rw [List.length_map, hzw.2.2.2.2] at h2
                  simp at h2
                obtain ⟨g, cap, e2, hcap, hrow⟩ := own_rowZ h5 (fun e => by
                  rcases h5.2 with ⟨_, h0⟩ | ⟨_, _, _, e2, _⟩
                  · simp at h0
                  · rw [e] at e2; cases e2)
                have hN : zs.length = N := by
                  have h2 := congrArg List.length hzw.1
                  rw [List.length_map, hzw.2.2.2.2, ← hzs] at h2
                  simp at h2
                  omega
                have hlen : (zs ++ [(y1, s)]).length = N + 1 := by simp [hN]
                rw [hlen] at e2
                obtain ⟨rfl, he9, rfl⟩ := Value.slice.inj e2
                rw [hlen] at hcap
                obtain ⟨B', O', e3, c0, c1, c2, c3⟩ := hrow.at (i := N) (by rw [hlen]; omega)
                cases e3
                have hg : (zs ++ [(y1, s)])[N]'(by rw [hlen]; omega) = (y1, s) := by subst hN; simp
                rw [hg, Nat.zero_add] at c0 c1 c3
                simp only at c0 c1 c3
                obtain ⟨sa, sc, rfl, hrs⟩ := h7.at
                obtain ⟨pn, hpn⟩ : ∃ pn, y1.pk.length = pn := ⟨_, rfl⟩
                rw [hpn] at c3 h4
                have HPK := hide (fun wx (hx : Below wr.heap.size wr wx) => refPack_any (w := wx) (c := sc) (m := y1.m) (x := l) hpn (by omega) (hrs.low hx) (by omega))
                have hdo2 := unhide HDO
                rw [step_pk (unhide HMN) (unhide HX) (unhide HLE) (unhide HNP)] at hdo2
                obtain ⟨I, hI⟩ : ∃ I, impE y1.m.1 y1.pk l = I := ⟨_, rfl⟩
                rw [hI] at HPK hdo2
                have HDO2 := hide hdo2
                have hnl : N ≤ 65538 := by have h := hst.len; rw [← hzs, List.length_append, List.length_map, hN] at h; omega
                have HALLF := hide (And.intro hst (And.intro hzs (And.intro h3 (And.intro h4 (And.intro h5 (And.intro h6 (And.intro h7 h8)))))))
                have HPN := hide hpn
                have HNZ := hide hN
                have HLEN := hide hlen
                have e1 : (N : Int) + 1 - 1 = (N : Int) := by omega
                have k4 : (N : Int) < (N : Int) + 1 := by omega
                have k5 : (0 : Int) ≤ (N : Int) := by omega
                have k6 : (N : Int) ≤ 65538 := by omega
                obtain ⟨ym, hym⟩ : ∃ ym, y1.m = ym := ⟨_, rfl⟩
                rw [hym] at c0 c1 HPK
                obtain ⟨yp, yv⟩ := ym
                have H2 : HeldO wr g (N * 4) yp yv (.slice sa pn sc) g (N * 4) yp wr := ⟨c0, c1, c3, c0, Below.refl _ _⟩
                have HYM := hide hym
                clear c2 he9
                clear hst hzw hzs h3 h4 h5 h6 h7 h8 hrow hlen hg hN hrs hpn hdo2 hI e2 c0 c1 c3 hN0 hym
                go_wp2_with (go_at_call 43; fail)
                refine (unhide HBG2).mono ?_
                rintro e w2 ⟨rfl, hw⟩
                rw [hw]; clear hw w2
                go_wp2
                go_region_held3 (fun w' => w'.cell? ⟨g, N * 4, none⟩ = some (.string (ba yp)) ∧ w'.cell? ⟨g, N * 4 + 1, none⟩ = some (.string (ba yv)) ∧ w'.cell? ⟨g, N * 4 + 3, none⟩ = some (.slice sa pn sc) ∧ w'.cell? ⟨g, N * 4, none⟩ = some (.string (ba yp)) ∧ Below wr.heap.size wr w')
                  (first | assumption | exact HeldO.drew (by assumption) | exact H2 | exact HeldO.drew H2)
                  (first
                    | (go_at_call 74; refine (pack_held (W := wr) (B := g) (o := N * 4) (p := yp) (v := yv) (s := .slice sa pn sc) (B2 := g) (o2 := N * 4) (q := yp) (unhide HPK) (by assumption)).mono ?_; rintro e w'' ⟨rfl, kh2⟩))
                have kz2 : HeldO wr g (N * 4) yp yv (.slice sa pn sc) g (N * 4) yp w'' := kh2
                obtain ⟨W5, hW5⟩ : ∃ W5, w''.alloc (.cells #[.string (ba l)] 9) = W5 := ⟨_, rfl⟩
                have c3 := kz2.2.2.1
                have bW : Below wr.heap.size wr w'' := kz2.2.2.2.2
                have hst2 := (unhide HALLF).1.on bW
                obtain ⟨_, hzs, h3, h4, h5, h6, h7, h8⟩ := unhide HALLF
                have h5' := rowT_low h5 bW
                have h6' := h6.low bW
                have h7' := srow_low h7 bW
                have hal : Below w''.heap.size w'' W5 := by rw [← hW5]; exact (Below.refl _ _).alloc (Nat.le_refl _) _
                have h5a := rowT_low h5' hal
                have h6a := h6'.low hal
                have h7a := srow_low h7' hal
                have low5 := low_trans hst2.low hal
                obtain ⟨g2, cap2, w4, hrun, hs4, hgr, hat⟩ := app_text (x := l) h7' hst2.low.size (by rw [unhide HPN]; omega)
                rw [hW5] at hrun hgr hat
                rw [unhide HPN] at hrun hs4 hat
                have c3a : W5.cell? ⟨g, N * 4 + 3, none⟩ = some (.slice sa pn sc) := keep_cell hal c3
                have hgs : (Value.slice sa y1.pk.length sc).ownBlock ≠ some g := fun e => by
                  obtain ⟨_, cu, hcu⟩ := rowT h7a e
                  obtain ⟨_, cu2, hcu2⟩ := rowT h5a (g := g) rfl
                  rw [hcu] at hcu2
                  simp at hcu2
                have hgl := rowT_lt h5a (g := g) rfl
                have hb4 : w4.heap[g]? = W5.heap[g]? := hgr.block g hgl (fun e => hgs e.symm)
                have c4 : w4.cell? ⟨g, N * 4 + 3, none⟩ = some (.slice sa pn sc) := by
                  unfold World.cell? at c3a ⊢
                  rw [hb4]
                  exact c3a
                obtain ⟨_, cur, hcur⟩ := rowT h5a (g := g) rfl
                have f4 : w4.frozen? ⟨g, N * 4 + 3, none⟩ = false := Lib.frozen_of_heap (hb4.trans hcur) _
                have hmkp := fun (hI0 : I = 0) => zst_pack (i := i) (n := N + 1) (l := l) low5 (by rw [hzs]; exact hst2.mm) (by rw [hzs]; exact hst2.len) h3 (by rw [unhide HPN]; exact h4) h5a (by rw [unhide HNZ]) h6a h7a h8 hs4 hgr (by
                  rcases hat with h | h
                  · exact Or.inl (by rw [unhide HPN]; exact h)
                  · exact Or.inr h)
                rw [hzs, unhide HNZ] at hmkp
                have HMKP := hide hmkp
                have HBF : Hid (Below w.heap.size w (w4.setCell ⟨g, N * 4 + 3, none⟩ (.slice (some ⟨g2, 0, none⟩) (pn + 1) cap2))) := hide (low_trans (unhide HB1) ((low5.grown hgr low5.size (fun j hj => (rowT h7a hj).1)).setCell (p := ⟨g, N * 4 + 3, none⟩) (rowT h5a (g := g) rfl).1 _))
                have HRUN := hide hrun
                have HW5 := hide hW5
                clear kz2 H2 kh2 hst2 hzs h3 h4 h5 h6 h7 h8 h5' h6' h7' hal h5a h6a h7a low5 hrun hs4 hgr hat hgs hgl hb4 hcur hmkp hW5 c3a bW
                by_cases hi0 : I = 0
                · have HD2 : Hid (LeftV ps q z ms xs (some ⟨y1.m, y1.x, y1.pk ++ [l]⟩) (i + 1) R) := hide (by
                    have := unhide HDO2
                    rw [if_pos hi0] at this
                    exact this)
                  have HFR : Hid (freshB (some ⟨y1.m, y1.x, y1.pk ++ [l]⟩) = false) := hide (by unfold freshB; simp)
                  have HM := hide (unhide HMKP hi0)
                  subst hi0
                  go_wp2_with (at_builtin; rw [unhide HW5]; refine Lib.wpList_append_run _ rfl _ _ _ _ rfl _ _ rfl rfl _ _ (unhide HRUN) ?_)
                  go_roundw
                  case rel => exact ⟨i + 1, ms, xs, some ⟨y1.m, y1.x, y1.pk ++ [l]⟩, hlt, by simp, by rw [unhide HFR], unhide HD2, unhide HM⟩
                  case measure => simp [intOf]; omega
                · have HD := hide (fun (w' : World) (b : Below w.heap.size w w') => by
                    have h := unhide HDO2
                    rw [if_neg hi0] at h
                    exact fin_bad (m := (i : Int) + 1) (w' := w') h (by simp) b)
                  have hne : (I != 0) = true := by simpa using hi0
                  clear hi0
                  go_wp2_with (at_builtin; rw [unhide HW5]; refine Lib.wpList_append_run _ rfl _ _ _ _ rfl _ _ rfl rfl _ _ (unhide HRUN) ?_)
                  go_ret3
                  exact unhide HD _ (unhide HBF)
    · have hiK : i = K := by omega
      subst hiK
      have hend := left_end (unhide HPZ).1 (unhide HPZ).2.1 (unhide HPZ).2.2 hlv
      obtain ⟨zw, hzw, hrw, haw⟩ := hst.row
      obtain ⟨ar, cr, rfl, hzr⟩ := hrw.at
      obtain ⟨Nw, hNw⟩ : ∃ Nw, zw.length = Nw := ⟨_, rfl⟩
      have hlen := hst.len
      rcases hend with ⟨hz, hRe⟩ | ⟨hz, hRe⟩
      · have hbt : bz = true := by rw [← unhide HBZ]; exact decide_eq_true hz
        obtain ⟨ve, hve, hvr, hvp⟩ := vz_ve (w := wr) haw hzr
        have hvl : ve.length = Nw := by rw [← hNw, ← hve, List.length_map]
        have hvf : ve.map Prod.fst = xs ++ y.toList := by
          rw [← hzw, ← hve, List.map_map]
          rfl
        have hgd := vendF_zero (unhide HRZ (by rw [hRe]))
        rw [unhide HRR, hRe] at hgd
        have hIO := inOrder_any (w := wr) (c := cr) hvl (by rw [← hzw, List.length_map] at hlen; have := unhide HPL; omega) hvr (fun u hu => by
          obtain ⟨p1, p2, p3⟩ := hvp u hu
          have hm : u.1 ∈ xs ++ y.toList := by rw [← hvf]; exact List.mem_map_of_mem hu
          refine ⟨p1, ?_, (hgd.2.1.1 u.1 hm).n, p3⟩
          rw [← p1]
          have h2 := (vendF_lens ht).1 u.1 (by rw [unhide HRR, hRe]; exact hm)
          omega)
        have HIO := hide hIO
        have HBW := hide (low_trans (unhide HB1) hst.low)
        have HRE := hide hRe
        have HVF := hide hvf
        have hw1 : w.heap.size ≤ wr.heap.size := (unhide HBW).size
        subst hbt
        clear hRe hzw hrw haw hzr hve hvr hvp hvf hgd hlen hst hlv hz hvl
        rw [hNw]
        clear hNw
        go_wp2_with (go_at_call 75; fail)
        refine (unhide HIO).mono ?_
        rintro e w5 ⟨v5, rs, rfl, z1, z2, z3, b5⟩
        obtain ⟨a5, c5, rfl, _⟩ := z1.at
        have HD : Hid (FinV w R (.returned (.tuple #[.slice a5 rs.length c5, .int .i64 0, .int .i64 0])) w5) := hide (by
          rw [unhide HRE]
          refine ⟨_, rs, rfl, rowT_mono z1 hw1, fun u hu => rowT_mono (z2 u hu) hw1, ?_, low_trans (unhide HBW) b5⟩
          rw [← unhide HVF]
          exact z3)
        clear z1 z2 z3 b5
        go_wp2
        go_ret3
        exact unhide HD
      · have hbt : bz = false := by rw [← unhide HBZ]; exact decide_eq_false hz
        have HD := hide (fun (w' : World) (b : Below w.heap.size w w') => fin_bad (m := (i : Int)) (w' := w') hRe (by simp) b)
        subst hbt
        clear hRe hzw hrw haw hzr hlen hst hlv hz
        rw [hNw]
        clear hNw
        go_wp2
        go_ret3
        exact unhide HD _ (unhide HB2)

end Go.Proofs.YthcafeoamabkgaaGreatDoor
