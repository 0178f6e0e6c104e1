/-
  The reference's FormatVendor: the walk.
-/
import Derived.Test.YthcafeoamabkgaaGreatDoorRvZ
import Derived.Test.YthcafeoamabkgaaGreatDoorRvH
namespace Go.Proofs.YthcafeoamabkgaaGreatDoor
open Go.RowKit

/-- The text of an element ahead of its packages. -/
def topT (y : Vd) : Str := (headT y.m ++ [10]) ++ (if y.x = true then explL ++ [10] else [])
theorem vd_top (y : Vd) : vdT y = topT y ++ frontL y.pk := by
  have := mid_text y 0
  simpa [topT] using this

theorem front_count (l : List Str) : l.length ≤ (frontL l).length := by
  rw [frontL_length]
  induction l with
  | nil => exact Nat.le_refl _
  | cons p l ih => rw [List.map_cons, List.sum_cons, List.length_cons]; omega

/-- What has been written so far of a list. -/
theorem text_take {rs : List Vd} {i : Nat} (hi : i < rs.length) : vtextL (rs.take (i + 1)) = (vtextL (rs.take i) ++ topT rs[i]) ++ frontL rs[i].pk := by
  rw [List.take_succ_eq_append_getElem hi, vtext_append, vtext_one, vd_top, List.append_assoc]
theorem front_take {ps : List Str} {k : Nat} (hk : k < ps.length) : frontL (ps.take (k + 1)) = (frontL (ps.take k) ++ ps[k]) ++ [10] := by
  rw [List.take_succ_eq_append_getElem hk, frontL_snoc]

set_option maxRecDepth 100000 in
set_option maxHeartbeats 16000000 in
theorem refFormatV_any {w : World} {a : Option Addr} {n c : Nat} {zs : List VE} (hn : zs.length = n) (hN : n ≤ 1000) (hc : n ≤ c) (h : RowV w a zs) (hk : PacksM w zs) (hkc : ∀ z ∈ zs, z.2.2.1 ≤ z.2.2.2) (hT : (vtextL (zs.map Prod.fst)).length ≤ 4000000000) :
    Calls Tryz.prog 34 #[.slice a n c] w fun e w' => ∃ s en, e = .returned (.tuple #[.string (ba s), .int .i64 en]) ∧ VFOut (zs.map Prod.fst) s en ∧ Below w.heap.size w w' := by
  have hmem : ∀ z ∈ zs, (vdT z.1).length ≤ 4000000000 := fun z hz => Nat.le_trans (vtext_mem (List.mem_map_of_mem hz)) hT
  obtain ⟨LS, hLS⟩ : ∃ LS, zs.map Prod.fst = LS := ⟨_, rfl⟩
  have hll : LS.length = n := by rw [← hLS, List.length_map]; exact hn
  have hget : ∀ i (h1 : i < LS.length) (h2 : i < zs.length), LS[i] = zs[i].1 := fun i h1 h2 => by subst hLS; rw [List.getElem_map]
  have hmtk : ∀ i, (zs.take i).map (fun z => z.1.m) = (LS.take i).map (·.m) := fun i => by rw [← hLS, ← List.map_take, List.map_map]; rfl
  obtain ⟨E, hE⟩ : ∃ E, vendE [] LS = E := ⟨_, rfl⟩
  have HE := hide hE
  have HLS := hide hLS
  have HLL := hide hll
  have HGE := hide hget
  have HMT := hide hmtk
  have HME := hide hmem
  have HN := hide hn
  have H := hide h
  have HK := hide hk
  have HKC := hide hkc
  have HT : Hid ((vtextL LS).length ≤ 4000000000) := hide (by rw [← hLS]; exact hT)
  rw [hLS]
  clear hn h hk hkc hT hE hLS hmem hll hget hmtk
  go_enter Tryz.func34, Tryz.ntmps34
  go_wp2
  go_loopw [4, 5, 6] (fun v4 _ _ wr => ∃ i : Nat, i ≤ n ∧ v4 = .int .i64 i ∧ vendE ((LS.take i).map (·.m)).reverse (LS.drop i) = E ∧ Below w.heap.size w wr) (fun v4 _ _ _ => n - (intOf v4).toNat)
  case atStart => exact ⟨0, Nat.zero_le _, rfl, by rw [← unhide HE]; rfl, Below.refl _ _⟩
  case round =>
    rename World => wr
    obtain ⟨i, hi, rfl, hve, hbw⟩ := hrel
    by_cases hlt : i < n
    · have hit : i < zs.length := by rw [unhide HN]; exact hlt
      obtain ⟨B, O, rfl, m1, m2, m3, m4⟩ := ((unhide H).low hbw).at hit
      have hst := vend_next (by rw [unhide HLL]; exact hlt) hve
      rw [unhide HGE i (by rw [unhide HLL]; exact hlt) hit] at hst
      have hsh := unhide HME _ (List.getElem_mem hit)
      obtain ⟨q1, q2, q4⟩ := unhide HK _ (List.getElem_mem hit)
      have q5 := unhide HKC _ (List.getElem_mem hit)
      obtain ⟨z, hz⟩ : ∃ z, zs[i] = z := ⟨_, rfl⟩
      rw [hz] at m1 m2 m3 m4 hst hsh q1 q2 q4 q5
      obtain ⟨⟨⟨p, v⟩, x, pk⟩, az, nz, cz⟩ := z
      simp only at m1 m2 m3 m4 hst hsh q1 q2 q4 q5
      obtain ⟨l1, l2, l3⟩ := vd_lens ⟨(p, v), x, pk⟩
      simp only at l1 l2 l3
      have htl : (zs.take i).length = i := by rw [List.length_take]; omega
      have HMD := hide (fun wx (hx : Below wr.heap.size wr wx) => refModule_any (w := wx) (c := c) (m := (p, v)) htl (by omega) (((unhide H).low (low_trans hbw hx)).front i) (by show p.length < _; omega))
      rw [unhide HMT i] at HMD
      obtain ⟨F, hF⟩ : ∃ F, modE ((LS.take i).map (·.m)) (p, v) = F := ⟨_, rfl⟩
      rw [hF] at HMD hst
      have HST := hide hst
      have HBW := hide hbw
      have HQ := hide (And.intro q1 (And.intro q2 (And.intro q4 q5)))
      have HL3 := hide l3
      have HSH := hide hsh
      have hpl : p.length ≤ 4294967281 := by omega
      have H1 : HeldN wr B (O + i * 4) p v wr := ⟨m1, m2, Below.refl _ _⟩
      have hic : i ≤ c := by omega
      have hic2 : (i : Int) ≤ (c : Int) := by omega
      have HM4 := hide m4
      have HM12 := hide (And.intro m1 m2)
      clear hz hF hst hbw q1 q2 q4 q5 l1 l2 l3 hsh htl hve m3 m4
      go_wp2
      go_region_held3 (fun w' => w'.cell? ⟨B, O + i * 4, none⟩ = some (.string (ba p)) ∧ w'.cell? ⟨B, O + i * 4 + 1, none⟩ = some (.string (ba v)) ∧ Below wr.heap.size wr w')
        (first | assumption | exact HeldN.drew (by assumption) | exact H1 | exact HeldN.drew H1)
        (first
          | (go_at_call 73; refine (mod_held (W := wr) (B := B) (o := O + i * 4) (p := p) (v := v) (unhide HMD) (by assumption)).mono ?_; rintro e w' ⟨rfl, kh⟩))
      have kz : HeldN wr B (O + i * 4) p v w' := kh
      have HB1 := hide (low_trans (unhide HBW) kz.2.2)
      have HKZ := hide kz
      clear kz H1 m1 m2
      by_cases hf0 : F = 0
      · have HST2 : Hid (E = if pksE p [] pk ≠ 0 then pksE p [] pk else vendE ((LS.take (i + 1)).map (·.m)).reverse (LS.drop (i + 1))) := hide (by rw [unhide HST, if_neg (by simp [hf0])])
        subst hf0
        have m4 := (unhide HM4)
        obtain ⟨G, hG⟩ : ∃ G, pksE p [] pk = G := ⟨_, rfl⟩
        rw [hG] at HST2
        have HG := hide hG
        have HBX := hide (unhide HKZ).2.2
        clear hG m4 HMD
        go_wp2
        go_loopw [5, 6] (fun _ v6 wq => ∃ j : Nat, j ≤ nz ∧ v6 = .int .i64 j ∧ pksE p (pk.take j).reverse (pk.drop j) = G ∧ Below wr.heap.size wr wq) (fun _ v6 _ => nz - (intOf v6).toNat)
        case atStart => exact ⟨0, Nat.zero_le _, rfl, by rw [← unhide HG]; rfl, unhide HBX⟩
        case round =>
          rename World => wq
          obtain ⟨j, hj, rfl, hpe, hbq⟩ := hrel
          have n1 := keep_cell hbq (unhide HM4)
          have HBQ := hide (low_trans (unhide HBW) hbq)
          by_cases hjt : j < nz
          · obtain ⟨q1, q2, q4, q5⟩ := unhide HQ
            have hjp : j < pk.length := by omega
            obtain ⟨B2, O2, rfl, hc2⟩ := (q4.low (unhide HBQ)).at hjp
            have hps := pks_step (path := p) hjp
            rw [hpe] at hps
            have hqn := unhide HKZ
            have n2 := keep_cell hbq (unhide HM12).1
            have n3 := keep_cell hbq (unhide HM12).2
            obtain ⟨q, hq⟩ : ∃ q, pk[j] = q := ⟨_, rfl⟩
            rw [hq] at hc2 hps
            rw [impE_mem (fun a => List.mem_reverse)] at hps
            have htk : (pk.take j).length = j := by rw [List.length_take]; omega
            have HPK := hide (fun wx (hx : Below wq.heap.size wq wx) => refPack_any (w := wx) (c := cz) (m := (p, v)) (x := q) htk (by omega) ((q4.low (low_trans (unhide HBQ) hx)).take j) hpl)
            simp only at HPK
            obtain ⟨I, hI⟩ : ∃ I, impE p (pk.take j) q = I := ⟨_, rfl⟩
            rw [hI] at hps HPK
            have HPS := hide hps
            have HBQ2 := hide hbq
            have hjc : j ≤ cz := by omega
            have hjc2 : (j : Int) ≤ (cz : Int) := by omega
            have H2 : HeldO wq B (O + i * 4) p v (.slice (some ⟨B2, O2, none⟩) nz cz) B2 (O2 + j) q wq := ⟨n2, n3, n1, hc2, Below.refl _ _⟩
            clear hq hI hps htk hqn n1 n2 n3 hc2 hpe q1 q4
            go_wp2
            go_region_held3 (fun w' => w'.cell? ⟨B, O + i * 4, none⟩ = some (.string (ba p)) ∧ w'.cell? ⟨B, O + i * 4 + 1, none⟩ = some (.string (ba v)) ∧ w'.cell? ⟨B, O + i * 4 + 3, none⟩ = some (.slice (some ⟨B2, O2, none⟩) nz cz) ∧ w'.cell? ⟨B2, O2 + j, none⟩ = some (.string (ba q)) ∧ Below wq.heap.size wq w')
              (first | assumption | exact HeldO.drew (by assumption) | exact H2 | exact HeldO.drew H2)
              (first
                | (go_at_call 74; refine (pack_held (W := wq) (B := B) (o := O + i * 4) (p := p) (v := v) (s := .slice (some ⟨B2, O2, none⟩) nz cz) (B2 := B2) (o2 := O2 + j) (q := q) (unhide HPK) (by assumption)).mono ?_; rintro e w'' ⟨rfl, kh2⟩))
            have kz2 : HeldO wq B (O + i * 4) p v (.slice (some ⟨B2, O2, none⟩) nz cz) B2 (O2 + j) q w'' := kh2
            have HB3 := hide (low_trans (unhide HBQ2) kz2.2.2.2.2)
            have HB4 := hide (low_trans (unhide HBQ) kz2.2.2.2.2)
            clear kz2 H2 kh2
            by_cases hi0 : I = 0
            · have HD : Hid (pksE p (pk.take (j + 1)).reverse (pk.drop (j + 1)) = G) := hide (by rw [unhide HPS, if_neg (by simp [hi0])])
              subst hi0
              go_wp2
              go_roundw
              case rel => exact ⟨j + 1, hjt, by simp, unhide HD, unhide HB3⟩
              case measure => simp [intOf]; omega
            · have HD : Hid (VFOut LS [] I ∧ Below w.heap.size w w'') := hide ⟨Or.inl ⟨by
                  have hg : G = I := by rw [unhide HPS, if_pos hi0]
                  rw [unhide HE, unhide HST2, hg, if_pos hi0]; exact hi0, by
                  have hg : G = I := by rw [unhide HPS, if_pos hi0]
                  rw [unhide HE, unhide HST2, hg, if_pos hi0], rfl⟩, unhide HB4⟩
              have hne : (I != 0) = true := by simpa using hi0
              clear hi0
              go_wp2
              go_ret2
              exact ⟨[], I, rfl, (unhide HD).1, (unhide HD).2⟩
          · obtain ⟨q1, q2, q4, q5⟩ := unhide HQ
            have hg0 : G = 0 := by rw [← hpe, List.drop_eq_nil_of_le (by omega)]; rfl
            have HD : Hid (vendE ((LS.take (i + 1)).map (·.m)).reverse (LS.drop (i + 1)) = E) := hide (by rw [unhide HST2, if_neg (by simp [hg0])])
            clear hg0 hpe q1 q4 q5
            go_wp2
            go_roundw
            case rel => exact ⟨i + 1, hlt, by simp, unhide HD, unhide HBQ⟩
            case measure => simp [intOf]; omega
      · have HD : Hid (VFOut LS [] F ∧ Below w.heap.size w w') := hide ⟨Or.inl ⟨by rw [unhide HE, unhide HST, if_pos hf0]; exact hf0, by rw [unhide HE, unhide HST, if_pos hf0], rfl⟩, unhide HB1⟩
        have hne : (F != 0) = true := by simpa using hf0
        clear hf0
        go_wp2
        go_ret2
        exact ⟨[], F, rfl, (unhide HD).1, (unhide HD).2⟩
    · have h0 : vendE [] LS = 0 := by rw [unhide HE, ← hve, List.drop_eq_nil_of_le (by rw [unhide HLL]; omega)]; rfl
      have hgood := vends_e.1 h0
      have HIO := hide (inOrder_any (w := wr) (c := c) (unhide HN) (by omega) ((unhide H).low hbw) (fun z hz => by
        obtain ⟨q1, q2, q4⟩ := unhide HK z hz
        refine ⟨q1, q2, ?_, q4.low hbw⟩
        exact (hgood.1 z.1 (by rw [← unhide HLS]; exact List.mem_map_of_mem hz)).n))
      have H0 := hide h0
      have HBW := hide hbw
      clear h0 hgood hve hbw
      go_wp2_with (go_at_call 75; fail)
      refine (unhide HIO).mono ?_
      rintro e W2 ⟨vr, rs, rfl, z1, z2, z3, b2⟩
      rw [unhide HLS] at z3
      obtain ⟨ar, cr, rfl, zr⟩ := z1.at
      obtain ⟨N, hNr⟩ : ∃ N, rs.length = N := ⟨_, rfl⟩
      obtain ⟨RS, hRS⟩ : ∃ RS, rs.map Prod.fst = RS := ⟨_, rfl⟩
      rw [hRS] at z3
      have hrl : RS.length = N := by rw [← hRS, List.length_map]; exact hNr
      have hrg : ∀ i (h1 : i < RS.length) (h2 : i < rs.length), RS[i] = rs[i].1 := fun i h1 h2 => by subst hRS; rw [List.getElem_map]
      have hNn : N ≤ 1000 := by have h := z3.len; rw [hrl, unhide HLL] at h; omega
      have htx : (vtextL RS).length ≤ 4000000000 := by rw [z3.text]; exact unhide HT
      have hpre : ∀ i, (vtextL (RS.take i)).length ≤ 4000000000 := fun i => by
        have e := congrArg List.length (congrArg vtextL (List.take_append_drop i RS))
        rw [vtext_append, List.length_append] at e
        omega
      rw [hNr]
      have HNR := hide hNr
      have HRL := hide hrl
      have HRG := hide hrg
      have HPRE := hide hpre
      have HTX := hide htx
      have HZR := hide zr
      have HZA := hide z2
      have HZS := hide z3
      have HB2 := hide (low_trans (unhide HBW) b2)
      clear z1 z2 z3 b2 zr hNr hRS hrl hrg hpre htx HIO
      go_wp2
      go_loopw [7, 8, 9] (fun v7 v8 _ wq => ∃ i q : Nat, i ≤ N ∧ v8 = .int .i64 i ∧ v7 = .string (ba (vtextL (RS.take i))) ∧ wq = W2.drewN q) (fun _ v8 _ _ => N - (intOf v8).toNat)
      case atStart => exact ⟨0, 0, Nat.zero_le _, rfl, rfl, rfl⟩
      case round =>
        rename World => wq
        obtain ⟨j, nq0, hj, rfl, rfl, hwq⟩ := hrel
        have HWQ := hide hwq
        by_cases hjt : j < N
        · have hjr : j < rs.length := by rw [unhide HNR]; exact hjt
          obtain ⟨B2, O2, rfl, c1, c2, c3, c4⟩ := (unhide HZR).at hjr
          have hsr := unhide HZA _ (List.getElem_mem hjr)
          have htt := text_take (rs := RS) (i := j) (by rw [unhide HRL]; exact hjt)
          rw [unhide HRG j (by rw [unhide HRL]; exact hjt) hjr] at htt
          have hb1 := unhide HPRE (j + 1)
          have hb0 := unhide HPRE j
          obtain ⟨z, hz⟩ : ∃ z, rs[j] = z := ⟨_, rfl⟩
          rw [hz] at c1 c2 c3 c4 hsr htt
          obtain ⟨⟨⟨p, v⟩, x, pk⟩, sv⟩ := z
          simp only at c1 c2 c3 c4 hsr htt
          obtain ⟨sa, sc, rfl, hrs⟩ := hsr.at
          obtain ⟨pn, hpn⟩ : ∃ pn, pk.length = pn := ⟨_, rfl⟩
          rw [hpn] at c4
          have d1 : wq.cell? ⟨B2, O2 + j * 4, none⟩ = some (.string (ba p)) := by rw [hwq]; exact c1
          have d2 : wq.cell? ⟨B2, O2 + j * 4 + 1, none⟩ = some (.string (ba v)) := by rw [hwq]; exact c2
          have C3 := hide c3
          have C4 := hide c4
          have HRS := hide hrs
          have HPN := hide hpn
          obtain ⟨T, hTT⟩ : ∃ T, vtextL (RS.take j) = T := ⟨_, rfl⟩
          rw [hTT] at htt hb0
          rw [htt] at hb1
          have HTT := hide htt
          have htop : (topT ⟨(p, v), x, pk⟩).length = p.length + v.length + 4 + (if x = true then explL ++ [10] else []).length := by
            unfold topT headT
            simp
            omega
          have hsz5 : T.length + p.length + v.length + 4 + 12 ≤ 4000000012 ∧ (x = true → T.length + p.length + v.length + 4 + 12 ≤ 4000000000) := by
            rw [List.length_append, List.length_append, htop] at hb1
            refine ⟨by omega, fun hx => ?_⟩
            rw [if_pos hx] at hb1
            have : (explL ++ [10]).length = 12 := rfl
            omega
          obtain ⟨T1, hT1⟩ : ∃ T1, T ++ [35, 32] = T1 := ⟨_, rfl⟩
          obtain ⟨T2, hT2⟩ : ∃ T2, T1 ++ p = T2 := ⟨_, rfl⟩
          obtain ⟨T3, hT3⟩ : ∃ T3, T2 ++ [32] = T3 := ⟨_, rfl⟩
          obtain ⟨T4, hT4⟩ : ∃ T4, T3 ++ v = T4 := ⟨_, rfl⟩
          obtain ⟨T5, hT5⟩ : ∃ T5, T4 ++ [10] = T5 := ⟨_, rfl⟩
          have j1 : ba T ++ ⟨#[35, 32]⟩ = ba T1 := by rw [← hT1]; exact ba_app T [35, 32]
          have j2 : ba T1 ++ ba p = ba T2 := by rw [← hT2]; exact ba_app T1 p
          have j3 : ba T2 ++ ⟨#[32]⟩ = ba T3 := by rw [← hT3]; exact ba_app T2 [32]
          have j4 : ba T3 ++ ba v = ba T4 := by rw [← hT4]; exact ba_app T3 v
          have j5 : ba T4 ++ ⟨#[10]⟩ = ba T5 := by rw [← hT5]; exact ba_app T4 [10]
          have s1 : T1.length = T.length + 2 := by rw [← hT1]; simp
          have s2 : T2.length = T.length + 2 + p.length := by rw [← hT2, List.length_append, s1]
          have s3 : T3.length = T.length + 3 + p.length := by rw [← hT3, List.length_append, s2]; simp; omega
          have s4 : T4.length = T.length + 3 + p.length + v.length := by rw [← hT4, List.length_append, s3]
          have s5 : T5.length = T.length + 4 + p.length + v.length := by rw [← hT5, List.length_append, s4]; simp; omega
          have z0 := ba_size T
          have zp := ba_size p
          have zv := ba_size v
          have z1 := (ba_size T1).trans s1
          have z2 := (ba_size T2).trans s2
          have z3 := (ba_size T3).trans s3
          have z4 := (ba_size T4).trans s4
          have z5 := (ba_size T5).trans s5
          have HT5 : Hid (T5 = T ++ (headT (p, v) ++ [10])) := hide (by rw [← hT5, ← hT4, ← hT3, ← hT2, ← hT1]; unfold headT; simp)
          rw [hTT]
          have HB1 := hide hb1
          have HSZ := hide hsz5
          have hs5a := hsz5.1
          clear hTT htt hb1 hz hsr hrs hpn c1 c2 c3 c4 hT1 hT2 hT3 hT4 hT5 s1 s2 s3 s4 htop hsz5 hwq
          go_wp2
          go_quiet (fail)
          rename Nat => nq1
          obtain ⟨wz, hwz⟩ : ∃ wz, wq.drewN nq1 = wz := ⟨_, rfl⟩
          have hwz2 : wz = W2.drewN (nq0 + nq1) := by rw [← hwz, unhide HWQ, World.drewN_drewN]
          rw [hwz]
          have d3 : wz.cell? ⟨B2, O2 + j * 4 + 2, none⟩ = some (.bool x) := by rw [hwz2]; exact unhide C3
          have d4 : wz.cell? ⟨B2, O2 + j * 4 + 3, none⟩ = some (.slice sa pn sc) := by rw [hwz2]; exact unhide C4
          have HRZ : Hid (RowS wz sa pk) := hide (by
            rw [hwz2]
            rcases unhide HRS with h | ⟨B3, O3, h1, h2, h3⟩
            · exact Or.inl h
            · exact Or.inr ⟨B3, O3, h1, h2, h3⟩)
          have HWZ := hide hwz2
          clear hwz hwz2 d1 d2 j1 j2 j3 j4 j5 z1 z2 z3 z4 zp zv z0
          cases x with
          | true =>
            have s6 := (unhide HSZ).2 rfl
            obtain ⟨T6, hT6⟩ : ∃ T6, T5 ++ (explL ++ [10]) = T6 := ⟨_, rfl⟩
            have j6 : ba T5 ++ ⟨#[35, 35, 32, 101, 120, 112, 108, 105, 99, 105, 116, 10]⟩ = ba T6 := by rw [← hT6]; exact ba_app T5 (explL ++ [10])
            have HT6 : Hid (T6 = T ++ topT ⟨(p, v), true, pk⟩) := hide (by rw [← hT6, unhide HT5]; unfold topT; simp)
            clear hT6
            have hb6 : (T6 ++ frontL pk).length ≤ 4000000000 := by rw [unhide HT6]; exact unhide HB1
            have hpf : ∀ k, (T6 ++ frontL (pk.take k)).length ≤ (T6 ++ frontL pk).length := fun k => by
              have := front_len pk k
              simp only [List.length_append]
              omega
            have HPF := hide hpf
            have HB6 := hide hb6
            have hpnb : pn ≤ 4000000000 := by
              have h1 := front_count pk
              rw [unhide HPN] at h1
              rw [List.length_append] at hb6
              omega
            clear hpf hb6
            go_wp2
            go_loopw [7, 9] (fun v7 v9 wy => ∃ k : Nat, k ≤ pn ∧ v9 = .int .i64 k ∧ v7 = .string (ba (T6 ++ frontL (pk.take k))) ∧ wy = wz) (fun _ v9 _ => pn - (intOf v9).toNat)
            case atStart => exact ⟨0, Nat.zero_le _, rfl, by simp [frontL], rfl⟩
            case round =>
              rename World => wy
              obtain ⟨k, hk, rfl, rfl, hwy⟩ := hrel
              subst hwy
              by_cases hkt : k < pn
              · have hkp : k < pk.length := by rw [unhide HPN]; exact hkt
                obtain ⟨B4, O4, rfl, e1⟩ := (unhide HRZ).at hkp
                have hft := front_take hkp
                have hl1 := unhide HPF (k + 1)
                have hl6 := unhide HB6
                obtain ⟨q, hq⟩ : ∃ q, pk[k] = q := ⟨_, rfl⟩
                rw [hq] at e1 hft
                rw [hft] at hl1
                obtain ⟨X, hX⟩ : ∃ X, T6 ++ frontL (pk.take k) = X := ⟨_, rfl⟩
                have hX3 : T6 ++ ((frontL (pk.take k) ++ q) ++ [10]) = (X ++ q) ++ [10] := by rw [← hX]; simp
                rw [hX3] at hl1
                have HFT : Hid (T6 ++ frontL (pk.take (k + 1)) = (X ++ q) ++ [10]) := hide (by rw [hft, hX3])
                rw [hX]
                obtain ⟨X2, hX2⟩ : ∃ X2, X ++ q = X2 := ⟨_, rfl⟩
                rw [hX2] at hl1 HFT
                obtain ⟨X4, hX4⟩ : ∃ X4, X2 ++ [10] = X4 := ⟨_, rfl⟩
                rw [hX4] at hl1 HFT
                have y1 : ba X ++ ba q = ba X2 := by rw [← hX2]; exact ba_app X q
                have y2 : ba X2 ++ ⟨#[10]⟩ = ba X4 := by rw [← hX4]; exact ba_app X2 [10]
                have u1 : X2.length + 1 = X4.length := by rw [← hX4]; simp
                have u2 : X.length + q.length = X2.length := by rw [← hX2]; simp
                have v1 := ba_size X
                have v2 := ba_size q
                have v3 := ba_size X2
                clear hq hft hX hX3 hX2 hX4
                go_wp2
                go_roundw
                case rel => exact ⟨k + 1, hkt, by simp, by rw [unhide HFT], by simp⟩
                case measure => simp [intOf]; omega
              · have hkn : pk.take k = pk := List.take_of_length_le (by rw [unhide HPN]; omega)
                have HFT : Hid (T6 ++ frontL (pk.take k) = vtextL (RS.take (j + 1))) := hide (by rw [hkn, unhide HTT, unhide HT6])
                rw [unhide HFT]
                clear hkn
                go_wp2
                go_roundw
                case rel => exact ⟨j + 1, nq0 + nq1, hjt, by simp, rfl, unhide HWZ⟩
                case measure => simp [intOf]; omega
          | false =>
            obtain ⟨T6, hT6⟩ : ∃ T6, T5 = T6 := ⟨_, rfl⟩
            have HT6 : Hid (T6 = T ++ topT ⟨(p, v), false, pk⟩) := hide (by rw [← hT6, unhide HT5]; unfold topT; simp)
            subst hT6
            have hb6 : (T5 ++ frontL pk).length ≤ 4000000000 := by rw [unhide HT6]; exact unhide HB1
            have hpf : ∀ k, (T5 ++ frontL (pk.take k)).length ≤ (T5 ++ frontL pk).length := fun k => by
              have := front_len pk k
              simp only [List.length_append]
              omega
            have HPF := hide hpf
            have HB6 := hide hb6
            have hpnb : pn ≤ 4000000000 := by
              have h1 := front_count pk
              rw [unhide HPN] at h1
              rw [List.length_append] at hb6
              omega
            clear hpf hb6
            go_wp2
            go_loopw [7, 9] (fun v7 v9 wy => ∃ k : Nat, k ≤ pn ∧ v9 = .int .i64 k ∧ v7 = .string (ba (T5 ++ frontL (pk.take k))) ∧ wy = wz) (fun _ v9 _ => pn - (intOf v9).toNat)
            case atStart => exact ⟨0, Nat.zero_le _, rfl, by simp [frontL], rfl⟩
            case round =>
              rename World => wy
              obtain ⟨k, hk, rfl, rfl, hwy⟩ := hrel
              subst hwy
              by_cases hkt : k < pn
              · have hkp : k < pk.length := by rw [unhide HPN]; exact hkt
                obtain ⟨B4, O4, rfl, e1⟩ := (unhide HRZ).at hkp
                have hft := front_take hkp
                have hl1 := unhide HPF (k + 1)
                have hl6 := unhide HB6
                obtain ⟨q, hq⟩ : ∃ q, pk[k] = q := ⟨_, rfl⟩
                rw [hq] at e1 hft
                rw [hft] at hl1
                obtain ⟨X, hX⟩ : ∃ X, T5 ++ frontL (pk.take k) = X := ⟨_, rfl⟩
                have hX3 : T5 ++ ((frontL (pk.take k) ++ q) ++ [10]) = (X ++ q) ++ [10] := by rw [← hX]; simp
                rw [hX3] at hl1
                have HFT : Hid (T5 ++ frontL (pk.take (k + 1)) = (X ++ q) ++ [10]) := hide (by rw [hft, hX3])
                rw [hX]
                obtain ⟨X2, hX2⟩ : ∃ X2, X ++ q = X2 := ⟨_, rfl⟩
                rw [hX2] at hl1 HFT
                obtain ⟨X4, hX4⟩ : ∃ X4, X2 ++ [10] = X4 := ⟨_, rfl⟩
                rw [hX4] at hl1 HFT
                have y1 : ba X ++ ba q = ba X2 := by rw [← hX2]; exact ba_app X q
                have y2 : ba X2 ++ ⟨#[10]⟩ = ba X4 := by rw [← hX4]; exact ba_app X2 [10]
                have u1 : X2.length + 1 = X4.length := by rw [← hX4]; simp
                have u2 : X.length + q.length = X2.length := by rw [← hX2]; simp
                have v1 := ba_size X
                have v2 := ba_size q
                have v3 := ba_size X2
                clear hq hft hX hX3 hX2 hX4
                go_wp2
                go_roundw
                case rel => exact ⟨k + 1, hkt, by simp, by rw [unhide HFT], by simp⟩
                case measure => simp [intOf]; omega
              · have hkn : pk.take k = pk := List.take_of_length_le (by rw [unhide HPN]; omega)
                have HFT : Hid (T5 ++ frontL (pk.take k) = vtextL (RS.take (j + 1))) := hide (by rw [hkn, unhide HTT, unhide HT6])
                rw [unhide HFT]
                clear hkn
                go_wp2
                go_roundw
                case rel => exact ⟨j + 1, nq0 + nq1, hjt, by simp, rfl, unhide HWZ⟩
                case measure => simp [intOf]; omega
        · have hjn : RS.take j = RS := List.take_of_length_le (by rw [unhide HRL]; omega)
          obtain ⟨TX, hTX⟩ : ∃ TX, vtextL RS = TX := ⟨_, rfl⟩
          rw [hjn, hTX]
          have zx := ba_size TX
          have hxl := unhide HTX
          rw [hTX] at hxl
          have HX := hide hTX
          have HBZ : Hid (Below w.heap.size w wq) := hide (by rw [unhide HWQ]; exact low_drewN (unhide HB2) _)
          clear hjn hTX hwq
          by_cases hbig : 65536 < TX.length
          · have hq : (65536 : Int) < (TX.length : Int) := by omega
            have HD : Hid (VFOut LS [] 13) := hide (Or.inr ⟨unhide H0, RS, unhide HZS, Or.inl ⟨by rw [unhide HX]; exact hbig, rfl, rfl⟩⟩)
            clear hbig
            go_wp2
            go_ret2
            exact ⟨[], 13, rfl, unhide HD, unhide HBZ⟩
          · have hq : ¬ (65536 : Int) < (TX.length : Int) := by omega
            have HD : Hid (VFOut LS TX 0) := hide (Or.inr ⟨unhide H0, RS, unhide HZS, Or.inr ⟨by rw [unhide HX]; omega, rfl, (unhide HX).symm⟩⟩)
            clear hbig
            go_wp2
            go_ret2
            exact ⟨TX, 0, rfl, unhide HD, unhide HBZ⟩

end Go.Proofs.YthcafeoamabkgaaGreatDoor
