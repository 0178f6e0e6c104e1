/-
  SumfileFronts, where what is handed in is looked at.
-/
import Derived.Test.YthcafeoamabkgaaGreatDoorFronts
namespace Go.Proofs.YthcafeoamabkgaaGreatDoor
open Go.RowKit Go.WideMaps Go.Maps

theorem u8_bne {c : UInt8} {k : Nat} (hk : k < 256) (h : c ≠ UInt8.ofNat k) : ((c.toNat : Int) != (k : Int)) = true := by
  have := u8_ne hk h
  simpa using this

set_option maxRecDepth 100000 in
set_option maxHeartbeats 8000000 in
theorem fronts_in {w : World} {a : Option Addr} {n c : Nat} {ts : List Str} {path more : Str} (hg : Gd w) (ht : Row w a ts) (hn : ts.length = n) (h1 : n ≤ 30) (h2 : path.length ≤ 200) (h3 : more.length ≤ 200) (h4 : ¬ path = []) :
    Calls Tryz.prog 9 #[.slice a n c, .string (ba path), .string (ba more)] w fun e w' => e = .returned (.bool true) ∧ Below w.heap.size w w' := by
  have HF := hide (first_any hg)
  have s1 := ba_size path
  have s2 := ba_size more
  have HG := hide hg
  have HT := hide ht
  have HN := hide hn
  have q1 : ¬ (30 : Int) < (n : Int) := by omega
  have q2 : ¬ (200 : Int) < (path.length : Int) := by omega
  have q3 : ¬ (200 : Int) < (more.length : Int) := by omega
  have q4 := ba_ne h4
  have j1 : ba path ++ ⟨#[47]⟩ = ba (path ++ [47]) := ba_app path [47]
  have j2 : ba (path ++ [47]) ++ ba more = ba (path ++ 47 :: more) := by rw [ba_app]; simp
  have s3 : (ba (path ++ [47])).size = path.length + 1 := by rw [ba_size]; simp
  have H4 := hide h4
  clear hg ht hn h4
  go_enter Tryz.func9, Tryz.ntmps9
  go_wp2_with (go_at_call 11; fail)
  refine (unhide HF).mono ?_
  rintro e w1 ⟨rfl, b1⟩
  have HB := hide b1
  clear b1 HF
  go_wp2
  go_loopw [8, 9, 10, 11, 12, 13] (fun v8 v9 _ _ _ _ wr => ∃ k : Nat, k ≤ n ∧ v9 = .int .i64 k ∧ v8 = .bool ((ts.take k).any (matchF (pieces 47 path))) ∧ Below w.heap.size w wr ∧ ∀ y ∈ ts.take k, y.length ≤ 200) (fun _ v9 _ _ _ _ _ => n - (intOf v9).toNat)
  case atStart => exact ⟨0, Nat.zero_le _, rfl, by simp, unhide HB, by simp⟩
  case round =>
    obtain ⟨k, hk, rfl, rfl, hlow, hshort⟩ := hrel
    have HS := hide hshort
    clear hshort
    rename World => wr
    have HL := hide hlow
    clear hlow HB
    by_cases hlt : k < n
    · have hkt : k < ts.length := by rw [unhide HN]; exact hlt
      obtain ⟨B, O, ha, he⟩ : ∃ B O, a = some ⟨B, O, none⟩ ∧ ∀ k (hk : k < ts.length), wr.cell? ⟨B, O + k, none⟩ = some (.string (ba ts[k])) := by
        rcases ((unhide HT).low (unhide HL)).els with h | h
        · rw [h] at hkt; simp at hkt
        · exact h
      subst ha
      have t0 := he k hkt
      obtain ⟨x, hx⟩ : ∃ x, ts[k] = x := ⟨_, rfl⟩
      rw [hx] at t0
      have sx := ba_size x
      have HX : Hid ((ts.take (k + 1)).any (matchF (pieces 47 path)) = ((ts.take k).any (matchF (pieces 47 path)) || matchF (pieces 47 path) x)) := by rw [← hx]; exact any_next hkt
      obtain ⟨one, hone⟩ : ∃ one, (ts.take k).any (matchF (pieces 47 path)) = one := ⟨_, rfl⟩
      rw [hone] at HX ⊢
      have HS1 : Hid (x.length ≤ 200 → ∀ y ∈ ts.take (k + 1), y.length ≤ 200) := by
        intro hxl y hy
        rw [List.take_add_one, List.mem_append] at hy
        rcases hy with h | h
        · exact (unhide HS) y h
        · rw [List.getElem?_eq_getElem hkt, hx] at h
          simp at h
          rw [h]; exact hxl
      clear he hx hone
      by_cases hxl : 200 < x.length
      · have q5 : (200 : Int) < (x.length : Int) := by omega
        go_wp2
        go_ret
        exact ⟨rfl, unhide HL⟩
      · have q5 : ¬ (200 : Int) < (x.length : Int) := by omega
        have HS1 := hide ((unhide HS1) (by omega))
        have j3 : ba x ++ ⟨#[47]⟩ = ba (x ++ [47]) := ba_app x [47]
        obtain ⟨W, hW⟩ : ∃ W, wr.alloc (.cells #[.string (ba x)] 9) = W := ⟨_, rfl⟩
        have bW : Below wr.heap.size wr W := by rw [← hW]; exact (Below.refl _ _).alloc (Nat.le_refl _) _
        have GW := hide (((unhide HG).low (unhide HL)).low bW)
        have HM := hide (match_any (c := 1) (path := path) (unhide GW) (by rw [← hW]; exact row_one wr x (0, 0)) rfl (by simp) (by intro y hy; simp at hy; subst hy; omega) (by omega))
        rw [matchL_one] at HM
        have tW : W.cell? ⟨B, O + k, none⟩ = some (.string (ba x)) := (bW.cell (p := ⟨B, O + k, none⟩) (lt_of_cell t0)).trans t0
        have TW := hide tW
        have BW := hide (low_trans (unhide HL) bW)
        have HW := hide hW
        clear tW bW hW
        cases hmf : matchF (pieces 47 path) x with
        | true =>
          rw [hmf] at HM HX
          have HMF := hide hmf
          have HMR := hide (matchF_more (more := more) hmf)
          clear hmf
          cases one
          all_goals
            go_wp2_with (go_at_call 41; fail)
            rw [unhide HW]
            refine (unhide HM).mono ?_
            rintro e w2 ⟨rfl, b2⟩
            have t2 : w2.cell? ⟨B, O + k, none⟩ = some (.string (ba x)) := (b2.cell (p := ⟨B, O + k, none⟩) (lt_of_cell (unhide TW))).trans (unhide TW)
            have B2 := hide (low_trans (unhide BW) b2)
            have G2 := hide ((unhide GW).low b2)
            clear b2
            obtain ⟨V, hV⟩ : ∃ V, w2.alloc (.cells #[.string (ba x)] 9) = V := ⟨_, rfl⟩
            have bV : Below w2.heap.size w2 V := by rw [← hV]; exact (Below.refl _ _).alloc (Nat.le_refl _) _
            have HM2 := hide (match_any (c := 1) (path := path ++ 47 :: more) ((unhide G2).low bV) (by rw [← hV]; exact row_one w2 x (0, 0)) rfl (by simp) (by intro y hy; simp at hy; subst hy; omega) (by simp; omega))
            rw [matchL_one, unhide HMR] at HM2
            have TV := hide ((bV.cell (p := ⟨B, O + k, none⟩) (lt_of_cell t2)).trans t2)
            have BV := hide (low_trans (unhide B2) bV)
            have HV := hide hV
            clear bV hV
            go_wp2_with (go_at_call 41; fail)
            rw [unhide HV]
            refine (unhide HM2).mono ?_
            rintro e wz ⟨rfl, b3⟩
            have tz : wz.cell? ⟨B, O + k, none⟩ = some (.string (ba x)) := (b3.cell (p := ⟨B, O + k, none⟩) (lt_of_cell (unhide TV))).trans (unhide TV)
            have BZ := hide (low_trans (unhide BV) b3)
            clear b3 TW BW HW HM TV BV HV HM2 t2 t0
            go_wp2
            go_loop [11, 12] (fun v11 v12 => ∃ j : Nat, j ≤ x.length ∧ v12 = .int .i64 j ∧ v11 = .bool (plB x j)) (fun _ v12 => x.length - (intOf v12).toNat)
            case atStart => exact ⟨0, Nat.zero_le _, rfl, by rw [plB_zero]⟩
            case round =>
              obtain ⟨j, hj, rfl, rfl⟩ := hrel
              by_cases hjl : j < x.length
              · have gx : (ba x)[j]'(by omega) = x[j] := ba_get x j hjl
                have hnx := plB_next hjl
                obtain ⟨d, hd⟩ : ∃ d, x[j] = d := ⟨_, rfl⟩
                rw [hd] at gx hnx
                cases hpb : plB x j with
                | false =>
                  rw [hpb] at hnx
                  have HNX := hide hnx
                  clear hnx hd
                  go_wp2
                  go_round
                  case rel => exact ⟨j + 1, hjl, by simp, by rw [unhide HNX]; simp⟩
                  case measure => simp [intOf]; omega
                | true =>
                  rw [hpb] at hnx
                  by_cases d1 : d = 42
                  · have e1 : ((d.toNat : Int) != 42) = false := by rw [d1]; rfl
                    have HNX : Hid (plB x (j + 1) = false) := by rw [hnx, d1]; rfl
                    clear hnx hd d1
                    go_wp2
                    go_round
                    case rel => exact ⟨j + 1, hjl, by simp, by rw [unhide HNX]⟩
                    case measure => simp [intOf]; omega
                  · have e1 : ((d.toNat : Int) != 42) = true := u8_bne (k := 42) (by omega) d1
                    by_cases d2 : d = 63
                    · have e2 : ((d.toNat : Int) != 63) = false := by rw [d2]; rfl
                      have HNX : Hid (plB x (j + 1) = false) := by rw [hnx, d2]; rfl
                      clear hnx hd d1 d2
                      go_wp2
                      go_round
                      case rel => exact ⟨j + 1, hjl, by simp, by rw [unhide HNX]⟩
                      case measure => simp [intOf]; omega
                    · have e2 : ((d.toNat : Int) != 63) = true := u8_bne (k := 63) (by omega) d2
                      have HNX : Hid (plB x (j + 1) = true) := hide (by rw [hnx]; simp [d1, d2])
                      clear hnx hd d1 d2
                      go_wp2
                      go_round
                      case rel => exact ⟨j + 1, hjl, by simp, by rw [unhide HNX]⟩
                      case measure => simp [intOf]; omega
              · have hje : j = x.length := by omega
                subst hje
                have HQ := hide (glob_any (P := x) (S := x) (by omega) (by omega))
                have HE := hide (begins_any path (x ++ [47]))
                by_cases hpx : path = x
                · have e3 : ((ba path).toList == (ba x).toList) = true := by rw [hpx]; simp
                  cases hpl : plB x x.length with
                  | true =>
                    have hr : matchR x x = true := by rw [match_plain (plB_end hpl)]; simp
                    have HPM : Hid (matchF (pieces 47 path) x = true) := hide (by rw [matchF_plain (plB_end hpl), hpx]; simp)
                    rw [hr] at HQ
                    clear hr hpx
                    go_wp2
                    go_quiet ((go_at_call 39; exact Calls.quiet_of (unhide HQ _)))
                    go_wp2
                    go_roundw
                    case rel => exact ⟨k + 1, hlt, by simp, by rw [unhide HX]; rfl, low_drewN (unhide BZ) nq, unhide HS1⟩
                    case measure => simp [intOf]; omega
                  | false =>
                    obtain ⟨r, hr⟩ : ∃ r, matchR x x = r := ⟨_, rfl⟩
                    rw [hr] at HQ
                    clear hr hpx
                    cases r
                    all_goals
                      go_wp2
                      go_quiet ((go_at_call 39; exact Calls.quiet_of (unhide HQ _)))
                      go_wp2
                      go_roundw
                      case rel => exact ⟨k + 1, hlt, by simp, by rw [unhide HX]; rfl, low_drewN (unhide BZ) nq, unhide HS1⟩
                      case measure => simp [intOf]; omega
                · have e3 : ((ba path).toList == (ba x).toList) = false := by rw [ba_list, ba_list]; simpa using hpx
                  obtain ⟨bg, hbg⟩ : ∃ bg, (x ++ [47]).isPrefixOf path = bg := ⟨_, rfl⟩
                  rw [hbg] at HE
                  cases hpl : plB x x.length with
                  | true =>
                    have hr : matchR x x = true := by rw [match_plain (plB_end hpl)]; simp
                    have hbm : bg = true := by
                      have := matchF_plain (path := path) (plB_end hpl)
                      rw [unhide HMF, hbg] at this
                      simpa [hpx] using this.symm
                    subst hbm
                    rw [hr] at HQ
                    clear hr hpx hbg
                    go_wp2_with (go_at_call 43; refine (unhide HE _).mono ?_; rintro e w9 ⟨rfl, hw⟩; rw [hw]; clear hw w9)
                    go_quiet ((go_at_call 39; exact Calls.quiet_of (unhide HQ _)))
                    go_wp2
                    go_roundw
                    case rel => exact ⟨k + 1, hlt, by simp, by rw [unhide HX]; rfl, low_drewN (unhide BZ) nq, unhide HS1⟩
                    case measure => simp [intOf]; omega
                  | false =>
                    obtain ⟨r, hr⟩ : ∃ r, matchR x x = r := ⟨_, rfl⟩
                    rw [hr] at HQ
                    clear hr hpx hbg
                    cases r
                    all_goals
                      go_wp2_with (go_at_call 43; refine (unhide HE _).mono ?_; rintro e w9 ⟨rfl, hw⟩; rw [hw]; clear hw w9)
                      go_quiet ((go_at_call 39; exact Calls.quiet_of (unhide HQ _)))
                      go_wp2
                      go_roundw
                      case rel => exact ⟨k + 1, hlt, by simp, by rw [unhide HX]; rfl, low_drewN (unhide BZ) nq, unhide HS1⟩
                      case measure => simp [intOf]; omega
        | false =>
          rw [hmf] at HM HX
          have HMF := hide hmf
          clear hmf
          cases one
          all_goals
            go_wp2_with (go_at_call 41; fail)
            rw [unhide HW]
            refine (unhide HM).mono ?_
            rintro e wz ⟨rfl, b2⟩
            have tz : wz.cell? ⟨B, O + k, none⟩ = some (.string (ba x)) := (b2.cell (p := ⟨B, O + k, none⟩) (lt_of_cell (unhide TW))).trans (unhide TW)
            have BZ := hide (low_trans (unhide BW) b2)
            clear b2 TW BW HW HM t0
            go_wp2
            go_loop [11, 12] (fun v11 v12 => ∃ j : Nat, j ≤ x.length ∧ v12 = .int .i64 j ∧ v11 = .bool (plB x j)) (fun _ v12 => x.length - (intOf v12).toNat)
            case atStart => exact ⟨0, Nat.zero_le _, rfl, by rw [plB_zero]⟩
            case round =>
              obtain ⟨j, hj, rfl, rfl⟩ := hrel
              by_cases hjl : j < x.length
              · have gx : (ba x)[j]'(by omega) = x[j] := ba_get x j hjl
                have hnx := plB_next hjl
                obtain ⟨d, hd⟩ : ∃ d, x[j] = d := ⟨_, rfl⟩
                rw [hd] at gx hnx
                cases hpb : plB x j with
                | false =>
                  rw [hpb] at hnx
                  have HNX := hide hnx
                  clear hnx hd
                  go_wp2
                  go_round
                  case rel => exact ⟨j + 1, hjl, by simp, by rw [unhide HNX]; simp⟩
                  case measure => simp [intOf]; omega
                | true =>
                  rw [hpb] at hnx
                  by_cases d1 : d = 42
                  · have e1 : ((d.toNat : Int) != 42) = false := by rw [d1]; rfl
                    have HNX : Hid (plB x (j + 1) = false) := by rw [hnx, d1]; rfl
                    clear hnx hd d1
                    go_wp2
                    go_round
                    case rel => exact ⟨j + 1, hjl, by simp, by rw [unhide HNX]⟩
                    case measure => simp [intOf]; omega
                  · have e1 : ((d.toNat : Int) != 42) = true := u8_bne (k := 42) (by omega) d1
                    by_cases d2 : d = 63
                    · have e2 : ((d.toNat : Int) != 63) = false := by rw [d2]; rfl
                      have HNX : Hid (plB x (j + 1) = false) := by rw [hnx, d2]; rfl
                      clear hnx hd d1 d2
                      go_wp2
                      go_round
                      case rel => exact ⟨j + 1, hjl, by simp, by rw [unhide HNX]⟩
                      case measure => simp [intOf]; omega
                    · have e2 : ((d.toNat : Int) != 63) = true := u8_bne (k := 63) (by omega) d2
                      have HNX : Hid (plB x (j + 1) = true) := hide (by rw [hnx]; simp [d1, d2])
                      clear hnx hd d1 d2
                      go_wp2
                      go_round
                      case rel => exact ⟨j + 1, hjl, by simp, by rw [unhide HNX]⟩
                      case measure => simp [intOf]; omega
              · have hje : j = x.length := by omega
                subst hje
                have HQ := hide (glob_any (P := x) (S := x) (by omega) (by omega))
                have HE := hide (begins_any path (x ++ [47]))
                by_cases hpx : path = x
                · have e3 : ((ba path).toList == (ba x).toList) = true := by rw [hpx]; simp
                  cases hpl : plB x x.length with
                  | true =>
                    have hr : matchR x x = true := by rw [match_plain (plB_end hpl)]; simp
                    have HPM : Hid (matchF (pieces 47 path) x = true) := hide (by rw [matchF_plain (plB_end hpl), hpx]; simp)
                    rw [hr] at HQ
                    clear hr hpx
                    exact absurd ((unhide HPM).symm.trans (unhide HMF)) (by decide)
                  | false =>
                    obtain ⟨r, hr⟩ : ∃ r, matchR x x = r := ⟨_, rfl⟩
                    rw [hr] at HQ
                    clear hr hpx
                    cases r
                    all_goals
                      go_wp2
                      go_quiet ((go_at_call 39; exact Calls.quiet_of (unhide HQ _)))
                      go_wp2
                      go_roundw
                      case rel => exact ⟨k + 1, hlt, by simp, by rw [unhide HX]; rfl, low_drewN (unhide BZ) nq, unhide HS1⟩
                      case measure => simp [intOf]; omega
                · have e3 : ((ba path).toList == (ba x).toList) = false := by rw [ba_list, ba_list]; simpa using hpx
                  obtain ⟨bg, hbg⟩ : ∃ bg, (x ++ [47]).isPrefixOf path = bg := ⟨_, rfl⟩
                  rw [hbg] at HE
                  cases hpl : plB x x.length with
                  | true =>
                    have hr : matchR x x = true := by rw [match_plain (plB_end hpl)]; simp
                    have hbm : bg = false := by
                      have := matchF_plain (path := path) (plB_end hpl)
                      rw [unhide HMF, hbg] at this
                      simpa [hpx] using this.symm
                    subst hbm
                    rw [hr] at HQ
                    clear hr hpx hbg
                    go_wp2_with (go_at_call 43; refine (unhide HE _).mono ?_; rintro e w9 ⟨rfl, hw⟩; rw [hw]; clear hw w9)
                    go_quiet ((go_at_call 39; exact Calls.quiet_of (unhide HQ _)))
                    go_wp2
                    go_roundw
                    case rel => exact ⟨k + 1, hlt, by simp, by rw [unhide HX]; rfl, low_drewN (unhide BZ) nq, unhide HS1⟩
                    case measure => simp [intOf]; omega
                  | false =>
                    obtain ⟨r, hr⟩ : ∃ r, matchR x x = r := ⟨_, rfl⟩
                    rw [hr] at HQ
                    clear hr hpx hbg
                    cases r
                    all_goals
                      go_wp2_with (go_at_call 43; refine (unhide HE _).mono ?_; rintro e w9 ⟨rfl, hw⟩; rw [hw]; clear hw w9)
                      go_quiet ((go_at_call 39; exact Calls.quiet_of (unhide HQ _)))
                      go_wp2
                      go_roundw
                      case rel => exact ⟨k + 1, hlt, by simp, by rw [unhide HX]; rfl, low_drewN (unhide BZ) nq, unhide HS1⟩
                      case measure => simp [intOf]; omega
    · have hkn : ts.take k = ts := List.take_of_length_le (by rw [unhide HN]; omega)
      rw [hkn] at HS ⊢
      have HM := hide (match_any (c := c) (path := path) ((unhide HG).low (unhide HL)) ((unhide HT).low (unhide HL)) (unhide HN) (by omega) (fun y hy => by have := (unhide HS) y hy; omega) (by omega))
      rw [show matchL ts path = ts.any (matchF (pieces 47 path)) from rfl] at HM
      obtain ⟨one, hone⟩ : ∃ one, ts.any (matchF (pieces 47 path)) = one := ⟨_, rfl⟩
      rw [hone] at HM ⊢
      clear hone hkn
      go_wp2_with (go_at_call 41; fail)
      refine (unhide HM).mono ?_
      rintro e w2 ⟨rfl, b2⟩
      have B2 := hide (low_trans (unhide HL) b2)
      clear b2
      go_wp2
      go_ret
      exact ⟨ret_bool (by simp), unhide B2⟩

end Go.Proofs.YthcafeoamabkgaaGreatDoor
