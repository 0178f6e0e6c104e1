/-
  The reference's CheckPath: the contract.
-/
import Derived.Test.YtcmafidnaojkiaaGreatDoorRefJ
namespace Go.Proofs.YtcmafidnaojkiaaGreatDoor
open Go.RowKit

theorem getD_at {ps : List Str} {k : Nat} (h : k < ps.length) : ps.getD k [] = ps[k] := by simp [List.getD, h]

theorem pathR_in {p : Str} (h : ¬ 100 < p.length) : pathR p = if !(pieces 47 p).all (elemB pathB) || !hostOk (ahead 47 p) then 9 else if decide ((majorR p).2 = 0) && looksB p then 10 else 0 := by
  unfold pathR
  rw [if_neg h]; rfl

theorem elem_some {q : UInt8 → Bool} {l : Str} (h : elemB q l = true) : 0 < l.length ∧ l.all q = true := by
  unfold elemB at h
  simp only [Bool.and_eq_true, Bool.not_eq_true'] at h
  refine ⟨?_, h.1.1.2⟩
  cases l with
  | nil => simp at h
  | cons a t => simp

set_option maxHeartbeats 4000000 in
theorem refPath_any (p : Str) (w : World) : Gives 32 #[.string (ba p)] w (.int .i64 (pathR p : Int)) := by
  unfold Gives
  have hsz : (ba p).size = p.length := ba_size p
  by_cases hl : 100 < p.length
  · have HN : Hid (13 = pathR p) := by show 13 = pathR p; unfold pathR; rw [if_pos hl]
    go_enter Tryz.func32, Tryz.ntmps32
    go_wp2
    go_ret
    exact ⟨ret_num (unhide HN), Below.refl _ _⟩
  · have HN := hide (pathR_in hl)
    have hpb := pieces_bound (c := 47) (l := p) (by omega)
    obtain ⟨n, hn⟩ : ∃ n, (pieces 47 p).length = n + 1 := ⟨(pieces 47 p).length - 1, by have := List.length_pos_iff.2 (pieces_ne 47 p); omega⟩
    have hten := path_ten hn
    have hfst := pieces_first 47 p (by omega)
    rw [← hfst] at HN
    obtain ⟨ps, hps⟩ : ∃ ps, pieces 47 p = ps := ⟨_, rfl⟩
    have HN : Hid (pathR p = if !ps.all (elemB pathB) || !hostOk (ps.getD 0 []) then 9 else if decide (0 < n) && Lib.hasPrefix (ps.getD n []) [118] && digitsB ((ps.getD n []).drop 1) && !(sufR (ps.getD n [])).2 then 10 else 0) := by
      have e0 : ps.getD 0 [] = (pieces 47 p)[0] := by rw [← hps, getD_at (by omega)]
      have e1 : ps.getD n [] = (pieces 47 p)[n] := by rw [← hps, getD_at (by omega)]
      show pathR p = _
      rw [e0, e1, ← hten, ← hps]
      exact unhide HN
    rw [hps] at hpb hn
    have hpn := hpb.1
    have HSM := hide hpb.2
    have HPC := hide hps
    clear hpb hps hten hfst
    have l0 : 0 < ps.length := by omega
    have ln : n < ps.length := by omega
    obtain ⟨F, hF⟩ : ∃ F, ps[0] = F := ⟨_, rfl⟩
    obtain ⟨L, hL⟩ : ∃ L, ps[n] = L := ⟨_, rfl⟩
    have HN : Hid (pathR p = if !ps.all (elemB pathB) || !hostOk F then 9 else if decide (0 < n) && Lib.hasPrefix L [118] && digitsB (L.drop 1) && !(sufR L).2 then 10 else 0) := by
      have e0 : ps.getD 0 [] = F := by rw [getD_at l0, hF]
      have e1 : ps.getD n [] = L := by rw [getD_at ln, hL]
      rw [← e0, ← e1]; exact HN
    have lF : F.length ≤ 4294967281 := by rw [← hF]; exact (unhide HSM) _ (List.getElem_mem l0)
    have lL : L.length ≤ 4294967281 := by rw [← hL]; exact (unhide HSM) _ (List.getElem_mem ln)
    have HF0 := hide hF
    have HLn := hide hL
    clear hF hL
    go_enter Tryz.func32, Tryz.ntmps32
    go_wp2_with (go_at_call 53; fail)
    refine (refCut_any 47 (l := p) (by omega) _).mono ?_
    rintro e w1 ⟨B, cp, rfl, tx, hB, b1⟩
    rw [unhide HPC] at tx ⊢
    have HT := hide tx
    clear tx
    go_wp2
    go_loop [4, 5] (fun i _ => ∃ k : Nat, k ≤ n + 1 ∧ i = .int .i64 k ∧ (ps.take k).all (elemB pathB) = true) (fun i _ => n + 1 - (intOf i).toNat)
    case atStart => exact ⟨0, Nat.zero_le _, rfl, rfl⟩
    case round =>
      obtain ⟨k, hk, rfl, hall⟩ := hrel
      have HA := hide hall
      clear hall
      by_cases hltn : k < n + 1
      · have hlt : k < ps.length := by omega
        have hc := (unhide HT) k hlt
        cases hv : elemB pathB ps[k] with
        | false =>
          have HF : Hid (9 = pathR p) := by show 9 = pathR p; rw [unhide HN, all_no hlt hv]; rfl
          have HV := hide hv
          clear hv
          go_wp2_with (go_at_call 82; refine (refElem_is (x := 46) (unhide HV) path_parts ((unhide HSM) _ (List.getElem_mem hlt)) _).mono ?_; rintro e w4 ⟨rfl, hw⟩; rw [hw]; clear hw w4)
          go_ret
          exact ⟨ret_num (unhide HF), b1⟩
        | true =>
          have HF := hide (all_take (unhide HA) hlt hv)
          have HV := hide hv
          clear HA hv
          go_wp2_with (go_at_call 82; refine (refElem_is (x := 46) (unhide HV) path_parts ((unhide HSM) _ (List.getElem_mem hlt)) _).mono ?_; rintro e w4 ⟨rfl, hw⟩; rw [hw]; clear hw w4)
          go_round
          case rel => exact ⟨k + 1, hltn, by simp, unhide HF⟩
          case measure => simp [intOf]; omega
      · have hke : k = n + 1 := by omega
        subst hke
        have hall : ps.all (elemB pathB) = true := by
          have := unhide HA
          rw [← hn, List.take_length] at this
          exact this
        rw [hall] at HN
        have hF1 : elemB pathB F = true := by rw [← unhide HF0]; exact List.all_eq_true.1 hall _ (List.getElem_mem l0)
        have hL1 : elemB pathB L = true := by rw [← unhide HLn]; exact List.all_eq_true.1 hall _ (List.getElem_mem ln)
        have HF1 := hide (elem_some hF1)
        have hL2 := (elem_some hL1).1
        have c0 := (unhide HT) 0 l0
        have cn := (unhide HT) n ln
        rw [unhide HF0] at c0
        rw [unhide HLn] at cn
        clear HA hall hF1 hL1
        cases hh : hostOk F with
        | false =>
          have HF : Hid (9 = pathR p) := by show 9 = pathR p; rw [unhide HN, hh]; rfl
          have HH := hide hh
          clear hh HN
          go_wp2_with (go_at_call 83; refine (refHost_is (unhide HH) (unhide HF1).1 (unhide HF1).2 lF _).mono ?_; rintro e w4 ⟨rfl, hw⟩; rw [hw]; clear hw w4)
          go_ret
          exact ⟨ret_num (unhide HF), b1⟩
        | true =>
          rw [hh] at HN
          have HH := hide hh
          clear hh
          obtain ⟨m, hm⟩ : ∃ m, L.length = m + 1 := ⟨L.length - 1, by omega⟩
          have hsL := ba_size L
          have hg0 := ba_get L 0 hL2
          have hpx : Lib.hasPrefix L [118] = ((L[0].toNat : Int) == 118) := prefix_at 118 hL2
          obtain ⟨u, hu⟩ : ∃ u, L.drop 1 = u := ⟨_, rfl⟩
          have lu : u.length ≤ 4294967281 := by rw [← hu]; simp; omega
          have hx : (ba L).extract 1 (m + 1) = ba u := by rw [sub_of, hu, List.take_of_length_le (by rw [← hu]; simp; omega)]
          obtain ⟨y, ok, hr⟩ : ∃ y ok, sufR L = (y, ok) := ⟨_, _, rfl⟩
          rw [hpx, hu, hr] at HN
          have HR := hide hr
          clear hpx hu hr
          by_cases h1 : 0 < n
          · have h1' : (1 : Int) < (n : Int) + 1 := by omega
            have h1d : decide (0 < n) = true := by simp [h1]
            rw [h1d] at HN
            cases h2 : ((L[0].toNat : Int) == 118) with
            | false =>
              have HF : Hid (0 = pathR p) := by show 0 = pathR p; rw [unhide HN, h2]; simp
              clear HN
              go_wp2_with (first | (go_at_call 83; refine (refHost_is (unhide HH) (unhide HF1).1 (unhide HF1).2 lF _).mono ?_; rintro e w4 ⟨rfl, hw⟩; rw [hw]; clear hw w4) | (go_at_call 78; fail))
              refine (suf_is (unhide HR) (by omega) _).mono ?_
              rintro e w4 ⟨rfl, hw⟩
              rw [hw]
              clear hw w4
              unfold sufV
              go_wp2
              go_ret
              exact ⟨ret_num (unhide HF), b1⟩
            | true =>
              rw [h2] at HN
              cases h3 : digitsB u with
              | false =>
                rw [h3] at HN
                have HG := hide h3
                clear h3
                have HF : Hid (0 = pathR p) := by show 0 = pathR p; rw [unhide HN]; simp
                clear HN
                go_wp2_with (first | (go_at_call 83; refine (refHost_is (unhide HH) (unhide HF1).1 (unhide HF1).2 lF _).mono ?_; rintro e w4 ⟨rfl, hw⟩; rw [hw]; clear hw w4) | (go_at_call 78; fail))
                refine (suf_is (unhide HR) (by omega) _).mono ?_
                rintro e w4 ⟨rfl, hw⟩
                rw [hw]
                clear hw w4
                unfold sufV
                go_wp2_with (go_at_call 84; refine (refDigits_is (unhide HG) lu _).mono ?_; rintro e w4 ⟨rfl, hw⟩; rw [hw]; clear hw w4)
                go_ret
                exact ⟨ret_num (unhide HF), b1⟩
              | true =>
                rw [h3] at HN
                have HG := hide h3
                clear h3
                cases ok with
                | false =>
                  have HF : Hid (10 = pathR p) := by show 10 = pathR p; rw [unhide HN]; simp
                  clear HN
                  go_wp2_with (first | (go_at_call 83; refine (refHost_is (unhide HH) (unhide HF1).1 (unhide HF1).2 lF _).mono ?_; rintro e w4 ⟨rfl, hw⟩; rw [hw]; clear hw w4) | (go_at_call 78; fail))
                  refine (suf_is (unhide HR) (by omega) _).mono ?_
                  rintro e w4 ⟨rfl, hw⟩
                  rw [hw]
                  clear hw w4
                  unfold sufV
                  go_wp2_with (go_at_call 84; refine (refDigits_is (unhide HG) lu _).mono ?_; rintro e w4 ⟨rfl, hw⟩; rw [hw]; clear hw w4)
                  go_ret
                  exact ⟨ret_num (unhide HF), b1⟩
                | true =>
                  have HF : Hid (0 = pathR p) := by show 0 = pathR p; rw [unhide HN]; simp
                  clear HN
                  go_wp2_with (first | (go_at_call 83; refine (refHost_is (unhide HH) (unhide HF1).1 (unhide HF1).2 lF _).mono ?_; rintro e w4 ⟨rfl, hw⟩; rw [hw]; clear hw w4) | (go_at_call 78; fail))
                  refine (suf_is (unhide HR) (by omega) _).mono ?_
                  rintro e w4 ⟨rfl, hw⟩
                  rw [hw]
                  clear hw w4
                  unfold sufV
                  go_wp2_with (go_at_call 84; refine (refDigits_is (unhide HG) lu _).mono ?_; rintro e w4 ⟨rfl, hw⟩; rw [hw]; clear hw w4)
                  go_ret
                  exact ⟨ret_num (unhide HF), b1⟩
          · have h1' : ¬ (1 : Int) < (n : Int) + 1 := by omega
            have h1d : decide (0 < n) = false := by simp [h1]
            rw [h1d] at HN
            have HF : Hid (0 = pathR p) := by show 0 = pathR p; rw [unhide HN]; simp
            clear HN
            go_wp2_with (first | (go_at_call 83; refine (refHost_is (unhide HH) (unhide HF1).1 (unhide HF1).2 lF _).mono ?_; rintro e w4 ⟨rfl, hw⟩; rw [hw]; clear hw w4) | (go_at_call 78; fail))
            refine (suf_is (unhide HR) (by omega) _).mono ?_
            rintro e w4 ⟨rfl, hw⟩
            rw [hw]
            clear hw w4
            unfold sufV
            go_wp2
            go_ret
            exact ⟨ret_num (unhide HF), b1⟩

end Go.Proofs.YtcmafidnaojkiaaGreatDoor
