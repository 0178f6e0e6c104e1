/-
  The reference's CheckImport and CheckPath: the contracts.
-/
import Derived.Test.YtcmafidnaojkiaaGreatDoorRefI
namespace Go.Proofs.YtcmafidnaojkiaaGreatDoor
open Go.RowKit

theorem ret_num {a b : Nat} (h : a = b) : Ending.returned (.int .i64 (a : Int)) = .returned (.int .i64 (b : Int)) := by rw [h]

theorem refImport_any (p : Str) (w : World) : Gives 34 #[.string (ba p)] w (.int .i64 (importR p : Int)) := by
  unfold Gives
  have hsz : (ba p).size = p.length := ba_size p
  by_cases hl : 100 < p.length
  · have HN : Hid (13 = importR p) := by show 13 = importR p; unfold importR; rw [if_pos hl]
    go_enter Tryz.func34, Tryz.ntmps34
    go_wp2
    go_ret
    exact ⟨ret_num (unhide HN), Below.refl _ _⟩
  · have HN : Hid (importR p = if (pieces 47 p).all (elemB importB) then 0 else 9) := by show importR p = _; unfold importR; rw [if_neg hl]; rfl
    have hpb := pieces_bound (c := 47) (l := p) (by omega)
    obtain ⟨ps, hps⟩ : ∃ ps, pieces 47 p = ps := ⟨_, rfl⟩
    rw [hps] at hpb HN
    have hpn := hpb.1
    have HSM := hide hpb.2
    have HPC := hide hps
    clear hpb hps
    go_enter Tryz.func34, Tryz.ntmps34
    go_wp2_with (go_at_call 53; fail)
    refine (refCut_any 47 (l := p) (by omega) _).mono ?_
    rintro e w1 ⟨B, cp, rfl, tx, hB, b1⟩
    rw [unhide HPC] at tx ⊢
    have HT := hide tx
    clear tx
    go_wp2
    go_loop [4, 5] (fun i _ => ∃ k : Nat, k ≤ ps.length ∧ i = .int .i64 k ∧ (ps.take k).all (elemB importB) = true) (fun i _ => ps.length - (intOf i).toNat)
    case atStart => exact ⟨0, Nat.zero_le _, rfl, rfl⟩
    case round =>
      obtain ⟨k, hk, rfl, hall⟩ := hrel
      have HA := hide hall
      clear hall
      by_cases hlt : k < ps.length
      · have hc := (unhide HT) k hlt
        cases hv : elemB importB ps[k] with
        | false =>
          have HF : Hid (9 = importR p) := by show 9 = importR p; rw [unhide HN, all_no hlt hv]; rfl
          have HV := hide hv
          clear hv
          go_wp2_with (go_at_call 82; refine (refElem_is (x := 43) (unhide HV) import_parts ((unhide HSM) _ (List.getElem_mem hlt)) _).mono ?_; rintro e w4 ⟨rfl, hw⟩; rw [hw]; clear hw w4)
          go_ret
          exact ⟨ret_num (unhide HF), b1⟩
        | true =>
          have HF := hide (all_take (unhide HA) hlt hv)
          have HV := hide hv
          clear HA hv
          go_wp2_with (go_at_call 82; refine (refElem_is (x := 43) (unhide HV) import_parts ((unhide HSM) _ (List.getElem_mem hlt)) _).mono ?_; rintro e w4 ⟨rfl, hw⟩; rw [hw]; clear hw w4)
          go_round
          case rel => exact ⟨k + 1, hlt, by simp, unhide HF⟩
          case measure => simp [intOf]; omega
      · have hke : k = ps.length := by omega
        subst hke
        have HF : Hid (0 = importR p) := by
          have := unhide HA
          rw [List.take_length] at this
          show 0 = importR p
          rw [unhide HN, this]; rfl
        clear HA
        go_wp2
        go_ret
        exact ⟨ret_num (unhide HF), b1⟩

theorem sufR_big {t : Str} (h : (sufR t).2 = true) : (sufR t).1 ≠ 0 := by
  unfold sufR at h ⊢
  split
  · rename_i h1
    rw [if_pos h1] at h
    simp only [decide_eq_true_eq] at h
    simp only
    omega
  · rename_i h1
    rw [if_neg h1] at h
    cases h

theorem path_ten {p : Str} {n : Nat} (hn : (pieces 47 p).length = n + 1) : (decide ((majorR p).2 = 0) && looksB p) = (decide (0 < n) && Lib.hasPrefix ((pieces 47 p)[n]) [118] && digitsB (((pieces 47 p)[n]).drop 1) && !(sufR ((pieces 47 p)[n])).2) := by
  have hma := majorR_alt p
  unfold looksB
  cases hs : splitLast 47 p with
  | none =>
    have hp := pieces_one 47 p (splitLast_none.1 hs)
    have h0 : n = 0 := by rw [hp] at hn; simpa using hn.symm
    subst h0
    simp
  | some ft =>
    obtain ⟨f, t⟩ := ft
    obtain ⟨he, hf⟩ := splitLast_some.1 hs
    have hp : pieces 47 p = pieces 47 f ++ [t] := by rw [he, pieces_join, pieces_one 47 t hf]
    have hl : (pieces 47 f).length = n := by rw [hp] at hn; simpa using hn
    have h0 : 0 < n := by
      have := List.length_pos_iff.2 (pieces_ne 47 f)
      omega
    have ht : (pieces 47 p)[n] = t := by
      have : (pieces 47 p)[n]? = some t := by rw [hp, List.getElem?_append_right (by omega), hl]; simp
      rw [List.getElem?_eq_getElem (by omega)] at this
      exact Option.some.inj this
    rw [ht]
    rw [hs] at hma
    simp only at hma
    have e : decide ((majorR p).2 = 0) = !(sufR t).2 := by
      rw [hma]
      cases h2 : (sufR t).2 with
      | false => simp
      | true =>
        have := sufR_big h2
        simp [this]
    rw [e]
    simp only [h0, decide_true, Bool.true_and]
    cases (sufR t).2 <;> simp

theorem pieces_first (c : UInt8) (p : Str) (h : 0 < (pieces c p).length) : (pieces c p)[0] = ahead c p := by
  cases hc : p.contains c with
  | false =>
    have e := pieces_one c p hc
    have : (pieces c p)[0]? = some p := by rw [e]; rfl
    rw [List.getElem?_eq_getElem h] at this
    rw [Option.some.inj this, (ahead_none c p hc).1]
  | true =>
    have e := ahead_behind c p hc
    have hf : (ahead c p).contains c = false := not_mem_ahead c p
    have e2 : pieces c p = ahead c p :: pieces c (behind c p) := by
      have := pieces_join c (ahead c p) (behind c p)
      rw [← e, pieces_one c _ hf] at this
      exact this
    have : (pieces c p)[0]? = some (ahead c p) := by rw [e2]; rfl
    rw [List.getElem?_eq_getElem h] at this
    exact Option.some.inj this

end Go.Proofs.YtcmafidnaojkiaaGreatDoor
