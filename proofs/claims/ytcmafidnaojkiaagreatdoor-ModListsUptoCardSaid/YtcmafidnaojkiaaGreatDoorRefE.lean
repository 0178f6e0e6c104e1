/-
  The reference's times and revisions: the contracts of within, moment, revision, Valid, Ends.
-/
import Derived.Test.YtcmafidnaojkiaaGreatDoorRefD
namespace Go.Proofs.YtcmafidnaojkiaaGreatDoor
open Go.RowKit

set_option maxHeartbeats 1000000 in
theorem within_two {a b : UInt8} (ha : digitB a = true) (hb : digitB b = true) (lo hi : Nat) (w : World) : Gives 112 #[.string (ba [a, b]), .int .i64 (lo : Int), .int .i64 (hi : Int)] w (.bool (betw lo hi [a, b])) := by
  unfold Gives
  have hsz : (ba [a, b]).size = 2 := ba_size _
  have g0 : (ba [a, b])[0]'(by rw [ba_size]; simp) = a := ba_get [a, b] 0 (by simp)
  have g1 : (ba [a, b])[1]'(by rw [ba_size]; simp) = b := ba_get [a, b] 1 (by simp)
  rw [digitB_iff] at ha hb
  obtain ⟨x, hx⟩ : ∃ x : Int, (a.toNat : Int) = x := ⟨_, rfl⟩
  obtain ⟨y, hy⟩ : ∃ y : Int, (b.toNat : Int) = y := ⟨_, rfl⟩
  have x0 : 48 ≤ x := by omega
  have x1 : x ≤ 57 := by omega
  have y0 : 48 ≤ y := by omega
  have y1 : y ≤ 57 := by omega
  have HV : Hid (betw lo hi [a, b] = (decide ((lo : Int) ≤ (x - 48) * 10 + (y - 48)) && decide ((x - 48) * 10 + (y - 48) ≤ (hi : Int)))) := by
    show betw lo hi [a, b] = _
    unfold betw
    have e : (numVal [a, b] : Int) = (x - 48) * 10 + (y - 48) := by
      have : numVal [a, b] = (a.toNat - 48) * 10 + (b.toNat - 48) := by simp [numVal]
      rw [this]; omega
    rw [← e]
    congr 1 <;> (rw [Bool.eq_iff_iff]; simp)
  clear ha hb
  rw [unhide HV]
  go_enter Tryz.func112, Tryz.ntmps112
  go_wp2
  go_quiet (fail)
  go_wp2
  all_goals
    go_ret
    refine ⟨ret_bool ?_, below_drewN (Below.refl _ _) _⟩
    first | (simp_all; done) | (simp_all; intros; omega)

theorem within_any {s : Str} (hs : Two s) (lo hi : Nat) (w : World) : Gives 112 #[.string (ba s), .int .i64 (lo : Int), .int .i64 (hi : Int)] w (.bool (betw lo hi s)) := by
  obtain ⟨l2, hd⟩ := hs
  match s, l2 with
  | [a, b], _ =>
    simp only [List.all_cons, List.all_nil, Bool.and_true, Bool.and_eq_true] at hd
    exact within_two hd.1 hd.2 lo hi w
theorem within_is {s : Str} {b : Bool} {lo hi : Nat} (h : betw lo hi s = b) (hs : Two s) (w : World) : Gives 112 #[.string (ba s), .int .i64 (lo : Int), .int .i64 (hi : Int)] w (.bool b) := by rw [← h]; exact within_any hs lo hi w

theorem moment_len {t : Str} (h : t.length ≠ 14) (w : World) : Gives 67 #[.string (ba t)] w (.bool false) := by
  unfold Gives
  have hsz : (ba t).size = t.length := ba_size t
  have hq : ¬ (t.length : Int) = 14 := by omega
  clear h
  go_enter Tryz.func67, Tryz.ntmps67
  go_wp2
  go_ret
  exact ⟨rfl, Below.refl _ _⟩
theorem moment_digits {t : Str} (h : t.length = 14) (hd : digitsB t = false) (w : World) : Gives 67 #[.string (ba t)] w (.bool false) := by
  unfold Gives
  have hsz : (ba t).size = 14 := by rw [ba_size]; exact h
  have HD := hide hd
  clear hd
  go_enter Tryz.func67, Tryz.ntmps67
  go_wp2_with (go_at_call 84; refine (refDigits_is (unhide HD) (by omega) _).mono ?_; rintro e w1 ⟨rfl, hw⟩; rw [hw]; clear hw w1)
  go_ret
  exact ⟨rfl, Below.refl _ _⟩

set_option maxHeartbeats 1000000 in
theorem moment_1 {t m : Str} (hl : t.length = 14) (hd : digitsB t = true) (em : (ba t).extract 4 6 = ba m) (tm : Two m) (b0 : betw 1 12 m = false) (w : World) : Gives 67 #[.string (ba t)] w (.bool false) := by
  unfold Gives
  have hsz : (ba t).size = 14 := by rw [ba_size]; exact hl
  have HD := hide hd
  have H0 := hide b0
  have T0 := hide tm
  clear hd b0 tm
  go_enter Tryz.func67, Tryz.ntmps67
  go_wp2_with (first | (go_at_call 84; refine (refDigits_is (unhide HD) (by omega) _).mono ?_; rintro e w1 ⟨rfl, hw⟩; rw [hw]; clear hw w1) | (go_at_call 112; fail))
  refine (within_is (unhide H0) (unhide T0) _).mono ?_
  rintro e w1 ⟨rfl, k1⟩
  go_wp2
  go_ret
  exact ⟨rfl, k1⟩

set_option maxHeartbeats 1000000 in
theorem moment_2 {t m d : Str} (hl : t.length = 14) (hd : digitsB t = true) (em : (ba t).extract 4 6 = ba m) (tm : Two m) (ed : (ba t).extract 6 8 = ba d) (td : Two d) (b0 : betw 1 12 m = true) (b1 : betw 1 31 d = false) (w : World) : Gives 67 #[.string (ba t)] w (.bool false) := by
  unfold Gives
  have hsz : (ba t).size = 14 := by rw [ba_size]; exact hl
  have HD := hide hd
  have H0 := hide b0
  have T0 := hide tm
  have H1 := hide b1
  have T1 := hide td
  clear hd b0 tm b1 td
  go_enter Tryz.func67, Tryz.ntmps67
  go_wp2_with (first | (go_at_call 84; refine (refDigits_is (unhide HD) (by omega) _).mono ?_; rintro e w1 ⟨rfl, hw⟩; rw [hw]; clear hw w1) | (go_at_call 112; fail))
  refine (within_is (unhide H0) (unhide T0) _).mono ?_
  rintro e w1 ⟨rfl, k1⟩
  go_wp2_with (go_at_call 112; fail)
  refine (within_is (unhide H1) (unhide T1) _).mono ?_
  rintro e w2 ⟨rfl, k2⟩
  have k2 := below_trans k1 k2
  clear k1
  go_wp2
  go_ret
  exact ⟨rfl, k2⟩

set_option maxHeartbeats 1000000 in
theorem moment_3 {t m d h : Str} (hl : t.length = 14) (hd : digitsB t = true) (em : (ba t).extract 4 6 = ba m) (tm : Two m) (ed : (ba t).extract 6 8 = ba d) (td : Two d) (eh : (ba t).extract 8 10 = ba h) (th : Two h) (b0 : betw 1 12 m = true) (b1 : betw 1 31 d = true) (b2 : betw 0 23 h = false) (w : World) : Gives 67 #[.string (ba t)] w (.bool false) := by
  unfold Gives
  have hsz : (ba t).size = 14 := by rw [ba_size]; exact hl
  have HD := hide hd
  have H0 := hide b0
  have T0 := hide tm
  have H1 := hide b1
  have T1 := hide td
  have H2 := hide b2
  have T2 := hide th
  clear hd b0 tm b1 td b2 th
  go_enter Tryz.func67, Tryz.ntmps67
  go_wp2_with (first | (go_at_call 84; refine (refDigits_is (unhide HD) (by omega) _).mono ?_; rintro e w1 ⟨rfl, hw⟩; rw [hw]; clear hw w1) | (go_at_call 112; fail))
  refine (within_is (unhide H0) (unhide T0) _).mono ?_
  rintro e w1 ⟨rfl, k1⟩
  go_wp2_with (go_at_call 112; fail)
  refine (within_is (unhide H1) (unhide T1) _).mono ?_
  rintro e w2 ⟨rfl, k2⟩
  have k2 := below_trans k1 k2
  clear k1
  go_wp2_with (go_at_call 112; fail)
  refine (within_is (unhide H2) (unhide T2) _).mono ?_
  rintro e w3 ⟨rfl, k3⟩
  have k3 := below_trans k2 k3
  clear k2
  go_wp2
  go_ret
  exact ⟨rfl, k3⟩

set_option maxHeartbeats 1000000 in
theorem moment_4 {t m d h n : Str} (hl : t.length = 14) (hd : digitsB t = true) (em : (ba t).extract 4 6 = ba m) (tm : Two m) (ed : (ba t).extract 6 8 = ba d) (td : Two d) (eh : (ba t).extract 8 10 = ba h) (th : Two h) (en : (ba t).extract 10 12 = ba n) (tn : Two n) (b0 : betw 1 12 m = true) (b1 : betw 1 31 d = true) (b2 : betw 0 23 h = true) (b3 : betw 0 59 n = false) (w : World) : Gives 67 #[.string (ba t)] w (.bool false) := by
  unfold Gives
  have hsz : (ba t).size = 14 := by rw [ba_size]; exact hl
  have HD := hide hd
  have H0 := hide b0
  have T0 := hide tm
  have H1 := hide b1
  have T1 := hide td
  have H2 := hide b2
  have T2 := hide th
  have H3 := hide b3
  have T3 := hide tn
  clear hd b0 tm b1 td b2 th b3 tn
  go_enter Tryz.func67, Tryz.ntmps67
  go_wp2_with (first | (go_at_call 84; refine (refDigits_is (unhide HD) (by omega) _).mono ?_; rintro e w1 ⟨rfl, hw⟩; rw [hw]; clear hw w1) | (go_at_call 112; fail))
  refine (within_is (unhide H0) (unhide T0) _).mono ?_
  rintro e w1 ⟨rfl, k1⟩
  go_wp2_with (go_at_call 112; fail)
  refine (within_is (unhide H1) (unhide T1) _).mono ?_
  rintro e w2 ⟨rfl, k2⟩
  have k2 := below_trans k1 k2
  clear k1
  go_wp2_with (go_at_call 112; fail)
  refine (within_is (unhide H2) (unhide T2) _).mono ?_
  rintro e w3 ⟨rfl, k3⟩
  have k3 := below_trans k2 k3
  clear k2
  go_wp2_with (go_at_call 112; fail)
  refine (within_is (unhide H3) (unhide T3) _).mono ?_
  rintro e w4 ⟨rfl, k4⟩
  have k4 := below_trans k3 k4
  clear k3
  go_wp2
  go_ret
  exact ⟨rfl, k4⟩

set_option maxHeartbeats 1000000 in
theorem moment_5 {t m d h n s : Str} (hl : t.length = 14) (hd : digitsB t = true) (em : (ba t).extract 4 6 = ba m) (tm : Two m) (ed : (ba t).extract 6 8 = ba d) (td : Two d) (eh : (ba t).extract 8 10 = ba h) (th : Two h) (en : (ba t).extract 10 12 = ba n) (tn : Two n) (es : (ba t).extract 12 14 = ba s) (ts : Two s) (b0 : betw 1 12 m = true) (b1 : betw 1 31 d = true) (b2 : betw 0 23 h = true) (b3 : betw 0 59 n = true) (b4 : betw 0 59 s = false) (w : World) : Gives 67 #[.string (ba t)] w (.bool false) := by
  unfold Gives
  have hsz : (ba t).size = 14 := by rw [ba_size]; exact hl
  have HD := hide hd
  have H0 := hide b0
  have T0 := hide tm
  have H1 := hide b1
  have T1 := hide td
  have H2 := hide b2
  have T2 := hide th
  have H3 := hide b3
  have T3 := hide tn
  have H4 := hide b4
  have T4 := hide ts
  clear hd b0 tm b1 td b2 th b3 tn b4 ts
  go_enter Tryz.func67, Tryz.ntmps67
  go_wp2_with (first | (go_at_call 84; refine (refDigits_is (unhide HD) (by omega) _).mono ?_; rintro e w1 ⟨rfl, hw⟩; rw [hw]; clear hw w1) | (go_at_call 112; fail))
  refine (within_is (unhide H0) (unhide T0) _).mono ?_
  rintro e w1 ⟨rfl, k1⟩
  go_wp2_with (go_at_call 112; fail)
  refine (within_is (unhide H1) (unhide T1) _).mono ?_
  rintro e w2 ⟨rfl, k2⟩
  have k2 := below_trans k1 k2
  clear k1
  go_wp2_with (go_at_call 112; fail)
  refine (within_is (unhide H2) (unhide T2) _).mono ?_
  rintro e w3 ⟨rfl, k3⟩
  have k3 := below_trans k2 k3
  clear k2
  go_wp2_with (go_at_call 112; fail)
  refine (within_is (unhide H3) (unhide T3) _).mono ?_
  rintro e w4 ⟨rfl, k4⟩
  have k4 := below_trans k3 k4
  clear k3
  go_wp2_with (go_at_call 112; fail)
  refine (within_is (unhide H4) (unhide T4) _).mono ?_
  rintro e w5 ⟨rfl, k5⟩
  have k5 := below_trans k4 k5
  clear k4
  go_wp2
  go_ret
  exact ⟨rfl, k5⟩

set_option maxHeartbeats 1000000 in
theorem moment_6 {t m d h n s : Str} (hl : t.length = 14) (hd : digitsB t = true) (em : (ba t).extract 4 6 = ba m) (tm : Two m) (ed : (ba t).extract 6 8 = ba d) (td : Two d) (eh : (ba t).extract 8 10 = ba h) (th : Two h) (en : (ba t).extract 10 12 = ba n) (tn : Two n) (es : (ba t).extract 12 14 = ba s) (ts : Two s) (b0 : betw 1 12 m = true) (b1 : betw 1 31 d = true) (b2 : betw 0 23 h = true) (b3 : betw 0 59 n = true) (b4 : betw 0 59 s = true) (w : World) : Gives 67 #[.string (ba t)] w (.bool true) := by
  unfold Gives
  have hsz : (ba t).size = 14 := by rw [ba_size]; exact hl
  have HD := hide hd
  have H0 := hide b0
  have T0 := hide tm
  have H1 := hide b1
  have T1 := hide td
  have H2 := hide b2
  have T2 := hide th
  have H3 := hide b3
  have T3 := hide tn
  have H4 := hide b4
  have T4 := hide ts
  clear hd b0 tm b1 td b2 th b3 tn b4 ts
  go_enter Tryz.func67, Tryz.ntmps67
  go_wp2_with (first | (go_at_call 84; refine (refDigits_is (unhide HD) (by omega) _).mono ?_; rintro e w1 ⟨rfl, hw⟩; rw [hw]; clear hw w1) | (go_at_call 112; fail))
  refine (within_is (unhide H0) (unhide T0) _).mono ?_
  rintro e w1 ⟨rfl, k1⟩
  go_wp2_with (go_at_call 112; fail)
  refine (within_is (unhide H1) (unhide T1) _).mono ?_
  rintro e w2 ⟨rfl, k2⟩
  have k2 := below_trans k1 k2
  clear k1
  go_wp2_with (go_at_call 112; fail)
  refine (within_is (unhide H2) (unhide T2) _).mono ?_
  rintro e w3 ⟨rfl, k3⟩
  have k3 := below_trans k2 k3
  clear k2
  go_wp2_with (go_at_call 112; fail)
  refine (within_is (unhide H3) (unhide T3) _).mono ?_
  rintro e w4 ⟨rfl, k4⟩
  have k4 := below_trans k3 k4
  clear k3
  go_wp2_with (go_at_call 112; fail)
  refine (within_is (unhide H4) (unhide T4) _).mono ?_
  rintro e w5 ⟨rfl, k5⟩
  have k5 := below_trans k4 k5
  clear k4
  go_wp2
  go_ret
  exact ⟨rfl, k5⟩

theorem moment_any (t : Str) (w : World) : Gives 67 #[.string (ba t)] w (.bool (timeB t)) := by
  by_cases h14 : t.length = 14
  · cases hd : digitsB t with
    | false =>
      have e : timeB t = false := by unfold timeB; rw [hd]; simp
      rw [e]; exact moment_digits h14 hd w
    | true =>
      have hall : t.all digitB = true := by simp only [digitsB, Bool.and_eq_true] at hd; exact hd.2
      have tm := two_sub h14 hall 4 (by omega)
      have td := two_sub h14 hall 6 (by omega)
      have th := two_sub h14 hall 8 (by omega)
      have tn := two_sub h14 hall 10 (by omega)
      have ts := two_sub h14 hall 12 (by omega)
      have et : timeB t = (betw 1 12 ((t.drop 4).take 2) && betw 1 31 ((t.drop 6).take 2) && betw 0 23 ((t.drop 8).take 2) && betw 0 59 ((t.drop 10).take 2) && betw 0 59 ((t.drop 12).take 2)) := by
        unfold timeB; rw [hd, h14]; rfl
      rw [et]
      cases b0 : betw 1 12 ((t.drop 4).take 2) with
      | false => exact moment_1 h14 hd (sub_at t 4 6) tm b0 w
      | true =>
        cases b1 : betw 1 31 ((t.drop 6).take 2) with
        | false => exact moment_2 h14 hd (sub_at t 4 6) tm (sub_at t 6 8) td b0 b1 w
        | true =>
          cases b2 : betw 0 23 ((t.drop 8).take 2) with
          | false => exact moment_3 h14 hd (sub_at t 4 6) tm (sub_at t 6 8) td (sub_at t 8 10) th b0 b1 b2 w
          | true =>
            cases b3 : betw 0 59 ((t.drop 10).take 2) with
            | false => exact moment_4 h14 hd (sub_at t 4 6) tm (sub_at t 6 8) td (sub_at t 8 10) th (sub_at t 10 12) tn b0 b1 b2 b3 w
            | true =>
              cases b4 : betw 0 59 ((t.drop 12).take 2) with
              | false => exact moment_5 h14 hd (sub_at t 4 6) tm (sub_at t 6 8) td (sub_at t 8 10) th (sub_at t 10 12) tn (sub_at t 12 14) ts b0 b1 b2 b3 b4 w
              | true => exact moment_6 h14 hd (sub_at t 4 6) tm (sub_at t 6 8) td (sub_at t 8 10) th (sub_at t 10 12) tn (sub_at t 12 14) ts b0 b1 b2 b3 b4 w
  · have e : timeB t = false := by unfold timeB; simp [h14]
    rw [e]; exact moment_len h14 w
theorem moment_is {t : Str} {b : Bool} (h : timeB t = b) (w : World) : Gives 67 #[.string (ba t)] w (.bool b) := by rw [← h]; exact moment_any t w

theorem hex_parts (c : UInt8) : hexB c = (digitB c || (!decide ((c.toNat : Int) < 97) && !decide ((102 : Int) < c.toNat))) := by
  unfold hexB
  congr 1
  rw [Bool.eq_iff_iff]; simp; omega

set_option maxHeartbeats 1000000 in
theorem refRev_any {l : Str} (hl : l.length ≤ 4294967281) (w : World) : Calls Tryz.prog 68 #[.string (ba l)] w fun e w' => e = .returned (.bool (revB l)) ∧ w' = w := by
  have hsz : (ba l).size = l.length := ba_size l
  go_enter Tryz.func68, Tryz.ntmps68
  go_wp2
  go_loop [3] (fun i => ∃ k : Nat, k ≤ l.length ∧ i = .int .i64 k ∧ (l.take k).all hexB = true) (fun i => l.length - (intOf i).toNat)
  case atStart => exact ⟨0, Nat.zero_le _, rfl, rfl⟩
  case round =>
    obtain ⟨k, hk, rfl, hall⟩ := hrel
    have HA := hide hall
    clear hall
    by_cases hlt : k < l.length
    · have hg := ba_get l k hlt
      have hip := hex_parts l[k]
      cases hd : digitB l[k] with
      | true =>
        have HF := hide (all_take8 (unhide HA) hlt (by rw [hip, hd]; rfl))
        have HD := hide hd
        clear hd hip HA
        go_wp2_with (go_at_call 104; refine (asks_is (unhide HD) refDigit_asks _).mono ?_; rintro e w1 ⟨rfl, hw⟩; rw [hw]; clear hw w1)
        go_round
        case rel => exact ⟨k + 1, hlt, by simp, unhide HF⟩
        case measure => simp [intOf]; omega
      | false =>
        cases h1 : decide ((l[k].toNat : Int) < 97) with
        | true =>
          have HV : Hid (revB l = false) := by show revB l = false; unfold revB; rw [all_no8 hlt (by rw [hip, hd, h1]; rfl)]; simp
          have HD := hide hd
          clear hd hip HA
          go_wp2_with (go_at_call 104; refine (asks_is (unhide HD) refDigit_asks _).mono ?_; rintro e w1 ⟨rfl, hw⟩; rw [hw]; clear hw w1)
          go_ret
          exact ⟨ret_bool (unhide HV).symm, rfl⟩
        | false =>
          cases h2 : decide ((102 : Int) < l[k].toNat) with
          | true =>
            have HV : Hid (revB l = false) := by show revB l = false; unfold revB; rw [all_no8 hlt (by rw [hip, hd, h1, h2]; rfl)]; simp
            have HD := hide hd
            clear hd hip HA
            go_wp2_with (go_at_call 104; refine (asks_is (unhide HD) refDigit_asks _).mono ?_; rintro e w1 ⟨rfl, hw⟩; rw [hw]; clear hw w1)
            go_ret
            exact ⟨ret_bool (unhide HV).symm, rfl⟩
          | false =>
            have HF := hide (all_take8 (unhide HA) hlt (by rw [hip, hd, h1, h2]; rfl))
            have HD := hide hd
            clear hd hip HA
            go_wp2_with (go_at_call 104; refine (asks_is (unhide HD) refDigit_asks _).mono ?_; rintro e w1 ⟨rfl, hw⟩; rw [hw]; clear hw w1)
            go_round
            case rel => exact ⟨k + 1, hlt, by simp, unhide HF⟩
            case measure => simp [intOf]; omega
    · have hke : k = l.length := by omega
      subst hke
      have HV : Hid (revB l = ((l.length : Int) == 12)) := by
        have := unhide HA
        rw [List.take_length] at this
        show revB l = _
        unfold revB; rw [this, Bool.and_true, Bool.eq_iff_iff]; simp; omega
      go_wp2
      go_ret
      exact ⟨ret_bool (unhide HV).symm, rfl⟩
theorem refRev_is {l : Str} {b : Bool} (h : revB l = b) (hl : l.length ≤ 4294967281) (w : World) : Calls Tryz.prog 68 #[.string (ba l)] w fun e w' => e = .returned (.bool b) ∧ w' = w := by rw [← h]; exact refRev_any hl w

theorem refValid_any (v : Str) (w : World) : Gives 70 #[.string (ba v)] w (.bool (parseV v).isSome) := by
  unfold Gives
  obtain ⟨a, b, c, p, ok, hp⟩ : ∃ (a b c : Int) (p : ByteArray) (ok : Bool), partsV (parseV v) = .tuple #[.int .i64 a, .int .i64 b, .int .i64 c, .string p, .bool ok] ∧ ok = (parseV v).isSome := ⟨_, _, _, _, _, rfl, rfl⟩
  obtain ⟨hp, hok⟩ := hp
  rw [← hok]
  have HP := hide hp
  clear hp hok
  go_enter Tryz.func70, Tryz.ntmps70
  go_wp2_with (go_at_call 19; fail)
  refine (refParts_any v _).mono ?_
  rintro e w1 ⟨rfl, b1⟩
  rw [unhide HP]
  go_wp2
  go_ret
  exact ⟨rfl, b1⟩
theorem refValid_is {v : Str} {b : Bool} (h : (parseV v).isSome = b) (w : World) : Gives 70 #[.string (ba v)] w (.bool b) := by rw [← h]; exact refValid_any v w
theorem refParts_none {v : Str} (h : parseV v = none) (w : World) : Gives 19 #[.string (ba v)] w (.tuple #[.int .i64 0, .int .i64 0, .int .i64 0, .string ⟨#[]⟩, .bool false]) := by
  have := refParts_any v w
  rw [h] at this
  exact this
theorem refParts_some {v : Str} {x : Ver} (h : parseV v = some x) (w : World) : Gives 19 #[.string (ba v)] w (.tuple #[.int .i64 (x.a : Int), .int .i64 (x.b : Int), .int .i64 (x.c : Int), .string (ba x.pre), .bool true]) := by
  have := refParts_any v w
  rw [h] at this
  exact this

end Go.Proofs.YtcmafidnaojkiaaGreatDoor
