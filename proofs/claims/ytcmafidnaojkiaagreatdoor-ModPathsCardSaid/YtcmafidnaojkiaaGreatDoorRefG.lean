/-
  The reference's SplitPseudo: the contract.
-/
import Derived.Test.YtcmafidnaojkiaaGreatDoorRefF
namespace Go.Proofs.YtcmafidnaojkiaaGreatDoor
open Go.RowKit

theorem ends_no {s u : Str} (h : s.length < u.length) (w : World) : Calls Tryz.prog 74 #[.string (ba s), .string (ba u)] w fun e w' => e = .returned (.bool false) ∧ w' = w := by
  have ss := ba_size s
  have su := ba_size u
  have h1 : ¬ ((u.length : Int) ≤ s.length) := by omega
  go_enter Tryz.func74, Tryz.ntmps74
  go_wp2
  go_ret
  exact ⟨rfl, rfl⟩

theorem ends_at {s u f t : Str} (h : s = f ++ t) (ht : t.length = u.length) (hs : s.length ≤ 4294967281) (w : World) : Calls Tryz.prog 74 #[.string (ba s), .string (ba u)] w fun e w' => e = .returned (.bool (t == u)) ∧ w' = w := by
  have ss := ba_size s
  have su := ba_size u
  have hl : s.length = f.length + t.length := by rw [h]; simp
  have h1 : (u.length : Int) ≤ s.length := by omega
  have hx : (ba s).extract f.length (f.length + u.length) = ba t := by
    rw [← ht, ← hl, sub_of, h, List.drop_left, List.take_of_length_le (by simp)]
  have hlt := ba_list t
  have hlu := ba_list u
  clear h
  go_enter Tryz.func74, Tryz.ntmps74
  go_wp2
  go_ret
  exact ⟨rfl, rfl⟩

theorem ends_is {s u : Str} {b : Bool} (h : Lib.hasSuffix s u = b) (hs : s.length ≤ 4294967281) (w : World) : Calls Tryz.prog 74 #[.string (ba s), .string (ba u)] w fun e w' => e = .returned (.bool b) ∧ w' = w := by
  rw [← Lib.hasSuffix_of_drop] at h
  by_cases hl : u.length ≤ s.length
  · have e : (s.drop (s.length - u.length) == u) = b := by rw [← h]; simp [hl]
    rw [← e]
    exact ends_at (f := s.take (s.length - u.length)) (List.take_append_drop _ _).symm (by simp; omega) hs w
  · have e : b = false := by rw [← h]; simp [hl]
    rw [e]
    exact ends_no (by omega) w

theorem rsp_none {v : Str} (hp : parseV v = none) (w : World) : Gives 27 #[.string (ba v)] w (splitV ([], [], [], false)) := by
  unfold Gives
  have HP := hide hp
  clear hp
  go_enter Tryz.func27, Tryz.ntmps27
  go_wp2_with (go_at_call 19; fail)
  refine (refParts_none (unhide HP) _).mono ?_
  rintro e w1 ⟨rfl, b1⟩
  go_wp2
  exact bodyPost_ret (v := splitV ([], [], [], false)) (by simp [results, Tryz.results27, go_sem, splitV, ba]) rfl ⟨rfl, b1⟩

theorem rsp_short {v : Str} {x : Ver} (hp : parseV v = some x) (h : x.pre.length < 27) (w : World) : Gives 27 #[.string (ba v)] w (splitV ([], [], [], false)) := by
  unfold Gives
  have HP := hide hp
  have sp := ba_size x.pre
  clear hp
  go_enter Tryz.func27, Tryz.ntmps27
  go_wp2_with (go_at_call 19; fail)
  refine (refParts_some (unhide HP) _).mono ?_
  rintro e w1 ⟨rfl, b1⟩
  go_wp2
  exact bodyPost_ret (v := splitV ([], [], [], false)) (by simp [results, Tryz.results27, go_sem, splitV, ba]) rfl ⟨rfl, b1⟩

set_option maxHeartbeats 1000000 in
theorem rsp_mid {v F t r : Str} {c : UInt8} {x : Ver} (hp : parseV v = some x) (hP : x.pre = F ++ (t ++ c :: r)) (lt : t.length = 14) (lr : r.length = 12) (h : c ≠ 45) (w : World) : Gives 27 #[.string (ba v)] w (splitV ([], [], [], false)) := by
  unfold Gives
  have sp := ba_size x.pre
  have HP := hide hp
  obtain ⟨T, hT⟩ : ∃ T, t ++ c :: r = T := ⟨_, rfl⟩
  have lT : T.length = 27 := by rw [← hT]; simp; omega
  have sT := ba_size T
  rw [hT] at hP
  have lP : x.pre.length = F.length + 27 := by rw [hP]; simp; omega
  have lv := (parseV_some hp).1
  have lp : x.pre.length ≤ 60 := by
    obtain ⟨_, _, _, l4, h | h⟩ := parse_form hp
    · rw [h.1]; simp
    · have := congrArg List.length h.2
      simp at this
      omega
  have lF : F.length ≤ 33 := by omega
  clear lp
  have sv := ba_size v
  have sF := ba_size F
  have hx1 : (ba x.pre).extract F.length (F.length + 27) = ba T := by
    rw [sub_of, hP, List.drop_left, List.take_of_length_le (by omega)]
  have hx2 : (ba x.pre).extract 0 F.length = ba F := by rw [sub_of, hP]; simp
  have hx3 : (ba T).extract 0 14 = ba t := by rw [sub_of, ← hT]; simp [← lt]
  have hx4 : (ba T).extract 15 27 = ba r := by
    rw [sub_of, ← hT]
    have : (t ++ c :: r).drop 15 = r := by rw [List.drop_append, lt]; simp [lt]
    rw [this, List.take_of_length_le (by simp; omega)]
  have l14 : 14 < T.length := by omega
  have hc : (ba T)[14]'(by rw [sT]; exact l14) = c := by rw [ba_get T 14 l14]; simp [← hT, ← lt]
  have hne : ((c.toNat : Int) != 45) = true := by
    simp only [bne_iff_ne, ne_eq]
    intro hh
    exact h (UInt8.toNat_inj.mp (by rw [show (45 : UInt8).toNat = 45 from rfl]; omega))
  clear hp hP hT h
  go_enter Tryz.func27, Tryz.ntmps27
  go_wp2_with (go_at_call 19; fail)
  refine (refParts_some (unhide HP) _).mono ?_
  rintro e w1 ⟨rfl, b1⟩
  go_wp2
  exact bodyPost_ret (v := splitV ([], [], [], false)) (by simp [results, Tryz.results27, go_sem, splitV, ba]) rfl ⟨rfl, b1⟩

set_option maxHeartbeats 1000000 in
theorem rsp_time {v F t r : Str} {x : Ver} (hp : parseV v = some x) (hP : x.pre = F ++ (t ++ 45 :: r)) (lt : t.length = 14) (lr : r.length = 12) (h : timeB t = false) (w : World) : Gives 27 #[.string (ba v)] w (splitV ([], [], [], false)) := by
  unfold Gives
  have sp := ba_size x.pre
  have HP := hide hp
  obtain ⟨T, hT⟩ : ∃ T, t ++ 45 :: r = T := ⟨_, rfl⟩
  have lT : T.length = 27 := by rw [← hT]; simp; omega
  have sT := ba_size T
  rw [hT] at hP
  have lP : x.pre.length = F.length + 27 := by rw [hP]; simp; omega
  have lv := (parseV_some hp).1
  have lp : x.pre.length ≤ 60 := by
    obtain ⟨_, _, _, l4, h | h⟩ := parse_form hp
    · rw [h.1]; simp
    · have := congrArg List.length h.2
      simp at this
      omega
  have lF : F.length ≤ 33 := by omega
  clear lp
  have sv := ba_size v
  have sF := ba_size F
  have hx1 : (ba x.pre).extract F.length (F.length + 27) = ba T := by
    rw [sub_of, hP, List.drop_left, List.take_of_length_le (by omega)]
  have hx2 : (ba x.pre).extract 0 F.length = ba F := by rw [sub_of, hP]; simp
  have hx3 : (ba T).extract 0 14 = ba t := by rw [sub_of, ← hT]; simp [← lt]
  have hx4 : (ba T).extract 15 27 = ba r := by
    rw [sub_of, ← hT]
    have : (t ++ 45 :: r).drop 15 = r := by rw [List.drop_append, lt]; simp [lt]
    rw [this, List.take_of_length_le (by simp; omega)]
  have l14 : 14 < T.length := by omega
  have hc : (ba T)[14]'(by rw [sT]; exact l14) = 45 := by rw [ba_get T 14 l14]; simp [← hT, ← lt]
  have H1 := hide h
  clear hp hP hT h
  go_enter Tryz.func27, Tryz.ntmps27
  go_wp2_with (go_at_call 19; fail)
  refine (refParts_some (unhide HP) _).mono ?_
  rintro e w1 ⟨rfl, b1⟩
  go_wp2_with (go_at_call 67; fail)
  refine (moment_is (unhide H1) _).mono ?_
  rintro e w2 ⟨rfl, b2⟩
  have b2 := below_trans b1 b2
  clear b1
  go_wp2
  exact bodyPost_ret (v := splitV ([], [], [], false)) (by simp [results, Tryz.results27, go_sem, splitV, ba]) rfl ⟨rfl, b2⟩

set_option maxHeartbeats 1000000 in
theorem rsp_rev {v F t r : Str} {x : Ver} (hp : parseV v = some x) (hP : x.pre = F ++ (t ++ 45 :: r)) (lt : t.length = 14) (lr : r.length = 12) (h : timeB t = true) (hr : revB r = false) (w : World) : Gives 27 #[.string (ba v)] w (splitV ([], [], [], false)) := by
  unfold Gives
  have sp := ba_size x.pre
  have HP := hide hp
  obtain ⟨T, hT⟩ : ∃ T, t ++ 45 :: r = T := ⟨_, rfl⟩
  have lT : T.length = 27 := by rw [← hT]; simp; omega
  have sT := ba_size T
  rw [hT] at hP
  have lP : x.pre.length = F.length + 27 := by rw [hP]; simp; omega
  have lv := (parseV_some hp).1
  have lp : x.pre.length ≤ 60 := by
    obtain ⟨_, _, _, l4, h | h⟩ := parse_form hp
    · rw [h.1]; simp
    · have := congrArg List.length h.2
      simp at this
      omega
  have lF : F.length ≤ 33 := by omega
  clear lp
  have sv := ba_size v
  have sF := ba_size F
  have hx1 : (ba x.pre).extract F.length (F.length + 27) = ba T := by
    rw [sub_of, hP, List.drop_left, List.take_of_length_le (by omega)]
  have hx2 : (ba x.pre).extract 0 F.length = ba F := by rw [sub_of, hP]; simp
  have hx3 : (ba T).extract 0 14 = ba t := by rw [sub_of, ← hT]; simp [← lt]
  have hx4 : (ba T).extract 15 27 = ba r := by
    rw [sub_of, ← hT]
    have : (t ++ 45 :: r).drop 15 = r := by rw [List.drop_append, lt]; simp [lt]
    rw [this, List.take_of_length_le (by simp; omega)]
  have l14 : 14 < T.length := by omega
  have hc : (ba T)[14]'(by rw [sT]; exact l14) = 45 := by rw [ba_get T 14 l14]; simp [← hT, ← lt]
  have H1 := hide h
  have H2 := hide hr
  clear hp hP hT h hr
  go_enter Tryz.func27, Tryz.ntmps27
  go_wp2_with (go_at_call 19; fail)
  refine (refParts_some (unhide HP) _).mono ?_
  rintro e w1 ⟨rfl, b1⟩
  go_wp2_with (go_at_call 67; fail)
  refine (moment_is (unhide H1) _).mono ?_
  rintro e w2 ⟨rfl, b2⟩
  have b2 := below_trans b1 b2
  clear b1
  go_wp2_with (go_at_call 68; refine (refRev_is (unhide H2) (by omega) _).mono ?_; rintro e w2 ⟨rfl, hw⟩; rw [hw]; clear hw w2)
  exact bodyPost_ret (v := splitV ([], [], [], false)) (by simp [results, Tryz.results27, go_sem, splitV, ba]) rfl ⟨rfl, b2⟩

set_option maxHeartbeats 1000000 in
theorem rsp_bare_b {v F t r : Str} {x : Ver} (hp : parseV v = some x) (hP : x.pre = F ++ (t ++ 45 :: r)) (lt : t.length = 14) (lr : r.length = 12) (h : timeB t = true) (hr : revB r = true) (hF : F = []) (hb : x.b ≠ 0) (w : World) : Gives 27 #[.string (ba v)] w (splitV ([], [], [], false)) := by
  unfold Gives
  have sp := ba_size x.pre
  have HP := hide hp
  obtain ⟨T, hT⟩ : ∃ T, t ++ 45 :: r = T := ⟨_, rfl⟩
  have lT : T.length = 27 := by rw [← hT]; simp; omega
  have sT := ba_size T
  rw [hT] at hP
  have lP : x.pre.length = F.length + 27 := by rw [hP]; simp; omega
  have lv := (parseV_some hp).1
  have lp : x.pre.length ≤ 60 := by
    obtain ⟨_, _, _, l4, h | h⟩ := parse_form hp
    · rw [h.1]; simp
    · have := congrArg List.length h.2
      simp at this
      omega
  have lF : F.length ≤ 33 := by omega
  clear lp
  have sv := ba_size v
  have sF := ba_size F
  have hx1 : (ba x.pre).extract F.length (F.length + 27) = ba T := by
    rw [sub_of, hP, List.drop_left, List.take_of_length_le (by omega)]
  have hx2 : (ba x.pre).extract 0 F.length = ba F := by rw [sub_of, hP]; simp
  have hx3 : (ba T).extract 0 14 = ba t := by rw [sub_of, ← hT]; simp [← lt]
  have hx4 : (ba T).extract 15 27 = ba r := by
    rw [sub_of, ← hT]
    have : (t ++ 45 :: r).drop 15 = r := by rw [List.drop_append, lt]; simp [lt]
    rw [this, List.take_of_length_le (by simp; omega)]
  have l14 : 14 < T.length := by omega
  have hc : (ba T)[14]'(by rw [sT]; exact l14) = 45 := by rw [ba_get T 14 l14]; simp [← hT, ← lt]
  have H1 := hide h
  have H2 := hide hr
  have hlF : (ba F).toList = [] := by rw [ba_list, hF]
  have hb1 : ((x.b : Int) != 0) = true := by simp; omega
  clear hp hP hT h hr hF hb
  go_enter Tryz.func27, Tryz.ntmps27
  go_wp2_with (go_at_call 19; fail)
  refine (refParts_some (unhide HP) _).mono ?_
  rintro e w1 ⟨rfl, b1⟩
  go_wp2_with (go_at_call 67; fail)
  refine (moment_is (unhide H1) _).mono ?_
  rintro e w2 ⟨rfl, b2⟩
  have b2 := below_trans b1 b2
  clear b1
  go_wp2_with (go_at_call 68; refine (refRev_is (unhide H2) (by omega) _).mono ?_; rintro e w2 ⟨rfl, hw⟩; rw [hw]; clear hw w2)
  exact bodyPost_ret (v := splitV ([], [], [], false)) (by simp [results, Tryz.results27, go_sem, splitV, ba]) rfl ⟨rfl, b2⟩

set_option maxHeartbeats 1000000 in
theorem rsp_bare_c {v F t r : Str} {x : Ver} (hp : parseV v = some x) (hP : x.pre = F ++ (t ++ 45 :: r)) (lt : t.length = 14) (lr : r.length = 12) (h : timeB t = true) (hr : revB r = true) (hF : F = []) (hb : x.b = 0) (hc0 : x.c ≠ 0) (w : World) : Gives 27 #[.string (ba v)] w (splitV ([], [], [], false)) := by
  unfold Gives
  have sp := ba_size x.pre
  have HP := hide hp
  obtain ⟨T, hT⟩ : ∃ T, t ++ 45 :: r = T := ⟨_, rfl⟩
  have lT : T.length = 27 := by rw [← hT]; simp; omega
  have sT := ba_size T
  rw [hT] at hP
  have lP : x.pre.length = F.length + 27 := by rw [hP]; simp; omega
  have lv := (parseV_some hp).1
  have lp : x.pre.length ≤ 60 := by
    obtain ⟨_, _, _, l4, h | h⟩ := parse_form hp
    · rw [h.1]; simp
    · have := congrArg List.length h.2
      simp at this
      omega
  have lF : F.length ≤ 33 := by omega
  clear lp
  have sv := ba_size v
  have sF := ba_size F
  have hx1 : (ba x.pre).extract F.length (F.length + 27) = ba T := by
    rw [sub_of, hP, List.drop_left, List.take_of_length_le (by omega)]
  have hx2 : (ba x.pre).extract 0 F.length = ba F := by rw [sub_of, hP]; simp
  have hx3 : (ba T).extract 0 14 = ba t := by rw [sub_of, ← hT]; simp [← lt]
  have hx4 : (ba T).extract 15 27 = ba r := by
    rw [sub_of, ← hT]
    have : (t ++ 45 :: r).drop 15 = r := by rw [List.drop_append, lt]; simp [lt]
    rw [this, List.take_of_length_le (by simp; omega)]
  have l14 : 14 < T.length := by omega
  have hc : (ba T)[14]'(by rw [sT]; exact l14) = 45 := by rw [ba_get T 14 l14]; simp [← hT, ← lt]
  have H1 := hide h
  have H2 := hide hr
  have hlF : (ba F).toList = [] := by rw [ba_list, hF]
  have hb1 : ((x.c : Int) != 0) = true := by simp; omega
  clear hp hP hT h hr hF hc0
  go_enter Tryz.func27, Tryz.ntmps27
  go_wp2_with (go_at_call 19; fail)
  refine (refParts_some (unhide HP) _).mono ?_
  rintro e w1 ⟨rfl, b1⟩
  go_wp2_with (go_at_call 67; fail)
  refine (moment_is (unhide H1) _).mono ?_
  rintro e w2 ⟨rfl, b2⟩
  have b2 := below_trans b1 b2
  clear b1
  go_wp2_with (go_at_call 68; refine (refRev_is (unhide H2) (by omega) _).mono ?_; rintro e w2 ⟨rfl, hw⟩; rw [hw]; clear hw w2)
  exact bodyPost_ret (v := splitV ([], [], [], false)) (by simp [results, Tryz.results27, go_sem, splitV, ba]) rfl ⟨rfl, b2⟩

set_option maxHeartbeats 1000000 in
theorem rsp_bare_y {v F t r : Str} {x : Ver} (hp : parseV v = some x) (hP : x.pre = F ++ (t ++ 45 :: r)) (lt : t.length = 14) (lr : r.length = 12) (h : timeB t = true) (hr : revB r = true) (hF : F = []) (hb : x.b = 0) (hc0 : x.c = 0) (w : World) : Gives 27 #[.string (ba v)] w (splitV ([], t, r, true)) := by
  unfold Gives
  have sp := ba_size x.pre
  have HP := hide hp
  obtain ⟨T, hT⟩ : ∃ T, t ++ 45 :: r = T := ⟨_, rfl⟩
  have lT : T.length = 27 := by rw [← hT]; simp; omega
  have sT := ba_size T
  rw [hT] at hP
  have lP : x.pre.length = F.length + 27 := by rw [hP]; simp; omega
  have lv := (parseV_some hp).1
  have lp : x.pre.length ≤ 60 := by
    obtain ⟨_, _, _, l4, h | h⟩ := parse_form hp
    · rw [h.1]; simp
    · have := congrArg List.length h.2
      simp at this
      omega
  have lF : F.length ≤ 33 := by omega
  clear lp
  have sv := ba_size v
  have sF := ba_size F
  have hx1 : (ba x.pre).extract F.length (F.length + 27) = ba T := by
    rw [sub_of, hP, List.drop_left, List.take_of_length_le (by omega)]
  have hx2 : (ba x.pre).extract 0 F.length = ba F := by rw [sub_of, hP]; simp
  have hx3 : (ba T).extract 0 14 = ba t := by rw [sub_of, ← hT]; simp [← lt]
  have hx4 : (ba T).extract 15 27 = ba r := by
    rw [sub_of, ← hT]
    have : (t ++ 45 :: r).drop 15 = r := by rw [List.drop_append, lt]; simp [lt]
    rw [this, List.take_of_length_le (by simp; omega)]
  have l14 : 14 < T.length := by omega
  have hc : (ba T)[14]'(by rw [sT]; exact l14) = 45 := by rw [ba_get T 14 l14]; simp [← hT, ← lt]
  have H1 := hide h
  have H2 := hide hr
  have hlF : (ba F).toList = [] := by rw [ba_list, hF]
  clear hp hP hT h hr hF
  go_enter Tryz.func27, Tryz.ntmps27
  go_wp2_with (go_at_call 19; fail)
  refine (refParts_some (unhide HP) _).mono ?_
  rintro e w1 ⟨rfl, b1⟩
  go_wp2_with (go_at_call 67; fail)
  refine (moment_is (unhide H1) _).mono ?_
  rintro e w2 ⟨rfl, b2⟩
  have b2 := below_trans b1 b2
  clear b1
  go_wp2_with (go_at_call 68; refine (refRev_is (unhide H2) (by omega) _).mono ?_; rintro e w2 ⟨rfl, hw⟩; rw [hw]; clear hw w2)
  exact bodyPost_ret (v := splitV ([], t, r, true)) (by simp [results, Tryz.results27, go_sem, splitV, ba]) rfl ⟨rfl, b2⟩

set_option maxHeartbeats 1000000 in
theorem rsp_zero_n {v F t r : Str} {x : Ver} (hp : parseV v = some x) (hP : x.pre = F ++ (t ++ 45 :: r)) (lt : t.length = 14) (lr : r.length = 12) (h : timeB t = true) (hr : revB r = true) (hF : F = [48, 46]) (hc0 : x.c = 0) (w : World) : Gives 27 #[.string (ba v)] w (splitV ([], [], [], false)) := by
  unfold Gives
  have sp := ba_size x.pre
  have HP := hide hp
  obtain ⟨T, hT⟩ : ∃ T, t ++ 45 :: r = T := ⟨_, rfl⟩
  have lT : T.length = 27 := by rw [← hT]; simp; omega
  have sT := ba_size T
  rw [hT] at hP
  have lP : x.pre.length = F.length + 27 := by rw [hP]; simp; omega
  have lv := (parseV_some hp).1
  have lp : x.pre.length ≤ 60 := by
    obtain ⟨_, _, _, l4, h | h⟩ := parse_form hp
    · rw [h.1]; simp
    · have := congrArg List.length h.2
      simp at this
      omega
  have lF : F.length ≤ 33 := by omega
  clear lp
  have sv := ba_size v
  have sF := ba_size F
  have hx1 : (ba x.pre).extract F.length (F.length + 27) = ba T := by
    rw [sub_of, hP, List.drop_left, List.take_of_length_le (by omega)]
  have hx2 : (ba x.pre).extract 0 F.length = ba F := by rw [sub_of, hP]; simp
  have hx3 : (ba T).extract 0 14 = ba t := by rw [sub_of, ← hT]; simp [← lt]
  have hx4 : (ba T).extract 15 27 = ba r := by
    rw [sub_of, ← hT]
    have : (t ++ 45 :: r).drop 15 = r := by rw [List.drop_append, lt]; simp [lt]
    rw [this, List.take_of_length_le (by simp; omega)]
  have l14 : 14 < T.length := by omega
  have hc : (ba T)[14]'(by rw [sT]; exact l14) = 45 := by rw [ba_get T 14 l14]; simp [← hT, ← lt]
  have H1 := hide h
  have H2 := hide hr
  have hlF : (ba F).toList = [48, 46] := by rw [ba_list, hF]
  clear hp hP hT h hr hF
  go_enter Tryz.func27, Tryz.ntmps27
  go_wp2_with (go_at_call 19; fail)
  refine (refParts_some (unhide HP) _).mono ?_
  rintro e w1 ⟨rfl, b1⟩
  go_wp2_with (go_at_call 67; fail)
  refine (moment_is (unhide H1) _).mono ?_
  rintro e w2 ⟨rfl, b2⟩
  have b2 := below_trans b1 b2
  clear b1
  go_wp2_with (go_at_call 68; refine (refRev_is (unhide H2) (by omega) _).mono ?_; rintro e w2 ⟨rfl, hw⟩; rw [hw]; clear hw w2)
  exact bodyPost_ret (v := splitV ([], [], [], false)) (by simp [results, Tryz.results27, go_sem, splitV, ba]) rfl ⟨rfl, b2⟩

set_option maxHeartbeats 1000000 in
theorem rsp_ends_n {v F t r : Str} {x : Ver} (hp : parseV v = some x) (hP : x.pre = F ++ (t ++ 45 :: r)) (lt : t.length = 14) (lr : r.length = 12) (h : timeB t = true) (hr : revB r = true) (hF : F ≠ []) (hF2 : F ≠ [48, 46]) (hs : Lib.hasSuffix F [46, 48, 46] = false) (w : World) : Gives 27 #[.string (ba v)] w (splitV ([], [], [], false)) := by
  unfold Gives
  have sp := ba_size x.pre
  have HP := hide hp
  obtain ⟨T, hT⟩ : ∃ T, t ++ 45 :: r = T := ⟨_, rfl⟩
  have lT : T.length = 27 := by rw [← hT]; simp; omega
  have sT := ba_size T
  rw [hT] at hP
  have lP : x.pre.length = F.length + 27 := by rw [hP]; simp; omega
  have lv := (parseV_some hp).1
  have lp : x.pre.length ≤ 60 := by
    obtain ⟨_, _, _, l4, h | h⟩ := parse_form hp
    · rw [h.1]; simp
    · have := congrArg List.length h.2
      simp at this
      omega
  have lF : F.length ≤ 33 := by omega
  clear lp
  have sv := ba_size v
  have sF := ba_size F
  have hx1 : (ba x.pre).extract F.length (F.length + 27) = ba T := by
    rw [sub_of, hP, List.drop_left, List.take_of_length_le (by omega)]
  have hx2 : (ba x.pre).extract 0 F.length = ba F := by rw [sub_of, hP]; simp
  have hx3 : (ba T).extract 0 14 = ba t := by rw [sub_of, ← hT]; simp [← lt]
  have hx4 : (ba T).extract 15 27 = ba r := by
    rw [sub_of, ← hT]
    have : (t ++ 45 :: r).drop 15 = r := by rw [List.drop_append, lt]; simp [lt]
    rw [this, List.take_of_length_le (by simp; omega)]
  have l14 : 14 < T.length := by omega
  have hc : (ba T)[14]'(by rw [sT]; exact l14) = 45 := by rw [ba_get T 14 l14]; simp [← hT, ← lt]
  have H1 := hide h
  have H2 := hide hr
  have hlF := ba_list F
  have hF0 : F.isEmpty = false := by simpa using hF
  have hF1 : (F == [48, 46]) = false := by simpa using hF2
  have H3 := hide hs
  clear hp hP hT h hr hF hF2 hs
  go_enter Tryz.func27, Tryz.ntmps27
  go_wp2_with (go_at_call 19; fail)
  refine (refParts_some (unhide HP) _).mono ?_
  rintro e w1 ⟨rfl, b1⟩
  go_wp2_with (go_at_call 67; fail)
  refine (moment_is (unhide H1) _).mono ?_
  rintro e w2 ⟨rfl, b2⟩
  have b2 := below_trans b1 b2
  clear b1
  go_wp2_with (first | (go_at_call 68; refine (refRev_is (unhide H2) (by omega) _).mono ?_; rintro e w2 ⟨rfl, hw⟩; rw [hw]; clear hw w2) | (go_at_call 74; refine (ends_is (u := [46, 48, 46]) (unhide H3) (by omega) _).mono ?_; rintro e w2 ⟨rfl, hw⟩; rw [hw]; clear hw w2))
  exact bodyPost_ret (v := splitV ([], [], [], false)) (by simp [results, Tryz.results27, go_sem, splitV, ba]) rfl ⟨rfl, b2⟩

set_option maxHeartbeats 1000000 in
theorem rsp_ends_y {v F t r : Str} {x : Ver} (hp : parseV v = some x) (hP : x.pre = F ++ (t ++ 45 :: r)) (lt : t.length = 14) (lr : r.length = 12) (h : timeB t = true) (hr : revB r = true) {n : Nat} {U : Str} (hF : F ≠ []) (hF2 : F ≠ [48, 46]) (hs : Lib.hasSuffix F [46, 48, 46] = true) (hn : v.length = n + 30) (hU : v.take n = U) (w : World) : Gives 27 #[.string (ba v)] w (splitV (U, t, r, true)) := by
  unfold Gives
  have sp := ba_size x.pre
  have HP := hide hp
  obtain ⟨T, hT⟩ : ∃ T, t ++ 45 :: r = T := ⟨_, rfl⟩
  have lT : T.length = 27 := by rw [← hT]; simp; omega
  have sT := ba_size T
  rw [hT] at hP
  have lP : x.pre.length = F.length + 27 := by rw [hP]; simp; omega
  have lv := (parseV_some hp).1
  have lp : x.pre.length ≤ 60 := by
    obtain ⟨_, _, _, l4, h | h⟩ := parse_form hp
    · rw [h.1]; simp
    · have := congrArg List.length h.2
      simp at this
      omega
  have lF : F.length ≤ 33 := by omega
  clear lp
  have sv := ba_size v
  have sF := ba_size F
  have hx1 : (ba x.pre).extract F.length (F.length + 27) = ba T := by
    rw [sub_of, hP, List.drop_left, List.take_of_length_le (by omega)]
  have hx2 : (ba x.pre).extract 0 F.length = ba F := by rw [sub_of, hP]; simp
  have hx3 : (ba T).extract 0 14 = ba t := by rw [sub_of, ← hT]; simp [← lt]
  have hx4 : (ba T).extract 15 27 = ba r := by
    rw [sub_of, ← hT]
    have : (t ++ 45 :: r).drop 15 = r := by rw [List.drop_append, lt]; simp [lt]
    rw [this, List.take_of_length_le (by simp; omega)]
  have l14 : 14 < T.length := by omega
  have hc : (ba T)[14]'(by rw [sT]; exact l14) = 45 := by rw [ba_get T 14 l14]; simp [← hT, ← lt]
  have H1 := hide h
  have H2 := hide hr
  have hlF := ba_list F
  have hF0 : F.isEmpty = false := by simpa using hF
  have hF1 : (F == [48, 46]) = false := by simpa using hF2
  have H3 := hide hs
  have hxv : (ba v).extract 0 n = ba U := by rw [sub_of, ← hU]; simp only [Nat.sub_zero, List.drop_zero]
  clear hp hP hT h hr hF hF2 hs hU
  go_enter Tryz.func27, Tryz.ntmps27
  go_wp2_with (go_at_call 19; fail)
  refine (refParts_some (unhide HP) _).mono ?_
  rintro e w1 ⟨rfl, b1⟩
  go_wp2_with (go_at_call 67; fail)
  refine (moment_is (unhide H1) _).mono ?_
  rintro e w2 ⟨rfl, b2⟩
  have b2 := below_trans b1 b2
  clear b1
  go_wp2_with (first | (go_at_call 68; refine (refRev_is (unhide H2) (by omega) _).mono ?_; rintro e w2 ⟨rfl, hw⟩; rw [hw]; clear hw w2) | (go_at_call 74; refine (ends_is (u := [46, 48, 46]) (unhide H3) (by omega) _).mono ?_; rintro e w2 ⟨rfl, hw⟩; rw [hw]; clear hw w2))
  exact bodyPost_ret (v := splitV (U, t, r, true)) (by simp [results, Tryz.results27, go_sem, splitV, hxv]) rfl ⟨rfl, b2⟩

set_option maxHeartbeats 1000000 in
theorem rsp_zero_y {v F t r : Str} {x : Ver} (hp : parseV v = some x) (hP : x.pre = F ++ (t ++ 45 :: r)) (lt : t.length = 14) (lr : r.length = 12) (h : timeB t = true) (hr : revB r = true) {k : Nat} {U : Str} (hF : F = [48, 46]) (hk : x.c = k + 1) (hU : releaseL x.a x.b k = U) {w : World} (hg : Gd w) : Gives 27 #[.string (ba v)] w (splitV (U, t, r, true)) := by
  unfold Gives
  have sp := ba_size x.pre
  have HP := hide hp
  obtain ⟨T, hT⟩ : ∃ T, t ++ 45 :: r = T := ⟨_, rfl⟩
  have lT : T.length = 27 := by rw [← hT]; simp; omega
  have sT := ba_size T
  rw [hT] at hP
  have lP : x.pre.length = F.length + 27 := by rw [hP]; simp; omega
  have lv := (parseV_some hp).1
  have lp : x.pre.length ≤ 60 := by
    obtain ⟨_, _, _, l4, h | h⟩ := parse_form hp
    · rw [h.1]; simp
    · have := congrArg List.length h.2
      simp at this
      omega
  have lF : F.length ≤ 33 := by omega
  clear lp
  have sv := ba_size v
  have sF := ba_size F
  have hx1 : (ba x.pre).extract F.length (F.length + 27) = ba T := by
    rw [sub_of, hP, List.drop_left, List.take_of_length_le (by omega)]
  have hx2 : (ba x.pre).extract 0 F.length = ba F := by rw [sub_of, hP]; simp
  have hx3 : (ba T).extract 0 14 = ba t := by rw [sub_of, ← hT]; simp [← lt]
  have hx4 : (ba T).extract 15 27 = ba r := by
    rw [sub_of, ← hT]
    have : (t ++ 45 :: r).drop 15 = r := by rw [List.drop_append, lt]; simp [lt]
    rw [this, List.take_of_length_le (by simp; omega)]
  have l14 : 14 < T.length := by omega
  have hc : (ba T)[14]'(by rw [sT]; exact l14) = 45 := by rw [ba_get T 14 l14]; simp [← hT, ← lt]
  have H1 := hide h
  have H2 := hide hr
  have hlF : (ba F).toList = [48, 46] := by rw [ba_list, hF]
  obtain ⟨la, lb, lc, _, _⟩ := parse_form hp
  have lA := decDigits_length10 (u := x.a) (by omega)
  have lD := decDigits_length10 (u := x.b) (by omega)
  have lE := decDigits_length10 (u := k) (by omega)
  obtain ⟨A, hA⟩ : ∃ A, Lib.decDigits x.a = A := ⟨_, rfl⟩
  obtain ⟨D, hD⟩ : ∃ D, Lib.decDigits x.b = D := ⟨_, rfl⟩
  obtain ⟨E, hE⟩ : ∃ E, Lib.decDigits k = E := ⟨_, rfl⟩
  rw [hA] at lA
  rw [hD] at lD
  rw [hE] at lE
  have sA := ba_size A
  have sD := ba_size D
  have sE := ba_size E
  obtain ⟨s1, t1, c1, d1, k1⟩ := cat [118] A
  obtain ⟨s2, t2, c2, d2, k2⟩ := cat s1 [46]
  obtain ⟨s3, t3, c3, d3, k3⟩ := cat s2 D
  obtain ⟨s4, t4, c4, d4, k4⟩ := cat s3 [46]
  obtain ⟨s5, t5, c5, d5, k5⟩ := cat s4 E
  have c1 : (⟨#[118]⟩ : ByteArray) ++ ba A = ba s1 := c1
  have c2 : ba s1 ++ (⟨#[46]⟩ : ByteArray) = ba s2 := c2
  have c4 : ba s3 ++ (⟨#[46]⟩ : ByteArray) = ba s4 := c4
  simp only [List.length_cons, List.length_nil, Nat.zero_add] at k1 k2 k4
  have e5 : U = s5 := by
    rw [← hU, t5, t4, t3, t2, t1, ← hA, ← hD, ← hE]
    simp [releaseL]
  rw [e5]
  have HA := hide hA
  have HD := hide hD
  have HE := hide hE
  clear hp hP hT h hr hF hU e5 t1 t2 t3 t4 t5 hA hD hE
  go_enter Tryz.func27, Tryz.ntmps27
  go_wp2_with (go_at_call 19; fail)
  refine (refParts_some (unhide HP) _).mono ?_
  rintro e w1 ⟨rfl, b1⟩
  go_wp2_with (go_at_call 67; fail)
  refine (moment_is (unhide H1) _).mono ?_
  rintro e w2 ⟨rfl, b2⟩
  have b2 := below_trans b1 b2
  clear b1
  go_wp2_with (first | (go_at_call 68; refine (refRev_is (unhide H2) (by omega) _).mono ?_; rintro e w2 ⟨rfl, hw⟩; rw [hw]; clear hw w2) | (go_at_call 69; fail))
  refine (itoa_any (unhide HA) (by omega) (hg.below b2)).mono ?_
  rintro e w3 ⟨rfl, b3⟩
  have b3 := below_trans b2 b3
  clear b2
  go_wp2_with (go_at_call 69; fail)
  refine (itoa_any (unhide HD) (by omega) (hg.below b3)).mono ?_
  rintro e w4 ⟨rfl, b4⟩
  have b4 := below_trans b3 b4
  clear b3
  go_wp2_with (go_at_call 69; fail)
  refine (itoa_any (n := k) (unhide HE) (by omega) (hg.below b4)).mono ?_
  rintro e w5 ⟨rfl, b5⟩
  have b5 := below_trans b4 b5
  clear b4
  go_wp2
  exact bodyPost_ret (v := splitV (s5, t, r, true)) (by simp [results, Tryz.results27, go_sem, splitV]) rfl ⟨rfl, b5⟩

theorem refSplit_any {v : Str} {w : World} (hg : Gd w) : Gives 27 #[.string (ba v)] w (splitV (splitPR v)) := by
  rw [split_same]
  unfold splitT
  cases hp : parseV v with
  | none => exact rsp_none hp w
  | some x =>
    simp only
    by_cases hl : x.pre.length < 27
    · have e : tailOk x.pre = false := by unfold tailOk; simp; omega
      rw [e]
      exact rsp_short hp hl w
    · obtain ⟨F, hF⟩ : ∃ F, frontOf x.pre = F := ⟨_, rfl⟩
      obtain ⟨T, hT⟩ : ∃ T, tailOf x.pre = T := ⟨_, rfl⟩
      obtain ⟨t, ht⟩ : ∃ t, T.take 14 = t := ⟨_, rfl⟩
      obtain ⟨r, hr⟩ : ∃ r, T.drop 15 = r := ⟨_, rfl⟩
      have lT : T.length = 27 := by rw [← hT]; simp [tailOf]; omega
      obtain ⟨c, hc⟩ : ∃ c, T[14]'(by omega) = c := ⟨_, rfl⟩
      have eT : T = t ++ c :: r := by
        have h1 : T.drop 14 = c :: r := by rw [← hr, ← hc]; exact List.drop_eq_getElem_cons (by omega)
        rw [← h1, ← ht, List.take_append_drop]
      have hP : x.pre = F ++ (t ++ c :: r) := by
        rw [← eT, ← hF, ← hT]; unfold frontOf tailOf; rw [List.take_append_drop]
      have lt : t.length = 14 := by rw [← ht]; simp; omega
      have lr : r.length = 12 := by rw [← hr]; simp; omega
      have hg14 : T.getD 14 0 = c := by simp [List.getD, ← hc, lT]
      have hk : tailOk x.pre = (decide (c = 45) && timeB t && revB r) := by
        unfold tailOk
        rw [hT, hg14, ht, hr]
        have : 27 ≤ x.pre.length := by omega
        simp [this]
      rw [hk, hT, ht, hr]
      by_cases h45 : c = 45
      · subst h45
        cases h1 : timeB t with
        | false => exact rsp_time hp hP lt lr h1 w
        | true =>
          cases h2 : revB r with
          | false => exact rsp_rev hp hP lt lr h1 h2 w
          | true =>
            simp only [decide_true, Bool.and_self, if_true]
            unfold baseT
            rw [hF]
            by_cases f0 : F = []
            · rw [if_pos f0]
              by_cases hb : x.b = 0
              · by_cases hc0 : x.c = 0
                · rw [if_pos ⟨hb, hc0⟩]; exact rsp_bare_y hp hP lt lr h1 h2 f0 hb hc0 w
                · rw [if_neg (fun h => hc0 h.2)]; exact rsp_bare_c hp hP lt lr h1 h2 f0 hb hc0 w
              · rw [if_neg (fun h => hb h.1)]; exact rsp_bare_b hp hP lt lr h1 h2 f0 hb w
            · rw [if_neg f0]
              by_cases f1 : F = [48, 46]
              · rw [if_pos f1]
                by_cases hc0 : x.c = 0
                · rw [if_pos hc0]; exact rsp_zero_n hp hP lt lr h1 h2 f1 hc0 w
                · rw [if_neg hc0]; exact rsp_zero_y hp hP lt lr h1 h2 f1 (k := x.c - 1) (by omega) rfl hg
              · rw [if_neg f1]
                cases hs : Lib.hasSuffix F [46, 48, 46] with
                | false => exact rsp_ends_n hp hP lt lr h1 h2 f0 f1 hs w
                | true =>
                  have lF : 3 ≤ F.length := by
                    rw [← Lib.hasSuffix_of_drop] at hs
                    simp only [Bool.and_eq_true, decide_eq_true_eq] at hs
                    exact hs.1
                  have lv : 30 ≤ v.length := by
                    have e := congrArg List.length hP
                    simp at e
                    obtain ⟨_, _, _, _, h | h⟩ := parse_form hp
                    · rw [h.1] at e; simp at e
                    · rw [h.2]; simp; omega
                  exact rsp_ends_y hp hP lt lr h1 h2 f0 f1 hs (n := v.length - 30) (by omega) rfl w
      · have e : (decide (c = 45) && timeB t && revB r) = false := by simp [h45]
        rw [e]
        exact rsp_mid hp hP lt lr h45 w

end Go.Proofs.YtcmafidnaojkiaaGreatDoor
