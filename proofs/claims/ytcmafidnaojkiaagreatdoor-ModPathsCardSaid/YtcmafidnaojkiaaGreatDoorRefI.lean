/-
  The reference's host, suffix, LastSlash and SplitMajor: the contracts.
-/
import Derived.Test.YtcmafidnaojkiaaGreatDoorRefH
namespace Go.Proofs.YtcmafidnaojkiaaGreatDoor
open Go.RowKit

theorem host_of {c : UInt8} (h : pathB c = true) : hostB c = !(upperB c || ((c.toNat : Int) == 95) || ((c.toNat : Int) == 126)) := by
  have e3 : ((c.toNat : Int) == 95) = decide (c.toNat = 95) := eqI c 95
  have e4 : ((c.toNat : Int) == 126) = decide (c.toNat = 126) := eqI c 126
  rw [e3, e4]
  unfold pathB hostB at h
  unfold hostB
  unfold upperB lowerB digitB at *
  rw [Bool.eq_iff_iff]
  simp only [Bool.or_eq_true, Bool.and_eq_true, decide_eq_true_eq, Bool.not_eq_true', Bool.or_eq_false_iff, Bool.and_eq_false_iff, decide_eq_false_iff_not] at *
  omega

theorem take_dot {l : Str} {k : Nat} (h : k < l.length) : (l.take (k + 1)).contains 46 = ((l.take k).contains 46 || ((l[k].toNat : Int) == 46)) := by
  rw [List.take_add_one, List.getElem?_eq_getElem h]
  have e : ((l[k].toNat : Int) == 46) = (l[k] == 46) := (u8_eq l[k] 46).symm
  have e2 : [l[k]].contains 46 = (l[k] == 46) := by
    simp only [List.contains_cons, List.contains_nil, Bool.or_false]
    exact BEq.comm
  rw [e, ← e2]
  exact contains_append _ _ _

theorem hostOk_at {l : Str} (h : 0 < l.length) : hostOk l = (l.contains 46 && ((l[0].toNat : Int) != 45) && l.all hostB) := by
  unfold hostOk
  rw [prefix_at 45 h]; rfl

set_option maxHeartbeats 2000000 in
theorem refHost_any {l : Str} (h0 : 0 < l.length) (hpath : l.all pathB = true) (hl : l.length ≤ 4294967281) (w : World) : Calls Tryz.prog 83 #[.string (ba l)] w fun e w' => e = .returned (.bool (hostOk l)) ∧ w' = w := by
  have hsz : (ba l).size = l.length := ba_size l
  have HP := hide hpath
  have HO := hide (hostOk_at h0)
  clear hpath
  go_enter Tryz.func83, Tryz.ntmps83
  go_wp2
  go_loop [3, 4] (fun d i => ∃ k : Nat, k ≤ l.length ∧ d = .bool ((l.take k).contains 46) ∧ i = .int .i64 k ∧ (l.take k).all hostB = true) (fun _ i => l.length - (intOf i).toNat)
  case atStart => exact ⟨0, Nat.zero_le _, rfl, rfl, rfl⟩
  case round =>
    obtain ⟨k, hk, hd, rfl, hall⟩ := hrel
    obtain ⟨D, hD⟩ : ∃ D, (l.take k).contains 46 = D := ⟨_, rfl⟩
    rw [hD] at hd
    subst hd
    have HD := hide hD
    have HA := hide hall
    clear hall hD
    by_cases hlt : k < l.length
    · have hg := ba_get l k hlt
      have hpk : pathB l[k] = true := List.all_eq_true.1 (unhide HP) _ (List.getElem_mem hlt)
      have hho := host_of hpk
      have htd := take_dot hlt
      clear hpk
      cases hu : upperB l[k] with
      | true =>
        have HN : Hid (hostOk l = false) := by
          show hostOk l = false
          rw [unhide HO, all_no8 hlt (by rw [hho, hu]; rfl)]; simp
        have HU := hide hu
        clear hho htd hu HA
        go_wp2_with (go_at_call 91; refine (asks_is (unhide HU) refUpper_asks _).mono ?_; rintro e w1 ⟨rfl, hw⟩; rw [hw]; clear hw w1)
        go_ret
        exact ⟨ret_bool (unhide HN).symm, rfl⟩
      | false =>
        cases h95 : ((l[k].toNat : Int) == 95) with
        | true =>
          have HN : Hid (hostOk l = false) := by
            show hostOk l = false
            rw [unhide HO, all_no8 hlt (by rw [hho, hu, h95]; rfl)]; simp
          have HU := hide hu
          clear hho htd hu HA
          go_wp2_with (go_at_call 91; refine (asks_is (unhide HU) refUpper_asks _).mono ?_; rintro e w1 ⟨rfl, hw⟩; rw [hw]; clear hw w1)
          go_ret
          exact ⟨ret_bool (unhide HN).symm, rfl⟩
        | false =>
          cases h126 : ((l[k].toNat : Int) == 126) with
          | true =>
            have HN : Hid (hostOk l = false) := by
              show hostOk l = false
              rw [unhide HO, all_no8 hlt (by rw [hho, hu, h95, h126]; rfl)]; simp
            have HU := hide hu
            clear hho htd hu HA
            go_wp2_with (go_at_call 91; refine (asks_is (unhide HU) refUpper_asks _).mono ?_; rintro e w1 ⟨rfl, hw⟩; rw [hw]; clear hw w1)
            go_ret
            exact ⟨ret_bool (unhide HN).symm, rfl⟩
          | false =>
            have HF := hide (all_take8 (unhide HA) hlt (by rw [hho, hu, h95, h126]; rfl))
            have HU := hide hu
            rw [unhide HD] at htd
            have HT := hide htd
            clear hho htd hu HA
            cases D with
            | true =>
              go_wp2_with (go_at_call 91; refine (asks_is (unhide HU) refUpper_asks _).mono ?_; rintro e w1 ⟨rfl, hw⟩; rw [hw]; clear hw w1)
              go_round
              case rel => exact ⟨k + 1, hlt, by rw [unhide HT]; rfl, by simp, unhide HF⟩
              case measure => simp [intOf]; omega
            | false =>
              go_wp2_with (go_at_call 91; refine (asks_is (unhide HU) refUpper_asks _).mono ?_; rintro e w1 ⟨rfl, hw⟩; rw [hw]; clear hw w1)
              go_round
              case rel => exact ⟨k + 1, hlt, by rw [unhide HT]; rfl, by simp, unhide HF⟩
              case measure => simp [intOf]; omega
    · have hke : k = l.length := by omega
      subst hke
      have HN : Hid (hostOk l = (D && ((l[0].toNat : Int) != 45))) := by
        have h1 := unhide HA
        have h2 := unhide HD
        rw [List.take_length] at h1 h2
        show hostOk l = _
        rw [unhide HO, h1, h2, Bool.and_true]
      have hg0 := ba_get l 0 h0
      clear HA HD
      cases D with
      | true =>
        go_wp2
        go_ret
        exact ⟨ret_bool (unhide HN).symm, rfl⟩
      | false =>
        go_wp2
        go_ret
        exact ⟨ret_bool (unhide HN).symm, rfl⟩
theorem refHost_is {l : Str} {b : Bool} (h : hostOk l = b) (h0 : 0 < l.length) (hpath : l.all pathB = true) (hl : l.length ≤ 4294967281) (w : World) : Calls Tryz.prog 83 #[.string (ba l)] w fun e w' => e = .returned (.bool b) ∧ w' = w := by rw [← h]; exact refHost_any h0 hpath hl w

/-- A last element that names a major version. -/
def sufR (s : Str) : Nat × Bool := if Lib.hasPrefix s [118] && numOk (s.drop 1) then (numVal (s.drop 1), decide (2 ≤ numVal (s.drop 1))) else (0, false)
def sufV (r : Nat × Bool) : Value := .tuple #[.int .i64 (r.1 : Int), .bool r.2]

theorem numOk_nil : numOk [] = false := by decide

theorem sufR_short {s : Str} (h : s.length < 2) : sufR s = (0, false) := by
  unfold sufR
  have e : s.drop 1 = [] := List.drop_of_length_le (by omega)
  rw [e, numOk_nil]; simp

theorem suf_any {s : Str} (hl : s.length ≤ 4294967281) (w : World) : Calls Tryz.prog 78 #[.string (ba s)] w fun e w' => e = .returned (sufV (sufR s)) ∧ w' = w := by
  have hsz : (ba s).size = s.length := ba_size s
  by_cases h2 : s.length < 2
  · have HN := hide (sufR_short h2)
    go_enter Tryz.func78, Tryz.ntmps78
    go_wp2
    go_ret2
    rw [unhide HN]
    exact ⟨rfl, rfl⟩
  · have h0 : 0 < s.length := by omega
    have h2' : ¬ (s.length : Int) < 2 := by omega
    have hpx := prefix_at 118 h0
    have hg0 := ba_get s 0 h0
    have hx : (ba s).extract 1 s.length = ba (s.drop 1) := by rw [sub_of, List.take_of_length_le (by simp)]
    obtain ⟨u, hu⟩ : ∃ u, s.drop 1 = u := ⟨_, rfl⟩
    have lu : u.length < s.length := by rw [← hu]; simp; omega
    have hsr : sufR s = if Lib.hasPrefix s [118] && numOk u then (numVal u, decide (2 ≤ numVal u)) else (0, false) := by unfold sufR; rw [hu]
    rw [hu] at hx
    cases hp : ((s[0].toNat : Int) == 118) with
    | false =>
      have hp2 : Lib.hasPrefix s [118] = false := hpx.trans hp
      have HN : Hid (sufR s = (0, false)) := by show sufR s = _; rw [hsr, hp2]; simp
      have hq : ((s[0].toNat : Int) != 118) = true := by rw [bne, hp]; rfl
      clear hsr hp2 hpx hp hu
      go_enter Tryz.func78, Tryz.ntmps78
      go_wp2
      go_ret2
      rw [unhide HN]
      exact ⟨rfl, rfl⟩
    | true =>
      have hp2 : Lib.hasPrefix s [118] = true := hpx.trans hp
      have hq : ((s[0].toNat : Int) != 118) = false := by rw [bne, hp]; rfl
      cases hn : numOk u with
      | false =>
        have HN : Hid (sufR s = (0, false)) := by show sufR s = _; rw [hsr, hn]; simp
        have HU := hide hn
        clear hsr hp2 hpx hp hu hn
        go_enter Tryz.func78, Tryz.ntmps78
        go_wp2_with (go_at_call 54; refine (refNumber_is (unhide HU) (by omega) _).mono ?_; rintro e w1 ⟨rfl, hw⟩; rw [hw]; clear hw w1)
        go_ret2
        rw [unhide HN]
        exact ⟨rfl, rfl⟩
      | true =>
        have hdd : decide (2 ≤ numVal u) = decide ((2 : Int) ≤ (numVal u : Int)) := by rw [Bool.eq_iff_iff]; simp; omega
        have HN : Hid (sufR s = (numVal u, decide ((2 : Int) ≤ (numVal u : Int)))) := by show sufR s = _; rw [hsr, hp2, hn, hdd]; rfl
        have HU := hide hn
        clear hsr hp2 hpx hp hu hn hdd
        go_enter Tryz.func78, Tryz.ntmps78
        go_wp2_with (first | (go_at_call 54; refine (refNumber_is (unhide HU) (by omega) _).mono ?_; rintro e w1 ⟨rfl, hw⟩; rw [hw]; clear hw w1) | (go_at_call 56; fail))
        refine (refAtoi_ok (unhide HU) _).mono ?_
        rintro e w1 ⟨rfl, hw⟩
        rw [hw]
        clear hw w1
        go_wp2
        go_ret2
        rw [unhide HN]
        exact ⟨rfl, rfl⟩
theorem suf_is {s : Str} {r : Nat × Bool} (h : sufR s = r) (hl : s.length ≤ 4294967281) (w : World) : Calls Tryz.prog 78 #[.string (ba s)] w fun e w' => e = .returned (sufV r) ∧ w' = w := by rw [← h]; exact suf_any hl w

theorem last_none {l : Str} (h : l.contains 47 = false) (hl : l.length ≤ 4294967281) (w : World) : Calls Tryz.prog 77 #[.string (ba l)] w fun e w' => e = .returned (.int .i64 (-1)) ∧ w' = w := by
  have hsz : (ba l).size = l.length := ba_size l
  have HC : Hid (∀ k (hk : k < l.length), ((l[k].toNat : Int) == 47) = false) := by
    intro k hk
    rw [show (47 : Int) = ((47 : UInt8).toNat : Int) from rfl, ← u8_eq]
    cases hh : (l[k] == 47) with
    | false => rfl
    | true =>
      have : l.contains 47 = true := by
        rw [List.contains_iff_mem]
        have e : l[k] = 47 := by simpa using hh
        rw [← e]; exact List.getElem_mem hk
      rw [this] at h; cases h
  clear h
  go_enter Tryz.func77, Tryz.ntmps77
  go_wp2
  go_loop [3] (fun i => ∃ k : Nat, k ≤ l.length ∧ i = .int .i64 ((k : Int) - 1)) (fun i => (intOf i + 1).toNat)
  case atStart => exact ⟨l.length, Nat.le_refl _, rfl⟩
  case round =>
    obtain ⟨k, hk, rfl⟩ := hrel
    cases k with
    | zero =>
      go_wp2
      go_ret
      exact ⟨rfl, rfl⟩
    | succ j =>
      have hj : j < l.length := by omega
      have hg := ba_get l j hj
      have hne := (unhide HC) j hj
      have e1 : ((j + 1 : Nat) : Int) - 1 = (j : Int) := by omega
      rw [e1]
      go_wp2
      go_round
      case rel => exact ⟨j, by omega, rfl⟩
      case measure => simp [intOf]

theorem last_some {l f t : Str} (h : l = f ++ 47 :: t) (ht : t.contains 47 = false) (hl : l.length ≤ 4294967281) (w : World) : Calls Tryz.prog 77 #[.string (ba l)] w fun e w' => e = .returned (.int .i64 (f.length : Int)) ∧ w' = w := by
  have hsz : (ba l).size = l.length := ba_size l
  have lf : f.length < l.length := by rw [h]; simp
  have HC : Hid (∀ k (hk : k < l.length), f.length < k → ((l[k].toNat : Int) == 47) = false) := by
    intro k hk hf
    rw [show (47 : Int) = ((47 : UInt8).toNat : Int) from rfl, ← u8_eq]
    cases hh : (l[k] == 47) with
    | false => rfl
    | true =>
      have : t.contains 47 = true := by
        rw [List.contains_iff_mem]
        have e : l[k] = 47 := by simpa using hh
        have e2 : l[k]? = t[k - f.length - 1]? := by
          rw [h, List.getElem?_append_right (by omega)]
          obtain ⟨m, hm⟩ : ∃ m, k - f.length = m + 1 := ⟨k - f.length - 1, by omega⟩
          rw [hm]; rfl
        rw [List.getElem?_eq_getElem hk, e] at e2
        exact List.mem_of_getElem? e2.symm
      rw [this] at ht; cases ht
  have HH : Hid (∀ (hk : f.length < l.length), ((l[f.length].toNat : Int) == 47) = true) := by
    intro hk
    have e : l[f.length] = 47 := by
      have : l[f.length]? = some 47 := by rw [h]; simp
      rw [List.getElem?_eq_getElem hk] at this
      exact Option.some.inj this
    rw [e]; rfl
  clear h ht
  go_enter Tryz.func77, Tryz.ntmps77
  go_wp2
  go_loop [3] (fun i => ∃ k : Nat, k ≤ l.length ∧ f.length < k ∧ i = .int .i64 ((k : Int) - 1)) (fun i => (intOf i + 1).toNat)
  case atStart => exact ⟨l.length, Nat.le_refl _, lf, rfl⟩
  case round =>
    obtain ⟨k, hk, hfk, rfl⟩ := hrel
    cases k with
    | zero => omega
    | succ j =>
      have hj : j < l.length := by omega
      have hg := ba_get l j hj
      have e1 : ((j + 1 : Nat) : Int) - 1 = (j : Int) := by omega
      rw [e1]
      by_cases hjf : f.length < j
      · have hne := (unhide HC) j hj hjf
        go_wp2
        go_round
        case rel => exact ⟨j, by omega, hjf, rfl⟩
        case measure => simp [intOf]
      · have hje : j = f.length := by omega
        subst hje
        have hyes := (unhide HH) hj
        go_wp2
        go_ret
        exact ⟨rfl, rfl⟩

theorem majorR_alt (p : Str) : majorR p = match splitLast 47 p with | none => (p, 0) | some (f, t) => if (sufR t).2 then (f, (sufR t).1) else (p, 0) := by
  unfold majorR looksB sufR
  cases hs : splitLast 47 p with
  | none => simp
  | some ft =>
    obtain ⟨f, t⟩ := ft
    simp only
    have hnd : numOk (t.drop 1) = true → digitsB (t.drop 1) = true := by
      intro h
      unfold numOk at h
      simp only [Bool.and_eq_true] at h
      exact h.1.2
    cases h1 : Lib.hasPrefix t [118] with
    | false => simp
    | true =>
      cases h2 : numOk (t.drop 1) with
      | false => simp
      | true =>
        rw [hnd h2]
        simp

set_option maxHeartbeats 1000000 in
theorem refMajor_any {p : Str} (hl : p.length < 4294967281) (w : World) : Calls Tryz.prog 30 #[.string (ba p)] w fun e w' => e = .returned (.tuple #[.string (ba (majorR p).1), .int .i64 ((majorR p).2 : Int)]) ∧ w' = w := by
  have hsz : (ba p).size = p.length := ba_size p
  have hma := majorR_alt p
  cases hs : splitLast 47 p with
  | none =>
    rw [hs] at hma
    have HM := hide hma
    have HN := hide (splitLast_none.1 hs)
    rw [unhide HM]
    clear hma hs
    go_enter Tryz.func30, Tryz.ntmps30
    go_wp2_with (go_at_call 77; refine (last_none (unhide HN) (by omega) _).mono ?_; rintro e w1 ⟨rfl, hw⟩; rw [hw]; clear hw w1)
    go_ret2
    exact ⟨rfl, rfl⟩
  | some ft =>
    obtain ⟨f, t⟩ := ft
    obtain ⟨he, hf⟩ := splitLast_some.1 hs
    rw [hs] at hma
    simp only at hma
    have lp : p.length = f.length + (t.length + 1) := by rw [he]; simp
    have hx1 : (ba p).extract (f.length + 1) (f.length + (t.length + 1)) = ba t := by rw [← lp, he]; exact drop_from f t 47
    have hx2 : (ba p).extract 0 f.length = ba f := by rw [he]; exact take_to f t 47
    obtain ⟨n, ok, hr⟩ : ∃ n ok, sufR t = (n, ok) := ⟨_, _, rfl⟩
    rw [hr] at hma
    have HE := hide he
    have HF := hide hf
    have HR := hide hr
    cases hok : ok with
    | false =>
      rw [hok] at hma HR
      have HM := hide hma
      rw [unhide HM]
      clear hma hs he hf hr
      go_enter Tryz.func30, Tryz.ntmps30
      go_wp2_with (first | (go_at_call 77; refine (last_some (unhide HE) (unhide HF) (by omega) _).mono ?_; rintro e w1 ⟨rfl, hw⟩; rw [hw]; clear hw w1) | (go_at_call 78; fail))
      refine (suf_is (unhide HR) (by omega) _).mono ?_
      rintro e w1 ⟨rfl, hw⟩
      rw [hw]
      clear hw w1
      unfold sufV
      go_wp2
      go_ret2
      exact ⟨rfl, rfl⟩
    | true =>
      rw [hok] at hma HR
      have HM := hide hma
      rw [unhide HM]
      clear hma hs he hf hr
      go_enter Tryz.func30, Tryz.ntmps30
      go_wp2_with (first | (go_at_call 77; refine (last_some (unhide HE) (unhide HF) (by omega) _).mono ?_; rintro e w1 ⟨rfl, hw⟩; rw [hw]; clear hw w1) | (go_at_call 78; fail))
      refine (suf_is (unhide HR) (by omega) _).mono ?_
      rintro e w1 ⟨rfl, hw⟩
      rw [hw]
      clear hw w1
      unfold sufV
      go_wp2
      go_ret2
      exact ⟨rfl, rfl⟩

end Go.Proofs.YtcmafidnaojkiaaGreatDoor
