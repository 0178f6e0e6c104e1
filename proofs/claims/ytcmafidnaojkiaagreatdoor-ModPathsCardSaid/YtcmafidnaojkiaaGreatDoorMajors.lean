/-
  ModMajors: a path's major is its versions'.
-/
import Derived.Test.YtcmafidnaojkiaaGreatDoorBack
namespace Go.Proofs.YtcmafidnaojkiaaGreatDoor
open Go.RowKit

theorem rune_digit {d : Nat} (h : d < 10) : Utf8.encode (48 + (d : Int)) = ba [UInt8.ofNat (48 + d)] := by
  have : d = 0 ∨ d = 1 ∨ d = 2 ∨ d = 3 ∨ d = 4 ∨ d = 5 ∨ d = 6 ∨ d = 7 ∨ d = 8 ∨ d = 9 := by omega
  rcases this with rfl | rfl | rfl | rfl | rfl | rfl | rfl | rfl | rfl | rfl <;> rfl

theorem lawDigits_small {n : Nat} (h : n < 10) (w : World) : Calls Tryz.prog 49 #[.int .i64 (n : Int)] w fun e w' => e = .returned (.string (ba (Lib.decDigits n))) ∧ w' = w := by
  have hq : (n : Int) < 10 := by omega
  have HE : Hid (Lib.decDigits n = [UInt8.ofNat (48 + n)]) := dec_small h
  go_enter Tryz.func49, Tryz.ntmps49
  go_wp2_with (go_at_call 49; fail)
  go_ret
  exact ⟨retv (by rw [unhide HE, ← rune_digit h]; rfl), rfl⟩

theorem nDigits_len (u : Nat) (h : u ≤ 1000000000) : (Lib.decDigits u).length ≤ 10 := decDigits_length10 h

theorem lawDigits_step {n : Nat} (h : ¬ n < 10) (hn : n ≤ 1000000000) (w : World) (ih : Calls Tryz.prog 49 #[.int .i64 ((n / 10 : Nat) : Int)] w fun e w' => e = .returned (.string (ba (Lib.decDigits (n / 10)))) ∧ w' = w) :
    Calls Tryz.prog 49 #[.int .i64 (n : Int)] w fun e w' => e = .returned (.string (ba (Lib.decDigits n))) ∧ w' = w := by
  have hq : ¬ (n : Int) < 10 := by omega
  obtain ⟨d, hd⟩ : ∃ d, n % 10 = d := ⟨_, rfl⟩
  obtain ⟨q, hqq⟩ : ∃ q, n / 10 = q := ⟨_, rfl⟩
  have hd10 : d < 10 := by omega
  have HE : Hid (Lib.decDigits n = Lib.decDigits q ++ [UInt8.ofNat (48 + d)]) := by show Lib.decDigits n = _; rw [Lib.decDigits, dif_neg h, hd, hqq]
  have hl := nDigits_len q (by omega)
  rw [hqq] at ih
  obtain ⟨A, hA⟩ : ∃ A, Lib.decDigits q = A := ⟨_, rfl⟩
  rw [hA] at ih hl
  have r1 : (n : Int) / 10 = (q : Int) := by omega
  have r2 : (n : Int) % 10 = (d : Int) := by omega
  have r1' : (n : Int).tdiv 10 = (q : Int) := by rw [Int.tdiv_eq_ediv_of_nonneg (by omega)]; exact r1
  have r2' : (n : Int).tmod 10 = (d : Int) := by rw [Int.tmod_eq_emod_of_nonneg (by omega)]; exact r2
  have hr := rune_digit hd10
  obtain ⟨D, hD⟩ : ∃ D, [UInt8.ofNat (48 + d)] = D := ⟨_, rfl⟩
  have hDl : D.length = 1 := by rw [← hD]; rfl
  rw [hD] at hr
  obtain ⟨x1, y1, z1, u1, v1⟩ := cat A D
  have sA := ba_size A
  have sd := ba_size D
  have HE : Hid (Lib.decDigits n = x1) := by show Lib.decDigits n = _; rw [unhide HE, y1, hA, hD]
  clear y1 hA hd hqq hD
  go_enter Tryz.func49, Tryz.ntmps49
  go_wp2_with (go_at_call 49; fail)
  refine ih.mono ?_
  rintro e w1 ⟨rfl, hw⟩
  rw [hw]
  clear r1 r1' hw ih
  go_wp2_with (go_at_call 49; fail)
  go_ret
  exact ⟨retv (by rw [unhide HE]; rfl), rfl⟩

theorem lawDigits_any (n : Nat) (hn : n ≤ 1000000000) (w : World) : Calls Tryz.prog 49 #[.int .i64 (n : Int)] w fun e w' => e = .returned (.string (ba (Lib.decDigits n))) ∧ w' = w := by
  induction n using Nat.strongRecOn with
  | _ n ih =>
    by_cases h : n < 10
    · exact lawDigits_small h w
    · exact lawDigits_step h hn w (ih (n / 10) (by omega) (by omega))

/-! ### Matches -/

theorem matches_none {v p : Str} (h : parseV v = none) {w : World} (hg : Gd w) : Gives 35 #[.string (ba v), .string (ba p)] w (.bool (matchesR v p)) := by
  unfold Gives
  have e : matchesR v p = false := by unfold matchesR; rw [h]
  rw [e]
  have H := hide h
  clear h
  go_enter Tryz.func35, Tryz.ntmps35
  go_wp2_with (go_at_call 18; fail)
  refine (parts_none (unhide H) hg).mono ?_
  rintro e w1 ⟨rfl, b1⟩
  go_wp2
  go_ret
  exact ⟨rfl, b1⟩

theorem matches_some {v p : Str} {x : Ver} (h : parseV v = some x) (hl : p.length < 4294967281) {w : World} (hg : Gd w) : Gives 35 #[.string (ba v), .string (ba p)] w (.bool (matchesR v p)) := by
  unfold Gives
  have e : matchesR v p = if (majorR p).2 = 0 then decide (x.a ≤ 1) else decide (x.a = (majorR p).2) := by unfold matchesR; rw [h]
  have H := hide h
  clear h
  by_cases h0 : (majorR p).2 = 0
  · have HE : Hid (matchesR v p = decide ((x.a : Int) ≤ 1)) := by
      show matchesR v p = _
      rw [e, if_pos h0, Bool.eq_iff_iff]; simp; omega
    have h0i : ((majorR p).2 : Int) = 0 := by omega
    clear e h0
    rw [unhide HE]
    go_enter Tryz.func35, Tryz.ntmps35
    go_wp2_with (go_at_call 18; fail)
    refine (parts_some (unhide H) hg).mono ?_
    rintro e w1 ⟨rfl, b1⟩
    go_wp2_with (go_at_call 29; fail)
    refine (major_any hl _).mono ?_
    rintro e w2 ⟨rfl, b2⟩
    have b2 := below_trans b1 b2
    clear b1
    go_wp2
    go_ret
    exact ⟨rfl, b2⟩
  · have HE : Hid (matchesR v p = ((x.a : Int) == ((majorR p).2 : Int))) := by
      show matchesR v p = _
      rw [e, if_neg h0, Bool.eq_iff_iff]; simp; omega
    have h0i : ¬ ((majorR p).2 : Int) = 0 := by omega
    clear e h0
    rw [unhide HE]
    go_enter Tryz.func35, Tryz.ntmps35
    go_wp2_with (go_at_call 18; fail)
    refine (parts_some (unhide H) hg).mono ?_
    rintro e w1 ⟨rfl, b1⟩
    go_wp2_with (go_at_call 29; fail)
    refine (major_any hl _).mono ?_
    rintro e w2 ⟨rfl, b2⟩
    have b2 := below_trans b1 b2
    clear b1
    go_wp2
    go_ret
    exact ⟨rfl, b2⟩

theorem matches_any {v p : Str} (hl : p.length < 4294967281) {w : World} (hg : Gd w) : Gives 35 #[.string (ba v), .string (ba p)] w (.bool (matchesR v p)) := by
  cases h : parseV v with
  | none => exact matches_none h hg
  | some x => exact matches_some h hl hg
theorem matches_is {v p : Str} {b : Bool} (h : matchesR v p = b) (hl : p.length < 4294967281) {w : World} (hg : Gd w) : Gives 35 #[.string (ba v), .string (ba p)] w (.bool b) := by rw [← h]; exact matches_any hl hg
theorem major_is {p f : Str} {n : Nat} (h : majorR p = (f, n)) (hl : p.length < 4294967281) (w : World) : Gives 29 #[.string (ba p)] w (.tuple #[.string (ba f), .int .i64 (n : Int)]) := by
  have := major_any hl w
  rw [h] at this; exact this
theorem import_is {p : Str} {n : Nat} (h : importR p = n) (hl : p.length < 4294967281) {w : World} (hg : Gd w) : Gives 33 #[.string (ba p)] w (.int .i64 (n : Int)) := by rw [← h]; exact import_any hl hg
theorem lawDigits_is {n : Nat} {A : Str} (h : Lib.decDigits n = A) (hn : n ≤ 1000000000) (w : World) : Calls Tryz.prog 49 #[.int .i64 (n : Int)] w fun e w' => e = .returned (.string (ba A)) ∧ w' = w := by rw [← h]; exact lawDigits_any n hn w

theorem majors_big {p v : Str} (h : fewB [p, v] = false) {w : World} (hg : Gd w) : Gives 11 #[.string (ba p), .string (ba v)] w (.bool true) := by
  unfold Gives
  have H := hide h
  clear h
  go_enter Tryz.func11, Tryz.ntmps11
  go_wp2_with (go_at_call 13; fail)
  refine (first_any hg).mono ?_
  rintro e w1 ⟨rfl, b1⟩
  go_wp2_with (go_at_call 14; fail)
  refine (few_is (ps := [p, v]) (unhide H) (by simp) (texts_new w1 [p, v])).mono ?_
  rintro e w2 ⟨rfl, hw⟩
  rw [hw]
  go_wp2
  go_ret
  exact ⟨rfl, b1.alloc b1.size _⟩

theorem majors_bad {p v : Str} (h : fewB [p, v] = true) (hp : pathR p ≠ 0) {w : World} (hg : Gd w) : Gives 11 #[.string (ba p), .string (ba v)] w (.bool true) := by
  unfold Gives
  obtain ⟨lp, lv⟩ := few_two h
  have hpi : ¬ (pathR p : Int) = 0 := by omega
  have H := hide h
  clear h hp
  go_enter Tryz.func11, Tryz.ntmps11
  go_wp2_with (go_at_call 13; fail)
  refine (first_any hg).mono ?_
  rintro e w1 ⟨rfl, b1⟩
  go_wp2_with (go_at_call 14; fail)
  refine (few_is (ps := [p, v]) (unhide H) (by simp) (texts_new w1 [p, v])).mono ?_
  rintro e w2 ⟨rfl, hw⟩
  have b2 : Below w.heap.size w w2 := by rw [hw]; exact b1.alloc b1.size _
  clear hw b1
  go_wp2_with (go_at_call 31; fail)
  refine (path_any (by omega) (hg.below b2)).mono ?_
  rintro e w3 ⟨rfl, b3⟩
  have b3 := b2.trans (b3.mono b2.size)
  clear b2
  go_wp2_with (go_at_call 28; refine (num_any _ _).mono ?_; rintro e w6 ⟨rfl, hw⟩; rw [hw]; clear hw w6)
  go_ret
  exact ⟨rfl, b3⟩

set_option maxHeartbeats 2000000 in
theorem majors_z_none {p v : Str} (h : fewB [p, v] = true) (hp : pathR p = 0) (hm : majorR p = (p, 0)) (hv : parseV v = none) {w : World} (hg : Gd w) : Gives 11 #[.string (ba p), .string (ba v)] w (.bool true) := by
  unfold Gives
  obtain ⟨lp, lv⟩ := few_two h
  have HI := hide (path_import hp)
  have HMA : Hid (matchesR v p = false) := by show matchesR v p = _; unfold matchesR; rw [hv]
  have l1 := ba_list p
  have H := hide h
  have HP := hide hp
  have HM := hide hm
  have HV := hide hv
  clear h hp hm hv
  go_enter Tryz.func11, Tryz.ntmps11
  go_wp2_with (go_at_call 13; fail)
  refine (first_any hg).mono ?_
  rintro e w1 ⟨rfl, b1⟩
  go_wp2_with (go_at_call 14; fail)
  refine (few_is (ps := [p, v]) (unhide H) (by simp) (texts_new w1 [p, v])).mono ?_
  rintro e w2 ⟨rfl, hw⟩
  have b2 : Below w.heap.size w w2 := by rw [hw]; exact b1.alloc b1.size _
  clear hw b1
  go_wp2_with (go_at_call 31; fail)
  refine (path_is (unhide HP) (by omega) (hg.below b2)).mono ?_
  rintro e w3 ⟨rfl, b3⟩
  have b3 := b2.trans (b3.mono b2.size)
  clear b2
  go_wp2_with (first | (go_at_call 28; refine (num_any _ _).mono ?_; rintro e w6 ⟨rfl, hw⟩; rw [hw]; clear hw w6) | (go_at_call 29; fail))
  refine (major_is (unhide HM) (by omega) _).mono ?_
  rintro e w4 ⟨rfl, b4⟩
  have b4 := b3.trans (b4.mono b3.size)
  clear b3
  go_wp2_with (go_at_call 18; fail)
  refine (parts_none (unhide HV) (hg.below b4)).mono ?_
  rintro e w5 ⟨rfl, b5⟩
  have b5 := b4.trans (b5.mono b4.size)
  clear b4
  go_wp2_with (go_at_call 35; fail)
  refine (matches_is (unhide HMA) (by omega) (hg.below b5)).mono ?_
  rintro e w6 ⟨rfl, b6⟩
  have b6 := b5.trans (b6.mono b5.size)
  clear b5
  go_wp2_with (go_at_call 33; fail)
  refine (import_is (unhide HI) (by omega) (hg.below b6)).mono ?_
  rintro e w7 ⟨rfl, b7⟩
  have b7 := b6.trans (b7.mono b6.size)
  clear b6
  go_wp2_with (go_at_call 28; refine (num_any _ _).mono ?_; rintro e w8 ⟨rfl, hw⟩; rw [hw]; clear hw w8)
  go_ret
  first | exact ⟨rfl, b7⟩ | (refine ⟨ret_bool ?_, b7⟩; simp; omega)

set_option maxHeartbeats 2000000 in
theorem majors_z_yes {p v : Str} {x : Ver} (h : fewB [p, v] = true) (hp : pathR p = 0) (hm : majorR p = (p, 0)) (hv : parseV v = some x) (hx : x.a ≤ 1) {w : World} (hg : Gd w) : Gives 11 #[.string (ba p), .string (ba v)] w (.bool true) := by
  unfold Gives
  obtain ⟨lp, lv⟩ := few_two h
  have HI := hide (path_import hp)
  have HMA : Hid (matchesR v p = true) := by show matchesR v p = _; unfold matchesR; rw [hv, hm]; simp; omega
  have l1 := ba_list p
  have qx : (x.a : Int) < 2 := by omega
  have H := hide h
  have HP := hide hp
  have HM := hide hm
  have HV := hide hv
  clear h hp hm hv hx
  go_enter Tryz.func11, Tryz.ntmps11
  go_wp2_with (go_at_call 13; fail)
  refine (first_any hg).mono ?_
  rintro e w1 ⟨rfl, b1⟩
  go_wp2_with (go_at_call 14; fail)
  refine (few_is (ps := [p, v]) (unhide H) (by simp) (texts_new w1 [p, v])).mono ?_
  rintro e w2 ⟨rfl, hw⟩
  have b2 : Below w.heap.size w w2 := by rw [hw]; exact b1.alloc b1.size _
  clear hw b1
  go_wp2_with (go_at_call 31; fail)
  refine (path_is (unhide HP) (by omega) (hg.below b2)).mono ?_
  rintro e w3 ⟨rfl, b3⟩
  have b3 := b2.trans (b3.mono b2.size)
  clear b2
  go_wp2_with (first | (go_at_call 28; refine (num_any _ _).mono ?_; rintro e w6 ⟨rfl, hw⟩; rw [hw]; clear hw w6) | (go_at_call 29; fail))
  refine (major_is (unhide HM) (by omega) _).mono ?_
  rintro e w4 ⟨rfl, b4⟩
  have b4 := b3.trans (b4.mono b3.size)
  clear b3
  go_wp2_with (go_at_call 18; fail)
  refine (parts_some (unhide HV) (hg.below b4)).mono ?_
  rintro e w5 ⟨rfl, b5⟩
  have b5 := b4.trans (b5.mono b4.size)
  clear b4
  go_wp2_with (go_at_call 35; fail)
  refine (matches_is (unhide HMA) (by omega) (hg.below b5)).mono ?_
  rintro e w6 ⟨rfl, b6⟩
  have b6 := b5.trans (b6.mono b5.size)
  clear b5
  go_wp2_with (go_at_call 33; fail)
  refine (import_is (unhide HI) (by omega) (hg.below b6)).mono ?_
  rintro e w7 ⟨rfl, b7⟩
  have b7 := b6.trans (b7.mono b6.size)
  clear b6
  go_wp2_with (go_at_call 28; refine (num_any _ _).mono ?_; rintro e w8 ⟨rfl, hw⟩; rw [hw]; clear hw w8)
  go_ret
  first | exact ⟨rfl, b7⟩ | (refine ⟨ret_bool ?_, b7⟩; simp; omega)

set_option maxHeartbeats 2000000 in
theorem majors_z_no {p v : Str} {x : Ver} (h : fewB [p, v] = true) (hp : pathR p = 0) (hm : majorR p = (p, 0)) (hv : parseV v = some x) (hx : ¬ x.a ≤ 1) {w : World} (hg : Gd w) : Gives 11 #[.string (ba p), .string (ba v)] w (.bool true) := by
  unfold Gives
  obtain ⟨lp, lv⟩ := few_two h
  have HI := hide (path_import hp)
  have HMA : Hid (matchesR v p = false) := by show matchesR v p = _; unfold matchesR; rw [hv, hm]; simp; omega
  have l1 := ba_list p
  have qx : (2 : Int) ≤ x.a := by omega
  have H := hide h
  have HP := hide hp
  have HM := hide hm
  have HV := hide hv
  clear h hp hm hv hx
  go_enter Tryz.func11, Tryz.ntmps11
  go_wp2_with (go_at_call 13; fail)
  refine (first_any hg).mono ?_
  rintro e w1 ⟨rfl, b1⟩
  go_wp2_with (go_at_call 14; fail)
  refine (few_is (ps := [p, v]) (unhide H) (by simp) (texts_new w1 [p, v])).mono ?_
  rintro e w2 ⟨rfl, hw⟩
  have b2 : Below w.heap.size w w2 := by rw [hw]; exact b1.alloc b1.size _
  clear hw b1
  go_wp2_with (go_at_call 31; fail)
  refine (path_is (unhide HP) (by omega) (hg.below b2)).mono ?_
  rintro e w3 ⟨rfl, b3⟩
  have b3 := b2.trans (b3.mono b2.size)
  clear b2
  go_wp2_with (first | (go_at_call 28; refine (num_any _ _).mono ?_; rintro e w6 ⟨rfl, hw⟩; rw [hw]; clear hw w6) | (go_at_call 29; fail))
  refine (major_is (unhide HM) (by omega) _).mono ?_
  rintro e w4 ⟨rfl, b4⟩
  have b4 := b3.trans (b4.mono b3.size)
  clear b3
  go_wp2_with (go_at_call 18; fail)
  refine (parts_some (unhide HV) (hg.below b4)).mono ?_
  rintro e w5 ⟨rfl, b5⟩
  have b5 := b4.trans (b5.mono b4.size)
  clear b4
  go_wp2_with (go_at_call 35; fail)
  refine (matches_is (unhide HMA) (by omega) (hg.below b5)).mono ?_
  rintro e w6 ⟨rfl, b6⟩
  have b6 := b5.trans (b6.mono b5.size)
  clear b5
  go_wp2_with (go_at_call 33; fail)
  refine (import_is (unhide HI) (by omega) (hg.below b6)).mono ?_
  rintro e w7 ⟨rfl, b7⟩
  have b7 := b6.trans (b7.mono b6.size)
  clear b6
  go_wp2_with (go_at_call 28; refine (num_any _ _).mono ?_; rintro e w8 ⟨rfl, hw⟩; rw [hw]; clear hw w8)
  go_ret
  first | exact ⟨rfl, b7⟩ | (refine ⟨ret_bool ?_, b7⟩; simp; omega)

set_option maxHeartbeats 2000000 in
theorem majors_n_none {p v f : Str} {n : Nat} (h : fewB [p, v] = true) (hp : pathR p = 0) (hm : majorR p = (f, n)) (hn2 : 2 ≤ n) (hn9 : n ≤ 999999999) (hpe : p = f ++ 47 :: 118 :: Lib.decDigits n) (hv : parseV v = none) {w : World} (hg : Gd w) : Gives 11 #[.string (ba p), .string (ba v)] w (.bool true) := by
  unfold Gives
  obtain ⟨lp, lv⟩ := few_two h
  have HI := hide (path_import hp)
  have HMA : Hid (matchesR v p = false) := by show matchesR v p = _; unfold matchesR; rw [hv]
  have l1 := ba_list p
  have dl := nDigits_len n (by omega)
  obtain ⟨A, hA⟩ : ∃ A, Lib.decDigits n = A := ⟨_, rfl⟩
  rw [hA] at hpe dl
  have fl : f.length ≤ 2000 := by rw [hpe] at lp; simp at lp; omega
  have sf := ba_size f
  have sA := ba_size A
  obtain ⟨x1, y1, z1, u1, v1⟩ := cat f [47, 118]
  obtain ⟨x2, y2, z2, u2, v2⟩ := cat x1 A
  have z1 : ba f ++ (⟨#[47, 118]⟩ : ByteArray) = ba x1 := z1
  have ep : p = x2 := by rw [hpe, y2, y1]; simp
  have l2 : (ba x2).toList = p := by rw [ba_list, ep]
  simp only [List.length_cons, List.length_nil, Nat.zero_add] at v1
  have q1 : ¬ (n : Int) = 0 := by omega
  have q2 : (0 : Int) < n := by omega
  have q3 : (1 : Int) < n := by omega
  have HA := hide hA
  have H := hide h
  have HP := hide hp
  have HM := hide hm
  have HV := hide hv
  clear h hp hm hv hpe y1 y2 hA ep hn2
  go_enter Tryz.func11, Tryz.ntmps11
  go_wp2_with (go_at_call 13; fail)
  refine (first_any hg).mono ?_
  rintro e w1 ⟨rfl, b1⟩
  go_wp2_with (go_at_call 14; fail)
  refine (few_is (ps := [p, v]) (unhide H) (by simp) (texts_new w1 [p, v])).mono ?_
  rintro e w2 ⟨rfl, hw⟩
  have b2 : Below w.heap.size w w2 := by rw [hw]; exact b1.alloc b1.size _
  clear hw b1
  go_wp2_with (go_at_call 31; fail)
  refine (path_is (unhide HP) (by omega) (hg.below b2)).mono ?_
  rintro e w3 ⟨rfl, b3⟩
  have b3 := b2.trans (b3.mono b2.size)
  clear b2
  go_wp2_with (first | (go_at_call 28; refine (num_any _ _).mono ?_; rintro e w6 ⟨rfl, hw⟩; rw [hw]; clear hw w6) | (go_at_call 29; fail))
  refine (major_is (unhide HM) (by omega) _).mono ?_
  rintro e w4 ⟨rfl, b4⟩
  have b4 := b3.trans (b4.mono b3.size)
  clear b3
  go_wp2_with (go_at_call 18; fail)
  refine (parts_none (unhide HV) (hg.below b4)).mono ?_
  rintro e w5 ⟨rfl, b5⟩
  have b5 := b4.trans (b5.mono b4.size)
  clear b4
  go_wp2_with (first | (go_at_call 49; refine (lawDigits_is (unhide HA) (by omega) _).mono ?_; rintro e w6 ⟨rfl, hw⟩; rw [hw]; clear hw w6) | (go_at_call 35; fail))
  refine (matches_is (unhide HMA) (by omega) (hg.below b5)).mono ?_
  rintro e w6 ⟨rfl, b6⟩
  have b6 := b5.trans (b6.mono b5.size)
  clear b5
  go_wp2_with (go_at_call 33; fail)
  refine (import_is (unhide HI) (by omega) (hg.below b6)).mono ?_
  rintro e w7 ⟨rfl, b7⟩
  have b7 := b6.trans (b7.mono b6.size)
  clear b6
  go_wp2_with (go_at_call 28; refine (num_any _ _).mono ?_; rintro e w8 ⟨rfl, hw⟩; rw [hw]; clear hw w8)
  go_ret
  first | exact ⟨rfl, b7⟩ | (refine ⟨ret_bool ?_, b7⟩; simp; omega)

set_option maxHeartbeats 2000000 in
theorem majors_n_yes {p v f : Str} {n : Nat} {x : Ver} (h : fewB [p, v] = true) (hp : pathR p = 0) (hm : majorR p = (f, n)) (hn2 : 2 ≤ n) (hn9 : n ≤ 999999999) (hpe : p = f ++ 47 :: 118 :: Lib.decDigits n) (hv : parseV v = some x) (hx : x.a = n) {w : World} (hg : Gd w) : Gives 11 #[.string (ba p), .string (ba v)] w (.bool true) := by
  unfold Gives
  obtain ⟨lp, lv⟩ := few_two h
  have HI := hide (path_import hp)
  have HMA : Hid (matchesR v p = true) := by
    show matchesR v p = _
    have hn0 : n ≠ 0 := by omega
    unfold matchesR; rw [hv, hm]; simp [hn0, hx]
  have l1 := ba_list p
  have dl := nDigits_len n (by omega)
  obtain ⟨A, hA⟩ : ∃ A, Lib.decDigits n = A := ⟨_, rfl⟩
  rw [hA] at hpe dl
  have fl : f.length ≤ 2000 := by rw [hpe] at lp; simp at lp; omega
  have sf := ba_size f
  have sA := ba_size A
  obtain ⟨x1, y1, z1, u1, v1⟩ := cat f [47, 118]
  obtain ⟨x2, y2, z2, u2, v2⟩ := cat x1 A
  have z1 : ba f ++ (⟨#[47, 118]⟩ : ByteArray) = ba x1 := z1
  have ep : p = x2 := by rw [hpe, y2, y1]; simp
  have l2 : (ba x2).toList = p := by rw [ba_list, ep]
  simp only [List.length_cons, List.length_nil, Nat.zero_add] at v1
  have q1 : ¬ (n : Int) = 0 := by omega
  have q2 : (0 : Int) < n := by omega
  have q3 : (1 : Int) < n := by omega
  have HA := hide hA
  have qx : (x.a : Int) = (n : Int) := by omega
  have H := hide h
  have HP := hide hp
  have HM := hide hm
  have HV := hide hv
  clear h hp hm hv hx hpe y1 y2 hA ep hn2
  go_enter Tryz.func11, Tryz.ntmps11
  go_wp2_with (go_at_call 13; fail)
  refine (first_any hg).mono ?_
  rintro e w1 ⟨rfl, b1⟩
  go_wp2_with (go_at_call 14; fail)
  refine (few_is (ps := [p, v]) (unhide H) (by simp) (texts_new w1 [p, v])).mono ?_
  rintro e w2 ⟨rfl, hw⟩
  have b2 : Below w.heap.size w w2 := by rw [hw]; exact b1.alloc b1.size _
  clear hw b1
  go_wp2_with (go_at_call 31; fail)
  refine (path_is (unhide HP) (by omega) (hg.below b2)).mono ?_
  rintro e w3 ⟨rfl, b3⟩
  have b3 := b2.trans (b3.mono b2.size)
  clear b2
  go_wp2_with (first | (go_at_call 28; refine (num_any _ _).mono ?_; rintro e w6 ⟨rfl, hw⟩; rw [hw]; clear hw w6) | (go_at_call 29; fail))
  refine (major_is (unhide HM) (by omega) _).mono ?_
  rintro e w4 ⟨rfl, b4⟩
  have b4 := b3.trans (b4.mono b3.size)
  clear b3
  go_wp2_with (go_at_call 18; fail)
  refine (parts_some (unhide HV) (hg.below b4)).mono ?_
  rintro e w5 ⟨rfl, b5⟩
  have b5 := b4.trans (b5.mono b4.size)
  clear b4
  go_wp2_with (first | (go_at_call 49; refine (lawDigits_is (unhide HA) (by omega) _).mono ?_; rintro e w6 ⟨rfl, hw⟩; rw [hw]; clear hw w6) | (go_at_call 35; fail))
  refine (matches_is (unhide HMA) (by omega) (hg.below b5)).mono ?_
  rintro e w6 ⟨rfl, b6⟩
  have b6 := b5.trans (b6.mono b5.size)
  clear b5
  go_wp2_with (go_at_call 33; fail)
  refine (import_is (unhide HI) (by omega) (hg.below b6)).mono ?_
  rintro e w7 ⟨rfl, b7⟩
  have b7 := b6.trans (b7.mono b6.size)
  clear b6
  go_wp2_with (go_at_call 28; refine (num_any _ _).mono ?_; rintro e w8 ⟨rfl, hw⟩; rw [hw]; clear hw w8)
  go_ret
  first | exact ⟨rfl, b7⟩ | (refine ⟨ret_bool ?_, b7⟩; simp; omega)

set_option maxHeartbeats 2000000 in
theorem majors_n_no {p v f : Str} {n : Nat} {x : Ver} (h : fewB [p, v] = true) (hp : pathR p = 0) (hm : majorR p = (f, n)) (hn2 : 2 ≤ n) (hn9 : n ≤ 999999999) (hpe : p = f ++ 47 :: 118 :: Lib.decDigits n) (hv : parseV v = some x) (hx : x.a ≠ n) {w : World} (hg : Gd w) : Gives 11 #[.string (ba p), .string (ba v)] w (.bool true) := by
  unfold Gives
  obtain ⟨lp, lv⟩ := few_two h
  have HI := hide (path_import hp)
  have HMA : Hid (matchesR v p = false) := by
    show matchesR v p = _
    have hn0 : n ≠ 0 := by omega
    unfold matchesR; rw [hv, hm]; simp [hn0, hx]
  have l1 := ba_list p
  have dl := nDigits_len n (by omega)
  obtain ⟨A, hA⟩ : ∃ A, Lib.decDigits n = A := ⟨_, rfl⟩
  rw [hA] at hpe dl
  have fl : f.length ≤ 2000 := by rw [hpe] at lp; simp at lp; omega
  have sf := ba_size f
  have sA := ba_size A
  obtain ⟨x1, y1, z1, u1, v1⟩ := cat f [47, 118]
  obtain ⟨x2, y2, z2, u2, v2⟩ := cat x1 A
  have z1 : ba f ++ (⟨#[47, 118]⟩ : ByteArray) = ba x1 := z1
  have ep : p = x2 := by rw [hpe, y2, y1]; simp
  have l2 : (ba x2).toList = p := by rw [ba_list, ep]
  simp only [List.length_cons, List.length_nil, Nat.zero_add] at v1
  have q1 : ¬ (n : Int) = 0 := by omega
  have q2 : (0 : Int) < n := by omega
  have q3 : (1 : Int) < n := by omega
  have HA := hide hA
  have qx : ¬ (x.a : Int) = (n : Int) := by omega
  have H := hide h
  have HP := hide hp
  have HM := hide hm
  have HV := hide hv
  clear h hp hm hv hx hpe y1 y2 hA ep hn2
  go_enter Tryz.func11, Tryz.ntmps11
  go_wp2_with (go_at_call 13; fail)
  refine (first_any hg).mono ?_
  rintro e w1 ⟨rfl, b1⟩
  go_wp2_with (go_at_call 14; fail)
  refine (few_is (ps := [p, v]) (unhide H) (by simp) (texts_new w1 [p, v])).mono ?_
  rintro e w2 ⟨rfl, hw⟩
  have b2 : Below w.heap.size w w2 := by rw [hw]; exact b1.alloc b1.size _
  clear hw b1
  go_wp2_with (go_at_call 31; fail)
  refine (path_is (unhide HP) (by omega) (hg.below b2)).mono ?_
  rintro e w3 ⟨rfl, b3⟩
  have b3 := b2.trans (b3.mono b2.size)
  clear b2
  go_wp2_with (first | (go_at_call 28; refine (num_any _ _).mono ?_; rintro e w6 ⟨rfl, hw⟩; rw [hw]; clear hw w6) | (go_at_call 29; fail))
  refine (major_is (unhide HM) (by omega) _).mono ?_
  rintro e w4 ⟨rfl, b4⟩
  have b4 := b3.trans (b4.mono b3.size)
  clear b3
  go_wp2_with (go_at_call 18; fail)
  refine (parts_some (unhide HV) (hg.below b4)).mono ?_
  rintro e w5 ⟨rfl, b5⟩
  have b5 := b4.trans (b5.mono b4.size)
  clear b4
  go_wp2_with (first | (go_at_call 49; refine (lawDigits_is (unhide HA) (by omega) _).mono ?_; rintro e w6 ⟨rfl, hw⟩; rw [hw]; clear hw w6) | (go_at_call 35; fail))
  refine (matches_is (unhide HMA) (by omega) (hg.below b5)).mono ?_
  rintro e w6 ⟨rfl, b6⟩
  have b6 := b5.trans (b6.mono b5.size)
  clear b5
  go_wp2_with (go_at_call 33; fail)
  refine (import_is (unhide HI) (by omega) (hg.below b6)).mono ?_
  rintro e w7 ⟨rfl, b7⟩
  have b7 := b6.trans (b7.mono b6.size)
  clear b6
  go_wp2_with (go_at_call 28; refine (num_any _ _).mono ?_; rintro e w8 ⟨rfl, hw⟩; rw [hw]; clear hw w8)
  go_ret
  first | exact ⟨rfl, b7⟩ | (refine ⟨ret_bool ?_, b7⟩; simp; omega)

theorem majors_any (p v : Str) {w : World} (hg : Gd w) : Gives 11 #[.string (ba p), .string (ba v)] w (.bool true) := by
  cases h : fewB [p, v] with
  | false => exact majors_big h hg
  | true =>
    by_cases hp : pathR p = 0
    · obtain ⟨f, n, hm⟩ : ∃ f n, majorR p = (f, n) := ⟨_, _, rfl⟩
      have hc := majorR_cases p
      rw [hm] at hc
      rcases hc with ⟨h0, hf⟩ | ⟨h2, h9, he, _⟩
      · simp only at h0 hf
        subst h0 hf
        cases hv : parseV v with
        | none => exact majors_z_none h hp hm hv hg
        | some x =>
          by_cases hx : x.a ≤ 1
          · exact majors_z_yes h hp hm hv hx hg
          · exact majors_z_no h hp hm hv hx hg
      · simp only at h2 h9 he
        cases hv : parseV v with
        | none => exact majors_n_none h hp hm h2 h9 he hv hg
        | some x =>
          by_cases hx : x.a = n
          · exact majors_n_yes h hp hm h2 h9 he hv hx hg
          · exact majors_n_no h hp hm h2 h9 he hv hx hg
    · exact majors_bad h hp hg

end Go.Proofs.YtcmafidnaojkiaaGreatDoor
