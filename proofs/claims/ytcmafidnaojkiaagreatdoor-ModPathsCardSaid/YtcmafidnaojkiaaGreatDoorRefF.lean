/-
  The reference's Pseudo: the contract.
-/
import Derived.Test.YtcmafidnaojkiaaGreatDoorRefE
import Derived.Test.YtcmafidnaojkiaaGreatDoorPure6
namespace Go.Proofs.YtcmafidnaojkiaaGreatDoor
open Go.RowKit

theorem rps_range {major : Int} {base time rev : Str} (h : major < 0 ∨ 999999999 < major) (w : World) : Gives 25 #[.int .i64 major, .string (ba base), .string (ba time), .string (ba rev)] w (.tuple #[.string ⟨#[]⟩, .int .i64 6]) := by
  unfold Gives
  by_cases h1 : major < 0
  · clear h
    go_enter Tryz.func25, Tryz.ntmps25
    go_wp2
    go_ret2
    exact ⟨rfl, Below.refl _ _⟩
  · have h2 : 999999999 < major := by omega
    have h1' : 0 ≤ major := by omega
    clear h h1
    go_enter Tryz.func25, Tryz.ntmps25
    go_wp2
    go_ret2
    exact ⟨rfl, Below.refl _ _⟩

theorem rps_form {m : Nat} {base time rev : Str} (hm : m ≤ 999999999) (hr : rev.length ≤ 4294967281) (h : (!timeB time || !revB rev) = true) (w : World) : Gives 25 #[.int .i64 (m : Int), .string (ba base), .string (ba time), .string (ba rev)] w (.tuple #[.string ⟨#[]⟩, .int .i64 15]) := by
  unfold Gives
  have q1 : ¬ (m : Int) < 0 := by omega
  have q2 : ¬ (999999999 : Int) < m := by omega
  cases h1 : timeB time with
  | false =>
    have H1 := hide h1
    clear h h1
    go_enter Tryz.func25, Tryz.ntmps25
    go_wp2_with (go_at_call 67; fail)
    refine (moment_is (unhide H1) _).mono ?_
    rintro e w1 ⟨rfl, b1⟩
    go_wp2
    go_ret2
    exact ⟨rfl, b1⟩
  | true =>
    have h2 : revB rev = false := by simpa [h1] using h
    have H1 := hide h1
    have H2 := hide h2
    clear h h1 h2
    go_enter Tryz.func25, Tryz.ntmps25
    go_wp2_with (go_at_call 67; fail)
    refine (moment_is (unhide H1) _).mono ?_
    rintro e w1 ⟨rfl, b1⟩
    go_wp2_with (go_at_call 68; refine (refRev_is (unhide H2) hr _).mono ?_; rintro e w2 ⟨rfl, hw⟩; rw [hw]; clear hw w2)
    go_ret2
    exact ⟨rfl, b1⟩

set_option maxHeartbeats 1000000 in
theorem rps_none {m : Nat} {base time rev : Str} (hm : m ≤ 999999999) (ht : timeB time = true) (hr : revB rev = true) (h0 : base ≠ []) (hp : parseV base = none) (w : World) : Gives 25 #[.int .i64 (m : Int), .string (ba base), .string (ba time), .string (ba rev)] w (.tuple #[.string ⟨#[]⟩, .int .i64 8]) := by
  unfold Gives
  have q1 : ¬ (m : Int) < 0 := by omega
  have q2 : ¬ (999999999 : Int) < m := by omega
  have lt := (timeB_spec ht).1
  have lr := (revB_spec hr).1
  have st := ba_size time
  have sr := ba_size rev
  have hlb := ba_list base
  have H1 := hide ht
  have H2 := hide hr
  have h0' : base.isEmpty = false := by simpa using h0
  have HP := hide hp
  clear ht hr h0 hp
  go_enter Tryz.func25, Tryz.ntmps25
  go_wp2_with (go_at_call 67; fail)
  refine (moment_is (unhide H1) _).mono ?_
  rintro e w1 ⟨rfl, b1⟩
  go_wp2_with (first | (go_at_call 68; refine (refRev_is (unhide H2) (by omega) _).mono ?_; rintro e w2 ⟨rfl, hw⟩; rw [hw]; clear hw w2) | (go_at_call 19; fail))
  refine (refParts_none (unhide HP) _).mono ?_
  rintro e w2 ⟨rfl, b2⟩
  have b2 := below_trans b1 b2
  clear b1
  go_wp2
  go_ret2
  exact ⟨rfl, b2⟩

set_option maxHeartbeats 1000000 in
theorem rps_other {m : Nat} {base time rev : Str} {x : Ver} (hm : m ≤ 999999999) (ht : timeB time = true) (hr : revB rev = true) (h0 : base ≠ []) (hp : parseV base = some x) (hx : x.a ≠ m) (w : World) : Gives 25 #[.int .i64 (m : Int), .string (ba base), .string (ba time), .string (ba rev)] w (.tuple #[.string ⟨#[]⟩, .int .i64 8]) := by
  unfold Gives
  have q1 : ¬ (m : Int) < 0 := by omega
  have q2 : ¬ (999999999 : Int) < m := by omega
  have lt := (timeB_spec ht).1
  have lr := (revB_spec hr).1
  have st := ba_size time
  have sr := ba_size rev
  have hlb := ba_list base
  have H1 := hide ht
  have H2 := hide hr
  have h0' : base.isEmpty = false := by simpa using h0
  have hq : ¬ (x.a : Int) = (m : Int) := by omega
  have HP := hide hp
  clear ht hr h0 hp hx
  go_enter Tryz.func25, Tryz.ntmps25
  go_wp2_with (go_at_call 67; fail)
  refine (moment_is (unhide H1) _).mono ?_
  rintro e w1 ⟨rfl, b1⟩
  go_wp2_with (first | (go_at_call 68; refine (refRev_is (unhide H2) (by omega) _).mono ?_; rintro e w2 ⟨rfl, hw⟩; rw [hw]; clear hw w2) | (go_at_call 19; fail))
  refine (refParts_some (unhide HP) _).mono ?_
  rintro e w2 ⟨rfl, b2⟩
  have b2 := below_trans b1 b2
  clear b1
  go_wp2
  go_ret2
  exact ⟨rfl, b2⟩

set_option maxHeartbeats 2000000 in
theorem rps_bare_y {m : Nat} {time rev V : Str} (hm : m ≤ 999999999) (ht : timeB time = true) (hr : revB rev = true) (eV : releaseL m 0 0 ++ [45] ++ time ++ 45 :: rev = V) (hv : (parseV V).isSome = true) {w : World} (hg : Gd w) : Gives 25 #[.int .i64 (m : Int), .string (ba []), .string (ba time), .string (ba rev)] w (.tuple #[.string (ba V), .int .i64 0]) := by
  unfold Gives
  have q1 : ¬ (m : Int) < 0 := by omega
  have q2 : ¬ (999999999 : Int) < m := by omega
  have lt := (timeB_spec ht).1
  have lr := (revB_spec hr).1
  have st := ba_size time
  have sr := ba_size rev
  have hlb := ba_list []
  have H1 := hide ht
  have H2 := hide hr
  have lm := decDigits_length10 (u := m) (by omega)
  obtain ⟨A, hA⟩ : ∃ A, Lib.decDigits m = A := ⟨_, rfl⟩
  rw [hA] at lm
  have sA := ba_size A
  obtain ⟨x1, y1, z1, u1, v1⟩ := cat [118] A
  obtain ⟨x2, y2, z2, u2, v2⟩ := cat x1 [46, 48, 46, 48, 45]
  obtain ⟨x3, y3, z3, u3, v3⟩ := cat x2 time
  obtain ⟨x4, y4, z4, u4, v4⟩ := cat x3 [45]
  obtain ⟨x5, y5, z5, u5, v5⟩ := cat x4 rev
  have z1 : (⟨#[118]⟩ : ByteArray) ++ ba A = ba x1 := z1
  have z2 : ba x1 ++ (⟨#[46, 48, 46, 48, 45]⟩ : ByteArray) = ba x2 := z2
  have z4 : ba x3 ++ (⟨#[45]⟩ : ByteArray) = ba x4 := z4
  simp only [List.length_cons, List.length_nil, Nat.zero_add] at v1 v2 v4
  have HA := hide hA
  have e5 : V = x5 := by
    rw [← eV, y5, y4, y3, y2, y1, ← hA]
    have h0 : Lib.decDigits 0 = [48] := dec_small (by decide)
    simp [releaseL, h0]
  have HV := hide hv
  rw [e5] at HV ⊢
  have hp : parseV ([] : Str) = none := rfl
  have HP := hide hp
  clear ht hr hv eV e5 hA y1 y2 y3 y4 y5 hp
  go_enter Tryz.func25, Tryz.ntmps25
  go_wp2_with (go_at_call 67; fail)
  refine (moment_is (unhide H1) _).mono ?_
  rintro e w1 ⟨rfl, b1⟩
  go_wp2_with (first | (go_at_call 68; refine (refRev_is (unhide H2) (by omega) _).mono ?_; rintro e w2 ⟨rfl, hw⟩; rw [hw]; clear hw w2) | (go_at_call 19; fail))
  refine (refParts_none (unhide HP) _).mono ?_
  rintro e w2 ⟨rfl, b2⟩
  have b2 := below_trans b1 b2
  clear b1
  go_wp2_with (go_at_call 69; fail)
  refine (itoa_any (unhide HA) (by omega) (hg.below b2)).mono ?_
  rintro e w3 ⟨rfl, b3⟩
  have b3 := below_trans b2 b3
  clear b2
  go_wp2_with (go_at_call 70; fail)
  refine (refValid_is (unhide HV) _).mono ?_
  rintro e w4 ⟨rfl, b4⟩
  have b4 := below_trans b3 b4
  clear b3
  go_wp2
  go_ret2
  exact ⟨rfl, b4⟩

set_option maxHeartbeats 2000000 in
theorem rps_pre_y {base time rev V : Str} {x : Ver} (hm0 : x.a ≤ 999999999) (ht : timeB time = true) (hr : revB rev = true) (h0 : base ≠ []) (hp : parseV base = some x) (hx : x.pre ≠ []) (eV : base ++ [46, 48, 46] ++ time ++ 45 :: rev = V) (hv : (parseV V).isSome = true) {w : World} (hg : Gd w) : Gives 25 #[.int .i64 (x.a : Int), .string (ba base), .string (ba time), .string (ba rev)] w (.tuple #[.string (ba V), .int .i64 0]) := by
  obtain ⟨m, hmm⟩ : ∃ m, x.a = m := ⟨_, rfl⟩
  rw [hmm] at hm0 ⊢
  have hm := hm0
  unfold Gives
  have q1 : ¬ (m : Int) < 0 := by omega
  have q2 : ¬ (999999999 : Int) < m := by omega
  have lt := (timeB_spec ht).1
  have lr := (revB_spec hr).1
  have st := ba_size time
  have sr := ba_size rev
  have hlb := ba_list base
  have H1 := hide ht
  have H2 := hide hr
  have lm := decDigits_length10 (u := m) (by omega)
  obtain ⟨A, hA⟩ : ∃ A, Lib.decDigits m = A := ⟨_, rfl⟩
  rw [hA] at lm
  have sA := ba_size A
  obtain ⟨x1, y1, z1, u1, v1⟩ := cat [118] A
  obtain ⟨x2, y2, z2, u2, v2⟩ := cat x1 [46, 48, 46, 48, 45]
  obtain ⟨x3, y3, z3, u3, v3⟩ := cat x2 time
  obtain ⟨x4, y4, z4, u4, v4⟩ := cat x3 [45]
  obtain ⟨x5, y5, z5, u5, v5⟩ := cat x4 rev
  have z1 : (⟨#[118]⟩ : ByteArray) ++ ba A = ba x1 := z1
  have z2 : ba x1 ++ (⟨#[46, 48, 46, 48, 45]⟩ : ByteArray) = ba x2 := z2
  have z4 : ba x3 ++ (⟨#[45]⟩ : ByteArray) = ba x4 := z4
  simp only [List.length_cons, List.length_nil, Nat.zero_add] at v1 v2 v4
  have HA := hide hA
  have lbs := (parseV_some hp).1
  have sb := ba_size base
  obtain ⟨s1, t1, c1, d1, k1⟩ := cat base [46, 48, 46]
  obtain ⟨s2, t2, c2, d2, k2⟩ := cat s1 time
  obtain ⟨s3, t3, c3, d3, k3⟩ := cat s2 [45]
  obtain ⟨s4, t4, c4, d4, k4⟩ := cat s3 rev
  have c1 : ba base ++ (⟨#[46, 48, 46]⟩ : ByteArray) = ba s1 := c1
  have c3 : ba s2 ++ (⟨#[45]⟩ : ByteArray) = ba s3 := c3
  simp only [List.length_cons, List.length_nil, Nat.zero_add] at k1 k3
  have e5 : V = s4 := by rw [← eV, t4, t3, t2, t1]; simp
  have HV := hide hv
  rw [e5] at HV ⊢
  have h0' : base.isEmpty = false := by simpa using h0
  have h1' : x.pre.isEmpty = false := by simpa using hx
  have hlp := ba_list x.pre
  have hq : (x.a : Int) = (m : Int) := by omega
  have HP := hide hp
  clear ht hr hv eV e5 hA y1 y2 y3 y4 y5 t1 t2 t3 t4 hp h0 hx hmm
  go_enter Tryz.func25, Tryz.ntmps25
  go_wp2_with (go_at_call 67; fail)
  refine (moment_is (unhide H1) _).mono ?_
  rintro e w1 ⟨rfl, b1⟩
  go_wp2_with (first | (go_at_call 68; refine (refRev_is (unhide H2) (by omega) _).mono ?_; rintro e w2 ⟨rfl, hw⟩; rw [hw]; clear hw w2) | (go_at_call 19; fail))
  refine (refParts_some (unhide HP) _).mono ?_
  rintro e w2 ⟨rfl, b2⟩
  have b2 := below_trans b1 b2
  clear b1
  go_wp2_with (go_at_call 69; fail)
  refine (itoa_any (unhide HA) (by omega) (hg.below b2)).mono ?_
  rintro e w3 ⟨rfl, b3⟩
  have b3 := below_trans b2 b3
  clear b2
  go_wp2_with (go_at_call 70; fail)
  refine (refValid_is (unhide HV) _).mono ?_
  rintro e w4 ⟨rfl, b4⟩
  have b4 := below_trans b3 b4
  clear b3
  go_wp2
  go_ret2
  exact ⟨rfl, b4⟩

set_option maxHeartbeats 2000000 in
theorem rps_rel_y {base time rev V : Str} {x : Ver} (hm0 : x.a ≤ 999999999) (hb9 : x.b ≤ 999999999) (hc9 : x.c ≤ 999999999) (ht : timeB time = true) (hr : revB rev = true) (h0 : base ≠ []) (hp : parseV base = some x) (hx : x.pre = []) (eV : releaseL x.a x.b (x.c + 1) ++ [45, 48, 46] ++ time ++ 45 :: rev = V) (hv : (parseV V).isSome = true) {w : World} (hg : Gd w) : Gives 25 #[.int .i64 (x.a : Int), .string (ba base), .string (ba time), .string (ba rev)] w (.tuple #[.string (ba V), .int .i64 0]) := by
  obtain ⟨m, hmm⟩ : ∃ m, x.a = m := ⟨_, rfl⟩
  rw [hmm] at hm0 ⊢
  have hm := hm0
  unfold Gives
  have q1 : ¬ (m : Int) < 0 := by omega
  have q2 : ¬ (999999999 : Int) < m := by omega
  have lt := (timeB_spec ht).1
  have lr := (revB_spec hr).1
  have st := ba_size time
  have sr := ba_size rev
  have hlb := ba_list base
  have H1 := hide ht
  have H2 := hide hr
  have lm := decDigits_length10 (u := m) (by omega)
  obtain ⟨A, hA⟩ : ∃ A, Lib.decDigits m = A := ⟨_, rfl⟩
  rw [hA] at lm
  have sA := ba_size A
  obtain ⟨x1, y1, z1, u1, v1⟩ := cat [118] A
  obtain ⟨x2, y2, z2, u2, v2⟩ := cat x1 [46, 48, 46, 48, 45]
  obtain ⟨x3, y3, z3, u3, v3⟩ := cat x2 time
  obtain ⟨x4, y4, z4, u4, v4⟩ := cat x3 [45]
  obtain ⟨x5, y5, z5, u5, v5⟩ := cat x4 rev
  have z1 : (⟨#[118]⟩ : ByteArray) ++ ba A = ba x1 := z1
  have z2 : ba x1 ++ (⟨#[46, 48, 46, 48, 45]⟩ : ByteArray) = ba x2 := z2
  have z4 : ba x3 ++ (⟨#[45]⟩ : ByteArray) = ba x4 := z4
  simp only [List.length_cons, List.length_nil, Nat.zero_add] at v1 v2 v4
  have HA := hide hA
  have lB := decDigits_length10 (u := x.b) (by omega)
  have lC := decDigits_length10 (u := x.c + 1) (by omega)
  obtain ⟨D, hD⟩ : ∃ D, Lib.decDigits x.b = D := ⟨_, rfl⟩
  obtain ⟨E, hE⟩ : ∃ E, Lib.decDigits (x.c + 1) = E := ⟨_, rfl⟩
  rw [hD] at lB
  rw [hE] at lC
  have sD := ba_size D
  have sE := ba_size E
  obtain ⟨s2, t2, c2, d2, k2⟩ := cat x1 [46]
  obtain ⟨s3, t3, c3, d3, k3⟩ := cat s2 D
  obtain ⟨s4, t4, c4, d4, k4⟩ := cat s3 [46]
  obtain ⟨s5, t5, c5, d5, k5⟩ := cat s4 E
  obtain ⟨s6, t6, c6, d6, k6⟩ := cat s5 [45, 48, 46]
  obtain ⟨s7, t7, c7, d7, k7⟩ := cat s6 time
  obtain ⟨s8, t8, c8, d8, k8⟩ := cat s7 [45]
  obtain ⟨s9, t9, c9, d9, k9⟩ := cat s8 rev
  have c2 : ba x1 ++ (⟨#[46]⟩ : ByteArray) = ba s2 := c2
  have c4 : ba s3 ++ (⟨#[46]⟩ : ByteArray) = ba s4 := c4
  have c6 : ba s5 ++ (⟨#[45, 48, 46]⟩ : ByteArray) = ba s6 := c6
  have c8 : ba s7 ++ (⟨#[45]⟩ : ByteArray) = ba s8 := c8
  simp only [List.length_cons, List.length_nil, Nat.zero_add] at k2 k4 k6 k8
  have e5 : V = s9 := by
    rw [← eV, t9, t8, t7, t6, t5, t4, t3, t2, y1, ← hA, ← hD, ← hE, ← hmm]
    simp [releaseL]
  have HV := hide hv
  rw [e5] at HV ⊢
  have h0' : base.isEmpty = false := by simpa using h0
  have hlp : (ba x.pre).toList = [] := by rw [ba_list]; exact hx
  have hq : (x.a : Int) = (m : Int) := by omega
  have HP := hide hp
  have HD := hide hD
  have HE := hide hE
  clear ht hr hv eV e5 hA y1 y2 y3 y4 y5 t2 t3 t4 t5 t6 t7 t8 t9 hp h0 hx hmm hD hE
  go_enter Tryz.func25, Tryz.ntmps25
  go_wp2_with (go_at_call 67; fail)
  refine (moment_is (unhide H1) _).mono ?_
  rintro e w1 ⟨rfl, b1⟩
  go_wp2_with (first | (go_at_call 68; refine (refRev_is (unhide H2) (by omega) _).mono ?_; rintro e w2 ⟨rfl, hw⟩; rw [hw]; clear hw w2) | (go_at_call 19; fail))
  refine (refParts_some (unhide HP) _).mono ?_
  rintro e w2 ⟨rfl, b2⟩
  have b2 := below_trans b1 b2
  clear b1
  go_wp2_with (go_at_call 69; fail)
  refine (itoa_any (unhide HA) (by omega) (hg.below b2)).mono ?_
  rintro e w3 ⟨rfl, b3⟩
  have b3 := below_trans b2 b3
  clear b2
  go_wp2_with (go_at_call 69; fail)
  refine (itoa_any (unhide HA) (by omega) (hg.below b3)).mono ?_
  rintro e w4 ⟨rfl, b4⟩
  have b4 := below_trans b3 b4
  clear b3
  go_wp2_with (go_at_call 69; fail)
  refine (itoa_any (unhide HD) (by omega) (hg.below b4)).mono ?_
  rintro e w5 ⟨rfl, b5⟩
  have b5 := below_trans b4 b5
  clear b4
  go_wp2_with (go_at_call 69; fail)
  refine (itoa_any (n := x.c + 1) (unhide HE) (by omega) (hg.below b5)).mono ?_
  rintro e w6 ⟨rfl, b6⟩
  have b6 := below_trans b5 b6
  clear b5
  go_wp2_with (go_at_call 70; fail)
  refine (refValid_is (unhide HV) _).mono ?_
  rintro e w7 ⟨rfl, b7⟩
  have b7 := below_trans b6 b7
  clear b6
  go_wp2
  go_ret2
  exact ⟨rfl, b7⟩

set_option maxHeartbeats 2000000 in
theorem rps_bare_n {m : Nat} {time rev V : Str} (hm : m ≤ 999999999) (ht : timeB time = true) (hr : revB rev = true) (eV : releaseL m 0 0 ++ [45] ++ time ++ 45 :: rev = V) (hv : (parseV V).isSome = false) {w : World} (hg : Gd w) : Gives 25 #[.int .i64 (m : Int), .string (ba []), .string (ba time), .string (ba rev)] w (.tuple #[.string ⟨#[]⟩, .int .i64 8]) := by
  unfold Gives
  have q1 : ¬ (m : Int) < 0 := by omega
  have q2 : ¬ (999999999 : Int) < m := by omega
  have lt := (timeB_spec ht).1
  have lr := (revB_spec hr).1
  have st := ba_size time
  have sr := ba_size rev
  have hlb := ba_list []
  have H1 := hide ht
  have H2 := hide hr
  have lm := decDigits_length10 (u := m) (by omega)
  obtain ⟨A, hA⟩ : ∃ A, Lib.decDigits m = A := ⟨_, rfl⟩
  rw [hA] at lm
  have sA := ba_size A
  obtain ⟨x1, y1, z1, u1, v1⟩ := cat [118] A
  obtain ⟨x2, y2, z2, u2, v2⟩ := cat x1 [46, 48, 46, 48, 45]
  obtain ⟨x3, y3, z3, u3, v3⟩ := cat x2 time
  obtain ⟨x4, y4, z4, u4, v4⟩ := cat x3 [45]
  obtain ⟨x5, y5, z5, u5, v5⟩ := cat x4 rev
  have z1 : (⟨#[118]⟩ : ByteArray) ++ ba A = ba x1 := z1
  have z2 : ba x1 ++ (⟨#[46, 48, 46, 48, 45]⟩ : ByteArray) = ba x2 := z2
  have z4 : ba x3 ++ (⟨#[45]⟩ : ByteArray) = ba x4 := z4
  simp only [List.length_cons, List.length_nil, Nat.zero_add] at v1 v2 v4
  have HA := hide hA
  have e5 : V = x5 := by
    rw [← eV, y5, y4, y3, y2, y1, ← hA]
    have h0 : Lib.decDigits 0 = [48] := dec_small (by decide)
    simp [releaseL, h0]
  have HV := hide hv
  rw [e5] at HV
  have hp : parseV ([] : Str) = none := rfl
  have HP := hide hp
  clear ht hr hv eV e5 hA y1 y2 y3 y4 y5 hp
  go_enter Tryz.func25, Tryz.ntmps25
  go_wp2_with (go_at_call 67; fail)
  refine (moment_is (unhide H1) _).mono ?_
  rintro e w1 ⟨rfl, b1⟩
  go_wp2_with (first | (go_at_call 68; refine (refRev_is (unhide H2) (by omega) _).mono ?_; rintro e w2 ⟨rfl, hw⟩; rw [hw]; clear hw w2) | (go_at_call 19; fail))
  refine (refParts_none (unhide HP) _).mono ?_
  rintro e w2 ⟨rfl, b2⟩
  have b2 := below_trans b1 b2
  clear b1
  go_wp2_with (go_at_call 69; fail)
  refine (itoa_any (unhide HA) (by omega) (hg.below b2)).mono ?_
  rintro e w3 ⟨rfl, b3⟩
  have b3 := below_trans b2 b3
  clear b2
  go_wp2_with (go_at_call 70; fail)
  refine (refValid_is (unhide HV) _).mono ?_
  rintro e w4 ⟨rfl, b4⟩
  have b4 := below_trans b3 b4
  clear b3
  go_wp2
  go_ret2
  exact ⟨rfl, b4⟩

set_option maxHeartbeats 2000000 in
theorem rps_pre_n {base time rev V : Str} {x : Ver} (hm0 : x.a ≤ 999999999) (ht : timeB time = true) (hr : revB rev = true) (h0 : base ≠ []) (hp : parseV base = some x) (hx : x.pre ≠ []) (eV : base ++ [46, 48, 46] ++ time ++ 45 :: rev = V) (hv : (parseV V).isSome = false) {w : World} (hg : Gd w) : Gives 25 #[.int .i64 (x.a : Int), .string (ba base), .string (ba time), .string (ba rev)] w (.tuple #[.string ⟨#[]⟩, .int .i64 8]) := by
  obtain ⟨m, hmm⟩ : ∃ m, x.a = m := ⟨_, rfl⟩
  rw [hmm] at hm0 ⊢
  have hm := hm0
  unfold Gives
  have q1 : ¬ (m : Int) < 0 := by omega
  have q2 : ¬ (999999999 : Int) < m := by omega
  have lt := (timeB_spec ht).1
  have lr := (revB_spec hr).1
  have st := ba_size time
  have sr := ba_size rev
  have hlb := ba_list base
  have H1 := hide ht
  have H2 := hide hr
  have lm := decDigits_length10 (u := m) (by omega)
  obtain ⟨A, hA⟩ : ∃ A, Lib.decDigits m = A := ⟨_, rfl⟩
  rw [hA] at lm
  have sA := ba_size A
  obtain ⟨x1, y1, z1, u1, v1⟩ := cat [118] A
  obtain ⟨x2, y2, z2, u2, v2⟩ := cat x1 [46, 48, 46, 48, 45]
  obtain ⟨x3, y3, z3, u3, v3⟩ := cat x2 time
  obtain ⟨x4, y4, z4, u4, v4⟩ := cat x3 [45]
  obtain ⟨x5, y5, z5, u5, v5⟩ := cat x4 rev
  have z1 : (⟨#[118]⟩ : ByteArray) ++ ba A = ba x1 := z1
  have z2 : ba x1 ++ (⟨#[46, 48, 46, 48, 45]⟩ : ByteArray) = ba x2 := z2
  have z4 : ba x3 ++ (⟨#[45]⟩ : ByteArray) = ba x4 := z4
  simp only [List.length_cons, List.length_nil, Nat.zero_add] at v1 v2 v4
  have HA := hide hA
  have lbs := (parseV_some hp).1
  have sb := ba_size base
  obtain ⟨s1, t1, c1, d1, k1⟩ := cat base [46, 48, 46]
  obtain ⟨s2, t2, c2, d2, k2⟩ := cat s1 time
  obtain ⟨s3, t3, c3, d3, k3⟩ := cat s2 [45]
  obtain ⟨s4, t4, c4, d4, k4⟩ := cat s3 rev
  have c1 : ba base ++ (⟨#[46, 48, 46]⟩ : ByteArray) = ba s1 := c1
  have c3 : ba s2 ++ (⟨#[45]⟩ : ByteArray) = ba s3 := c3
  simp only [List.length_cons, List.length_nil, Nat.zero_add] at k1 k3
  have e5 : V = s4 := by rw [← eV, t4, t3, t2, t1]; simp
  have HV := hide hv
  rw [e5] at HV
  have h0' : base.isEmpty = false := by simpa using h0
  have h1' : x.pre.isEmpty = false := by simpa using hx
  have hlp := ba_list x.pre
  have hq : (x.a : Int) = (m : Int) := by omega
  have HP := hide hp
  clear ht hr hv eV e5 hA y1 y2 y3 y4 y5 t1 t2 t3 t4 hp h0 hx hmm
  go_enter Tryz.func25, Tryz.ntmps25
  go_wp2_with (go_at_call 67; fail)
  refine (moment_is (unhide H1) _).mono ?_
  rintro e w1 ⟨rfl, b1⟩
  go_wp2_with (first | (go_at_call 68; refine (refRev_is (unhide H2) (by omega) _).mono ?_; rintro e w2 ⟨rfl, hw⟩; rw [hw]; clear hw w2) | (go_at_call 19; fail))
  refine (refParts_some (unhide HP) _).mono ?_
  rintro e w2 ⟨rfl, b2⟩
  have b2 := below_trans b1 b2
  clear b1
  go_wp2_with (go_at_call 69; fail)
  refine (itoa_any (unhide HA) (by omega) (hg.below b2)).mono ?_
  rintro e w3 ⟨rfl, b3⟩
  have b3 := below_trans b2 b3
  clear b2
  go_wp2_with (go_at_call 70; fail)
  refine (refValid_is (unhide HV) _).mono ?_
  rintro e w4 ⟨rfl, b4⟩
  have b4 := below_trans b3 b4
  clear b3
  go_wp2
  go_ret2
  exact ⟨rfl, b4⟩

set_option maxHeartbeats 2000000 in
theorem rps_rel_n {base time rev V : Str} {x : Ver} (hm0 : x.a ≤ 999999999) (hb9 : x.b ≤ 999999999) (hc9 : x.c ≤ 999999999) (ht : timeB time = true) (hr : revB rev = true) (h0 : base ≠ []) (hp : parseV base = some x) (hx : x.pre = []) (eV : releaseL x.a x.b (x.c + 1) ++ [45, 48, 46] ++ time ++ 45 :: rev = V) (hv : (parseV V).isSome = false) {w : World} (hg : Gd w) : Gives 25 #[.int .i64 (x.a : Int), .string (ba base), .string (ba time), .string (ba rev)] w (.tuple #[.string ⟨#[]⟩, .int .i64 8]) := by
  obtain ⟨m, hmm⟩ : ∃ m, x.a = m := ⟨_, rfl⟩
  rw [hmm] at hm0 ⊢
  have hm := hm0
  unfold Gives
  have q1 : ¬ (m : Int) < 0 := by omega
  have q2 : ¬ (999999999 : Int) < m := by omega
  have lt := (timeB_spec ht).1
  have lr := (revB_spec hr).1
  have st := ba_size time
  have sr := ba_size rev
  have hlb := ba_list base
  have H1 := hide ht
  have H2 := hide hr
  have lm := decDigits_length10 (u := m) (by omega)
  obtain ⟨A, hA⟩ : ∃ A, Lib.decDigits m = A := ⟨_, rfl⟩
  rw [hA] at lm
  have sA := ba_size A
  obtain ⟨x1, y1, z1, u1, v1⟩ := cat [118] A
  obtain ⟨x2, y2, z2, u2, v2⟩ := cat x1 [46, 48, 46, 48, 45]
  obtain ⟨x3, y3, z3, u3, v3⟩ := cat x2 time
  obtain ⟨x4, y4, z4, u4, v4⟩ := cat x3 [45]
  obtain ⟨x5, y5, z5, u5, v5⟩ := cat x4 rev
  have z1 : (⟨#[118]⟩ : ByteArray) ++ ba A = ba x1 := z1
  have z2 : ba x1 ++ (⟨#[46, 48, 46, 48, 45]⟩ : ByteArray) = ba x2 := z2
  have z4 : ba x3 ++ (⟨#[45]⟩ : ByteArray) = ba x4 := z4
  simp only [List.length_cons, List.length_nil, Nat.zero_add] at v1 v2 v4
  have HA := hide hA
  have lB := decDigits_length10 (u := x.b) (by omega)
  have lC := decDigits_length10 (u := x.c + 1) (by omega)
  obtain ⟨D, hD⟩ : ∃ D, Lib.decDigits x.b = D := ⟨_, rfl⟩
  obtain ⟨E, hE⟩ : ∃ E, Lib.decDigits (x.c + 1) = E := ⟨_, rfl⟩
  rw [hD] at lB
  rw [hE] at lC
  have sD := ba_size D
  have sE := ba_size E
  obtain ⟨s2, t2, c2, d2, k2⟩ := cat x1 [46]
  obtain ⟨s3, t3, c3, d3, k3⟩ := cat s2 D
  obtain ⟨s4, t4, c4, d4, k4⟩ := cat s3 [46]
  obtain ⟨s5, t5, c5, d5, k5⟩ := cat s4 E
  obtain ⟨s6, t6, c6, d6, k6⟩ := cat s5 [45, 48, 46]
  obtain ⟨s7, t7, c7, d7, k7⟩ := cat s6 time
  obtain ⟨s8, t8, c8, d8, k8⟩ := cat s7 [45]
  obtain ⟨s9, t9, c9, d9, k9⟩ := cat s8 rev
  have c2 : ba x1 ++ (⟨#[46]⟩ : ByteArray) = ba s2 := c2
  have c4 : ba s3 ++ (⟨#[46]⟩ : ByteArray) = ba s4 := c4
  have c6 : ba s5 ++ (⟨#[45, 48, 46]⟩ : ByteArray) = ba s6 := c6
  have c8 : ba s7 ++ (⟨#[45]⟩ : ByteArray) = ba s8 := c8
  simp only [List.length_cons, List.length_nil, Nat.zero_add] at k2 k4 k6 k8
  have e5 : V = s9 := by
    rw [← eV, t9, t8, t7, t6, t5, t4, t3, t2, y1, ← hA, ← hD, ← hE, ← hmm]
    simp [releaseL]
  have HV := hide hv
  rw [e5] at HV
  have h0' : base.isEmpty = false := by simpa using h0
  have hlp : (ba x.pre).toList = [] := by rw [ba_list]; exact hx
  have hq : (x.a : Int) = (m : Int) := by omega
  have HP := hide hp
  have HD := hide hD
  have HE := hide hE
  clear ht hr hv eV e5 hA y1 y2 y3 y4 y5 t2 t3 t4 t5 t6 t7 t8 t9 hp h0 hx hmm hD hE
  go_enter Tryz.func25, Tryz.ntmps25
  go_wp2_with (go_at_call 67; fail)
  refine (moment_is (unhide H1) _).mono ?_
  rintro e w1 ⟨rfl, b1⟩
  go_wp2_with (first | (go_at_call 68; refine (refRev_is (unhide H2) (by omega) _).mono ?_; rintro e w2 ⟨rfl, hw⟩; rw [hw]; clear hw w2) | (go_at_call 19; fail))
  refine (refParts_some (unhide HP) _).mono ?_
  rintro e w2 ⟨rfl, b2⟩
  have b2 := below_trans b1 b2
  clear b1
  go_wp2_with (go_at_call 69; fail)
  refine (itoa_any (unhide HA) (by omega) (hg.below b2)).mono ?_
  rintro e w3 ⟨rfl, b3⟩
  have b3 := below_trans b2 b3
  clear b2
  go_wp2_with (go_at_call 69; fail)
  refine (itoa_any (unhide HA) (by omega) (hg.below b3)).mono ?_
  rintro e w4 ⟨rfl, b4⟩
  have b4 := below_trans b3 b4
  clear b3
  go_wp2_with (go_at_call 69; fail)
  refine (itoa_any (unhide HD) (by omega) (hg.below b4)).mono ?_
  rintro e w5 ⟨rfl, b5⟩
  have b5 := below_trans b4 b5
  clear b4
  go_wp2_with (go_at_call 69; fail)
  refine (itoa_any (n := x.c + 1) (unhide HE) (by omega) (hg.below b5)).mono ?_
  rintro e w6 ⟨rfl, b6⟩
  have b6 := below_trans b5 b6
  clear b5
  go_wp2_with (go_at_call 70; fail)
  refine (refValid_is (unhide HV) _).mono ?_
  rintro e w7 ⟨rfl, b7⟩
  have b7 := below_trans b6 b7
  clear b6
  go_wp2
  go_ret2
  exact ⟨rfl, b7⟩

theorem refPseudo_any {major : Int} {base time rev : Str} (hr : rev.length ≤ 4294967281) {w : World} (hg : Gd w) : Gives 25 #[.int .i64 major, .string (ba base), .string (ba time), .string (ba rev)] w (pseudoV (pseudoR major base time rev)) := by
  unfold pseudoR
  by_cases h : major < 0 ∨ 999999999 < major
  · rw [if_pos h]; exact rps_range h w
  · rw [if_neg h]
    obtain ⟨m, rfl⟩ : ∃ m : Nat, major = (m : Int) := ⟨major.toNat, by omega⟩
    have hm : m ≤ 999999999 := by omega
    cases h2 : (!timeB time || !revB rev) with
    | true => exact rps_form hm hr h2 w
    | false =>
      simp only [Bool.or_eq_false_iff, Bool.not_eq_false'] at h2
      obtain ⟨ht, hrv⟩ := h2
      simp only [Bool.false_eq_true, if_false, Int.toNat_natCast]
      unfold frontR
      by_cases h0 : base = []
      · subst h0
        simp only [if_true]
        cases hv : (parseV (releaseL m 0 0 ++ [45] ++ time ++ 45 :: rev)).isSome with
        | true => exact rps_bare_y hm ht hrv rfl hv hg
        | false => exact rps_bare_n hm ht hrv rfl hv hg
      · rw [if_neg h0]
        cases hp : parseV base with
        | none => exact rps_none hm ht hrv h0 hp w
        | some x =>
          obtain ⟨l1, l2, l3, _, _⟩ := parse_form hp
          simp only
          by_cases hx : x.a = m
          · subst hx
            simp only [if_true]
            by_cases hpre : x.pre = []
            · have hnn : ¬ x.pre ≠ [] := fun h => h hpre
              rw [if_neg hnn]
              simp only
              cases hv : (parseV (releaseL x.a x.b (x.c + 1) ++ [45, 48, 46] ++ time ++ 45 :: rev)).isSome with
              | true => exact rps_rel_y l1 l2 l3 ht hrv h0 hp hpre rfl hv hg
              | false => exact rps_rel_n l1 l2 l3 ht hrv h0 hp hpre rfl hv hg
            · rw [if_pos hpre]
              simp only
              cases hv : (parseV (base ++ [46, 48, 46] ++ time ++ 45 :: rev)).isSome with
              | true => exact rps_pre_y l1 ht hrv h0 hp hpre rfl hv hg
              | false => exact rps_pre_n l1 ht hrv h0 hp hpre rfl hv hg
          · rw [if_neg hx]; exact rps_other hm ht hrv h0 hp hx w

end Go.Proofs.YtcmafidnaojkiaaGreatDoor
