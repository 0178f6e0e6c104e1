/-
  The contracts of pseudoFront and Pseudo.
-/
import Derived.Test.YtcmafidnaojkiaaGreatDoorPsA
namespace Go.Proofs.YtcmafidnaojkiaaGreatDoor
open Go.RowKit

def frontV (o : Option Str) : Value :=
  match o with
  | some f => .tuple #[.string (ba f), .bool true]
  | none => .tuple #[.string ⟨#[]⟩, .bool false]

theorem release_len (a b c : Nat) (ha : a ≤ 1000000000) (hb : b ≤ 1000000000) (hc : c ≤ 1000000000) : (releaseL a b c).length ≤ 33 := by
  have h1 := decDigits_length10 ha
  have h2 := decDigits_length10 hb
  have h3 := decDigits_length10 hc
  simp [releaseL]; omega

theorem release_is {a b c : Nat} {R : Str} (hR : releaseL a b c = R) (ha : a ≤ 1000000000) (hb : b ≤ 1000000000) (hc : c ≤ 1000000000) {w : World} (hg : Gd w) : Gives 111 #[.int .i64 (a : Int), .int .i64 (b : Int), .int .i64 (c : Int)] w (.string (ba R)) := by rw [← hR]; exact release_any ha hb hc hg

theorem parts_none {v : Str} (h : parseV v = none) {w : World} (hg : Gd w) : Gives 18 #[.string (ba v)] w (.tuple #[.int .i64 0, .int .i64 0, .int .i64 0, .string ⟨#[]⟩, .bool false]) := by
  have := parts_any (v := v) hg
  rw [h] at this
  exact this
theorem parts_some {v : Str} {x : Ver} (h : parseV v = some x) {w : World} (hg : Gd w) : Gives 18 #[.string (ba v)] w (.tuple #[.int .i64 (x.a : Int), .int .i64 (x.b : Int), .int .i64 (x.c : Int), .string (ba x.pre), .bool true]) := by
  have := parts_any (v := v) hg
  rw [h] at this
  exact this

theorem front_empty {m : Nat} (hm : m ≤ 999999999) {w : World} (hg : Gd w) : Gives 66 #[.int .i64 (m : Int), .string (ba [])] w (frontV (frontR m [])) := by
  unfold Gives
  have e : frontR m [] = some (releaseL m 0 0 ++ [45]) := rfl
  rw [e]
  unfold frontV
  have hl := release_len m 0 0 (by omega) (by omega) (by omega)
  obtain ⟨R, hR⟩ : ∃ R, releaseL m 0 0 = R := ⟨_, rfl⟩
  rw [hR] at hl ⊢
  obtain ⟨x1, y1, z1, u1, v1⟩ := cat R [45]
  rw [← y1]
  have q1 := ba_size R
  have hli := ba_list []
  have z1 : ba R ++ (⟨#[45]⟩ : ByteArray) = ba x1 := z1
  have HR := hide hR
  clear hR y1
  go_enter Tryz.func66, Tryz.ntmps66
  go_wp2_with (go_at_call 111; fail)
  refine (release_is (unhide HR) (by omega) (by omega) (by omega) hg).mono ?_
  rintro e w1 ⟨rfl, b1⟩
  go_wp2
  go_ret2
  exact ⟨rfl, b1⟩

theorem front_none {m : Nat} {base : Str} (h0 : base ≠ []) (hp : parseV base = none) {w : World} (hg : Gd w) : Gives 66 #[.int .i64 (m : Int), .string (ba base)] w (frontV (frontR m base)) := by
  unfold Gives
  have e : frontR m base = none := by unfold frontR; rw [if_neg h0, hp]
  rw [e]
  unfold frontV
  have hli := ba_list base
  have h0' : base.isEmpty = false := by simpa using h0
  have HP := hide hp
  clear hp h0
  go_enter Tryz.func66, Tryz.ntmps66
  go_wp2_with (go_at_call 18; fail)
  refine (parts_none (unhide HP) hg).mono ?_
  rintro e w1 ⟨rfl, b1⟩
  go_wp2
  go_ret2
  exact ⟨rfl, b1⟩

theorem front_other {m : Nat} {base : Str} {x : Ver} (h0 : base ≠ []) (hp : parseV base = some x) (hm : x.a ≠ m) {w : World} (hg : Gd w) : Gives 66 #[.int .i64 (m : Int), .string (ba base)] w (frontV (frontR m base)) := by
  unfold Gives
  have e : frontR m base = none := by unfold frontR; rw [if_neg h0, hp]; simp [hm]
  rw [e]
  unfold frontV
  have hli := ba_list base
  have h0' : base.isEmpty = false := by simpa using h0
  have hq : ¬ (x.a : Int) = (m : Int) := by omega
  have HP := hide hp
  clear hp h0 hm
  go_enter Tryz.func66, Tryz.ntmps66
  go_wp2_with (go_at_call 18; fail)
  refine (parts_some (unhide HP) hg).mono ?_
  rintro e w1 ⟨rfl, b1⟩
  go_wp2
  go_ret2
  exact ⟨rfl, b1⟩

theorem front_pre {base : Str} {x : Ver} (h0 : base ≠ []) (hp : parseV base = some x) (hx : x.pre ≠ []) {w : World} (hg : Gd w) : Gives 66 #[.int .i64 (x.a : Int), .string (ba base)] w (frontV (frontR x.a base)) := by
  unfold Gives
  have e : frontR x.a base = some (base ++ [46, 48, 46]) := by unfold frontR; rw [if_neg h0, hp]; simp [hx]
  rw [e]
  unfold frontV
  have hbl := (parseV_some hp).1
  have hli := ba_list base
  have hlp := ba_list x.pre
  have h0' : base.isEmpty = false := by simpa using h0
  have h1' : x.pre.isEmpty = false := by simpa using hx
  have hs := ba_size base
  obtain ⟨x1, y1, z1, u1, v1⟩ := cat base [46, 48, 46]
  rw [← y1]
  have z1 : ba base ++ (⟨#[46, 48, 46]⟩ : ByteArray) = ba x1 := z1
  have HP := hide hp
  clear hp h0 hx y1
  go_enter Tryz.func66, Tryz.ntmps66
  go_wp2_with (go_at_call 18; fail)
  refine (parts_some (unhide HP) hg).mono ?_
  rintro e w1 ⟨rfl, b1⟩
  go_wp2
  go_ret2
  exact ⟨rfl, b1⟩

theorem front_bare {base : Str} {x : Ver} (h0 : base ≠ []) (hp : parseV base = some x) (hx : x.pre = []) {w : World} (hg : Gd w) : Gives 66 #[.int .i64 (x.a : Int), .string (ba base)] w (frontV (frontR x.a base)) := by
  unfold Gives
  have e : frontR x.a base = some (releaseL x.a x.b (x.c + 1) ++ [45, 48, 46]) := by unfold frontR; rw [if_neg h0, hp]; simp [hx]
  rw [e]
  unfold frontV
  obtain ⟨l1, l2, l3, _, _⟩ := parse_form hp
  have hli := ba_list base
  have hlp : (ba x.pre).toList = [] := by rw [ba_list]; exact hx
  have h0' : base.isEmpty = false := by simpa using h0
  have hl := release_len x.a x.b (x.c + 1) (by omega) (by omega) (by omega)
  obtain ⟨R, hR⟩ : ∃ R, releaseL x.a x.b (x.c + 1) = R := ⟨_, rfl⟩
  rw [hR] at hl ⊢
  obtain ⟨x1, y1, z1, u1, v1⟩ := cat R [45, 48, 46]
  rw [← y1]
  have q1 := ba_size R
  have z1 : ba R ++ (⟨#[45, 48, 46]⟩ : ByteArray) = ba x1 := z1
  have HR := hide hR
  have HP := hide hp
  clear hp h0 hx y1 hR
  go_enter Tryz.func66, Tryz.ntmps66
  go_wp2_with (go_at_call 18; fail)
  refine (parts_some (unhide HP) hg).mono ?_
  rintro e w1 ⟨rfl, b1⟩
  go_wp2_with (go_at_call 111; fail)
  refine (release_is (c := x.c + 1) (unhide HR) (by omega) (by omega) (by omega) (hg.below b1)).mono ?_
  rintro e w2 ⟨rfl, b2⟩
  have b2' := below_trans b1 b2
  clear b1 b2
  go_wp2
  go_ret2
  exact ⟨rfl, b2'⟩

theorem front_any {m : Nat} (hm : m ≤ 999999999) (base : Str) {w : World} (hg : Gd w) : Gives 66 #[.int .i64 (m : Int), .string (ba base)] w (frontV (frontR m base)) := by
  by_cases h0 : base = []
  · subst h0; exact front_empty hm hg
  · cases hp : parseV base with
    | none => exact front_none h0 hp hg
    | some x =>
      by_cases hx : x.a = m
      · subst hx
        by_cases hpre : x.pre = []
        · exact front_bare h0 hp hpre hg
        · exact front_pre h0 hp hpre hg
      · exact front_other h0 hp hx hg

theorem front_len {m : Nat} (hm : m ≤ 999999999) {base f : Str} (h : frontR m base = some f) : f.length ≤ 100 := by
  unfold frontR at h
  split at h
  · injection h with h
    have := release_len m 0 0 (by omega) (by omega) (by omega)
    rw [← h]; simp; omega
  · split at h
    · cases h
    · rename_i x hx
      obtain ⟨l1, l2, l3, l4, _⟩ := parse_form hx
      split at h
      · split at h
        · injection h with h; rw [← h]; simp; omega
        · injection h with h
          have := release_len m x.b (x.c + 1) (by omega) (by omega) (by omega)
          rw [← h]; simp; omega
      · cases h

def pseudoV (r : Str × Nat) : Value := .tuple #[.string (ba r.1), .int .i64 (r.2 : Int)]

theorem rev_is {r : Str} {b : Bool} (h : revB r = b) (hl : r.length ≤ 4294967281) (w : World) : Calls Tryz.prog 65 #[.string (ba r)] w fun e w' => e = .returned (.bool b) ∧ w' = w := by rw [← h]; exact rev_any hl w
theorem time_is {t : Str} {b : Bool} (h : timeB t = b) (hl : t.length ≤ 4294967281) (w : World) : Gives 64 #[.string (ba t)] w (.bool b) := by rw [← h]; exact time_any hl w

theorem ps_range {major : Int} {base time rev : Str} (h : major < 0 ∨ 999999999 < major) (w : World) : Gives 24 #[.int .i64 major, .string (ba base), .string (ba time), .string (ba rev)] w (.tuple #[.string ⟨#[]⟩, .int .i64 6]) := by
  unfold Gives
  by_cases h1 : major < 0
  · clear h
    go_enter Tryz.func24, Tryz.ntmps24
    go_wp2
    go_ret2
    exact ⟨rfl, Below.refl _ _⟩
  · have h2 : 999999999 < major := by omega
    have h1' : 0 ≤ major := by omega
    clear h h1
    go_enter Tryz.func24, Tryz.ntmps24
    go_wp2
    go_ret2
    exact ⟨rfl, Below.refl _ _⟩

theorem ps_form {m : Nat} {base time rev : Str} (hm : m ≤ 999999999) (ht : time.length ≤ 4294967281) (hr : rev.length ≤ 4294967281) (h : (!timeB time || !revB rev) = true) (w : World) : Gives 24 #[.int .i64 (m : Int), .string (ba base), .string (ba time), .string (ba rev)] w (.tuple #[.string ⟨#[]⟩, .int .i64 15]) := by
  unfold Gives
  have q1 : ¬ (m : Int) < 0 := by omega
  have q2 : ¬ (999999999 : Int) < m := by omega
  cases h1 : timeB time with
  | false =>
    have H1 := hide h1
    clear h h1
    go_enter Tryz.func24, Tryz.ntmps24
    go_wp2_with (go_at_call 64; fail)
    refine (time_is (unhide H1) ht _).mono ?_
    rintro e w1 ⟨rfl, b1⟩
    go_wp2
    go_ret2
    exact ⟨rfl, b1⟩
  | true =>
    have h2 : revB rev = false := by simpa [h1] using h
    have H1 := hide h1
    have H2 := hide h2
    clear h h1 h2
    go_enter Tryz.func24, Tryz.ntmps24
    go_wp2_with (go_at_call 64; fail)
    refine (time_is (unhide H1) ht _).mono ?_
    rintro e w1 ⟨rfl, b1⟩
    go_wp2_with (go_at_call 65; refine (rev_is (unhide H2) hr _).mono ?_; rintro e w2 ⟨rfl, hw⟩; rw [hw]; clear hw w2)
    go_ret2
    exact ⟨rfl, b1⟩

theorem valid_is {v : Str} {b : Bool} (h : (parseV v).isSome = b) {w : World} (hg : Gd w) : Gives 16 #[.string (ba v)] w (.bool b) := by rw [← h]; exact valid_any hg

set_option maxHeartbeats 1000000 in
theorem ps_front {m : Nat} {base time rev : Str} (hm : m ≤ 999999999) (ht : timeB time = true) (hr : revB rev = true) {w : World} (hg : Gd w) :
    Gives 24 #[.int .i64 (m : Int), .string (ba base), .string (ba time), .string (ba rev)] w (pseudoV (match frontR m base with | none => ([], 8) | some f => if (parseV (f ++ time ++ 45 :: rev)).isSome then (f ++ time ++ 45 :: rev, 0) else ([], 8))) := by
  unfold Gives
  have q1 : ¬ (m : Int) < 0 := by omega
  have q2 : ¬ (999999999 : Int) < m := by omega
  have lt := (timeB_spec ht).1
  have lr := (revB_spec hr).1
  have st := ba_size time
  have sr := ba_size rev
  have H1 := hide ht
  have H2 := hide hr
  clear ht hr
  cases hf : frontR m base with
  | none =>
    have HF := hide hf
    clear hf
    unfold pseudoV
    go_enter Tryz.func24, Tryz.ntmps24
    go_wp2_with (go_at_call 64; fail)
    refine (time_is (unhide H1) (by omega) _).mono ?_
    rintro e w1 ⟨rfl, b1⟩
    go_wp2_with (first | (go_at_call 65; refine (rev_is (unhide H2) (by omega) _).mono ?_; rintro e w2 ⟨rfl, hw⟩; rw [hw]; clear hw w2) | (go_at_call 66; fail))
    refine (front_any hm base (hg.below b1)).mono ?_
    rintro e w2 ⟨rfl, b2⟩
    rw [unhide HF]
    unfold frontV
    have b2' := below_trans b1 b2
    clear b1 b2
    go_wp2
    go_ret2
    exact ⟨rfl, b2'⟩
  | some f =>
    have lf := front_len hm hf
    have sf := ba_size f
    have HF := hide hf
    obtain ⟨x1, y1, z1, u1, v1⟩ := cat f time
    obtain ⟨x2, y2, z2, u2, v2⟩ := cat x1 [45]
    obtain ⟨x3, y3, z3, u3, v3⟩ := cat x2 rev
    have z2 : ba x1 ++ (⟨#[45]⟩ : ByteArray) = ba x2 := z2
    have e3 : f ++ time ++ 45 :: rev = x3 := by rw [y3, y2, y1]; simp
    simp only
    rw [e3]
    simp only [List.length_cons, List.length_nil, Nat.zero_add] at v2
    clear hf y1 y2 y3 e3
    cases hv : (parseV x3).isSome with
    | true =>
      have HV := hide hv
      clear hv
      unfold pseudoV
      go_enter Tryz.func24, Tryz.ntmps24
      go_wp2_with (go_at_call 64; fail)
      refine (time_is (unhide H1) (by omega) _).mono ?_
      rintro e w1 ⟨rfl, b1⟩
      go_wp2_with (first | (go_at_call 65; refine (rev_is (unhide H2) (by omega) _).mono ?_; rintro e w2 ⟨rfl, hw⟩; rw [hw]; clear hw w2) | (go_at_call 66; fail))
      refine (front_any hm base (hg.below b1)).mono ?_
      rintro e w2 ⟨rfl, b2⟩
      rw [unhide HF]
      unfold frontV
      have b2' := below_trans b1 b2
      clear b1 b2
      go_wp2_with (go_at_call 16; fail)
      refine (valid_is (unhide HV) (hg.below b2')).mono ?_
      rintro e w3 ⟨rfl, b3⟩
      have b3' := below_trans b2' b3
      clear b2' b3
      go_wp2
      go_ret2
      exact ⟨rfl, b3'⟩
    | false =>
      have HV := hide hv
      clear hv
      unfold pseudoV
      go_enter Tryz.func24, Tryz.ntmps24
      go_wp2_with (go_at_call 64; fail)
      refine (time_is (unhide H1) (by omega) _).mono ?_
      rintro e w1 ⟨rfl, b1⟩
      go_wp2_with (first | (go_at_call 65; refine (rev_is (unhide H2) (by omega) _).mono ?_; rintro e w2 ⟨rfl, hw⟩; rw [hw]; clear hw w2) | (go_at_call 66; fail))
      refine (front_any hm base (hg.below b1)).mono ?_
      rintro e w2 ⟨rfl, b2⟩
      rw [unhide HF]
      unfold frontV
      have b2' := below_trans b1 b2
      clear b1 b2
      go_wp2_with (go_at_call 16; fail)
      refine (valid_is (unhide HV) (hg.below b2')).mono ?_
      rintro e w3 ⟨rfl, b3⟩
      have b3' := below_trans b2' b3
      clear b2' b3
      go_wp2
      go_ret2
      exact ⟨rfl, b3'⟩

theorem pseudo_any {major : Int} {base time rev : Str} (ht : time.length ≤ 4294967281) (hr : rev.length ≤ 4294967281) {w : World} (hg : Gd w) : Gives 24 #[.int .i64 major, .string (ba base), .string (ba time), .string (ba rev)] w (pseudoV (pseudoR major base time rev)) := by
  unfold pseudoR
  by_cases h : major < 0 ∨ 999999999 < major
  · rw [if_pos h]; exact ps_range h w
  · rw [if_neg h]
    obtain ⟨m, rfl⟩ : ∃ m : Nat, major = (m : Int) := ⟨major.toNat, by omega⟩
    have hm : m ≤ 999999999 := by omega
    cases h2 : (!timeB time || !revB rev) with
    | true => exact ps_form hm ht hr h2 w
    | false =>
      simp only [Bool.or_eq_false_iff, Bool.not_eq_false'] at h2
      exact ps_front hm h2.1 h2.2 hg

end Go.Proofs.YtcmafidnaojkiaaGreatDoor
