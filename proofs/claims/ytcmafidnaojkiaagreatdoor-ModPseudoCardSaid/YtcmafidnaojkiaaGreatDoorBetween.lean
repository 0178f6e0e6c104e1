/-
  ModBetween: a pseudo-version lies between its base and the next release.
-/
import Derived.Test.YtcmafidnaojkiaaGreatDoorPsC
import Derived.Test.YtcmafidnaojkiaaGreatDoorMajors
namespace Go.Proofs.YtcmafidnaojkiaaGreatDoor
open Go.RowKit

theorem lawRelease_any {a b c : Nat} (ha : a ≤ 1000000000) (hb : b ≤ 1000000000) (hc : c ≤ 1000000000) (w : World) : Calls Tryz.prog 48 #[.int .i64 (a : Int), .int .i64 (b : Int), .int .i64 (c : Int)] w fun e w' => e = .returned (.string (ba (releaseL a b c))) ∧ w' = w := by
  have lA := decDigits_length10 ha
  have lB := decDigits_length10 hb
  have lC := decDigits_length10 hc
  have er : releaseL a b c = [118] ++ Lib.decDigits a ++ [46] ++ Lib.decDigits b ++ [46] ++ Lib.decDigits c := by simp [releaseL]
  obtain ⟨A, hA⟩ : ∃ A, Lib.decDigits a = A := ⟨_, rfl⟩
  obtain ⟨B, hB⟩ : ∃ B, Lib.decDigits b = B := ⟨_, rfl⟩
  obtain ⟨C, hC⟩ : ∃ C, Lib.decDigits c = C := ⟨_, rfl⟩
  rw [hA] at lA er; rw [hB] at lB er; rw [hC] at lC er
  obtain ⟨x1, y1, z1, u1, v1⟩ := cat [118] A
  obtain ⟨x2, y2, z2, u2, v2⟩ := cat x1 [46]
  obtain ⟨x3, y3, z3, u3, v3⟩ := cat x2 B
  obtain ⟨x4, y4, z4, u4, v4⟩ := cat x3 [46]
  obtain ⟨x5, y5, z5, u5, v5⟩ := cat x4 C
  have er : releaseL a b c = x5 := by rw [er, y5, y4, y3, y2, y1]
  rw [er]
  have qA := ba_size A
  have qB := ba_size B
  have qC := ba_size C
  have z1 : (⟨#[118]⟩ : ByteArray) ++ ba A = ba x1 := z1
  have z2 : ba x1 ++ (⟨#[46]⟩ : ByteArray) = ba x2 := z2
  have z4 : ba x3 ++ (⟨#[46]⟩ : ByteArray) = ba x4 := z4
  have HA := hide hA
  have HB := hide hB
  have HC := hide hC
  simp only [List.length_cons, List.length_nil, Nat.zero_add] at v1 v2 v4
  clear y1 y2 y3 y4 y5 hA hB hC er
  go_enter Tryz.func48, Tryz.ntmps48
  go_wp2_with (go_at_call 49; fail)
  refine (lawDigits_is (unhide HA) ha _).mono ?_
  rintro e w1 ⟨rfl, hw⟩
  rw [hw]
  clear hw
  go_wp2_with (go_at_call 49; fail)
  refine (lawDigits_is (unhide HB) hb _).mono ?_
  rintro e w2 ⟨rfl, hw⟩
  rw [hw]
  clear hw
  go_wp2_with (go_at_call 49; fail)
  refine (lawDigits_is (unhide HC) hc _).mono ?_
  rintro e w3 ⟨rfl, hw⟩
  rw [hw]
  clear hw
  go_wp2_with (go_at_call 49; fail)
  go_ret
  exact ⟨rfl, rfl⟩
theorem lawRelease_is {a b c : Nat} {R : Str} (h : releaseL a b c = R) (ha : a ≤ 1000000000) (hb : b ≤ 1000000000) (hc : c ≤ 1000000000) (w : World) : Calls Tryz.prog 48 #[.int .i64 (a : Int), .int .i64 (b : Int), .int .i64 (c : Int)] w fun e w' => e = .returned (.string (ba R)) ∧ w' = w := by rw [← h]; exact lawRelease_any ha hb hc w

theorem lawRelease_quiet {a b c : Nat} {R : Str} (h : releaseL a b c = R) (ha : a ≤ 1000000000) (hb : b ≤ 1000000000) (hc : c ≤ 1000000000) (w : World) : Calls Tryz.prog 48 #[.int .i64 (a : Int), .int .i64 (b : Int), .int .i64 (c : Int)] w fun e w' => e = .returned (.string (ba R)) ∧ ∃ nq, w' = w.drewN nq :=
  (lawRelease_is h ha hb hc w).mono fun _ _ ⟨he, hw⟩ => ⟨he, 0, by rw [hw]; rfl⟩

theorem few_three {a b c : Str} (h : fewB [a, b, c] = true) : a.length ≤ 2000 ∧ b.length ≤ 2000 ∧ c.length ≤ 2000 := by
  simpa [fewB] using h

theorem between_big {m : Int} {a b c : Str} (h : fewB [a, b, c] = false) {w : World} (hg : Gd w) : Gives 10 #[.int .i64 m, .string (ba a), .string (ba b), .string (ba c)] w (.bool true) := by
  unfold Gives
  have H := hide h
  clear h
  go_enter Tryz.func10, Tryz.ntmps10
  go_wp2_with (go_at_call 13; fail)
  refine (first_any hg).mono ?_
  rintro e w1 ⟨rfl, b1⟩
  go_wp2_with (go_at_call 14; fail)
  refine (few_is (ps := [a, b, c]) (unhide H) (by simp) (texts_new w1 [a, b, c])).mono ?_
  rintro e w2 ⟨rfl, hw⟩
  rw [hw]
  go_wp2
  go_ret
  exact ⟨rfl, b1.alloc b1.size _⟩

theorem pseudo_err {m : Int} {a b c : Str} (h : (pseudoR m a b c).2 ≠ 0) : (pseudoR m a b c).1 = [] := by
  unfold pseudoR at h ⊢
  split
  · rfl
  · rename_i h1
    rw [if_neg h1] at h
    split
    · rfl
    · rename_i h2
      rw [if_neg h2] at h
      split
      · rfl
      · rename_i f hf
        rw [hf] at h
        simp only at h
        split
        · rename_i h3; rw [if_pos h3] at h; exact absurd rfl h
        · rfl

theorem between_err {m : Int} {a b c : Str} (h : fewB [a, b, c] = true) (he : (pseudoR m a b c).2 ≠ 0) {w : World} (hg : Gd w) : Gives 10 #[.int .i64 m, .string (ba a), .string (ba b), .string (ba c)] w (.bool true) := by
  unfold Gives
  obtain ⟨la, lb, lc⟩ := few_three h
  obtain ⟨n, hr⟩ : ∃ n : Nat, pseudoR m a b c = ([], n) := ⟨_, Prod.ext (pseudo_err he) rfl⟩
  have hn : ¬ (n : Int) = 0 := by rw [hr] at he; simp only at he; omega
  have hl := ba_list []
  have H := hide h
  have HR := hide hr
  clear h he hr
  go_enter Tryz.func10, Tryz.ntmps10
  go_wp2_with (go_at_call 13; fail)
  refine (first_any hg).mono ?_
  rintro e w1 ⟨rfl, b1⟩
  go_wp2_with (go_at_call 14; fail)
  refine (few_is (ps := [a, b, c]) (unhide H) (by simp) (texts_new w1 [a, b, c])).mono ?_
  rintro e w2 ⟨rfl, hw⟩
  have b2 : Below w.heap.size w w2 := by rw [hw]; exact b1.alloc b1.size _
  clear hw b1
  go_wp2_with (go_at_call 24; fail)
  refine (pseudo_is (unhide HR) (by omega) (by omega) (hg.below b2)).mono ?_
  rintro e w3 ⟨rfl, b3⟩
  have b3 := b2.trans (b3.mono b2.size)
  clear b2
  unfold pseudoV
  go_wp2_with (go_at_call 28; refine (num_any _ _).mono ?_; rintro e w6 ⟨rfl, hw⟩; rw [hw]; clear hw w6)
  go_ret
  exact ⟨rfl, b3⟩

theorem split_is {v : Str} {r : Str × Str × Str × Bool} (h : splitPR v = r) (hv : v.length ≤ 4294967281) {w : World} (hg : Gd w) : Gives 26 #[.string (ba v)] w (splitV r) := by rw [← h]; exact splitP_any hv hg

set_option maxHeartbeats 2000000 in
theorem between_walk {m : Nat} {a b c v : Str} {x : Ver} {R : Str} {above : Int} (h : fewB [a, b, c] = true) (hr : pseudoR (m : Int) a b c = (v, 0)) (hv : parseV v = some x) (hx : x.a = m) (hs : splitPR v = (a, b, c, true)) (hab : a ≠ []) (hc : cmpV v a = above) (h0 : 0 < above) (hR : releaseL x.a x.b x.c = R) (hn : cmpV v R < 0)
    {w : World} (hg : Gd w) : Gives 10 #[.int .i64 (m : Int), .string (ba a), .string (ba b), .string (ba c)] w (.bool true) := by
  unfold Gives
  obtain ⟨la, lb, lc⟩ := few_three h
  obtain ⟨l1, l2, l3, l4, _⟩ := parse_form hv
  have lR := release_len x.a x.b x.c (by omega) (by omega) (by omega)
  rw [hR] at lR
  have sR := ba_size R
  have sv := ba_size v
  have i1 := ba_list a
  have i2 := ba_list b
  have i3 := ba_list c
  have ha' : a.isEmpty = false := by simpa using hab
  obtain ⟨z, hz⟩ : ∃ z, cmpV v R = z := ⟨_, rfl⟩
  rw [hz] at hn
  have hxi : (x.a : Int) = (m : Int) := by omega
  have hex : (ba v).extract 0 0 = ba [] := by rw [Lib.extract_eq]; simp [ba]
  have hap : ba [] ++ ba R = ba R := by rw [ba_add]; rfl
  have s0 := ba_size []
  have H := hide h
  have HR := hide hr
  have HV := hide hv
  have HS := hide hs
  have HC := hide hc
  have HZ := hide hz
  have HRR : Hid (releaseL m x.b x.c = R) := by show releaseL m x.b x.c = R; rw [← hx]; exact hR
  have hm9 : m ≤ 999999999 := by omega
  have HVS : Hid ((parseV v).isSome = true) := by show (parseV v).isSome = true; rw [hv]; rfl
  clear h hr hv hs hc hz hR hx hab
  go_enter Tryz.func10, Tryz.ntmps10
  go_wp2_with (go_at_call 13; fail)
  refine (first_any hg).mono ?_
  rintro e w1 ⟨rfl, b1⟩
  go_wp2_with (go_at_call 14; fail)
  refine (few_is (ps := [a, b, c]) (unhide H) (by simp) (texts_new w1 [a, b, c])).mono ?_
  rintro e w2 ⟨rfl, hw⟩
  have b2 : Below w.heap.size w w2 := by rw [hw]; exact b1.alloc b1.size _
  clear hw b1
  go_wp2_with (go_at_call 24; fail)
  refine (pseudo_is (unhide HR) (by omega) (by omega) (hg.below b2)).mono ?_
  rintro e w3 ⟨rfl, b3⟩
  have b3 := b2.trans (b3.mono b2.size)
  clear b2
  unfold pseudoV
  go_wp2_with (first | (go_at_call 28; refine (num_any _ _).mono ?_; rintro e w6 ⟨rfl, hw⟩; rw [hw]; clear hw w6) | (go_at_call 26; fail))
  refine (split_is (unhide HS) (by omega) (hg.below b3)).mono ?_
  rintro e w4 ⟨rfl, b4⟩
  have b4 := b3.trans (b4.mono b3.size)
  clear b3
  unfold splitV
  go_wp2_with (go_at_call 16; fail)
  refine (valid_is (unhide HVS) (hg.below b4)).mono ?_
  rintro e w5 ⟨rfl, b5⟩
  have b5 := b4.trans (b5.mono b4.size)
  clear b4
  go_wp2_with (go_at_call 18; fail)
  refine (parts_some (unhide HV) (hg.below b5)).mono ?_
  rintro e w6 ⟨rfl, b6⟩
  have b6 := b5.trans (b6.mono b5.size)
  clear b5
  go_wp2
  go_quiet ((go_at_call 48; exact Calls.quiet_of (lawRelease_quiet (unhide HRR) (by omega) (by omega) (by omega) _)))
  have b6 := below_drewN b6 nq
  go_wp2_with (go_at_call 15; fail)
  refine (cmp_is (unhide HC) (hg.below b6)).mono ?_
  rintro e w7 ⟨rfl, b7⟩
  have b7 := b6.trans (b7.mono b6.size)
  clear b6
  go_wp2_with (go_at_call 15; fail)
  refine (cmp_is (unhide HZ) (hg.below b7)).mono ?_
  rintro e w8 ⟨rfl, b8⟩
  have b8 := b7.trans (b8.mono b7.size)
  clear b7
  go_wp2
  go_ret
  exact ⟨rfl, b8⟩

set_option maxHeartbeats 2000000 in
theorem between_bare {m : Nat} {a b c v : Str} {x : Ver} {R : Str} (h : fewB [a, b, c] = true) (hr : pseudoR (m : Int) a b c = (v, 0)) (hv : parseV v = some x) (hx : x.a = m) (hs : splitPR v = (a, b, c, true)) (hab : a = []) (hR : releaseL x.a x.b x.c = R) (hn : cmpV v R < 0)
    {w : World} (hg : Gd w) : Gives 10 #[.int .i64 (m : Int), .string (ba a), .string (ba b), .string (ba c)] w (.bool true) := by
  unfold Gives
  obtain ⟨la, lb, lc⟩ := few_three h
  obtain ⟨l1, l2, l3, l4, _⟩ := parse_form hv
  have lR := release_len x.a x.b x.c (by omega) (by omega) (by omega)
  rw [hR] at lR
  have sR := ba_size R
  have sv := ba_size v
  have i2 := ba_list b
  have i3 := ba_list c
  subst hab
  have i1 := ba_list []
  obtain ⟨z, hz⟩ : ∃ z, cmpV v R = z := ⟨_, rfl⟩
  rw [hz] at hn
  have hxi : (x.a : Int) = (m : Int) := by omega
  have hex : (ba v).extract 0 0 = ba [] := by rw [Lib.extract_eq]; simp [ba]
  have hap : ba [] ++ ba R = ba R := by rw [ba_add]; rfl
  have s0 := ba_size []
  have H := hide h
  have HR := hide hr
  have HV := hide hv
  have HS := hide hs
  have HZ := hide hz
  have HRR : Hid (releaseL m x.b x.c = R) := by show releaseL m x.b x.c = R; rw [← hx]; exact hR
  have hm9 : m ≤ 999999999 := by omega
  have HVS : Hid ((parseV v).isSome = true) := by show (parseV v).isSome = true; rw [hv]; rfl
  clear h hr hv hs hz hR hx
  go_enter Tryz.func10, Tryz.ntmps10
  go_wp2_with (go_at_call 13; fail)
  refine (first_any hg).mono ?_
  rintro e w1 ⟨rfl, b1⟩
  go_wp2_with (go_at_call 14; fail)
  refine (few_is (ps := [[], b, c]) (unhide H) (by simp) (texts_new w1 [[], b, c])).mono ?_
  rintro e w2 ⟨rfl, hw⟩
  have b2 : Below w.heap.size w w2 := by rw [hw]; exact b1.alloc b1.size _
  clear hw b1
  go_wp2_with (go_at_call 24; fail)
  refine (pseudo_is (unhide HR) (by omega) (by omega) (hg.below b2)).mono ?_
  rintro e w3 ⟨rfl, b3⟩
  have b3 := b2.trans (b3.mono b2.size)
  clear b2
  unfold pseudoV
  go_wp2_with (first | (go_at_call 28; refine (num_any _ _).mono ?_; rintro e w6 ⟨rfl, hw⟩; rw [hw]; clear hw w6) | (go_at_call 26; fail))
  refine (split_is (unhide HS) (by omega) (hg.below b3)).mono ?_
  rintro e w4 ⟨rfl, b4⟩
  have b4 := b3.trans (b4.mono b3.size)
  clear b3
  unfold splitV
  go_wp2_with (go_at_call 16; fail)
  refine (valid_is (unhide HVS) (hg.below b4)).mono ?_
  rintro e w5 ⟨rfl, b5⟩
  have b5 := b4.trans (b5.mono b4.size)
  clear b4
  go_wp2_with (go_at_call 18; fail)
  refine (parts_some (unhide HV) (hg.below b5)).mono ?_
  rintro e w6 ⟨rfl, b6⟩
  have b6 := b5.trans (b6.mono b5.size)
  clear b5
  go_wp2
  go_quiet ((go_at_call 48; exact Calls.quiet_of (lawRelease_quiet (unhide HRR) (by omega) (by omega) (by omega) _)))
  have b6 := below_drewN b6 nq
  go_wp2_with (go_at_call 15; fail)
  refine (cmp_is (unhide HZ) (hg.below b6)).mono ?_
  rintro e w8 ⟨rfl, b8⟩
  have b8 := b6.trans (b8.mono b6.size)
  clear b6
  go_wp2
  go_ret
  exact ⟨rfl, b8⟩

theorem between_any (m : Int) (a b c : Str) {w : World} (hg : Gd w) : Gives 10 #[.int .i64 m, .string (ba a), .string (ba b), .string (ba c)] w (.bool true) := by
  cases h : fewB [a, b, c] with
  | false => exact between_big h hg
  | true =>
    by_cases he : (pseudoR m a b c).2 = 0
    · obtain ⟨x, hv, hx, hs, hab, hn⟩ := pseudo_holds he
      obtain ⟨k, rfl⟩ : ∃ k : Nat, m = (k : Int) := ⟨x.a, hx.symm⟩
      have hx' : x.a = k := by omega
      obtain ⟨v, hr⟩ : ∃ v, pseudoR (k : Int) a b c = (v, 0) := ⟨_, Prod.ext rfl he⟩
      rw [hr] at hv hs hab hn
      by_cases ha : a = []
      · exact between_bare h hr hv hx' hs ha rfl hn hg
      · have h0 : 0 < cmpV v a := by
          rcases hab with hab | hab
          · exact absurd hab ha
          · exact hab
        exact between_walk h hr hv hx' hs ha rfl h0 rfl hn hg
    · exact between_err h he hg

end Go.Proofs.YtcmafidnaojkiaaGreatDoor
