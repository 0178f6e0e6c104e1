/-
  The contracts of pseudoBase and SplitPseudo.
-/
import Derived.Test.YtcmafidnaojkiaaGreatDoorPsB
namespace Go.Proofs.YtcmafidnaojkiaaGreatDoor
open Go.RowKit

/-- What pseudoBase answers. -/
def baseP (v : Str) (x : Ver) (stamp : Str) : Str × Bool :=
  if Lib.trimSuffix x.pre stamp = [] then ([], decide (x.b = 0) && decide (x.c = 0))
  else if Lib.trimSuffix x.pre stamp = [48, 46] then (if x.c = 0 then ([], false) else (releaseL x.a x.b (x.c - 1), true))
  else (Lib.trimSuffix v (46 :: 48 :: 46 :: stamp), Lib.hasSuffix v (46 :: 48 :: 46 :: stamp))

theorem baseP_R (v : Str) (x : Ver) (stamp : Str) : baseR v x stamp = if (baseP v x stamp).2 then some (baseP v x stamp).1 else none := by
  unfold baseR baseP
  by_cases h1 : Lib.trimSuffix x.pre stamp = []
  · rw [if_pos h1, if_pos h1]
    by_cases h2 : x.b = 0 ∧ x.c = 0
    · simp [h2]
    · rw [if_neg h2, if_neg]
      simpa using h2
  · rw [if_neg h1, if_neg h1]
    by_cases h2 : Lib.trimSuffix x.pre stamp = [48, 46]
    · rw [if_pos h2, if_pos h2]
      by_cases h3 : x.c = 0
      · simp [h3]
      · simp [h3]
    · rw [if_neg h2, if_neg h2]

theorem parts_ver (v : Str) {w : World} (hg : Gd w) : ∃ ok : Bool, Gives 18 #[.string (ba v)] w (.tuple #[.int .i64 ((verOf v).a : Int), .int .i64 ((verOf v).b : Int), .int .i64 ((verOf v).c : Int), .string (ba (verOf v).pre), .bool ok]) :=
  ⟨_, parts_any (v := v) hg⟩
theorem verOf_bounds (v : Str) : (verOf v).a ≤ 999999999 ∧ (verOf v).b ≤ 999999999 ∧ (verOf v).c ≤ 999999999 ∧ (verOf v).pre.length ≤ 60 := by
  unfold verOf
  cases h : parseV v with
  | none => exact ⟨by simp, by simp, by simp, by simp⟩
  | some x =>
    obtain ⟨l1, l2, l3, l4, _⟩ := parse_form h
    obtain ⟨_, rest, e, hr⟩ := parseV_some h
    refine ⟨l1, l2, l3, ?_⟩
    have := behind_le 45 rest
    have ep := (parseR_spec hr).2.1
    show x.pre.length ≤ 60
    rw [ep]; rw [e] at l4; simp at l4; omega

theorem trim_any {a b : Str} (hl : a.length ≤ 4294967281) (w : World) : Calls Tryz.prog 116 #[.string (ba a), .string (ba b)] w fun e w' => e = .returned (.string (ba (Lib.trimSuffix a b))) ∧ w' = w := Tryz.strings_TrimSuffix (ba a) (ba b) w (by rw [ba_size]; omega)
theorem cutS_any {a b : Str} (hl : a.length ≤ 4294967281) (w : World) : Calls Tryz.prog 117 #[.string (ba a), .string (ba b)] w fun e w' => e = .returned (.tuple #[.string (ba (Lib.trimSuffix a b)), .bool (Lib.hasSuffix a b)]) ∧ w' = w := Tryz.strings_CutSuffix (ba a) (ba b) w (by rw [ba_size]; omega)
theorem trim_is {a b t : Str} (h : Lib.trimSuffix a b = t) (hl : a.length ≤ 4294967281) (w : World) : Calls Tryz.prog 116 #[.string (ba a), .string (ba b)] w fun e w' => e = .returned (.string (ba t)) ∧ w' = w := by rw [← h]; exact trim_any hl w

set_option maxHeartbeats 1000000 in
theorem base_any {v stamp : Str} (hv : v.length ≤ 4294967281) (hs : stamp.length ≤ 4294967281) {w : World} (hg : Gd w) : Gives 73 #[.string (ba v), .string (ba stamp)] w (.tuple #[.string (ba (baseP v (verOf v) stamp).1), .bool (baseP v (verOf v) stamp).2]) := by
  unfold Gives
  obtain ⟨ok, hparts⟩ := parts_ver v hg
  obtain ⟨l1, l2, l3, l4⟩ := verOf_bounds v
  have HP := hide hparts
  clear hparts
  generalize verOf v = x at *
  obtain ⟨t, ht⟩ : ∃ t, Lib.trimSuffix x.pre stamp = t := ⟨_, rfl⟩
  have HT := hide ht
  have lt := ba_list t
  have hbp : baseP v x stamp = if t = [] then ([], decide (x.b = 0) && decide (x.c = 0)) else if t = [48, 46] then (if x.c = 0 then ([], false) else (releaseL x.a x.b (x.c - 1), true)) else (Lib.trimSuffix v (46 :: 48 :: 46 :: stamp), Lib.hasSuffix v (46 :: 48 :: 46 :: stamp)) := by unfold baseP; rw [ht]
  clear ht
  -- cases of base
  by_cases h1 : t = []
  · by_cases hb : x.b = 0
    · by_cases hc : x.c = 0
      · have HB : Hid (baseP v x stamp = ([], true)) := by show baseP v x stamp = _; rw [hbp]; simp [h1, hb, hc]
        have hbi : (x.b : Int) = 0 := by omega
        have hci : (x.c : Int) = 0 := by omega
        subst h1
        clear hbp hb hc
        rw [unhide HB]
        go_enter Tryz.func73, Tryz.ntmps73
        go_wp2_with (go_at_call 18; fail)
        refine (unhide HP).mono ?_
        rintro e w1 ⟨rfl, b1⟩
        go_wp2_with (go_at_call 116; refine (trim_is (unhide HT) (by omega) _).mono ?_; rintro e w2 ⟨rfl, hw⟩; rw [hw]; clear hw w2)
        go_ret2
        exact ⟨rfl, b1⟩
      · have HB : Hid (baseP v x stamp = ([], false)) := by show baseP v x stamp = _; rw [hbp]; simp [h1, hc]
        have hbi : (x.b : Int) = 0 := by omega
        have hci : ((x.c : Int) == 0) = false := by simp; omega
        subst h1
        clear hbp hb hc
        rw [unhide HB]
        go_enter Tryz.func73, Tryz.ntmps73
        go_wp2_with (go_at_call 18; fail)
        refine (unhide HP).mono ?_
        rintro e w1 ⟨rfl, b1⟩
        go_wp2_with (go_at_call 116; refine (trim_is (unhide HT) (by omega) _).mono ?_; rintro e w2 ⟨rfl, hw⟩; rw [hw]; clear hw w2)
        go_ret2
        exact ⟨rfl, b1⟩
    · have HB : Hid (baseP v x stamp = ([], false)) := by show baseP v x stamp = _; rw [hbp]; simp [h1, hb]
      have hbi : ¬ (x.b : Int) = 0 := by omega
      subst h1
      clear hbp hb
      rw [unhide HB]
      go_enter Tryz.func73, Tryz.ntmps73
      go_wp2_with (go_at_call 18; fail)
      refine (unhide HP).mono ?_
      rintro e w1 ⟨rfl, b1⟩
      go_wp2_with (go_at_call 116; refine (trim_is (unhide HT) (by omega) _).mono ?_; rintro e w2 ⟨rfl, hw⟩; rw [hw]; clear hw w2)
      go_ret2
      exact ⟨rfl, b1⟩
  · have h1' : t.isEmpty = false := by simpa using h1
    by_cases h2 : t = [48, 46]
    · by_cases hc : x.c = 0
      · have HB : Hid (baseP v x stamp = ([], false)) := by show baseP v x stamp = _; rw [hbp]; simp [h2, hc]
        have hci : (x.c : Int) = 0 := by omega
        subst h2
        clear hbp hc h1 h1'
        rw [unhide HB]
        go_enter Tryz.func73, Tryz.ntmps73
        go_wp2_with (go_at_call 18; fail)
        refine (unhide HP).mono ?_
        rintro e w1 ⟨rfl, b1⟩
        go_wp2_with (go_at_call 116; refine (trim_is (unhide HT) (by omega) _).mono ?_; rintro e w2 ⟨rfl, hw⟩; rw [hw]; clear hw w2)
        go_ret2
        exact ⟨rfl, b1⟩
      · obtain ⟨c', hc'⟩ : ∃ c', x.c = c' + 1 := ⟨x.c - 1, by omega⟩
        have HB : Hid (baseP v x stamp = (releaseL x.a x.b c', true)) := by show baseP v x stamp = _; rw [hbp]; simp [h2, hc']
        have hci : ¬ (x.c : Int) = 0 := by omega
        have hcs : (x.c : Int) - 1 = (c' : Int) := by omega
        have hcb : c' ≤ 1000000000 := by omega
        subst h2
        clear hbp hc h1 h1' hc'
        rw [unhide HB]
        go_enter Tryz.func73, Tryz.ntmps73
        go_wp2_with (go_at_call 18; fail)
        refine (unhide HP).mono ?_
        rintro e w1 ⟨rfl, b1⟩
        go_wp2_with (first | (go_at_call 116; refine (trim_is (unhide HT) (by omega) _).mono ?_; rintro e w2 ⟨rfl, hw⟩; rw [hw]; clear hw w2) | (go_at_call 111; fail))
        refine (release_any (by omega) (by omega) hcb (hg.below b1)).mono ?_
        rintro e w3 ⟨rfl, b3⟩
        have b3 := below_trans b1 b3
        clear b1
        go_wp2
        go_ret2
        exact ⟨rfl, b3⟩
    · have h2' : (t == [48, 46]) = false := by simpa using h2
      have HB : Hid (baseP v x stamp = (Lib.trimSuffix v (46 :: 48 :: 46 :: stamp), Lib.hasSuffix v (46 :: 48 :: 46 :: stamp))) := by show baseP v x stamp = _; rw [hbp, if_neg h1, if_neg h2]
      obtain ⟨x1, y1, z1, u1, v1⟩ := cat [46, 48, 46] stamp
      have z1 : (⟨#[46, 48, 46]⟩ : ByteArray) ++ ba stamp = ba x1 := z1
      have ey : (46 :: 48 :: 46 :: stamp : Str) = x1 := by rw [y1]; rfl
      rw [ey] at HB
      have ss := ba_size stamp
      clear hbp h1 h2 y1 ey
      rw [unhide HB]
      go_enter Tryz.func73, Tryz.ntmps73
      go_wp2_with (go_at_call 18; fail)
      refine (unhide HP).mono ?_
      rintro e w1 ⟨rfl, b1⟩
      go_wp2_with (first | (go_at_call 116; refine (trim_is (unhide HT) (by omega) _).mono ?_; rintro e w2 ⟨rfl, hw⟩; rw [hw]; clear hw w2) | (go_at_call 117; refine (cutS_any (by omega) _).mono ?_; rintro e w2 ⟨rfl, hw⟩; rw [hw]; clear hw w2))
      go_ret2
      exact ⟨rfl, b1⟩

theorem dot_none {p : Str} (h : splitLast 46 p = none) (hl : p.length < 4294967281) (w : World) : Calls Tryz.prog 71 #[.string (ba p), .int .u8 46] w fun e w' => e = .returned (.int .i64 (-1)) ∧ w' = w := by
  have := Tryz.strings_LastIndexByte (ba p) ((46 : UInt8).toNat : Int) (by rw [ba_size]; omega) w
  rw [lastIx_eq, h] at this
  exact this
theorem dot_some {p f t : Str} (h : splitLast 46 p = some (f, t)) (hl : p.length < 4294967281) (w : World) : Calls Tryz.prog 71 #[.string (ba p), .int .u8 46] w fun e w' => e = .returned (.int .i64 (f.length : Int)) ∧ w' = w := by
  have := Tryz.strings_LastIndexByte (ba p) ((46 : UInt8).toNat : Int) (by rw [ba_size]; omega) w
  rw [lastIx_eq, h] at this
  exact this
/-- The last dot, and what stands behind it. -/
theorem dot_any {p : Str} (hl : p.length < 4294967281) : ∃ (i : Int) (k : Nat), i + 1 = (k : Int) ∧ k ≤ p.length ∧ (ba p).extract k p.length = ba (stampOf p) ∧ (stampOf p).length ≤ p.length ∧ ∀ w : World, Calls Tryz.prog 71 #[.string (ba p), .int .u8 46] w fun e w' => e = .returned (.int .i64 i) ∧ w' = w := by
  cases h : splitLast 46 p with
  | none =>
    have e : stampOf p = p := by unfold stampOf; rw [h]
    refine ⟨-1, 0, rfl, Nat.zero_le _, ?_, ?_, dot_none h hl⟩
    · rw [e]; exact whole_of p
    · rw [e]; exact Nat.le_refl _
  | some x =>
    obtain ⟨f, t⟩ := x
    obtain ⟨e, _⟩ := splitLast_some.1 h
    have es : stampOf p = t := by unfold stampOf; rw [h]
    refine ⟨f.length, f.length + 1, by simp, ?_, ?_, ?_, dot_some h hl⟩
    · rw [e]; simp
    · rw [es, e]; exact drop_from f t 46
    · rw [es, e]; simp; omega

def splitV (r : Str × Str × Str × Bool) : Value := .tuple #[.string (ba r.1), .string (ba r.2.1), .string (ba r.2.2.1), .bool r.2.2.2]
theorem base_is {v stamp : Str} {r : Str × Bool} (h : baseP v (verOf v) stamp = r) (hv : v.length ≤ 4294967281) (hs : stamp.length ≤ 4294967281) {w : World} (hg : Gd w) : Gives 73 #[.string (ba v), .string (ba stamp)] w (.tuple #[.string (ba r.1), .bool r.2]) := by rw [← h]; exact base_any hv hs hg

set_option maxHeartbeats 1000000 in
theorem splitP_any {v : Str} (hv : v.length ≤ 4294967281) {w : World} (hg : Gd w) : Gives 26 #[.string (ba v)] w (splitV (splitPR v)) := by
  unfold Gives
  obtain ⟨ok, hparts⟩ := parts_ver v hg
  obtain ⟨_, _, _, l4⟩ := verOf_bounds v
  obtain ⟨i, k, hik, hk, hex, hsl, hcall⟩ := dot_any (p := (verOf v).pre) (by omega)
  obtain ⟨S, hS⟩ : ∃ S, stampOf (verOf v).pre = S := ⟨_, rfl⟩
  rw [hS] at hex hsl
  have hpr : splitPR v = if !timeB (ahead 45 S) || !revB (behind 45 S) then ([], [], [], false) else match baseR v (verOf v) S with | none => ([], [], [], false) | some b => (b, ahead 45 S, behind 45 S, true) := by unfold splitPR; rw [hS]; rfl
  have sp := ba_size (verOf v).pre
  have la := ahead_le 45 S
  have lb := behind_le 45 S
  have HP := hide hparts
  have HC := hide hcall
  clear hparts hcall hS
  cases ht : timeB (ahead 45 S) with
  | false =>
    have HV : Hid (splitPR v = ([], [], [], false)) := by show splitPR v = _; rw [hpr, ht]; rfl
    have H1 := hide ht
    clear ht hpr
    rw [unhide HV]
    go_enter Tryz.func26, Tryz.ntmps26
    go_wp2_with (go_at_call 18; fail)
    refine (unhide HP).mono ?_
    rintro e w1 ⟨rfl, b1⟩
    go_wp2_with (first | (go_at_call 71; refine (unhide HC _).mono ?_; rintro e w2 ⟨rfl, hw⟩; rw [hw]; clear hw w2) | (go_at_call 72; fail))
    refine (cut_any 45 (by omega) (hg.below b1)).mono ?_
    rintro e w2 ⟨rfl, b2⟩
    have b2 := below_trans b1 b2
    clear b1
    go_wp2_with (go_at_call 64; fail)
    refine (time_is (unhide H1) (by omega) _).mono ?_
    rintro e w3 ⟨rfl, b3⟩
    have b3 := below_trans b2 b3
    clear b2
    go_wp2
    exact bodyPost_ret (v := splitV ([], [], [], false)) (by simp [results, Tryz.results26, go_sem, splitV, ba]) rfl ⟨rfl, b3⟩
  | true =>
    cases hr : revB (behind 45 S) with
    | false =>
      have HV : Hid (splitPR v = ([], [], [], false)) := by show splitPR v = _; rw [hpr, ht, hr]; rfl
      have H1 := hide ht
      have H2 := hide hr
      clear ht hr hpr
      rw [unhide HV]
      go_enter Tryz.func26, Tryz.ntmps26
      go_wp2_with (go_at_call 18; fail)
      refine (unhide HP).mono ?_
      rintro e w1 ⟨rfl, b1⟩
      go_wp2_with (first | (go_at_call 71; refine (unhide HC _).mono ?_; rintro e w2 ⟨rfl, hw⟩; rw [hw]; clear hw w2) | (go_at_call 72; fail))
      refine (cut_any 45 (by omega) (hg.below b1)).mono ?_
      rintro e w2 ⟨rfl, b2⟩
      have b2 := below_trans b1 b2
      clear b1
      go_wp2_with (go_at_call 64; fail)
      refine (time_is (unhide H1) (by omega) _).mono ?_
      rintro e w3 ⟨rfl, b3⟩
      have b3 := below_trans b2 b3
      clear b2
      go_wp2_with (go_at_call 65; refine (rev_is (unhide H2) (by omega) _).mono ?_; rintro e w2 ⟨rfl, hw⟩; rw [hw]; clear hw w2)
      exact bodyPost_ret (v := splitV ([], [], [], false)) (by simp [results, Tryz.results26, go_sem, splitV, ba]) rfl ⟨rfl, b3⟩
    | true =>
      obtain ⟨B, ok2, hB⟩ : ∃ B ok2, baseP v (verOf v) S = (B, ok2) := ⟨_, _, rfl⟩
      have hbr := baseP_R v (verOf v) S
      rw [hB] at hbr
      cases hok : ok2 with
      | false =>
        have HV : Hid (splitPR v = ([], [], [], false)) := by show splitPR v = _; rw [hpr, ht, hr, hbr, hok]; rfl
        have H1 := hide ht
        have H2 := hide hr
        rw [hok] at hB
        have HB := hide hB
        clear ht hr hpr hbr hB
        rw [unhide HV]
        go_enter Tryz.func26, Tryz.ntmps26
        go_wp2_with (go_at_call 18; fail)
        refine (unhide HP).mono ?_
        rintro e w1 ⟨rfl, b1⟩
        go_wp2_with (first | (go_at_call 71; refine (unhide HC _).mono ?_; rintro e w2 ⟨rfl, hw⟩; rw [hw]; clear hw w2) | (go_at_call 72; fail))
        refine (cut_any 45 (by omega) (hg.below b1)).mono ?_
        rintro e w2 ⟨rfl, b2⟩
        have b2 := below_trans b1 b2
        clear b1
        go_wp2_with (go_at_call 64; fail)
        refine (time_is (unhide H1) (by omega) _).mono ?_
        rintro e w3 ⟨rfl, b3⟩
        have b3 := below_trans b2 b3
        clear b2
        go_wp2_with (first | (go_at_call 65; refine (rev_is (unhide H2) (by omega) _).mono ?_; rintro e w2 ⟨rfl, hw⟩; rw [hw]; clear hw w2) | (go_at_call 73; fail))
        refine (base_is (unhide HB) hv (by omega) (hg.below b3)).mono ?_
        rintro e w4 ⟨rfl, b4⟩
        have b4 := below_trans b3 b4
        clear b3
        go_wp2
        exact bodyPost_ret (v := splitV ([], [], [], false)) (by simp [results, Tryz.results26, go_sem, splitV, ba]) rfl ⟨rfl, b4⟩
      | true =>
        have HV : Hid (splitPR v = (B, ahead 45 S, behind 45 S, true)) := by show splitPR v = _; rw [hpr, ht, hr, hbr, hok]; rfl
        have H1 := hide ht
        have H2 := hide hr
        rw [hok] at hB
        have HB := hide hB
        clear ht hr hpr hbr hB
        rw [unhide HV]
        go_enter Tryz.func26, Tryz.ntmps26
        go_wp2_with (go_at_call 18; fail)
        refine (unhide HP).mono ?_
        rintro e w1 ⟨rfl, b1⟩
        go_wp2_with (first | (go_at_call 71; refine (unhide HC _).mono ?_; rintro e w2 ⟨rfl, hw⟩; rw [hw]; clear hw w2) | (go_at_call 72; fail))
        refine (cut_any 45 (by omega) (hg.below b1)).mono ?_
        rintro e w2 ⟨rfl, b2⟩
        have b2 := below_trans b1 b2
        clear b1
        go_wp2_with (go_at_call 64; fail)
        refine (time_is (unhide H1) (by omega) _).mono ?_
        rintro e w3 ⟨rfl, b3⟩
        have b3 := below_trans b2 b3
        clear b2
        go_wp2_with (first | (go_at_call 65; refine (rev_is (unhide H2) (by omega) _).mono ?_; rintro e w2 ⟨rfl, hw⟩; rw [hw]; clear hw w2) | (go_at_call 73; fail))
        refine (base_is (unhide HB) hv (by omega) (hg.below b3)).mono ?_
        rintro e w4 ⟨rfl, b4⟩
        have b4 := below_trans b3 b4
        clear b3
        go_wp2
        exact bodyPost_ret (v := splitV (B, ahead 45 S, behind 45 S, true)) (by simp [results, Tryz.results26, go_sem, splitV]) rfl ⟨rfl, b4⟩

end Go.Proofs.YtcmafidnaojkiaaGreatDoor
