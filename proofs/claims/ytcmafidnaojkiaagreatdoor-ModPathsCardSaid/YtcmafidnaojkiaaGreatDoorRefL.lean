/-
  The reference's Matches; Check of both.
-/
import Derived.Test.YtcmafidnaojkiaaGreatDoorRefK
import Derived.Test.YtcmafidnaojkiaaGreatDoorMajors
namespace Go.Proofs.YtcmafidnaojkiaaGreatDoor
open Go.RowKit

theorem refMajor_is {p f : Str} {n : Nat} (h : majorR p = (f, n)) (hl : p.length < 4294967281) (w : World) : Calls Tryz.prog 30 #[.string (ba p)] w fun e w' => e = .returned (.tuple #[.string (ba f), .int .i64 (n : Int)]) ∧ w' = w := by
  have e := refMajor_any hl w
  rw [h] at e
  exact e

theorem refMatches_none {v p : Str} (h : parseV v = none) (hl : p.length < 4294967281) (w : World) : Gives 36 #[.string (ba v), .string (ba p)] w (.bool (matchesR v p)) := by
  unfold Gives
  have HM : Hid (matchesR v p = false) := by show matchesR v p = false; unfold matchesR; rw [h]
  obtain ⟨f, n, hj⟩ : ∃ f n, majorR p = (f, n) := ⟨_, _, rfl⟩
  have HP := hide h
  have HJ := hide hj
  rw [unhide HM]
  clear h hj
  go_enter Tryz.func36, Tryz.ntmps36
  go_wp2_with (go_at_call 19; fail)
  refine (refParts_none (unhide HP) _).mono ?_
  rintro e w1 ⟨rfl, b1⟩
  go_wp2_with (go_at_call 30; refine (refMajor_is (unhide HJ) hl _).mono ?_; rintro e w4 ⟨rfl, hw⟩; rw [hw]; clear hw w4)
  go_ret
  exact ⟨rfl, b1⟩

theorem refMatches_some {v p : Str} {x : Ver} (h : parseV v = some x) (hl : p.length < 4294967281) (w : World) : Gives 36 #[.string (ba v), .string (ba p)] w (.bool (matchesR v p)) := by
  unfold Gives
  obtain ⟨f, n, hj⟩ : ∃ f n, majorR p = (f, n) := ⟨_, _, rfl⟩
  have hm : matchesR v p = if n = 0 then decide (x.a ≤ 1) else decide (x.a = n) := by unfold matchesR; rw [h, hj]
  have HP := hide h
  have HJ := hide hj
  clear h hj
  by_cases h0 : n = 0
  · subst h0
    have HM : Hid (matchesR v p = decide ((x.a : Int) ≤ 1)) := by
      show matchesR v p = _
      rw [hm, if_pos rfl, Bool.eq_iff_iff]; simp; omega
    clear hm
    cases ha : ((0 : Int) == (x.a : Int)) with
    | true =>
      have HM : Hid (matchesR v p = true) := by
        show matchesR v p = true
        rw [unhide HM]
        simp only [beq_iff_eq] at ha
        simp; omega
      rw [unhide HM]
      go_enter Tryz.func36, Tryz.ntmps36
      go_wp2_with (go_at_call 19; fail)
      refine (refParts_some (unhide HP) _).mono ?_
      rintro e w1 ⟨rfl, b1⟩
      go_wp2_with (go_at_call 30; refine (refMajor_is (unhide HJ) hl _).mono ?_; rintro e w4 ⟨rfl, hw⟩; rw [hw]; clear hw w4)
      go_ret
      exact ⟨rfl, b1⟩
    | false =>
      rw [unhide HM]
      go_enter Tryz.func36, Tryz.ntmps36
      go_wp2_with (go_at_call 19; fail)
      refine (refParts_some (unhide HP) _).mono ?_
      rintro e w1 ⟨rfl, b1⟩
      go_wp2_with (go_at_call 30; refine (refMajor_is (unhide HJ) hl _).mono ?_; rintro e w4 ⟨rfl, hw⟩; rw [hw]; clear hw w4)
      go_ret
      exact ⟨rfl, b1⟩
  · have h0' : ((n : Int) == 0) = false := by simp; omega
    rw [if_neg h0] at hm
    cases ha : ((n : Int) == (x.a : Int)) with
    | true =>
      have HM : Hid (matchesR v p = true) := by
        show matchesR v p = true
        simp only [beq_iff_eq] at ha
        rw [hm]; simp; omega
      rw [unhide HM]
      clear hm
      go_enter Tryz.func36, Tryz.ntmps36
      go_wp2_with (go_at_call 19; fail)
      refine (refParts_some (unhide HP) _).mono ?_
      rintro e w1 ⟨rfl, b1⟩
      go_wp2_with (go_at_call 30; refine (refMajor_is (unhide HJ) hl _).mono ?_; rintro e w4 ⟨rfl, hw⟩; rw [hw]; clear hw w4)
      go_ret
      exact ⟨rfl, b1⟩
    | false =>
      have HM : Hid (matchesR v p = false) := by
        show matchesR v p = false
        simp only [beq_eq_false_iff_ne] at ha
        rw [hm]; simp; omega
      rw [unhide HM]
      clear hm
      go_enter Tryz.func36, Tryz.ntmps36
      go_wp2_with (go_at_call 19; fail)
      refine (refParts_some (unhide HP) _).mono ?_
      rintro e w1 ⟨rfl, b1⟩
      go_wp2_with (go_at_call 30; refine (refMajor_is (unhide HJ) hl _).mono ?_; rintro e w4 ⟨rfl, hw⟩; rw [hw]; clear hw w4)
      go_ret
      exact ⟨rfl, b1⟩

theorem refMatches_is {v p : Str} {b : Bool} (h : matchesR v p = b) (hl : p.length < 4294967281) (w : World) : Gives 36 #[.string (ba v), .string (ba p)] w (.bool b) := by
  rw [← h]
  cases hp : parseV v with
  | none => exact refMatches_none hp hl w
  | some x => exact refMatches_some hp hl w

theorem refPath_is {p : Str} {n : Nat} (h : pathR p = n) (w : World) : Gives 32 #[.string (ba p)] w (.int .i64 (n : Int)) := by rw [← h]; exact refPath_any p w
theorem refImport_is {p : Str} {n : Nat} (h : importR p = n) (w : World) : Gives 34 #[.string (ba p)] w (.int .i64 (n : Int)) := by rw [← h]; exact refImport_any p w

theorem boxed {w w1 : World} {a b : Value} {t : TypeId} (h : Below (w.alloc (.cells #[a, b] t)).heap.size (w.alloc (.cells #[a, b] t)) w1) : w1.cell? ⟨w.heap.size, 0, none⟩ = some a ∧ w1.cell? ⟨w.heap.size, 1, none⟩ = some b ∧ Below w.heap.size w w1 := by
  have hlt : w.heap.size < (w.alloc (.cells #[a, b] t)).heap.size := by
    show w.heap.size < (w.heap.push _).size
    simp
  have h0 := heap_new w (.cells #[a, b] t)
  refine ⟨?_, ?_, ?_⟩
  · rw [h.cell (p := ⟨w.heap.size, 0, none⟩) hlt, Lib.cell_of_heap h0]; rfl
  · rw [h.cell (p := ⟨w.heap.size, 1, none⟩) hlt, Lib.cell_of_heap h0]; rfl
  · have b0 : Below w.heap.size w (w.alloc (.cells #[a, b] t)) := (Below.refl _ _).alloc (Nat.le_refl _) _
    exact below_trans b0 h

theorem kept {w1 w2 : World} {B k : Nat} {a : Value} (h : w1.cell? ⟨B, k, none⟩ = some a) (hB : B < w1.heap.size) (hb : Below w1.heap.size w1 w2) : w2.cell? ⟨B, k, none⟩ = some a := (hb.cell (p := ⟨B, k, none⟩) hB).trans h

theorem boxed_in {w w1 : World} {a b : Value} {t : TypeId} (h : Below (w.alloc (.cells #[a, b] t)).heap.size (w.alloc (.cells #[a, b] t)) w1) : w.heap.size < w1.heap.size := by
  have := h.size
  have hlt : w.heap.size < (w.alloc (.cells #[a, b] t)).heap.size := by
    show w.heap.size < (w.heap.push _).size
    simp
  omega

theorem gd_alloc {w : World} (hg : Gd w) (o : Obj) : Gd (w.alloc o) := hg.below ((Below.refl _ _).alloc (Nat.le_refl _) _)

theorem refCheck_path {p v : Str} (h : pathR p ≠ 0) (w : World) : Gives 38 #[.agg #[.string (ba p), .string (ba v)]] w (.int .i64 (checkR p v : Int)) := by
  unfold Gives
  have HM : Hid (checkR p v = pathR p) := by show checkR p v = pathR p; unfold checkR; rw [if_pos h]
  rw [unhide HM]
  obtain ⟨n, hn⟩ : ∃ n, pathR p = n := ⟨_, rfl⟩
  rw [hn] at h ⊢
  have hnn : ¬ (n : Int) = 0 := by omega
  have HN := hide hn
  clear hn h HM
  go_enter Tryz.func38, Tryz.ntmps38
  go_wp2_with (go_at_call 32; fail)
  refine (refPath_is (unhide HN) _).mono ?_
  rintro e w1 ⟨rfl, b1⟩
  obtain ⟨c0, c1, b2⟩ := boxed b1
  clear b1
  go_wp2
  go_ret
  exact ⟨rfl, b2⟩

theorem refCheck_version {p v : Str} (h : pathR p = 0) (hv : parseV v = none) (w : World) : Gives 38 #[.agg #[.string (ba p), .string (ba v)]] w (.int .i64 (checkR p v : Int)) := by
  unfold Gives
  have HM : Hid (checkR p v = 8) := by show checkR p v = 8; unfold checkR; rw [if_neg (by simp [h]), hv]; rfl
  rw [unhide HM]
  have hv2 : (parseV v).isSome = false := by rw [hv]; rfl
  have HN := hide h
  have HV := hide hv2
  clear h hv hv2 HM
  go_enter Tryz.func38, Tryz.ntmps38
  go_wp2_with (go_at_call 32; fail)
  refine (refPath_is (unhide HN) _).mono ?_
  rintro e w1 ⟨rfl, b1⟩
  obtain ⟨c0, c1, b2⟩ := boxed b1
  clear b1
  go_wp2_with (go_at_call 70; fail)
  refine (refValid_is (unhide HV) _).mono ?_
  rintro e w2 ⟨rfl, b3⟩
  have b3 := below_trans b2 b3
  clear b2
  go_wp2
  go_ret
  exact ⟨rfl, b3⟩

theorem refCheck_match {p v : Str} (h : pathR p = 0) (hv : (parseV v).isSome = true) (hl : p.length < 4294967281) (w : World) : Gives 38 #[.agg #[.string (ba p), .string (ba v)]] w (.int .i64 (checkR p v : Int)) := by
  unfold Gives
  have hn : (parseV v).isNone = false := by
    cases hh : parseV v with
    | none => rw [hh] at hv; cases hv
    | some x => rfl
  have hm : checkR p v = if matchesR v p then 0 else 10 := by unfold checkR; rw [if_neg (by simp [h]), hn]; rfl
  rw [hm]
  have HN := hide h
  have HV := hide hv
  cases hmm : matchesR v p with
  | false =>
    have HM := hide hmm
    clear h hv hm hn hmm
    go_enter Tryz.func38, Tryz.ntmps38
    go_wp2_with (go_at_call 32; fail)
    refine (refPath_is (unhide HN) _).mono ?_
    rintro e w1 ⟨rfl, b1⟩
    obtain ⟨c0, c1, b2⟩ := boxed b1
    have hin := boxed_in b1
    clear b1
    go_wp2_with (go_at_call 70; fail)
    refine (refValid_is (unhide HV) _).mono ?_
    rintro e w2 ⟨rfl, b3⟩
    have d0 := kept c0 hin b3
    have d1 := kept c1 hin b3
    have b3 := below_trans b2 b3
    clear b2 c0 c1
    go_wp2_with (go_at_call 36; fail)
    refine (refMatches_is (unhide HM) hl _).mono ?_
    rintro e w3 ⟨rfl, b4⟩
    have b4 := below_trans b3 b4
    clear b3
    go_wp2
    go_ret
    exact ⟨rfl, b4⟩
  | true =>
    have HM := hide hmm
    clear h hv hm hn hmm
    go_enter Tryz.func38, Tryz.ntmps38
    go_wp2_with (go_at_call 32; fail)
    refine (refPath_is (unhide HN) _).mono ?_
    rintro e w1 ⟨rfl, b1⟩
    obtain ⟨c0, c1, b2⟩ := boxed b1
    have hin := boxed_in b1
    clear b1
    go_wp2_with (go_at_call 70; fail)
    refine (refValid_is (unhide HV) _).mono ?_
    rintro e w2 ⟨rfl, b3⟩
    have d0 := kept c0 hin b3
    have d1 := kept c1 hin b3
    have b3 := below_trans b2 b3
    clear b2 c0 c1
    go_wp2_with (go_at_call 36; fail)
    refine (refMatches_is (unhide HM) hl _).mono ?_
    rintro e w3 ⟨rfl, b4⟩
    have b4 := below_trans b3 b4
    clear b3
    go_wp2
    go_ret
    exact ⟨rfl, b4⟩

theorem refCheck_is {p v : Str} {n : Nat} (h : checkR p v = n) (hl : p.length < 4294967281) (w : World) : Gives 38 #[.agg #[.string (ba p), .string (ba v)]] w (.int .i64 (n : Int)) := by
  rw [← h]
  by_cases h0 : pathR p = 0
  · cases hv : parseV v with
    | none => exact refCheck_version h0 hv w
    | some x => exact refCheck_match h0 (by rw [hv]; rfl) hl w
  · exact refCheck_path h0 w

theorem check_path {p v : Str} (h : pathR p ≠ 0) (hl : p.length < 4294967281) {w : World} (hg : Gd w) : Gives 37 #[.agg #[.string (ba p), .string (ba v)]] w (.int .i64 (checkR p v : Int)) := by
  unfold Gives
  have HM : Hid (checkR p v = pathR p) := by show checkR p v = pathR p; unfold checkR; rw [if_pos h]
  rw [unhide HM]
  obtain ⟨n, hn⟩ : ∃ n, pathR p = n := ⟨_, rfl⟩
  rw [hn] at h ⊢
  have hnn : ¬ (n : Int) = 0 := by omega
  have HN := hide hn
  clear hn h HM
  go_enter Tryz.func37, Tryz.ntmps37
  go_wp2_with (go_at_call 31; fail)
  refine (path_is (unhide HN) hl (gd_alloc hg _)).mono ?_
  rintro e w1 ⟨rfl, b1⟩
  obtain ⟨c0, c1, b2⟩ := boxed b1
  clear b1
  go_wp2
  go_ret
  exact ⟨rfl, b2⟩

theorem check_version {p v : Str} (h : pathR p = 0) (hv : parseV v = none) (hl : p.length < 4294967281) {w : World} (hg : Gd w) : Gives 37 #[.agg #[.string (ba p), .string (ba v)]] w (.int .i64 (checkR p v : Int)) := by
  unfold Gives
  have HM : Hid (checkR p v = 8) := by show checkR p v = 8; unfold checkR; rw [if_neg (by simp [h]), hv]; rfl
  rw [unhide HM]
  have hv2 : (parseV v).isSome = false := by rw [hv]; rfl
  have HN := hide h
  have HV := hide hv2
  clear h hv hv2 HM
  go_enter Tryz.func37, Tryz.ntmps37
  go_wp2_with (go_at_call 31; fail)
  refine (path_is (unhide HN) hl (gd_alloc hg _)).mono ?_
  rintro e w1 ⟨rfl, b1⟩
  obtain ⟨c0, c1, b2⟩ := boxed b1
  clear b1
  go_wp2_with (go_at_call 16; fail)
  refine (valid_is (unhide HV) (hg.below b2)).mono ?_
  rintro e w2 ⟨rfl, b3⟩
  have b3 := below_trans b2 b3
  clear b2
  go_wp2
  go_ret
  exact ⟨rfl, b3⟩

theorem check_match {p v : Str} (h : pathR p = 0) (hv : (parseV v).isSome = true) (hl : p.length < 4294967281) {w : World} (hg : Gd w) : Gives 37 #[.agg #[.string (ba p), .string (ba v)]] w (.int .i64 (checkR p v : Int)) := by
  unfold Gives
  have hn : (parseV v).isNone = false := by
    cases hh : parseV v with
    | none => rw [hh] at hv; cases hv
    | some x => rfl
  have hm : checkR p v = if matchesR v p then 0 else 10 := by unfold checkR; rw [if_neg (by simp [h]), hn]; rfl
  rw [hm]
  have HN := hide h
  have HV := hide hv
  cases hmm : matchesR v p with
  | false =>
    have HM := hide hmm
    clear h hv hm hn hmm
    go_enter Tryz.func37, Tryz.ntmps37
    go_wp2_with (go_at_call 31; fail)
    refine (path_is (unhide HN) hl (gd_alloc hg _)).mono ?_
    rintro e w1 ⟨rfl, b1⟩
    obtain ⟨c0, c1, b2⟩ := boxed b1
    have hin := boxed_in b1
    clear b1
    go_wp2_with (go_at_call 16; fail)
    refine (valid_is (unhide HV) (hg.below b2)).mono ?_
    rintro e w2 ⟨rfl, b3⟩
    have d0 := kept c0 hin b3
    have d1 := kept c1 hin b3
    have b3 := below_trans b2 b3
    clear b2 c0 c1
    go_wp2_with (go_at_call 35; fail)
    refine (matches_is (unhide HM) hl (hg.below b3)).mono ?_
    rintro e w3 ⟨rfl, b4⟩
    have b4 := below_trans b3 b4
    clear b3
    go_wp2
    go_ret
    exact ⟨rfl, b4⟩
  | true =>
    have HM := hide hmm
    clear h hv hm hn hmm
    go_enter Tryz.func37, Tryz.ntmps37
    go_wp2_with (go_at_call 31; fail)
    refine (path_is (unhide HN) hl (gd_alloc hg _)).mono ?_
    rintro e w1 ⟨rfl, b1⟩
    obtain ⟨c0, c1, b2⟩ := boxed b1
    have hin := boxed_in b1
    clear b1
    go_wp2_with (go_at_call 16; fail)
    refine (valid_is (unhide HV) (hg.below b2)).mono ?_
    rintro e w2 ⟨rfl, b3⟩
    have d0 := kept c0 hin b3
    have d1 := kept c1 hin b3
    have b3 := below_trans b2 b3
    clear b2 c0 c1
    go_wp2_with (go_at_call 35; fail)
    refine (matches_is (unhide HM) hl (hg.below b3)).mono ?_
    rintro e w3 ⟨rfl, b4⟩
    have b4 := below_trans b3 b4
    clear b3
    go_wp2
    go_ret
    exact ⟨rfl, b4⟩

theorem check_is {p v : Str} {n : Nat} (h : checkR p v = n) (hl : p.length < 4294967281) {w : World} (hg : Gd w) : Gives 37 #[.agg #[.string (ba p), .string (ba v)]] w (.int .i64 (n : Int)) := by
  rw [← h]
  by_cases h0 : pathR p = 0
  · cases hv : parseV v with
    | none => exact check_version h0 hv hl hg
    | some x => exact check_match h0 (by rw [hv]; rfl) hl hg
  · exact check_path h0 hl hg


end Go.Proofs.YtcmafidnaojkiaaGreatDoor
