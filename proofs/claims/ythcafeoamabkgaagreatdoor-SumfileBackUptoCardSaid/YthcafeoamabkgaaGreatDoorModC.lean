/-
  Matches, Check, CheckImport.
-/
import Derived.Test.YthcafeoamabkgaaGreatDoorPthX
import Derived.Test.YthcafeoamabkgaaGreatDoorCmpX
namespace Go.Proofs.YthcafeoamabkgaaGreatDoor
open Go.RowKit

theorem parts_none {v : Str} (h : parseV v = none) {w : World} (hg : Gd w) : Gives 172 #[.string (ba v)] w (.tuple #[.int .i64 0, .int .i64 0, .int .i64 0, .string ⟨#[]⟩, .bool false]) := by
  have := parts_any (v := v) hg
  rw [h] at this
  exact this
theorem parts_some {v : Str} {x : Ver} (h : parseV v = some x) {w : World} (hg : Gd w) : Gives 172 #[.string (ba v)] w (.tuple #[.int .i64 (x.a : Int), .int .i64 (x.b : Int), .int .i64 (x.c : Int), .string (ba x.pre), .bool true]) := by
  have := parts_any (v := v) hg
  rw [h] at this
  exact this
theorem path_is {p : Str} {n : Nat} (h : pathR p = n) (hl : p.length < 4294967281) {w : World} (hg : Gd w) : Gives 133 #[.string (ba p)] w (.int .i64 (n : Int)) := by rw [← h]; exact path_any hl hg
theorem valid_is {v : Str} {b : Bool} (h : (parseV v).isSome = b) {w : World} (hg : Gd w) : Gives 134 #[.string (ba v)] w (.bool b) := by rw [← h]; exact valid_any hg
theorem boxed {w w1 : World} {a b : Value} {t : TypeId} (h : Bel (w.alloc (.cells #[a, b] t)).heap.size (w.alloc (.cells #[a, b] t)) w1) : w1.cell? ⟨w.heap.size, 0, none⟩ = some a ∧ w1.cell? ⟨w.heap.size, 1, none⟩ = some b ∧ Bel w.heap.size w w1 := by
  have hlt : w.heap.size < (w.alloc (.cells #[a, b] t)).heap.size := by
    show w.heap.size < (w.heap.push _).size
    simp
  have h0 := heap_new w (.cells #[a, b] t)
  refine ⟨?_, ?_, ?_⟩
  · rw [h.cell (p := ⟨w.heap.size, 0, none⟩) hlt, Lib.cell_of_heap h0]; rfl
  · rw [h.cell (p := ⟨w.heap.size, 1, none⟩) hlt, Lib.cell_of_heap h0]; rfl
  · have b0 : Bel w.heap.size w (w.alloc (.cells #[a, b] t)) := (Bel.refl _ _).alloc (Nat.le_refl _) _
    exact below_trans b0 h

theorem kept {w1 w2 : World} {B k : Nat} {a : Value} (h : w1.cell? ⟨B, k, none⟩ = some a) (hB : B < w1.heap.size) (hb : Bel w1.heap.size w1 w2) : w2.cell? ⟨B, k, none⟩ = some a := (hb.cell (p := ⟨B, k, none⟩) hB).trans h

theorem boxed_in {w w1 : World} {a b : Value} {t : TypeId} (h : Bel (w.alloc (.cells #[a, b] t)).heap.size (w.alloc (.cells #[a, b] t)) w1) : w.heap.size < w1.heap.size := by
  have := h.size
  have hlt : w.heap.size < (w.alloc (.cells #[a, b] t)).heap.size := by
    show w.heap.size < (w.heap.push _).size
    simp
  omega

theorem gd_alloc {w : World} (hg : Gd w) (o : Obj) : Gd (w.alloc o) := hg.below ((Bel.refl _ _).alloc (Nat.le_refl _) _)


theorem matches_none {v p : Str} (h : parseV v = none) {w : World} (hg : Gd w) : Gives 135 #[.string (ba v), .string (ba p)] w (.bool (matchesR v p)) := by
  unfold Gives
  have e : matchesR v p = false := by unfold matchesR; rw [h]
  rw [e]
  have H := hide h
  clear h
  go_enter Tryz.func135, Tryz.ntmps135
  go_wp2_with (go_at_call 172; fail)
  refine (parts_none (unhide H) hg).mono ?_
  rintro e w1 ⟨rfl, b1⟩
  go_wp2
  go_ret
  exact ⟨rfl, b1⟩

theorem matches_some {v p : Str} {x : Ver} (h : parseV v = some x) (hl : p.length < 4294967281) {w : World} (hg : Gd w) : Gives 135 #[.string (ba v), .string (ba p)] w (.bool (matchesR v p)) := by
  unfold Gives
  have e : matchesR v p = if (majorR p).2 = 0 then decide (x.a ≤ 1) else decide (x.a = (majorR p).2) := by unfold matchesR; rw [h]
  have H := hide h
  clear h
  by_cases h0 : (majorR p).2 = 0
  · have HE : Hid (matchesR v p = decide ((x.a : Int) ≤ 1)) := by
      show matchesR v p = _
      rw [e, if_pos h0, Bool.eq_iff_iff]; simp; omega
    have h0i : ((majorR p).2 : Int) = 0 := by omega
    clear e h0
    rw [unhide HE]
    go_enter Tryz.func135, Tryz.ntmps135
    go_wp2_with (go_at_call 172; fail)
    refine (parts_some (unhide H) hg).mono ?_
    rintro e w1 ⟨rfl, b1⟩
    go_wp2_with (go_at_call 169; fail)
    refine (major_any hl _).mono ?_
    rintro e w2 ⟨rfl, b2⟩
    have b2 := below_trans b1 b2
    clear b1
    go_wp2
    go_ret
    exact ⟨rfl, b2⟩
  · have HE : Hid (matchesR v p = ((x.a : Int) == ((majorR p).2 : Int))) := by
      show matchesR v p = _
      rw [e, if_neg h0, Bool.eq_iff_iff]; simp; omega
    have h0i : ¬ ((majorR p).2 : Int) = 0 := by omega
    clear e h0
    rw [unhide HE]
    go_enter Tryz.func135, Tryz.ntmps135
    go_wp2_with (go_at_call 172; fail)
    refine (parts_some (unhide H) hg).mono ?_
    rintro e w1 ⟨rfl, b1⟩
    go_wp2_with (go_at_call 169; fail)
    refine (major_any hl _).mono ?_
    rintro e w2 ⟨rfl, b2⟩
    have b2 := below_trans b1 b2
    clear b1
    go_wp2
    go_ret
    exact ⟨rfl, b2⟩

theorem matches_any {v p : Str} (hl : p.length < 4294967281) {w : World} (hg : Gd w) : Gives 135 #[.string (ba v), .string (ba p)] w (.bool (matchesR v p)) := by
  cases h : parseV v with
  | none => exact matches_none h hg
  | some x => exact matches_some h hl hg
theorem matches_is {v p : Str} {b : Bool} (h : matchesR v p = b) (hl : p.length < 4294967281) {w : World} (hg : Gd w) : Gives 135 #[.string (ba v), .string (ba p)] w (.bool b) := by rw [← h]; exact matches_any hl hg
theorem major_is {p f : Str} {n : Nat} (h : majorR p = (f, n)) (hl : p.length < 4294967281) (w : World) : Gives 169 #[.string (ba p)] w (.tuple #[.string (ba f), .int .i64 (n : Int)]) := by
  have := major_any hl w
  rw [h] at this; exact this
theorem import_is {p : Str} {n : Nat} (h : importR p = n) (hl : p.length < 4294967281) {w : World} (hg : Gd w) : Gives 143 #[.string (ba p)] w (.int .i64 (n : Int)) := by rw [← h]; exact import_any hl hg
theorem check_path {p v : Str} (h : pathR p ≠ 0) (hl : p.length < 4294967281) {w : World} (hg : Gd w) : Gives 85 #[.agg #[.string (ba p), .string (ba v)]] w (.int .i64 (checkR p v : Int)) := by
  unfold Gives
  have HM : Hid (checkR p v = pathR p) := by show checkR p v = pathR p; unfold checkR; rw [if_pos h]
  rw [unhide HM]
  obtain ⟨n, hn⟩ : ∃ n, pathR p = n := ⟨_, rfl⟩
  rw [hn] at h ⊢
  have hnn : ¬ (n : Int) = 0 := by omega
  have HN := hide hn
  clear hn h HM
  go_enter Tryz.func85, Tryz.ntmps85
  go_wp2_with (go_at_call 133; fail)
  refine (path_is (unhide HN) hl (gd_alloc hg _)).mono ?_
  rintro e w1 ⟨rfl, b1⟩
  obtain ⟨c0, c1, b2⟩ := boxed b1
  clear b1
  go_wp2
  go_ret
  exact ⟨rfl, b2⟩

theorem check_version {p v : Str} (h : pathR p = 0) (hv : parseV v = none) (hl : p.length < 4294967281) {w : World} (hg : Gd w) : Gives 85 #[.agg #[.string (ba p), .string (ba v)]] w (.int .i64 (checkR p v : Int)) := by
  unfold Gives
  have HM : Hid (checkR p v = 8) := by show checkR p v = 8; unfold checkR; rw [if_neg (by simp [h]), hv]; rfl
  rw [unhide HM]
  have hv2 : (parseV v).isSome = false := by rw [hv]; rfl
  have HN := hide h
  have HV := hide hv2
  clear h hv hv2 HM
  go_enter Tryz.func85, Tryz.ntmps85
  go_wp2_with (go_at_call 133; fail)
  refine (path_is (unhide HN) hl (gd_alloc hg _)).mono ?_
  rintro e w1 ⟨rfl, b1⟩
  obtain ⟨c0, c1, b2⟩ := boxed b1
  clear b1
  go_wp2_with (go_at_call 134; fail)
  refine (valid_is (unhide HV) (hg.below b2)).mono ?_
  rintro e w2 ⟨rfl, b3⟩
  have b3 := below_trans b2 b3
  clear b2
  go_wp2
  go_ret
  exact ⟨rfl, b3⟩

theorem check_match {p v : Str} (h : pathR p = 0) (hv : (parseV v).isSome = true) (hl : p.length < 4294967281) {w : World} (hg : Gd w) : Gives 85 #[.agg #[.string (ba p), .string (ba v)]] w (.int .i64 (checkR p v : Int)) := by
  unfold Gives
  have hn : (parseV v).isNone = false := by
    cases hh : parseV v with
    | none => rw [hh] at hv; cases hv
    | some x => rfl
  have hm : checkR p v = if matchesR v p then 0 else 10 := by unfold checkR; rw [if_neg (by simp [h]), hn]; rfl
  rw [hm]
  have HN := hide h
  have HV := hide hv
  cases hmm : matchesR v p with
  | false =>
    have HM := hide hmm
    clear h hv hm hn hmm
    go_enter Tryz.func85, Tryz.ntmps85
    go_wp2_with (go_at_call 133; fail)
    refine (path_is (unhide HN) hl (gd_alloc hg _)).mono ?_
    rintro e w1 ⟨rfl, b1⟩
    obtain ⟨c0, c1, b2⟩ := boxed b1
    have hin := boxed_in b1
    clear b1
    go_wp2_with (go_at_call 134; fail)
    refine (valid_is (unhide HV) (hg.below b2)).mono ?_
    rintro e w2 ⟨rfl, b3⟩
    have d0 := kept c0 hin b3
    have d1 := kept c1 hin b3
    have b3 := below_trans b2 b3
    clear b2 c0 c1
    go_wp2_with (go_at_call 135; fail)
    refine (matches_is (unhide HM) hl (hg.below b3)).mono ?_
    rintro e w3 ⟨rfl, b4⟩
    have b4 := below_trans b3 b4
    clear b3
    go_wp2
    go_ret
    exact ⟨rfl, b4⟩
  | true =>
    have HM := hide hmm
    clear h hv hm hn hmm
    go_enter Tryz.func85, Tryz.ntmps85
    go_wp2_with (go_at_call 133; fail)
    refine (path_is (unhide HN) hl (gd_alloc hg _)).mono ?_
    rintro e w1 ⟨rfl, b1⟩
    obtain ⟨c0, c1, b2⟩ := boxed b1
    have hin := boxed_in b1
    clear b1
    go_wp2_with (go_at_call 134; fail)
    refine (valid_is (unhide HV) (hg.below b2)).mono ?_
    rintro e w2 ⟨rfl, b3⟩
    have d0 := kept c0 hin b3
    have d1 := kept c1 hin b3
    have b3 := below_trans b2 b3
    clear b2 c0 c1
    go_wp2_with (go_at_call 135; fail)
    refine (matches_is (unhide HM) hl (hg.below b3)).mono ?_
    rintro e w3 ⟨rfl, b4⟩
    have b4 := below_trans b3 b4
    clear b3
    go_wp2
    go_ret
    exact ⟨rfl, b4⟩

theorem check_is {p v : Str} {n : Nat} (h : checkR p v = n) (hl : p.length < 4294967281) {w : World} (hg : Gd w) : Gives 85 #[.agg #[.string (ba p), .string (ba v)]] w (.int .i64 (n : Int)) := by
  rw [← h]
  by_cases h0 : pathR p = 0
  · cases hv : parseV v with
    | none => exact check_version h0 hv hl hg
    | some x => exact check_match h0 (by rw [hv]; rfl) hl hg
  · exact check_path h0 hl hg


end Go.Proofs.YthcafeoamabkgaaGreatDoor
