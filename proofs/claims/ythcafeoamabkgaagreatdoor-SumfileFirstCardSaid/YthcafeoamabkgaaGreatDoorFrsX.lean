/-
  For SumfileFronts: a text that begins with another; a pattern without signs, as it is read on.
-/
import Derived.Test.YthcafeoamabkgaaGreatDoorReadX
import Derived.Test.YthcafeoamabkgaaGreatDoorSortZ
import Derived.Test.YthcafeoamabkgaaGreatDoorMatX
namespace Go.Proofs.YthcafeoamabkgaaGreatDoor
open Go.RowKit Go.WideMaps Go.Maps

theorem lines_mono {A B : Nat} {w : World} {v : Value} {xs : List Ln} (h : Lines B w v xs) (hAB : A ≤ B) : Lines A w v xs := by
  refine ⟨h.1, h.2.imp id ?_⟩
  rintro ⟨g, cap, cur, h1, h2, h3⟩
  exact ⟨g, cap, cur, h1, Nat.le_trans hAB h2, h3⟩

set_option maxHeartbeats 2000000 in
/-- Parse, where no more than one line is read. -/
theorem parse_few {w : World} {t : Str} (hg : Gd w) (ht : t.length ≤ 65536) (hn : (readR t.length [] [] 1 t).1.length ≤ 1) :
    Calls Tryz.prog 16 #[.string (ba t)] w (ReadsSaid w (readR t.length [] [] 1 t)) := by
  obtain ⟨R, hR⟩ : ∃ R, readR t.length [] [] 1 t = R := ⟨_, rfl⟩
  have HT := hide ht
  have HR := hide hR
  have HG := hide hg
  rw [hR] at hn ⊢
  have HN := hide hn
  have HC := hide (lineCheck_any w)
  clear hR hg hn ht
  go_enter Tryz.func16, Tryz.ntmps16
  go_wp2_with (go_at_call 45; fail)
  refine (unhide HC).mono ?_
  rintro e w1 ⟨rfl, k1, s1, b1⟩
  obtain ⟨W, hW⟩ : ∃ W, w1.alloc (.cells (ckC (w.heap.size + 1)) 82) = W := ⟨_, rfl⟩
  have PW : PSt w W w1.heap.size (w.heap.size + 1) w.heap.size 0 [] := by
    rw [← hW]
    have al := (Below.refl w1.heap.size w1).alloc (Nat.le_refl _) (.cells (ckC (w.heap.size + 1)) 82)
    exact ⟨b1.alloc b1.size _, Blk.new _ _ _, k1.alloc _, s1.low al, Nat.le_refl _⟩
  have HL := hide (readLines_any (unhide HG) PW (unhide HT))
  rw [unhide HR] at HL
  have HW := hide hW
  clear hW PW k1 s1 b1
  go_wp2_with (go_at_call 50; fail)
  rw [unhide HW]
  refine (unhide HL).mono ?_
  rintro e w2 ⟨v2, rfl, l2, b2⟩
  have HS := hide (sorted_few l2 (unhide HN) (.func (.func 48) #[] #[]))
  have HB := hide b2
  clear l2 b2
  go_wp2_with (go_at_call 47; fail)
  refine (unhide HS).mono ?_
  rintro e w3 ⟨v3, rfl, l3, b3⟩
  have L3 := hide (lines_mono l3 (unhide HB).size)
  have B3 := hide (low_trans (unhide HB) b3)
  clear l3 b3
  go_wp2
  go_ret3
  exact ⟨v3, rfl, unhide L3, unhide B3⟩

def sumL : Str := [104, 49, 58, 71, 66, 51, 86, 43, 82, 72, 89, 74, 48, 70, 104, 53, 121, 86, 100, 107, 114, 47, 70, 74, 50, 78, 76, 120, 120, 85, 47, 106, 99, 81, 102, 79, 117, 101, 74, 51, 49, 88, 99, 69, 80, 69, 61]
def t1L : Str := [97, 46, 98, 47, 99, 32, 118, 49, 46, 48, 46, 48, 47, 103, 111, 46, 109, 111, 100, 32, 104, 49, 58, 71, 66, 51, 86, 43, 82, 72, 89, 74, 48, 70].append [104, 53, 121, 86, 100, 107, 114, 47, 70, 74, 50, 78, 76, 120, 120, 85, 47, 106, 99, 81, 102, 79, 117, 101, 74, 51, 49, 88, 99, 69, 80, 69, 61, 10]
def t2L : Str := [97, 46, 98, 47, 99, 32, 32, 118, 49, 46, 48, 46, 48, 32, 104, 49, 58, 71, 66, 51, 86, 43, 82, 72, 89, 74, 48, 70, 104, 53, 121, 86, 100, 107, 114, 47, 70, 74, 50, 78, 76, 120, 120, 85, 47, 106, 99, 81, 102, 79, 117, 101, 74, 51, 49, 88, 99, 69, 80, 69, 61, 10]

set_option maxRecDepth 100000 in
theorem t1_says : (readR t1L.length [] [] 1 t1L).2 = (0, 0) ∧ (readR t1L.length [] [] 1 t1L).1.map Ln.k = [1] := by decide +kernel
set_option maxRecDepth 100000 in
theorem t2_says : (readR t2L.length [] [] 1 t2L).2 = (1, 11) ∧ (readR t2L.length [] [] 1 t2L).1.map Ln.k = [] := by decide +kernel

theorem line_one {B : Nat} {w : World} {v : Value} {xs : List Ln} (h : Lines B w v xs) (hk : xs.map Ln.k = [1]) : ∃ g cap, v = .slice (some ⟨g, 0, none⟩) 1 cap ∧ w.cell? ⟨g, 2, none⟩ = some (.int .i64 1) ∧ g < w.heap.size := by
  obtain ⟨x, rfl⟩ : ∃ x, xs = [x] := by
    cases xs with
    | nil => cases hk
    | cons x r => cases r with
      | nil => exact ⟨x, rfl⟩
      | cons y r => simp at hk
  simp at hk
  rcases h.2 with ⟨_, h0⟩ | ⟨g, cap, cur, rfl, hb, hblk, hcap, hcm, hcs, hcur⟩
  · cases h0
  · refine ⟨g, cap, rfl, ?_, (Array.getElem?_eq_some_iff.1 hblk).1⟩
    have h1 : cur.toList[2]? = (lnsV [x])[2]? := by rw [← hcur, List.getElem?_take_of_lt (by simp)]
    have h2 : cur[2]? = cur.toList[2]? := by simp
    rw [Lib.cell_of_heap hblk, h2, h1]
    simp [lnsV, hk]

theorem parse_t1 {w : World} (hg : Gd w) : Calls Tryz.prog 16 #[.string (ba t1L)] w fun e w' => ∃ g cap, e = .returned (.tuple #[.slice (some ⟨g, 0, none⟩) 1 cap, .int .i64 0, .int .i64 0]) ∧ w'.cell? ⟨g, 2, none⟩ = some (.int .i64 1) ∧ g < w'.heap.size ∧ Below w.heap.size w w' := by
  obtain ⟨h1, h2⟩ := t1_says
  refine (parse_few hg (by decide +kernel) (by have := congrArg List.length h2; rw [List.length_map] at this; rw [this]; decide)).mono ?_
  rintro e w' ⟨v, rfl, hl, hb⟩
  obtain ⟨g, cap, rfl, hc, hlt⟩ := line_one hl h2
  exact ⟨g, cap, by rw [h1]; rfl, hc, hlt, hb⟩
theorem parse_t1_lit {w : World} (hg : Gd w) : Calls Tryz.prog 16 #[.string ⟨([97, 46, 98, 47, 99, 32, 118, 49, 46, 48, 46, 48, 47, 103, 111, 46, 109, 111, 100, 32, 104, 49, 58, 71, 66, 51, 86, 43, 82, 72, 89, 74, 48, 70].append [104, 53, 121, 86, 100, 107, 114, 47, 70, 74, 50, 78, 76, 120, 120, 85, 47, 106, 99, 81, 102, 79, 117, 101, 74, 51, 49, 88, 99, 69, 80, 69, 61, 10]).toArray⟩] w fun e w' => ∃ g cap, e = .returned (.tuple #[.slice (some ⟨g, 0, none⟩) 1 cap, .int .i64 0, .int .i64 0]) ∧ w'.cell? ⟨g, 2, none⟩ = some (.int .i64 1) ∧ g < w'.heap.size ∧ Below w.heap.size w w' := parse_t1 hg

theorem parse_t2 {w : World} (hg : Gd w) : Calls Tryz.prog 16 #[.string (ba t2L)] w fun e w' => ∃ v, e = .returned (.tuple #[v, .int .i64 1, .int .i64 11]) ∧ Below w.heap.size w w' := by
  obtain ⟨h1, h2⟩ := t2_says
  refine (parse_few hg (by decide +kernel) (by have := congrArg List.length h2; rw [List.length_map] at this; rw [this]; decide)).mono ?_
  rintro e w' ⟨v, rfl, hl, hb⟩
  exact ⟨v, by rw [h1]; rfl, hb⟩
theorem parse_t2_lit {w : World} (hg : Gd w) : Calls Tryz.prog 16 #[.string ⟨#[97, 46, 98, 47, 99, 32, 32, 118, 49, 46, 48, 46, 48, 32, 104, 49, 58, 71, 66, 51, 86, 43, 82, 72, 89, 74, 48, 70, 104, 53, 121, 86, 100, 107, 114, 47, 70, 74, 50, 78, 76, 120, 120, 85, 47, 106, 99, 81, 102, 79, 117, 101, 74, 51, 49, 88, 99, 69, 80, 69, 61, 10]⟩] w fun e w' => ∃ v, e = .returned (.tuple #[v, .int .i64 1, .int .i64 11]) ∧ Below w.heap.size w w' := parse_t2 hg

theorem sum_yes (w : World) : Calls Tryz.prog 25 #[.string ⟨#[104, 49, 58, 71, 66, 51, 86, 43, 82, 72, 89, 74, 48, 70, 104, 53, 121, 86, 100, 107, 114, 47, 70, 74, 50, 78, 76, 120, 120, 85, 47, 106, 99, 81, 102, 79, 117, 101, 74, 51, 49, 88, 99, 69, 80, 69, 61]⟩] w fun e w' => e = .returned (.bool true) ∧ w' = w := by
  have h := validSum_any sumL (by decide +kernel) w
  rw [show sumB sumL = true by decide +kernel] at h
  exact h
theorem sum_no (w : World) : Calls Tryz.prog 25 #[.string ⟨#[104, 49, 58, 97, 98, 99]⟩] w fun e w' => e = .returned (.bool false) ∧ w' = w := by
  have h := validSum_any [104, 49, 58, 97, 98, 99] (by decide +kernel) w
  rw [show sumB [104, 49, 58, 97, 98, 99] = false by decide +kernel] at h
  exact h
theorem glob_yes (w : World) : Calls Tryz.prog 39 #[.string ⟨#[97, 63, 99]⟩, .string ⟨#[97, 98, 99]⟩] w fun e w' => e = .returned (.bool true) ∧ ∃ n, w' = w.drewN n := by
  have h := glob_any (P := [97, 63, 99]) (S := [97, 98, 99]) (by decide +kernel) (by decide +kernel) w
  rw [show matchR [97, 63, 99] [97, 98, 99] = true by decide +kernel] at h
  exact h
theorem glob_no (w : World) : Calls Tryz.prog 39 #[.string ⟨#[42]⟩, .string ⟨#[97, 47, 98]⟩] w fun e w' => e = .returned (.bool false) ∧ ∃ n, w' = w.drewN n := by
  have h := glob_any (P := [42]) (S := [97, 47, 98]) (by decide +kernel) (by decide +kernel) w
  rw [show matchR [42] [97, 47, 98] = false by decide +kernel] at h
  exact h

end Go.Proofs.YthcafeoamabkgaaGreatDoor

namespace Go.Proofs.YthcafeoamabkgaaGreatDoor
open Go.RowKit Go.WideMaps Go.Maps

theorem num_any (x : Int) (w : World) : Calls Tryz.prog 15 #[.int .i64 x] w fun e w' => e = .returned (.int .i64 x) ∧ w' = w := by
  go_enter Tryz.func15, Tryz.ntmps15
  go_wp2
  go_ret
  exact ⟨rfl, rfl⟩

set_option maxRecDepth 100000 in
set_option maxHeartbeats 8000000 in
theorem first_any {w : World} (hg : Gd w) : Calls Tryz.prog 11 #[] w fun e w' => e = .returned (.bool true) ∧ Below w.heap.size w w' := by
  have HG := hide hg
  have H1 := hide (parse_t1_lit hg)
  clear hg
  go_enter Tryz.func11, Tryz.ntmps11
  go_wp2_with (go_at_call 16; fail)
  refine (unhide H1).mono ?_
  rintro e w1 ⟨g, cap, rfl, c1, l1, b1⟩
  have C1 := hide c1
  have L1 := hide l1
  have B1 := hide b1
  have H2 := hide (parse_t2_lit ((unhide HG).low b1))
  clear c1 l1 b1
  go_wp2_with (go_at_call 16; fail)
  refine (unhide H2).mono ?_
  rintro e w2 ⟨v, rfl, b2⟩
  have cg : w2.cell? ⟨g, 2, none⟩ = some (.int .i64 1) := (b2.cell (p := ⟨g, 2, none⟩) (unhide L1)).trans (unhide C1)
  have B2 := hide (low_trans (unhide B1) b2)
  clear b2
  have s1 := hide (sum_yes w2)
  have s2 := hide (sum_no w2)
  have s3 := hide (glob_yes w2)
  go_wp2_with (go_at_call 25; fail)
  refine (unhide s1).mono ?_
  rintro e w3 ⟨rfl, hw⟩
  rw [hw]; clear hw w3
  go_wp2_with (go_at_call 25; fail)
  refine (unhide s2).mono ?_
  rintro e w3 ⟨rfl, hw⟩
  rw [hw]; clear hw w3
  go_wp2_with (go_at_call 15; refine (num_any _ _).mono ?_; rintro e w3 ⟨rfl, hw⟩; rw [hw]; clear hw w3)
  refine (unhide s3).mono ?_
  rintro e w3 ⟨rfl, n, rfl⟩
  have s4 := hide (glob_no (w2.drewN n))
  go_wp2_with (go_at_call 39; fail)
  refine (unhide s4).mono ?_
  rintro e w3 ⟨rfl, m, rfl⟩
  go_wp2
  go_ret
  exact ⟨rfl, low_drewN (unhide B2) (n + m)⟩

end Go.Proofs.YthcafeoamabkgaaGreatDoor

namespace Go.Proofs.YthcafeoamabkgaaGreatDoor
open Go.RowKit Go.WideMaps Go.Maps

theorem ba_take (s : Str) (k : Nat) : (ba s).extract 0 k = ba (s.take k) := by
  rw [Lib.extract_eq, ba_data]
  simp [ba]
theorem ba_app (a b : Str) : ba a ++ ba b = ba (a ++ b) := by
  rw [← ba_of (ba a ++ ba b)]
  simp [ByteArray.data_append, ba]

theorem prefix_take {s q : Str} : q.isPrefixOf s = decide (s.take q.length = q) := by
  by_cases h : q <+: s
  · rw [List.isPrefixOf_iff_prefix.2 h]
    simp [List.prefix_iff_eq_take.1 h |>.symm]
  · have h1 : q.isPrefixOf s = false := by
      cases e : q.isPrefixOf s with
      | false => rfl
      | true => exact absurd (List.isPrefixOf_iff_prefix.1 e) h
    rw [h1]
    have h2 : ¬ s.take q.length = q := fun e => h (List.prefix_iff_eq_take.2 e.symm)
    simp [h2]

theorem begins_any (s q : Str) (w : World) : Calls Tryz.prog 43 #[.string (ba s), .string (ba q)] w fun e w' => e = .returned (.bool (q.isPrefixOf s)) ∧ w' = w := by
  have hs := ba_size s
  have hq := ba_size q
  rw [prefix_take]
  by_cases h : q.length ≤ s.length
  · have he := ba_take s q.length
    by_cases h2 : s.take q.length = q
    · have e2 : ((ba (s.take q.length)).toList == (ba q).toList) = true := by rw [h2]; simp
      rw [decide_eq_true h2]
      clear h2
      go_enter Tryz.func43, Tryz.ntmps43
      go_wp2
      go_ret
      exact ⟨rfl, rfl⟩
    · have e2 : ((ba (s.take q.length)).toList == (ba q).toList) = false := by rw [ba_list, ba_list]; simpa using h2
      rw [decide_eq_false h2]
      clear h2
      go_enter Tryz.func43, Tryz.ntmps43
      go_wp2
      go_ret
      exact ⟨rfl, rfl⟩
  · have h2 : ¬ s.take q.length = q := fun e => by
      have := congrArg List.length e
      rw [List.length_take] at this
      omega
    rw [decide_eq_false h2]
    clear h2
    go_enter Tryz.func43, Tryz.ntmps43
    go_wp2
    go_ret
    exact ⟨rfl, rfl⟩

/-- No sign in the first so many bytes of a text that is not empty. -/
def plB (x : Str) (k : Nat) : Bool := !x.isEmpty && (x.take k).all fun c => c != 42 && c != 63
theorem plB_zero (x : Str) : plB x 0 = !(ba x).toList.isEmpty := by rw [ba_list]; simp [plB]
theorem plB_next {x : Str} {k : Nat} (hk : k < x.length) : plB x (k + 1) = (plB x k && (x[k] != 42 && x[k] != 63)) := by
  unfold plB
  rw [List.take_add_one, List.all_append, List.getElem?_eq_getElem hk]
  simp [Bool.and_assoc]
theorem plB_end {x : Str} (h : plB x x.length = true) : bareB x = true := by
  unfold plB at h
  rw [List.take_length] at h
  simp only [Bool.and_eq_true] at h
  exact h.2

theorem any_next {p : Str → Bool} {ts : List Str} {k : Nat} (hk : k < ts.length) : (ts.take (k + 1)).any p = ((ts.take k).any p || p ts[k]) := by
  rw [List.take_add_one, List.any_append, List.getElem?_eq_getElem hk]
  simp
theorem matchL_one (x path : Str) : matchL [x] path = matchF (pieces 47 path) x := by simp [matchL]

theorem row_one (w : World) (x : Str) (o : Nat × Nat) : Row (w.alloc (.cells #[.string (ba x)] 9 o)) (some ⟨w.heap.size, 0, none⟩) [x] := by
  refine ⟨Or.inr ⟨w.heap.size, 0, rfl, fun k hk => ?_⟩⟩
  have : k = 0 := by simp at hk; exact hk
  subst this
  exact Lib.cell_of_heap (heap_new w _) 0

end Go.Proofs.YthcafeoamabkgaaGreatDoor
