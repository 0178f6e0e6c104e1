/-
  ModVersions: what a version is, and which is greater, is what the reference says: the walk.
-/
import Derived.Test.YtcmafidnaojkiaaGreatDoorSortS
namespace Go.Proofs.YtcmafidnaojkiaaGreatDoor
open Go.RowKit

theorem own_two (w : World) (a b : Str) : (w.alloc (.cells #[.string (ba a), .string (ba b)] 9)).ownsRow w.heap.size 9 1 (.slice (some ⟨w.heap.size, 0, none⟩) 2 2) 2 (strsV [a, b]) :=
  ⟨rfl, Or.inr ⟨w.heap.size, 2, #[.string (ba a), .string (ba b)], rfl, Nat.le_refl _, heap_new w _, Nat.le_refl _, by unfold maxLen; omega, rfl, rfl⟩⟩

/-- A row that is owned and is not nil holds its texts. -/
theorem own_row {w : World} {base n : Nat} {v : Value} {x : List Str} (h : w.ownsRow base 9 1 v n (strsV x)) (hne : ¬ v = .slice none 0 0) : ∃ g cap, v = .slice (some ⟨g, 0, none⟩) n cap ∧ base ≤ g ∧ g < w.heap.size ∧ x.length = n ∧ RowT g x w := by
  have hn : x.length = n := by have := h.1; simpa [strsV] using this
  rcases h.2 with ⟨rfl, _⟩ | ⟨g, cap, cur, rfl, hb, hblk, hcap, hcm, hcs, hcur⟩
  · exact absurd rfl hne
  · refine ⟨g, cap, rfl, hb, (Array.getElem?_eq_some_iff.1 hblk).1, hn, fun k hk => ⟨?_, Lib.frozen_of_heap hblk k⟩⟩
    rw [Lib.cell_of_heap hblk]
    have h1 : cur.toList[k]? = (strsV x)[k]? := by rw [← hcur, List.getElem?_take_of_lt (by omega)]
    have h2 : cur[k]? = cur.toList[k]? := by simp
    rw [h2, h1]
    simp [strsV, hk]

theorem RowT.texts {g : Nat} {x : List Str} {w : World} (h : RowT g x w) : ∀ k (hk : k < x.length), w.cell? ⟨g, 0 + k, none⟩ = some (.string (ba x[k])) := fun k hk => by rw [Nat.zero_add]; exact (h k hk).1

/-- Two rows of the same texts, one of them by what is owned. -/
theorem same_own {w w0 : World} {base g n c : Nat} {v : Value} {x : List Str} (hx : x.length = n) (hn : n ≤ 60) (hr : RowT g x w) (ho : w0.ownsRow base 9 1 v n (strsV x)) (hb : Below w0.heap.size w0 w) :
    Calls Tryz.prog 21 #[.slice (some ⟨g, 0, none⟩) n c, v] w fun e w' => e = .returned (.bool true) ∧ Below w.heap.size w w' := by
  by_cases hv : v = .slice none 0 0
  · subst hv
    have h0 : n = 0 := by
      rcases ho.2 with ⟨_, h⟩ | ⟨g, cap, cur, h, _⟩
      · exact h
      · cases h
    subst h0
    exact (sameTexts_none w).mono fun e w' ⟨he, hw⟩ => ⟨he, by rw [hw]; exact Below.refl _ _⟩
  · obtain ⟨g2, cap, rfl, _, hg2, _, hr2⟩ := own_row ho hv
    have hr2 := hr2.below hb hg2
    subst hx
    exact sameTexts_same (ao := 0) (bo := 0) (by omega) hr.texts hr2.texts

theorem refSort_none (w : World) : Calls Tryz.prog 22 #[.slice none 0 0] w fun e w' => e = .returned (.slice none 0 0) ∧ w' = w := by
  go_enter Tryz.func22, Tryz.ntmps22
  go_wp2
  refine wp_loop_rounds 1 ?_
  rw [rounds_succ]
  go_wp2
  go_ret
  exact ⟨rfl, rfl⟩

theorem parts_two (a : Str) : ∃ (x y z : Int) (s : Str) (k : Bool), partsV (parseV a) = .tuple #[.int .i64 x, .int .i64 y, .int .i64 z, .string (ba s), .bool k] ∧ (parseV a).isSome = k := ⟨_, _, _, _, _, rfl, rfl⟩

theorem few_parts {a b : Str} {ps : List Str} (h : fewB (a :: b :: ps) = true) : ps.length ≤ 58 := by
  unfold fewB at h
  simp at h
  omega

theorem max_best {a b : Str} {r : Int} (h : cmpV b a = r) (h0 : 0 < r) : maxV a b = b := by
  have := orders_v.turn a b
  unfold maxV; rw [if_pos (by omega)]
theorem max_best' {a b : Str} {r : Int} (h : cmpV b a = r) (h0 : ¬ 0 < r) : maxV a b = a := by
  have := orders_v.turn a b
  unfold maxV; rw [if_neg (by omega)]
theorem max_is {a b c : Str} (h : maxV a b = c) {w : World} (hg : Gd w) : Gives 17 #[.string (ba a), .string (ba b)] w (.string (ba c)) := by rw [← h]; exact max_any hg
theorem valid_is' {v : Str} {b : Bool} (h : (parseV v).isSome = b) {w : World} (hg : Gd w) : Gives 16 #[.string (ba v)] w (.bool b) := by rw [← h]; exact valid_any hg

set_option maxHeartbeats 4000000 in
set_option maxRecDepth 100000 in
theorem versions_nil_big {a b : Str} {w : World} (h : fewB (a :: b :: []) = false) (hg : Gd w) : Gives 4 #[.string (ba a), .string (ba b), .slice none 0 0] w (.bool true) := by
  unfold Gives
  obtain ⟨i0, hi, hz0, hz1, hz2⟩ := info_parts info9
  have HFEW := hide h
  clear h
  go_enter Tryz.func4, Tryz.ntmps4
  go_wp2_with (go_at_call 13; fail)
  refine (first_any hg).mono ?_
  rintro e w1 ⟨rfl, b1⟩
  have b2 := hide (b1.alloc b1.size (.cells #[.string (ba a), .string (ba b)] 9))
  have HF : Hid (Calls Tryz.prog 14 #[.slice (some ⟨w1.heap.size, 0, none⟩) 2 2] (w1.alloc (.cells #[.string (ba a), .string (ba b)] 9)) fun e w' => e = .returned (.bool false) ∧ w' = w1.alloc (.cells #[.string (ba a), .string (ba b)] 9)) := by
    have := few_at (ps := [a, b]) (cp := 2) (B := w1.heap.size) (off := 0) (by simp) (w := w1.alloc (.cells #[.string (ba a), .string (ba b)] 9)) (fun k hk => by
      rw [Nat.zero_add, Lib.cell_of_heap (heap_new w1 _)]
      match k, hk with
      | 0, _ => rfl
      | 1, _ => rfl)
    rw [unhide HFEW] at this
    exact this
  go_wp2_with (at_builtin; refine wpList_append_own_none rfl _ _ 24 rfl w1.heap.size 9 i0 1 Tryz.underlying24 hi _ 2 (strsV [a, b]) rfl (own_two w1 a b) rfl ?_)
  obtain ⟨w2, hw2⟩ : ∃ w2, w1.alloc (.cells #[.string (ba a), .string (ba b)] 9) = w2 := ⟨_, rfl⟩
  rw [hw2] at b2 HF ⊢
  clear hw2
  have b2 := unhide b2
  go_wp2_with (go_at_call 14; fail)
  refine (unhide HF).mono ?_
  rintro e w3 ⟨rfl, hw⟩
  rw [hw]; clear hw HF w3
  go_wp2
  go_ret
  exact ⟨rfl, b2⟩

set_option maxHeartbeats 4000000 in
set_option maxRecDepth 100000 in
theorem versions_at_big {a b : Str} {ps : List Str} {B off c : Nat} {w : World} (h : fewB (a :: b :: ps) = false) (hg : Gd w) (hn : ps.length ≤ 1048576) (hB : B < w.heap.size) (ht : ∀ k (hk : k < ps.length), w.cell? ⟨B, off + k, none⟩ = some (.string (ba ps[k]))) : Gives 4 #[.string (ba a), .string (ba b), .slice (some ⟨B, off, none⟩) ps.length c] w (.bool true) := by
  unfold Gives
  obtain ⟨i0, hi, hz0, hz1, hz2⟩ := info_parts info9
  have HFEW := hide h
  have HT := hide ht
  obtain ⟨n, hnn⟩ : ∃ n, ps.length = n := ⟨_, rfl⟩
  rw [hnn] at hn ⊢
  have HN := hide hnn
  clear ht hnn
  clear h
  go_enter Tryz.func4, Tryz.ntmps4
  go_wp2_with (go_at_call 13; fail)
  refine (first_any hg).mono ?_
  rintro e w1 ⟨rfl, b1⟩
  have HNEWS : Hid (∀ j u, (strsV ps)[j]? = some u → (w1.alloc (.cells #[.string (ba a), .string (ba b)] 9)).cell? ((⟨B, off, none⟩ : Addr).add j) = some u) := by
    intro j u hu
    obtain ⟨hj, rfl⟩ := strs_at hu
    have h1 := (b1.alloc b1.size (.cells #[.string (ba a), .string (ba b)] 9)).cell (p := ⟨B, off + j, none⟩) hB
    rw [WideShapes.add_plain, h1]
    exact (unhide HT) j hj
  go_wp2_with (at_builtin; refine wpList_append_own _ rfl _ _ 24 rfl w1.heap.size 9 i0 (.string ByteArray.empty) 1 16 Tryz.underlying24 hi hz0 hz1 hz2 rfl (by decide) _ 2 (strsV [a, b]) rfl (own_two w1 a b) ⟨B, off, none⟩ n c (strsV ps) rfl (by have := unhide HN; simp [strsV]; omega) ?cells ?kind ?room ?len ?base ?_)
  case cells => exact (unhide HNEWS)
  case kind => exact strs_one ps
  case room => unfold maxLen; omega
  case len => omega
  case base => simp
  intro v2 w2 own2 grow2 ne2
  have b2 := (b1.alloc b1.size (.cells #[.string (ba a), .string (ba b)] 9)).grown grow2 (by have := b1.size; simp; omega) (fun j hj => by simp [Value.ownBlock] at hj; have := b1.size; omega)
  have own2' : w2.ownsRow w1.heap.size 9 1 v2 (2 + n) (strsV (a :: b :: ps)) := by simpa [strsV] using own2
  obtain ⟨g, cap, rfl, _, hg2, hlen2, hrow2⟩ := own_row own2' ne2
  obtain ⟨n2, hn2⟩ : ∃ n2, 2 + n = n2 := ⟨_, rfl⟩
  have HF : Hid (Calls Tryz.prog 14 #[.slice (some ⟨g, 0, none⟩) n2 cap] w2 fun e w' => e = .returned (.bool false) ∧ w' = w2) := by
    have := few_at (ps := a :: b :: ps) (cp := cap) (B := g) (off := 0) (by rw [hlen2]; omega) (w := w2) hrow2.texts
    rw [unhide HFEW, hlen2, hn2] at this
    exact this
  rw [hn2]
  clear own2 own2' grow2 ne2 hrow2 hlen2 HNEWS hn2
  go_wp2_with (go_at_call 14; fail)
  refine (unhide HF).mono ?_
  rintro e w3 ⟨rfl, hw⟩
  rw [hw]; clear hw HF w3
  go_wp2
  go_ret
  exact ⟨rfl, b2⟩

set_option maxHeartbeats 4000000 in
set_option maxRecDepth 100000 in
theorem versions_nil {a b : Str} {w : World} (h : fewB (a :: b :: []) = true) (hg : Gd w) : Gives 4 #[.string (ba a), .string (ba b), .slice none 0 0] w (.bool true) := by
  unfold Gives
  obtain ⟨i0, hi, hz0, hz1, hz2⟩ := info_parts info9
  have HFEW := hide h
  clear h
  go_enter Tryz.func4, Tryz.ntmps4
  go_wp2_with (go_at_call 13; fail)
  refine (first_any hg).mono ?_
  rintro e w1 ⟨rfl, b1⟩
  have b2 := hide (b1.alloc b1.size (.cells #[.string (ba a), .string (ba b)] 9))
  have HF : Hid (Calls Tryz.prog 14 #[.slice (some ⟨w1.heap.size, 0, none⟩) 2 2] (w1.alloc (.cells #[.string (ba a), .string (ba b)] 9)) fun e w' => e = .returned (.bool true) ∧ w' = w1.alloc (.cells #[.string (ba a), .string (ba b)] 9)) := by
    have := few_at (ps := [a, b]) (cp := 2) (B := w1.heap.size) (off := 0) (by simp) (w := w1.alloc (.cells #[.string (ba a), .string (ba b)] 9)) (fun k hk => by
      rw [Nat.zero_add, Lib.cell_of_heap (heap_new w1 _)]
      match k, hk with
      | 0, _ => rfl
      | 1, _ => rfl)
    rw [unhide HFEW] at this
    exact this
  go_wp2_with (at_builtin; refine wpList_append_own_none rfl _ _ 24 rfl w1.heap.size 9 i0 1 Tryz.underlying24 hi _ 2 (strsV [a, b]) rfl (own_two w1 a b) rfl ?_)
  obtain ⟨w2, hw2⟩ : ∃ w2, w1.alloc (.cells #[.string (ba a), .string (ba b)] 9) = w2 := ⟨_, rfl⟩
  rw [hw2] at b2 HF ⊢
  clear hw2
  have b2 := unhide b2
  go_wp2_with (go_at_call 14; fail)
  refine (unhide HF).mono ?_
  rintro e w3 ⟨rfl, hw⟩
  rw [hw]; clear hw HF w3
  obtain ⟨px, py, pz, pq, pk, hp1, hp2⟩ := parts_two a
  have R1 : Hid (∀ w, Gd w → Gives 18 #[.string (ba a)] w (.tuple #[.int .i64 px, .int .i64 py, .int .i64 pz, .string (ba pq), .bool pk])) := fun w g => by rw [← hp1]; exact parts_any g
  have R2 : Hid (∀ w, Gives 19 #[.string (ba a)] w (.tuple #[.int .i64 px, .int .i64 py, .int .i64 pz, .string (ba pq), .bool pk])) := fun w => by rw [← hp1]; exact refParts_any a w
  have HK := hide hp2
  clear hp1 hp2
  go_wp2_with (go_at_call 18; fail)
  refine ((unhide R1) w2 (hg.below b2)).mono ?_
  rintro e w3 ⟨rfl, b3⟩
  have b3 := below_trans b2 b3
  go_wp2_with (go_at_call 19; fail)
  refine ((unhide R2) w3).mono ?_
  rintro e w4 ⟨rfl, b4⟩
  have b4 := below_trans b3 b4
  clear b2 b3 R1 R2
  go_wp2_with (at_builtin; refine wpList_append_own_none rfl _ _ 24 rfl w4.heap.size 9 i0 1 Tryz.underlying24 hi _ 0 [] rfl (own_new w4) rfl ?_)
  have b5 := b4.alloc b4.size (.cells #[] 9)
  have hrow5 : RowT w4.heap.size [] (w4.alloc (.cells #[] 9)) := fun k hk => by cases hk
  obtain ⟨w5, hw5⟩ : ∃ w5, w4.alloc (.cells #[] 9) = w5 := ⟨_, rfl⟩
  rw [hw5] at b5 hrow5 ⊢
  clear hw5
  have HS : Hid (Calls Tryz.prog 20 #[.slice (some ⟨w4.heap.size, 0, none⟩) 0 0] w5 fun e w' => ∃ g cap x, e = .returned (.slice (some ⟨g, 0, none⟩) 0 cap) ∧ x.Perm [] ∧ Srt ltV x ∧ RowT g x w' ∧ w5.heap.size ≤ g ∧ g < w'.heap.size ∧ Below w5.heap.size w5 w') :=
    sort_T (ps := []) (hg.below b5) (by simp) (fun k hk => by cases hk)
  clear hrow5
  go_wp2_with (go_at_call 20; fail)
  refine (unhide HS).mono ?_
  rintro e w6 ⟨gs, cs, x, rfl, hperm, hsrt, hrow6, _, hgs, b6⟩
  have b6 := below_trans b5 b6
  clear HS b5 hperm hsrt hrow6
  go_wp2_with (go_at_call 22; fail)
  refine (refSort_none w6).mono ?_
  rintro e w7 ⟨rfl, hw⟩
  rw [hw]; clear hw w7
  go_wp2_with (go_at_call 21; fail)
  refine (sameTexts_none w6).mono ?_
  rintro e w7 ⟨rfl, hw⟩
  rw [hw]; clear hw w7
  go_wp2_with (go_at_call 21; fail)
  refine (sameTexts_none w6).mono ?_
  rintro e w7 ⟨rfl, hw⟩
  rw [hw]; clear hw w7
  obtain ⟨w9, b9, e9⟩ : ∃ w9, Below w.heap.size w w9 ∧ w6 = w9 := ⟨w6, b6, rfl⟩
  rw [e9]
  clear e9 b6
  obtain ⟨r, hr⟩ : ∃ r, cmpV b a = r := ⟨_, rfl⟩
  obtain ⟨rr, hrr⟩ : ∃ rr, cmpV a b = rr := ⟨_, rfl⟩
  have HR := hide hr
  have HRR := hide hrr
  by_cases h0 : 0 < r
  · have HM := hide (max_best hr h0)
    clear hr hrr
    have lbest := ba_list b
    have lq := ba_list pq
    go_wp2_with (go_at_call 23; fail)
    refine (refCmp_is (unhide HR) w9).mono ?_
    rintro e w10 ⟨rfl, b10⟩
    have b10 := below_trans b9 b10
    clear b9
    go_wp2_with (go_at_call 16; fail)
    refine (valid_is' (unhide HK) (hg.below b10)).mono ?_
    rintro e w11 ⟨rfl, b11⟩
    have b11 := below_trans b10 b11
    clear b10
    go_wp2_with (go_at_call 15; fail)
    refine (cmp_is (unhide HRR) (hg.below b11)).mono ?_
    rintro e w12 ⟨rfl, b12⟩
    have b12 := below_trans b11 b12
    clear b11
    go_wp2_with (go_at_call 23; fail)
    refine (refCmp_is (unhide HRR) w12).mono ?_
    rintro e w13 ⟨rfl, b13⟩
    have b13 := below_trans b12 b13
    clear b12
    go_wp2_with (go_at_call 17; fail)
    refine (max_is (unhide HM) (hg.below b13)).mono ?_
    rintro e w14 ⟨rfl, b14⟩
    have b14 := below_trans b13 b14
    clear b13
    go_wp2
    go_ret
    exact ⟨rfl, b14⟩
  · have HM := hide (max_best' hr h0)
    clear hr hrr
    have lbest := ba_list a
    have lq := ba_list pq
    go_wp2_with (go_at_call 23; fail)
    refine (refCmp_is (unhide HR) w9).mono ?_
    rintro e w10 ⟨rfl, b10⟩
    have b10 := below_trans b9 b10
    clear b9
    go_wp2_with (go_at_call 16; fail)
    refine (valid_is' (unhide HK) (hg.below b10)).mono ?_
    rintro e w11 ⟨rfl, b11⟩
    have b11 := below_trans b10 b11
    clear b10
    go_wp2_with (go_at_call 15; fail)
    refine (cmp_is (unhide HRR) (hg.below b11)).mono ?_
    rintro e w12 ⟨rfl, b12⟩
    have b12 := below_trans b11 b12
    clear b11
    go_wp2_with (go_at_call 23; fail)
    refine (refCmp_is (unhide HRR) w12).mono ?_
    rintro e w13 ⟨rfl, b13⟩
    have b13 := below_trans b12 b13
    clear b12
    go_wp2_with (go_at_call 17; fail)
    refine (max_is (unhide HM) (hg.below b13)).mono ?_
    rintro e w14 ⟨rfl, b14⟩
    have b14 := below_trans b13 b14
    clear b13
    go_wp2
    go_ret
    exact ⟨rfl, b14⟩

set_option maxHeartbeats 4000000 in
set_option maxRecDepth 100000 in
theorem versions_at {a b : Str} {ps : List Str} {B off c : Nat} {w : World} (h : fewB (a :: b :: ps) = true) (hg : Gd w) (hn : ps.length ≤ 1048576) (hB : B < w.heap.size) (ht : ∀ k (hk : k < ps.length), w.cell? ⟨B, off + k, none⟩ = some (.string (ba ps[k]))) : Gives 4 #[.string (ba a), .string (ba b), .slice (some ⟨B, off, none⟩) ps.length c] w (.bool true) := by
  unfold Gives
  obtain ⟨i0, hi, hz0, hz1, hz2⟩ := info_parts info9
  have HFEW := hide h
  have HT := hide ht
  obtain ⟨n, hnn⟩ : ∃ n, ps.length = n := ⟨_, rfl⟩
  rw [hnn] at hn ⊢
  have HN := hide hnn
  clear ht hnn
  clear h
  go_enter Tryz.func4, Tryz.ntmps4
  go_wp2_with (go_at_call 13; fail)
  refine (first_any hg).mono ?_
  rintro e w1 ⟨rfl, b1⟩
  have HNEWS : Hid (∀ j u, (strsV ps)[j]? = some u → (w1.alloc (.cells #[.string (ba a), .string (ba b)] 9)).cell? ((⟨B, off, none⟩ : Addr).add j) = some u) := by
    intro j u hu
    obtain ⟨hj, rfl⟩ := strs_at hu
    have h1 := (b1.alloc b1.size (.cells #[.string (ba a), .string (ba b)] 9)).cell (p := ⟨B, off + j, none⟩) hB
    rw [WideShapes.add_plain, h1]
    exact (unhide HT) j hj
  go_wp2_with (at_builtin; refine wpList_append_own _ rfl _ _ 24 rfl w1.heap.size 9 i0 (.string ByteArray.empty) 1 16 Tryz.underlying24 hi hz0 hz1 hz2 rfl (by decide) _ 2 (strsV [a, b]) rfl (own_two w1 a b) ⟨B, off, none⟩ n c (strsV ps) rfl (by have := unhide HN; simp [strsV]; omega) ?cells ?kind ?room ?len ?base ?_)
  case cells => exact (unhide HNEWS)
  case kind => exact strs_one ps
  case room => unfold maxLen; omega
  case len => omega
  case base => simp
  intro v2 w2 own2 grow2 ne2
  have b2 := (b1.alloc b1.size (.cells #[.string (ba a), .string (ba b)] 9)).grown grow2 (by have := b1.size; simp; omega) (fun j hj => by simp [Value.ownBlock] at hj; have := b1.size; omega)
  have own2' : w2.ownsRow w1.heap.size 9 1 v2 (2 + n) (strsV (a :: b :: ps)) := by simpa [strsV] using own2
  obtain ⟨g, cap, rfl, _, hg2, hlen2, hrow2⟩ := own_row own2' ne2
  obtain ⟨n2, hn2⟩ : ∃ n2, 2 + n = n2 := ⟨_, rfl⟩
  have HF : Hid (Calls Tryz.prog 14 #[.slice (some ⟨g, 0, none⟩) n2 cap] w2 fun e w' => e = .returned (.bool true) ∧ w' = w2) := by
    have := few_at (ps := a :: b :: ps) (cp := cap) (B := g) (off := 0) (by rw [hlen2]; omega) (w := w2) hrow2.texts
    rw [unhide HFEW, hlen2, hn2] at this
    exact this
  rw [hn2]
  clear own2 own2' grow2 ne2 hrow2 hlen2 HNEWS hn2
  go_wp2_with (go_at_call 14; fail)
  refine (unhide HF).mono ?_
  rintro e w3 ⟨rfl, hw⟩
  rw [hw]; clear hw HF w3
  have hn58 : n ≤ 58 := by have := few_parts (unhide HFEW); have := unhide HN; omega
  obtain ⟨px, py, pz, pq, pk, hp1, hp2⟩ := parts_two a
  have R1 : Hid (∀ w, Gd w → Gives 18 #[.string (ba a)] w (.tuple #[.int .i64 px, .int .i64 py, .int .i64 pz, .string (ba pq), .bool pk])) := fun w g => by rw [← hp1]; exact parts_any g
  have R2 : Hid (∀ w, Gives 19 #[.string (ba a)] w (.tuple #[.int .i64 px, .int .i64 py, .int .i64 pz, .string (ba pq), .bool pk])) := fun w => by rw [← hp1]; exact refParts_any a w
  have HK := hide hp2
  clear hp1 hp2
  go_wp2_with (go_at_call 18; fail)
  refine ((unhide R1) w2 (hg.below b2)).mono ?_
  rintro e w3 ⟨rfl, b3⟩
  have b3 := below_trans b2 b3
  go_wp2_with (go_at_call 19; fail)
  refine ((unhide R2) w3).mono ?_
  rintro e w4 ⟨rfl, b4⟩
  have b4 := below_trans b3 b4
  clear b2 b3 R1 R2
  have HNEWS : Hid (∀ j u, (strsV ps)[j]? = some u → (w4.alloc (.cells #[] 9)).cell? ((⟨B, off, none⟩ : Addr).add j) = some u) := by
    intro j u hu
    obtain ⟨hj, rfl⟩ := strs_at hu
    have h1 := (b4.alloc b4.size (.cells #[] 9)).cell (p := ⟨B, off + j, none⟩) hB
    rw [WideShapes.add_plain, h1]
    exact (unhide HT) j hj
  go_wp2_with (at_builtin; refine wpList_append_own _ rfl _ _ 24 rfl w4.heap.size 9 i0 (.string ByteArray.empty) 1 16 Tryz.underlying24 hi hz0 hz1 hz2 rfl (by decide) _ 0 [] rfl (own_new w4) ⟨B, off, none⟩ n c (strsV ps) rfl (by have := unhide HN; simp [strsV]; omega) ?cells ?kind ?room ?len ?base ?_)
  case cells => exact (unhide HNEWS)
  case kind => exact strs_one ps
  case room => unfold maxLen; omega
  case len => omega
  case base => simp
  intro v5 w5 own5 grow5 ne5
  have b5 := (b4.alloc b4.size (.cells #[] 9)).grown grow5 (by have := b4.size; simp; omega) (fun j hj => by simp [Value.ownBlock] at hj; have := b4.size; omega)
  have own5' : w5.ownsRow w4.heap.size 9 1 v5 n (strsV ps) := by simpa [strsV] using own5
  obtain ⟨gi, ci, rfl, _, hgi, _, hrow5⟩ := own_row own5' ne5
  have HROW := hide hrow5
  clear own5 own5' grow5 ne5 HNEWS
  have HS : Hid (Calls Tryz.prog 20 #[.slice (some ⟨gi, 0, none⟩) n ci] w5 fun e w' => ∃ g cap x, e = .returned (.slice (some ⟨g, 0, none⟩) n cap) ∧ x.Perm ps ∧ Srt ltV x ∧ RowT g x w' ∧ w5.heap.size ≤ g ∧ g < w'.heap.size ∧ Below w5.heap.size w5 w') := by
    have := sort_T (ps := ps) (c := ci) (hg.below b5) (by have := unhide HN; omega) hrow5.texts
    rw [unhide HN] at this
    exact this
  clear hrow5
  go_wp2_with (go_at_call 20; fail)
  refine (unhide HS).mono ?_
  rintro e w6 ⟨gs, cs, x, rfl, hperm, hsrt, hrow6, _, hgs, b6⟩
  have HROW6 := hide ((unhide HROW).below b6 hgi)
  have hgi6 : gi < w6.heap.size := Nat.lt_of_lt_of_le hgi b6.size
  have b6 := below_trans b5 b6
  have HX6 := hide hrow6
  have HPE := hide hperm
  have HSR := hide hsrt
  have HRS : Hid (Calls Tryz.prog 22 #[.slice (some ⟨B, off, none⟩) n c] w6 fun e w' => ∃ v, e = .returned v ∧ InsV ps w6 ps.length v w') := by
    have := refSort_T (ps := ps) (c := c) (B := B) (off := off) (w := w6) (by have := unhide HN; omega) (Nat.lt_of_lt_of_le hB b6.size) (fun k hk => (b6.cell (p := ⟨B, off + k, none⟩) hB).trans ((unhide HT) k hk))
    rw [unhide HN] at this ⊢
    exact this
  clear HS b5 hperm hsrt hrow6 HROW
  go_wp2_with (go_at_call 22; fail)
  refine (unhide HRS).mono ?_
  rintro e w7 ⟨v, rfl, y, hyl, hown, hyp, hys, b7⟩
  rw [List.take_length] at hyp
  obtain rfl : y = x := srt_unique (hyp.trans (unhide HPE).symm) hys (unhide HSR)
  have HX7 := hide ((unhide HX6).below b7 hgs)
  have HROW7 := hide ((unhide HROW6).below b7 hgi6)
  have hgi7 : gi < w7.heap.size := Nat.lt_of_lt_of_le hgi6 b7.size
  have hyn : y.length = n := hyl.trans (unhide HN)
  have HST : Hid (Calls Tryz.prog 21 #[.slice (some ⟨gs, 0, none⟩) n cs, v] w7 fun e w' => e = .returned (.bool true) ∧ Below w7.heap.size w7 w') :=
    same_own hyn (by omega) (unhide HX7) (by rw [← hyn]; exact hown) (Below.refl _ _)
  have b7 := below_trans b6 b7
  clear HRS hyl hown hyp hys b6 HX6 HROW6 hyn
  go_wp2_with (go_at_call 21; fail)
  refine (unhide HST).mono ?_
  rintro e w8 ⟨rfl, b8⟩
  have HROW8 := hide ((unhide HROW7).below b8 hgi7)
  have b8 := below_trans b7 b8
  have HST2 : Hid (Calls Tryz.prog 21 #[.slice (some ⟨gi, 0, none⟩) n ci, .slice (some ⟨B, off, none⟩) n c] w8 fun e w' => e = .returned (.bool true) ∧ Below w8.heap.size w8 w') := by
    have := sameTexts_same (x := ps) (ac := ci) (bc := c) (A := gi) (ao := 0) (B := B) (bo := off) (w := w8) (by have := unhide HN; omega) (unhide HROW8).texts (fun k hk => (b8.cell (p := ⟨B, off + k, none⟩) hB).trans ((unhide HT) k hk))
    rw [unhide HN] at this
    exact this
  clear HST b7 HROW7 HX7
  go_wp2_with (go_at_call 21; fail)
  refine (unhide HST2).mono ?_
  rintro e w9 ⟨rfl, b9⟩
  have b9 := below_trans b8 b9
  clear HST2 b8 HROW8
  obtain ⟨r, hr⟩ : ∃ r, cmpV b a = r := ⟨_, rfl⟩
  obtain ⟨rr, hrr⟩ : ∃ rr, cmpV a b = rr := ⟨_, rfl⟩
  have HR := hide hr
  have HRR := hide hrr
  by_cases h0 : 0 < r
  · have HM := hide (max_best hr h0)
    clear hr hrr
    have lbest := ba_list b
    have lq := ba_list pq
    go_wp2_with (go_at_call 23; fail)
    refine (refCmp_is (unhide HR) w9).mono ?_
    rintro e w10 ⟨rfl, b10⟩
    have b10 := below_trans b9 b10
    clear b9
    go_wp2_with (go_at_call 16; fail)
    refine (valid_is' (unhide HK) (hg.below b10)).mono ?_
    rintro e w11 ⟨rfl, b11⟩
    have b11 := below_trans b10 b11
    clear b10
    go_wp2_with (go_at_call 15; fail)
    refine (cmp_is (unhide HRR) (hg.below b11)).mono ?_
    rintro e w12 ⟨rfl, b12⟩
    have b12 := below_trans b11 b12
    clear b11
    go_wp2_with (go_at_call 23; fail)
    refine (refCmp_is (unhide HRR) w12).mono ?_
    rintro e w13 ⟨rfl, b13⟩
    have b13 := below_trans b12 b13
    clear b12
    go_wp2_with (go_at_call 17; fail)
    refine (max_is (unhide HM) (hg.below b13)).mono ?_
    rintro e w14 ⟨rfl, b14⟩
    have b14 := below_trans b13 b14
    clear b13
    go_wp2
    go_ret
    exact ⟨rfl, b14⟩
  · have HM := hide (max_best' hr h0)
    clear hr hrr
    have lbest := ba_list a
    have lq := ba_list pq
    go_wp2_with (go_at_call 23; fail)
    refine (refCmp_is (unhide HR) w9).mono ?_
    rintro e w10 ⟨rfl, b10⟩
    have b10 := below_trans b9 b10
    clear b9
    go_wp2_with (go_at_call 16; fail)
    refine (valid_is' (unhide HK) (hg.below b10)).mono ?_
    rintro e w11 ⟨rfl, b11⟩
    have b11 := below_trans b10 b11
    clear b10
    go_wp2_with (go_at_call 15; fail)
    refine (cmp_is (unhide HRR) (hg.below b11)).mono ?_
    rintro e w12 ⟨rfl, b12⟩
    have b12 := below_trans b11 b12
    clear b11
    go_wp2_with (go_at_call 23; fail)
    refine (refCmp_is (unhide HRR) w12).mono ?_
    rintro e w13 ⟨rfl, b13⟩
    have b13 := below_trans b12 b13
    clear b12
    go_wp2_with (go_at_call 17; fail)
    refine (max_is (unhide HM) (hg.below b13)).mono ?_
    rintro e w14 ⟨rfl, b14⟩
    have b14 := below_trans b13 b14
    clear b13
    go_wp2
    go_ret
    exact ⟨rfl, b14⟩

theorem versions_any (a b : Str) {v : Option Addr} {len cap : Nat} {w : World} (hg : Gd w) (hb : len ≤ 1048576) (h : (v = none ∧ len = 0 ∧ cap = 0) ∨ ∃ (B O : Nat) (ps : List Str), v = some ⟨B, O, none⟩ ∧ len = ps.length ∧ B < w.heap.size ∧ ps.length ≤ 9223372036854775807 ∧ ∀ k (hk : k < ps.length), w.cell? ⟨B, O + k, none⟩ = some (.string (ba ps[k]))) :
    Gives 4 #[.string (ba a), .string (ba b), .slice v len cap] w (.bool true) := by
  rcases h with ⟨rfl, rfl, rfl⟩ | ⟨B, O, ps, rfl, rfl, hB, _, ht⟩
  · cases hf : fewB [a, b] with
    | true => exact versions_nil hf hg
    | false => exact versions_nil_big hf hg
  · cases hf : fewB (a :: b :: ps) with
    | true => exact versions_at hf hg hb hB ht
    | false => exact versions_at_big hf hg hb hB ht

end Go.Proofs.YtcmafidnaojkiaaGreatDoor
