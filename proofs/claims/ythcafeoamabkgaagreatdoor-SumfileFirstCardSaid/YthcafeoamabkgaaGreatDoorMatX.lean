/-
  The reference's Cut and SameTexts.
-/
import Derived.Test.YthcafeoamabkgaaGreatDoorGlobX
import Derived.Test.YthcafeoamabkgaaGreatDoorPure5
import Derived.Lib.Join
import Derived.Test.YthcafeoamabkgaaGreatDoorVersX
import Derived.Deep.AppendLies
import Derived.BigQuiet
namespace Go.Proofs.YthcafeoamabkgaaGreatDoor

/-- Whether a pattern matches the beginning of a path whose elements are these. -/
def matchF (es : List Str) (p : Str) : Bool := decide ((pieces 47 p).length ≤ es.length) && matchR p (glue 47 (es.take (pieces 47 p).length))
def matchL (ps : List Str) (path : Str) : Bool := ps.any (matchF (pieces 47 path))

theorem glue_tail (c : UInt8) : ∀ (x : Str) (r : List Str), glue c (x :: r) = x ++ Lib.joinTail [c] r
  | x, [] => by simp [glue, Lib.joinTail]
  | x, y :: r => by
    have ih := glue_tail c y r
    simp only [glue, ih]
    simp [Lib.joinTail]
theorem join_glue (c : UInt8) (xs : List Str) : Lib.join xs [c] = glue c xs := by
  cases xs with
  | nil => rfl
  | cons x r => rw [Lib.join_cons, glue_tail]

theorem glue_app (c : UInt8) : ∀ {a b : List Str}, a ≠ [] → b ≠ [] → glue c (a ++ b) = glue c a ++ c :: glue c b
  | [], _, h, _ => absurd rfl h
  | [x], [], _, h => absurd rfl h
  | [x], y :: b, _, _ => by simp [glue]
  | x :: y :: a, b, _, hb => by
    have ih := glue_app c (a := y :: a) (b := b) (by simp) hb
    simp only [List.cons_append] at ih ⊢
    simp only [glue, ih]
    simp

theorem glue_take_le (c : UInt8) (es : List Str) (k : Nat) : (glue c (es.take k)).length ≤ (glue c es).length := by
  by_cases h1 : es.take k = []
  · rw [h1]; simp [glue]
  · by_cases h2 : es.drop k = []
    · have : es.take k = es := by have := List.take_append_drop k es; rw [h2, List.append_nil] at this; exact this
      rw [this]; exact Nat.le_refl _
    · have e := glue_app c h1 h2
      rw [List.take_append_drop] at e
      rw [e]; simp

theorem pieces_pos (c : UInt8) (l : Str) : 0 < (pieces c l).length := List.length_pos_iff.2 (pieces_ne c l)

/-- What matches a path matches each longer one. -/
theorem matchF_more {path more p : Str} (h : matchF (pieces 47 path) p = true) : matchF (pieces 47 (path ++ 47 :: more)) p = true := by
  unfold matchF at h ⊢
  rw [Bool.and_eq_true, decide_eq_true_eq] at h ⊢
  rw [pieces_join, List.length_append, List.take_append_of_le_length h.1]
  exact ⟨by omega, h.2⟩

def bareB (p : Str) : Bool := p.all fun c => c != 42 && c != 63

theorem match_plain {p : Str} (hp : bareB p = true) (s : Str) : matchR p s = decide (p = s) := by
  induction p generalizing s with
  | nil => cases s <;> simp [matchR]
  | cons c p ih =>
    simp only [bareB, List.all_cons, Bool.and_eq_true, bne_iff_ne, ne_eq] at hp
    obtain ⟨⟨h1, h2⟩, h3⟩ := hp
    cases s with
    | nil => rw [match_short h1]; simp
    | cons d s =>
      rw [match_lit h1, ih (by simpa [bareB] using h3)]
      unfold standsB
      rw [if_neg h2]
      by_cases hcd : c = d
      · subst hcd; simp
      · simp [hcd]

/-- A pattern without stars and question marks is the path's beginning. -/
theorem matchF_plain {path p : Str} (hp : bareB p = true) : matchF (pieces 47 path) p = (decide (path = p) || (p ++ [47]).isPrefixOf path) := by
  rw [Bool.eq_iff_iff]
  unfold matchF
  rw [match_plain hp]
  simp only [Bool.and_eq_true, decide_eq_true_eq, Bool.or_eq_true, List.isPrefixOf_iff_prefix]
  constructor
  · rintro ⟨hk, he⟩
    by_cases hkl : (pieces 47 p).length = (pieces 47 path).length
    · rw [hkl, List.take_length, glue_pieces] at he
      exact Or.inl he.symm
    · have h1 : (pieces 47 path).take (pieces 47 p).length ≠ [] := by
        intro e
        have e2 := congrArg List.length e
        have e3 := pieces_pos 47 p
        rw [List.length_take, List.length_nil] at e2
        omega
      have h2 : (pieces 47 path).drop (pieces 47 p).length ≠ [] := by
        intro e
        have := congrArg List.length e
        simp at this
        omega
      have e := glue_app 47 h1 h2
      rw [List.take_append_drop, glue_pieces, ← he] at e
      exact Or.inr ⟨glue 47 ((pieces 47 path).drop (pieces 47 p).length), by rw [List.append_assoc]; exact e.symm⟩
  · rintro (h | ⟨r, h⟩)
    · subst h
      exact ⟨Nat.le_refl _, by rw [List.take_length, glue_pieces]⟩
    · have e : path = p ++ 47 :: r := by rw [← h]; simp
      rw [e, pieces_join]
      refine ⟨by simp, ?_⟩
      rw [List.take_append_of_le_length (Nat.le_refl _), List.take_length, glue_pieces]

end Go.Proofs.YthcafeoamabkgaaGreatDoor

namespace Go.Proofs.YthcafeoamabkgaaGreatDoor
open Go.RowKit

theorem var_low {P : Program} {w w' : World} {n : String} {cs : Array Value} (hv : w.var? P n = some cs) (h : Below w.heap.size w w') : w'.var? P n = some cs := by
  unfold World.var? at hv ⊢
  obtain ⟨g, hg, hc⟩ := Option.bind_eq_some_iff.1 hv
  rw [hg]
  show (match w'.heap[g]? with | some (Obj.cells cs _ _) => some cs | _ => none) = some cs
  have hlt : g < w.heap.size := by
    apply Classical.byContradiction
    intro hn
    rw [Array.getElem?_eq_none (by omega)] at hc
    cases hc
  rw [h.block g hlt]
  exact hc

theorem Gd.low {w w' : World} (h : Gd w) (hb : Below w.heap.size w w') : Gd w' where
  ml := by
    obtain ⟨m, hm⟩ := h.ml
    exact ⟨m, by rw [hb.cell (lt_of_cell hm)]; exact hm⟩
  tab := var_low h.tab hb

theorem low_trans {a b c : World} (h : Below a.heap.size a b) (k : Below b.heap.size b c) : Below a.heap.size a c := h.trans (k.mono h.size)
theorem low_drewN {B : Nat} {a w : World} (h : Below B a w) (n : Nat) : Below B a (w.drewN n) := ⟨h.os, h.tape, h.output, h.size, h.block⟩
theorem Texts.low {w w' : World} {B : Nat} {ps : List Str} (h : Texts w B ps) (hB : B < w.heap.size) (hb : Below w.heap.size w w') : Texts w' B ps := fun k hk => (hb.cell (p := ⟨B, k, none⟩) hB).trans (h k hk)

theorem count_is {c : UInt8} {l : Str} (hl : l.length < 4294967281) {w : World} (hg : Gd w) : Calls Tryz.prog 82 #[.string (ba l), .string (ba [c])] w fun e w' => e = .returned (.int .i64 (((pieces c l).length - 1 : Nat) : Int)) ∧ w' = w := by
  obtain ⟨m, hm⟩ := hg.ml
  have h := Tryz.strings_Count_any (ba l) (ba [c]) m w (by rw [ba_size]; exact hl) hm (by rw [ba_size]; exact Nat.le_refl _)
  have hn : Lib.countB (ba l) (ba [c]) = (pieces c l).length - 1 := by rw [pieces_length]; rfl
  rw [hn] at h
  exact h

theorem join_is {c : UInt8} {es : List Str} {B n cap : Nat} {w : World} (ht : Texts w B es) (hB : B < w.heap.size) (hn : es.length = n) (hcap : n ≤ cap) (hN : n ≤ 1099511627776) (hs : (glue c es).length ≤ 1099511627776) :
    Calls Tryz.prog 83 #[.slice (some ⟨B, 0, none⟩) n cap, .string (ba [c])] w fun e w' => e = .returned (.string (ba (glue c es))) ∧ Below w.heap.size w w' := by
  have e1 : ((es.map ba).map (·.data.toList)) = es := by rw [List.map_map]; exact List.map_id'' (fun x => rfl) es
  have h := Tryz.strings_Join B 0 cap (es.map ba) (ba [c]) w (fun j x hx => by
    rw [List.getElem?_map, Option.map_eq_some_iff] at hx
    obtain ⟨y, hy, rfl⟩ := hx
    obtain ⟨hj, rfl⟩ := List.getElem?_eq_some_iff.1 hy
    rw [Nat.zero_add]; exact ht j hj) hB (by rw [List.length_map]; omega) (by rw [List.length_map]; omega) (by rw [e1, ba_data, join_glue]; omega)
  rw [e1, ba_data, join_glue, List.length_map, hn] at h
  exact h

theorem texts_take {w : World} {B : Nat} {es : List Str} (h : Texts w B es) (k : Nat) : Texts w B (es.take k) := fun i hi => by
  rw [List.getElem_take]; exact h i (by rw [List.length_take] at hi; omega)

set_option maxHeartbeats 1000000 in
theorem match1_any {w : World} {b B : Nat} {es : List Str} {p : Str} (hg : Gd w) (hc : w.cell? ⟨b, 0, none⟩ = some (.slice (some ⟨B, 0, none⟩) es.length es.length)) (ht : Texts w B es) (hB : B < w.heap.size) (hp : p.length < 4294967281) (_hn : es.length ≤ 1099511627776) (hs : (glue 47 es).length ≤ 1099511627776) :
    Calls Tryz.prog 81 #[.string (ba p), .pointer (some ⟨b, 0, none⟩)] w fun e w' => e = .returned (.bool (matchF es p)) ∧ Below w.heap.size w w' := by
  have HC := hide (count_is (c := 47) hp hg)
  have hpos := pieces_pos 47 p
  obtain ⟨q, hk⟩ : ∃ q, (pieces 47 p).length = q + 1 := ⟨(pieces 47 p).length - 1, by omega⟩
  have hkl : q ≤ p.length + 1 := by
    have h1 := pieces_length 47 p
    have h2 := Lib.count_le p [47]
    omega
  rw [hk, Nat.add_sub_cancel] at HC
  by_cases hle : q + 1 ≤ es.length
  · have HV : Hid (matchF es p = matchR p (glue 47 (es.take (q + 1)))) := by show matchF es p = _; unfold matchF; rw [hk]; simp [hle]
    have htl : (es.take (q + 1)).length = q + 1 := by rw [List.length_take]; omega
    have hgl := glue_take_le 47 es (q + 1)
    have HJ := hide (join_is (c := 47) (cap := es.length) (texts_take ht (q + 1)) hB htl hle (by omega) (by omega))
    have HG := hide (fun w => glob_any (P := p) (S := glue 47 (es.take (q + 1))) (by omega) (by omega) w)
    clear ht hk hg
    obtain ⟨g, hgg⟩ : ∃ g, glue 47 (es.take (q + 1)) = g := ⟨_, rfl⟩
    rw [hgg] at HV HJ HG
    clear hgg hgl htl hpos
    have hle2 : (q : Int) + 1 ≤ (es.length : Int) := by omega
    go_enter Tryz.func81, Tryz.ntmps81
    go_wp2_with (go_at_call 82; fail)
    refine (unhide HC).mono ?_
    rintro e w1 ⟨rfl, hw⟩
    rw [hw]; clear hw w1
    go_wp2_with (go_at_call 83; fail)
    refine (unhide HJ).mono ?_
    rintro e w1 ⟨rfl, b1⟩
    go_wp2_with (go_at_call 39; fail)
    refine (unhide HG _).mono ?_
    rintro e w2 ⟨rfl, n, hw2⟩
    have HB : Hid (Below w.heap.size w w2) := by rw [hw2]; exact low_drewN b1 n
    clear hw2
    go_wp2
    go_ret
    exact ⟨ret_bool (unhide HV).symm, unhide HB⟩
  · have HV : Hid (matchF es p = false) := by show matchF es p = _; unfold matchF; rw [hk]; simp [hle]
    have hle2 : ¬ (q : Int) + 1 ≤ (es.length : Int) := by omega
    have hle3 : (es.length : Int) < (q : Int) + 1 := by omega
    clear ht hk hg hpos
    go_enter Tryz.func81, Tryz.ntmps81
    go_wp2_with (go_at_call 82; fail)
    refine (unhide HC).mono ?_
    rintro e w1 ⟨rfl, hw⟩
    rw [hw]; clear hw w1
    go_wp2
    go_ret
    exact ⟨ret_bool (unhide HV).symm, Below.refl _ _⟩

/-- A list of texts lies at a slice. -/
structure Row (w : World) (a : Option Addr) (ts : List Str) : Prop where
  els : ts = [] ∨ ∃ B O, a = some ⟨B, O, none⟩ ∧ ∀ k (hk : k < ts.length), w.cell? ⟨B, O + k, none⟩ = some (.string (ba ts[k]))

theorem Row.low {w w' : World} {a : Option Addr} {ts : List Str} (h : Row w a ts) (hb : Below w.heap.size w w') : Row w' a ts := by
  rcases h.els with h0 | ⟨B, O, ha, he⟩
  · exact ⟨Or.inl h0⟩
  · exact ⟨Or.inr ⟨B, O, ha, fun k hk => (hb.cell (p := ⟨B, O + k, none⟩) (lt_of_cell (he k hk))).trans (he k hk)⟩⟩

theorem any_take {p : Str → Bool} {ts : List Str} {k : Nat} (h : (ts.take k).any p = false) (hk : k < ts.length) (hp : p ts[k] = false) : (ts.take (k + 1)).any p = false := by
  rw [List.take_add_one, List.any_append, h, List.getElem?_eq_getElem hk]
  simp [hp]
theorem any_yes {p : Str → Bool} {ts : List Str} {k : Nat} (hk : k < ts.length) (hp : p ts[k] = true) : ts.any p = true := List.any_eq_true.2 ⟨_, List.getElem_mem hk, hp⟩

/-- slices.IndexFunc over a list of texts, at a closure that answers as a plain function. -/
theorem indexFunc_any {g : Nat} {b c n : Nat} {p : Str → Bool} {w : World} {a : Option Addr} {ts : List Str} (hen : ∀ args w, (callFunc g args).run Tryz.prog w = .ok (.enter g args) w)
    (hp : ∀ wr x, Below w.heap.size w wr → x ∈ ts → Calls Tryz.prog g #[.string (ba x), .pointer (some ⟨b, 0, none⟩)] wr fun e w' => e = .returned (.bool (p x)) ∧ Below wr.heap.size wr w') (ht : Row w a ts) (hn : ts.length = n) (hN : n ≤ 1099511627776) :
    Calls Tryz.prog 128 #[.slice a n c, .func (.func g) #[] #[.pointer (some ⟨b, 0, none⟩)]] w fun e w' => ∃ z : Int, e = .returned (.int .i64 z) ∧ decide (0 ≤ z) = ts.any p ∧ Below w.heap.size w w' := by
  have HP := hide hp
  have HT := hide ht
  have HN := hide hn
  clear hp ht hn
  go_enter Tryz.func128, Tryz.ntmps128
  go_wp2
  go_loopw [5, 8] (fun _ v8 wr => ∃ k : Nat, k ≤ n ∧ v8 = .int .i64 k ∧ (ts.take k).any p = false ∧ Below w.heap.size w wr) (fun _ v8 _ => n - (intOf v8).toNat)
  case atStart => exact ⟨0, Nat.zero_le _, rfl, by simp, Below.refl _ _⟩
  case round =>
    obtain ⟨k, hk, rfl, hany, hlow⟩ := hrel
    rename World => wr
    have HA := hide hany
    have HL := hide hlow
    clear hany hlow
    by_cases hlt : k < n
    · have hkt : k < ts.length := by rw [unhide HN]; exact hlt
      obtain ⟨B, O, ha, he⟩ : ∃ B O, a = some ⟨B, O, none⟩ ∧ ∀ k (hk : k < ts.length), wr.cell? ⟨B, O + k, none⟩ = some (.string (ba ts[k])) := by
        rcases ((unhide HT).low (unhide HL)).els with h | h
        · rw [h] at hkt; simp at hkt
        · exact h
      subst ha
      have t0 := he k hkt
      obtain ⟨x, hx⟩ : ∃ x, ts[k] = x := ⟨_, rfl⟩
      rw [hx] at t0
      have HC := hide ((unhide HP) wr x (unhide HL) (by rw [← hx]; exact List.getElem_mem _))
      clear he
      cases hpx : p x with
      | true =>
        rw [hpx] at HC
        have HV := hide (any_yes (p := p) hkt (by rw [hx]; exact hpx))
        clear hpx hx
        go_wp2
        refine (unhide HC).mono ?_
        rintro e w1 ⟨rfl, b1⟩
        have HB := hide (low_trans (unhide HL) b1)
        clear b1
        go_wp2
        go_ret
        exact ⟨(k : Int), rfl, by rw [unhide HV]; simp, unhide HB⟩
      | false =>
        rw [hpx] at HC
        have HV := hide (any_take (unhide HA) hkt (by rw [hx]; exact hpx))
        clear hpx hx
        go_wp2
        refine (unhide HC).mono ?_
        rintro e w1 ⟨rfl, b1⟩
        have HB := hide (low_trans (unhide HL) b1)
        clear b1
        go_wp2
        go_roundw
        case rel => exact ⟨k + 1, hlt, by simp, unhide HV, unhide HB⟩
        case measure => simp [intOf]; omega
    · have hkn : ts.take k = ts := List.take_of_length_le (by rw [unhide HN]; omega)
      rw [hkn] at HA
      clear hkn
      go_wp2
      go_ret
      exact ⟨-1, rfl, by rw [unhide HA]; decide, unhide HL⟩

theorem containsFunc_any {g : Nat} {b c n : Nat} {p : Str → Bool} {w : World} {a : Option Addr} {ts : List Str} (hen : ∀ args w, (callFunc g args).run Tryz.prog w = .ok (.enter g args) w)
    (hp : ∀ wr x, Below w.heap.size w wr → x ∈ ts → Calls Tryz.prog g #[.string (ba x), .pointer (some ⟨b, 0, none⟩)] wr fun e w' => e = .returned (.bool (p x)) ∧ Below wr.heap.size wr w') (ht : Row w a ts) (hn : ts.length = n) (hN : n ≤ 1099511627776) :
    Calls Tryz.prog 80 #[.slice a n c, .func (.func g) #[] #[.pointer (some ⟨b, 0, none⟩)]] w fun e w' => e = .returned (.bool (ts.any p)) ∧ Below w.heap.size w w' := by
  have HI := hide (indexFunc_any (c := c) hen hp ht hn hN)
  clear hen hp ht hn
  go_enter Tryz.func80, Tryz.ntmps80
  go_wp2_with (go_at_call 128; fail)
  refine (unhide HI).mono ?_
  rintro e w1 ⟨z, rfl, hz, b1⟩
  have HZ := hide hz
  clear hz
  go_wp2
  go_ret
  exact ⟨ret_bool (by rw [← unhide HZ]), b1⟩

theorem match_any {w : World} {a : Option Addr} {n c : Nat} {ts : List Str} {path : Str} (hg : Gd w) (ht : Row w a ts) (hn : ts.length = n) (hN : n ≤ 1099511627776) (hts : ∀ x ∈ ts, x.length < 4294967281) (hpl : path.length < 4294967281) :
    Calls Tryz.prog 41 #[.slice a n c, .string (ba path)] w fun e w' => e = .returned (.bool (matchL ts path)) ∧ Below w.heap.size w w' := by
  have HS := hide (split_any 47 hpl hg)
  have HG := hide hg
  have HT := hide ht
  have HTS := hide hts
  have hpc : (pieces 47 path).length ≤ path.length + 2 := by
    have h1 := pieces_length 47 path
    have h2 := Lib.count_le path [47]
    omega
  have HGL : Hid ((glue 47 (pieces 47 path)).length ≤ 1099511627776) := by rw [glue_pieces]; show path.length ≤ _; omega
  clear hg ht hts
  go_enter Tryz.func41, Tryz.ntmps41
  go_wp2_with (go_at_call 76; fail)
  refine (unhide HS).mono ?_
  rintro e w1 ⟨B, rfl, htx, ⟨hB1, hB2⟩, b1⟩
  obtain ⟨W, hW⟩ : ∃ W, w1.alloc (.cells #[.slice (some ⟨B, 0, none⟩) (pieces 47 path).length (pieces 47 path).length] 69) = W := ⟨_, rfl⟩
  have al : Below w1.heap.size w1 W := by rw [← hW]; exact (Below.refl _ _).alloc (Nat.le_refl _) _
  have sz : W.heap.size = w1.heap.size + 1 := by rw [← hW]; show (w1.heap.push _).size = _; simp
  have bx : W.heap[w1.heap.size]? = some (.cells #[.slice (some ⟨B, 0, none⟩) (pieces 47 path).length (pieces 47 path).length] 69 (0, 0)) := by rw [← hW]; exact heap_new w1 _
  have hc : W.cell? ⟨w1.heap.size, 0, none⟩ = some (.slice (some ⟨B, 0, none⟩) (pieces 47 path).length (pieces 47 path).length) := Lib.cell_of_heap bx 0
  have hlow : Below w.heap.size w W := b1.low.trans (al.mono b1.low.size)
  have htW : Texts W B (pieces 47 path) := htx.low hB1 al
  have HC : Hid (Calls Tryz.prog 80 #[.slice a n c, .func (.func 81) #[] #[.pointer (some ⟨w1.heap.size, 0, none⟩)]] W fun e w' => e = .returned (.bool (ts.any (matchF (pieces 47 path)))) ∧ Below W.heap.size W w') := by
    refine containsFunc_any (enters_of Tryz.func81 (by kernel_rfl) rfl) ?_ ((unhide HT).low hlow) hn hN
    intro wr x hb hx
    exact match1_any (((unhide HG).low hlow).low hb) ((hb.cell (p := ⟨w1.heap.size, 0, none⟩) (by show w1.heap.size < W.heap.size; omega)).trans hc) (htW.low (by omega) hb) (by have := hb.size; omega) ((unhide HTS) x hx) (by omega) (unhide HGL)
  have HL := hide hlow
  have HW := hide hW
  clear htx b1 hW al bx hlow htW hn
  go_wp2_with (go_at_call 80; fail)
  rw [unhide HW]
  refine (unhide HC).mono ?_
  rintro e w2 ⟨rfl, b2⟩
  have HB := hide (low_trans (unhide HL) b2)
  clear b2
  go_wp2
  go_ret
  exact ⟨rfl, unhide HB⟩

end Go.Proofs.YthcafeoamabkgaaGreatDoor

namespace Go.Proofs.YthcafeoamabkgaaGreatDoor
open Go.RowKit

theorem info9 : (Tryz.prog.info? 9).map (fun i => (i.zero, i.size, i.bytes)) = some (some (.string ByteArray.empty), 1, 16) := by kernel_rfl

def strsV (ps : List Str) : List Value := ps.map fun p => Value.string (ba p)

/-- What stands between two rounds of Cut: the pieces that are done, and from where the next one goes. -/
structure CutIn (c : UInt8) (l : Str) (k f : Nat) (done : List Str) : Prop where
  le : k ≤ l.length → f ≤ k ∧ ((l.drop f).take (k - f)).contains c = false ∧ pieces c l = done ++ pieces c (l.drop f)
  all : k = l.length + 1 → done = pieces c l
  len : done.length ≤ k

theorem cutIn_start (c : UInt8) (l : Str) : CutIn c l 0 0 [] := ⟨fun _ => ⟨Nat.le_refl _, by simp, by simp⟩, fun h => by omega, Nat.le_refl _⟩

theorem sub_of (l : Str) (f k : Nat) : (ba l).extract f k = ba ((l.drop f).take (k - f)) := by
  rw [Lib.extract_eq, ba_data]; rfl

theorem cutIn_skip {c : UInt8} {l : Str} {k f : Nat} {done : List Str} (h : CutIn c l k f done) (hk : k < l.length) (hc : l[k] ≠ c) : CutIn c l (k + 1) f done := by
  obtain ⟨h1, h2, h3⟩ := h.le (by omega)
  refine ⟨fun _ => ⟨by omega, ?_, h3⟩, fun e => by omega, by have := h.len; omega⟩
  have e : (l.drop f).take (k + 1 - f) = (l.drop f).take (k - f) ++ [l[k]] := by
    have e1 : k + 1 - f = (k - f) + 1 := by omega
    have e2 : (l.drop f)[k - f]? = some l[k] := by rw [List.getElem?_drop]; rw [show f + (k - f) = k by omega]; exact List.getElem?_eq_getElem hk
    rw [e1, List.take_add_one, e2]; rfl
  rw [e, contains_append, h2]
  simpa using fun h => hc h.symm

theorem cutIn_hit {c : UInt8} {l : Str} {k f : Nat} {done : List Str} (h : CutIn c l k f done) (hk : k < l.length) (hc : l[k] = c) : CutIn c l (k + 1) (k + 1) (done ++ [(l.drop f).take (k - f)]) := by
  obtain ⟨h1, h2, h3⟩ := h.le (by omega)
  have e : l.drop f = (l.drop f).take (k - f) ++ c :: l.drop (k + 1) := by
    have e2 : (l.drop f).drop (k - f) = c :: l.drop (k + 1) := by
      rw [List.drop_drop, show f + (k - f) = k by omega, List.drop_eq_getElem_cons hk, hc]
    rw [← e2, List.take_append_drop]
  refine ⟨fun _ => ⟨Nat.le_refl _, by simp, ?_⟩, fun e => by omega, by simp; have := h.len; omega⟩
  rw [h3]
  conv => lhs; rw [e]
  rw [pieces_join, pieces_one c _ h2]
  simp

theorem cutIn_end {c : UInt8} {l : Str} {f : Nat} {done : List Str} (h : CutIn c l l.length f done) : CutIn c l (l.length + 1) (l.length + 1) (done ++ [(l.drop f).take (l.length - f)]) := by
  obtain ⟨h1, h2, h3⟩ := h.le (Nat.le_refl _)
  refine ⟨fun h => by omega, fun _ => ?_, by simp; have := h.len; omega⟩
  have e : (l.drop f).take (l.length - f) = l.drop f := List.take_of_length_le (by simp)
  rw [e] at h2 ⊢
  rw [h3, pieces_one c _ h2]

set_option maxHeartbeats 2000000 in
set_option maxRecDepth 100000 in
theorem refCut_row (c : UInt8) {l : Str} (hl : l.length < 4294967281) (w : World) : Calls Tryz.prog 44 #[.string (ba l), .int .u8 (c.toNat : Int)] w fun e w' => ∃ v, e = .returned v ∧ w'.ownsRow w.heap.size 9 1 v (pieces c l).length (strsV (pieces c l)) ∧ Below w.heap.size w w' := by
  obtain ⟨i0, hi, hz0, hz1, hz2⟩ := info_parts info9
  have hsz : (ba l).size = l.length := ba_size l
  go_enter Tryz.func44, Tryz.ntmps44
  go_wp2
  go_loopw [5, 6, 7] (fun v fr i wr => ∃ (k f : Nat) (done : List Str), k ≤ l.length + 1 ∧ fr = .int .i64 f ∧ i = .int .i64 k ∧ CutIn c l k f done ∧ wr.ownsRow w.heap.size 9 1 v done.length (strsV done) ∧ Below w.heap.size w wr) (fun _ _ i _ => l.length + 1 - (intOf i).toNat)
  case atStart => exact ⟨0, 0, [], by omega, rfl, rfl, cutIn_start c l, ⟨rfl, Or.inl ⟨rfl, rfl⟩⟩, Below.refl _ _⟩
  case round =>
    obtain ⟨k, f, done, hk, rfl, rfl, hcut, hown, hb⟩ := hrel
    have hbs := hb.size
    have hdl := hcut.len
    have HC := hide hcut
    have HO := hide hown
    have HB := hide hb
    clear hcut hown hb
    by_cases hle : k ≤ l.length
    · have hfk := ((unhide HC).le hle).1
      have hx := sub_of l f k
      obtain ⟨P, hP⟩ : ∃ P, (l.drop f).take (k - f) = P := ⟨_, rfl⟩
      rw [hP] at hx
      by_cases hlt : k < l.length
      · have hg := ba_get l k hlt
        have hne : ¬ (k : Int) = l.length := by omega
        by_cases hc : l[k] = c
        · have q : ((l[k].toNat : Int) == (c.toNat : Int)) = true := by rw [hc]; simp
          have HN := hide (cutIn_hit (unhide HC) hlt hc)
          rw [hP] at HN
          clear hc HC hP
          go_wp2_with (at_builtin; refine wpList_append_own _ rfl _ _ 69 rfl w.heap.size 9 i0 (.string ByteArray.empty) 1 16 Tryz.underlying69 hi hz0 hz1 hz2 rfl (by decide) _ _ _ rfl ((unhide HO).alloc _) ⟨wr.heap.size, 0, none⟩ 1 1 [.string (ba P)] rfl rfl ?cells ?kind ?room ?len ?base ?_)
          case cells =>
            intro j u hj
            match j, hj with
            | 0, hj => simp at hj; subst hj; simp [Addr.add]
          case kind => intro u hu; simp at hu; subst hu; rfl
          case room => unfold maxLen; omega
          case len => omega
          case base => simp; omega
          intro v' w2 hown' hgrow _
          have bg := hide (((unhide HB).alloc (by omega) _).grown hgrow (by simp; omega) (fun j hj => ((unhide HO).lt j hj).1))
          have HO2 := hide hown'
          clear hown' hgrow HO HB
          go_wp2
          go_roundw
          case rel => exact ⟨k + 1, k + 1, done ++ [P], by omega, by simp, by simp, unhide HN, by simpa [strsV] using unhide HO2, unhide bg⟩
          case measure => simp [intOf]; omega
        · have q : ((l[k].toNat : Int) == (c.toNat : Int)) = false := by
            simp only [beq_eq_false_iff_ne]
            intro e
            exact hc (UInt8.toNat_inj.1 (by omega))
          have HN := hide (cutIn_skip (unhide HC) hlt hc)
          clear hc HC hP hx
          go_wp2
          go_roundw
          case rel => exact ⟨k + 1, f, done, by omega, rfl, by simp, unhide HN, unhide HO, unhide HB⟩
          case measure => simp [intOf]; omega
      · have hke : k = l.length := by omega
        subst hke
        have HN := hide (cutIn_end (unhide HC))
        rw [hP] at HN
        clear HC hP
        go_wp2_with (at_builtin; refine wpList_append_own _ rfl _ _ 69 rfl w.heap.size 9 i0 (.string ByteArray.empty) 1 16 Tryz.underlying69 hi hz0 hz1 hz2 rfl (by decide) _ _ _ rfl ((unhide HO).alloc _) ⟨wr.heap.size, 0, none⟩ 1 1 [.string (ba P)] rfl rfl ?cells ?kind ?room ?len ?base ?_)
        case cells =>
          intro j u hj
          match j, hj with
          | 0, hj => simp at hj; subst hj; simp [Addr.add]
        case kind => intro u hu; simp at hu; subst hu; rfl
        case room => unfold maxLen; omega
        case len => omega
        case base => simp; omega
        intro v' w2 hown' hgrow _
        have bg := hide (((unhide HB).alloc (by omega) _).grown hgrow (by simp; omega) (fun j hj => ((unhide HO).lt j hj).1))
        have HO2 := hide hown'
        clear hown' hgrow HO HB
        go_wp2
        go_roundw
        case rel => exact ⟨l.length + 1, l.length + 1, done ++ [P], Nat.le_refl _, by simp, by simp, unhide HN, by simpa [strsV] using unhide HO2, unhide bg⟩
        case measure => simp [intOf]
    · have hke : k = l.length + 1 := by omega
      have HD : Hid (done = pieces c l) := (unhide HC).all hke
      subst hke
      have hq : ¬ (l.length : Int) + 1 ≤ l.length := by omega
      go_wp2
      go_ret
      exact ⟨_, rfl, by rw [← unhide HD]; exact unhide HO, unhide HB⟩

/-- The pieces, by Cut. -/
theorem refCut_any (c : UInt8) {l : Str} (hl : l.length < 4294967281) (w : World) : Calls Tryz.prog 44 #[.string (ba l), .int .u8 (c.toNat : Int)] w fun e w' =>
    ∃ B cp, e = .returned (.slice (some ⟨B, 0, none⟩) (pieces c l).length cp) ∧ Texts w' B (pieces c l) ∧ (B < w'.heap.size ∧ w.heap.size ≤ B) ∧ Below w.heap.size w w' := by
  refine (refCut_row c hl w).mono ?_
  rintro e w' ⟨v, rfl, hown, hb⟩
  rcases hown.2 with ⟨_, h0⟩ | ⟨g, cap, cur, rfl, hg, hblk, _, _, _, ht⟩
  · exact absurd (List.length_eq_zero_iff.1 h0) (pieces_ne c l)
  · refine ⟨g, cap, rfl, ?_, ⟨(Array.getElem?_eq_some_iff.1 hblk).1, hg⟩, hb⟩
    intro k hk
    rw [Lib.cell_of_heap hblk]
    have h1 : cur.toList[k]? = (strsV (pieces c l))[k]? := by rw [← ht, List.getElem?_take_of_lt (by omega)]
    have h2 : cur[k]? = cur.toList[k]? := by simp
    rw [h2, h1]
    simp [strsV, hk]

/-! ### identifier -/

theorem cell_heap {w w' : World} (h : w'.heap = w.heap) {p : Addr} : w'.cell? p = w.cell? p := by
  unfold World.cell?
  rw [h]

set_option maxHeartbeats 1000000 in
theorem sameTexts_same {x : List Str} {A ao ac B bo bc : Nat} {w : World} (hn : x.length ≤ 1099511627776) (ha : ∀ k (hk : k < x.length), w.cell? ⟨A, ao + k, none⟩ = some (.string (ba x[k]))) (hb : ∀ k (hk : k < x.length), w.cell? ⟨B, bo + k, none⟩ = some (.string (ba x[k]))) :
    Calls Tryz.prog 38 #[.slice (some ⟨A, ao, none⟩) x.length ac, .slice (some ⟨B, bo, none⟩) x.length bc] w fun e w' => e = .returned (.bool true) ∧ Below w.heap.size w w' := by
  have HA := hide ha
  have HB := hide hb
  obtain ⟨n, hnn⟩ : ∃ n, x.length = n := ⟨_, rfl⟩
  rw [hnn] at hn ⊢
  have HN := hide hnn
  clear ha hb hnn
  go_enter Tryz.func38, Tryz.ntmps38
  go_wp2
  go_loopw [5] (fun v wr => ∃ k : Nat, k ≤ n ∧ v = .int .i64 k ∧ wr.heap = w.heap ∧ Below w.heap.size w wr) (fun v _ => n - (intOf v).toNat)
  case atStart => exact ⟨0, Nat.zero_le _, rfl, rfl, Below.refl _ _⟩
  case round =>
    obtain ⟨k, hk, rfl, hw, hbw⟩ := hrel
    have HW := hide hw
    have HBW := hide hbw
    by_cases hlt : k < n
    · have hkx : k < x.length := by rw [unhide HN]; exact hlt
      obtain ⟨t, ht⟩ : ∃ t, x[k] = t := ⟨_, rfl⟩
      have ca : wr.cell? ⟨A, ao + k, none⟩ = some (.string (ba t)) := by rw [cell_heap hw, ← ht]; exact (unhide HA) k hkx
      have cb : wr.cell? ⟨B, bo + k, none⟩ = some (.string (ba t)) := by rw [cell_heap hw, ← ht]; exact (unhide HB) k hkx
      have hl := ba_list t
      clear hw ht hbw
      go_wp2
      go_quiet (fail)
      go_wp2
      go_roundw
      case rel => exact ⟨k + 1, hlt, by simp, unhide HW, low_drewN (unhide HBW) _⟩
      case measure => simp [intOf]; omega
    · clear hw hbw
      go_wp2
      go_ret
      exact ⟨rfl, unhide HBW⟩
theorem sameTexts_none {a b : Option Addr} {ac bc : Nat} (w : World) : Calls Tryz.prog 38 #[.slice a 0 ac, .slice b 0 bc] w fun e w' => e = .returned (.bool true) ∧ w' = w := by
  go_enter Tryz.func38, Tryz.ntmps38
  go_wp2
  refine wp_loop_rounds 1 ?_
  rw [rounds_succ]
  go_wp2
  go_ret
  exact ⟨rfl, rfl⟩

end Go.Proofs.YthcafeoamabkgaaGreatDoor
