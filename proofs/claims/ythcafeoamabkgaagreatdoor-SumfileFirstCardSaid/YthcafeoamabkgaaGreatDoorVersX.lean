/-
  The contracts of parse, ValidVersion, Parts.
-/
import Derived.Test.YthcafeoamabkgaaGreatDoorBase
namespace Go.Proofs.YthcafeoamabkgaaGreatDoor
open Go.RowKit

/-- What every call leans on: the library's two variables. -/
structure Gd (w : World) : Prop where
  ml : ∃ m, w.cell? ⟨0, 0, none⟩ = some (.int .i64 m)
  tab : Lib.TabIs Tryz.prog w "internal/strconv.uint64pow10" .u64 Lib.pow10Tab

theorem lt_of_cell {w : World} {a : Addr} {v : Value} (h : w.cell? a = some v) : a.block < w.heap.size := by
  unfold World.cell? at h
  split at h
  · rename_i e; exact (Array.getElem?_eq_some_iff.1 e).1
  · cases h

theorem var_below {P : Program} {w w' : World} {n : String} {cs : Array Value} (hv : w.var? P n = some cs) (h : Bel w.heap.size w w') : w'.var? P n = some cs := by
  unfold World.var? at hv ⊢
  obtain ⟨g, hg, hc⟩ := Option.bind_eq_some_iff.1 hv
  rw [hg]
  show (match w'.heap[g]? with | some (Obj.cells cs _ _) => some cs | _ => none) = some cs
  have hlt : g < w.heap.size := by
    apply Classical.byContradiction
    intro hn
    rw [Array.getElem?_eq_none (by omega)] at hc
    cases hc
  rw [h.block g hlt]
  exact hc

theorem Gd.below {w w' : World} (h : Gd w) (hb : Bel w.heap.size w w') : Gd w' where
  ml := by
    obtain ⟨m, hm⟩ := h.ml
    exact ⟨m, by rw [hb.cell (lt_of_cell hm)]; exact hm⟩
  tab := var_below h.tab hb

/-- The call returns that, and what was there stands. -/
def Gives (n : Nat) (args : Array Value) (w : World) (v : Value) : Prop := Calls Tryz.prog n args w fun e w' => e = .returned v ∧ Bel w.heap.size w w'

theorem below_trans {a b c : World} (h : Bel a.heap.size a b) (k : Bel b.heap.size b c) : Bel a.heap.size a c := h.trans (k.mono h.size)

theorem below_drewN {B : Nat} {a w : World} (h : Bel B a w) (n : Nat) : Bel B a (w.drewN n) := ⟨h.os, h.tape, h.output, h.size, h.block, Nat.le_trans h.drawn (by simp [World.drewN])⟩

theorem pairv (a b : Value) {c d : Value} (h1 : a = c) (h2 : b = d) : Ending.returned (.tuple #[a, b]) = .returned (.tuple #[c, d]) := by rw [h1, h2]

theorem bytes_below (w : World) (e : TypeId) (s : ByteArray) : Bel w.heap.size w (Lib.bytesWorld w e s) :=
  ⟨rfl, rfl, rfl, by rw [Lib.bytesWorld_size]; omega, Lib.bytesWorld_at_old w e s, Nat.le_succ _⟩

theorem digits_is {l : Str} {b : Bool} (h : digitsB l = b) (hl : l.length ≤ 4294967281) (w : World) : Calls Tryz.prog 216 #[.string (ba l)] w fun e w' => e = .returned (.bool b) ∧ w' = w := by rw [← h]; exact digits_any l hl w
theorem zero_is {l : Str} {b : Bool} (h : zeroAheadB l = b) (hl : l.length ≤ 4294967281) (w : World) : Calls Tryz.prog 251 #[.string (ba l)] w fun e w' => e = .returned (.bool b) ∧ w' = w := by rw [← h]; exact zeroAhead_any l hl w

theorem number_ok {l : Str} (h : numOk l = true) (w : World) : Gives 215 #[.string (ba l)] w (.tuple #[.int .i64 (numVal l : Int), .bool true]) := by
  have hsz : (ba l).size = l.length := ba_size l
  unfold Gives
  simp only [numOk, Bool.and_eq_true, Bool.not_eq_true', decide_eq_true_eq] at h
  obtain ⟨⟨h1, h2⟩, h3⟩ := h
  have H3 := hide h3
  have H2 := hide h2
  have hq : ¬ (9 : Int) < l.length := by omega
  clear h2 h3
  go_enter Tryz.func215, Tryz.ntmps215
  go_wp2_with (first | (go_at_call 216; refine (digits_is (unhide H2) (by omega) _).mono ?_; rintro e w1 ⟨rfl, rfl⟩) | (go_at_call 251; refine (zero_is (unhide H3) (by omega) _).mono ?_; rintro e w1 ⟨rfl, rfl⟩) | (go_at_call 252; refine (Tryz.strconv_Atoi (ba l) (numVal l) (by omega) (atoi_digits (unhide H2)) _).mono ?_))
  rintro e w2 ⟨rfl, t, hw⟩
  have hb := bytes_below w1 5 t
  rw [← hw] at hb
  clear hw
  go_wp2
  go_quiet (fail)
  go_wp2
  go_ret2
  exact ⟨rfl, below_drewN hb _⟩

theorem number_no {l : Str} (hl : l.length ≤ 4294967281) (h : numOk l = false) (w : World) : Gives 215 #[.string (ba l)] w (.tuple #[.int .i64 0, .bool false]) := by
  have hsz : (ba l).size = l.length := ba_size l
  unfold Gives
  by_cases h1 : l.length ≤ 9
  · cases h2 : digitsB l with
    | false =>
      have H2 := hide h2
      clear h2 h
      go_enter Tryz.func215, Tryz.ntmps215
      go_wp2_with (first | (go_at_call 216; refine (digits_is (unhide H2) (by omega) _).mono ?_; rintro e w1 ⟨rfl, rfl⟩))
      go_ret2
      exact ⟨rfl, Bel.refl _ _⟩
    | true =>
      have h3 : zeroAheadB l = true := by simpa [numOk, h1, h2] using h
      have H3 := hide h3
      have H2 := hide h2
      clear h2 h3 h
      go_enter Tryz.func215, Tryz.ntmps215
      go_wp2_with (first | (go_at_call 216; refine (digits_is (unhide H2) (by omega) _).mono ?_; rintro e w1 ⟨rfl, rfl⟩) | (go_at_call 251; refine (zero_is (unhide H3) (by omega) _).mono ?_; rintro e w1 ⟨rfl, rfl⟩))
      go_ret2
      exact ⟨rfl, Bel.refl _ _⟩
  · have hq : (9 : Int) < l.length := by omega
    clear h
    go_enter Tryz.func215, Tryz.ntmps215
    go_wp2
    go_ret2
    exact ⟨rfl, Bel.refl _ _⟩

theorem validId_any {l : Str} (hl : l.length ≤ 4294967281) (w : World) : Calls Tryz.prog 253 #[.string (ba l)] w fun e w' => e = .returned (.bool (validIdB l)) ∧ w' = w := by
  have hli : (ba l).toList = l := ba_list l
  cases hd : digitsB l with
  | true =>
    have HV : Hid (validIdB l = !zeroAheadB l) := by show validIdB l = _; unfold validIdB; rw [hd]; rfl
    have HD := hide hd
    clear hd
    go_enter Tryz.func253, Tryz.ntmps253
    go_wp2_with (first | (go_at_call 216; refine (digits_is (unhide HD) (by omega) _).mono ?_; rintro e w1 ⟨rfl, rfl⟩) | (go_at_call 251; refine (zeroAhead_any l (by omega) _).mono ?_; rintro e w1 ⟨rfl, rfl⟩))
    go_ret
    exact ⟨ret_bool (unhide HV).symm, rfl⟩
  | false =>
    have HV : Hid (validIdB l = (!l.isEmpty && l.all identB)) := by show validIdB l = _; unfold validIdB; rw [hd]; rfl
    have HD := hide hd
    clear hd
    cases he : l.isEmpty with
    | true =>
      have he : l = [] := by simpa using he
      subst he
      go_enter Tryz.func253, Tryz.ntmps253
      go_wp2_with (first | (go_at_call 216; refine (digits_is (unhide HD) (by omega) _).mono ?_; rintro e w1 ⟨rfl, rfl⟩))
      go_ret
      exact ⟨ret_bool (by rw [unhide HV]; rfl), rfl⟩
    | false =>
      have he2 : ¬ (ba l).toList = [] := by rw [hli]; simpa using he
      clear hli
      go_enter Tryz.func253, Tryz.ntmps253
      go_wp2_with (first | (go_at_call 216; refine (digits_is (unhide HD) (by omega) _).mono ?_; rintro e w1 ⟨rfl, rfl⟩) | (go_at_call 213; refine (every_any ident_asks (enters_of Tryz.func265 (by kernel_rfl) rfl) l (by omega) _).mono ?_; rintro e w1 ⟨rfl, rfl⟩))
      go_ret
      exact ⟨ret_bool (by rw [unhide HV, he]; simp [he2]), rfl⟩

/-- A row of texts in a block. -/
def Texts (w : World) (B : Nat) (ps : List Str) : Prop := ∀ k (h : k < ps.length), w.cell? ⟨B, k, none⟩ = some (.string (ba ps[k]))

theorem Texts.below {w w' : World} {B : Nat} {ps : List Str} (h : Texts w B ps) (hB : B < w.heap.size) (hb : Bel w.heap.size w w') : Texts w' B ps := fun k hk => (hb.cell (p := ⟨B, k, none⟩) hB).trans (h k hk)

theorem heap_new (w : World) (o : Obj) : (w.alloc o).heap[w.heap.size]? = some o := by
  show (w.heap.push o)[w.heap.size]? = some o
  simp

theorem split_any (c : UInt8) {l : Str} (hl : l.length < 4294967281) {w : World} (hg : Gd w) : Calls Tryz.prog 76 #[.string (ba l), .string (ba [c])] w fun e w' =>
    ∃ B, e = .returned (.slice (some ⟨B, 0, none⟩) (pieces c l).length (pieces c l).length) ∧ Texts w' B (pieces c l) ∧ (B < w'.heap.size ∧ w.heap.size ≤ B) ∧ Bel w.heap.size w w' := by
  obtain ⟨m, hm⟩ := hg.ml
  refine (Tryz.strings_Split (ba l) (ba [c]) m w (by rw [ba_size]; exact hl) hm (by rw [ba_size]; exact Nat.le_refl _)).mono ?_
  rintro e w' ⟨rfl, rfl⟩
  have hn : Lib.countB (ba l) (ba [c]) + 1 = (pieces c l).length := by rw [pieces_length]; rfl
  refine ⟨w.heap.size, by rw [hn], ?_, ⟨by simp, Nat.le_refl _⟩, (Bel.refl _ _).alloc (Nat.le_refl _) _⟩
  intro k hk
  rw [splitB_pieces, ba_data]
  rw [Lib.cell_of_heap (w := w.alloc _) (heap_new w _)]
  simp [hk]

theorem all_take {p : Str → Bool} {ps : List Str} {k : Nat} (h : (ps.take k).all p = true) (hk : k < ps.length) (hp : p ps[k] = true) : (ps.take (k + 1)).all p = true := by
  rw [List.take_add_one, List.all_append, h, List.getElem?_eq_getElem hk]
  simp [hp]
theorem all_no {p : Str → Bool} {ps : List Str} {k : Nat} (hk : k < ps.length) (hp : p ps[k] = false) : ps.all p = false := by
  rw [List.all_eq_false]
  exact ⟨ps[k], List.getElem_mem hk, by rw [hp]; decide⟩

theorem validPre_any {l : Str} (hl : l.length < 4294967281) {w : World} (hg : Gd w) : Gives 218 #[.string (ba l)] w (.bool (validPreB l)) := by
  unfold Gives
  rw [show validPreB l = (pieces 46 l).all validIdB from rfl]
  have HS : Hid (∀ p ∈ pieces 46 l, p.length ≤ 4294967281) := fun p hp => by have := pieces_small 46 l p hp; omega
  have HN : Hid ((pieces 46 l).length ≤ 4294967282) := by
    show (pieces 46 l).length ≤ 4294967282
    rw [pieces_length]; have := Lib.count_one 46 l; have := List.count_le_length (a := (46 : UInt8)) (l := l); omega
  have e46 : (⟨#[46]⟩ : ByteArray) = ba [46] := rfl
  go_enter Tryz.func218, Tryz.ntmps218
  go_wp2_with (go_at_call 76; fail)
  refine (split_any 46 hl hg).mono ?_
  rintro e w1 ⟨B, rfl, ht, hB, hb⟩
  have hn := unhide HN
  have HT := hide ht
  clear ht
  go_wp2
  go_loop [8] (fun i => ∃ k : Nat, k ≤ (pieces 46 l).length ∧ i = .int .i64 k ∧ ((pieces 46 l).take k).all validIdB = true) (fun i => (pieces 46 l).length - (intOf i).toNat)
  case atStart => exact ⟨0, Nat.zero_le _, rfl, rfl⟩
  case round =>
    obtain ⟨k, hk, rfl, hall⟩ := hrel
    have HA := hide hall
    clear hall
    by_cases hlt : k < (pieces 46 l).length
    · have hc := (unhide HT) k hlt
      go_wp2_with (go_at_call 253; fail)
      refine (validId_any ((unhide HS) _ (List.getElem_mem hlt)) _).mono ?_
      rintro e w2 ⟨rfl, rfl⟩
      cases hv : validIdB (pieces 46 l)[k] with
      | false =>
        have HF := hide (all_no hlt hv)
        go_wp2
        go_ret
        exact ⟨ret_bool (unhide HF).symm, hb⟩
      | true =>
        have HF := hide (all_take (unhide HA) hlt hv)
        clear HA
        go_wp2
        go_round
        case rel => exact ⟨k + 1, hlt, by simp, unhide HF⟩
        case measure => simp [intOf]; omega
    · have hke : k = (pieces 46 l).length := by omega
      subst hke
      have HF : Hid ((pieces 46 l).all validIdB = true) := by
        have := unhide HA
        rw [List.take_length] at this
        exact this
      go_wp2
      go_ret
      exact ⟨ret_bool (unhide HF).symm, hb⟩

end Go.Proofs.YthcafeoamabkgaaGreatDoor

namespace Go.Proofs.YthcafeoamabkgaaGreatDoor
open Go.RowKit

/-- A block that is not frozen. -/
def Blk (w : World) (b : Nat) (cs : Array Value) (t : TypeId) : Prop := w.heap[b]? = some (.cells cs t (0, 0))
theorem Blk.cell {w : World} {b : Nat} {cs : Array Value} {t : TypeId} (h : Blk w b cs t) (i : Nat) : w.cell? ⟨b, i, none⟩ = cs[i]? := Lib.cell_of_heap h i
theorem Blk.free {w : World} {b : Nat} {cs : Array Value} {t : TypeId} (h : Blk w b cs t) (i : Nat) : w.frozen? ⟨b, i, none⟩ = false := Lib.frozen_of_heap h i
theorem Blk.below {w w' : World} {b : Nat} {cs : Array Value} {t : TypeId} (h : Blk w b cs t) (hb : Bel w.heap.size w w') : Blk w' b cs t := by
  unfold Blk at h ⊢
  rw [hb.block b (by apply Classical.byContradiction; intro hn; rw [Array.getElem?_eq_none (by omega)] at h; cases h)]
  exact h
theorem Blk.lt {w : World} {b : Nat} {cs : Array Value} {t : TypeId} (h : Blk w b cs t) : b < w.heap.size := by
  unfold Blk at h
  apply Classical.byContradiction; intro hn; rw [Array.getElem?_eq_none (by omega)] at h; cases h
theorem Blk.new (w : World) (cs : Array Value) (t : TypeId) : Blk (w.alloc (.cells cs t)) w.heap.size cs t := heap_new w _
theorem Blk.alloc {w : World} {b : Nat} {cs : Array Value} {t : TypeId} (h : Blk w b cs t) (o : Obj) : Blk (w.alloc o) b cs t := h.below ((Bel.refl _ _).alloc (Nat.le_refl _) o)
theorem Blk.drewN {w : World} {b : Nat} {cs : Array Value} {t : TypeId} (h : Blk w b cs t) (n : Nat) : Blk (w.drewN n) b cs t := h

def zero3 : Array Value := #[.int .i64 0, .int .i64 0, .int .i64 0]

theorem parseNumbers_len {l : Str} (hl : l.length < 4294967281) (h3 : (pieces 46 l).length ≠ 3) {w : World} (hg : Gd w) : Gives 217 #[.string (ba l)] w (.tuple #[.agg #[.int .i64 0, .int .i64 0, .int .i64 0], .bool false]) := by
  unfold Gives
  have hq : ((pieces 46 l).length : Int) ≠ 3 := by omega
  have e46 : (⟨#[46]⟩ : ByteArray) = ba [46] := rfl
  have b0 : Bel w.heap.size w ((w.alloc (.cells #[.int .i64 0, .int .i64 0, .int .i64 0] 203)).alloc (.cells #[.int .i64 0, .int .i64 0, .int .i64 0] 203)) := ((Bel.refl _ _).alloc (Nat.le_refl _) _).alloc (by simp) _
  go_enter Tryz.func217, Tryz.ntmps217
  go_wp2_with (go_at_call 76; fail)
  refine (split_any 46 hl (hg.below b0)).mono ?_
  rintro e w1 ⟨B, rfl, ht, hB, hb⟩
  have k1 : Blk w1 w.heap.size #[.int .i64 0, .int .i64 0, .int .i64 0] 203 := ((Blk.new w _ 203).alloc _).below hb
  have c0 := k1.cell 0
  have c1 := k1.cell 1
  have c2 := k1.cell 2
  have f0 := k1.free 0
  have f1 := k1.free 1
  have f2 := k1.free 2
  have hb1 : Bel w.heap.size w w1 := b0.trans (hb.mono b0.size)
  simp at c0 c1 c2
  clear ht hb b0
  go_wp2
  exact bodyPost_ret (v := .tuple #[.agg #[.int .i64 0, .int .i64 0, .int .i64 0], .bool false]) (by simp [results, Tryz.results217, go_sem, c0, c1, c2]) rfl ⟨rfl, ((hb1.setCell (Nat.le_refl _) _).setCell (Nat.le_refl _) _).setCell (Nat.le_refl _) _⟩

theorem heap_setCell_at {w : World} {F i : Nat} {cs : Array Value} {e : TypeId} {fr : Nat × Nat} (h : w.heap[F]? = some (.cells cs e fr)) (v : Value) :
    (w.setCell ⟨F, i, none⟩ v).heap[F]? = some (.cells (cs.setIfInBounds i v) e fr) := by
  simp only [World.setCell]
  rw [Array.getElem?_modify]
  simp [h]
theorem Blk.set {w : World} {b : Nat} {cs : Array Value} {t : TypeId} (h : Blk w b cs t) (i : Nat) (v : Value) : Blk (w.setCell ⟨b, i, none⟩ v) b (cs.setIfInBounds i v) t := heap_setCell_at h v
theorem Blk.other {w : World} {b : Nat} {cs : Array Value} {t : TypeId} (h : Blk w b cs t) {a : Addr} (hne : b ≠ a.block) (v : Value) : Blk (w.setCell a v) b cs t := (Below.heap_setCell _ _ _ _ hne).trans h

/-- The numbers read so far. -/
def numsA (ps : List Str) (k : Nat) : Array Value := #[.int .i64 (if 0 < k then (numVal (ps.getD 0 []) : Int) else 0), .int .i64 (if 1 < k then (numVal (ps.getD 1 []) : Int) else 0), .int .i64 (if 2 < k then (numVal (ps.getD 2 []) : Int) else 0)]
theorem numsA_set (ps : List Str) (k : Nat) (hk : k < 3) : (numsA ps k).setIfInBounds k (.int .i64 (numVal (ps.getD k []) : Int)) = numsA ps (k + 1) := by
  match k, hk with
  | 0, _ => rfl
  | 1, _ => rfl
  | 2, _ => rfl
theorem numsA_get (ps : List Str) (k j : Nat) (hj : j < 3) : ∃ n, (numsA ps k)[j]? = some (.int .i64 n) := by
  match j, hj with
  | 0, _ => exact ⟨_, rfl⟩
  | 1, _ => exact ⟨_, rfl⟩
  | 2, _ => exact ⟨_, rfl⟩

/-- What parseNumbers answers of three pieces. -/
def numsV (ps : List Str) : Value := if ps.all numOk then .tuple #[.agg (numsA ps 3), .bool true] else .tuple #[.agg #[.int .i64 0, .int .i64 0, .int .i64 0], .bool false]
theorem numsV_no {ps : List Str} (h : ps.all numOk = false) : numsV ps = .tuple #[.agg #[.int .i64 0, .int .i64 0, .int .i64 0], .bool false] := by unfold numsV; rw [h]; rfl
theorem numsV_yes {ps : List Str} (h : ps.all numOk = true) : numsV ps = .tuple #[.agg (numsA ps 3), .bool true] := by unfold numsV; rw [h]; rfl
theorem retv {a b : Value} (h : a = b) : Ending.returned a = .returned b := by rw [h]

set_option maxHeartbeats 1000000 in
theorem parseNumbers_three {l : Str} (hl : l.length < 4294967281) (h3 : (pieces 46 l).length = 3) {w : World} (hg : Gd w) : Gives 217 #[.string (ba l)] w (numsV (pieces 46 l)) := by
  unfold Gives
  have hq : ((pieces 46 l).length : Int) = 3 := by omega
  have e46 : (⟨#[46]⟩ : ByteArray) = ba [46] := rfl
  have b0 : Bel w.heap.size w ((w.alloc (.cells #[.int .i64 0, .int .i64 0, .int .i64 0] 203)).alloc (.cells #[.int .i64 0, .int .i64 0, .int .i64 0] 203)) := ((Bel.refl _ _).alloc (Nat.le_refl _) _).alloc (by simp) _
  have HS : Hid (∀ p ∈ pieces 46 l, p.length ≤ 4294967281) := fun p hp => by have := pieces_small 46 l p hp; omega
  go_enter Tryz.func217, Tryz.ntmps217
  go_wp2_with (go_at_call 76; fail)
  refine (split_any 46 hl (hg.below b0)).mono ?_
  rintro e w1 ⟨B, rfl, ht, hB, hb⟩
  have k1 : Blk w1 w.heap.size #[.int .i64 0, .int .i64 0, .int .i64 0] 203 := ((Blk.new w _ 203).alloc _).below hb
  have k2 : Blk w1 (w.heap.size + 1) (numsA (pieces 46 l) 0) 203 := by
    have := (Blk.new (w.alloc (.cells #[.int .i64 0, .int .i64 0, .int .i64 0] 203)) #[.int .i64 0, .int .i64 0, .int .i64 0] 203).below hb
    have e : (w.alloc (.cells #[.int .i64 0, .int .i64 0, .int .i64 0] 203)).heap.size = w.heap.size + 1 := by simp
    rw [e] at this
    exact this
  have hb1 : Bel w.heap.size w w1 := b0.trans (hb.mono b0.size)
  have HB : Hid (B ≠ w.heap.size + 1) := by
    have h2 := hB.2
    simp at h2
    show B ≠ _
    omega
  have hB := hB.1
  have K1 := hide k1
  have K2 := hide k2
  have HT := hide ht
  have H3 := hide h3
  clear ht hb b0 k1 k2 h3
  go_wp2
  go_loopw [18] (fun i wr => ∃ k : Nat, k ≤ 3 ∧ i = .int .i64 k ∧ ((pieces 46 l).take k).all numOk = true ∧ Texts wr B (pieces 46 l) ∧ B < wr.heap.size ∧ Blk wr w.heap.size #[.int .i64 0, .int .i64 0, .int .i64 0] 203 ∧ Blk wr (w.heap.size + 1) (numsA (pieces 46 l) k) 203 ∧ Bel w.heap.size w wr) (fun i _ => 3 - (intOf i).toNat)
  case atStart => exact ⟨0, by omega, rfl, rfl, unhide HT, hB, unhide K1, unhide K2, hb1⟩
  case round =>
    obtain ⟨k, hk, rfl, hall, ht, hBr, r1, r2, rb⟩ := hrel
    have HA := hide hall
    have HT := hide ht
    have R1 := hide r1
    have R2 := hide r2
    have RB := hide rb
    clear hall ht r1 r2 rb
    by_cases hlt : k < 3
    · have hkl : k < (pieces 46 l).length := by rw [unhide H3]; exact hlt
      have hc := (unhide HT) k hkl
      go_wp2_with (go_at_call 215; fail)
      cases hv : numOk (pieces 46 l)[k] with
      | false =>
        have HF := hide (numsV_no (all_no hkl hv))
        refine (number_no ((unhide HS) _ (List.getElem_mem hkl)) hv _).mono ?_
        rintro e w2 ⟨rfl, b2⟩
        have k1 := (unhide R1).below b2
        have c0 := k1.cell 0
        have c1 := k1.cell 1
        have c2 := k1.cell 2
        have f0 := k1.free 0
        have f1 := k1.free 1
        have f2 := k1.free 2
        have hb2 := (unhide RB).trans (b2.mono (unhide RB).size)
        have HB2 := hide hb2
        simp at c0 c1 c2
        clear hb2 b2 hv hc
        go_wp2
        exact bodyPost_ret (v := .tuple #[.agg #[.int .i64 0, .int .i64 0, .int .i64 0], .bool false]) (by simp [results, Tryz.results217, go_sem, c0, c1, c2]) rfl ⟨retv (unhide HF).symm, (((unhide HB2).setCell (Nat.le_refl _) _).setCell (Nat.le_refl _) _).setCell (Nat.le_refl _) _⟩
      | true =>
        have HF := hide (all_take (unhide HA) hkl hv)
        refine (number_ok hv _).mono ?_
        rintro e w2 ⟨rfl, b2⟩
        have hB2 : B < w2.heap.size := Nat.lt_of_lt_of_le hBr b2.size
        have T2 := hide ((unhide HT).below hBr b2)
        have K1 := hide ((unhide R1).below b2)
        have K2 := hide ((unhide R2).below b2)
        have BB := hide ((unhide RB).trans (b2.mono (unhide RB).size))
        obtain ⟨n0, hn0⟩ := numsA_get (pieces 46 l) k k hlt
        have cN : w2.cell? ⟨w.heap.size + 1, k, none⟩ = some (.int .i64 n0) := by rw [(unhide K2).cell k]; exact hn0
        have fN := (unhide K2).free k
        have HD : Hid ((pieces 46 l).getD k [] = (pieces 46 l)[k]) := by show (pieces 46 l).getD k [] = _; simp [List.getD, hkl]
        clear b2 hc hv HA HT R1 R2 RB hn0
        go_wp2
        go_roundw
        case rel =>
          refine ⟨k + 1, hlt, by simp, unhide HF, ?_, by simpa using hB2, (unhide K1).other (by simp) _, ?_, (unhide BB).setCell (by simp) _⟩
          · intro j hj
            have := (unhide T2) j hj
            rw [← this]
            exact World.cell?_of_block (Below.heap_setCell _ _ _ _ (unhide HB))
          · have := (unhide K2).set k (.int .i64 (numVal ((pieces 46 l).getD k []) : Int))
            rw [numsA_set _ _ hlt, unhide HD] at this
            exact this
        case measure => simp [intOf]; omega
    · have hke : k = 3 := by omega
      subst hke
      have HF : Hid (numsV (pieces 46 l) = .tuple #[.agg (numsA (pieces 46 l) 3), .bool true]) := by
        have := unhide HA
        rw [← unhide H3, List.take_length] at this
        exact numsV_yes this
      have c0 := (unhide R1).cell 0
      have c1 := (unhide R1).cell 1
      have c2 := (unhide R1).cell 2
      have f0 := (unhide R1).free 0
      have f1 := (unhide R1).free 1
      have f2 := (unhide R1).free 2
      simp at c0 c1 c2
      have d0 : wr.cell? ⟨w.heap.size + 1, 0, none⟩ = some (.int .i64 (numVal ((pieces 46 l).getD 0 []))) := (unhide R2).cell 0
      have d1 : wr.cell? ⟨w.heap.size + 1, 1, none⟩ = some (.int .i64 (numVal ((pieces 46 l).getD 1 []))) := (unhide R2).cell 1
      have d2 : wr.cell? ⟨w.heap.size + 1, 2, none⟩ = some (.int .i64 (numVal ((pieces 46 l).getD 2 []))) := (unhide R2).cell 2
      go_wp2
      exact bodyPost_ret (v := .tuple #[.agg (numsA (pieces 46 l) 3), .bool true]) (by simp [results, Tryz.results217, go_sem, c0, c1, c2, numsA]) rfl ⟨retv (unhide HF).symm, (((unhide RB).setCell (Nat.le_refl _) _).setCell (Nat.le_refl _) _).setCell (Nat.le_refl _) _⟩

end Go.Proofs.YthcafeoamabkgaaGreatDoor

namespace Go.Proofs.YthcafeoamabkgaaGreatDoor
open Go.RowKit

def numV (o : Option (Nat × Nat × Nat)) : Value :=
  match o with
  | some (a, b, c) => .tuple #[.agg #[.int .i64 (a : Int), .int .i64 (b : Int), .int .i64 (c : Int)], .bool true]
  | none => .tuple #[.agg #[.int .i64 0, .int .i64 0, .int .i64 0], .bool false]

theorem parseNumbers_any {l : Str} (hl : l.length < 4294967281) {w : World} (hg : Gd w) : Gives 217 #[.string (ba l)] w (numV (numsOf (pieces 46 l))) := by
  by_cases h3 : (pieces 46 l).length = 3
  · have h := parseNumbers_three hl h3 hg
    have e : numsV (pieces 46 l) = numV (numsOf (pieces 46 l)) := by
      generalize pieces 46 l = ps at h3
      match ps, h3 with
      | [x, y, z], _ =>
        unfold numsV numsOf
        cases hx : numOk x <;> cases hy : numOk y <;> cases hz : numOk z <;> simp [numV, hx, hy, hz, numsA]
    rw [← e]; exact h
  · have h := parseNumbers_len hl h3 hg
    have e : numsOf (pieces 46 l) = none := by
      generalize pieces 46 l = ps at h3
      match ps, h3 with
      | [], _ => rfl
      | [_], _ => rfl
      | [_, _], _ => rfl
      | [_, _, _], h => exact absurd rfl h
      | _ :: _ :: _ :: _ :: _, _ => rfl
    rw [e]; exact h

def verV (o : Option Ver) : Value :=
  match o with
  | some x => .tuple #[.agg #[.int .i64 (x.a : Int), .int .i64 (x.b : Int), .int .i64 (x.c : Int), .string (ba x.pre)], .bool true]
  | none => .tuple #[.agg #[.int .i64 0, .int .i64 0, .int .i64 0, .string ⟨#[]⟩], .bool false]

theorem cut_any (c : UInt8) {l : Str} (hl : l.length < 4294967281) {w : World} (hg : Gd w) : Calls Tryz.prog 96 #[.string (ba l), .string (ba [c])] w fun e w' => e = .returned (.tuple #[.string (ba (ahead c l)), .string (ba (behind c l)), .bool (l.contains c)]) ∧ Bel w.heap.size w w' := by
  obtain ⟨m, hm⟩ := hg.ml
  refine (Tryz.strings_Cut (ba l) (ba [c]) m w (by rw [ba_size]; exact hl) hm).mono ?_
  rintro e w' ⟨rfl, n, rfl⟩
  refine ⟨?_, below_drewN (Bel.refl _ _) n⟩
  rw [ba_data, ba_data, cut_eq]
  rfl

theorem ver_long {v : Str} (h : 60 < v.length) (w : World) : Gives 171 #[.string (ba v)] w (verV none) := by
  unfold Gives verV
  have hsz : (ba v).size = v.length := ba_size v
  have hq : (60 : Int) < v.length := by omega
  go_enter Tryz.func171, Tryz.ntmps171
  go_wp2
  exact bodyPost_ret (v := .tuple #[.agg #[.int .i64 0, .int .i64 0, .int .i64 0, .string ⟨#[]⟩], .bool false]) (by simp [results, Tryz.results171, go_sem]) rfl ⟨rfl, (Bel.refl _ _).alloc (Nat.le_refl _) _⟩

theorem ver_head {v : Str} (h : v.length ≤ 60) (h2 : Lib.hasPrefix v [118] = false) (w : World) : Gives 171 #[.string (ba v)] w (verV none) := by
  unfold Gives verV
  have hsz : (ba v).size = v.length := ba_size v
  have hq : ¬ (60 : Int) < v.length := by omega
  have H2 := hide h2
  clear h2
  go_enter Tryz.func171, Tryz.ntmps171
  go_wp2_with (go_at_call 106; refine (Tryz.strings_HasPrefix (ba v) (ba [118]) _).mono ?_; rintro e w1 ⟨rfl, rfl⟩; rw [ba_data, ba_data, unhide H2])
  exact bodyPost_ret (v := .tuple #[.agg #[.int .i64 0, .int .i64 0, .int .i64 0, .string ⟨#[]⟩], .bool false]) (by simp [results, Tryz.results171, go_sem]) rfl ⟨rfl, (Bel.refl _ _).alloc (Nat.le_refl _) _⟩


theorem cut_rest (rest : Str) : (ba (118 :: rest)).extract 1 (rest.length + 1) = ba rest := by
  rw [Lib.extract_eq, ba_data]
  simp [ba]

/-- The value of the struct, and whether it is a version. -/
def verCells (o : Option Ver) : Array Value :=
  match o with
  | some x => #[.int .i64 (x.a : Int), .int .i64 (x.b : Int), .int .i64 (x.c : Int), .string (ba x.pre)]
  | none => #[.int .i64 0, .int .i64 0, .int .i64 0, .string ⟨#[]⟩]
theorem verV_eq (o : Option Ver) : verV o = .tuple #[.agg (verCells o), .bool o.isSome] := by cases o <;> rfl

theorem prefix_ok {rest : Str} (w : World) : Calls Tryz.prog 106 #[.string (ba (118 :: rest)), .string (ba [118])] w fun e w' => e = .returned (.bool true) ∧ w' = w := by
  refine (Tryz.strings_HasPrefix (ba (118 :: rest)) (ba [118]) w).mono ?_
  rintro e w1 ⟨rfl, rfl⟩
  exact ⟨retv (by simp [ba, Lib.hasPrefix, List.isPrefixOf]), rfl⟩

theorem ahead_le (c : UInt8) (l : Str) : (ahead c l).length ≤ l.length := (List.takeWhile_sublist _).length_le
theorem behind_le (c : UInt8) (l : Str) : (behind c l).length ≤ l.length := by
  unfold behind
  have h1 : ((l.dropWhile fun b => b != c)).length ≤ l.length := (List.dropWhile_sublist _).length_le
  simp; omega

set_option maxHeartbeats 1000000 in
theorem ver_nums {rest : Str} (h : rest.length + 1 ≤ 60) (hn : numsOf (pieces 46 (ahead 45 rest)) = none) {w : World} (hg : Gd w) : Gives 171 #[.string (ba (118 :: rest))] w (verV none) := by
  unfold Gives
  have hsz : (ba (118 :: rest)).size = rest.length + 1 := ba_size _
  have hq : ¬ (60 : Int) < (rest.length : Int) + 1 := by omega
  have hr := cut_rest rest
  have H2 := hide hn
  have b0 : ∀ o, Bel w.heap.size w (w.alloc o) := fun o => (Bel.refl _ _).alloc (Nat.le_refl _) _
  clear hn
  go_enter Tryz.func171, Tryz.ntmps171
  go_wp2_with (first | (go_at_call 106; refine (prefix_ok _).mono ?_; rintro e w1 ⟨rfl, hw⟩; subst hw) | (go_at_call 96; refine (cut_any 45 (by omega) (hg.below (b0 _))).mono ?_))
  rintro e w2 ⟨rfl, b2⟩
  have hl1 := ahead_le 45 rest
  have hl2 := behind_le 45 rest
  go_wp2_with (go_at_call 217; refine (parseNumbers_any (by omega) ((hg.below (b0 _)).below b2)).mono ?_)
  rintro e w3 ⟨rfl, b3⟩
  have g3 := hide (((hg.below (b0 _)).below b2).below b3)
  rw [unhide H2]
  unfold numV
  have k1 := ((Blk.new w #[.int .i64 0, .int .i64 0, .int .i64 0, .string ⟨#[]⟩] 205).below b2).below b3
  have hb := ((b0 (.cells #[.int .i64 0, .int .i64 0, .int .i64 0, .string ⟨#[]⟩] 205)).trans (b2.mono (b0 _).size)).trans (b3.mono ((b0 (.cells #[.int .i64 0, .int .i64 0, .int .i64 0, .string ⟨#[]⟩] 205)).trans (b2.mono (b0 _).size)).size)
  have hlt := k1.lt
  have hne : ¬ w.heap.size = w3.heap.size := by omega
  have HB := hide hb
  have K1 := hide k1
  have c0 := (unhide K1).cell 0
  have c1 := (unhide K1).cell 1
  have c2 := (unhide K1).cell 2
  have c3 := (unhide K1).cell 3
  have f0 := (unhide K1).free 0
  have f1 := (unhide K1).free 1
  have f2 := (unhide K1).free 2
  have f3 := (unhide K1).free 3
  simp at c0 c1 c2 c3
  clear b2 b3 hl1 k1 hb b0
  go_wp2
  exact bodyPost_ret (v := .tuple #[.agg #[.int .i64 0, .int .i64 0, .int .i64 0, .string ⟨#[]⟩], .bool false]) (by simp [results, Tryz.results171, go_sem, c0, c1, c2, c3, hlt]) rfl ⟨rfl, (((((unhide HB).setCell (Nat.le_refl _) _).setCell (Nat.le_refl _) _).setCell (Nat.le_refl _) _).setCell (Nat.le_refl _) _).alloc (by simp; omega) _⟩

set_option maxHeartbeats 1000000 in
theorem ver_bare {rest : Str} {a b c : Nat} (h : rest.length + 1 ≤ 60) (hn : numsOf (pieces 46 (ahead 45 rest)) = some (a, b, c)) (hc : ¬ 45 ∈ rest) {w : World} (hg : Gd w) : Gives 171 #[.string (ba (118 :: rest))] w (.tuple #[.agg #[.int .i64 (a : Int), .int .i64 (b : Int), .int .i64 (c : Int), .string (ba (behind 45 rest))], .bool true]) := by
  unfold Gives
  have hsz : (ba (118 :: rest)).size = rest.length + 1 := ba_size _
  have hq : ¬ (60 : Int) < (rest.length : Int) + 1 := by omega
  have hr := cut_rest rest
  have H2 := hide hn
  have b0 : ∀ o, Bel w.heap.size w (w.alloc o) := fun o => (Bel.refl _ _).alloc (Nat.le_refl _) _
  clear hn
  go_enter Tryz.func171, Tryz.ntmps171
  go_wp2_with (first | (go_at_call 106; refine (prefix_ok _).mono ?_; rintro e w1 ⟨rfl, hw⟩; subst hw) | (go_at_call 96; refine (cut_any 45 (by omega) (hg.below (b0 _))).mono ?_))
  rintro e w2 ⟨rfl, b2⟩
  have hl1 := ahead_le 45 rest
  have hl2 := behind_le 45 rest
  go_wp2_with (go_at_call 217; refine (parseNumbers_any (by omega) ((hg.below (b0 _)).below b2)).mono ?_)
  rintro e w3 ⟨rfl, b3⟩
  have g3 := hide (((hg.below (b0 _)).below b2).below b3)
  rw [unhide H2]
  unfold numV
  have k1 := ((Blk.new w #[.int .i64 0, .int .i64 0, .int .i64 0, .string ⟨#[]⟩] 205).below b2).below b3
  have hb := ((b0 (.cells #[.int .i64 0, .int .i64 0, .int .i64 0, .string ⟨#[]⟩] 205)).trans (b2.mono (b0 _).size)).trans (b3.mono ((b0 (.cells #[.int .i64 0, .int .i64 0, .int .i64 0, .string ⟨#[]⟩] 205)).trans (b2.mono (b0 _).size)).size)
  have hlt := k1.lt
  have hne : ¬ w.heap.size = w3.heap.size := by omega
  have HB := hide hb
  have K1 := hide k1
  have c0 := (unhide K1).cell 0
  have c1 := (unhide K1).cell 1
  have c2 := (unhide K1).cell 2
  have c3 := (unhide K1).cell 3
  have f0 := (unhide K1).free 0
  have f1 := (unhide K1).free 1
  have f2 := (unhide K1).free 2
  have f3 := (unhide K1).free 3
  simp at c0 c1 c2 c3
  clear b2 b3 hl1 k1 hb b0
  go_wp2
  exact bodyPost_ret (v := .tuple #[.agg #[.int .i64 (a : Int), .int .i64 (b : Int), .int .i64 (c : Int), .string (ba (behind 45 rest))], .bool true]) (by simp [results, Tryz.results171, go_sem, c0, c1, c2, c3, hlt]) rfl ⟨rfl, (((((unhide HB).setCell (Nat.le_refl _) _).setCell (Nat.le_refl _) _).setCell (Nat.le_refl _) _).setCell (Nat.le_refl _) _).alloc (by simp; omega) _⟩

set_option maxHeartbeats 1000000 in
theorem ver_pre {rest : Str} {a b c : Nat} (h : rest.length + 1 ≤ 60) (hn : numsOf (pieces 46 (ahead 45 rest)) = some (a, b, c)) (hc : 45 ∈ rest) (hv : validPreB (behind 45 rest) = true) {w : World} (hg : Gd w) : Gives 171 #[.string (ba (118 :: rest))] w (.tuple #[.agg #[.int .i64 (a : Int), .int .i64 (b : Int), .int .i64 (c : Int), .string (ba (behind 45 rest))], .bool true]) := by
  have HV := hide hv
  clear hv
  unfold Gives
  have hsz : (ba (118 :: rest)).size = rest.length + 1 := ba_size _
  have hq : ¬ (60 : Int) < (rest.length : Int) + 1 := by omega
  have hr := cut_rest rest
  have H2 := hide hn
  have b0 : ∀ o, Bel w.heap.size w (w.alloc o) := fun o => (Bel.refl _ _).alloc (Nat.le_refl _) _
  clear hn
  go_enter Tryz.func171, Tryz.ntmps171
  go_wp2_with (first | (go_at_call 106; refine (prefix_ok _).mono ?_; rintro e w1 ⟨rfl, hw⟩; subst hw) | (go_at_call 96; refine (cut_any 45 (by omega) (hg.below (b0 _))).mono ?_))
  rintro e w2 ⟨rfl, b2⟩
  have hl1 := ahead_le 45 rest
  have hl2 := behind_le 45 rest
  go_wp2_with (go_at_call 217; refine (parseNumbers_any (by omega) ((hg.below (b0 _)).below b2)).mono ?_)
  rintro e w3 ⟨rfl, b3⟩
  have g3 := hide (((hg.below (b0 _)).below b2).below b3)
  rw [unhide H2]
  unfold numV
  have k1 := ((Blk.new w #[.int .i64 0, .int .i64 0, .int .i64 0, .string ⟨#[]⟩] 205).below b2).below b3
  have hb := ((b0 (.cells #[.int .i64 0, .int .i64 0, .int .i64 0, .string ⟨#[]⟩] 205)).trans (b2.mono (b0 _).size)).trans (b3.mono ((b0 (.cells #[.int .i64 0, .int .i64 0, .int .i64 0, .string ⟨#[]⟩] 205)).trans (b2.mono (b0 _).size)).size)
  have hlt := k1.lt
  have hne : ¬ w.heap.size = w3.heap.size := by omega
  have HB := hide hb
  have K1 := hide k1
  clear b2 b3 hl1 k1 hb b0
  have b4 : Bel w3.heap.size w3 (w3.alloc (.cells #[.int .i64 (a : Int), .int .i64 (b : Int), .int .i64 (c : Int)] 203)) := (Bel.refl _ _).alloc (Nat.le_refl _) _
  go_wp2_with (go_at_call 218; refine (validPre_any (by omega) ((unhide g3).below b4)).mono ?_)
  rintro e w5 ⟨rfl, b5⟩
  rw [unhide HV]
  have k5 := ((unhide K1).below b4).below b5
  have m5 := (Blk.new w3 #[.int .i64 (a : Int), .int .i64 (b : Int), .int .i64 (c : Int)] 203).below b5
  have hb4 := (unhide HB).trans (b4.mono (unhide HB).size)
  have hb5 := hb4.trans (b5.mono hb4.size)
  have c0 := k5.cell 0
  have c1 := k5.cell 1
  have c2 := k5.cell 2
  have c3 := k5.cell 3
  have f0 := k5.free 0
  have f1 := k5.free 1
  have f2 := k5.free 2
  have f3 := k5.free 3
  have d0 := m5.cell 0
  have d1 := m5.cell 1
  have d2 := m5.cell 2
  simp at c0 c1 c2 c3 d0 d1 d2
  have HC := hide hb5
  clear b4 b5 k5 m5 hb4 hb5
  go_wp2
  exact bodyPost_ret (v := .tuple #[.agg #[.int .i64 (a : Int), .int .i64 (b : Int), .int .i64 (c : Int), .string (ba (behind 45 rest))], .bool true]) (by simp [results, Tryz.results171, go_sem, c0, c1, c2, c3]) rfl ⟨rfl, ((((unhide HC).setCell (Nat.le_refl _) _).setCell (Nat.le_refl _) _).setCell (Nat.le_refl _) _).setCell (Nat.le_refl _) _⟩

set_option maxHeartbeats 1000000 in
theorem ver_bad {rest : Str} {a b c : Nat} (h : rest.length + 1 ≤ 60) (hn : numsOf (pieces 46 (ahead 45 rest)) = some (a, b, c)) (hc : 45 ∈ rest) (hv : validPreB (behind 45 rest) = false) {w : World} (hg : Gd w) : Gives 171 #[.string (ba (118 :: rest))] w (verV none) := by
  have HV := hide hv
  clear hv
  unfold Gives
  have hsz : (ba (118 :: rest)).size = rest.length + 1 := ba_size _
  have hq : ¬ (60 : Int) < (rest.length : Int) + 1 := by omega
  have hr := cut_rest rest
  have H2 := hide hn
  have b0 : ∀ o, Bel w.heap.size w (w.alloc o) := fun o => (Bel.refl _ _).alloc (Nat.le_refl _) _
  clear hn
  go_enter Tryz.func171, Tryz.ntmps171
  go_wp2_with (first | (go_at_call 106; refine (prefix_ok _).mono ?_; rintro e w1 ⟨rfl, hw⟩; subst hw) | (go_at_call 96; refine (cut_any 45 (by omega) (hg.below (b0 _))).mono ?_))
  rintro e w2 ⟨rfl, b2⟩
  have hl1 := ahead_le 45 rest
  have hl2 := behind_le 45 rest
  go_wp2_with (go_at_call 217; refine (parseNumbers_any (by omega) ((hg.below (b0 _)).below b2)).mono ?_)
  rintro e w3 ⟨rfl, b3⟩
  have g3 := hide (((hg.below (b0 _)).below b2).below b3)
  rw [unhide H2]
  unfold numV
  have k1 := ((Blk.new w #[.int .i64 0, .int .i64 0, .int .i64 0, .string ⟨#[]⟩] 205).below b2).below b3
  have hb := ((b0 (.cells #[.int .i64 0, .int .i64 0, .int .i64 0, .string ⟨#[]⟩] 205)).trans (b2.mono (b0 _).size)).trans (b3.mono ((b0 (.cells #[.int .i64 0, .int .i64 0, .int .i64 0, .string ⟨#[]⟩] 205)).trans (b2.mono (b0 _).size)).size)
  have hlt := k1.lt
  have hne : ¬ w.heap.size = w3.heap.size := by omega
  have HB := hide hb
  have K1 := hide k1
  clear b2 b3 hl1 k1 hb b0
  have b4 : Bel w3.heap.size w3 (w3.alloc (.cells #[.int .i64 (a : Int), .int .i64 (b : Int), .int .i64 (c : Int)] 203)) := (Bel.refl _ _).alloc (Nat.le_refl _) _
  go_wp2_with (go_at_call 218; refine (validPre_any (by omega) ((unhide g3).below b4)).mono ?_)
  rintro e w5 ⟨rfl, b5⟩
  rw [unhide HV]
  have k5 := ((unhide K1).below b4).below b5
  have m5 := (Blk.new w3 #[.int .i64 (a : Int), .int .i64 (b : Int), .int .i64 (c : Int)] 203).below b5
  have hb4 := (unhide HB).trans (b4.mono (unhide HB).size)
  have hb5 := hb4.trans (b5.mono hb4.size)
  have c0 := k5.cell 0
  have c1 := k5.cell 1
  have c2 := k5.cell 2
  have c3 := k5.cell 3
  have f0 := k5.free 0
  have f1 := k5.free 1
  have f2 := k5.free 2
  have f3 := k5.free 3
  have d0 := m5.cell 0
  have d1 := m5.cell 1
  have d2 := m5.cell 2
  simp at c0 c1 c2 c3 d0 d1 d2
  have HC := hide hb5
  clear b4 b5 k5 m5 hb4 hb5
  go_wp2
  exact bodyPost_ret (v := .tuple #[.agg #[.int .i64 0, .int .i64 0, .int .i64 0, .string ⟨#[]⟩], .bool false]) (by simp [results, Tryz.results171, go_sem, c0, c1, c2, c3]) rfl ⟨rfl, ((((unhide HC).setCell (Nat.le_refl _) _).setCell (Nat.le_refl _) _).setCell (Nat.le_refl _) _).setCell (Nat.le_refl _) _⟩

theorem parse_any (v : Str) {w : World} (hg : Gd w) : Gives 171 #[.string (ba v)] w (verV (parseV v)) := by
  by_cases hl : v.length ≤ 60
  · cases hp : Lib.hasPrefix v [118] with
    | false =>
      have e : parseV v = none := by
        unfold parseV
        rw [if_pos hl]
        split
        · simp [Lib.hasPrefix, List.isPrefixOf] at hp
        · rfl
      rw [e]; exact ver_head hl hp w
    | true =>
      obtain ⟨rest, rfl⟩ : ∃ rest, v = 118 :: rest := by
        cases v with
        | nil => simp [Lib.hasPrefix] at hp
        | cons b l => simp [Lib.hasPrefix, List.isPrefixOf] at hp; exact ⟨l, by rw [hp]⟩
      have hl' : rest.length + 1 ≤ 60 := by simpa using hl
      have e : parseV (118 :: rest) = parseR rest := by unfold parseV; rw [if_pos hl]; rfl
      rw [e]
      unfold parseR
      cases hn : numsOf (pieces 46 (ahead 45 rest)) with
      | none => exact ver_nums hl' hn hg
      | some x =>
        obtain ⟨a, b, c⟩ := x
        simp only
        cases hc : rest.contains 45 with
        | false =>
          have hc' : ¬ 45 ∈ rest := by rw [← List.contains_iff_mem, hc]; decide
          exact ver_bare hl' hn hc' hg
        | true =>
          have hc' : 45 ∈ rest := by rw [← List.contains_iff_mem, hc]
          cases hv : validPreB (behind 45 rest) with
          | true => exact ver_pre hl' hn hc' hv hg
          | false => exact ver_bad hl' hn hc' hv hg
  · have e : parseV v = none := by unfold parseV; rw [if_neg hl]
    rw [e]; exact ver_long (by omega) w

end Go.Proofs.YthcafeoamabkgaaGreatDoor
