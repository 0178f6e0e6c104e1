/-
  Numbers, identifiers and texts cut at a byte: the contracts of number, validIdentifier, Split at one byte, validPre.
-/
import Derived.Test.YthcafeoamabkgaaGreatDoorBase
namespace Go.Proofs.YthcafeoamabkgaaGreatDoor
open Go.RowKit

/-- What every call leans on: the library's two variables. -/
structure Gd (w : World) : Prop where
  ml : ∃ m, w.cell? ⟨0, 0, none⟩ = some (.int .i64 m)
  tab : Lib.TabIs Tryz.prog w "internal/strconv.uint64pow10" .u64 Lib.pow10Tab

theorem lt_of_cell {w : World} {a : Addr} {v : Value} (h : w.cell? a = some v) : a.block < w.heap.size := by
  unfold World.cell? at h
  split at h
  · rename_i e; exact (Array.getElem?_eq_some_iff.1 e).1
  · cases h

theorem var_below {P : Program} {w w' : World} {n : String} {cs : Array Value} (hv : w.var? P n = some cs) (h : Bel w.heap.size w w') : w'.var? P n = some cs := by
  unfold World.var? at hv ⊢
  obtain ⟨g, hg, hc⟩ := Option.bind_eq_some_iff.1 hv
  rw [hg]
  show (match w'.heap[g]? with | some (Obj.cells cs _ _) => some cs | _ => none) = some cs
  have hlt : g < w.heap.size := by
    apply Classical.byContradiction
    intro hn
    rw [Array.getElem?_eq_none (by omega)] at hc
    cases hc
  rw [h.block g hlt]
  exact hc

theorem Gd.below {w w' : World} (h : Gd w) (hb : Bel w.heap.size w w') : Gd w' where
  ml := by
    obtain ⟨m, hm⟩ := h.ml
    exact ⟨m, by rw [hb.cell (lt_of_cell hm)]; exact hm⟩
  tab := var_below h.tab hb

/-- The call returns that, and what was there stands. -/
def Gives (n : Nat) (args : Array Value) (w : World) (v : Value) : Prop := Calls Tryz.prog n args w fun e w' => e = .returned v ∧ Bel w.heap.size w w'

theorem below_trans {a b c : World} (h : Bel a.heap.size a b) (k : Bel b.heap.size b c) : Bel a.heap.size a c := h.trans (k.mono h.size)

theorem below_drewN {B : Nat} {a w : World} (h : Bel B a w) (n : Nat) : Bel B a (w.drewN n) := ⟨h.os, h.tape, h.output, h.size, h.block, Nat.le_trans h.drawn (by simp [World.drewN])⟩

theorem pairv (a b : Value) {c d : Value} (h1 : a = c) (h2 : b = d) : Ending.returned (.tuple #[a, b]) = .returned (.tuple #[c, d]) := by rw [h1, h2]

theorem bytes_below (w : World) (e : TypeId) (s : ByteArray) : Bel w.heap.size w (Lib.bytesWorld w e s) :=
  ⟨rfl, rfl, rfl, by rw [Lib.bytesWorld_size]; omega, Lib.bytesWorld_at_old w e s, Nat.le_succ _⟩

theorem digits_is {l : Str} {b : Bool} (h : digitsB l = b) (hl : l.length ≤ 4294967281) (w : World) : Calls Tryz.prog 216 #[.string (ba l)] w fun e w' => e = .returned (.bool b) ∧ w' = w := by rw [← h]; exact digits_any l hl w
theorem zero_is {l : Str} {b : Bool} (h : zeroAheadB l = b) (hl : l.length ≤ 4294967281) (w : World) : Calls Tryz.prog 251 #[.string (ba l)] w fun e w' => e = .returned (.bool b) ∧ w' = w := by rw [← h]; exact zeroAhead_any l hl w

theorem number_ok {l : Str} (h : numOk l = true) (w : World) : Gives 215 #[.string (ba l)] w (.tuple #[.int .i64 (numVal l : Int), .bool true]) := by
  have hsz : (ba l).size = l.length := ba_size l
  unfold Gives
  simp only [numOk, Bool.and_eq_true, Bool.not_eq_true', decide_eq_true_eq] at h
  obtain ⟨⟨h1, h2⟩, h3⟩ := h
  have H3 := hide h3
  have H2 := hide h2
  have hq : ¬ (9 : Int) < l.length := by omega
  clear h2 h3
  go_enter Tryz.func215, Tryz.ntmps215
  go_wp2_with (first | (go_at_call 216; refine (digits_is (unhide H2) (by omega) _).mono ?_; rintro e w1 ⟨rfl, rfl⟩) | (go_at_call 251; refine (zero_is (unhide H3) (by omega) _).mono ?_; rintro e w1 ⟨rfl, rfl⟩) | (go_at_call 252; refine (Tryz.strconv_Atoi (ba l) (numVal l) (by omega) (atoi_digits (unhide H2)) _).mono ?_))
  rintro e w2 ⟨rfl, t, hw⟩
  have hb := bytes_below w1 5 t
  rw [← hw] at hb
  clear hw
  go_wp2
  go_quiet (fail)
  go_wp2
  go_ret2
  exact ⟨rfl, below_drewN hb _⟩

theorem number_no {l : Str} (hl : l.length ≤ 4294967281) (h : numOk l = false) (w : World) : Gives 215 #[.string (ba l)] w (.tuple #[.int .i64 0, .bool false]) := by
  have hsz : (ba l).size = l.length := ba_size l
  unfold Gives
  by_cases h1 : l.length ≤ 9
  · cases h2 : digitsB l with
    | false =>
      have H2 := hide h2
      clear h2 h
      go_enter Tryz.func215, Tryz.ntmps215
      go_wp2_with (first | (go_at_call 216; refine (digits_is (unhide H2) (by omega) _).mono ?_; rintro e w1 ⟨rfl, rfl⟩))
      go_ret2
      exact ⟨rfl, Bel.refl _ _⟩
    | true =>
      have h3 : zeroAheadB l = true := by simpa [numOk, h1, h2] using h
      have H3 := hide h3
      have H2 := hide h2
      clear h2 h3 h
      go_enter Tryz.func215, Tryz.ntmps215
      go_wp2_with (first | (go_at_call 216; refine (digits_is (unhide H2) (by omega) _).mono ?_; rintro e w1 ⟨rfl, rfl⟩) | (go_at_call 251; refine (zero_is (unhide H3) (by omega) _).mono ?_; rintro e w1 ⟨rfl, rfl⟩))
      go_ret2
      exact ⟨rfl, Bel.refl _ _⟩
  · have hq : (9 : Int) < l.length := by omega
    clear h
    go_enter Tryz.func215, Tryz.ntmps215
    go_wp2
    go_ret2
    exact ⟨rfl, Bel.refl _ _⟩

theorem validId_any {l : Str} (hl : l.length ≤ 4294967281) (w : World) : Calls Tryz.prog 253 #[.string (ba l)] w fun e w' => e = .returned (.bool (validIdB l)) ∧ w' = w := by
  have hli : (ba l).toList = l := ba_list l
  cases hd : digitsB l with
  | true =>
    have HV : Hid (validIdB l = !zeroAheadB l) := by show validIdB l = _; unfold validIdB; rw [hd]; rfl
    have HD := hide hd
    clear hd
    go_enter Tryz.func253, Tryz.ntmps253
    go_wp2_with (first | (go_at_call 216; refine (digits_is (unhide HD) (by omega) _).mono ?_; rintro e w1 ⟨rfl, rfl⟩) | (go_at_call 251; refine (zeroAhead_any l (by omega) _).mono ?_; rintro e w1 ⟨rfl, rfl⟩))
    go_ret
    exact ⟨ret_bool (unhide HV).symm, rfl⟩
  | false =>
    have HV : Hid (validIdB l = (!l.isEmpty && l.all identB)) := by show validIdB l = _; unfold validIdB; rw [hd]; rfl
    have HD := hide hd
    clear hd
    cases he : l.isEmpty with
    | true =>
      have he : l = [] := by simpa using he
      subst he
      go_enter Tryz.func253, Tryz.ntmps253
      go_wp2_with (first | (go_at_call 216; refine (digits_is (unhide HD) (by omega) _).mono ?_; rintro e w1 ⟨rfl, rfl⟩))
      go_ret
      exact ⟨ret_bool (by rw [unhide HV]; rfl), rfl⟩
    | false =>
      have he2 : ¬ (ba l).toList = [] := by rw [hli]; simpa using he
      clear hli
      go_enter Tryz.func253, Tryz.ntmps253
      go_wp2_with (first | (go_at_call 216; refine (digits_is (unhide HD) (by omega) _).mono ?_; rintro e w1 ⟨rfl, rfl⟩) | (go_at_call 213; refine (every_any ident_asks (enters_of Tryz.func265 (by kernel_rfl) rfl) l (by omega) _).mono ?_; rintro e w1 ⟨rfl, rfl⟩))
      go_ret
      exact ⟨ret_bool (by rw [unhide HV, he]; simp [he2]), rfl⟩

/-- A row of texts in a block. -/
def Texts (w : World) (B : Nat) (ps : List Str) : Prop := ∀ k (h : k < ps.length), w.cell? ⟨B, k, none⟩ = some (.string (ba ps[k]))

theorem Texts.below {w w' : World} {B : Nat} {ps : List Str} (h : Texts w B ps) (hB : B < w.heap.size) (hb : Bel w.heap.size w w') : Texts w' B ps := fun k hk => (hb.cell (p := ⟨B, k, none⟩) hB).trans (h k hk)

theorem heap_new (w : World) (o : Obj) : (w.alloc o).heap[w.heap.size]? = some o := by
  show (w.heap.push o)[w.heap.size]? = some o
  simp

theorem split_any (c : UInt8) {l : Str} (hl : l.length < 4294967281) {w : World} (hg : Gd w) : Calls Tryz.prog 76 #[.string (ba l), .string (ba [c])] w fun e w' =>
    ∃ B, e = .returned (.slice (some ⟨B, 0, none⟩) (pieces c l).length (pieces c l).length) ∧ Texts w' B (pieces c l) ∧ (B < w'.heap.size ∧ w.heap.size ≤ B) ∧ Bel w.heap.size w w' := by
  obtain ⟨m, hm⟩ := hg.ml
  refine (Tryz.strings_Split (ba l) (ba [c]) m w (by rw [ba_size]; exact hl) hm (by rw [ba_size]; exact Nat.le_refl _)).mono ?_
  rintro e w' ⟨rfl, rfl⟩
  have hn : Lib.countB (ba l) (ba [c]) + 1 = (pieces c l).length := by rw [pieces_length]; rfl
  refine ⟨w.heap.size, by rw [hn], ?_, ⟨by simp, Nat.le_refl _⟩, (Bel.refl _ _).alloc (Nat.le_refl _) _⟩
  intro k hk
  rw [splitB_pieces, ba_data]
  rw [Lib.cell_of_heap (w := w.alloc _) (heap_new w _)]
  simp [hk]

theorem all_take {p : Str → Bool} {ps : List Str} {k : Nat} (h : (ps.take k).all p = true) (hk : k < ps.length) (hp : p ps[k] = true) : (ps.take (k + 1)).all p = true := by
  rw [List.take_add_one, List.all_append, h, List.getElem?_eq_getElem hk]
  simp [hp]
theorem all_no {p : Str → Bool} {ps : List Str} {k : Nat} (hk : k < ps.length) (hp : p ps[k] = false) : ps.all p = false := by
  rw [List.all_eq_false]
  exact ⟨ps[k], List.getElem_mem hk, by rw [hp]; decide⟩

theorem validPre_any {l : Str} (hl : l.length < 4294967281) {w : World} (hg : Gd w) : Gives 218 #[.string (ba l)] w (.bool (validPreB l)) := by
  unfold Gives
  rw [show validPreB l = (pieces 46 l).all validIdB from rfl]
  have HS : Hid (∀ p ∈ pieces 46 l, p.length ≤ 4294967281) := fun p hp => by have := pieces_small 46 l p hp; omega
  have HN : Hid ((pieces 46 l).length ≤ 4294967282) := by
    show (pieces 46 l).length ≤ 4294967282
    rw [pieces_length]; have := Lib.count_one 46 l; have := List.count_le_length (a := (46 : UInt8)) (l := l); omega
  have e46 : (⟨#[46]⟩ : ByteArray) = ba [46] := rfl
  go_enter Tryz.func218, Tryz.ntmps218
  go_wp2_with (go_at_call 76; fail)
  refine (split_any 46 hl hg).mono ?_
  rintro e w1 ⟨B, rfl, ht, hB, hb⟩
  have hn := unhide HN
  have HT := hide ht
  clear ht
  go_wp2
  go_loop [8] (fun i => ∃ k : Nat, k ≤ (pieces 46 l).length ∧ i = .int .i64 k ∧ ((pieces 46 l).take k).all validIdB = true) (fun i => (pieces 46 l).length - (intOf i).toNat)
  case atStart => exact ⟨0, Nat.zero_le _, rfl, rfl⟩
  case round =>
    obtain ⟨k, hk, rfl, hall⟩ := hrel
    have HA := hide hall
    clear hall
    by_cases hlt : k < (pieces 46 l).length
    · have hc := (unhide HT) k hlt
      go_wp2_with (go_at_call 253; fail)
      refine (validId_any ((unhide HS) _ (List.getElem_mem hlt)) _).mono ?_
      rintro e w2 ⟨rfl, rfl⟩
      cases hv : validIdB (pieces 46 l)[k] with
      | false =>
        have HF := hide (all_no hlt hv)
        go_wp2
        go_ret
        exact ⟨ret_bool (unhide HF).symm, hb⟩
      | true =>
        have HF := hide (all_take (unhide HA) hlt hv)
        clear HA
        go_wp2
        go_round
        case rel => exact ⟨k + 1, hlt, by simp, unhide HF⟩
        case measure => simp [intOf]; omega
    · have hke : k = (pieces 46 l).length := by omega
      subst hke
      have HF : Hid ((pieces 46 l).all validIdB = true) := by
        have := unhide HA
        rw [List.take_length] at this
        exact this
      go_wp2
      go_ret
      exact ⟨ret_bool (unhide HF).symm, hb⟩

end Go.Proofs.YthcafeoamabkgaaGreatDoor
