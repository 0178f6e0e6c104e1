/-
  Keys of what may be one, the program's and the reference's.
-/
import Derived.Test.YtkablmjkffdloaaGreatDoorMrkQ
import Derived.Test.YtkablmjkffdloaaGreatDoorSgnQ
import Derived.Test.YtkablmjkffdloaaGreatDoorLogE
import Derived.Test.YtkablmjkffdloaaGreatDoorB64Y
import Derived.Test.YtkablmjkffdloaaGreatDoorFst
namespace Go.Proofs.YtkablmjkffdloaaGreatDoor
open Go.RowKit

/-- A name and a secret, and where the secret lies. -/
structure Wk where
  nm : Bs
  sec : Bs
  a : Option Addr
  c : Nat
def wkC : List Wk → List Value
  | [] => []
  | x :: l => .string (ba x.nm) :: .slice x.a x.sec.length x.c :: wkC l
theorem wkC_append (l m : List Wk) : wkC (l ++ m) = wkC l ++ wkC m := by
  induction l with
  | nil => rfl
  | cons x l ih => simp [wkC, ih]
theorem wkC_length (l : List Wk) : (wkC l).length = l.length * 2 := by
  induction l with
  | nil => rfl
  | cons x l ih => simp [wkC, ih]; omega
theorem wkC_at : ∀ (l : List Wk) (k : Nat) (hk : k < l.length), (wkC l)[k * 2]? = some (.string (ba l[k].nm)) ∧ (wkC l)[k * 2 + 1]? = some (.slice l[k].a l[k].sec.length l[k].c)
  | [], k, hk => by simp at hk
  | x :: l, 0, _ => by simp [wkC]
  | x :: l, k + 1, hk => by
    have := wkC_at l k (by simpa using hk)
    have e1 : (k + 1) * 2 = k * 2 + 1 + 1 := by omega
    rw [e1]
    simpa [wkC] using this
def kyC : List Ky → List Value
  | [] => []
  | x :: l => .string (ba x.1) :: .string (ba x.2) :: kyC l
theorem kyC_append (l m : List Ky) : kyC (l ++ m) = kyC l ++ kyC m := by
  induction l with
  | nil => rfl
  | cons x l ih => simp [kyC, ih]
theorem kyC_at : ∀ (l : List Ky) (k : Nat) (hk : k < l.length), (kyC l)[k * 2]? = some (.string (ba l[k].1)) ∧ (kyC l)[k * 2 + 1]? = some (.string (ba l[k].2))
  | [], k, hk => by simp at hk
  | x :: l, 0, _ => by simp [kyC]
  | x :: l, k + 1, hk => by
    have := kyC_at l k (by simpa using hk)
    have e1 : (k + 1) * 2 = k * 2 + 1 + 1 := by omega
    rw [e1]
    simpa [kyC] using this

/-- Names and secrets in a row. -/
structure PRow (w : World) (a : Option Addr) (ts : List Wk) : Prop where
  els : ts = [] ∨ ∃ B O, a = some ⟨B, O, none⟩ ∧ ∀ k (hk : k < ts.length), w.cell? ⟨B, O + k * 2, none⟩ = some (.string (ba ts[k].nm)) ∧ w.cell? ⟨B, O + k * 2 + 1, none⟩ = some (.slice ts[k].a ts[k].sec.length ts[k].c)
theorem PRow.low {w w' : World} {a : Option Addr} {ks : List Wk} (h : PRow w a ks) (hb : Below w.heap.size w w') : PRow w' a ks := by
  rcases h.els with h0 | ⟨B, O, ha, he⟩
  · exact ⟨Or.inl h0⟩
  · refine ⟨Or.inr ⟨B, O, ha, fun k hk => ?_⟩⟩
    obtain ⟨h1, h2⟩ := he k hk
    exact ⟨(hb.cell (lt_of_cell h1)).trans h1, (hb.cell (lt_of_cell h2)).trans h2⟩
theorem PRow.at {w : World} {a : Option Addr} {ks : List Wk} (h : PRow w a ks) {k : Nat} (hk : k < ks.length) : ∃ B O, a = some ⟨B, O, none⟩ ∧ w.cell? ⟨B, O + k * 2, none⟩ = some (.string (ba ks[k].nm)) ∧ w.cell? ⟨B, O + k * 2 + 1, none⟩ = some (.slice ks[k].a ks[k].sec.length ks[k].c) := by
  rcases h.els with h0 | ⟨B, O, ha, he⟩
  · rw [h0] at hk; simp at hk
  · exact ⟨B, O, ha, he k hk⟩

theorem info75 : (Tryz.prog.info? 75).map (fun i => (i.zero, i.size, i.bytes)) = some (some (.agg #[.string ⟨#[]⟩, .string ⟨#[]⟩]), 2, 32) := by kernel_rfl
theorem info90 : (Tryz.prog.info? 90).map (fun i => (i.zero, i.size, i.bytes)) = some (some (.agg #[.string ⟨#[]⟩, .slice none 0 0]), 2, 40) := by kernel_rfl

/-- Rows of our own. -/
abbrev KOwn (base : Nat) (w : World) (v : Value) (l : List Ky) : Prop := w.ownsRow base 75 2 v l.length (kyC l)
abbrev WOwn (base : Nat) (w : World) (v : Value) (l : List Wk) : Prop := w.ownsRow base 90 2 v l.length (wkC l)
theorem row_ge {w : World} {base n sz : Nat} {e : TypeId} {v : Value} {xs : List Value} {g : Nat} (h : w.ownsRow base e sz v n xs) (hg : v.ownBlock = some g) : base ≤ g ∧ ∃ cur, w.heap[g]? = some (.cells cur e (0, 0)) := by
  rcases h.2 with ⟨rfl, _⟩ | ⟨g', cap, cur, rfl, hb, hh, _⟩
  · cases hg
  · cases hg; exact ⟨hb, cur, hh⟩
theorem row_keep {w w' : World} {m base sz : Nat} {e : TypeId} {v : Value} {xs : List Value} (hr : w.ownsRow base e sz v m xs) (hb : ∀ g, v.ownBlock = some g → w'.heap[g]? = w.heap[g]?) : w'.ownsRow base e sz v m xs := by
  refine ⟨hr.1, hr.2.imp id ?_⟩
  rintro ⟨g, cap, cur, rfl, h2, h3, h4⟩
  exact ⟨g, cap, cur, rfl, h2, (hb g rfl).trans h3, h4⟩
theorem row_low {w w' : World} {m base sz : Nat} {e : TypeId} {v : Value} {xs : List Value} (hr : w.ownsRow base e sz v m xs) (hb : Below w.heap.size w w') : w'.ownsRow base e sz v m xs :=
  row_keep hr fun g hg => by
    obtain ⟨_, cur, hc⟩ := row_ge hr hg
    exact hb.block g (Array.getElem?_eq_some_iff.1 hc).1
theorem row_cell {w : World} {base n sz : Nat} {e : TypeId} {xs : List Value} {g cap : Nat} (h : w.ownsRow base e sz (.slice (some ⟨g, 0, none⟩) n cap) n xs) {j : Nat} {u : Value} (hj : xs[j]? = some u) : w.cell? ⟨g, j, none⟩ = some u := by
  rcases h.2 with ⟨e, _⟩ | ⟨g', cap', cur, e, hb, hblk, hcap, hcm, hcs, hcur⟩
  · cases e
  · cases e
    rw [Lib.cell_of_heap hblk]
    rw [← hcur, List.getElem?_take] at hj
    split at hj
    · simpa using hj
    · cases hj
theorem KOwn.at {B : Nat} {w : World} {v : Value} {l : List Ky} (h : KOwn B w v l) : ∃ a c, v = .slice a l.length c ∧ KRow w a l := by
  rcases h.2 with ⟨e, h0⟩ | ⟨g, cap, cur, e, hb, hblk, hr⟩
  · exact ⟨none, 0, by rw [e, h0], ⟨Or.inl (List.length_eq_zero_iff.1 h0)⟩⟩
  · subst e
    refine ⟨_, cap, rfl, ⟨Or.inr ⟨g, 0, rfl, fun k hk => ?_⟩⟩⟩
    obtain ⟨h1, h2⟩ := kyC_at l k hk
    rw [Nat.zero_add]
    exact ⟨row_cell h h1, row_cell h h2⟩
theorem WOwn.at {B : Nat} {w : World} {v : Value} {l : List Wk} (h : WOwn B w v l) : ∃ a c, v = .slice a l.length c ∧ PRow w a l := by
  rcases h.2 with ⟨e, h0⟩ | ⟨g, cap, cur, e, hb, hblk, hr⟩
  · exact ⟨none, 0, by rw [e, h0], ⟨Or.inl (List.length_eq_zero_iff.1 h0)⟩⟩
  · subst e
    refine ⟨_, cap, rfl, ⟨Or.inr ⟨g, 0, rfl, fun k hk => ?_⟩⟩⟩
    obtain ⟨h1, h2⟩ := wkC_at l k hk
    rw [Nat.zero_add]
    exact ⟨row_cell h h1, row_cell h h2⟩

/-- append of one element of two cells. -/
theorem app_pair {T S bytes : Nat} {z : Value} (hu : Tryz.prog.underlying S = some (.slice T)) (hinf : (Tryz.prog.info? T).map (fun i => (i.zero, i.size, i.bytes)) = some (some z, 2, bytes)) (hzs : z.cells.size = 2) (hby : bytes ≤ 100)
    {B n : Nat} {w W1 : World} {v x y : Value} {xs : List Value} (ho : w.ownsRow B T 2 v n xs) (hB : B ≤ w.heap.size) (hn : n ≤ 1000000) (hW : w.alloc (.cells #[x, y] T) = W1) (hx : x.oneCell' = true) (hy : y.oneCell' = true) :
    ∃ v' w', (Builtin.append_ #[S, S] S #[v, .slice (some ⟨w.heap.size, 0, none⟩) 1 1]).run Tryz.prog W1 = .ok v' w' ∧ w'.ownsRow B T 2 v' (n + 1) (xs ++ [x, y]) ∧ w.grownBy w' v.ownBlock := by
  obtain ⟨i0, hi, hz0, hz1, hz2⟩ := info_parts hinf
  have b1 : Below w.heap.size w W1 := by rw [← hW]; exact lowA (Below.refl _ _) _
  have hz : Blk W1 w.heap.size #[x, y] T := by rw [← hW]; exact Blk.new _ _ _
  obtain ⟨v', w', r1, r2, r3, _, _⟩ := run_append_own_at (P := Tryz.prog) W1 B S S T i0 _ 2 bytes hu hi hz0 hz1 hz2 hzs (by decide) v n xs (row_low ho b1) ⟨w.heap.size, 0, none⟩ 1 1 [x, y] rfl (fun j u hj => by
    rw [WideShapes.add_plain, Nat.zero_add, hz.cell j]
    match j, hj with
    | 0, hj => exact hj
    | 1, hj => exact hj
    | j + 2, hj => simp at hj) (fun u hu => by
      simp at hu
      rcases hu with rfl | rfl
      · exact hx
      · exact hy) (by unfold maxLen; omega) (by
      have h1 : (n + 1) * bytes ≤ (n + 1) * 100 := Nat.mul_le_mul_left _ hby
      omega) (Nat.le_trans hB b1.size)
  exact ⟨v', w', r1, r2, ⟨r3.os.trans b1.os, r3.tape.trans b1.tape, r3.output.trans b1.output, Nat.le_trans b1.size r3.size, fun k hk hne => (r3.block k (Nat.lt_of_lt_of_le hk b1.size) hne).trans (b1.block k hk)⟩⟩

/-- append of a key. -/
theorem app_key {B : Nat} {w W1 : World} {v : Value} {l : List Ky} {k : Ky} (ho : KOwn B w v l) (hB : B ≤ w.heap.size) (hn : l.length ≤ 1000000) (hW : w.alloc (.cells #[.string (ba k.1), .string (ba k.2)] 75) = W1) :
    ∃ v' w', (Builtin.append_ #[68, 68] 68 #[v, .slice (some ⟨w.heap.size, 0, none⟩) 1 1]).run Tryz.prog W1 = .ok v' w' ∧ KOwn B w' v' (l ++ [k]) ∧ w.grownBy w' v.ownBlock := by
  obtain ⟨v', w', h1, h2, h3⟩ := app_pair Tryz.underlying68 info75 rfl (by decide) ho hB hn hW rfl rfl
  refine ⟨v', w', h1, ?_, h3⟩
  unfold KOwn
  rw [kyC_append, List.length_append]
  exact h2
theorem app_wk {B : Nat} {w W1 : World} {v : Value} {l : List Wk} {k : Wk} {n : Nat} (hkn : k.sec.length = n) (ho : WOwn B w v l) (hB : B ≤ w.heap.size) (hn : l.length ≤ 1000000) (hW : w.alloc (.cells #[.string (ba k.nm), .slice k.a n k.c] 90) = W1) :
    ∃ v' w', (Builtin.append_ #[69, 69] 69 #[v, .slice (some ⟨w.heap.size, 0, none⟩) 1 1]).run Tryz.prog W1 = .ok v' w' ∧ WOwn B w' v' (l ++ [k]) ∧ w.grownBy w' v.ownBlock := by
  subst hkn
  obtain ⟨v', w', h1, h2, h3⟩ := app_pair Tryz.underlying69 info90 rfl (by decide) ho hB hn hW rfl rfl
  refine ⟨v', w', h1, ?_, h3⟩
  unfold WOwn
  rw [wkC_append, List.length_append]
  exact h2

set_option maxRecDepth 100000 in
set_option maxHeartbeats 2000000 in
theorem newKey_no {w : World} {a : Option Addr} {n c : Nat} {nm : Bs} (hl : nm.length ≤ 2000000) (hb : (nameB nm && (decide (1 ≤ n) && decide (n ≤ 64))) = false) :
    Calls Tryz.prog 102 #[.string (ba nm), .slice a n c] w fun e w' => e = .returned (.tuple #[.agg #[.string ⟨#[]⟩, .string ⟨#[]⟩], .int .i64 20]) ∧ Below w.heap.size w w' := by
  obtain ⟨A, hA⟩ : ∃ A, w.heap.size = A := ⟨_, rfl⟩
  obtain ⟨W1, hW1⟩ : ∃ W1, w.alloc (.cells #[.string ⟨#[]⟩, .string ⟨#[]⟩] 75) = W1 := ⟨_, rfl⟩
  have b1 : Below w.heap.size w W1 := by rw [← hW1]; exact (Below.refl _ _).alloc (Nat.le_refl _) _
  have q1 : Blk W1 A #[.string ⟨#[]⟩, .string ⟨#[]⟩] 75 := by rw [← hW1, ← hA]; exact Blk.new _ _ _
  obtain ⟨p, hp⟩ : ∃ p, nameB nm = p := ⟨_, rfl⟩
  rw [hp] at hb
  have KN : Hid (∀ W, Calls Tryz.prog 151 #[.string (ba nm)] W fun e w' => e = .returned (.bool p) ∧ w' = W) := hide (fun W => by have k := isKeyName_all hl W; rw [hp] at k; exact k)
  have c0 := q1.cell 0
  have c1 := q1.cell 1
  have f0 := q1.free 0
  have f1 := q1.free 1
  have qs := (q1.set 0 (.string ⟨#[]⟩)).set 1 (.string ⟨#[]⟩)
  have d0 := qs.cell 0
  have d1 := qs.cell 1
  have HL : Hid (Below w.heap.size w ((W1.setCell ⟨A, 0, none⟩ (.string ⟨#[]⟩)).setCell ⟨A, 1, none⟩ (.string ⟨#[]⟩))) := hide (low_put2 (low_put2 b1 (by omega)) (by omega))
  have HW := hide hW1
  clear hp hl b1 q1 qs hW1
  cases p with
  | false =>
    clear hb
    go_enter Tryz.func102, Tryz.ntmps102
    go_wp2_with (go_at_call 151; fail)
    rw [unhide HW]
    refine (unhide KN _).mono ?_
    rintro e wn ⟨rfl, hwn⟩
    rw [hwn]
    clear hwn wn
    go_wp2
    exact bodyPost_ret (v := .tuple #[.agg #[.string ⟨#[]⟩, .string ⟨#[]⟩], .int .i64 20]) (by simp [results, Tryz.results102, go_sem, d0, d1]) rfl ⟨rfl, unhide HL⟩
  | true =>
    by_cases h1 : n < 1
    · have i1 : (n : Int) < 1 := by omega
      clear hb
      go_enter Tryz.func102, Tryz.ntmps102
      go_wp2_with (go_at_call 151; fail)
      rw [unhide HW]
      refine (unhide KN _).mono ?_
      rintro e wn ⟨rfl, hwn⟩
      rw [hwn]
      clear hwn wn
      go_wp2
      exact bodyPost_ret (v := .tuple #[.agg #[.string ⟨#[]⟩, .string ⟨#[]⟩], .int .i64 20]) (by simp [results, Tryz.results102, go_sem, d0, d1]) rfl ⟨rfl, unhide HL⟩
    · have i1 : ¬ (n : Int) < 1 := by omega
      have i2 : (64 : Int) < (n : Int) := by simp at hb; have := hb (by omega); omega
      clear hb
      go_enter Tryz.func102, Tryz.ntmps102
      go_wp2_with (go_at_call 151; fail)
      rw [unhide HW]
      refine (unhide KN _).mono ?_
      rintro e wn ⟨rfl, hwn⟩
      rw [hwn]
      clear hwn wn
      go_wp2
      exact bodyPost_ret (v := .tuple #[.agg #[.string ⟨#[]⟩, .string ⟨#[]⟩], .int .i64 20]) (by simp [results, Tryz.results102, go_sem, d0, d1]) rfl ⟨rfl, unhide HL⟩

/-- What NewKey says of a name and a secret. -/
def NewSaid (nm sec X Y : Bs) (E : Int) : Prop := (goodB nm sec = true → X = nm ∧ Y = sec ∧ E = 0) ∧ (goodB nm sec = false → E = 20)
theorem newKey_any {w : World} {g n c : Nat} {nm sec : Bs} (hl : nm.length ≤ 2000000) (hn : sec.length = n) (h : BAt w (some ⟨g, 0, none⟩) sec) :
    Calls Tryz.prog 102 #[.string (ba nm), .slice (some ⟨g, 0, none⟩) n c] w fun e w' => ∃ X Y E, e = .returned (.tuple #[.agg #[.string (ba X), .string (ba Y)], .int .i64 E]) ∧ NewSaid nm sec X Y E ∧ Below w.heap.size w w' := by
  cases hg : goodB nm sec with
  | true =>
    have hg2 := hg
    unfold goodB at hg2
    simp only [Bool.and_eq_true, decide_eq_true_eq] at hg2
    obtain ⟨h1, h2, h3⟩ := hg2
    have hnl : nm.length ≤ 50 := by unfold nameB at h1; simp only [Bool.and_eq_true, decide_eq_true_eq] at h1; exact h1.2.2
    refine (newKey_ok (c := c) h1 (by omega) hn (by omega) (by omega) h).mono ?_
    rintro e w' ⟨rfl, b⟩
    exact ⟨nm, sec, 0, rfl, ⟨fun _ => ⟨rfl, rfl, rfl⟩, fun h => (by rw [hg] at h; cases h)⟩, b⟩
  | false =>
    refine (newKey_no (c := c) (n := n) (a := some ⟨g, 0, none⟩) hl (by rw [← hn]; exact hg)).mono ?_
    rintro e w' ⟨rfl, b⟩
    exact ⟨[], [], 20, rfl, ⟨fun h => (by rw [hg] at h; cases h), fun _ => rfl⟩, b⟩

/-- A list that is few, or is not. -/
def FewK (n : Nat) (e : Ending) : Prop := ∃ b, e = .returned (.bool b) ∧ (b = true → n ≤ 20)
set_option maxRecDepth 100000 in
set_option maxHeartbeats 2000000 in
theorem few_any {w : World} {a : Option Addr} {n c : Nat} {ts : List Wk} (hn : ts.length = n) (hok : ∀ t ∈ ts, t.nm.length ≤ 2000000 ∧ t.sec.length ≤ 2000000) (h : PRow w a ts) :
    Calls Tryz.prog 52 #[.slice a n c] w fun e w' => FewK n e ∧ ∃ q, w' = w.drewN q := by
  have HN := hide hn
  have H := hide h
  have HO := hide hok
  clear hn h hok
  go_enter Tryz.func52, Tryz.ntmps52
  go_wp2
  go_loopw [3, 4] (fun s i wr => ∃ (k nr : Nat) (m : Int), k ≤ n ∧ k ≤ 21 ∧ i = .int .i64 k ∧ s = .int .i64 m ∧ 0 ≤ m ∧ m ≤ 8000 ∧ wr = w.drewN nr) (fun _ i _ => n - (intOf i).toNat)
  case atStart => exact ⟨0, 0, 0, Nat.zero_le _, Nat.zero_le _, rfl, rfl, by omega, by omega, rfl⟩
  case round =>
    obtain ⟨k, nr, m, hk, hk3, rfl, rfl, hm0, hm1, hwr⟩ := hrel
    have HWR := hide hwr
    by_cases hlt : k < n
    · by_cases hlt3 : k ≤ 20
      · have hkt : k < ts.length := by rw [unhide HN]; exact hlt
        obtain ⟨B, O, rfl, g0, g1⟩ := (unhide H).at hkt
        have ho := unhide HO _ (List.getElem_mem hkt)
        obtain ⟨x, hx⟩ : ∃ x, ts[k] = x := ⟨_, rfl⟩
        rw [hx] at g0 g1 ho
        obtain ⟨sl, hsl⟩ : ∃ sl, x.sec.length = sl := ⟨_, rfl⟩
        rw [hsl] at g1 ho
        obtain ⟨nl, hnl⟩ : ∃ nl, (ba x.nm).size = nl := ⟨_, rfl⟩
        have m1 : wr.cell? ⟨B, O + k * 2, none⟩ = some (.string (ba x.nm)) := by rw [hwr]; exact g0
        have m2 : wr.cell? ⟨B, O + k * 2 + 1, none⟩ = some (.slice x.a sl x.c) := by rw [hwr]; exact g1
        have hlt3' : (k : Int) ≤ 20 := by omega
        have nl1 : nl ≤ 2000000 := by rw [← hnl, ba_size]; exact ho.1
        have sl1 : sl ≤ 2000000 := ho.2
        clear hx hwr g0 g1 ho hsl
        go_wp2
        go_quiet (fail)
        go_wp2
        go_roundw
        case rel => exact ⟨k + 1, nr + nq, _, by omega, by omega, by go_num, rfl, by omega, by omega, by rw [unhide HWR, World.drewN_drewN]⟩
        case measure => simp [intOf]; omega
      · have hk' : k = 21 := by omega
        subst hk'
        clear hwr
        have hn3 : ¬ (n : Int) ≤ 20 := by omega
        go_wp2
        go_ret
        exact ⟨⟨false, rfl, fun h => by cases h⟩, nr, unhide HWR⟩
    · have hkn : k = n := by omega
      subst hkn
      clear hwr
      by_cases h100 : k ≤ 20
      · have h100' : (k : Int) ≤ 20 := by omega
        go_wp2
        all_goals
          go_ret
          exact ⟨⟨_, rfl, fun _ => h100⟩, nr, unhide HWR⟩
      · have h100' : ¬ (k : Int) ≤ 20 := by omega
        go_wp2
        all_goals
          go_ret
          exact ⟨⟨false, rfl, fun h => by cases h⟩, nr, unhide HWR⟩
end Go.Proofs.YtkablmjkffdloaaGreatDoor

namespace Go.Proofs.YtkablmjkffdloaaGreatDoor
open Go.RowKit

/-- Those that may be keys. -/
def gd (ts : List Wk) : List Wk := ts.filter fun t => goodB t.nm t.sec
def kyOf (t : Wk) : Ky := (t.nm, t.sec)
theorem gd_snoc_yes {ts : List Wk} {i : Nat} (h : i < ts.length) (hg : goodB ts[i].nm ts[i].sec = true) : gd (ts.take (i + 1)) = gd (ts.take i) ++ [ts[i]] := by
  unfold gd
  rw [take_snoc h, List.filter_append]
  simp [hg]
theorem gd_snoc_no {ts : List Wk} {i : Nat} (h : i < ts.length) (hg : goodB ts[i].nm ts[i].sec = false) : gd (ts.take (i + 1)) = gd (ts.take i) := by
  unfold gd
  rw [take_snoc h, List.filter_append]
  simp [hg]
theorem gd_len (ts : List Wk) : (gd ts).length ≤ ts.length := List.length_filter_le _ _
theorem name_any {nm sec : Bs} (w : World) : Calls Tryz.prog 55 #[.agg #[.string (ba nm), .string (ba sec)]] w fun e w' => e = .returned (.string (ba nm)) ∧ Below w.heap.size w w' := by
  obtain ⟨A, hA⟩ : ∃ A, w.heap.size = A := ⟨_, rfl⟩
  obtain ⟨W1, hW1⟩ : ∃ W1, w.alloc (.cells #[.string (ba nm), .string (ba sec)] 75) = W1 := ⟨_, rfl⟩
  have b1 : Below w.heap.size w W1 := by rw [← hW1]; exact lowA (Below.refl _ _) _
  have q1 : Blk W1 A #[.string (ba nm), .string (ba sec)] 75 := by rw [← hW1, ← hA]; exact Blk.new _ _ _
  have k0 : W1.cell? ⟨A, 0, none⟩ = some (.string (ba nm)) := q1.cell 0
  have HB := hide b1
  clear b1 q1
  go_enter Tryz.func55, Tryz.ntmps55
  go_wp2
  go_ret
  exact ⟨rfl, by first | exact unhide HB | (rw [hA]; exact unhide HB) | (rw [← hA]; exact unhide HB)⟩

theorem four_low {K A : Nat} {p q r s : Value} {w6 w w' : World} (h : (w.cell? ⟨K, 0, none⟩ = some p ∧ w.cell? ⟨K, 1, none⟩ = some q) ∧ (w.cell? ⟨A, 0, none⟩ = some r ∧ w.cell? ⟨A, 1, none⟩ = some s) ∧ Below w6.heap.size w6 w) (b : Below w.heap.size w w') : (w'.cell? ⟨K, 0, none⟩ = some p ∧ w'.cell? ⟨K, 1, none⟩ = some q) ∧ (w'.cell? ⟨A, 0, none⟩ = some r ∧ w'.cell? ⟨A, 1, none⟩ = some s) ∧ Below w6.heap.size w6 w' :=
  ⟨key_low h.1 b, key_low h.2.1 b, low_trans h.2.2 b⟩

set_option maxRecDepth 100000 in
set_option maxHeartbeats 4000000 in
theorem keys_any {w : World} {a : Option Addr} {n c : Nat} {ts : List Wk} (hn : ts.length = n) (hN : n ≤ 1000) (hok : ∀ t ∈ ts, t.nm.length ≤ 2000000 ∧ t.sec.length ≤ 2000000) (hp : PRow w a ts) (hb : ∀ t ∈ ts, BAt w t.a t.sec) :
    Calls Tryz.prog 53 #[.slice a n c] w fun e w' => ∃ a1 c1 a2 c2, e = .returned (.tuple #[.slice a1 (gd ts).length c1, .slice a2 (gd ts).length c2, .bool true]) ∧ KRow w' a1 ((gd ts).map kyOf) ∧ PRow w' a2 (gd ts) ∧ Below w.heap.size w w' := by
  have HN := hide hn
  have HP := hide hp
  have HO := hide hok
  have HBT := hide hb
  clear hn hp hok hb
  go_enter Tryz.func53, Tryz.ntmps53
  go_wp2
  go_loopw [5, 6, 7, 8, 9, 10, 11, 12, 13, 14] (fun v5 v6 v7 _ _ _ _ _ _ _ wr => ∃ i : Nat, i ≤ n ∧ v7 = .int .i64 (i : Int) ∧ KOwn w.heap.size wr v5 ((gd (ts.take i)).map kyOf) ∧ WOwn w.heap.size wr v6 (gd (ts.take i)) ∧ Below w.heap.size w wr) (fun _ _ v7 _ _ _ _ _ _ _ _ => n - (intOf v7).toNat)
  case atStart => exact ⟨0, Nat.zero_le _, rfl, World.ownsRow_nil _ _ _ _, World.ownsRow_nil _ _ _ _, Below.refl _ _⟩
  case round =>
    rename World => wr
    obtain ⟨i, hi, rfl, hko, hwo, hbw⟩ := hrel
    by_cases hlt : i < n
    · have hil : i < ts.length := by rw [unhide HN]; exact hlt
      have hlt' : (i : Int) < (n : Int) := by omega
      obtain ⟨B, O, rfl, g0, g1⟩ := ((unhide HP).low hbw).at hil
      have ho := unhide HO _ (List.getElem_mem hil)
      have hbt := unhide HBT _ (List.getElem_mem hil)
      obtain ⟨x, hx⟩ : ∃ x, ts[i] = x := ⟨_, rfl⟩
      rw [hx] at g0 g1 ho hbt
      have HX := hide hx
      obtain ⟨nm, sec, xa, xc⟩ := x
      simp only at g0 g1 ho hbt
      obtain ⟨sl, hsl⟩ : ∃ sl, sec.length = sl := ⟨_, rfl⟩
      rw [hsl] at g1 ho
      obtain ⟨ho1, ho2⟩ := ho
      obtain ⟨A, hA⟩ : ∃ A, wr.heap.size = A := ⟨_, rfl⟩
      have l0 : Below wr.heap.size wr (wr.alloc (.cells #[.string ⟨#[]⟩, .slice none 0 0] 90)) := lowA (Below.refl _ _) _
      have m0 : (wr.alloc (.cells #[.string ⟨#[]⟩, .slice none 0 0] 90)).cell? ⟨B, O + i * 2, none⟩ = some (.string (ba nm)) := (l0.cell (lt_of_cell g0)).trans g0
      have m1 : (wr.alloc (.cells #[.string ⟨#[]⟩, .slice none 0 0] 90)).cell? ⟨B, O + i * 2 + 1, none⟩ = some (.slice xa sl xc) := (l0.cell (lt_of_cell g1)).trans g1
      have qn := Blk.new wr #[.string ⟨#[]⟩, .slice none 0 0] 90
      have n0 := qn.cell 0
      have n1 := qn.cell 1
      have f0 := qn.free 0
      have f1 := qn.free 1
      obtain ⟨W1, hW1⟩ : ∃ W1, (wr.alloc (.cells #[.string (ba nm), .slice xa sl xc] 90)).drew = W1 := ⟨_, rfl⟩
      have b1 : Below wr.heap.size wr W1 := by rw [← hW1]; exact lowD (lowA (Below.refl _ _) _)
      have q1 : Blk W1 A #[.string (ba nm), .slice xa sl xc] 90 := by rw [← hW1, ← hA]; exact Blk.new _ _ _
      have e0 : W1.cell? ⟨B, O + i * 2, none⟩ = some (.string (ba nm)) := (b1.cell (lt_of_cell g0)).trans g0
      have e1 : W1.cell? ⟨B, O + i * 2 + 1, none⟩ = some (.slice xa sl xc) := (b1.cell (lt_of_cell g1)).trans g1
      have HBX1 := hide (hbt.low (low_trans hbw b1))
      have KL := hide (lent_any (c := xc) hsl ho2 (unhide HBX1))
      have HE01 := hide (show W1.cell? ⟨B, O + i * 2, none⟩ = some (.string (ba nm)) ∧ W1.cell? ⟨B, O + i * 2 + 1, none⟩ = some (.slice xa sl xc) from ⟨e0, e1⟩)
      have HB1 := hide b1
      have HQ1 := hide q1
      have HKO := hide hko
      have HWO := hide hwo
      have HBW := hide hbw
      have HSL := hide hsl
      have HA := hide hA
      have HW1 := hide hW1
      clear hko hwo hbw hbt hx hsl hA hW1 qn l0 b1 q1
      go_wp2
      go_region
      rw [unhide HW1, unhide HA]
      clear m0 m1 n0 n1 f0 f1 g0 g1
      go_wp2_with (go_at_call 26; fail)
      refine (unhide KL).mono ?_
      rintro e w2 ⟨g, cap, rfl, hc1, hc2, hgg, o2, b2⟩
      clear KL e0 e1
      obtain ⟨e0, e1⟩ := unhide HE01
      have e02 : w2.cell? ⟨B, O + i * 2, none⟩ = some (.string (ba nm)) := (b2.cell (lt_of_cell e0)).trans e0
      have e12 : w2.cell? ⟨B, O + i * 2 + 1, none⟩ = some (.slice xa sl xc) := (b2.cell (lt_of_cell e1)).trans e1
      have hgl : g < w2.heap.size := OwnB.lt o2 g rfl
      have KN := hide (newKey_any (c := cap) ho1 (unhide HSL) o2.front)
      have HB2 := hide b2
      have HO2 := hide o2
      have HGL := hide hgl
      have HGG := hide hgg
      have HC1 := hide hc1
      clear b2 o2 hgl e0 e1 hgg hc1
      go_wp2_with (go_at_call 102; fail)
      refine (unhide KN).mono ?_
      rintro e w3 ⟨X, Y, E, rfl, hsaid, b3⟩
      clear KN
      obtain ⟨K, hK⟩ : ∃ K, w3.heap.size = K := ⟨_, rfl⟩
      obtain ⟨W4, hW4⟩ : ∃ W4, w3.alloc (.cells #[.string (ba X), .string (ba Y)] 75) = W4 := ⟨_, rfl⟩
      have b4 : Below w3.heap.size w3 W4 := by rw [← hW4]; exact lowA (Below.refl _ _) _
      have q4 : Blk W4 K #[.string (ba X), .string (ba Y)] 75 := by rw [← hW4, ← hK]; exact Blk.new _ _ _
      have b24 : Below w2.heap.size w2 W4 := low_trans b3 b4
      have b14 : Below W1.heap.size W1 W4 := low_trans (unhide HB2) b24
      have e14 : (w3.alloc (.cells #[.string (ba X), .string (ba Y)] 75)).cell? ⟨B, O + i * 2 + 1, none⟩ = some (.slice xa sl xc) := by rw [hW4]; exact (b24.cell (lt_of_cell e12)).trans e12
      have hKg : K ≠ g := by have h1 := b3.size; have h2 := unhide HGL; omega
      have o4 := OwnB.low (unhide HO2) b24
      have KK := hide (kept_any (c := xc) (unhide HSL) ho2 (unhide HC1) o4 ((unhide HBX1).low b14))
      have HO4 := hide o4
      have HQ4 := hide q4
      have HB14 := hide b14
      have HSAID := hide hsaid
      have HKG := hide hKg
      have HK := hide hK
      have HW4 := hide hW4
      clear b3 b4 b24 b14 q4 o4 hK hW4 hsaid hKg e02 e12
      go_wp2_with (go_at_call 36; fail)
      rw [unhide HW4]
      refine (unhide KK).mono ?_
      rintro e w5 ⟨rfl, q, hw5⟩
      have b45 : Below W4.heap.size W4 w5 := by rw [hw5]; exact ⟨rfl, rfl, rfl, Nat.le_refl _, fun _ _ => rfl⟩
      have HO5 := hide (OwnB.low (unhide HO4) b45)
      have HQ5 := hide ((unhide HQ4).low b45)
      have HB5 := hide (low_trans (unhide HB14) b45)
      clear hw5 b45 KK e14 HO4 HQ4 HB14
      rw [unhide HK]
      go_wp2
      go_loopw [13] (fun v13 ws => ∃ (j : Nat) (l : Bs), j ≤ sl ∧ v13 = .int .i64 (j : Int) ∧ l.length = sl + 1 ∧ OwnB W1.heap.size ws (.slice (some ⟨g, 0, none⟩) (sl + 1) cap) l ∧ Blk ws K #[.string (ba X), .string (ba Y)] 75 ∧ Below W1.heap.size W1 ws) (fun v13 _ => sl - (intOf v13).toNat)
      case atStart => exact ⟨0, sec ++ [201], Nat.zero_le _, rfl, by rw [List.length_append, unhide HSL]; rfl, unhide HO5, unhide HQ5, unhide HB5⟩
      case round =>
        rename World => ws
        obtain ⟨j, l, hj, rfl, hll, hol, hqs, hbs⟩ := hrel
        by_cases hjs : j < sl
        · have hjs' : (j : Int) < (sl : Int) := by omega
          have hol2 := hol
          unfold OwnB at hol2
          rw [hll] at hol2
          obtain ⟨y, cj⟩ : ∃ y : Int, ws.cell? ⟨g, j, none⟩ = some (.int .u8 y) := by
            rw [hol2.cellAt j (by omega), List.getElem?_map, List.getElem?_eq_getElem (by omega)]
            exact ⟨_, rfl⟩
          have fj := hol2.frozenAt j
          have HP1 : Hid (OwnB W1.heap.size (ws.setCell ⟨g, j, none⟩ (.int .u8 9)) (.slice (some ⟨g, 0, none⟩) (sl + 1) cap) (l.set j 9)) := hide (OwnB.put hol j 9)
          have HP2 : Hid (Blk (ws.setCell ⟨g, j, none⟩ (.int .u8 9)) K #[.string (ba X), .string (ba Y)] 75) := hide ((Below.heap_setCell _ _ _ _ (by show K ≠ g; exact unhide HKG)).trans hqs)
          have HP3 : Hid (Below W1.heap.size W1 (ws.setCell ⟨g, j, none⟩ (.int .u8 9))) := hide (low_put2 hbs (unhide HGG))
          have HLL := hide hll
          clear hol hol2 hqs hbs hll
          go_wp2
          go_roundw
          case rel => exact ⟨j + 1, l.set j 9, hjs, by push_cast; rfl, by rw [List.length_set]; exact unhide HLL, unhide HP1, unhide HP2, unhide HP3⟩
          case measure => simp [intOf]; omega
        · have q5 := (unhide HQ1).low hbs
          have a0 : ws.cell? ⟨A, 0, none⟩ = some (.string (ba nm)) := q5.cell 0
          have a1 : ws.cell? ⟨A, 1, none⟩ = some (.slice xa sl xc) := q5.cell 1
          have KG := hide (refGood_any (c := xc) (a := xa) ho1 (unhide HSL) ws)
          obtain ⟨gb, hgb⟩ : ∃ gb, goodB nm sec = gb := ⟨_, rfl⟩
          rw [hgb] at KG
          have HGB := hide hgb
          have HQS := hide hqs
          have HBS := hide hbs
          clear hol hqs hbs hgb q5
          go_wp2_with (go_at_call 103; fail)
          refine (unhide KG).mono ?_
          rintro e w6 ⟨rfl, b6⟩
          have HQ6 := hide ((unhide HQS).low b6)
          have HB6 := hide (low_trans (unhide HBS) b6)
          clear b6 KG
          cases gb with
          | false =>
            obtain rfl := (unhide HSAID).2 (unhide HGB)
            have KE := hide (errno_any 20)
            have HR : Hid (KOwn w.heap.size w6 u5 ((gd (ts.take (i + 1))).map kyOf) ∧ WOwn w.heap.size w6 u6 (gd (ts.take (i + 1))) ∧ Below w.heap.size w w6) := hide (by
              have hx := unhide HX
              have e : gd (ts.take (i + 1)) = gd (ts.take i) := gd_snoc_no hil (by rw [hx]; exact unhide HGB)
              have bb := low_trans (unhide HB1) (unhide HB6)
              rw [e]
              exact ⟨row_low (unhide HKO) bb, row_low (unhide HWO) bb, low_trans (unhide HBW) bb⟩)
            go_wp2_with (go_at_call 19; refine (unhide KE _).mono ?_; rintro e wn ⟨rfl, hwn⟩; rw [hwn]; clear hwn wn)
            go_roundw
            case rel => exact ⟨i + 1, hlt, by push_cast; rfl, unhide HR⟩
            case measure => simp [intOf]; omega
          | true =>
            obtain ⟨rfl, rfl, rfl⟩ := (unhide HSAID).1 (unhide HGB)
            have KE := hide (errno_any 0)
            have hgd := unhide HGB
            unfold goodB at hgd
            simp only [Bool.and_eq_true, decide_eq_true_eq] at hgd
            obtain ⟨hgn, hgs1, hgs2⟩ := hgd
            have hnl : X.length ≤ 50 := by unfold nameB at hgn; simp only [Bool.and_eq_true, decide_eq_true_eq] at hgn; exact hgn.2.2
            have hqA := (unhide HQ1).low (unhide HB6)
            have hqK := unhide HQ6
            have hS6 : (w6.cell? ⟨K, 0, none⟩ = some (.string (ba X)) ∧ w6.cell? ⟨K, 1, none⟩ = some (.string (ba Y))) ∧ (w6.cell? ⟨A, 0, none⟩ = some (.string (ba X)) ∧ w6.cell? ⟨A, 1, none⟩ = some (.slice xa sl xc)) ∧ Below w6.heap.size w6 w6 := ⟨⟨hqK.cell 0, hqK.cell 1⟩, ⟨hqA.cell 0, hqA.cell 1⟩, Below.refl _ _⟩
            have hS6d := four_low hS6 (lowD (Below.refl _ _))
            obtain ⟨ID, hID⟩ : ∃ ID : Int, ((idN X Y).toNat : Int) = ID := ⟨_, rfl⟩
            have H55 : Hid (∀ wx, ((wx.cell? ⟨K, 0, none⟩ = some (.string (ba X)) ∧ wx.cell? ⟨K, 1, none⟩ = some (.string (ba Y))) ∧ (wx.cell? ⟨A, 0, none⟩ = some (.string (ba X)) ∧ wx.cell? ⟨A, 1, none⟩ = some (.slice xa sl xc)) ∧ Below w6.heap.size w6 wx) → Calls Tryz.prog 55 #[.agg #[.string (ba X), .string (ba Y)]] wx fun e w' => e = .returned (.string (ba X)) ∧ ((w'.cell? ⟨K, 0, none⟩ = some (.string (ba X)) ∧ w'.cell? ⟨K, 1, none⟩ = some (.string (ba Y))) ∧ (w'.cell? ⟨A, 0, none⟩ = some (.string (ba X)) ∧ w'.cell? ⟨A, 1, none⟩ = some (.slice xa sl xc)) ∧ Below w6.heap.size w6 w')) := hide (fun wx hx => by
              refine (name_any wx).mono ?_
              rintro e w' ⟨rfl, b⟩
              exact ⟨rfl, four_low hx b⟩)
            have H104 : Hid (∀ wx, ((wx.cell? ⟨K, 0, none⟩ = some (.string (ba X)) ∧ wx.cell? ⟨K, 1, none⟩ = some (.string (ba Y))) ∧ (wx.cell? ⟨A, 0, none⟩ = some (.string (ba X)) ∧ wx.cell? ⟨A, 1, none⟩ = some (.slice xa sl xc)) ∧ Below w6.heap.size w6 wx) → Calls Tryz.prog 104 #[.agg #[.string (ba X), .string (ba Y)]] wx fun e w' => e = .returned (.int .u32 ID) ∧ ((w'.cell? ⟨K, 0, none⟩ = some (.string (ba X)) ∧ w'.cell? ⟨K, 1, none⟩ = some (.string (ba Y))) ∧ (w'.cell? ⟨A, 0, none⟩ = some (.string (ba X)) ∧ w'.cell? ⟨A, 1, none⟩ = some (.slice xa sl xc)) ∧ Below w6.heap.size w6 w')) := hide (fun wx hx => by
              have k := keyID_any (nm := X) (sec := Y) (by omega) (by omega) wx
              unfold keyV at k
              rw [hID] at k
              refine k.mono ?_
              rintro e w' ⟨rfl, b⟩
              exact ⟨rfl, four_low hx b⟩)
            have HBX6 := hide ((unhide HBX1).low (unhide HB6))
            have H105 : Hid (∀ wx, ((wx.cell? ⟨K, 0, none⟩ = some (.string (ba X)) ∧ wx.cell? ⟨K, 1, none⟩ = some (.string (ba Y))) ∧ (wx.cell? ⟨A, 0, none⟩ = some (.string (ba X)) ∧ wx.cell? ⟨A, 1, none⟩ = some (.slice xa sl xc)) ∧ Below w6.heap.size w6 wx) → Calls Tryz.prog 105 #[.agg #[.string (ba X), .slice xa sl xc]] wx fun e w' => e = .returned (.int .u32 ID) ∧ ((w'.cell? ⟨K, 0, none⟩ = some (.string (ba X)) ∧ w'.cell? ⟨K, 1, none⟩ = some (.string (ba Y))) ∧ (w'.cell? ⟨A, 0, none⟩ = some (.string (ba X)) ∧ w'.cell? ⟨A, 1, none⟩ = some (.slice xa sl xc)) ∧ Below w6.heap.size w6 w')) := hide (fun wx hx => by
              have k := refNumber_any (nm := X) (sec := Y) (c := xc) (by omega) (unhide HSL) (by have := unhide HSL; omega) ((unhide HBX6).low hx.2.2)
              rw [hID] at k
              refine k.mono ?_
              rintro e w' ⟨rfl, b⟩
              exact ⟨rfl, four_low hx b⟩)
            have hs1 : ((ba X).toList != (ba X).toList) = false := by simp
            have hs2 : ((ba X).toList == (ba X).toList) = true := by simp
            have hs3 : (ID != ID) = false := by simp
            have HQA := hide hqA
            clear hqA hqK hID a0 a1 hgn hgs1 hgs2
            go_wp2_with (go_at_call 19; refine (unhide KE _).mono ?_; rintro e wn ⟨rfl, hwn⟩; rw [hwn]; clear hwn wn)
            go_region_held3 (fun wx => (wx.cell? ⟨K, 0, none⟩ = some (.string (ba X)) ∧ wx.cell? ⟨K, 1, none⟩ = some (.string (ba Y))) ∧ (wx.cell? ⟨A, 0, none⟩ = some (.string (ba X)) ∧ wx.cell? ⟨A, 1, none⟩ = some (.slice xa sl xc)) ∧ Below w6.heap.size w6 wx)
              (first | assumption | exact hS6 | exact hS6d)
              (first
                | (go_at_call 55; refine (unhide H55 _ (by assumption)).mono ?_; rintro e w9 ⟨rfl, hS9⟩)
                | (go_at_call 104; refine (unhide H104 _ (by assumption)).mono ?_; rintro e w9 ⟨rfl, hS9⟩)
                | (go_at_call 105; refine (unhide H105 _ (by assumption)).mono ?_; rintro e w9 ⟨rfl, hS9⟩))
            have b9 := hS9.2.2
            have bW9 : Below wr.heap.size wr w9 := low_trans (unhide HB1) (low_trans (unhide HB6) b9)
            have ko9 := row_low (unhide HKO) bW9
            have wo9 := row_low (unhide HWO) bW9
            have bw9 := low_trans (unhide HBW) bW9
            have qA9 := (unhide HQA).low b9
            have hln : (gd (ts.take i)).length ≤ 1000 := by have h1 := gd_len (ts.take i); rw [List.length_take] at h1; omega
            obtain ⟨W10, hW10⟩ : ∃ W10, w9.alloc (.cells #[.string (ba X), .string (ba Y)] 75) = W10 := ⟨_, rfl⟩
            obtain ⟨v11, w11, happ1, ko11, gr11⟩ := app_key (k := (X, Y)) ko9 bw9.size (by rw [List.length_map]; omega) hW10
            have wo11 := row_keep wo9 (fun g6 hg6 => by
              obtain ⟨_, cur, hc⟩ := row_ge wo9 hg6
              refine gr11.block g6 (Array.getElem?_eq_some_iff.1 hc).1 (fun e => ?_)
              obtain ⟨_, cur2, hc2⟩ := row_ge ko9 e.symm
              have e2 := hc.symm.trans hc2
              simp at e2)
            have bw11 : Below w.heap.size w w11 := bw9.grown gr11 bw9.size (fun k hk => (row_ge ko9 hk).1)
            have qA11 : Blk w11 A #[.string (ba X), .slice xa sl xc] 90 := (gr11.block A qA9.lt (fun e => by
              obtain ⟨_, cur2, hc2⟩ := row_ge ko9 e.symm
              have e2 := (show w9.heap[A]? = some (.cells #[.string (ba X), .slice xa sl xc] 90 (0, 0)) from qA9).symm.trans hc2
              simp at e2)).trans qA9
            have z0 : w11.cell? ⟨A, 0, none⟩ = some (.string (ba X)) := qA11.cell 0
            have z1 : w11.cell? ⟨A, 1, none⟩ = some (.slice xa sl xc) := qA11.cell 1
            obtain ⟨W12, hW12⟩ : ∃ W12, w11.alloc (.cells #[.string (ba X), .slice xa sl xc] 90) = W12 := ⟨_, rfl⟩
            obtain ⟨v13, w13, happ2, wo13, gr13⟩ := app_wk (k := ⟨X, Y, xa, xc⟩) (unhide HSL) wo11 bw11.size (by omega) hW12
            have ko13 := row_keep ko11 (fun g6 hg6 => by
              obtain ⟨_, cur, hc⟩ := row_ge ko11 hg6
              refine gr13.block g6 (Array.getElem?_eq_some_iff.1 hc).1 (fun e => ?_)
              obtain ⟨_, cur2, hc2⟩ := row_ge wo11 e.symm
              have e2 := hc.symm.trans hc2
              simp at e2)
            have bw13 : Below w.heap.size w w13 := bw11.grown gr13 bw11.size (fun k hk => (row_ge wo11 hk).1)
            have HR : Hid (KOwn w.heap.size w13 v11 ((gd (ts.take (i + 1))).map kyOf) ∧ WOwn w.heap.size w13 v13 (gd (ts.take (i + 1))) ∧ Below w.heap.size w w13) := hide (by
              have hx := unhide HX
              have e := gd_snoc_yes hil (by rw [hx]; exact unhide HGB)
              rw [e, hx, List.map_append]
              exact ⟨ko13, wo13, bw13⟩)
            have k0 := hS9.1.1
            have k1 := hS9.1.2
            have HW10 := hide hW10
            have HW12 := hide hW12
            clear b9 bW9 ko9 wo9 bw9 qA9 hln hW10 ko11 gr11 wo11 bw11 qA11 hW12 wo13 gr13 ko13 bw13 hS9 hS6 hS6d
            go_wp2_with (first
              | (at_builtin; rw [unhide HW10]; refine Lib.wpList_append_run _ rfl _ _ _ _ rfl _ _ rfl rfl _ _ happ1 ?_; clear happ1)
              | (at_builtin; rw [unhide HW12]; refine Lib.wpList_append_run _ rfl _ _ _ _ rfl _ _ rfl rfl _ _ happ2 ?_; clear happ2))
            go_roundw
            case rel => exact ⟨i + 1, hlt, by push_cast; rfl, unhide HR⟩
            case measure => simp [intOf]; omega
    · have hie : i = n := by omega
      subst hie
      rw [List.take_of_length_le (by rw [unhide HN]; exact Nat.le_refl _)] at hko hwo
      obtain ⟨a1, c1, e1, hr1⟩ := KOwn.at hko
      obtain ⟨a2, c2, e2, hr2⟩ := WOwn.at hwo
      rw [List.length_map] at e1
      subst e1
      subst e2
      have HR : Hid (KRow wr a1 ((gd ts).map kyOf) ∧ PRow wr a2 (gd ts) ∧ Below w.heap.size w wr) := hide ⟨hr1, hr2, hbw⟩
      clear hko hwo hr1 hr2 hbw
      go_wp2
      first
        | exact bodyPost_ret (v := .tuple #[.slice a1 (gd ts).length c1, .slice a2 (gd ts).length c2, .bool true]) (by simp [results, Tryz.results53, go_sem]) rfl ⟨a1, c1, a2, c2, rfl, unhide HR⟩
        | exact bodyPost_ret (v := .tuple #[.slice a1 (gd ts).length c1, .slice a2 (gd ts).length c2, .bool true]) rfl rfl ⟨a1, c1, a2, c2, rfl, unhide HR⟩
end Go.Proofs.YtkablmjkffdloaaGreatDoor
