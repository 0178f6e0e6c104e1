/-
  Files that were handed out may be written: what stays.
-/
import Derived.Test.YtkablmjkffdloaaGreatDoorUnpV
import Derived.Test.YtkablmjkffdloaaGreatDoorOneY
namespace Go.Proofs.YtkablmjkffdloaaGreatDoor
open Go.RowKit

theorem info3 : (Tryz.prog.info? 3).map (fun i => (i.zero, i.size, i.bytes)) = some (some (.int .i64 0), 1, 8) := by kernel_rfl
def iVal (x : Nat) : Value := .int .i64 (x : Int)
abbrev IRow (base : Nat) (w : World) (v : Value) (ss : List Nat) : Prop := w.ownsRow base 3 1 v ss.length (ss.map iVal)
theorem app_i {B : Nat} {w W1 : World} {v : Value} {ss : List Nat} {x : Nat} (ho : IRow B w v ss) (hB : B ≤ w.heap.size) (hl : ss.length ≤ 1000000) (hW : w.alloc (.cells #[.int .i64 (x : Int)] 3) = W1) :
    ∃ v' w', (Builtin.append_ #[140, 140] 140 #[v, .slice (some ⟨w.heap.size, 0, none⟩) 1 1]).run Tryz.prog W1 = .ok v' w' ∧ IRow B w' v' (ss ++ [x]) ∧ GrB w w' v v' := by
  obtain ⟨i0, hi, hz0, hz1, hz2⟩ := info_parts info3
  have b1 : Below w.heap.size w W1 := by rw [← hW]; exact lowB (Below.refl _ _) _
  have hz : Blk W1 w.heap.size #[.int .i64 (x : Int)] 3 := by rw [← hW]; exact Blk.new _ _ _
  obtain ⟨v', w', r1, r2, r3, _, r5⟩ := run_append_own_at (P := Tryz.prog) W1 B 140 140 3 i0 _ 1 8 Tryz.underlying140 hi hz0 hz1 hz2 rfl (by decide) v ss.length (ss.map iVal) (u_row_low ho b1) ⟨w.heap.size, 0, none⟩ 1 1 [.int .i64 (x : Int)] rfl (fun j u hj => by
    match j, hj with
    | 0, hj => simp at hj; rw [← hj]; exact hz.cell 0) (fun u hu => by simp at hu; rw [hu]; rfl) (by unfold maxLen; omega) (by omega) (Nat.le_trans hB b1.size)
  refine ⟨v', w', r1, ?_, ⟨r3.os.trans b1.os, r3.tape.trans b1.tape, r3.output.trans b1.output, Nat.le_trans b1.size r3.size, fun k hk hne => (r3.block k (Nat.lt_of_lt_of_le hk b1.size) hne).trans (b1.block k hk), ?_⟩⟩
  · unfold IRow
    rw [List.map_append, List.length_append]
    exact r2
  · rcases r5 with e | e
    · exact Or.inl e
    · exact Or.inr ⟨_, e, b1.size⟩
theorem IRow.at {B : Nat} {w : World} {v : Value} {ss : List Nat} (h : IRow B w v ss) : ∃ a c, v = .slice a ss.length c ∧ ∀ k (hk : k < ss.length), ∃ g, a = some ⟨g, 0, none⟩ ∧ w.cell? ⟨g, 0 + k, none⟩ = some (.int .i64 ((ss[k] : Nat) : Int)) := by
  rcases h.2 with ⟨e, h0⟩ | ⟨g, cap, cur, e, hb, hblk, hr⟩
  · exact ⟨none, 0, by rw [e, h0], fun k hk => by omega⟩
  · subst e
    refine ⟨_, cap, rfl, fun k hk => ⟨g, rfl, ?_⟩⟩
    rw [Nat.zero_add]
    refine u_row_cell h ?_
    simp [hk, iVal]
theorem row_lt {w : World} {base n sz : Nat} {e : TypeId} {v : Value} {xs : List Value} {g : Nat} (h : w.ownsRow base e sz v n xs) (hg : v.ownBlock = some g) : g < w.heap.size := by
  obtain ⟨_, cur, hc⟩ := u_row_ge h hg
  exact (Array.getElem?_eq_some_iff.1 hc).1
def flV (x : Fl) : Value := .slice x.a x.n x.c
/-- Files with bytes of their own, and sums, in rows that grow. -/
structure RU (w0 w : World) (v4 v5 : Value) (xs : List Fl) (L : List Sf) (ss : List Nat) : Prop where
  l : FRow w0.heap.size w v4 xs
  s : IRow w0.heap.size w v5 ss
  nm : xs.map Fl.nm = L.map Sf.nm
  one : ∀ k (h1 : k < xs.length) (h2 : k < L.length), L[k].d.length = xs[k].n ∧ OwnB w0.heap.size w (flV xs[k]) L[k].d ∧ ∀ g, (flV xs[k]).ownBlock = some g → v4.ownBlock ≠ some g ∧ v5.ownBlock ≠ some g
  ne : ∀ g, v4.ownBlock = some g → v5.ownBlock ≠ some g
  low : Below w0.heap.size w0 w
theorem RU.len {w0 w : World} {v4 v5 : Value} {xs : List Fl} {L : List Sf} {ss : List Nat} (h : RU w0 w v4 v5 xs L ss) : xs.length = L.length := by
  have := congrArg List.length h.nm
  simpa using this
theorem RU.step {w0 w w' : World} {v4 v5 : Value} {xs : List Fl} {L : List Sf} {ss : List Nat} (h : RU w0 w v4 v5 xs L ss) (b : Below w.heap.size w w') : RU w0 w' v4 v5 xs L ss :=
  ⟨u_row_low h.l b, u_row_low h.s b, h.nm, fun k h1 h2 => ⟨(h.one k h1 h2).1, OwnB.low (h.one k h1 h2).2.1 b, (h.one k h1 h2).2.2⟩, h.ne, low_trans h.low b⟩
theorem RU.sum {w0 w W1 : World} {v4 v5 : Value} {xs : List Fl} {L : List Sf} {ss : List Nat} {x : Nat} (h : RU w0 w v4 v5 xs L ss) (hl : ss.length ≤ 1000000) (hW : w.alloc (.cells #[.int .i64 (x : Int)] 3) = W1) :
    ∃ v' w', (Builtin.append_ #[140, 140] 140 #[v5, .slice (some ⟨w.heap.size, 0, none⟩) 1 1]).run Tryz.prog W1 = .ok v' w' ∧ RU w0 w' v4 v' xs L (ss ++ [x]) := by
  obtain ⟨v', w', r1, r2, g⟩ := app_i h.s h.low.size hl hW
  have keep : ∀ q, q < w.heap.size → v5.ownBlock ≠ some q → w'.heap[q]? = w.heap[q]? := fun q hq hn => g.block q hq (fun e => hn e.symm)
  have apart : ∀ q, q < w.heap.size → v5.ownBlock ≠ some q → v'.ownBlock ≠ some q := fun q hq hn e => by
    rcases g.own with e2 | ⟨p, e2, hp⟩
    · exact hn (by rw [← e2]; exact e)
    · rw [e2] at e
      have := Option.some.inj e
      omega
  refine ⟨v', w', r1, ⟨u_row_keep h.l fun q hq => keep q (row_lt h.l hq) (h.ne q hq), r2, h.nm, fun k h1 h2 => ?_, fun q hq => apart q (row_lt h.l hq) (h.ne q hq), h.low.trans (g.low h.low.size (fun q hq => (u_row_ge h.s hq).1))⟩⟩
  obtain ⟨e1, o, hn⟩ := h.one k h1 h2
  exact ⟨e1, OwnB.keep o fun q hq => keep q (OwnB.lt o q hq) (hn q hq).2, fun q hq => ⟨(hn q hq).1, apart q (OwnB.lt o q hq) (hn q hq).2⟩⟩
theorem RU.file {w0 w w8 W1 : World} {v4 v5 : Value} {xs : List Fl} {L : List Sf} {ss : List Nat} {x : Fl} {s : Sf} (h : RU w0 w v4 v5 xs L ss) (hl : xs.length ≤ 1000000) (b8 : Below w.heap.size w w8) (hnm : x.nm = s.nm) (hn : s.d.length = x.n) (ho : OwnB w.heap.size w8 (flV x) s.d) (hW : w8.alloc (.cells #[.string (ba x.nm), .slice x.a x.n x.c] 56) = W1) :
    ∃ v' w', (Builtin.append_ #[22, 22] 22 #[v4, .slice (some ⟨w8.heap.size, 0, none⟩) 1 1]).run Tryz.prog W1 = .ok v' w' ∧ RU w0 w' v' v5 (xs ++ [x]) (L ++ [s]) ss := by
  have h8 := h.step b8
  obtain ⟨v', w', r1, r2, g⟩ := app_Fg h8.l h8.low.size hl hW
  have keep : ∀ q, q < w8.heap.size → v4.ownBlock ≠ some q → w'.heap[q]? = w8.heap[q]? := fun q hq hn => g.block q hq (fun e => hn e.symm)
  have apart : ∀ q, q < w8.heap.size → v4.ownBlock ≠ some q → v'.ownBlock ≠ some q := fun q hq hn e => by
    rcases g.own with e2 | ⟨p, e2, hp⟩
    · exact hn (by rw [← e2]; exact e)
    · rw [e2] at e
      have := Option.some.inj e
      omega
  have n5 : ∀ q, v5.ownBlock = some q → v4.ownBlock ≠ some q := fun q h1 h2 => h.ne q h2 h1
  have nx : ∀ q, (flV x).ownBlock = some q → v4.ownBlock ≠ some q ∧ v5.ownBlock ≠ some q := fun q hq => by
    have h1 := OwnB.base ho q hq
    exact ⟨fun e => by have := row_lt h.l e; omega, fun e => by have := row_lt h.s e; omega⟩
  refine ⟨v', w', r1, ⟨r2, u_row_keep h8.s fun q hq => keep q (row_lt h8.s hq) (n5 q hq), by rw [List.map_append, List.map_append, h.nm]; simp [hnm], fun k h1 h2 => ?_, fun q hq hq5 => apart q (row_lt h8.s hq5) (n5 q hq5) hq, h8.low.trans (g.low h8.low.size (fun q hq => (u_row_ge h8.l hq).1))⟩⟩
  have hll := h.len
  rw [List.length_append] at h1 h2
  by_cases hk : k < xs.length
  · obtain ⟨e1, o, hn2⟩ := h8.one k hk (by omega)
    rw [List.getElem_append_left hk, List.getElem_append_left (by omega)]
    exact ⟨e1, OwnB.keep o fun q hq => keep q (OwnB.lt o q hq) (hn2 q hq).1, fun q hq => ⟨apart q (OwnB.lt o q hq) (hn2 q hq).1, (hn2 q hq).2⟩⟩
  · simp at h1 h2
    have hk2 : k = xs.length := by omega
    subst hk2
    have hL : (L ++ [s])[xs.length]'(by simp; omega) = s := by
      rw [List.getElem_append_right (by omega)]
      simp
    have hX : (xs ++ [x])[xs.length]'(by simp) = x := by simp
    rw [hL, hX]
    have o2 : OwnB w0.heap.size w8 (flV x) s.d := OwnB.less h.low.size ho
    exact ⟨hn, OwnB.keep o2 fun q hq => keep q (OwnB.lt ho q hq) (nx q hq).1, fun q hq => ⟨apart q (OwnB.lt ho q hq) (nx q hq).1, (nx q hq).2⟩⟩
theorem own_parts {base : Nat} {w : World} {y : Fl} {d : Bs} (o : OwnB base w (flV y) d) : BAt w y.a d ∧ d.length ≤ y.c ∧ y.c ≤ maxLen ∧ (y.a = none ∨ ∃ B O, y.a = some ⟨B, O, none⟩) := by
  obtain ⟨a', c', hv, hat, h5, h6⟩ := OwnB.at o
  injection hv with q1 q2 q3
  refine ⟨by rw [q1]; exact hat, by rw [q3]; exact h5, by rw [q3]; exact h6, ?_⟩
  rcases o.2 with ⟨e, _⟩ | ⟨g, cap, cur, e, _⟩
  · injection e with e1 _ _
    exact Or.inl e1
  · injection e with e1 _ _
    exact Or.inr ⟨_, _, e1⟩
theorem RU.datg {w0 w : World} {v4 v5 : Value} {xs : List Fl} {L : List Sf} {ss : List Nat} (h : RU w0 w v4 v5 xs L ss) (hl : ∀ s ∈ L, s.d.length ≤ 1048576) (hn : ∀ s ∈ L, s.nm.length ≤ 100000) : DatG w xs (datW w) ∧ xs.map (ndF (datW w)) = L.map sfN := by
  have hlen := h.len
  have one : ∀ k (hk : k < xs.length) (hk2 : k < L.length), xs[k].nm = L[k].nm ∧ L[k].d.length = xs[k].n ∧ OwnB w0.heap.size w (flV xs[k]) L[k].d := fun k hk hk2 => by
    have h4 : (xs.map Fl.nm)[k]? = (L.map Sf.nm)[k]? := by rw [h.nm]
    simp [hk, hk2] at h4
    obtain ⟨e, o, -⟩ := h.one k hk hk2
    exact ⟨h4, e, o⟩
  have each : ∀ y ∈ xs, ∃ p ∈ L, y.nm = p.nm ∧ p.d.length = y.n ∧ OwnB w0.heap.size w (flV y) p.d := fun y hy => by
    obtain ⟨k, hk, rfl⟩ := List.getElem_of_mem hy
    exact ⟨L[k]'(by omega), List.getElem_mem _, one k hk (by omega)⟩
  have is : ∀ {y : Fl} {d : Bs}, d.length = y.n → OwnB w0.heap.size w (flV y) d → datW w y = d := fun {y d} e o => datW_is e (own_parts o).1
  refine ⟨⟨fun y hy => ?_, fun y hy => ?_, fun y hy => ?_, fun y hy => ?_, fun y hy => ?_, fun y hy => ?_, fun y hy => ?_⟩, ?_⟩
  · obtain ⟨p, hp, e1, e2, o⟩ := each y hy
    rw [is e2 o]; exact e2
  · obtain ⟨p, hp, e1, e2, o⟩ := each y hy
    rw [← e2]; exact hl p hp
  · obtain ⟨p, hp, e1, e2, o⟩ := each y hy
    rw [← e2]; exact (own_parts o).2.1
  · obtain ⟨p, hp, e1, e2, o⟩ := each y hy
    have := (own_parts o).2.2.1
    unfold maxLen at this
    omega
  · obtain ⟨p, hp, e1, e2, o⟩ := each y hy
    exact (own_parts o).2.2.2.imp id Or.inl
  · obtain ⟨p, hp, e1, e2, o⟩ := each y hy
    rw [is e2 o]; exact (own_parts o).1
  · obtain ⟨p, hp, e1, e2, o⟩ := each y hy
    rw [e1]; exact hn p hp
  · refine List.ext_getElem (by rw [List.length_map, List.length_map]; exact hlen) (fun k g1 g2 => ?_)
    rw [List.length_map] at g1 g2
    obtain ⟨e1, e2, o⟩ := one k g1 g2
    rw [List.getElem_map, List.getElem_map]
    unfold ndF sfN
    rw [e1, is e2 o]
/-! What the checks say, a file at a time. -/
def lowsR (l : List Sf) (seen : List Bs) : List Bs := (l.map fun s => lowL s.nm).reverse ++ seen
theorem chk_app : ∀ (l : List Sf) (seen : List Bs) (m : List Sf), chkE seen l = 0 → chkE seen (l ++ m) = chkE (lowsR l seen) m
  | [], seen, m, _ => by simp [lowsR]
  | s :: r, seen, m, h => by
    simp only [chkE, List.cons_append] at h ⊢
    by_cases h1 : nameF s.nm = false
    · rw [if_pos h1] at h; cases h
    · rw [if_neg h1] at h ⊢
      by_cases h2 : lowL s.nm ∈ seen
      · rw [if_pos h2] at h; cases h
      · rw [if_neg h2] at h ⊢
        by_cases h3 : (crcL s.d).toNat ≠ s.crc
        · rw [if_pos h3] at h; cases h
        · rw [if_neg h3] at h ⊢
          rw [chk_app r _ m h]
          simp [lowsR]
theorem nm_app : ∀ (l : List Sf) (seen : List Bs) (m : List Bs), nmE seen (l.map Sf.nm) = 0 → nmE seen (l.map Sf.nm ++ m) = nmE (lowsR l seen) m
  | [], seen, m, _ => by simp [lowsR]
  | s :: r, seen, m, h => by
    simp only [nmE, List.map_cons, List.cons_append] at h ⊢
    by_cases h1 : nameF s.nm = false
    · rw [if_pos h1] at h; cases h
    · rw [if_neg h1] at h ⊢
      by_cases h2 : lowL s.nm ∈ seen
      · rw [if_pos h2] at h; cases h
      · rw [if_neg h2] at h ⊢
        rw [nm_app r _ m h]
        simp [lowsR]
theorem one_name {s : Sf} {r : List Sf} {seen : List Bs} (h : nmE seen [s.nm] ≠ 0) : chkE seen (s :: r) = nmE seen [s.nm] := by
  simp only [chkE, nmE] at h ⊢
  by_cases h1 : nameF s.nm = false
  · rw [if_pos h1, if_pos h1]
  · rw [if_neg h1] at h ⊢
    rw [if_neg h1]
    by_cases h2 : lowL s.nm ∈ seen
    · rw [if_pos h2, if_pos h2]
    · rw [if_neg h2] at h
      exact absurd rfl h
theorem one_sum {s : Sf} {r : List Sf} {seen : List Bs} (h : nmE seen [s.nm] = 0) : chkE seen (s :: r) = if (crcL s.d).toNat ≠ s.crc then 16 else chkE (lowL s.nm :: seen) r := by
  simp only [chkE, nmE] at h ⊢
  by_cases h1 : nameF s.nm = false
  · rw [if_pos h1] at h; cases h
  · rw [if_neg h1] at h ⊢
    by_cases h2 : lowL s.nm ∈ seen
    · rw [if_pos h2] at h; cases h
    · rw [if_neg h2]
/-- The next name of files whose names and sums were right so far. -/
theorem next_name {L : List Sf} {i : Nat} (hi : i < L.length) (h : chkE [] (L.take i) = 0) : nmE [] ((L.map Sf.nm).take (i + 1)) = nmE (lowsR (L.take i) []) [L[i].nm] ∧ chkE [] L = chkE (lowsR (L.take i) []) (L[i] :: L.drop (i + 1)) ∧ chkE [] (L.take (i + 1)) = chkE (lowsR (L.take i) []) [L[i]] := by
  refine ⟨?_, ?_, ?_⟩
  · rw [← List.map_take, take_sn hi, List.map_append]
    exact nm_app _ _ _ (chk_nm _ _ h).1
  · rw [← chk_app _ _ _ h, ← List.drop_eq_getElem_cons hi, List.take_append_drop]
  · rw [take_sn hi]
    exact chk_app _ _ _ h
theorem mark_is {b : Bs} {m : Nat} (h : m + 4 ≤ b.length) : (b.drop m).take 4 = [b[m], b[m + 1], b[m + 2], b[m + 3]] := by
  rw [List.drop_eq_getElem_cons (by omega : m < b.length), List.drop_eq_getElem_cons (by omega : m + 1 < b.length), List.drop_eq_getElem_cons (by omega : m + 1 + 1 < b.length), List.drop_eq_getElem_cons (by omega : m + 1 + 1 + 1 < b.length)]
  rfl
theorem mark_out {b : Bs} {m : Nat} (h : ¬ m + 4 ≤ b.length) : ¬ (b.drop m).take 4 = [80, 75, 3, 4] := fun e => by
  have := congrArg List.length e
  rw [List.length_take, List.length_drop] at this
  simp at this
  omega
theorem slice22_to {a : Option Addr} {n c m : Nat} {k : IntKind} (h : m ≤ n) (h2 : n ≤ c) (w : World) : (Instr.slice 22 (.slice a n c) none (some (.int k (m : Int))) none).run Tryz.prog w = .ok (.slice a m c) w := by
  simp [Instr.slice, Instr.sliceBounds, Instr.sliceBound, asIntOf, run_underlying Tryz.underlying22, go_sem]
  intro h5
  omega
theorem sizes_name {l : List Nd} {p : Nd} (h : p ∈ l) : p.1.length ≤ sizesL l := by
  induction l with
  | nil => cases h
  | cons q r ih =>
    rw [sizes_cons]
    rcases List.mem_cons.1 h with rfl | h
    · omega
    · have := ih h
      omega
/-- Where these files' archive is the bytes, they are what the heads of the bytes say. -/
theorem packs_back {L : List Sf} {b : Bs} {zs : List Nd} (hL : headsR b = some L) (hz : arcL zs = b) (hk : ∀ p ∈ zs, ndOk p) : L.map sfN = zs := by
  have h1 := arc_back hk
  rw [hz, hL] at h1
  rw [Option.some.inj h1, List.map_map]
  conv => rhs; rw [← List.map_id zs]
  apply List.map_congr_left
  intro p _
  rfl
end Go.Proofs.YtkablmjkffdloaaGreatDoor

namespace Go.Proofs.YtkablmjkffdloaaGreatDoor
open Go.RowKit

/-- Files that came out, from the i-th on as they came: each may be written. -/
structure Mu (w0 w : World) (A i : Nat) (ys : List Fl) : Prop where
  low : Below w0.heap.size w0 w
  sz : w0.heap.size ≤ A
  row : ∃ cs, Blk w A cs 56 ∧ ∀ j (_ : j < ys.length), i ≤ j → cs[j * 2 + 1]? = some (flV ys[j])
  one : ∀ j (_ : j < ys.length), i ≤ j → ∃ d : Bs, d.length = ys[j].n ∧ d.length ≤ 1048576 ∧ OwnB w0.heap.size w (flV ys[j]) d ∧ (flV ys[j]).ownBlock ≠ some A
  ap : ∀ j k (_ : j < ys.length) (_ : k < ys.length), j < k → ∀ g, (flV ys[k]).ownBlock = some g → (flV ys[j]).ownBlock ≠ some g
theorem Mu.start {w0 w : World} {A : Nat} {l : List Nd} (h : FdOwn w0.heap.size w A l) (b : Below w0.heap.size w0 w) (hs : ∀ p ∈ l, p.2.length ≤ 1048576) : ∃ ys : List Fl, ys.length = l.length ∧ Mu w0 w A 0 ys := by
  obtain ⟨ys, h1, h2, h3⟩ := h
  have hlen : ys.length = l.length := by have := congrArg List.length h1; simpa using this
  refine ⟨ys, hlen, b, ?_, ?_, fun j hj _ => ?_, h3.ap⟩
  · exact (u_row_ge h2 rfl).1
  · rcases h2.2 with ⟨e, h0⟩ | ⟨g, cap, cur, e, hb, hblk, hr⟩
    · cases e
    · have e1 := (Value.slice.inj e).1
      cases e1
      refine ⟨cur, hblk, fun j hj _ => ?_⟩
      have h5 : (flsV ys)[j * 2 + 1]? = some (flV ys[j]) := by
        rw [flsV_get ys (j * 2 + 1) (by omega)]
        have q1 : (j * 2 + 1) / 2 = j := by omega
        have q2 : (j * 2 + 1) % 2 = 1 := by omega
        rw [q1, q2]
        simp [hj, flL, flV]
      rw [← hr.2.2.2] at h5
      rw [List.getElem?_take] at h5
      split at h5
      · simpa using h5
      · cases h5
  · obtain ⟨e, o, n⟩ := h3.one j hj (by rw [List.length_map]; omega)
    rw [List.getElem_map] at e o
    exact ⟨_, e, hs _ (List.getElem_mem _), o, n⟩
theorem Mu.cell {w0 w : World} {A i : Nat} {ys : List Fl} (h : Mu w0 w A i ys) (hi : i < ys.length) : w.cell? ⟨A, i * 2 + 1, none⟩ = some (flV ys[i]) ∧ w.frozen? ⟨A, i * 2 + 1, none⟩ = false := by
  obtain ⟨cs, hb, hc⟩ := h.row
  exact ⟨(hb.cell _).trans (hc i hi (Nat.le_refl _)), Lib.frozen_of_heap hb _⟩
theorem Mu.put {w0 w : World} {A i g k : Nat} {ys : List Fl} (h : Mu w0 w A i ys) (hi : i < ys.length) (ha : ys[i].a = some ⟨g, 0, none⟩) : Mu w0 (w.setCell ⟨g, k, none⟩ (.int .u8 2)) A i ys := by
  have hown : (flV ys[i]).ownBlock = some g := by unfold flV; rw [ha]; rfl
  obtain ⟨d, e, hd, o, n⟩ := h.one i hi (Nat.le_refl _)
  have hgA : g ≠ A := fun e => n (by rw [hown, e])
  have hgb := OwnB.base o g hown
  refine ⟨low_set h.low hgb _, h.sz, ?_, fun j hj hij => ?_, h.ap⟩
  · obtain ⟨cs, hb, hc⟩ := h.row
    exact ⟨cs, Blk.other hb (by show A ≠ g; exact fun e => hgA e.symm) _, hc⟩
  · by_cases hji : j = i
    · subst hji
      refine ⟨d.set k 2, by rw [List.length_set]; exact e, by rw [List.length_set]; exact hd, ?_, n⟩
      have o2 := o
      unfold flV at o2 ⊢
      rw [ha] at o2 ⊢
      exact OwnB.put o2 k 2
    · obtain ⟨d2, e2, hd2, o2, n2⟩ := h.one j hj hij
      refine ⟨d2, e2, hd2, OwnB.keep o2 fun q hq => Below.heap_setCell _ _ _ _ ?_, n2⟩
      show q ≠ g
      intro e
      subst e
      exact h.ap i j hi hj (by omega) q hq hown
theorem Mu.grow {w0 w W1 : World} {A i : Nat} {ys : List Fl} (h : Mu w0 w A i ys) (hi : i < ys.length) (hW : w.alloc (.cells #[.int .u8 3] 5) = W1) :
    ∃ a' m' c' w', (Builtin.append_ #[23, 23] 23 #[flV ys[i], .slice (some ⟨w.heap.size, 0, none⟩) 1 1]).run Tryz.prog W1 = .ok (.slice a' m' c') w' ∧ w'.cell? ⟨A, i * 2 + 1, none⟩ = some (flV ys[i]) ∧ w'.frozen? ⟨A, i * 2 + 1, none⟩ = false ∧ Hid (Mu w0 (w'.setCell ⟨A, i * 2 + 1, none⟩ (.slice a' m' c')) A (i + 1) ys) := by
  obtain ⟨d, e, hd, o, n⟩ := h.one i hi (Nat.le_refl _)
  obtain ⟨v', w', r1, r2, g⟩ := app_byte (c := 3) o h.low.size (by omega) hW
  obtain ⟨a', c', rfl, -, -, -⟩ := OwnB.at r2
  obtain ⟨cs, hb, hc⟩ := h.row
  have hbA : Blk w' A cs 56 := (g.block A hb.lt (fun e => n e.symm)).trans hb
  refine ⟨a', _, c', w', r1, (hbA.cell _).trans (hc i hi (Nat.le_refl _)), Lib.frozen_of_heap hbA _, hide ⟨low_set (h.low.trans (g.low h.low.size (fun q hq => OwnB.base o q hq))) h.sz _, h.sz, ⟨_, hbA.set (i * 2 + 1) _, fun j hj hij => ?_⟩, fun j hj hij => ?_, h.ap⟩⟩
  · rw [Array.getElem?_setIfInBounds_ne (by omega)]
    exact hc j hj (by omega)
  · obtain ⟨d2, e2, hd2, o2, n2⟩ := h.one j hj (by omega)
    refine ⟨d2, e2, hd2, OwnB.keep o2 fun q hq => ?_, n2⟩
    rw [Below.heap_setCell _ _ _ _ (by show q ≠ A; exact fun e => n2 (by rw [hq, e]))]
    exact g.block q (OwnB.lt o2 q hq) (fun e => h.ap i j hi hj (by omega) q hq e.symm)
theorem fd_nil (w : World) : FdAt w none [] := ⟨[], rfl, ⟨Or.inl rfl⟩, rfl, fun k h => by simp at h⟩
end Go.Proofs.YtkablmjkffdloaaGreatDoor
