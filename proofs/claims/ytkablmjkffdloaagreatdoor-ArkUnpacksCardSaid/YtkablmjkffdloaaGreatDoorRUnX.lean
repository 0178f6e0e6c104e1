/-
  Bytes as an archive: the law's walk; what is handed out may be written.
-/
import Derived.Test.YtkablmjkffdloaaGreatDoorUnpV
import Derived.Test.YtkablmjkffdloaaGreatDoorUnpQ
import Derived.Test.YtkablmjkffdloaaGreatDoorOneY
import Derived.Test.YtkablmjkffdloaaGreatDoorRGrX
import Derived.Test.YtkablmjkffdloaaGreatDoorRNmX
import Derived.Test.YtkablmjkffdloaaGreatDoorByX
import Derived.Test.YtkablmjkffdloaaGreatDoorSameB
import Derived.Deep.RegionHeld3
import Derived.Test.YtkablmjkffdloaaGreatDoorLogE
namespace Go.Proofs.YtkablmjkffdloaaGreatDoor
open Go.RowKit

theorem info3 : (Tryz.prog.info? 3).map (fun i => (i.zero, i.size, i.bytes)) = some (some (.int .i64 0), 1, 8) := by kernel_rfl
def iVal (x : Nat) : Value := .int .i64 (x : Int)
abbrev IRow (base : Nat) (w : World) (v : Value) (ss : List Nat) : Prop := w.ownsRow base 3 1 v ss.length (ss.map iVal)
theorem app_i {B : Nat} {w W1 : World} {v : Value} {ss : List Nat} {x : Nat} (ho : IRow B w v ss) (hB : B ≤ w.heap.size) (hl : ss.length ≤ 1000000) (hW : w.alloc (.cells #[.int .i64 (x : Int)] 3) = W1) :
    ∃ v' w', (Builtin.append_ #[140, 140] 140 #[v, .slice (some ⟨w.heap.size, 0, none⟩) 1 1]).run Tryz.prog W1 = .ok v' w' ∧ IRow B w' v' (ss ++ [x]) ∧ GrB w w' v v' := by
  obtain ⟨i0, hi, hz0, hz1, hz2⟩ := info_parts info3
  have b1 : Below w.heap.size w W1 := by rw [← hW]; exact lowB (Below.refl _ _) _
  have hz : Blk W1 w.heap.size #[.int .i64 (x : Int)] 3 := by rw [← hW]; exact Blk.new _ _ _
  obtain ⟨v', w', r1, r2, r3, _, r5⟩ := run_append_own_at (P := Tryz.prog) W1 B 140 140 3 i0 _ 1 8 Tryz.underlying140 hi hz0 hz1 hz2 rfl (by decide) v ss.length (ss.map iVal) (u_row_low ho b1) ⟨w.heap.size, 0, none⟩ 1 1 [.int .i64 (x : Int)] rfl (fun j u hj => by
    match j, hj with
    | 0, hj => simp at hj; rw [← hj]; exact hz.cell 0) (fun u hu => by simp at hu; rw [hu]; rfl) (by unfold maxLen; omega) (by omega) (Nat.le_trans hB b1.size)
  refine ⟨v', w', r1, ?_, ⟨r3.os.trans b1.os, r3.tape.trans b1.tape, r3.output.trans b1.output, Nat.le_trans b1.size r3.size, fun k hk hne => (r3.block k (Nat.lt_of_lt_of_le hk b1.size) hne).trans (b1.block k hk), ?_⟩⟩
  · unfold IRow
    rw [List.map_append, List.length_append]
    exact r2
  · rcases r5 with e | e
    · exact Or.inl e
    · exact Or.inr ⟨_, e, b1.size⟩
theorem IRow.at {B : Nat} {w : World} {v : Value} {ss : List Nat} (h : IRow B w v ss) : ∃ a c, v = .slice a ss.length c ∧ ∀ k (hk : k < ss.length), ∃ g, a = some ⟨g, 0, none⟩ ∧ w.cell? ⟨g, 0 + k, none⟩ = some (.int .i64 ((ss[k] : Nat) : Int)) := by
  rcases h.2 with ⟨e, h0⟩ | ⟨g, cap, cur, e, hb, hblk, hr⟩
  · exact ⟨none, 0, by rw [e, h0], fun k hk => by omega⟩
  · subst e
    refine ⟨_, cap, rfl, fun k hk => ⟨g, rfl, ?_⟩⟩
    rw [Nat.zero_add]
    refine u_row_cell h ?_
    simp [hk, iVal]
theorem row_lt {w : World} {base n sz : Nat} {e : TypeId} {v : Value} {xs : List Value} {g : Nat} (h : w.ownsRow base e sz v n xs) (hg : v.ownBlock = some g) : g < w.heap.size := by
  obtain ⟨_, cur, hc⟩ := u_row_ge h hg
  exact (Array.getElem?_eq_some_iff.1 hc).1
def flV (x : Fl) : Value := .slice x.a x.n x.c
/-- Files with bytes of their own, and sums, in rows that grow. -/
structure RU (w0 w : World) (v4 v5 : Value) (xs : List Fl) (L : List Sf) (ss : List Nat) : Prop where
  l : FRow w0.heap.size w v4 xs
  s : IRow w0.heap.size w v5 ss
  nm : xs.map Fl.nm = L.map Sf.nm
  one : ∀ k (h1 : k < xs.length) (h2 : k < L.length), L[k].d.length = xs[k].n ∧ OwnB w0.heap.size w (flV xs[k]) L[k].d ∧ ∀ g, (flV xs[k]).ownBlock = some g → v4.ownBlock ≠ some g ∧ v5.ownBlock ≠ some g
  ne : ∀ g, v4.ownBlock = some g → v5.ownBlock ≠ some g
  low : Below w0.heap.size w0 w
theorem RU.len {w0 w : World} {v4 v5 : Value} {xs : List Fl} {L : List Sf} {ss : List Nat} (h : RU w0 w v4 v5 xs L ss) : xs.length = L.length := by
  have := congrArg List.length h.nm
  simpa using this
theorem RU.step {w0 w w' : World} {v4 v5 : Value} {xs : List Fl} {L : List Sf} {ss : List Nat} (h : RU w0 w v4 v5 xs L ss) (b : Below w.heap.size w w') : RU w0 w' v4 v5 xs L ss :=
  ⟨u_row_low h.l b, u_row_low h.s b, h.nm, fun k h1 h2 => ⟨(h.one k h1 h2).1, OwnB.low (h.one k h1 h2).2.1 b, (h.one k h1 h2).2.2⟩, h.ne, low_trans h.low b⟩
theorem RU.sum {w0 w W1 : World} {v4 v5 : Value} {xs : List Fl} {L : List Sf} {ss : List Nat} {x : Nat} (h : RU w0 w v4 v5 xs L ss) (hl : ss.length ≤ 1000000) (hW : w.alloc (.cells #[.int .i64 (x : Int)] 3) = W1) :
    ∃ v' w', (Builtin.append_ #[140, 140] 140 #[v5, .slice (some ⟨w.heap.size, 0, none⟩) 1 1]).run Tryz.prog W1 = .ok v' w' ∧ RU w0 w' v4 v' xs L (ss ++ [x]) := by
  obtain ⟨v', w', r1, r2, g⟩ := app_i h.s h.low.size hl hW
  have keep : ∀ q, q < w.heap.size → v5.ownBlock ≠ some q → w'.heap[q]? = w.heap[q]? := fun q hq hn => g.block q hq (fun e => hn e.symm)
  have apart : ∀ q, q < w.heap.size → v5.ownBlock ≠ some q → v'.ownBlock ≠ some q := fun q hq hn e => by
    rcases g.own with e2 | ⟨p, e2, hp⟩
    · exact hn (by rw [← e2]; exact e)
    · rw [e2] at e
      have := Option.some.inj e
      omega
  refine ⟨v', w', r1, ⟨u_row_keep h.l fun q hq => keep q (row_lt h.l hq) (h.ne q hq), r2, h.nm, fun k h1 h2 => ?_, fun q hq => apart q (row_lt h.l hq) (h.ne q hq), h.low.trans (g.low h.low.size (fun q hq => (u_row_ge h.s hq).1))⟩⟩
  obtain ⟨e1, o, hn⟩ := h.one k h1 h2
  exact ⟨e1, OwnB.keep o fun q hq => keep q (OwnB.lt o q hq) (hn q hq).2, fun q hq => ⟨(hn q hq).1, apart q (OwnB.lt o q hq) (hn q hq).2⟩⟩
theorem RU.file {w0 w w8 W1 : World} {v4 v5 : Value} {xs : List Fl} {L : List Sf} {ss : List Nat} {x : Fl} {s : Sf} (h : RU w0 w v4 v5 xs L ss) (hl : xs.length ≤ 1000000) (b8 : Below w.heap.size w w8) (hnm : x.nm = s.nm) (hn : s.d.length = x.n) (ho : OwnB w.heap.size w8 (flV x) s.d) (hW : w8.alloc (.cells #[.string (ba x.nm), .slice x.a x.n x.c] 56) = W1) :
    ∃ v' w', (Builtin.append_ #[22, 22] 22 #[v4, .slice (some ⟨w8.heap.size, 0, none⟩) 1 1]).run Tryz.prog W1 = .ok v' w' ∧ RU w0 w' v' v5 (xs ++ [x]) (L ++ [s]) ss := by
  have h8 := h.step b8
  obtain ⟨v', w', r1, r2, g⟩ := app_Fg h8.l h8.low.size hl hW
  have keep : ∀ q, q < w8.heap.size → v4.ownBlock ≠ some q → w'.heap[q]? = w8.heap[q]? := fun q hq hn => g.block q hq (fun e => hn e.symm)
  have apart : ∀ q, q < w8.heap.size → v4.ownBlock ≠ some q → v'.ownBlock ≠ some q := fun q hq hn e => by
    rcases g.own with e2 | ⟨p, e2, hp⟩
    · exact hn (by rw [← e2]; exact e)
    · rw [e2] at e
      have := Option.some.inj e
      omega
  have n5 : ∀ q, v5.ownBlock = some q → v4.ownBlock ≠ some q := fun q h1 h2 => h.ne q h2 h1
  have nx : ∀ q, (flV x).ownBlock = some q → v4.ownBlock ≠ some q ∧ v5.ownBlock ≠ some q := fun q hq => by
    have h1 := OwnB.base ho q hq
    exact ⟨fun e => by have := row_lt h.l e; omega, fun e => by have := row_lt h.s e; omega⟩
  refine ⟨v', w', r1, ⟨r2, u_row_keep h8.s fun q hq => keep q (row_lt h8.s hq) (n5 q hq), by rw [List.map_append, List.map_append, h.nm]; simp [hnm], fun k h1 h2 => ?_, fun q hq hq5 => apart q (row_lt h8.s hq5) (n5 q hq5) hq, h8.low.trans (g.low h8.low.size (fun q hq => (u_row_ge h8.l hq).1))⟩⟩
  have hll := h.len
  rw [List.length_append] at h1 h2
  by_cases hk : k < xs.length
  · obtain ⟨e1, o, hn2⟩ := h8.one k hk (by omega)
    rw [List.getElem_append_left hk, List.getElem_append_left (by omega)]
    exact ⟨e1, OwnB.keep o fun q hq => keep q (OwnB.lt o q hq) (hn2 q hq).1, fun q hq => ⟨apart q (OwnB.lt o q hq) (hn2 q hq).1, (hn2 q hq).2⟩⟩
  · simp at h1 h2
    have hk2 : k = xs.length := by omega
    subst hk2
    have hL : (L ++ [s])[xs.length]'(by simp; omega) = s := by
      rw [List.getElem_append_right (by omega)]
      simp
    have hX : (xs ++ [x])[xs.length]'(by simp) = x := by simp
    rw [hL, hX]
    have o2 : OwnB w0.heap.size w8 (flV x) s.d := OwnB.less h.low.size ho
    exact ⟨hn, OwnB.keep o2 fun q hq => keep q (OwnB.lt ho q hq) (nx q hq).1, fun q hq => ⟨apart q (OwnB.lt ho q hq) (nx q hq).1, (nx q hq).2⟩⟩
theorem own_parts {base : Nat} {w : World} {y : Fl} {d : Bs} (o : OwnB base w (flV y) d) : BAt w y.a d ∧ d.length ≤ y.c ∧ y.c ≤ maxLen ∧ (y.a = none ∨ ∃ B O, y.a = some ⟨B, O, none⟩) := by
  obtain ⟨a', c', hv, hat, h5, h6⟩ := OwnB.at o
  injection hv with q1 q2 q3
  refine ⟨by rw [q1]; exact hat, by rw [q3]; exact h5, by rw [q3]; exact h6, ?_⟩
  rcases o.2 with ⟨e, _⟩ | ⟨g, cap, cur, e, _⟩
  · injection e with e1 _ _
    exact Or.inl e1
  · injection e with e1 _ _
    exact Or.inr ⟨_, _, e1⟩
theorem RU.datg {w0 w : World} {v4 v5 : Value} {xs : List Fl} {L : List Sf} {ss : List Nat} (h : RU w0 w v4 v5 xs L ss) (hl : ∀ s ∈ L, s.d.length ≤ 1048576) (hn : ∀ s ∈ L, s.nm.length ≤ 100000) : DatG w xs (datW w) ∧ xs.map (ndF (datW w)) = L.map sfN := by
  have hlen := h.len
  have one : ∀ k (hk : k < xs.length) (hk2 : k < L.length), xs[k].nm = L[k].nm ∧ L[k].d.length = xs[k].n ∧ OwnB w0.heap.size w (flV xs[k]) L[k].d := fun k hk hk2 => by
    have h4 : (xs.map Fl.nm)[k]? = (L.map Sf.nm)[k]? := by rw [h.nm]
    simp [hk, hk2] at h4
    obtain ⟨e, o, -⟩ := h.one k hk hk2
    exact ⟨h4, e, o⟩
  have each : ∀ y ∈ xs, ∃ p ∈ L, y.nm = p.nm ∧ p.d.length = y.n ∧ OwnB w0.heap.size w (flV y) p.d := fun y hy => by
    obtain ⟨k, hk, rfl⟩ := List.getElem_of_mem hy
    exact ⟨L[k]'(by omega), List.getElem_mem _, one k hk (by omega)⟩
  have is : ∀ {y : Fl} {d : Bs}, d.length = y.n → OwnB w0.heap.size w (flV y) d → datW w y = d := fun {y d} e o => datW_is e (own_parts o).1
  refine ⟨⟨fun y hy => ?_, fun y hy => ?_, fun y hy => ?_, fun y hy => ?_, fun y hy => ?_, fun y hy => ?_, fun y hy => ?_⟩, ?_⟩
  · obtain ⟨p, hp, e1, e2, o⟩ := each y hy
    rw [is e2 o]; exact e2
  · obtain ⟨p, hp, e1, e2, o⟩ := each y hy
    rw [← e2]; exact hl p hp
  · obtain ⟨p, hp, e1, e2, o⟩ := each y hy
    rw [← e2]; exact (own_parts o).2.1
  · obtain ⟨p, hp, e1, e2, o⟩ := each y hy
    have := (own_parts o).2.2.1
    unfold maxLen at this
    omega
  · obtain ⟨p, hp, e1, e2, o⟩ := each y hy
    exact (own_parts o).2.2.2.imp id Or.inl
  · obtain ⟨p, hp, e1, e2, o⟩ := each y hy
    rw [is e2 o]; exact (own_parts o).1
  · obtain ⟨p, hp, e1, e2, o⟩ := each y hy
    rw [e1]; exact hn p hp
  · refine List.ext_getElem (by rw [List.length_map, List.length_map]; exact hlen) (fun k g1 g2 => ?_)
    rw [List.length_map] at g1 g2
    obtain ⟨e1, e2, o⟩ := one k g1 g2
    rw [List.getElem_map, List.getElem_map]
    unfold ndF sfN
    rw [e1, is e2 o]
/-! What the checks say, a file at a time. -/
def lowsR (l : List Sf) (seen : List Bs) : List Bs := (l.map fun s => lowL s.nm).reverse ++ seen
theorem chk_app : ∀ (l : List Sf) (seen : List Bs) (m : List Sf), chkE seen l = 0 → chkE seen (l ++ m) = chkE (lowsR l seen) m
  | [], seen, m, _ => by simp [lowsR]
  | s :: r, seen, m, h => by
    simp only [chkE, List.cons_append] at h ⊢
    by_cases h1 : nameF s.nm = false
    · rw [if_pos h1] at h; cases h
    · rw [if_neg h1] at h ⊢
      by_cases h2 : lowL s.nm ∈ seen
      · rw [if_pos h2] at h; cases h
      · rw [if_neg h2] at h ⊢
        by_cases h3 : (crcL s.d).toNat ≠ s.crc
        · rw [if_pos h3] at h; cases h
        · rw [if_neg h3] at h ⊢
          rw [chk_app r _ m h]
          simp [lowsR]
theorem nm_app : ∀ (l : List Sf) (seen : List Bs) (m : List Bs), nmE seen (l.map Sf.nm) = 0 → nmE seen (l.map Sf.nm ++ m) = nmE (lowsR l seen) m
  | [], seen, m, _ => by simp [lowsR]
  | s :: r, seen, m, h => by
    simp only [nmE, List.map_cons, List.cons_append] at h ⊢
    by_cases h1 : nameF s.nm = false
    · rw [if_pos h1] at h; cases h
    · rw [if_neg h1] at h ⊢
      by_cases h2 : lowL s.nm ∈ seen
      · rw [if_pos h2] at h; cases h
      · rw [if_neg h2] at h ⊢
        rw [nm_app r _ m h]
        simp [lowsR]
theorem one_name {s : Sf} {r : List Sf} {seen : List Bs} (h : nmE seen [s.nm] ≠ 0) : chkE seen (s :: r) = nmE seen [s.nm] := by
  simp only [chkE, nmE] at h ⊢
  by_cases h1 : nameF s.nm = false
  · rw [if_pos h1, if_pos h1]
  · rw [if_neg h1] at h ⊢
    rw [if_neg h1]
    by_cases h2 : lowL s.nm ∈ seen
    · rw [if_pos h2, if_pos h2]
    · rw [if_neg h2] at h
      exact absurd rfl h
theorem one_sum {s : Sf} {r : List Sf} {seen : List Bs} (h : nmE seen [s.nm] = 0) : chkE seen (s :: r) = if (crcL s.d).toNat ≠ s.crc then 16 else chkE (lowL s.nm :: seen) r := by
  simp only [chkE, nmE] at h ⊢
  by_cases h1 : nameF s.nm = false
  · rw [if_pos h1] at h; cases h
  · rw [if_neg h1] at h ⊢
    by_cases h2 : lowL s.nm ∈ seen
    · rw [if_pos h2] at h; cases h
    · rw [if_neg h2]
/-- The next name of files whose names and sums were right so far. -/
theorem next_name {L : List Sf} {i : Nat} (hi : i < L.length) (h : chkE [] (L.take i) = 0) : nmE [] ((L.map Sf.nm).take (i + 1)) = nmE (lowsR (L.take i) []) [L[i].nm] ∧ chkE [] L = chkE (lowsR (L.take i) []) (L[i] :: L.drop (i + 1)) ∧ chkE [] (L.take (i + 1)) = chkE (lowsR (L.take i) []) [L[i]] := by
  refine ⟨?_, ?_, ?_⟩
  · rw [← List.map_take, take_sn hi, List.map_append]
    exact nm_app _ _ _ (chk_nm _ _ h).1
  · rw [← chk_app _ _ _ h, ← List.drop_eq_getElem_cons hi, List.take_append_drop]
  · rw [take_sn hi]
    exact chk_app _ _ _ h
theorem mark_is {b : Bs} {m : Nat} (h : m + 4 ≤ b.length) : (b.drop m).take 4 = [b[m], b[m + 1], b[m + 2], b[m + 3]] := by
  rw [List.drop_eq_getElem_cons (by omega : m < b.length), List.drop_eq_getElem_cons (by omega : m + 1 < b.length), List.drop_eq_getElem_cons (by omega : m + 1 + 1 < b.length), List.drop_eq_getElem_cons (by omega : m + 1 + 1 + 1 < b.length)]
  rfl
theorem mark_out {b : Bs} {m : Nat} (h : ¬ m + 4 ≤ b.length) : ¬ (b.drop m).take 4 = [80, 75, 3, 4] := fun e => by
  have := congrArg List.length e
  rw [List.length_take, List.length_drop] at this
  simp at this
  omega
theorem slice22_to {a : Option Addr} {n c m : Nat} {k : IntKind} (h : m ≤ n) (h2 : n ≤ c) (w : World) : (Instr.slice 22 (.slice a n c) none (some (.int k (m : Int))) none).run Tryz.prog w = .ok (.slice a m c) w := by
  simp [Instr.slice, Instr.sliceBounds, Instr.sliceBound, asIntOf, run_underlying Tryz.underlying22, go_sem]
  intro h5
  omega
theorem sizes_name {l : List Nd} {p : Nd} (h : p ∈ l) : p.1.length ≤ sizesL l := by
  induction l with
  | nil => cases h
  | cons q r ih =>
    rw [sizes_cons]
    rcases List.mem_cons.1 h with rfl | h
    · omega
    · have := ih h
      omega
/-- Where these files' archive is the bytes, they are what the heads of the bytes say. -/
theorem packs_back {L : List Sf} {b : Bs} {zs : List Nd} (hL : headsR b = some L) (hz : arcL zs = b) (hk : ∀ p ∈ zs, ndOk p) : L.map sfN = zs := by
  have h1 := arc_back hk
  rw [hz, hL] at h1
  rw [Option.some.inj h1, List.map_map]
  conv => rhs; rw [← List.map_id zs]
  apply List.map_congr_left
  intro p _
  rfl
end Go.Proofs.YtkablmjkffdloaaGreatDoor

namespace Go.Proofs.YtkablmjkffdloaaGreatDoor
open Go.RowKit

/-- What the reference answers to bytes as an archive. -/
def UnpQ (b : Bs) (e : Ending) (w' : World) : Prop := ∃ E, UnpS b E ∧ ((E ≠ 0 ∧ e = .returned (.tuple #[.slice none 0 0, .int .i64 E])) ∨ (E = 0 ∧ ∃ a c L, headsR b = some L ∧ e = .returned (.tuple #[.slice a L.length c, .int .i64 0]) ∧ FdAt w' a (L.map sfN)))

set_option maxRecDepth 100000 in
set_option maxHeartbeats 16000000 in
theorem refUnpack_any {w : World} {a : Option Addr} {n c : Nat} {b : Bs} (hn : b.length = n) (hN : n ≤ 20000) (hc : n ≤ c) (hcm : c ≤ 9223372036854775807) (hf : a = none ∨ ∃ B O, a = some ⟨B, O, none⟩) (h : BAt w a b) :
    Calls Tryz.prog 50 #[.slice a n c] w fun e w' => UnpQ b e w' ∧ Below w.heap.size w w' := by
  have HN := hide hn
  have HA := hide h
  have HF := hide hf
  clear hn h hf
  go_enter Tryz.func50, Tryz.ntmps50
  go_wp2
  go_loopw [4, 5, 6, 7, 8] (fun v4 v5 v6 _ _ wr => ∃ (m : Nat) (xs : List Fl) (L : List Sf), m ≤ n ∧ v6 = .int .i64 (m : Int) ∧ 30 * L.length ≤ m ∧ Hid (sizesL (L.map sfN) ≤ 3 * m) ∧ Hid (headsR b = (headsR (b.drop m)).map fun q => L ++ q) ∧ Hid (RU w wr v4 v5 xs L (L.map Sf.crc))) (fun _ _ v6 _ _ _ => n - (intOf v6).toNat)
  case atStart => exact ⟨0, [], [], Nat.zero_le _, rfl, Nat.le_refl _, hide (by simp [sizesL]), hide (by rw [List.drop_zero]; cases headsR b <;> simp), hide ⟨World.ownsRow_nil _ _ _ _, World.ownsRow_nil _ _ _ _, rfl, (fun k h => by simp at h), (fun g hg => by cases hg), Below.refl _ _⟩⟩
  case round =>
    rename World => wr
    obtain ⟨m, xs, L, hm, rfl, h30m, hsz, hhd, hru⟩ := hrel
    have HA0 := HA
    have hml : (m : Int) ≤ (n : Int) := by omega
    by_cases h4 : m + 4 ≤ n
    · have h4' : (m : Int) + 4 ≤ (n : Int) := by omega
      have g4 : m + 4 ≤ b.length := by rw [unhide HN]; exact h4
      obtain ⟨B, O, ha, -⟩ := (unhide HA).at (by omega : m < b.length)
      subst ha
      have hcell : ∀ (wx : World) (j : Nat) (hj : j < b.length), Below w.heap.size w wx → wx.cell? ⟨B, O + j, none⟩ = some (.int .u8 (b[j].toNat : Int)) := fun wx j hj hb => by
        obtain ⟨B', O', e, z⟩ := ((unhide HA).low hb).at hj
        cases e
        exact z
      obtain ⟨m1, hm1⟩ : ∃ x, m + 1 = x := ⟨_, rfl⟩
      obtain ⟨m2, hm2⟩ : ∃ x, m + 2 = x := ⟨_, rfl⟩
      obtain ⟨m3, hm3⟩ : ∃ x, m + 3 = x := ⟨_, rfl⟩
      have e1 : (m : Int) + 1 = (m1 : Int) := by omega
      have e2 : (m : Int) + 2 = (m2 : Int) := by omega
      have e3 : (m : Int) + 3 = (m3 : Int) := by omega
      have l0 : (m : Int) < (n : Int) := by omega
      have l1 : (m1 : Int) < (n : Int) := by omega
      have l2 : (m2 : Int) < (n : Int) := by omega
      have l3 : (m3 : Int) < (n : Int) := by omega
      have hmk := mark_is g4
      simp only [hm1, hm2, hm3] at hmk
      have k0 := hcell wr m (by omega) (unhide hru).low
      have k1 := hcell wr m1 (by omega) (unhide hru).low
      have k2 := hcell wr m2 (by omega) (unhide hru).low
      have k3 := hcell wr m3 (by omega) (unhide hru).low
      obtain ⟨c0, hc0⟩ : ∃ x, b[m]'(by omega) = x := ⟨_, rfl⟩
      obtain ⟨c1, hc1⟩ : ∃ x, b[m1]'(by omega) = x := ⟨_, rfl⟩
      obtain ⟨c2, hc2⟩ : ∃ x, b[m2]'(by omega) = x := ⟨_, rfl⟩
      obtain ⟨c3, hc3⟩ : ∃ x, b[m3]'(by omega) = x := ⟨_, rfl⟩
      rw [hc0, hc1, hc2, hc3] at hmk
      rw [hc0] at k0
      rw [hc1] at k1
      rw [hc2] at k2
      rw [hc3] at k3
      have HMK := hide hmk
      clear hmk hc0 hc1 hc2 hc3 hcell g4
      by_cases d0 : c0 = 80
      · have u0 : ((c0.toNat : Int) == 80) = true := by rw [d0]; rfl
        by_cases d1 : c1 = 75
        · have u1 : ((c1.toNat : Int) == 75) = true := by rw [d1]; rfl
          by_cases d2 : c2 = 3
          · have u2 : ((c2.toNat : Int) == 3) = true := by rw [d2]; rfl
            by_cases d3 : c3 = 4
            · have u3 : ((c3.toNat : Int) == 4) = true := by rw [d3]; rfl
              have HYES : Hid ((b.drop m).take 4 = [80, 75, 3, 4]) := hide (by rw [unhide HMK, d0, d1, d2, d3])
              subst d0
              subst d1
              subst d2
              subst d3
              clear HMK hm1 hm2 hm3
              obtain ⟨r, hr⟩ : ∃ r, b.drop m = r := ⟨_, rfl⟩
              have hrl : r.length = n - m := by rw [← hr, List.length_drop, unhide HN]
              rw [hr] at HYES hhd
              obtain ⟨n1, hn1⟩ : ∃ x, n - m = x := ⟨_, rfl⟩
              rw [hn1] at hrl
              have eN : (n : Int) - (m : Int) = (n1 : Int) := by omega
              by_cases h30 : n1 < 30
              · have h30' : (n1 : Int) < 30 := by omega
                have HZ : Hid (UnpS b 17) := hide (Or.inr (Or.inl ⟨by rw [unhide HN]; omega, by rw [unhide hhd, headsR_cut (unhide HYES) (by rw [hrl]; exact h30)]; rfl, rfl⟩))
                have HLOW := hide (unhide hru).low
                clear hhd hru HYES hr
                go_wp2
                go_ret2
                exact ⟨⟨17, unhide HZ, Or.inl ⟨by decide, rfl⟩⟩, unhide HLOW⟩
              have h30' : ¬ (n1 : Int) < 30 := by omega
              obtain ⟨CR, hCR⟩ : ∃ x, crN r = x := ⟨_, rfl⟩
              obtain ⟨DA, hDA⟩ : ∃ x, daN r = x := ⟨_, rfl⟩
              obtain ⟨NM, hNM⟩ : ∃ x, nmN r = x := ⟨_, rfl⟩
              have dd : ∀ k, r.drop k = b.drop (m + k) := fun k => by rw [← hr, List.drop_drop]
              have bCR : CR < 4294967296 := by
                rw [← hCR]
                have := getN_lt ((r.drop 14).take 4)
                rw [List.length_take, List.length_drop, Nat.min_eq_left (by omega)] at this
                exact this
              have bDA : DA < 4294967296 := by
                rw [← hDA]
                have := getN_lt ((r.drop 18).take 4)
                rw [List.length_take, List.length_drop, Nat.min_eq_left (by omega)] at this
                exact this
              have bNM : NM < 65536 := by
                rw [← hNM]
                have := getN_lt ((r.drop 26).take 2)
                rw [List.length_take, List.length_drop, Nat.min_eq_left (by omega)] at this
                exact this
              obtain ⟨p14, hp14⟩ : ∃ x, m + 14 = x := ⟨_, rfl⟩
              obtain ⟨p18, hp18⟩ : ∃ x, m + 18 = x := ⟨_, rfl⟩
              obtain ⟨p26, hp26⟩ : ∃ x, m + 26 = x := ⟨_, rfl⟩
              have e14 : (m : Int) + 14 = (p14 : Int) := by omega
              have e18 : (m : Int) + 18 = (p18 : Int) := by omega
              have e26 : (m : Int) + 26 = (p26 : Int) := by omega
              have K18 : Hid (∀ W, Below w.heap.size w W → Calls Tryz.prog 101 #[.slice (some ⟨B, O, none⟩) n c, .int .i64 (p18 : Int), .int .i64 4] W fun e w' => e = .returned (.int .i64 (DA : Int)) ∧ w' = W) := hide (fun W hW => by
                have kk := get_any2 (c := c) (at0 := p18) (sz := 4) (unhide HN) (by omega) (by omega) (by omega) ((unhide HA0).low hW)
                have e : getN ((b.drop p18).take 4) = DA := by rw [← hDA, ← hp18, ← dd]; rfl
                rw [e] at kk
                exact kk)
              have K26 : Hid (∀ W, Below w.heap.size w W → Calls Tryz.prog 101 #[.slice (some ⟨B, O, none⟩) n c, .int .i64 (p26 : Int), .int .i64 2] W fun e w' => e = .returned (.int .i64 (NM : Int)) ∧ w' = W) := hide (fun W hW => by
                have kk := get_any2 (c := c) (at0 := p26) (sz := 2) (unhide HN) (by omega) (by omega) (by omega) ((unhide HA0).low hW)
                have e : getN ((b.drop p26).take 2) = NM := by rw [← hNM, ← hp26, ← dd]; rfl
                rw [e] at kk
                exact kk)
              have K14 : Hid (∀ W, Below w.heap.size w W → Calls Tryz.prog 101 #[.slice (some ⟨B, O, none⟩) n c, .int .i64 (p14 : Int), .int .i64 4] W fun e w' => e = .returned (.int .i64 (CR : Int)) ∧ w' = W) := hide (fun W hW => by
                have kk := get_any2 (c := c) (at0 := p14) (sz := 4) (unhide HN) (by omega) (by omega) (by omega) ((unhide HA0).low hW)
                have e : getN ((b.drop p14).take 4) = CR := by rw [← hCR, ← hp14, ← dd]; rfl
                rw [e] at kk
                exact kk)
              have HLOW := hide (unhide hru).low
              obtain ⟨n2, hn2⟩ : ∃ x, n1 - 30 = x := ⟨_, rfl⟩
              have eN2 : (n1 : Int) - 30 = (n2 : Int) := by omega
              obtain ⟨S, hS⟩ : ∃ S, NM + DA = S := ⟨_, rfl⟩
              have eS : (DA : Int) + (NM : Int) = (S : Int) := by omega
              have HNX : Hid (n2 < S → headsR r = none) := hide (fun hlt => headsR_short (unhide HYES) (by omega) (by rw [hrl, hNM, hDA]; omega))
              have HNY : Hid (¬ n2 < S → headsR r = (headsR (restOf r)).map fun l => sfOf r :: l) := hide (fun hlt => headsR_next (unhide HYES) (by omega) (by rw [hrl, hNM, hDA]; omega))
              have HEQ := hide (And.intro hCR (And.intro hDA hNM))
              have HDD := hide dd
              have K18w := hide (unhide K18 _ (unhide HLOW))
              have K26w := hide (unhide K26 _ (unhide HLOW))
              clear hCR hDA hNM dd hr hp18 hp26 hp14 K18 K26 HYES
              go_wp2_with (go_at_call 101; fail)
              refine (unhide K18w).mono ?_
              rintro e wn ⟨rfl, hwn⟩
              rw [hwn]
              clear hwn wn
              go_wp2_with (go_at_call 101; fail)
              refine (unhide K26w).mono ?_
              rintro e wn ⟨rfl, hwn⟩
              rw [hwn]
              clear hwn wn
              clear K18w K26w k0 k1 k2 k3 u0 u1 u2 u3
              by_cases hs : n2 < S
              · have hs' : (n2 : Int) < (S : Int) := by omega
                have HZ : Hid (UnpS b 17) := hide (Or.inr (Or.inl ⟨by rw [unhide HN]; omega, by rw [unhide hhd, unhide HNX hs]; rfl, rfl⟩))
                clear hhd hru HNX HNY
                go_wp2
                go_ret2
                exact ⟨⟨17, unhide HZ, Or.inl ⟨by decide, rfl⟩⟩, unhide HLOW⟩
              have hs' : ¬ (n2 : Int) < (S : Int) := by omega
              obtain ⟨p, hp⟩ : ∃ x, m + 30 = x := ⟨_, rfl⟩
              obtain ⟨q, hq⟩ : ∃ x, p + NM = x := ⟨_, rfl⟩
              obtain ⟨t, ht⟩ : ∃ x, q + DA = x := ⟨_, rfl⟩
              have ep : (m : Int) + 30 = (p : Int) := by omega
              have eq : (p : Int) + (NM : Int) = (q : Int) := by omega
              have et : (q : Int) + (DA : Int) = (t : Int) := by omega
              have htn : t ≤ n := by omega
              have wp1 : IntKind.i64.wrap ((m : Int) + 30) = (p : Int) := by rw [ep]; simp [IntKind.wrap, IntKind.bits, IntKind.signed]; omega
              have wp2 : IntKind.i64.wrap ((p : Int) + (NM : Int)) = (q : Int) := by rw [eq]; simp [IntKind.wrap, IntKind.bits, IntKind.signed]; omega
              have wq1 : IntKind.i64.wrap (p : Int) = (p : Int) := by simp [IntKind.wrap, IntKind.bits, IntKind.signed]; omega
              have wq2 : IntKind.i64.wrap (q : Int) = (q : Int) := by simp [IntKind.wrap, IntKind.bits, IntKind.signed]; omega
              have wq3 : IntKind.i64.wrap (t : Int) = (t : Int) := by simp [IntKind.wrap, IntKind.bits, IntKind.signed]; omega
              have wp3 : IntKind.i64.wrap ((q : Int) + (DA : Int)) = (t : Int) := by rw [et]; simp [IntKind.wrap, IntKind.bits, IntKind.signed]; omega
              obtain ⟨a1, ha1⟩ : ∃ x, cutA (some ⟨B, O, none⟩) c p = x := ⟨_, rfl⟩
              obtain ⟨a2, ha2⟩ : ∃ x, cutA (some ⟨B, O, none⟩) c q = x := ⟨_, rfl⟩
              obtain ⟨c1, hc1⟩ : ∃ x, c - p = x := ⟨_, rfl⟩
              obtain ⟨c2, hc2⟩ : ∃ x, c - q = x := ⟨_, rfl⟩
              have s1 : ∀ W, (Instr.slice 23 (.slice (some ⟨B, O, none⟩) n c) (some (.int .i64 (p : Int))) (some (.int .i64 (q : Int))) none).run Tryz.prog W = .ok (.slice a1 NM c1) W := fun W => by
                rw [← ha1, ← hc1, show NM = q - p by omega]; exact slice_in (l := p) (m := q) (by omega) (by omega) W
              have s2 : ∀ W, (Instr.slice 23 (.slice (some ⟨B, O, none⟩) n c) (some (.int .i64 (q : Int))) (some (.int .i64 (t : Int))) none).run Tryz.prog W = .ok (.slice a2 DA c2) W := fun W => by
                rw [← ha2, ← hc2, show DA = t - q by omega]; exact slice_in (l := q) (m := t) (by omega) (by omega) W
              obtain ⟨nm, hnm⟩ : ∃ x, (b.drop p).take NM = x := ⟨_, rfl⟩
              obtain ⟨d, hd⟩ : ∃ x, (b.drop q).take DA = x := ⟨_, rfl⟩
              have hnml : nm.length = NM := by rw [← hnm, List.length_take, List.length_drop, unhide HN]; omega
              have hdl : d.length = DA := by rw [← hd, List.length_take, List.length_drop, unhide HN]; omega
              have h1a : BAt w a1 nm := by rw [← ha1, ← hnm]; exact (cut_at (unhide HN) hc (unhide HA0)).take2 NM
              have h2a : BAt w a2 d := by rw [← ha2, ← hd]; exact (cut_at (unhide HN) hc (unhide HA0)).take2 DA
              have h1f : a1 = none ∨ ∃ B O, a1 = some ⟨B, O, none⟩ := by rw [← ha1]; exact cut_form (unhide HF)
              have hlow2 : ∀ W, Below wr.heap.size wr W → Below w.heap.size w W := fun W hW => low_trans (unhide HLOW) hW
              have cv3 : ∀ W, Below w.heap.size w W → (convert 23 9 (.slice a1 NM c1)).run Tryz.prog W = .ok (.string (ba nm)) W := fun W hW => conv_bytes hnml h1f (h1a.low hW)
              have HSF : Hid (sfOf r = ⟨nm, d, CR⟩ ∧ restOf r = b.drop t) := hide (by
                obtain ⟨q1, q2, q3⟩ := unhide HEQ
                have d1 := unhide HDD 30
                rw [hp] at d1
                have d2 : (b.drop p).drop NM = b.drop q := by rw [List.drop_drop, hq]
                have d3 : (b.drop q).drop DA = b.drop t := by rw [List.drop_drop, ht]
                unfold sfOf restOf
                rw [q1, q2, q3, d1, d2, d3, hnm, hd]
                exact ⟨rfl, rfl⟩)
              have HHD : Hid (headsR b = (headsR (b.drop t)).map fun q => (L ++ [⟨nm, d, CR⟩]) ++ q) := hide (by
                rw [unhide hhd, unhide HNY hs, (unhide HSF).1, (unhide HSF).2]
                cases headsR (b.drop t) <;> simp)
              have HSZ2 : Hid (sizesL ((L ++ [(⟨nm, d, CR⟩ : Sf)]).map sfN) ≤ 3 * t) := hide (by
                rw [List.map_append, sizes_app]
                have h1 := unhide hsz
                have h2 : sizesL ([(⟨nm, d, CR⟩ : Sf)].map sfN) = 76 + 2 * nm.length + d.length := rfl
                rw [h2]
                omega)
              have hxl : xs.length = L.length := (unhide hru).len
              have HC : Hid (∀ wx, Below wr.heap.size wr wx → Calls Tryz.prog 82 #[.slice a2 DA c2] wx fun e w' => ∃ a8 c8, e = .returned (.slice a8 DA c8) ∧ Hid (OwnB wr.heap.size w' (.slice a8 DA c8) d ∧ Below wr.heap.size wr w') ∧ Below w.heap.size w w') := hide (fun wx hb => by
                refine (bytes_any (c := c2) hdl (by omega) (h2a.low (hlow2 wx hb))).mono ?_
                rintro e w' ⟨v, rfl, ho, hb2⟩
                obtain ⟨a8, c8, rfl, -, -, -⟩ := OwnB.at ho
                rw [hdl] at ho ⊢
                exact ⟨a8, c8, rfl, hide ⟨OwnB.less hb.size ho, low_trans hb hb2⟩, hlow2 _ (low_trans hb hb2)⟩)
              have HAP : Hid (∀ w8 W a8 c8, Hid (OwnB wr.heap.size w8 (.slice a8 DA c8) d ∧ Below wr.heap.size wr w8) → w8.alloc (.cells #[.string (ba nm), .slice a8 DA c8] 56) = W → ∃ v' w', (Builtin.append_ #[22, 22] 22 #[u4, .slice (some ⟨w8.heap.size, 0, none⟩) 1 1]).run Tryz.prog W = .ok v' w' ∧ Hid (RU w w' v' u5 (xs ++ [⟨nm, a8, DA, c8⟩]) (L ++ [⟨nm, d, CR⟩]) (L.map Sf.crc)) ∧ Below w.heap.size w w') := hide (fun w8 W a8 c8 ho hW => by
                obtain ⟨v', w', g1, g2⟩ := (unhide hru).file (x := ⟨nm, a8, DA, c8⟩) (s := ⟨nm, d, CR⟩) (by omega) (unhide ho).2 rfl hdl (unhide ho).1 hW
                exact ⟨v', w', g1, hide g2, g2.low⟩)
              have hSq : Below wr.heap.size wr wr.drew := (Below.refl _ _).drew
              have hSr : Below w.heap.size w wr := unhide HLOW
              have hSrd : Below w.heap.size w wr.drew := low_trans hSr hSq
              have HLL := hide hxl
              have HNL := hide (And.intro hnml hdl)
              have K14w : Hid (∀ W, Below w.heap.size w W → Calls Tryz.prog 101 #[.slice (some ⟨B, O, none⟩) n c, .int .i64 (p14 : Int), .int .i64 4] W fun e w' => e = .returned (.int .i64 (CR : Int)) ∧ w' = W) := K14
              clear hhd HNX HNY HEQ HDD HSF hsz hnm hd hnml hdl h1a h2a h1f ha1 ha2 hc1 hc2 hxl hlow2 hru K14
              go_wp2
              go_region_held3 (fun wx => Below w.heap.size w wx)
                (first | assumption | exact hSr | exact hSrd | exact lowB (by assumption) _)
                (first
                  | (go_at_call 82; refine (unhide HC _ hSq).mono ?_; rintro e w8 ⟨a8, c8, rfl, hv8, hS8⟩)
                  | (revert hv8; intro hv8; obtain ⟨v9, w9, happ9, hv9, hS9⟩ := unhide HAP _ _ _ _ hv8 rfl; refine Lib.wp_append_run _ (.tmp 73) (.tmp 97) 22 22 (by rfl) u4 (.slice (some ⟨w8.heap.size, 0, none⟩) 1 1) (by kernel_rfl) (by kernel_rfl) v9 w9 happ9 ?_))
              have HR9 := hv9
              clear hv9 hv8 hS8 hS9 happ9 hSq hSr hSrd cv3 s1 s2 HC HAP
              obtain ⟨W10, hW10⟩ : ∃ W, w9.alloc (.cells #[.int .i64 (CR : Int)] 3) = W := ⟨_, rfl⟩
              obtain ⟨v10, w10, happ, hr10⟩ := (unhide HR9).sum (x := CR) (by rw [List.length_map]; omega) hW10
              have K14x := hide (unhide K14w w9 (unhide HR9).low)
              have HW10 := hide hW10
              have HR10 : Hid (RU w w10 v9 v10 (xs ++ [⟨nm, a8, DA, c8⟩]) (L ++ [⟨nm, d, CR⟩]) ((L ++ [(⟨nm, d, CR⟩ : Sf)]).map Sf.crc)) := hide (by rw [List.map_append]; exact hr10)
              clear hW10 hr10 K14w HR9
              go_wp2_with (go_at_call 101; fail)
              refine (unhide K14x).mono ?_
              rintro e wn ⟨rfl, hwn⟩
              rw [hwn]
              clear hwn wn
              go_wp2_with (at_builtin; rw [unhide HW10]; refine Lib.wpList_append_run _ rfl (.tmp 99) (.tmp 104) 140 140 rfl _ _ rfl rfl _ _ happ ?_; clear happ)
              go_roundw
              case rel => exact ⟨t, xs ++ [⟨nm, a8, DA, c8⟩], L ++ [⟨nm, d, CR⟩], htn, rfl, by rw [List.length_append]; simp; omega, HSZ2, HHD, HR10⟩
              case measure => simp [intOf]; omega
            · have u3 : ((c3.toNat : Int) == 4) = false := by
                have : c3.toNat ≠ 4 := fun e => d3 (UInt8.toNat_inj.1 e)
                simp
                omega
              have HNO : Hid (¬ (b.drop m).take 4 = [80, 75, 3, 4]) := hide (by
                rw [unhide HMK]
                intro e
                simp only [List.cons.injEq] at e
                exact d3 (by simp [e]))
              clear HMK
              have HL : Hid (headsR b = some L) := hide (by rw [unhide hhd, headsR_no (unhide HNO)]; simp)
              obtain ⟨k, hk⟩ : ∃ k, L.length = k := ⟨_, rfl⟩
              have hxk : xs.length = k := by rw [(unhide hru).len]; exact hk
              have hsl : (L.map Sf.crc).length = k := by rw [List.length_map]; exact hk
              obtain ⟨a4, c4, e4, hat4, hc4⟩ := FRow.at (unhide hru).l
              obtain ⟨a5, c5, e5, hat5⟩ := IRow.at (unhide hru).s
              rw [hxk] at e4 hc4
              rw [hsl] at e5
              subst e4
              subst e5
              have hk667 : k ≤ 667 := by omega
              have HK := hide hk
              have HXK := hide hxk
              have HAT4 := hide hat4
              have HAT5 := hide hat5
              have HLOW := hide (unhide hru).low
              have HBN : Hid (∀ s ∈ L, s.d.length ≤ 60000 ∧ s.nm.length ≤ 60000) := hide (fun s hs => by
                have q1 := sizes_mem (List.mem_map_of_mem (f := sfN) hs)
                have q2 := sizes_name (List.mem_map_of_mem (f := sfN) hs)
                have q3 := unhide hsz
                unfold sfN at q1 q2
                simp only at q1 q2
                constructor
                · have : s.d.length ≤ sizesL (L.map sfN) := q1
                  omega
                · have : s.nm.length ≤ sizesL (L.map sfN) := q2
                  omega)
              have HDG := hide ((unhide hru).datg (fun s hs => by have := (unhide HBN s hs).1; omega) (fun s hs => by have := (unhide HBN s hs).2; omega))
              have HNMS := hide (unhide hru).nm
              have HSZ : Hid (sizesL (L.map sfN) ≤ 60000) := hide (by have := unhide hsz; omega)
              clear hk hxk hsl hat4 hat5 hhd HNO hru hsz HA HF
              by_cases h100 : 100 < k
              · have h100' : (100 : Int) < (k : Int) := by omega
                have HZ : Hid (UnpS b 14) := hide (Or.inr (Or.inr ⟨L, by rw [unhide HN]; omega, unhide HL, Or.inl ⟨by rw [unhide HK]; exact h100, rfl⟩⟩))
                go_wp2
                go_ret2
                exact ⟨⟨14, unhide HZ, Or.inl ⟨by decide, rfl⟩⟩, unhide HLOW⟩
              have h100' : ¬ (100 : Int) < (k : Int) := by omega
              have HUNP : Hid (∀ E, ((chkE [] L ≠ 0 ∧ E = chkE [] L) ∨ (chkE [] L = 0 ∧ ((¬ Packs L b ∧ E = 15) ∨ (Packs L b ∧ E = 0)))) → UnpS b E) := hide (fun E hE => Or.inr (Or.inr ⟨L, by rw [unhide HN]; omega, unhide HL, Or.inr ⟨by rw [unhide HK]; omega, hE⟩⟩))
              go_wp2
              go_loopw [9, 10] (fun v9 _ wk => ∃ i : Nat, i ≤ k ∧ v9 = .int .i64 (i : Int) ∧ Hid (chkE [] (L.take i) = 0) ∧ Hid (Below wr.heap.size wr wk)) (fun v9 _ _ => k - (intOf v9).toNat)
              case atStart => exact ⟨0, Nat.zero_le _, rfl, hide rfl, hide (Below.refl _ _)⟩
              case round =>
                rename World => wk
                obtain ⟨i, hi, rfl, hch, hbk⟩ := hrel
                by_cases hlt : i < k
                · have hlt' : (i : Int) < (k : Int) := by omega
                  have hiL : i < L.length := by rw [unhide HK]; exact hlt
                  have hiX : i < xs.length := by rw [unhide HXK]; exact hlt
                  obtain ⟨i1, hi1⟩ : ∃ i1, i + 1 = i1 := ⟨_, rfl⟩
                  have e1 : (i : Int) + 1 = (i1 : Int) := by omega
                  have s22 : ∀ W, (Instr.slice 22 (.slice a4 k c4) none (some (.int .i64 (i1 : Int))) none).run Tryz.prog W = .ok (.slice a4 i1 c4) W := fun W => slice22_to (by omega) hc4 W
                  obtain ⟨N, hNN⟩ : ∃ N, nmE [] ((L.map Sf.nm).take i1) = N := ⟨_, rfl⟩
                  have KN := hide (refNames_any (w := wk) (a := a4) (n := i1) (c := c4) (xs := xs.take i1) (by rw [List.length_take, unhide HXK]; omega) (by omega) (fun x hx => by
                    have hx2 := List.mem_of_mem_take hx
                    have hx3 : x.nm ∈ xs.map Fl.nm := List.mem_map_of_mem hx2
                    rw [unhide HNMS] at hx3
                    obtain ⟨s, hs, e⟩ := List.mem_map.1 hx3
                    have := (unhide HBN s hs).2
                    rw [← e]
                    omega) (((unhide HAT4).low (unhide hbk)).take i1))
                  rw [List.map_take, unhide HNMS, hNN] at KN
                  obtain ⟨q1, q2, q3⟩ := next_name hiL (unhide hch)
                  rw [hi1, hNN] at q1
                  rw [hi1] at q2 q3
                  have HQ1 := hide q1
                  have HQ2 := hide q2
                  have HQ3 := hide q3
                  clear q1 q2 q3 hNN hch
                  go_wp2_with (go_at_call 93; fail)
                  refine (unhide KN).mono ?_
                  rintro e w2 ⟨rfl, b2⟩
                  have HB2 := hide (low_trans (unhide hbk) b2)
                  clear b2 KN hbk s22
                  by_cases hNz : N = 0
                  · subst hNz
                    obtain ⟨hu, hv⟩ : (chkE [] L = if (crcL L[i].d).toNat ≠ L[i].crc then 16 else chkE (lowL L[i].nm :: lowsR (L.take i) []) (L.drop i1)) ∧ (chkE [] (L.take i1) = if (crcL L[i].d).toNat ≠ L[i].crc then 16 else 0) := ⟨by rw [unhide HQ2]; exact one_sum (unhide HQ1).symm, by rw [unhide HQ3, one_sum (unhide HQ1).symm]; rfl⟩
                    obtain ⟨B4, O4, rfl, -, -⟩ := ((unhide HAT4).low (unhide HB2)).get hiX
                    obtain ⟨g5, rfl, -⟩ := unhide HAT5 i (by rw [List.length_map]; exact hiL)
                    have hdat : BAt wr xs[i].a L[i].d ∧ L[i].d.length = xs[i].n := by
                      have h1 := (unhide HDG).1.at_ xs[i] (List.getElem_mem hiX)
                      have h3 := (unhide HDG).1.len xs[i] (List.getElem_mem hiX)
                      have h2 : (xs.map (ndF (datW wr)))[i]? = (L.map sfN)[i]? := by rw [(unhide HDG).2]
                      simp [hiX, hiL, ndF, sfN] at h2
                      rw [h2.2] at h1 h3
                      exact ⟨h1, h3⟩
                    have hdl := (unhide HBN _ (List.getElem_mem hiL)).1
                    have hcells : ∀ wx, Below wr.heap.size wr wx → wx.cell? ⟨B4, O4 + i * 2 + 1, none⟩ = some (.slice xs[i].a xs[i].n xs[i].c) ∧ wx.cell? ⟨g5, i, none⟩ = some (.int .i64 ((L[i].crc : Nat) : Int)) := fun wx hb => by
                      obtain ⟨B, O, e, -, z1⟩ := ((unhide HAT4).low hb).get hiX
                      cases e
                      obtain ⟨g, e2, z2⟩ := unhide HAT5 i (by rw [List.length_map]; exact hiL)
                      cases e2
                      have z3 := (hb.cell (lt_of_cell z2)).trans z2
                      rw [List.getElem_map, Nat.zero_add] at z3
                      exact ⟨z1, z3⟩
                    obtain ⟨x, hxx⟩ : ∃ x, xs[i] = x := ⟨_, rfl⟩
                    obtain ⟨s, hss⟩ : ∃ s, L[i] = s := ⟨_, rfl⟩
                    rw [hxx] at hdat hcells
                    rw [hss] at hdat hcells hdl hu hv
                    obtain ⟨xnm, xa, xn, xc⟩ := x
                    obtain ⟨snm, sd, scr⟩ := s
                    simp only at hdat hcells hdl hu hv
                    obtain ⟨CK, hCK⟩ : ∃ CK, (crcL sd).toNat = CK := ⟨_, rfl⟩
                    have hCKb : CK < 4294967296 := by rw [← hCK]; exact u32_lt _
                    rw [hCK] at hu hv
                    have HC : Hid (∀ wx, Below wr.heap.size wr wx → Calls Tryz.prog 30 #[.slice xa xn xc] wx fun e w' => e = .returned (.int .u32 (CK : Int)) ∧ w' = wx) := hide (fun wx hb => by
                      have kk := refCrc_any (c := xc) hdat.2 (by omega) (hdat.1.low hb)
                      rw [hCK] at kk
                      exact kk)
                    have HC2 := hide (fun wx (hS : wx.cell? ⟨B4, O4 + i * 2 + 1, none⟩ = some (.slice xa xn xc) ∧ wx.cell? ⟨g5, i, none⟩ = some (.int .i64 ((scr : Nat) : Int)) ∧ Below wr.heap.size wr wx) => unhide HC wx hS.2.2)
                    have hS : w2.cell? ⟨B4, O4 + i * 2 + 1, none⟩ = some (.slice xa xn xc) ∧ w2.cell? ⟨g5, i, none⟩ = some (.int .i64 ((scr : Nat) : Int)) ∧ Below wr.heap.size wr w2 := ⟨(hcells _ (unhide HB2)).1, (hcells _ (unhide HB2)).2, unhide HB2⟩
                    have hSd : w2.drew.cell? ⟨B4, O4 + i * 2 + 1, none⟩ = some (.slice xa xn xc) ∧ w2.drew.cell? ⟨g5, i, none⟩ = some (.int .i64 ((scr : Nat) : Int)) ∧ Below wr.heap.size wr w2.drew := ⟨(hcells _ (unhide HB2).drew).1, (hcells _ (unhide HB2).drew).2, (unhide HB2).drew⟩
                    have w1 : IntKind.i64.wrap (CK : Int) = (CK : Int) := by simp [IntKind.wrap, IntKind.bits, IntKind.signed]; omega
                    have HU := hide hu
                    have HV := hide hv
                    clear hu hv hdat hcells hxx hss hCK hdl HC HQ1 HQ2 HQ3
                    go_wp2
                    go_region_held3 (fun wx => wx.cell? ⟨B4, O4 + i * 2 + 1, none⟩ = some (.slice xa xn xc) ∧ wx.cell? ⟨g5, i, none⟩ = some (.int .i64 ((scr : Nat) : Int)) ∧ Below wr.heap.size wr wx)
                      (first | assumption | exact hS | exact hSd)
                      (first | (go_at_call 30; refine (unhide HC2 _ (by assumption)).mono ?_; rintro e w9 ⟨rfl, rfl⟩))
                    have HB9 := hide hSd.2.2
                    clear hS hSd HC2
                    by_cases hcr : CK = scr
                    · subst hcr
                      have z1 : ((CK : Int) != (CK : Int)) = false := by simp
                      have HV2 : Hid (chkE [] (L.take i1) = 0) := hide (by rw [unhide HV, if_neg (by simp)])
                      go_wp2
                      go_roundw
                      case rel => exact ⟨i1, by omega, rfl, HV2, HB9⟩
                      case measure => simp [intOf]; omega
                    · have z1 : ((CK : Int) != (scr : Int)) = true := by simp; omega
                      have HU2 : Hid (chkE [] L = 16) := hide (by rw [unhide HU, if_pos hcr])
                      have HZ := hide (unhide HUNP 16 (Or.inl ⟨by rw [unhide HU2]; decide, (unhide HU2).symm⟩))
                      go_wp2
                      go_ret2
                      exact ⟨⟨16, unhide HZ, Or.inl ⟨by decide, rfl⟩⟩, low_trans (unhide HLOW) (unhide HB9)⟩
                  · have z1 : (N != 0) = true := by simpa using hNz
                    have HU2 : Hid (chkE [] L = N) := hide (by
                      have h1 := unhide HQ1
                      have h2 : nmE (lowsR (L.take i) []) [L[i].nm] ≠ 0 := by rw [← h1]; exact hNz
                      rw [unhide HQ2, one_name h2, ← h1])
                    have HZ := hide (unhide HUNP N (Or.inl ⟨by rw [unhide HU2]; exact hNz, (unhide HU2).symm⟩))
                    clear HQ1 HQ2 HQ3
                    go_wp2
                    go_ret2
                    exact ⟨⟨N, unhide HZ, Or.inl ⟨hNz, rfl⟩⟩, low_trans (unhide HLOW) (unhide HB2)⟩
                · have hik : i = k := by omega
                  subst hik
                  have HCH : Hid (chkE [] L = 0) := hide (by
                    have h1 := unhide hch
                    rw [List.take_of_length_le (by rw [unhide HK]; exact Nat.le_refl _)] at h1
                    exact h1)
                  have KB := hide (refByName_any (w := wk) (c := c4) (unhide HXK) (by omega) ((unhide HAT4).low (unhide hbk)))
                  clear hch
                  go_wp2_with (go_at_call 22; fail)
                  refine (unhide KB).mono ?_
                  rintro e w2 ⟨v2, ys, rfl, hr2, hp2, hi2, b2⟩
                  obtain ⟨a2, c2, rfl, hat2, -⟩ := FRow.at hr2
                  have hyk : ys.length = i := by rw [hp2.length_eq]; exact unhide HXK
                  rw [hyk]
                  have hdy := ((unhide HDG).1.low (low_trans (unhide hbk) b2)).perm hp2
                  have hsy : sizesL (ys.map (ndF (datW wr))) ≤ 60000 := by
                    rw [sizes_perm (hp2.map _), (unhide HDG).2]
                    exact unhide HSZ
                  have KA := hide (refArc_any (c := c2) hyk (by omega) hat2 hdy (by omega))
                  have HP2 := hide (And.intro hp2 hi2)
                  have HAT2 := hide hat2
                  have HYK := hide hyk
                  have HDY := hide hdy
                  have HSY := hide hsy
                  have HB2 := hide (low_trans (unhide HLOW) (low_trans (unhide hbk) b2))
                  clear hr2 hp2 hi2 b2 hat2 hyk hdy hsy KB hbk
                  go_wp2_with (go_at_call 94; fail)
                  refine (unhide KA).mono ?_
                  rintro e w3 ⟨v3, rfl, ho3, b3⟩
                  obtain ⟨Z, hZ⟩ : ∃ Z, arcL (ys.map (ndF (datW wr))) = Z := ⟨_, rfl⟩
                  rw [hZ] at ho3
                  obtain ⟨a3, c3, rfl, hat3, -, -⟩ := OwnB.at ho3
                  obtain ⟨z, hz⟩ : ∃ z, Z.length = z := ⟨_, rfl⟩
                  rw [hz]
                  have hzb : z ≤ 100000 := by
                    have := unhide HSY
                    rw [← hz, ← hZ, arc_len]
                    omega
                  have HB3 := hide (low_trans (unhide HB2) b3)
                  have KS := hide (sameBytes_any (w := w3) (c := c3) (c2 := c) hz (unhide HN) (by omega) (by omega) hat3 ((unhide HA0).low (unhide HB3)))
                  obtain ⟨sm, hsm⟩ : ∃ sm, decide (Z = b) = sm := ⟨_, rfl⟩
                  rw [hsm] at KS
                  have HZZ := hide hZ
                  have HSM := hide hsm
                  have HAT3 := hide ((unhide HAT2).low b3)
                  have HDY3 := hide ((unhide HDY).low b3)
                  clear hZ ho3 hat3 hz b3 hsm KA
                  go_wp2_with (go_at_call 23; fail)
                  refine (unhide KS).mono ?_
                  rintro e w4 ⟨rfl, q, hw4⟩
                  have b4 : Below w3.heap.size w3 w4 := by rw [hw4]; exact low_q _
                  have HB4 := hide (low_trans (unhide HB3) b4)
                  have HAT4b := hide ((unhide HAT3).low b4)
                  have HDY4 := hide ((unhide HDY3).low b4)
                  clear b4 hw4 KS
                  cases sm with
                  | false =>
                    have HZ := hide (unhide HUNP 15 (Or.inr ⟨unhide HCH, Or.inl ⟨packs_no (unhide HDG).2 (chk_nm _ _ (unhide HCH)).1 (unhide HP2).1 (unhide HP2).2 (by rw [unhide HZZ]; exact of_decide_eq_false (unhide HSM)), rfl⟩⟩))
                    go_wp2
                    go_ret2
                    exact ⟨⟨15, unhide HZ, Or.inl ⟨by decide, rfl⟩⟩, unhide HB4⟩
                  | true =>
                    have hzeq : arcL (ys.map (ndF (datW wr))) = b := (unhide HZZ).trans (of_decide_eq_true (unhide HSM))
                    have HZ := hide (unhide HUNP 0 (Or.inr ⟨unhide HCH, Or.inr ⟨packs_yes (unhide HDG).2 (chk_nm _ _ (unhide HCH)).1 (unhide HP2).1 (unhide HP2).2 (by rw [(unhide HDG).2]; have := unhide HSZ; omega) hzeq, rfl⟩⟩))
                    have HLZ : Hid (L.map sfN = ys.map (ndF (datW wr))) := hide (packs_back (unhide HL) hzeq (fun p hp => by
                      have hp2 := (((unhide HP2).1.map (ndF (datW wr))).mem_iff.1 hp)
                      rw [(unhide HDG).2] at hp2
                      have h1 := sizes_mem hp2
                      have h2 := sizes_name hp2
                      have h3 := unhide HSZ
                      unfold ndOk
                      omega))
                    have HFD : Hid (FdAt w4 a2 (L.map sfN)) := hide (by rw [unhide HLZ]; exact fd_of (unhide HAT4b) (unhide HDY4))
                    clear hzeq
                    go_wp2
                    go_ret2
                    exact ⟨⟨0, unhide HZ, Or.inr ⟨rfl, a2, c2, L, unhide HL, by rw [unhide HK]; rfl, unhide HFD⟩⟩, unhide HB4⟩
          · have u2 : ((c2.toNat : Int) == 3) = false := by
              have : c2.toNat ≠ 3 := fun e => d2 (UInt8.toNat_inj.1 e)
              simp
              omega
            have HNO : Hid (¬ (b.drop m).take 4 = [80, 75, 3, 4]) := hide (by
              rw [unhide HMK]
              intro e
              simp only [List.cons.injEq] at e
              exact d2 (by simp [e]))
            clear HMK
            have HL : Hid (headsR b = some L) := hide (by rw [unhide hhd, headsR_no (unhide HNO)]; simp)
            obtain ⟨k, hk⟩ : ∃ k, L.length = k := ⟨_, rfl⟩
            have hxk : xs.length = k := by rw [(unhide hru).len]; exact hk
            have hsl : (L.map Sf.crc).length = k := by rw [List.length_map]; exact hk
            obtain ⟨a4, c4, e4, hat4, hc4⟩ := FRow.at (unhide hru).l
            obtain ⟨a5, c5, e5, hat5⟩ := IRow.at (unhide hru).s
            rw [hxk] at e4 hc4
            rw [hsl] at e5
            subst e4
            subst e5
            have hk667 : k ≤ 667 := by omega
            have HK := hide hk
            have HXK := hide hxk
            have HAT4 := hide hat4
            have HAT5 := hide hat5
            have HLOW := hide (unhide hru).low
            have HBN : Hid (∀ s ∈ L, s.d.length ≤ 60000 ∧ s.nm.length ≤ 60000) := hide (fun s hs => by
              have q1 := sizes_mem (List.mem_map_of_mem (f := sfN) hs)
              have q2 := sizes_name (List.mem_map_of_mem (f := sfN) hs)
              have q3 := unhide hsz
              unfold sfN at q1 q2
              simp only at q1 q2
              constructor
              · have : s.d.length ≤ sizesL (L.map sfN) := q1
                omega
              · have : s.nm.length ≤ sizesL (L.map sfN) := q2
                omega)
            have HDG := hide ((unhide hru).datg (fun s hs => by have := (unhide HBN s hs).1; omega) (fun s hs => by have := (unhide HBN s hs).2; omega))
            have HNMS := hide (unhide hru).nm
            have HSZ : Hid (sizesL (L.map sfN) ≤ 60000) := hide (by have := unhide hsz; omega)
            clear hk hxk hsl hat4 hat5 hhd HNO hru hsz HA HF
            by_cases h100 : 100 < k
            · have h100' : (100 : Int) < (k : Int) := by omega
              have HZ : Hid (UnpS b 14) := hide (Or.inr (Or.inr ⟨L, by rw [unhide HN]; omega, unhide HL, Or.inl ⟨by rw [unhide HK]; exact h100, rfl⟩⟩))
              go_wp2
              go_ret2
              exact ⟨⟨14, unhide HZ, Or.inl ⟨by decide, rfl⟩⟩, unhide HLOW⟩
            have h100' : ¬ (100 : Int) < (k : Int) := by omega
            have HUNP : Hid (∀ E, ((chkE [] L ≠ 0 ∧ E = chkE [] L) ∨ (chkE [] L = 0 ∧ ((¬ Packs L b ∧ E = 15) ∨ (Packs L b ∧ E = 0)))) → UnpS b E) := hide (fun E hE => Or.inr (Or.inr ⟨L, by rw [unhide HN]; omega, unhide HL, Or.inr ⟨by rw [unhide HK]; omega, hE⟩⟩))
            go_wp2
            go_loopw [9, 10] (fun v9 _ wk => ∃ i : Nat, i ≤ k ∧ v9 = .int .i64 (i : Int) ∧ Hid (chkE [] (L.take i) = 0) ∧ Hid (Below wr.heap.size wr wk)) (fun v9 _ _ => k - (intOf v9).toNat)
            case atStart => exact ⟨0, Nat.zero_le _, rfl, hide rfl, hide (Below.refl _ _)⟩
            case round =>
              rename World => wk
              obtain ⟨i, hi, rfl, hch, hbk⟩ := hrel
              by_cases hlt : i < k
              · have hlt' : (i : Int) < (k : Int) := by omega
                have hiL : i < L.length := by rw [unhide HK]; exact hlt
                have hiX : i < xs.length := by rw [unhide HXK]; exact hlt
                obtain ⟨i1, hi1⟩ : ∃ i1, i + 1 = i1 := ⟨_, rfl⟩
                have e1 : (i : Int) + 1 = (i1 : Int) := by omega
                have s22 : ∀ W, (Instr.slice 22 (.slice a4 k c4) none (some (.int .i64 (i1 : Int))) none).run Tryz.prog W = .ok (.slice a4 i1 c4) W := fun W => slice22_to (by omega) hc4 W
                obtain ⟨N, hNN⟩ : ∃ N, nmE [] ((L.map Sf.nm).take i1) = N := ⟨_, rfl⟩
                have KN := hide (refNames_any (w := wk) (a := a4) (n := i1) (c := c4) (xs := xs.take i1) (by rw [List.length_take, unhide HXK]; omega) (by omega) (fun x hx => by
                  have hx2 := List.mem_of_mem_take hx
                  have hx3 : x.nm ∈ xs.map Fl.nm := List.mem_map_of_mem hx2
                  rw [unhide HNMS] at hx3
                  obtain ⟨s, hs, e⟩ := List.mem_map.1 hx3
                  have := (unhide HBN s hs).2
                  rw [← e]
                  omega) (((unhide HAT4).low (unhide hbk)).take i1))
                rw [List.map_take, unhide HNMS, hNN] at KN
                obtain ⟨q1, q2, q3⟩ := next_name hiL (unhide hch)
                rw [hi1, hNN] at q1
                rw [hi1] at q2 q3
                have HQ1 := hide q1
                have HQ2 := hide q2
                have HQ3 := hide q3
                clear q1 q2 q3 hNN hch
                go_wp2_with (go_at_call 93; fail)
                refine (unhide KN).mono ?_
                rintro e w2 ⟨rfl, b2⟩
                have HB2 := hide (low_trans (unhide hbk) b2)
                clear b2 KN hbk s22
                by_cases hNz : N = 0
                · subst hNz
                  obtain ⟨hu, hv⟩ : (chkE [] L = if (crcL L[i].d).toNat ≠ L[i].crc then 16 else chkE (lowL L[i].nm :: lowsR (L.take i) []) (L.drop i1)) ∧ (chkE [] (L.take i1) = if (crcL L[i].d).toNat ≠ L[i].crc then 16 else 0) := ⟨by rw [unhide HQ2]; exact one_sum (unhide HQ1).symm, by rw [unhide HQ3, one_sum (unhide HQ1).symm]; rfl⟩
                  obtain ⟨B4, O4, rfl, -, -⟩ := ((unhide HAT4).low (unhide HB2)).get hiX
                  obtain ⟨g5, rfl, -⟩ := unhide HAT5 i (by rw [List.length_map]; exact hiL)
                  have hdat : BAt wr xs[i].a L[i].d ∧ L[i].d.length = xs[i].n := by
                    have h1 := (unhide HDG).1.at_ xs[i] (List.getElem_mem hiX)
                    have h3 := (unhide HDG).1.len xs[i] (List.getElem_mem hiX)
                    have h2 : (xs.map (ndF (datW wr)))[i]? = (L.map sfN)[i]? := by rw [(unhide HDG).2]
                    simp [hiX, hiL, ndF, sfN] at h2
                    rw [h2.2] at h1 h3
                    exact ⟨h1, h3⟩
                  have hdl := (unhide HBN _ (List.getElem_mem hiL)).1
                  have hcells : ∀ wx, Below wr.heap.size wr wx → wx.cell? ⟨B4, O4 + i * 2 + 1, none⟩ = some (.slice xs[i].a xs[i].n xs[i].c) ∧ wx.cell? ⟨g5, i, none⟩ = some (.int .i64 ((L[i].crc : Nat) : Int)) := fun wx hb => by
                    obtain ⟨B, O, e, -, z1⟩ := ((unhide HAT4).low hb).get hiX
                    cases e
                    obtain ⟨g, e2, z2⟩ := unhide HAT5 i (by rw [List.length_map]; exact hiL)
                    cases e2
                    have z3 := (hb.cell (lt_of_cell z2)).trans z2
                    rw [List.getElem_map, Nat.zero_add] at z3
                    exact ⟨z1, z3⟩
                  obtain ⟨x, hxx⟩ : ∃ x, xs[i] = x := ⟨_, rfl⟩
                  obtain ⟨s, hss⟩ : ∃ s, L[i] = s := ⟨_, rfl⟩
                  rw [hxx] at hdat hcells
                  rw [hss] at hdat hcells hdl hu hv
                  obtain ⟨xnm, xa, xn, xc⟩ := x
                  obtain ⟨snm, sd, scr⟩ := s
                  simp only at hdat hcells hdl hu hv
                  obtain ⟨CK, hCK⟩ : ∃ CK, (crcL sd).toNat = CK := ⟨_, rfl⟩
                  have hCKb : CK < 4294967296 := by rw [← hCK]; exact u32_lt _
                  rw [hCK] at hu hv
                  have HC : Hid (∀ wx, Below wr.heap.size wr wx → Calls Tryz.prog 30 #[.slice xa xn xc] wx fun e w' => e = .returned (.int .u32 (CK : Int)) ∧ w' = wx) := hide (fun wx hb => by
                    have kk := refCrc_any (c := xc) hdat.2 (by omega) (hdat.1.low hb)
                    rw [hCK] at kk
                    exact kk)
                  have HC2 := hide (fun wx (hS : wx.cell? ⟨B4, O4 + i * 2 + 1, none⟩ = some (.slice xa xn xc) ∧ wx.cell? ⟨g5, i, none⟩ = some (.int .i64 ((scr : Nat) : Int)) ∧ Below wr.heap.size wr wx) => unhide HC wx hS.2.2)
                  have hS : w2.cell? ⟨B4, O4 + i * 2 + 1, none⟩ = some (.slice xa xn xc) ∧ w2.cell? ⟨g5, i, none⟩ = some (.int .i64 ((scr : Nat) : Int)) ∧ Below wr.heap.size wr w2 := ⟨(hcells _ (unhide HB2)).1, (hcells _ (unhide HB2)).2, unhide HB2⟩
                  have hSd : w2.drew.cell? ⟨B4, O4 + i * 2 + 1, none⟩ = some (.slice xa xn xc) ∧ w2.drew.cell? ⟨g5, i, none⟩ = some (.int .i64 ((scr : Nat) : Int)) ∧ Below wr.heap.size wr w2.drew := ⟨(hcells _ (unhide HB2).drew).1, (hcells _ (unhide HB2).drew).2, (unhide HB2).drew⟩
                  have w1 : IntKind.i64.wrap (CK : Int) = (CK : Int) := by simp [IntKind.wrap, IntKind.bits, IntKind.signed]; omega
                  have HU := hide hu
                  have HV := hide hv
                  clear hu hv hdat hcells hxx hss hCK hdl HC HQ1 HQ2 HQ3
                  go_wp2
                  go_region_held3 (fun wx => wx.cell? ⟨B4, O4 + i * 2 + 1, none⟩ = some (.slice xa xn xc) ∧ wx.cell? ⟨g5, i, none⟩ = some (.int .i64 ((scr : Nat) : Int)) ∧ Below wr.heap.size wr wx)
                    (first | assumption | exact hS | exact hSd)
                    (first | (go_at_call 30; refine (unhide HC2 _ (by assumption)).mono ?_; rintro e w9 ⟨rfl, rfl⟩))
                  have HB9 := hide hSd.2.2
                  clear hS hSd HC2
                  by_cases hcr : CK = scr
                  · subst hcr
                    have z1 : ((CK : Int) != (CK : Int)) = false := by simp
                    have HV2 : Hid (chkE [] (L.take i1) = 0) := hide (by rw [unhide HV, if_neg (by simp)])
                    go_wp2
                    go_roundw
                    case rel => exact ⟨i1, by omega, rfl, HV2, HB9⟩
                    case measure => simp [intOf]; omega
                  · have z1 : ((CK : Int) != (scr : Int)) = true := by simp; omega
                    have HU2 : Hid (chkE [] L = 16) := hide (by rw [unhide HU, if_pos hcr])
                    have HZ := hide (unhide HUNP 16 (Or.inl ⟨by rw [unhide HU2]; decide, (unhide HU2).symm⟩))
                    go_wp2
                    go_ret2
                    exact ⟨⟨16, unhide HZ, Or.inl ⟨by decide, rfl⟩⟩, low_trans (unhide HLOW) (unhide HB9)⟩
                · have z1 : (N != 0) = true := by simpa using hNz
                  have HU2 : Hid (chkE [] L = N) := hide (by
                    have h1 := unhide HQ1
                    have h2 : nmE (lowsR (L.take i) []) [L[i].nm] ≠ 0 := by rw [← h1]; exact hNz
                    rw [unhide HQ2, one_name h2, ← h1])
                  have HZ := hide (unhide HUNP N (Or.inl ⟨by rw [unhide HU2]; exact hNz, (unhide HU2).symm⟩))
                  clear HQ1 HQ2 HQ3
                  go_wp2
                  go_ret2
                  exact ⟨⟨N, unhide HZ, Or.inl ⟨hNz, rfl⟩⟩, low_trans (unhide HLOW) (unhide HB2)⟩
              · have hik : i = k := by omega
                subst hik
                have HCH : Hid (chkE [] L = 0) := hide (by
                  have h1 := unhide hch
                  rw [List.take_of_length_le (by rw [unhide HK]; exact Nat.le_refl _)] at h1
                  exact h1)
                have KB := hide (refByName_any (w := wk) (c := c4) (unhide HXK) (by omega) ((unhide HAT4).low (unhide hbk)))
                clear hch
                go_wp2_with (go_at_call 22; fail)
                refine (unhide KB).mono ?_
                rintro e w2 ⟨v2, ys, rfl, hr2, hp2, hi2, b2⟩
                obtain ⟨a2, c2, rfl, hat2, -⟩ := FRow.at hr2
                have hyk : ys.length = i := by rw [hp2.length_eq]; exact unhide HXK
                rw [hyk]
                have hdy := ((unhide HDG).1.low (low_trans (unhide hbk) b2)).perm hp2
                have hsy : sizesL (ys.map (ndF (datW wr))) ≤ 60000 := by
                  rw [sizes_perm (hp2.map _), (unhide HDG).2]
                  exact unhide HSZ
                have KA := hide (refArc_any (c := c2) hyk (by omega) hat2 hdy (by omega))
                have HP2 := hide (And.intro hp2 hi2)
                have HAT2 := hide hat2
                have HYK := hide hyk
                have HDY := hide hdy
                have HSY := hide hsy
                have HB2 := hide (low_trans (unhide HLOW) (low_trans (unhide hbk) b2))
                clear hr2 hp2 hi2 b2 hat2 hyk hdy hsy KB hbk
                go_wp2_with (go_at_call 94; fail)
                refine (unhide KA).mono ?_
                rintro e w3 ⟨v3, rfl, ho3, b3⟩
                obtain ⟨Z, hZ⟩ : ∃ Z, arcL (ys.map (ndF (datW wr))) = Z := ⟨_, rfl⟩
                rw [hZ] at ho3
                obtain ⟨a3, c3, rfl, hat3, -, -⟩ := OwnB.at ho3
                obtain ⟨z, hz⟩ : ∃ z, Z.length = z := ⟨_, rfl⟩
                rw [hz]
                have hzb : z ≤ 100000 := by
                  have := unhide HSY
                  rw [← hz, ← hZ, arc_len]
                  omega
                have HB3 := hide (low_trans (unhide HB2) b3)
                have KS := hide (sameBytes_any (w := w3) (c := c3) (c2 := c) hz (unhide HN) (by omega) (by omega) hat3 ((unhide HA0).low (unhide HB3)))
                obtain ⟨sm, hsm⟩ : ∃ sm, decide (Z = b) = sm := ⟨_, rfl⟩
                rw [hsm] at KS
                have HZZ := hide hZ
                have HSM := hide hsm
                have HAT3 := hide ((unhide HAT2).low b3)
                have HDY3 := hide ((unhide HDY).low b3)
                clear hZ ho3 hat3 hz b3 hsm KA
                go_wp2_with (go_at_call 23; fail)
                refine (unhide KS).mono ?_
                rintro e w4 ⟨rfl, q, hw4⟩
                have b4 : Below w3.heap.size w3 w4 := by rw [hw4]; exact low_q _
                have HB4 := hide (low_trans (unhide HB3) b4)
                have HAT4b := hide ((unhide HAT3).low b4)
                have HDY4 := hide ((unhide HDY3).low b4)
                clear b4 hw4 KS
                cases sm with
                | false =>
                  have HZ := hide (unhide HUNP 15 (Or.inr ⟨unhide HCH, Or.inl ⟨packs_no (unhide HDG).2 (chk_nm _ _ (unhide HCH)).1 (unhide HP2).1 (unhide HP2).2 (by rw [unhide HZZ]; exact of_decide_eq_false (unhide HSM)), rfl⟩⟩))
                  go_wp2
                  go_ret2
                  exact ⟨⟨15, unhide HZ, Or.inl ⟨by decide, rfl⟩⟩, unhide HB4⟩
                | true =>
                  have hzeq : arcL (ys.map (ndF (datW wr))) = b := (unhide HZZ).trans (of_decide_eq_true (unhide HSM))
                  have HZ := hide (unhide HUNP 0 (Or.inr ⟨unhide HCH, Or.inr ⟨packs_yes (unhide HDG).2 (chk_nm _ _ (unhide HCH)).1 (unhide HP2).1 (unhide HP2).2 (by rw [(unhide HDG).2]; have := unhide HSZ; omega) hzeq, rfl⟩⟩))
                  have HLZ : Hid (L.map sfN = ys.map (ndF (datW wr))) := hide (packs_back (unhide HL) hzeq (fun p hp => by
                    have hp2 := (((unhide HP2).1.map (ndF (datW wr))).mem_iff.1 hp)
                    rw [(unhide HDG).2] at hp2
                    have h1 := sizes_mem hp2
                    have h2 := sizes_name hp2
                    have h3 := unhide HSZ
                    unfold ndOk
                    omega))
                  have HFD : Hid (FdAt w4 a2 (L.map sfN)) := hide (by rw [unhide HLZ]; exact fd_of (unhide HAT4b) (unhide HDY4))
                  clear hzeq
                  go_wp2
                  go_ret2
                  exact ⟨⟨0, unhide HZ, Or.inr ⟨rfl, a2, c2, L, unhide HL, by rw [unhide HK]; rfl, unhide HFD⟩⟩, unhide HB4⟩
        · have u1 : ((c1.toNat : Int) == 75) = false := by
            have : c1.toNat ≠ 75 := fun e => d1 (UInt8.toNat_inj.1 e)
            simp
            omega
          have HNO : Hid (¬ (b.drop m).take 4 = [80, 75, 3, 4]) := hide (by
            rw [unhide HMK]
            intro e
            simp only [List.cons.injEq] at e
            exact d1 (by simp [e]))
          clear HMK
          have HL : Hid (headsR b = some L) := hide (by rw [unhide hhd, headsR_no (unhide HNO)]; simp)
          obtain ⟨k, hk⟩ : ∃ k, L.length = k := ⟨_, rfl⟩
          have hxk : xs.length = k := by rw [(unhide hru).len]; exact hk
          have hsl : (L.map Sf.crc).length = k := by rw [List.length_map]; exact hk
          obtain ⟨a4, c4, e4, hat4, hc4⟩ := FRow.at (unhide hru).l
          obtain ⟨a5, c5, e5, hat5⟩ := IRow.at (unhide hru).s
          rw [hxk] at e4 hc4
          rw [hsl] at e5
          subst e4
          subst e5
          have hk667 : k ≤ 667 := by omega
          have HK := hide hk
          have HXK := hide hxk
          have HAT4 := hide hat4
          have HAT5 := hide hat5
          have HLOW := hide (unhide hru).low
          have HBN : Hid (∀ s ∈ L, s.d.length ≤ 60000 ∧ s.nm.length ≤ 60000) := hide (fun s hs => by
            have q1 := sizes_mem (List.mem_map_of_mem (f := sfN) hs)
            have q2 := sizes_name (List.mem_map_of_mem (f := sfN) hs)
            have q3 := unhide hsz
            unfold sfN at q1 q2
            simp only at q1 q2
            constructor
            · have : s.d.length ≤ sizesL (L.map sfN) := q1
              omega
            · have : s.nm.length ≤ sizesL (L.map sfN) := q2
              omega)
          have HDG := hide ((unhide hru).datg (fun s hs => by have := (unhide HBN s hs).1; omega) (fun s hs => by have := (unhide HBN s hs).2; omega))
          have HNMS := hide (unhide hru).nm
          have HSZ : Hid (sizesL (L.map sfN) ≤ 60000) := hide (by have := unhide hsz; omega)
          clear hk hxk hsl hat4 hat5 hhd HNO hru hsz HA HF
          by_cases h100 : 100 < k
          · have h100' : (100 : Int) < (k : Int) := by omega
            have HZ : Hid (UnpS b 14) := hide (Or.inr (Or.inr ⟨L, by rw [unhide HN]; omega, unhide HL, Or.inl ⟨by rw [unhide HK]; exact h100, rfl⟩⟩))
            go_wp2
            go_ret2
            exact ⟨⟨14, unhide HZ, Or.inl ⟨by decide, rfl⟩⟩, unhide HLOW⟩
          have h100' : ¬ (100 : Int) < (k : Int) := by omega
          have HUNP : Hid (∀ E, ((chkE [] L ≠ 0 ∧ E = chkE [] L) ∨ (chkE [] L = 0 ∧ ((¬ Packs L b ∧ E = 15) ∨ (Packs L b ∧ E = 0)))) → UnpS b E) := hide (fun E hE => Or.inr (Or.inr ⟨L, by rw [unhide HN]; omega, unhide HL, Or.inr ⟨by rw [unhide HK]; omega, hE⟩⟩))
          go_wp2
          go_loopw [9, 10] (fun v9 _ wk => ∃ i : Nat, i ≤ k ∧ v9 = .int .i64 (i : Int) ∧ Hid (chkE [] (L.take i) = 0) ∧ Hid (Below wr.heap.size wr wk)) (fun v9 _ _ => k - (intOf v9).toNat)
          case atStart => exact ⟨0, Nat.zero_le _, rfl, hide rfl, hide (Below.refl _ _)⟩
          case round =>
            rename World => wk
            obtain ⟨i, hi, rfl, hch, hbk⟩ := hrel
            by_cases hlt : i < k
            · have hlt' : (i : Int) < (k : Int) := by omega
              have hiL : i < L.length := by rw [unhide HK]; exact hlt
              have hiX : i < xs.length := by rw [unhide HXK]; exact hlt
              obtain ⟨i1, hi1⟩ : ∃ i1, i + 1 = i1 := ⟨_, rfl⟩
              have e1 : (i : Int) + 1 = (i1 : Int) := by omega
              have s22 : ∀ W, (Instr.slice 22 (.slice a4 k c4) none (some (.int .i64 (i1 : Int))) none).run Tryz.prog W = .ok (.slice a4 i1 c4) W := fun W => slice22_to (by omega) hc4 W
              obtain ⟨N, hNN⟩ : ∃ N, nmE [] ((L.map Sf.nm).take i1) = N := ⟨_, rfl⟩
              have KN := hide (refNames_any (w := wk) (a := a4) (n := i1) (c := c4) (xs := xs.take i1) (by rw [List.length_take, unhide HXK]; omega) (by omega) (fun x hx => by
                have hx2 := List.mem_of_mem_take hx
                have hx3 : x.nm ∈ xs.map Fl.nm := List.mem_map_of_mem hx2
                rw [unhide HNMS] at hx3
                obtain ⟨s, hs, e⟩ := List.mem_map.1 hx3
                have := (unhide HBN s hs).2
                rw [← e]
                omega) (((unhide HAT4).low (unhide hbk)).take i1))
              rw [List.map_take, unhide HNMS, hNN] at KN
              obtain ⟨q1, q2, q3⟩ := next_name hiL (unhide hch)
              rw [hi1, hNN] at q1
              rw [hi1] at q2 q3
              have HQ1 := hide q1
              have HQ2 := hide q2
              have HQ3 := hide q3
              clear q1 q2 q3 hNN hch
              go_wp2_with (go_at_call 93; fail)
              refine (unhide KN).mono ?_
              rintro e w2 ⟨rfl, b2⟩
              have HB2 := hide (low_trans (unhide hbk) b2)
              clear b2 KN hbk s22
              by_cases hNz : N = 0
              · subst hNz
                obtain ⟨hu, hv⟩ : (chkE [] L = if (crcL L[i].d).toNat ≠ L[i].crc then 16 else chkE (lowL L[i].nm :: lowsR (L.take i) []) (L.drop i1)) ∧ (chkE [] (L.take i1) = if (crcL L[i].d).toNat ≠ L[i].crc then 16 else 0) := ⟨by rw [unhide HQ2]; exact one_sum (unhide HQ1).symm, by rw [unhide HQ3, one_sum (unhide HQ1).symm]; rfl⟩
                obtain ⟨B4, O4, rfl, -, -⟩ := ((unhide HAT4).low (unhide HB2)).get hiX
                obtain ⟨g5, rfl, -⟩ := unhide HAT5 i (by rw [List.length_map]; exact hiL)
                have hdat : BAt wr xs[i].a L[i].d ∧ L[i].d.length = xs[i].n := by
                  have h1 := (unhide HDG).1.at_ xs[i] (List.getElem_mem hiX)
                  have h3 := (unhide HDG).1.len xs[i] (List.getElem_mem hiX)
                  have h2 : (xs.map (ndF (datW wr)))[i]? = (L.map sfN)[i]? := by rw [(unhide HDG).2]
                  simp [hiX, hiL, ndF, sfN] at h2
                  rw [h2.2] at h1 h3
                  exact ⟨h1, h3⟩
                have hdl := (unhide HBN _ (List.getElem_mem hiL)).1
                have hcells : ∀ wx, Below wr.heap.size wr wx → wx.cell? ⟨B4, O4 + i * 2 + 1, none⟩ = some (.slice xs[i].a xs[i].n xs[i].c) ∧ wx.cell? ⟨g5, i, none⟩ = some (.int .i64 ((L[i].crc : Nat) : Int)) := fun wx hb => by
                  obtain ⟨B, O, e, -, z1⟩ := ((unhide HAT4).low hb).get hiX
                  cases e
                  obtain ⟨g, e2, z2⟩ := unhide HAT5 i (by rw [List.length_map]; exact hiL)
                  cases e2
                  have z3 := (hb.cell (lt_of_cell z2)).trans z2
                  rw [List.getElem_map, Nat.zero_add] at z3
                  exact ⟨z1, z3⟩
                obtain ⟨x, hxx⟩ : ∃ x, xs[i] = x := ⟨_, rfl⟩
                obtain ⟨s, hss⟩ : ∃ s, L[i] = s := ⟨_, rfl⟩
                rw [hxx] at hdat hcells
                rw [hss] at hdat hcells hdl hu hv
                obtain ⟨xnm, xa, xn, xc⟩ := x
                obtain ⟨snm, sd, scr⟩ := s
                simp only at hdat hcells hdl hu hv
                obtain ⟨CK, hCK⟩ : ∃ CK, (crcL sd).toNat = CK := ⟨_, rfl⟩
                have hCKb : CK < 4294967296 := by rw [← hCK]; exact u32_lt _
                rw [hCK] at hu hv
                have HC : Hid (∀ wx, Below wr.heap.size wr wx → Calls Tryz.prog 30 #[.slice xa xn xc] wx fun e w' => e = .returned (.int .u32 (CK : Int)) ∧ w' = wx) := hide (fun wx hb => by
                  have kk := refCrc_any (c := xc) hdat.2 (by omega) (hdat.1.low hb)
                  rw [hCK] at kk
                  exact kk)
                have HC2 := hide (fun wx (hS : wx.cell? ⟨B4, O4 + i * 2 + 1, none⟩ = some (.slice xa xn xc) ∧ wx.cell? ⟨g5, i, none⟩ = some (.int .i64 ((scr : Nat) : Int)) ∧ Below wr.heap.size wr wx) => unhide HC wx hS.2.2)
                have hS : w2.cell? ⟨B4, O4 + i * 2 + 1, none⟩ = some (.slice xa xn xc) ∧ w2.cell? ⟨g5, i, none⟩ = some (.int .i64 ((scr : Nat) : Int)) ∧ Below wr.heap.size wr w2 := ⟨(hcells _ (unhide HB2)).1, (hcells _ (unhide HB2)).2, unhide HB2⟩
                have hSd : w2.drew.cell? ⟨B4, O4 + i * 2 + 1, none⟩ = some (.slice xa xn xc) ∧ w2.drew.cell? ⟨g5, i, none⟩ = some (.int .i64 ((scr : Nat) : Int)) ∧ Below wr.heap.size wr w2.drew := ⟨(hcells _ (unhide HB2).drew).1, (hcells _ (unhide HB2).drew).2, (unhide HB2).drew⟩
                have w1 : IntKind.i64.wrap (CK : Int) = (CK : Int) := by simp [IntKind.wrap, IntKind.bits, IntKind.signed]; omega
                have HU := hide hu
                have HV := hide hv
                clear hu hv hdat hcells hxx hss hCK hdl HC HQ1 HQ2 HQ3
                go_wp2
                go_region_held3 (fun wx => wx.cell? ⟨B4, O4 + i * 2 + 1, none⟩ = some (.slice xa xn xc) ∧ wx.cell? ⟨g5, i, none⟩ = some (.int .i64 ((scr : Nat) : Int)) ∧ Below wr.heap.size wr wx)
                  (first | assumption | exact hS | exact hSd)
                  (first | (go_at_call 30; refine (unhide HC2 _ (by assumption)).mono ?_; rintro e w9 ⟨rfl, rfl⟩))
                have HB9 := hide hSd.2.2
                clear hS hSd HC2
                by_cases hcr : CK = scr
                · subst hcr
                  have z1 : ((CK : Int) != (CK : Int)) = false := by simp
                  have HV2 : Hid (chkE [] (L.take i1) = 0) := hide (by rw [unhide HV, if_neg (by simp)])
                  go_wp2
                  go_roundw
                  case rel => exact ⟨i1, by omega, rfl, HV2, HB9⟩
                  case measure => simp [intOf]; omega
                · have z1 : ((CK : Int) != (scr : Int)) = true := by simp; omega
                  have HU2 : Hid (chkE [] L = 16) := hide (by rw [unhide HU, if_pos hcr])
                  have HZ := hide (unhide HUNP 16 (Or.inl ⟨by rw [unhide HU2]; decide, (unhide HU2).symm⟩))
                  go_wp2
                  go_ret2
                  exact ⟨⟨16, unhide HZ, Or.inl ⟨by decide, rfl⟩⟩, low_trans (unhide HLOW) (unhide HB9)⟩
              · have z1 : (N != 0) = true := by simpa using hNz
                have HU2 : Hid (chkE [] L = N) := hide (by
                  have h1 := unhide HQ1
                  have h2 : nmE (lowsR (L.take i) []) [L[i].nm] ≠ 0 := by rw [← h1]; exact hNz
                  rw [unhide HQ2, one_name h2, ← h1])
                have HZ := hide (unhide HUNP N (Or.inl ⟨by rw [unhide HU2]; exact hNz, (unhide HU2).symm⟩))
                clear HQ1 HQ2 HQ3
                go_wp2
                go_ret2
                exact ⟨⟨N, unhide HZ, Or.inl ⟨hNz, rfl⟩⟩, low_trans (unhide HLOW) (unhide HB2)⟩
            · have hik : i = k := by omega
              subst hik
              have HCH : Hid (chkE [] L = 0) := hide (by
                have h1 := unhide hch
                rw [List.take_of_length_le (by rw [unhide HK]; exact Nat.le_refl _)] at h1
                exact h1)
              have KB := hide (refByName_any (w := wk) (c := c4) (unhide HXK) (by omega) ((unhide HAT4).low (unhide hbk)))
              clear hch
              go_wp2_with (go_at_call 22; fail)
              refine (unhide KB).mono ?_
              rintro e w2 ⟨v2, ys, rfl, hr2, hp2, hi2, b2⟩
              obtain ⟨a2, c2, rfl, hat2, -⟩ := FRow.at hr2
              have hyk : ys.length = i := by rw [hp2.length_eq]; exact unhide HXK
              rw [hyk]
              have hdy := ((unhide HDG).1.low (low_trans (unhide hbk) b2)).perm hp2
              have hsy : sizesL (ys.map (ndF (datW wr))) ≤ 60000 := by
                rw [sizes_perm (hp2.map _), (unhide HDG).2]
                exact unhide HSZ
              have KA := hide (refArc_any (c := c2) hyk (by omega) hat2 hdy (by omega))
              have HP2 := hide (And.intro hp2 hi2)
              have HAT2 := hide hat2
              have HYK := hide hyk
              have HDY := hide hdy
              have HSY := hide hsy
              have HB2 := hide (low_trans (unhide HLOW) (low_trans (unhide hbk) b2))
              clear hr2 hp2 hi2 b2 hat2 hyk hdy hsy KB hbk
              go_wp2_with (go_at_call 94; fail)
              refine (unhide KA).mono ?_
              rintro e w3 ⟨v3, rfl, ho3, b3⟩
              obtain ⟨Z, hZ⟩ : ∃ Z, arcL (ys.map (ndF (datW wr))) = Z := ⟨_, rfl⟩
              rw [hZ] at ho3
              obtain ⟨a3, c3, rfl, hat3, -, -⟩ := OwnB.at ho3
              obtain ⟨z, hz⟩ : ∃ z, Z.length = z := ⟨_, rfl⟩
              rw [hz]
              have hzb : z ≤ 100000 := by
                have := unhide HSY
                rw [← hz, ← hZ, arc_len]
                omega
              have HB3 := hide (low_trans (unhide HB2) b3)
              have KS := hide (sameBytes_any (w := w3) (c := c3) (c2 := c) hz (unhide HN) (by omega) (by omega) hat3 ((unhide HA0).low (unhide HB3)))
              obtain ⟨sm, hsm⟩ : ∃ sm, decide (Z = b) = sm := ⟨_, rfl⟩
              rw [hsm] at KS
              have HZZ := hide hZ
              have HSM := hide hsm
              have HAT3 := hide ((unhide HAT2).low b3)
              have HDY3 := hide ((unhide HDY).low b3)
              clear hZ ho3 hat3 hz b3 hsm KA
              go_wp2_with (go_at_call 23; fail)
              refine (unhide KS).mono ?_
              rintro e w4 ⟨rfl, q, hw4⟩
              have b4 : Below w3.heap.size w3 w4 := by rw [hw4]; exact low_q _
              have HB4 := hide (low_trans (unhide HB3) b4)
              have HAT4b := hide ((unhide HAT3).low b4)
              have HDY4 := hide ((unhide HDY3).low b4)
              clear b4 hw4 KS
              cases sm with
              | false =>
                have HZ := hide (unhide HUNP 15 (Or.inr ⟨unhide HCH, Or.inl ⟨packs_no (unhide HDG).2 (chk_nm _ _ (unhide HCH)).1 (unhide HP2).1 (unhide HP2).2 (by rw [unhide HZZ]; exact of_decide_eq_false (unhide HSM)), rfl⟩⟩))
                go_wp2
                go_ret2
                exact ⟨⟨15, unhide HZ, Or.inl ⟨by decide, rfl⟩⟩, unhide HB4⟩
              | true =>
                have hzeq : arcL (ys.map (ndF (datW wr))) = b := (unhide HZZ).trans (of_decide_eq_true (unhide HSM))
                have HZ := hide (unhide HUNP 0 (Or.inr ⟨unhide HCH, Or.inr ⟨packs_yes (unhide HDG).2 (chk_nm _ _ (unhide HCH)).1 (unhide HP2).1 (unhide HP2).2 (by rw [(unhide HDG).2]; have := unhide HSZ; omega) hzeq, rfl⟩⟩))
                have HLZ : Hid (L.map sfN = ys.map (ndF (datW wr))) := hide (packs_back (unhide HL) hzeq (fun p hp => by
                  have hp2 := (((unhide HP2).1.map (ndF (datW wr))).mem_iff.1 hp)
                  rw [(unhide HDG).2] at hp2
                  have h1 := sizes_mem hp2
                  have h2 := sizes_name hp2
                  have h3 := unhide HSZ
                  unfold ndOk
                  omega))
                have HFD : Hid (FdAt w4 a2 (L.map sfN)) := hide (by rw [unhide HLZ]; exact fd_of (unhide HAT4b) (unhide HDY4))
                clear hzeq
                go_wp2
                go_ret2
                exact ⟨⟨0, unhide HZ, Or.inr ⟨rfl, a2, c2, L, unhide HL, by rw [unhide HK]; rfl, unhide HFD⟩⟩, unhide HB4⟩
      · have u0 : ((c0.toNat : Int) == 80) = false := by
          have : c0.toNat ≠ 80 := fun e => d0 (UInt8.toNat_inj.1 e)
          simp
          omega
        have HNO : Hid (¬ (b.drop m).take 4 = [80, 75, 3, 4]) := hide (by
          rw [unhide HMK]
          intro e
          simp only [List.cons.injEq] at e
          exact d0 (by simp [e]))
        clear HMK
        have HL : Hid (headsR b = some L) := hide (by rw [unhide hhd, headsR_no (unhide HNO)]; simp)
        obtain ⟨k, hk⟩ : ∃ k, L.length = k := ⟨_, rfl⟩
        have hxk : xs.length = k := by rw [(unhide hru).len]; exact hk
        have hsl : (L.map Sf.crc).length = k := by rw [List.length_map]; exact hk
        obtain ⟨a4, c4, e4, hat4, hc4⟩ := FRow.at (unhide hru).l
        obtain ⟨a5, c5, e5, hat5⟩ := IRow.at (unhide hru).s
        rw [hxk] at e4 hc4
        rw [hsl] at e5
        subst e4
        subst e5
        have hk667 : k ≤ 667 := by omega
        have HK := hide hk
        have HXK := hide hxk
        have HAT4 := hide hat4
        have HAT5 := hide hat5
        have HLOW := hide (unhide hru).low
        have HBN : Hid (∀ s ∈ L, s.d.length ≤ 60000 ∧ s.nm.length ≤ 60000) := hide (fun s hs => by
          have q1 := sizes_mem (List.mem_map_of_mem (f := sfN) hs)
          have q2 := sizes_name (List.mem_map_of_mem (f := sfN) hs)
          have q3 := unhide hsz
          unfold sfN at q1 q2
          simp only at q1 q2
          constructor
          · have : s.d.length ≤ sizesL (L.map sfN) := q1
            omega
          · have : s.nm.length ≤ sizesL (L.map sfN) := q2
            omega)
        have HDG := hide ((unhide hru).datg (fun s hs => by have := (unhide HBN s hs).1; omega) (fun s hs => by have := (unhide HBN s hs).2; omega))
        have HNMS := hide (unhide hru).nm
        have HSZ : Hid (sizesL (L.map sfN) ≤ 60000) := hide (by have := unhide hsz; omega)
        clear hk hxk hsl hat4 hat5 hhd HNO hru hsz HA HF
        by_cases h100 : 100 < k
        · have h100' : (100 : Int) < (k : Int) := by omega
          have HZ : Hid (UnpS b 14) := hide (Or.inr (Or.inr ⟨L, by rw [unhide HN]; omega, unhide HL, Or.inl ⟨by rw [unhide HK]; exact h100, rfl⟩⟩))
          go_wp2
          go_ret2
          exact ⟨⟨14, unhide HZ, Or.inl ⟨by decide, rfl⟩⟩, unhide HLOW⟩
        have h100' : ¬ (100 : Int) < (k : Int) := by omega
        have HUNP : Hid (∀ E, ((chkE [] L ≠ 0 ∧ E = chkE [] L) ∨ (chkE [] L = 0 ∧ ((¬ Packs L b ∧ E = 15) ∨ (Packs L b ∧ E = 0)))) → UnpS b E) := hide (fun E hE => Or.inr (Or.inr ⟨L, by rw [unhide HN]; omega, unhide HL, Or.inr ⟨by rw [unhide HK]; omega, hE⟩⟩))
        go_wp2
        go_loopw [9, 10] (fun v9 _ wk => ∃ i : Nat, i ≤ k ∧ v9 = .int .i64 (i : Int) ∧ Hid (chkE [] (L.take i) = 0) ∧ Hid (Below wr.heap.size wr wk)) (fun v9 _ _ => k - (intOf v9).toNat)
        case atStart => exact ⟨0, Nat.zero_le _, rfl, hide rfl, hide (Below.refl _ _)⟩
        case round =>
          rename World => wk
          obtain ⟨i, hi, rfl, hch, hbk⟩ := hrel
          by_cases hlt : i < k
          · have hlt' : (i : Int) < (k : Int) := by omega
            have hiL : i < L.length := by rw [unhide HK]; exact hlt
            have hiX : i < xs.length := by rw [unhide HXK]; exact hlt
            obtain ⟨i1, hi1⟩ : ∃ i1, i + 1 = i1 := ⟨_, rfl⟩
            have e1 : (i : Int) + 1 = (i1 : Int) := by omega
            have s22 : ∀ W, (Instr.slice 22 (.slice a4 k c4) none (some (.int .i64 (i1 : Int))) none).run Tryz.prog W = .ok (.slice a4 i1 c4) W := fun W => slice22_to (by omega) hc4 W
            obtain ⟨N, hNN⟩ : ∃ N, nmE [] ((L.map Sf.nm).take i1) = N := ⟨_, rfl⟩
            have KN := hide (refNames_any (w := wk) (a := a4) (n := i1) (c := c4) (xs := xs.take i1) (by rw [List.length_take, unhide HXK]; omega) (by omega) (fun x hx => by
              have hx2 := List.mem_of_mem_take hx
              have hx3 : x.nm ∈ xs.map Fl.nm := List.mem_map_of_mem hx2
              rw [unhide HNMS] at hx3
              obtain ⟨s, hs, e⟩ := List.mem_map.1 hx3
              have := (unhide HBN s hs).2
              rw [← e]
              omega) (((unhide HAT4).low (unhide hbk)).take i1))
            rw [List.map_take, unhide HNMS, hNN] at KN
            obtain ⟨q1, q2, q3⟩ := next_name hiL (unhide hch)
            rw [hi1, hNN] at q1
            rw [hi1] at q2 q3
            have HQ1 := hide q1
            have HQ2 := hide q2
            have HQ3 := hide q3
            clear q1 q2 q3 hNN hch
            go_wp2_with (go_at_call 93; fail)
            refine (unhide KN).mono ?_
            rintro e w2 ⟨rfl, b2⟩
            have HB2 := hide (low_trans (unhide hbk) b2)
            clear b2 KN hbk s22
            by_cases hNz : N = 0
            · subst hNz
              obtain ⟨hu, hv⟩ : (chkE [] L = if (crcL L[i].d).toNat ≠ L[i].crc then 16 else chkE (lowL L[i].nm :: lowsR (L.take i) []) (L.drop i1)) ∧ (chkE [] (L.take i1) = if (crcL L[i].d).toNat ≠ L[i].crc then 16 else 0) := ⟨by rw [unhide HQ2]; exact one_sum (unhide HQ1).symm, by rw [unhide HQ3, one_sum (unhide HQ1).symm]; rfl⟩
              obtain ⟨B4, O4, rfl, -, -⟩ := ((unhide HAT4).low (unhide HB2)).get hiX
              obtain ⟨g5, rfl, -⟩ := unhide HAT5 i (by rw [List.length_map]; exact hiL)
              have hdat : BAt wr xs[i].a L[i].d ∧ L[i].d.length = xs[i].n := by
                have h1 := (unhide HDG).1.at_ xs[i] (List.getElem_mem hiX)
                have h3 := (unhide HDG).1.len xs[i] (List.getElem_mem hiX)
                have h2 : (xs.map (ndF (datW wr)))[i]? = (L.map sfN)[i]? := by rw [(unhide HDG).2]
                simp [hiX, hiL, ndF, sfN] at h2
                rw [h2.2] at h1 h3
                exact ⟨h1, h3⟩
              have hdl := (unhide HBN _ (List.getElem_mem hiL)).1
              have hcells : ∀ wx, Below wr.heap.size wr wx → wx.cell? ⟨B4, O4 + i * 2 + 1, none⟩ = some (.slice xs[i].a xs[i].n xs[i].c) ∧ wx.cell? ⟨g5, i, none⟩ = some (.int .i64 ((L[i].crc : Nat) : Int)) := fun wx hb => by
                obtain ⟨B, O, e, -, z1⟩ := ((unhide HAT4).low hb).get hiX
                cases e
                obtain ⟨g, e2, z2⟩ := unhide HAT5 i (by rw [List.length_map]; exact hiL)
                cases e2
                have z3 := (hb.cell (lt_of_cell z2)).trans z2
                rw [List.getElem_map, Nat.zero_add] at z3
                exact ⟨z1, z3⟩
              obtain ⟨x, hxx⟩ : ∃ x, xs[i] = x := ⟨_, rfl⟩
              obtain ⟨s, hss⟩ : ∃ s, L[i] = s := ⟨_, rfl⟩
              rw [hxx] at hdat hcells
              rw [hss] at hdat hcells hdl hu hv
              obtain ⟨xnm, xa, xn, xc⟩ := x
              obtain ⟨snm, sd, scr⟩ := s
              simp only at hdat hcells hdl hu hv
              obtain ⟨CK, hCK⟩ : ∃ CK, (crcL sd).toNat = CK := ⟨_, rfl⟩
              have hCKb : CK < 4294967296 := by rw [← hCK]; exact u32_lt _
              rw [hCK] at hu hv
              have HC : Hid (∀ wx, Below wr.heap.size wr wx → Calls Tryz.prog 30 #[.slice xa xn xc] wx fun e w' => e = .returned (.int .u32 (CK : Int)) ∧ w' = wx) := hide (fun wx hb => by
                have kk := refCrc_any (c := xc) hdat.2 (by omega) (hdat.1.low hb)
                rw [hCK] at kk
                exact kk)
              have HC2 := hide (fun wx (hS : wx.cell? ⟨B4, O4 + i * 2 + 1, none⟩ = some (.slice xa xn xc) ∧ wx.cell? ⟨g5, i, none⟩ = some (.int .i64 ((scr : Nat) : Int)) ∧ Below wr.heap.size wr wx) => unhide HC wx hS.2.2)
              have hS : w2.cell? ⟨B4, O4 + i * 2 + 1, none⟩ = some (.slice xa xn xc) ∧ w2.cell? ⟨g5, i, none⟩ = some (.int .i64 ((scr : Nat) : Int)) ∧ Below wr.heap.size wr w2 := ⟨(hcells _ (unhide HB2)).1, (hcells _ (unhide HB2)).2, unhide HB2⟩
              have hSd : w2.drew.cell? ⟨B4, O4 + i * 2 + 1, none⟩ = some (.slice xa xn xc) ∧ w2.drew.cell? ⟨g5, i, none⟩ = some (.int .i64 ((scr : Nat) : Int)) ∧ Below wr.heap.size wr w2.drew := ⟨(hcells _ (unhide HB2).drew).1, (hcells _ (unhide HB2).drew).2, (unhide HB2).drew⟩
              have w1 : IntKind.i64.wrap (CK : Int) = (CK : Int) := by simp [IntKind.wrap, IntKind.bits, IntKind.signed]; omega
              have HU := hide hu
              have HV := hide hv
              clear hu hv hdat hcells hxx hss hCK hdl HC HQ1 HQ2 HQ3
              go_wp2
              go_region_held3 (fun wx => wx.cell? ⟨B4, O4 + i * 2 + 1, none⟩ = some (.slice xa xn xc) ∧ wx.cell? ⟨g5, i, none⟩ = some (.int .i64 ((scr : Nat) : Int)) ∧ Below wr.heap.size wr wx)
                (first | assumption | exact hS | exact hSd)
                (first | (go_at_call 30; refine (unhide HC2 _ (by assumption)).mono ?_; rintro e w9 ⟨rfl, rfl⟩))
              have HB9 := hide hSd.2.2
              clear hS hSd HC2
              by_cases hcr : CK = scr
              · subst hcr
                have z1 : ((CK : Int) != (CK : Int)) = false := by simp
                have HV2 : Hid (chkE [] (L.take i1) = 0) := hide (by rw [unhide HV, if_neg (by simp)])
                go_wp2
                go_roundw
                case rel => exact ⟨i1, by omega, rfl, HV2, HB9⟩
                case measure => simp [intOf]; omega
              · have z1 : ((CK : Int) != (scr : Int)) = true := by simp; omega
                have HU2 : Hid (chkE [] L = 16) := hide (by rw [unhide HU, if_pos hcr])
                have HZ := hide (unhide HUNP 16 (Or.inl ⟨by rw [unhide HU2]; decide, (unhide HU2).symm⟩))
                go_wp2
                go_ret2
                exact ⟨⟨16, unhide HZ, Or.inl ⟨by decide, rfl⟩⟩, low_trans (unhide HLOW) (unhide HB9)⟩
            · have z1 : (N != 0) = true := by simpa using hNz
              have HU2 : Hid (chkE [] L = N) := hide (by
                have h1 := unhide HQ1
                have h2 : nmE (lowsR (L.take i) []) [L[i].nm] ≠ 0 := by rw [← h1]; exact hNz
                rw [unhide HQ2, one_name h2, ← h1])
              have HZ := hide (unhide HUNP N (Or.inl ⟨by rw [unhide HU2]; exact hNz, (unhide HU2).symm⟩))
              clear HQ1 HQ2 HQ3
              go_wp2
              go_ret2
              exact ⟨⟨N, unhide HZ, Or.inl ⟨hNz, rfl⟩⟩, low_trans (unhide HLOW) (unhide HB2)⟩
          · have hik : i = k := by omega
            subst hik
            have HCH : Hid (chkE [] L = 0) := hide (by
              have h1 := unhide hch
              rw [List.take_of_length_le (by rw [unhide HK]; exact Nat.le_refl _)] at h1
              exact h1)
            have KB := hide (refByName_any (w := wk) (c := c4) (unhide HXK) (by omega) ((unhide HAT4).low (unhide hbk)))
            clear hch
            go_wp2_with (go_at_call 22; fail)
            refine (unhide KB).mono ?_
            rintro e w2 ⟨v2, ys, rfl, hr2, hp2, hi2, b2⟩
            obtain ⟨a2, c2, rfl, hat2, -⟩ := FRow.at hr2
            have hyk : ys.length = i := by rw [hp2.length_eq]; exact unhide HXK
            rw [hyk]
            have hdy := ((unhide HDG).1.low (low_trans (unhide hbk) b2)).perm hp2
            have hsy : sizesL (ys.map (ndF (datW wr))) ≤ 60000 := by
              rw [sizes_perm (hp2.map _), (unhide HDG).2]
              exact unhide HSZ
            have KA := hide (refArc_any (c := c2) hyk (by omega) hat2 hdy (by omega))
            have HP2 := hide (And.intro hp2 hi2)
            have HAT2 := hide hat2
            have HYK := hide hyk
            have HDY := hide hdy
            have HSY := hide hsy
            have HB2 := hide (low_trans (unhide HLOW) (low_trans (unhide hbk) b2))
            clear hr2 hp2 hi2 b2 hat2 hyk hdy hsy KB hbk
            go_wp2_with (go_at_call 94; fail)
            refine (unhide KA).mono ?_
            rintro e w3 ⟨v3, rfl, ho3, b3⟩
            obtain ⟨Z, hZ⟩ : ∃ Z, arcL (ys.map (ndF (datW wr))) = Z := ⟨_, rfl⟩
            rw [hZ] at ho3
            obtain ⟨a3, c3, rfl, hat3, -, -⟩ := OwnB.at ho3
            obtain ⟨z, hz⟩ : ∃ z, Z.length = z := ⟨_, rfl⟩
            rw [hz]
            have hzb : z ≤ 100000 := by
              have := unhide HSY
              rw [← hz, ← hZ, arc_len]
              omega
            have HB3 := hide (low_trans (unhide HB2) b3)
            have KS := hide (sameBytes_any (w := w3) (c := c3) (c2 := c) hz (unhide HN) (by omega) (by omega) hat3 ((unhide HA0).low (unhide HB3)))
            obtain ⟨sm, hsm⟩ : ∃ sm, decide (Z = b) = sm := ⟨_, rfl⟩
            rw [hsm] at KS
            have HZZ := hide hZ
            have HSM := hide hsm
            have HAT3 := hide ((unhide HAT2).low b3)
            have HDY3 := hide ((unhide HDY).low b3)
            clear hZ ho3 hat3 hz b3 hsm KA
            go_wp2_with (go_at_call 23; fail)
            refine (unhide KS).mono ?_
            rintro e w4 ⟨rfl, q, hw4⟩
            have b4 : Below w3.heap.size w3 w4 := by rw [hw4]; exact low_q _
            have HB4 := hide (low_trans (unhide HB3) b4)
            have HAT4b := hide ((unhide HAT3).low b4)
            have HDY4 := hide ((unhide HDY3).low b4)
            clear b4 hw4 KS
            cases sm with
            | false =>
              have HZ := hide (unhide HUNP 15 (Or.inr ⟨unhide HCH, Or.inl ⟨packs_no (unhide HDG).2 (chk_nm _ _ (unhide HCH)).1 (unhide HP2).1 (unhide HP2).2 (by rw [unhide HZZ]; exact of_decide_eq_false (unhide HSM)), rfl⟩⟩))
              go_wp2
              go_ret2
              exact ⟨⟨15, unhide HZ, Or.inl ⟨by decide, rfl⟩⟩, unhide HB4⟩
            | true =>
              have hzeq : arcL (ys.map (ndF (datW wr))) = b := (unhide HZZ).trans (of_decide_eq_true (unhide HSM))
              have HZ := hide (unhide HUNP 0 (Or.inr ⟨unhide HCH, Or.inr ⟨packs_yes (unhide HDG).2 (chk_nm _ _ (unhide HCH)).1 (unhide HP2).1 (unhide HP2).2 (by rw [(unhide HDG).2]; have := unhide HSZ; omega) hzeq, rfl⟩⟩))
              have HLZ : Hid (L.map sfN = ys.map (ndF (datW wr))) := hide (packs_back (unhide HL) hzeq (fun p hp => by
                have hp2 := (((unhide HP2).1.map (ndF (datW wr))).mem_iff.1 hp)
                rw [(unhide HDG).2] at hp2
                have h1 := sizes_mem hp2
                have h2 := sizes_name hp2
                have h3 := unhide HSZ
                unfold ndOk
                omega))
              have HFD : Hid (FdAt w4 a2 (L.map sfN)) := hide (by rw [unhide HLZ]; exact fd_of (unhide HAT4b) (unhide HDY4))
              clear hzeq
              go_wp2
              go_ret2
              exact ⟨⟨0, unhide HZ, Or.inr ⟨rfl, a2, c2, L, unhide HL, by rw [unhide HK]; rfl, unhide HFD⟩⟩, unhide HB4⟩
    · have h4' : ¬ (m : Int) + 4 ≤ (n : Int) := by omega
      have HNO : Hid (¬ (b.drop m).take 4 = [80, 75, 3, 4]) := hide (mark_out (by rw [unhide HN]; exact h4))
      have HL : Hid (headsR b = some L) := hide (by rw [unhide hhd, headsR_no (unhide HNO)]; simp)
      obtain ⟨k, hk⟩ : ∃ k, L.length = k := ⟨_, rfl⟩
      have hxk : xs.length = k := by rw [(unhide hru).len]; exact hk
      have hsl : (L.map Sf.crc).length = k := by rw [List.length_map]; exact hk
      obtain ⟨a4, c4, e4, hat4, hc4⟩ := FRow.at (unhide hru).l
      obtain ⟨a5, c5, e5, hat5⟩ := IRow.at (unhide hru).s
      rw [hxk] at e4 hc4
      rw [hsl] at e5
      subst e4
      subst e5
      have hk667 : k ≤ 667 := by omega
      have HK := hide hk
      have HXK := hide hxk
      have HAT4 := hide hat4
      have HAT5 := hide hat5
      have HLOW := hide (unhide hru).low
      have HBN : Hid (∀ s ∈ L, s.d.length ≤ 60000 ∧ s.nm.length ≤ 60000) := hide (fun s hs => by
        have q1 := sizes_mem (List.mem_map_of_mem (f := sfN) hs)
        have q2 := sizes_name (List.mem_map_of_mem (f := sfN) hs)
        have q3 := unhide hsz
        unfold sfN at q1 q2
        simp only at q1 q2
        constructor
        · have : s.d.length ≤ sizesL (L.map sfN) := q1
          omega
        · have : s.nm.length ≤ sizesL (L.map sfN) := q2
          omega)
      have HDG := hide ((unhide hru).datg (fun s hs => by have := (unhide HBN s hs).1; omega) (fun s hs => by have := (unhide HBN s hs).2; omega))
      have HNMS := hide (unhide hru).nm
      have HSZ : Hid (sizesL (L.map sfN) ≤ 60000) := hide (by have := unhide hsz; omega)
      clear hk hxk hsl hat4 hat5 hhd HNO hru hsz HA HF
      by_cases h100 : 100 < k
      · have h100' : (100 : Int) < (k : Int) := by omega
        have HZ : Hid (UnpS b 14) := hide (Or.inr (Or.inr ⟨L, by rw [unhide HN]; omega, unhide HL, Or.inl ⟨by rw [unhide HK]; exact h100, rfl⟩⟩))
        go_wp2
        go_ret2
        exact ⟨⟨14, unhide HZ, Or.inl ⟨by decide, rfl⟩⟩, unhide HLOW⟩
      have h100' : ¬ (100 : Int) < (k : Int) := by omega
      have HUNP : Hid (∀ E, ((chkE [] L ≠ 0 ∧ E = chkE [] L) ∨ (chkE [] L = 0 ∧ ((¬ Packs L b ∧ E = 15) ∨ (Packs L b ∧ E = 0)))) → UnpS b E) := hide (fun E hE => Or.inr (Or.inr ⟨L, by rw [unhide HN]; omega, unhide HL, Or.inr ⟨by rw [unhide HK]; omega, hE⟩⟩))
      go_wp2
      go_loopw [9, 10] (fun v9 _ wk => ∃ i : Nat, i ≤ k ∧ v9 = .int .i64 (i : Int) ∧ Hid (chkE [] (L.take i) = 0) ∧ Hid (Below wr.heap.size wr wk)) (fun v9 _ _ => k - (intOf v9).toNat)
      case atStart => exact ⟨0, Nat.zero_le _, rfl, hide rfl, hide (Below.refl _ _)⟩
      case round =>
        rename World => wk
        obtain ⟨i, hi, rfl, hch, hbk⟩ := hrel
        by_cases hlt : i < k
        · have hlt' : (i : Int) < (k : Int) := by omega
          have hiL : i < L.length := by rw [unhide HK]; exact hlt
          have hiX : i < xs.length := by rw [unhide HXK]; exact hlt
          obtain ⟨i1, hi1⟩ : ∃ i1, i + 1 = i1 := ⟨_, rfl⟩
          have e1 : (i : Int) + 1 = (i1 : Int) := by omega
          have s22 : ∀ W, (Instr.slice 22 (.slice a4 k c4) none (some (.int .i64 (i1 : Int))) none).run Tryz.prog W = .ok (.slice a4 i1 c4) W := fun W => slice22_to (by omega) hc4 W
          obtain ⟨N, hNN⟩ : ∃ N, nmE [] ((L.map Sf.nm).take i1) = N := ⟨_, rfl⟩
          have KN := hide (refNames_any (w := wk) (a := a4) (n := i1) (c := c4) (xs := xs.take i1) (by rw [List.length_take, unhide HXK]; omega) (by omega) (fun x hx => by
            have hx2 := List.mem_of_mem_take hx
            have hx3 : x.nm ∈ xs.map Fl.nm := List.mem_map_of_mem hx2
            rw [unhide HNMS] at hx3
            obtain ⟨s, hs, e⟩ := List.mem_map.1 hx3
            have := (unhide HBN s hs).2
            rw [← e]
            omega) (((unhide HAT4).low (unhide hbk)).take i1))
          rw [List.map_take, unhide HNMS, hNN] at KN
          obtain ⟨q1, q2, q3⟩ := next_name hiL (unhide hch)
          rw [hi1, hNN] at q1
          rw [hi1] at q2 q3
          have HQ1 := hide q1
          have HQ2 := hide q2
          have HQ3 := hide q3
          clear q1 q2 q3 hNN hch
          go_wp2_with (go_at_call 93; fail)
          refine (unhide KN).mono ?_
          rintro e w2 ⟨rfl, b2⟩
          have HB2 := hide (low_trans (unhide hbk) b2)
          clear b2 KN hbk s22
          by_cases hNz : N = 0
          · subst hNz
            obtain ⟨hu, hv⟩ : (chkE [] L = if (crcL L[i].d).toNat ≠ L[i].crc then 16 else chkE (lowL L[i].nm :: lowsR (L.take i) []) (L.drop i1)) ∧ (chkE [] (L.take i1) = if (crcL L[i].d).toNat ≠ L[i].crc then 16 else 0) := ⟨by rw [unhide HQ2]; exact one_sum (unhide HQ1).symm, by rw [unhide HQ3, one_sum (unhide HQ1).symm]; rfl⟩
            obtain ⟨B4, O4, rfl, -, -⟩ := ((unhide HAT4).low (unhide HB2)).get hiX
            obtain ⟨g5, rfl, -⟩ := unhide HAT5 i (by rw [List.length_map]; exact hiL)
            have hdat : BAt wr xs[i].a L[i].d ∧ L[i].d.length = xs[i].n := by
              have h1 := (unhide HDG).1.at_ xs[i] (List.getElem_mem hiX)
              have h3 := (unhide HDG).1.len xs[i] (List.getElem_mem hiX)
              have h2 : (xs.map (ndF (datW wr)))[i]? = (L.map sfN)[i]? := by rw [(unhide HDG).2]
              simp [hiX, hiL, ndF, sfN] at h2
              rw [h2.2] at h1 h3
              exact ⟨h1, h3⟩
            have hdl := (unhide HBN _ (List.getElem_mem hiL)).1
            have hcells : ∀ wx, Below wr.heap.size wr wx → wx.cell? ⟨B4, O4 + i * 2 + 1, none⟩ = some (.slice xs[i].a xs[i].n xs[i].c) ∧ wx.cell? ⟨g5, i, none⟩ = some (.int .i64 ((L[i].crc : Nat) : Int)) := fun wx hb => by
              obtain ⟨B, O, e, -, z1⟩ := ((unhide HAT4).low hb).get hiX
              cases e
              obtain ⟨g, e2, z2⟩ := unhide HAT5 i (by rw [List.length_map]; exact hiL)
              cases e2
              have z3 := (hb.cell (lt_of_cell z2)).trans z2
              rw [List.getElem_map, Nat.zero_add] at z3
              exact ⟨z1, z3⟩
            obtain ⟨x, hxx⟩ : ∃ x, xs[i] = x := ⟨_, rfl⟩
            obtain ⟨s, hss⟩ : ∃ s, L[i] = s := ⟨_, rfl⟩
            rw [hxx] at hdat hcells
            rw [hss] at hdat hcells hdl hu hv
            obtain ⟨xnm, xa, xn, xc⟩ := x
            obtain ⟨snm, sd, scr⟩ := s
            simp only at hdat hcells hdl hu hv
            obtain ⟨CK, hCK⟩ : ∃ CK, (crcL sd).toNat = CK := ⟨_, rfl⟩
            have hCKb : CK < 4294967296 := by rw [← hCK]; exact u32_lt _
            rw [hCK] at hu hv
            have HC : Hid (∀ wx, Below wr.heap.size wr wx → Calls Tryz.prog 30 #[.slice xa xn xc] wx fun e w' => e = .returned (.int .u32 (CK : Int)) ∧ w' = wx) := hide (fun wx hb => by
              have kk := refCrc_any (c := xc) hdat.2 (by omega) (hdat.1.low hb)
              rw [hCK] at kk
              exact kk)
            have HC2 := hide (fun wx (hS : wx.cell? ⟨B4, O4 + i * 2 + 1, none⟩ = some (.slice xa xn xc) ∧ wx.cell? ⟨g5, i, none⟩ = some (.int .i64 ((scr : Nat) : Int)) ∧ Below wr.heap.size wr wx) => unhide HC wx hS.2.2)
            have hS : w2.cell? ⟨B4, O4 + i * 2 + 1, none⟩ = some (.slice xa xn xc) ∧ w2.cell? ⟨g5, i, none⟩ = some (.int .i64 ((scr : Nat) : Int)) ∧ Below wr.heap.size wr w2 := ⟨(hcells _ (unhide HB2)).1, (hcells _ (unhide HB2)).2, unhide HB2⟩
            have hSd : w2.drew.cell? ⟨B4, O4 + i * 2 + 1, none⟩ = some (.slice xa xn xc) ∧ w2.drew.cell? ⟨g5, i, none⟩ = some (.int .i64 ((scr : Nat) : Int)) ∧ Below wr.heap.size wr w2.drew := ⟨(hcells _ (unhide HB2).drew).1, (hcells _ (unhide HB2).drew).2, (unhide HB2).drew⟩
            have w1 : IntKind.i64.wrap (CK : Int) = (CK : Int) := by simp [IntKind.wrap, IntKind.bits, IntKind.signed]; omega
            have HU := hide hu
            have HV := hide hv
            clear hu hv hdat hcells hxx hss hCK hdl HC HQ1 HQ2 HQ3
            go_wp2
            go_region_held3 (fun wx => wx.cell? ⟨B4, O4 + i * 2 + 1, none⟩ = some (.slice xa xn xc) ∧ wx.cell? ⟨g5, i, none⟩ = some (.int .i64 ((scr : Nat) : Int)) ∧ Below wr.heap.size wr wx)
              (first | assumption | exact hS | exact hSd)
              (first | (go_at_call 30; refine (unhide HC2 _ (by assumption)).mono ?_; rintro e w9 ⟨rfl, rfl⟩))
            have HB9 := hide hSd.2.2
            clear hS hSd HC2
            by_cases hcr : CK = scr
            · subst hcr
              have z1 : ((CK : Int) != (CK : Int)) = false := by simp
              have HV2 : Hid (chkE [] (L.take i1) = 0) := hide (by rw [unhide HV, if_neg (by simp)])
              go_wp2
              go_roundw
              case rel => exact ⟨i1, by omega, rfl, HV2, HB9⟩
              case measure => simp [intOf]; omega
            · have z1 : ((CK : Int) != (scr : Int)) = true := by simp; omega
              have HU2 : Hid (chkE [] L = 16) := hide (by rw [unhide HU, if_pos hcr])
              have HZ := hide (unhide HUNP 16 (Or.inl ⟨by rw [unhide HU2]; decide, (unhide HU2).symm⟩))
              go_wp2
              go_ret2
              exact ⟨⟨16, unhide HZ, Or.inl ⟨by decide, rfl⟩⟩, low_trans (unhide HLOW) (unhide HB9)⟩
          · have z1 : (N != 0) = true := by simpa using hNz
            have HU2 : Hid (chkE [] L = N) := hide (by
              have h1 := unhide HQ1
              have h2 : nmE (lowsR (L.take i) []) [L[i].nm] ≠ 0 := by rw [← h1]; exact hNz
              rw [unhide HQ2, one_name h2, ← h1])
            have HZ := hide (unhide HUNP N (Or.inl ⟨by rw [unhide HU2]; exact hNz, (unhide HU2).symm⟩))
            clear HQ1 HQ2 HQ3
            go_wp2
            go_ret2
            exact ⟨⟨N, unhide HZ, Or.inl ⟨hNz, rfl⟩⟩, low_trans (unhide HLOW) (unhide HB2)⟩
        · have hik : i = k := by omega
          subst hik
          have HCH : Hid (chkE [] L = 0) := hide (by
            have h1 := unhide hch
            rw [List.take_of_length_le (by rw [unhide HK]; exact Nat.le_refl _)] at h1
            exact h1)
          have KB := hide (refByName_any (w := wk) (c := c4) (unhide HXK) (by omega) ((unhide HAT4).low (unhide hbk)))
          clear hch
          go_wp2_with (go_at_call 22; fail)
          refine (unhide KB).mono ?_
          rintro e w2 ⟨v2, ys, rfl, hr2, hp2, hi2, b2⟩
          obtain ⟨a2, c2, rfl, hat2, -⟩ := FRow.at hr2
          have hyk : ys.length = i := by rw [hp2.length_eq]; exact unhide HXK
          rw [hyk]
          have hdy := ((unhide HDG).1.low (low_trans (unhide hbk) b2)).perm hp2
          have hsy : sizesL (ys.map (ndF (datW wr))) ≤ 60000 := by
            rw [sizes_perm (hp2.map _), (unhide HDG).2]
            exact unhide HSZ
          have KA := hide (refArc_any (c := c2) hyk (by omega) hat2 hdy (by omega))
          have HP2 := hide (And.intro hp2 hi2)
          have HAT2 := hide hat2
          have HYK := hide hyk
          have HDY := hide hdy
          have HSY := hide hsy
          have HB2 := hide (low_trans (unhide HLOW) (low_trans (unhide hbk) b2))
          clear hr2 hp2 hi2 b2 hat2 hyk hdy hsy KB hbk
          go_wp2_with (go_at_call 94; fail)
          refine (unhide KA).mono ?_
          rintro e w3 ⟨v3, rfl, ho3, b3⟩
          obtain ⟨Z, hZ⟩ : ∃ Z, arcL (ys.map (ndF (datW wr))) = Z := ⟨_, rfl⟩
          rw [hZ] at ho3
          obtain ⟨a3, c3, rfl, hat3, -, -⟩ := OwnB.at ho3
          obtain ⟨z, hz⟩ : ∃ z, Z.length = z := ⟨_, rfl⟩
          rw [hz]
          have hzb : z ≤ 100000 := by
            have := unhide HSY
            rw [← hz, ← hZ, arc_len]
            omega
          have HB3 := hide (low_trans (unhide HB2) b3)
          have KS := hide (sameBytes_any (w := w3) (c := c3) (c2 := c) hz (unhide HN) (by omega) (by omega) hat3 ((unhide HA0).low (unhide HB3)))
          obtain ⟨sm, hsm⟩ : ∃ sm, decide (Z = b) = sm := ⟨_, rfl⟩
          rw [hsm] at KS
          have HZZ := hide hZ
          have HSM := hide hsm
          have HAT3 := hide ((unhide HAT2).low b3)
          have HDY3 := hide ((unhide HDY).low b3)
          clear hZ ho3 hat3 hz b3 hsm KA
          go_wp2_with (go_at_call 23; fail)
          refine (unhide KS).mono ?_
          rintro e w4 ⟨rfl, q, hw4⟩
          have b4 : Below w3.heap.size w3 w4 := by rw [hw4]; exact low_q _
          have HB4 := hide (low_trans (unhide HB3) b4)
          have HAT4b := hide ((unhide HAT3).low b4)
          have HDY4 := hide ((unhide HDY3).low b4)
          clear b4 hw4 KS
          cases sm with
          | false =>
            have HZ := hide (unhide HUNP 15 (Or.inr ⟨unhide HCH, Or.inl ⟨packs_no (unhide HDG).2 (chk_nm _ _ (unhide HCH)).1 (unhide HP2).1 (unhide HP2).2 (by rw [unhide HZZ]; exact of_decide_eq_false (unhide HSM)), rfl⟩⟩))
            go_wp2
            go_ret2
            exact ⟨⟨15, unhide HZ, Or.inl ⟨by decide, rfl⟩⟩, unhide HB4⟩
          | true =>
            have hzeq : arcL (ys.map (ndF (datW wr))) = b := (unhide HZZ).trans (of_decide_eq_true (unhide HSM))
            have HZ := hide (unhide HUNP 0 (Or.inr ⟨unhide HCH, Or.inr ⟨packs_yes (unhide HDG).2 (chk_nm _ _ (unhide HCH)).1 (unhide HP2).1 (unhide HP2).2 (by rw [(unhide HDG).2]; have := unhide HSZ; omega) hzeq, rfl⟩⟩))
            have HLZ : Hid (L.map sfN = ys.map (ndF (datW wr))) := hide (packs_back (unhide HL) hzeq (fun p hp => by
              have hp2 := (((unhide HP2).1.map (ndF (datW wr))).mem_iff.1 hp)
              rw [(unhide HDG).2] at hp2
              have h1 := sizes_mem hp2
              have h2 := sizes_name hp2
              have h3 := unhide HSZ
              unfold ndOk
              omega))
            have HFD : Hid (FdAt w4 a2 (L.map sfN)) := hide (by rw [unhide HLZ]; exact fd_of (unhide HAT4b) (unhide HDY4))
            clear hzeq
            go_wp2
            go_ret2
            exact ⟨⟨0, unhide HZ, Or.inr ⟨rfl, a2, c2, L, unhide HL, by rw [unhide HK]; rfl, unhide HFD⟩⟩, unhide HB4⟩
end Go.Proofs.YtkablmjkffdloaaGreatDoor

namespace Go.Proofs.YtkablmjkffdloaaGreatDoor
open Go.RowKit

theorem unps_one {b : Bs} {E F : Int} (h : UnpS b E) (k : UnpS b F) : E = F := by
  rcases h with ⟨h1, rfl⟩ | ⟨h1, h2, rfl⟩ | ⟨L, h1, h2, h3⟩ <;> rcases k with ⟨k1, rfl⟩ | ⟨k1, k2, rfl⟩ | ⟨M, k1, k2, k3⟩
  · rfl
  · omega
  · omega
  · omega
  · rfl
  · rw [h2] at k2; cases k2
  · omega
  · rw [h2] at k2; cases k2
  · rw [h2] at k2
    obtain rfl := Option.some.inj k2
    rcases h3 with ⟨h4, rfl⟩ | ⟨h4, h5⟩ <;> rcases k3 with ⟨k4, rfl⟩ | ⟨k4, k5⟩
    · rfl
    · omega
    · omega
    · rcases h5 with ⟨h6, rfl⟩ | ⟨h6, h7⟩ <;> rcases k5 with ⟨k6, rfl⟩ | ⟨k6, k7⟩
      · rfl
      · exact absurd k6 h6
      · exact absurd h6 k6
      · rcases h7 with ⟨h8, rfl⟩ | ⟨h8, rfl⟩ <;> rcases k7 with ⟨k8, rfl⟩ | ⟨k8, rfl⟩
        · rfl
        · exact absurd k8 h8
        · exact absurd h8 k8
        · rfl
/-- Files that came out, from the i-th on as they came: each may be written. -/
structure Mu (w0 w : World) (A i : Nat) (ys : List Fl) : Prop where
  low : Below w0.heap.size w0 w
  sz : w0.heap.size ≤ A
  row : ∃ cs, Blk w A cs 56 ∧ ∀ j (_ : j < ys.length), i ≤ j → cs[j * 2 + 1]? = some (flV ys[j])
  one : ∀ j (_ : j < ys.length), i ≤ j → ∃ d : Bs, d.length = ys[j].n ∧ d.length ≤ 1048576 ∧ OwnB w0.heap.size w (flV ys[j]) d ∧ (flV ys[j]).ownBlock ≠ some A
  ap : ∀ j k (_ : j < ys.length) (_ : k < ys.length), j < k → ∀ g, (flV ys[k]).ownBlock = some g → (flV ys[j]).ownBlock ≠ some g
theorem Mu.start {w0 w : World} {A : Nat} {l : List Nd} (h : FdOwn w0.heap.size w A l) (b : Below w0.heap.size w0 w) (hs : ∀ p ∈ l, p.2.length ≤ 1048576) : ∃ ys : List Fl, ys.length = l.length ∧ Mu w0 w A 0 ys := by
  obtain ⟨ys, h1, h2, h3⟩ := h
  have hlen : ys.length = l.length := by have := congrArg List.length h1; simpa using this
  refine ⟨ys, hlen, b, ?_, ?_, fun j hj _ => ?_, h3.ap⟩
  · exact (u_row_ge h2 rfl).1
  · rcases h2.2 with ⟨e, h0⟩ | ⟨g, cap, cur, e, hb, hblk, hr⟩
    · cases e
    · have e1 := (Value.slice.inj e).1
      cases e1
      refine ⟨cur, hblk, fun j hj _ => ?_⟩
      have h5 : (flsV ys)[j * 2 + 1]? = some (flV ys[j]) := by
        rw [flsV_get ys (j * 2 + 1) (by omega)]
        have q1 : (j * 2 + 1) / 2 = j := by omega
        have q2 : (j * 2 + 1) % 2 = 1 := by omega
        rw [q1, q2]
        simp [hj, flL, flV]
      rw [← hr.2.2.2] at h5
      rw [List.getElem?_take] at h5
      split at h5
      · simpa using h5
      · cases h5
  · obtain ⟨e, o, n⟩ := h3.one j hj (by rw [List.length_map]; omega)
    rw [List.getElem_map] at e o
    exact ⟨_, e, hs _ (List.getElem_mem _), o, n⟩
theorem Mu.cell {w0 w : World} {A i : Nat} {ys : List Fl} (h : Mu w0 w A i ys) (hi : i < ys.length) : w.cell? ⟨A, i * 2 + 1, none⟩ = some (flV ys[i]) ∧ w.frozen? ⟨A, i * 2 + 1, none⟩ = false := by
  obtain ⟨cs, hb, hc⟩ := h.row
  exact ⟨(hb.cell _).trans (hc i hi (Nat.le_refl _)), Lib.frozen_of_heap hb _⟩
theorem Mu.put {w0 w : World} {A i g k : Nat} {ys : List Fl} (h : Mu w0 w A i ys) (hi : i < ys.length) (ha : ys[i].a = some ⟨g, 0, none⟩) : Mu w0 (w.setCell ⟨g, k, none⟩ (.int .u8 2)) A i ys := by
  have hown : (flV ys[i]).ownBlock = some g := by unfold flV; rw [ha]; rfl
  obtain ⟨d, e, hd, o, n⟩ := h.one i hi (Nat.le_refl _)
  have hgA : g ≠ A := fun e => n (by rw [hown, e])
  have hgb := OwnB.base o g hown
  refine ⟨low_set h.low hgb _, h.sz, ?_, fun j hj hij => ?_, h.ap⟩
  · obtain ⟨cs, hb, hc⟩ := h.row
    exact ⟨cs, Blk.other hb (by show A ≠ g; exact fun e => hgA e.symm) _, hc⟩
  · by_cases hji : j = i
    · subst hji
      refine ⟨d.set k 2, by rw [List.length_set]; exact e, by rw [List.length_set]; exact hd, ?_, n⟩
      have o2 := o
      unfold flV at o2 ⊢
      rw [ha] at o2 ⊢
      exact OwnB.put o2 k 2
    · obtain ⟨d2, e2, hd2, o2, n2⟩ := h.one j hj hij
      refine ⟨d2, e2, hd2, OwnB.keep o2 fun q hq => Below.heap_setCell _ _ _ _ ?_, n2⟩
      show q ≠ g
      intro e
      subst e
      exact h.ap i j hi hj (by omega) q hq hown
theorem Mu.grow {w0 w W1 : World} {A i : Nat} {ys : List Fl} (h : Mu w0 w A i ys) (hi : i < ys.length) (hW : w.alloc (.cells #[.int .u8 3] 5) = W1) :
    ∃ a' m' c' w', (Builtin.append_ #[23, 23] 23 #[flV ys[i], .slice (some ⟨w.heap.size, 0, none⟩) 1 1]).run Tryz.prog W1 = .ok (.slice a' m' c') w' ∧ w'.cell? ⟨A, i * 2 + 1, none⟩ = some (flV ys[i]) ∧ w'.frozen? ⟨A, i * 2 + 1, none⟩ = false ∧ Hid (Mu w0 (w'.setCell ⟨A, i * 2 + 1, none⟩ (.slice a' m' c')) A (i + 1) ys) := by
  obtain ⟨d, e, hd, o, n⟩ := h.one i hi (Nat.le_refl _)
  obtain ⟨v', w', r1, r2, g⟩ := app_byte (c := 3) o h.low.size (by omega) hW
  obtain ⟨a', c', rfl, -, -, -⟩ := OwnB.at r2
  obtain ⟨cs, hb, hc⟩ := h.row
  have hbA : Blk w' A cs 56 := (g.block A hb.lt (fun e => n e.symm)).trans hb
  refine ⟨a', _, c', w', r1, (hbA.cell _).trans (hc i hi (Nat.le_refl _)), Lib.frozen_of_heap hbA _, hide ⟨low_set (h.low.trans (g.low h.low.size (fun q hq => OwnB.base o q hq))) h.sz _, h.sz, ⟨_, hbA.set (i * 2 + 1) _, fun j hj hij => ?_⟩, fun j hj hij => ?_, h.ap⟩⟩
  · rw [Array.getElem?_setIfInBounds_ne (by omega)]
    exact hc j hj (by omega)
  · obtain ⟨d2, e2, hd2, o2, n2⟩ := h.one j hj (by omega)
    refine ⟨d2, e2, hd2, OwnB.keep o2 fun q hq => ?_, n2⟩
    rw [Below.heap_setCell _ _ _ _ (by show q ≠ A; exact fun e => n2 (by rw [hq, e]))]
    exact g.block q (OwnB.lt o2 q hq) (fun e => h.ap i j hi hj (by omega) q hq e.symm)
theorem fd_nil (w : World) : FdAt w none [] := ⟨[], rfl, ⟨Or.inl rfl⟩, rfl, fun k h => by simp at h⟩




set_option maxRecDepth 100000 in
set_option maxHeartbeats 8000000 in
theorem unpacks_law {w : World} {a : Option Addr} {n c : Nat} {b : Bs} (hg : Ml w) (hn : b.length = n) (hN : n ≤ 9223372036854775807) (hc : n ≤ c) (hcm : c ≤ 9223372036854775807) (hf : a = none ∨ ∃ B O, a = some ⟨B, O, none⟩) (h : BAt w a b) :
    Calls Tryz.prog 6 #[.slice a n c] w fun e w' => e = .returned (.bool true) ∧ Below w.heap.size w w' := by
  have HG := hide hg
  have HN := hide hn
  have HF := hide hf
  have HA := hide h
  clear hg hn hf h
  go_enter Tryz.func6, Tryz.ntmps6
  go_wp2_with (go_at_call 16; fail)
  refine (first_any w).mono ?_
  rintro e w2 ⟨rfl, b2⟩
  have HB2 := hide b2
  clear b2
  by_cases g1 : 20000 < n
  · have a1 : (20000 : Int) < (n : Int) := by omega
    go_wp2
    go_ret
    exact ⟨rfl, unhide HB2⟩
  have a1 : ¬ (20000 : Int) < (n : Int) := by omega
  have KL := hide (lent_any (w := w2) (c := c) (unhide HN) (by omega) ((unhide HA).low (unhide HB2)))
  go_wp2_with (go_at_call 26; fail)
  refine (unhide KL).mono ?_
  rintro e w3 ⟨g, cap, rfl, hcap, hcapm, hgb, hown, b3⟩
  have HB3 := hide (low_trans (unhide HB2) b3)
  have HO3 := hide hown
  have HA3 := hide ((unhide HA).low (unhide HB3))
  have KU := hide (unpack_any (w := w3) (c := cap) ((unhide HG).low (unhide HB3)) (unhide HN) (by omega) (by unfold maxLen at hcapm; omega) (Or.inr ⟨_, _, rfl⟩) hown.front)
  clear hgb hown b3 KL
  go_wp2_with (go_at_call 20; fail)
  refine (unhide KU).mono ?_
  rintro e w4 ⟨⟨E, hus, hcase⟩, b4⟩
  have HB4 := hide b4
  have KR := hide (refUnpack_any (w := w4) (c := c) (unhide HN) (by omega) hc hcm (unhide HF) ((unhide HA3).low b4))
  have HUS := hide hus
  clear b4 hus KU
  rcases hcase with ⟨hne, rfl⟩ | ⟨hE0, A, L, hL, rfl, hfd⟩
  · go_wp2_with (go_at_call 50; fail)
    refine (unhide KR).mono ?_
    rintro e w5 ⟨⟨E2, hus2, hcase2⟩, b5⟩
    have hEE := unps_one (unhide HUS) hus2
    subst hEE
    rcases hcase2 with ⟨-, rfl⟩ | ⟨h0, -⟩
    case inr => exact absurd h0 hne
    have HB5 := hide (low_trans (unhide HB4) b5)
    have KS := hide (sameFd_any (w := w5) (a := none) (a2 := none) (c := 0) (c2 := 0) (l1 := []) (l2 := []) (n := 0) (m := 0) rfl rfl (by omega) (by omega) (fun p hp => by cases hp) (fun p hp => by cases hp) (fd_nil _) (fd_nil _))
    rw [decide_eq_true rfl] at KS
    clear b5 hus2 KR hne
    go_wp2_with (go_at_call 21; fail)
    refine (unhide KS).mono ?_
    rintro e w6 ⟨rfl, q6, hw6⟩
    have HB6 := hide (low_trans (unhide HB5) (by rw [hw6]; exact low_q _ : Below w5.heap.size w5 w6))
    clear hw6 KS
    go_wp2
    go_loopw [10, 11] (fun v10 _ wr => v10 = .int .i64 0 ∧ wr = w6) (fun _ _ _ => 0)
    case atStart => exact ⟨rfl, rfl⟩
    case round =>
      rename World => wr
      obtain ⟨rfl, hwr⟩ := hrel
      have HBR : Hid (Below w3.heap.size w3 wr) := hide (by rw [hwr]; exact unhide HB6)
      clear hwr
      have KK := hide (kept_any (w := wr) (c := c) (unhide HN) (by omega) hcap (OwnB.low (unhide HO3) (unhide HBR)) ((unhide HA3).low (unhide HBR)))
      have ee : (E == E) = true := by simp
      have HZ0 := hide (low_trans (unhide HB3) (unhide HBR))
      go_wp2_with (first | (go_at_call 19; refine (errno_any _ _).mono ?_; rintro e wn ⟨rfl, hwn⟩; rw [hwn]; clear hwn wn) | (go_at_call 36; fail))
      refine (unhide KK).mono ?_
      rintro e w9 ⟨rfl, q9, hw9⟩
      have HZ : Hid (Below w.heap.size w w9) := hide (low_trans (unhide HZ0) (by rw [hw9]; exact low_q _))
      clear hw9 KK
      go_wp2
      go_ret
      exact ⟨rfl, unhide HZ⟩
  · subst hE0
    obtain ⟨hl100, hpk, -, -⟩ := unp_ok (unhide HUS) hL
    go_wp2_with (go_at_call 50; fail)
    refine (unhide KR).mono ?_
    rintro e w5 ⟨⟨E2, hus2, hcase2⟩, b5⟩
    have hEE := unps_one (unhide HUS) hus2
    subst hEE
    rcases hcase2 with ⟨h0, -⟩ | ⟨-, a2, c2, L2, hL2, rfl, hfd2⟩
    case inl => exact absurd rfl h0
    obtain rfl : L2 = L := by rw [hL] at hL2; exact (Option.some.inj hL2).symm
    obtain ⟨k, hk⟩ : ∃ k, L2.length = k := ⟨_, rfl⟩
    rw [hk] at hl100
    rw [hk]
    have hkl : (L2.map sfN).length = k := by rw [List.length_map]; exact hk
    have hszs : ∀ x ∈ L2.map sfN, x.2.length ≤ 1048576 := fun x hx => by
      obtain ⟨qs, h1, _, _, h4⟩ := hpk
      have := sizes_mem (h1.mem_iff.2 hx)
      omega
    have HB5 := hide (low_trans (unhide HB4) b5)
    have hlow5 := hfd.at.low b5
    have KS := hide (sameFd_any (w := w5) (c := k) (c2 := c2) hkl hkl (by omega) (by omega) (fun p hp => by have := hszs p hp; omega) (fun p hp => by have := hszs p hp; omega) hlow5 hfd2)
    rw [decide_eq_true rfl] at KS
    have HFD : Hid (FdOwn w3.heap.size w5 A (L2.map sfN)) := hide (by
      obtain ⟨ys, y1, y2, y3⟩ := hfd
      exact ⟨ys, y1, u_row_low y2 b5, y3.low b5⟩)
    have HKL := hide hkl
    have HSZ := hide hszs
    clear b5 hus2 KR hL hL2 hpk hfd hfd2 hk hkl hszs hlow5
    go_wp2_with (go_at_call 21; fail)
    refine (unhide KS).mono ?_
    rintro e w6 ⟨rfl, q6, hw6⟩
    have b6 : Below w5.heap.size w5 w6 := by rw [hw6]; exact low_q _
    have HB6 := hide (low_trans (unhide HB5) b6)
    have HMU : Hid (∃ ys : List Fl, ys.length = k ∧ (k ≠ 0 → Mu w3 w6 A 0 ys)) := hide (by
      by_cases hk0 : k = 0
      · subst hk0
        exact ⟨[], rfl, fun h => absurd rfl h⟩
      · obtain ⟨ys, y1, y2, y3⟩ := unhide HFD
        obtain ⟨zs, z1, z2⟩ := Mu.start (l := L2.map sfN) ⟨ys, y1, u_row_low y2 b6, y3.low b6⟩ (unhide HB6) (unhide HSZ)
        exact ⟨zs, z1.trans (unhide HKL), fun _ => z2⟩)
    clear hw6 b6 KS HFD HSZ
    obtain ⟨ys, hyk, hmu0⟩ := unhide HMU
    have HYK := hide hyk
    have HMU0 := hide hmu0
    clear hyk hmu0 HMU
    go_wp2
    go_loopw [10, 11] (fun v10 _ wr => ∃ i : Nat, i ≤ k ∧ v10 = .int .i64 (i : Int) ∧ Hid (k ≠ 0 → Mu w3 wr A i ys) ∧ Hid (Below w3.heap.size w3 wr)) (fun v10 _ _ => k - (intOf v10).toNat)
    case atStart => exact ⟨0, Nat.zero_le _, rfl, HMU0, HB6⟩
    case round =>
      rename World => wr
      obtain ⟨i, hi, rfl, hmu, HBR⟩ := hrel
      by_cases hlt : i < k
      · have hlt' : (i : Int) < (k : Int) := by omega
        have hiy : i < ys.length := by rw [unhide HYK]; exact hlt
        have hm0 := hide (unhide hmu (by omega))
        clear hmu HMU0
        go_wp2
        go_loopw [11] (fun v11 wk => ∃ q : Nat, q ≤ ys[i].n ∧ v11 = .int .i64 (q : Int) ∧ Hid (Mu w3 wk A i ys)) (fun v11 _ => ys[i].n - (intOf v11).toNat)
        case atStart => exact ⟨0, Nat.zero_le _, rfl, hm0⟩
        case round =>
          rename World => wk
          obtain ⟨q, hq, rfl, hmk⟩ := hrel
          clear hm0
          obtain ⟨cl, fz⟩ := (unhide hmk).cell hiy
          have mput : ∀ g, ys[i].a = some ⟨g, 0, none⟩ → Mu w3 (wk.setCell ⟨g, q, none⟩ (.int .u8 2)) A i ys := fun g hg => (unhide hmk).put hiy hg
          obtain ⟨d, hdl, hdm, hdo, -⟩ := (unhide hmk).one i hiy (Nat.le_refl _)
          obtain ⟨W1, hW1⟩ : ∃ W, wk.alloc (.cells #[.int .u8 3] 5) = W := ⟨_, rfl⟩
          obtain ⟨a8, m8, c8, w8, happ, cl8, fz8, hm8⟩ := (unhide hmk).grow hiy hW1
          obtain ⟨x, hxx⟩ : ∃ x, ys[i] = x := ⟨_, rfl⟩
          rw [hxx] at hq cl mput hdl hdo happ cl8 ⊢
          obtain ⟨xnm, xa, xn, xc⟩ := x
          unfold flV at cl hdo happ cl8
          simp only at hq cl mput hdl hdo happ cl8 ⊢
          have hxb : xn ≤ 1048576 := by omega
          have HM8 := hide (And.intro (unhide hm8) (unhide hm8).low)
          have HX1 := hide hW1
          by_cases hqn : q < xn
          · have hqn' : (q : Int) < (xn : Int) := by omega
            obtain ⟨gg, cc, e1, o1, -, -, -, -, fzg⟩ := OwnB.val hdo (by omega)
            have e2 := (Value.slice.inj e1).1
            subst e2
            have cq : wk.cell? ⟨gg, q, none⟩ = some (.int .u8 ((d[q]'(by omega)).toNat : Int)) := by
              obtain ⟨a', c', hv, hat, -, -⟩ := OwnB.at hdo
              have e3 := (Value.slice.inj hv).1
              rw [← e3] at hat
              obtain ⟨B', O', e, h2⟩ := hat.at (by omega : q < d.length)
              cases e
              rw [Nat.zero_add] at h2
              exact h2
            have fq := fzg q
            have HP := hide (mput gg rfl)
            clear happ cl8 fz8 hm8 HM8 HX1 hW1 mput hdo e1 o1 fzg
            go_wp2
            go_roundw
            case rel => exact ⟨q + 1, hqn, by push_cast; rfl, HP⟩
            case measure => simp [intOf]; omega
          · have hqn' : ¬ (q : Int) < (xn : Int) := by omega
            clear hdo mput hW1 hm8 hmk hxx
            go_wp2_with (at_builtin; rw [unhide HX1]; refine Lib.wpList_append_run _ rfl (.tmp 65) (.tmp 66) 23 23 rfl _ _ rfl rfl _ _ happ ?_; clear happ)
            go_roundw
            case rel => exact ⟨i + 1, hlt, by push_cast; rfl, hide (fun _ => (unhide HM8).1), hide (unhide HM8).2⟩
            case measure => simp [intOf]; omega
      · have hE : ∃ E : Int, E = 0 := ⟨0, rfl⟩
        clear hmu HMU0
        have KK := hide (kept_any (w := wr) (c := c) (unhide HN) (by omega) hcap (OwnB.low (unhide HO3) (unhide HBR)) ((unhide HA3).low (unhide HBR)))
        have ee : ((0 : Int) == 0) = true := rfl
        have HZ0 := hide (low_trans (unhide HB3) (unhide HBR))
        go_wp2_with (first | (go_at_call 19; refine (errno_any _ _).mono ?_; rintro e wn ⟨rfl, hwn⟩; rw [hwn]; clear hwn wn) | (go_at_call 36; fail))
        refine (unhide KK).mono ?_
        rintro e w9 ⟨rfl, q9, hw9⟩
        have HZ : Hid (Below w.heap.size w w9) := hide (low_trans (unhide HZ0) (by rw [hw9]; exact low_q _))
        clear hw9 KK
        go_wp2
        go_ret
        exact ⟨rfl, unhide HZ⟩
end Go.Proofs.YtkablmjkffdloaaGreatDoor
