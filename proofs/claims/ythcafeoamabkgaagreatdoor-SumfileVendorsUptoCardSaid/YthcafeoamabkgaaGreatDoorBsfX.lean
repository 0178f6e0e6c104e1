/-
  The reference's base64: the contracts.
-/
import Derived.Test.YthcafeoamabkgaaGreatDoorMatX
import Derived.Test.YthcafeoamabkgaaGreatDoorLineX
import Derived.Test.YthcafeoamabkgaaGreatDoorSumP
import Derived.Deep.RegionWith
import Derived.Lib.AppendZeros
import Derived.Deep.AppendLies
import Derived.Laws.OwnMore
namespace Go.Proofs.YthcafeoamabkgaaGreatDoor
open Go.RowKit

abbrev Bs := List UInt8

/-- Bytes lie at a slice. -/
structure BAt (w : World) (a : Option Addr) (xs : Bs) : Prop where
  els : xs = [] ∨ ∃ B O, a = some ⟨B, O, none⟩ ∧ ∀ k (hk : k < xs.length), w.cell? ⟨B, O + k, none⟩ = some (.int .u8 (xs[k].toNat : Int))

theorem BAt.low {w w' : World} {a : Option Addr} {xs : Bs} (h : BAt w a xs) (hb : Below w.heap.size w w') : BAt w' a xs := by
  rcases h.els with h0 | ⟨B, O, ha, he⟩
  · exact ⟨Or.inl h0⟩
  · exact ⟨Or.inr ⟨B, O, ha, fun k hk => (hb.cell (lt_of_cell (he k hk))).trans (he k hk)⟩⟩

theorem BAt.at {w : World} {a : Option Addr} {xs : Bs} (h : BAt w a xs) {k : Nat} (hk : k < xs.length) : ∃ B O, a = some ⟨B, O, none⟩ ∧ w.cell? ⟨B, O + k, none⟩ = some (.int .u8 (xs[k].toNat : Int)) := by
  rcases h.els with h0 | ⟨B, O, ha, he⟩
  · rw [h0] at hk; simp at hk
  · exact ⟨B, O, ha, he k hk⟩

theorem Blk.drew {w : World} {b : Nat} {cs : Array Value} {t : TypeId} (h : Blk w b cs t) : Blk w.drew b cs t := h

theorem u8_lt (c : UInt8) : c.toNat < 256 := UInt8.toNat_lt c

theorem wrapI (a : Nat) (ha : a < 67108864) : IntKind.i64.wrap (a : Int) = (a : Int) := by rw [IntKind.wrap_i64]; omega

def byteV (c : UInt8) : Value := .int .u8 (c.toNat : Int)

/-- A row of bytes. -/
abbrev OwnB (base : Nat) (w : World) (v : Value) (l : Bs) : Prop := w.ownsRow base 5 1 v l.length (l.map byteV)

/-- What a call leaves that may write into one row alone. -/
structure GrB (w w' : World) (v v' : Value) : Prop where
  os : w'.os = w.os
  tape : w'.tape = w.tape
  output : w'.output = w.output
  size : w.heap.size ≤ w'.heap.size
  block : ∀ k, k < w.heap.size → some k ≠ v.ownBlock → w'.heap[k]? = w.heap[k]?
  own : v'.ownBlock = v.ownBlock ∨ ∃ g, v'.ownBlock = some g ∧ w.heap.size ≤ g

theorem GrB.refl (w : World) (v : Value) : GrB w w v v := ⟨rfl, rfl, rfl, Nat.le_refl _, fun _ _ _ => rfl, Or.inl rfl⟩

theorem GrB.trans {a b c : World} {u v x : Value} (h : GrB a b u v) (k : GrB b c v x) : GrB a c u x := by
  refine ⟨k.os.trans h.os, k.tape.trans h.tape, k.output.trans h.output, Nat.le_trans h.size k.size, fun i hi hne => ?_, ?_⟩
  · have hv : some i ≠ v.ownBlock := by
      rcases h.own with e | ⟨g, e, hg⟩
      · rw [e]; exact hne
      · rw [e]; intro hh; cases hh; omega
    exact (k.block i (Nat.lt_of_lt_of_le hi h.size) hv).trans (h.block i hi hne)
  · rcases k.own with e | ⟨g, e, hg⟩
    · rw [e]; exact h.own
    · exact Or.inr ⟨g, e, Nat.le_trans h.size hg⟩

theorem GrB.drew {a b : World} {u v : Value} (h : GrB a b u v) : GrB a b.drew u v := ⟨h.os, h.tape, h.output, h.size, h.block, h.own⟩

theorem GrB.alloc (w : World) (o : Obj) (v : Value) : GrB w (w.alloc o) v v := ⟨rfl, rfl, rfl, by simp, fun k hk _ => Below.heap_alloc _ _ _ hk, Or.inl rfl⟩

/-- Seen from a base below the row nothing has turned. -/
theorem GrB.low {B : Nat} {a b : World} {u v : Value} (h : GrB a b u v) (hB : B ≤ a.heap.size) (hu : ∀ g, u.ownBlock = some g → B ≤ g) : Below B a b :=
  ⟨h.os, h.tape, h.output, h.size, fun k hk => h.block k (by omega) (fun e => by have := hu k e.symm; omega)⟩

theorem info5 : (Tryz.prog.info? 5).map (fun i => (i.zero, i.size, i.bytes)) = some (some (.int .u8 0), 1, 1) := by kernel_rfl

theorem OwnB.base {B : Nat} {w : World} {v : Value} {l : Bs} (h : OwnB B w v l) : ∀ g, v.ownBlock = some g → B ≤ g := by
  intro g hg
  rcases h.2 with ⟨rfl, _⟩ | ⟨g', cap, cur, rfl, hb, _⟩
  · cases hg
  · cases hg; exact hb

theorem OwnB.at {B : Nat} {w : World} {v : Value} {l : Bs} (h : OwnB B w v l) : ∃ a c, v = .slice a l.length c ∧ BAt w a l ∧ l.length ≤ c ∧ c ≤ maxLen := by
  rcases h.2 with ⟨rfl, h0⟩ | ⟨g, cap, cur, rfl, hb, hblk, hcap, hcm, hcs, hcur⟩
  · exact ⟨none, 0, by rw [h0], ⟨Or.inl (List.length_eq_zero_iff.1 h0)⟩, by omega, by omega⟩
  · refine ⟨_, cap, rfl, ⟨Or.inr ⟨g, 0, rfl, fun k hk => ?_⟩⟩, hcap, hcm⟩
    have h1 : cur.toList[k]? = (l.map byteV)[k]? := by rw [← hcur, List.getElem?_take_of_lt (by omega)]
    have h2 : cur[k]? = cur.toList[k]? := by simp
    rw [Nat.zero_add, Lib.cell_of_heap hblk, h2, h1]
    simp [hk, byteV]

theorem OwnB.keep {B : Nat} {w w' : World} {v : Value} {l : Bs} (h : OwnB B w v l) (hk : ∀ g, v.ownBlock = some g → w'.heap[g]? = w.heap[g]?) : OwnB B w' v l := by
  refine ⟨h.1, h.2.imp id ?_⟩
  rintro ⟨g, cap, cur, rfl, hb, hblk, hr⟩
  exact ⟨g, cap, cur, rfl, hb, (hk g rfl).trans hblk, hr⟩

theorem OwnB.lt {B : Nat} {w : World} {v : Value} {l : Bs} (h : OwnB B w v l) : ∀ g, v.ownBlock = some g → g < w.heap.size := by
  intro g hg
  rcases h.2 with ⟨rfl, _⟩ | ⟨g', cap, cur, rfl, hb, hblk, _⟩
  · cases hg
  · cases hg; exact (Array.getElem?_eq_some_iff.1 hblk).1

theorem OwnB.low {B : Nat} {w w' : World} {v : Value} {l : Bs} (h : OwnB B w v l) (hb : Below w.heap.size w w') : OwnB B w' v l := h.keep fun g hg => hb.block g (h.lt g hg)

theorem ownB_cat {B : Nat} {w : World} {v : Value} {l m : Bs} (h : w.ownsRow B 5 1 v (l.length + m.length) (l.map byteV ++ m.map byteV)) : OwnB B w v (l ++ m) := by
  unfold OwnB
  rw [List.map_append, List.length_append]
  exact h

theorem byteV_one (l : Bs) : ∀ u ∈ l.map byteV, u.oneCell' = true := by
  intro u hu
  obtain ⟨c, _, rfl⟩ := List.mem_map.1 hu
  rfl

/-- append of bytes that lie somewhere onto a row. -/
theorem app_bytes {B : Nat} {w : World} {v : Value} {l m : Bs} {a : Addr} {n c : Nat} (ho : OwnB B w v l) (hB : B ≤ w.heap.size) (hn : m.length = n) (hm : ∀ k (hk : k < m.length), w.cell? (a.add k) = some (byteV m[k])) (hl : l.length + n ≤ 4294967296) :
    ∃ v' w', (Builtin.append_ #[110, 110] 110 #[v, .slice (some a) n c]).run Tryz.prog w = .ok v' w' ∧ OwnB B w' v' (l ++ m) ∧ GrB w w' v v' := by
  obtain ⟨i0, hi, hz0, hz1, hz2⟩ := info_parts info5
  subst hn
  obtain ⟨v', w', h1, h2, h3, _, h5⟩ := run_append_own_at (P := Tryz.prog) w B 110 110 5 i0 _ 1 1 Tryz.underlying110 hi hz0 hz1 hz2 rfl (by decide) v l.length (l.map byteV) ho a m.length c (m.map byteV) (by simp) (fun j u hu => by
    rw [List.getElem?_map] at hu
    by_cases hj : j < m.length
    · rw [List.getElem?_eq_getElem hj] at hu
      simp only [Option.map_some, Option.some.injEq] at hu
      rw [← hu]
      exact hm j hj
    · rw [List.getElem?_eq_none (by omega)] at hu
      cases hu) (byteV_one m) (by unfold maxLen; omega) (by omega) hB
  refine ⟨v', w', h1, ownB_cat h2, ⟨h3.os, h3.tape, h3.output, h3.size, fun k hk hne => h3.block k hk hne, ?_⟩⟩
  rcases h5 with e | e
  · exact Or.inl e
  · exact Or.inr ⟨_, e, Nat.le_refl _⟩

def lettersB : ByteArray := ⟨#[65, 66, 67, 68, 69, 70, 71, 72, 73, 74, 75, 76, 77, 78, 79, 80, 81, 82, 83, 84, 85, 86, 87, 88, 89, 90, 97, 98, 99, 100, 101, 102, 103, 104, 105, 106, 107, 108, 109, 110, 111, 112, 113, 114, 115, 116, 117, 118, 119, 120, 121, 122, 48, 49, 50, 51, 52, 53, 54, 55, 56, 57, 43, 47]⟩

/-- A letter. -/
def letN (n : Nat) : UInt8 := lettersB.data.toList.getD n 0

/-- Three bytes as a number. -/
def num3 (a b c : UInt8) : Nat := a.toNat * 65536 + b.toNat * 256 + c.toNat

/-- So many letters of a number. -/
def lets (n k : Nat) : Bs := ([letN (n / 262144 % 64), letN (n / 4096 % 64), letN (n / 64 % 64), letN (n % 64)]).take k

/-- One to three bytes as four letters. -/
def grp : Bs → Bs
  | [a] => lets (num3 a 0 0) 2 ++ [61, 61]
  | [a, b] => lets (num3 a b 0) 3 ++ [61]
  | [a, b, c] => lets (num3 a b c) 4
  | _ => []

/-- Bytes as letters. -/
def b64 : Bs → Bs
  | [] => []
  | [a] => grp [a]
  | [a, b] => grp [a, b]
  | a :: b :: c :: r => grp [a, b, c] ++ b64 r

theorem grp_len (g : Bs) (h1 : 1 ≤ g.length) (h3 : g.length ≤ 3) : (grp g).length = 4 := by
  match g, h1, h3 with
  | [a], _, _ => rfl
  | [a, b], _, _ => rfl
  | [a, b, c], _, _ => rfl

/-- Where a letter stands. -/
def posN (c : UInt8) : Option Nat := lettersB.data.toList.findIdx? (· == c)

theorem pos_let {n : Nat} (h : n < 64) : posN (letN n) = some n := by
  have : ∀ i : Fin 64, posN (letN i.1) = some i.1 := by decide +kernel
  exact this ⟨n, h⟩

theorem let_ne {n : Nat} (h : n < 64) : letN n ≠ 61 := by
  have : ∀ i : Fin 64, letN i.1 ≠ 61 := by decide +kernel
  exact this ⟨n, h⟩

theorem pos_lt {c : UInt8} {n : Nat} (h : posN c = some n) : n < 64 := by
  unfold posN at h
  have h2 := (List.findIdx?_eq_some_iff_getElem.1 h).1
  exact h2

theorem ofNat_toNat {a : UInt8} {n : Nat} (h : n = a.toNat) : UInt8.ofNat n = a := by rw [h]; simp

/-- A letter's place; of what is none: 0. -/
def plc (c : UInt8) : Nat := (posN c).getD 0

theorem plc_let {n : Nat} (h : n < 64) : plc (letN n) = n := by unfold plc; rw [pos_let h]; rfl

theorem plc_fill : plc 61 = 0 := by decide +kernel

theorem plc_lt (c : UInt8) : plc c < 64 := by
  unfold plc
  cases h : posN c with
  | none => decide
  | some n => exact pos_lt h

/-- Four letters as three bytes. -/
def num4 (a b c d : UInt8) : Nat := ((plc a * 64 + plc b) * 64 + plc c) * 64 + plc d

def dec4 (n : Nat) : Bs := [UInt8.ofNat (n / 65536), UInt8.ofNat (n / 256 % 256), UInt8.ofNat (n % 256)]

def decG : Bs → Bs
  | a :: b :: c :: d :: r => dec4 (num4 a b c d) ++ decG r
  | _ => []

/-- How many signs are laid behind it, no more than two. -/
def fills (s : Bs) : Nat := if s.getLast? = some 61 then (if s.dropLast.getLast? = some 61 then 2 else 1) else 0

/-- Letters as bytes. -/
def unb (s : Bs) : Bs := (decG s).take ((decG s).length - fills s)

/-- The bytes whose letters a text is. -/
def fromL (s : Bs) : Option Bs := if b64 (unb s) = s then some (unb s) else none

theorem decG_app : ∀ (k : Nat) (x y : Bs), x.length = 4 * k → decG (x ++ y) = decG x ++ decG y
  | 0, x, y, h => by
    have : x = [] := List.length_eq_zero_iff.1 (by omega)
    subst this
    rfl
  | k + 1, x, y, h => by
    match x, h with
    | a :: b :: c :: d :: r, h =>
      have hr : r.length = 4 * k := by simp at h; omega
      show dec4 (num4 a b c d) ++ decG (r ++ y) = (dec4 (num4 a b c d) ++ decG r) ++ decG y
      rw [decG_app k r y hr, List.append_assoc]
    | [], h => simp at h
    | [_], h => simp at h; omega
    | [_, _], h => simp at h; omega
    | [_, _, _], h => simp at h; omega

theorem decG_len : ∀ (k : Nat) (x : Bs), x.length = 4 * k → (decG x).length = 3 * k
  | 0, x, h => by
    have : x = [] := List.length_eq_zero_iff.1 (by omega)
    subst this
    rfl
  | k + 1, x, h => by
    match x, h with
    | a :: b :: c :: d :: r, h =>
      have := decG_len k r (by simp at h; omega)
      show (dec4 (num4 a b c d) ++ decG r).length = _
      rw [List.length_append, this]
      simp [dec4]
      omega
    | [], h => simp at h
    | [_], h => simp at h; omega
    | [_, _], h => simp at h; omega
    | [_, _, _], h => simp at h; omega

theorem b64_len4 : ∀ (b : Bs), ∃ k, (b64 b).length = 4 * k
  | [] => ⟨0, rfl⟩
  | [a] => ⟨1, grp_len [a] (by simp) (by simp)⟩
  | [a, b] => ⟨1, grp_len [a, b] (by simp) (by simp)⟩
  | a :: b :: c :: r => by
    obtain ⟨k, hk⟩ := b64_len4 r
    refine ⟨k + 1, ?_⟩
    show (grp [a, b, c] ++ b64 r).length = _
    rw [List.length_append, hk, grp_len _ (by simp) (by simp)]
    omega

theorem dec_three (a b c : UInt8) : decG (grp [a, b, c]) = [a, b, c] := by
  have ha := UInt8.toNat_lt a
  have hb := UInt8.toNat_lt b
  have hc := UInt8.toNat_lt c
  show dec4 (num4 (letN (num3 a b c / 262144 % 64)) (letN (num3 a b c / 4096 % 64)) (letN (num3 a b c / 64 % 64)) (letN (num3 a b c % 64))) ++ [] = _
  unfold num4
  rw [plc_let (Nat.mod_lt _ (by decide)), plc_let (Nat.mod_lt _ (by decide)), plc_let (Nat.mod_lt _ (by decide)), plc_let (Nat.mod_lt _ (by decide))]
  unfold num3 dec4
  obtain ⟨n, hn⟩ : ∃ n, a.toNat * 65536 + b.toNat * 256 + c.toNat = n := ⟨_, rfl⟩
  rw [hn, ofNat_toNat (a := a) (by omega), ofNat_toNat (a := b) (by omega), ofNat_toNat (a := c) (by omega)]
  rfl

theorem dec_two (a b : UInt8) : ∃ x, decG (grp [a, b]) = [a, b, x] := by
  have ha := UInt8.toNat_lt a
  have hb := UInt8.toNat_lt b
  have z : (0 : UInt8).toNat = 0 := rfl
  show ∃ x, dec4 (num4 (letN (num3 a b 0 / 262144 % 64)) (letN (num3 a b 0 / 4096 % 64)) (letN (num3 a b 0 / 64 % 64)) 61) ++ [] = _
  unfold num4
  rw [plc_let (Nat.mod_lt _ (by decide)), plc_let (Nat.mod_lt _ (by decide)), plc_let (Nat.mod_lt _ (by decide)), plc_fill]
  unfold num3 dec4
  rw [z]
  obtain ⟨n, hn⟩ : ∃ n, a.toNat * 65536 + b.toNat * 256 + 0 = n := ⟨_, rfl⟩
  rw [hn, ofNat_toNat (a := a) (by omega), ofNat_toNat (a := b) (by omega)]
  exact ⟨_, rfl⟩

theorem dec_one (a : UInt8) : ∃ x y, decG (grp [a]) = [a, x, y] := by
  have ha := UInt8.toNat_lt a
  have z : (0 : UInt8).toNat = 0 := rfl
  show ∃ x y, dec4 (num4 (letN (num3 a 0 0 / 262144 % 64)) (letN (num3 a 0 0 / 4096 % 64)) 61 61) ++ [] = _
  unfold num4
  rw [plc_let (Nat.mod_lt _ (by decide)), plc_let (Nat.mod_lt _ (by decide)), plc_fill]
  unfold num3 dec4
  rw [z]
  obtain ⟨n, hn⟩ : ∃ n, a.toNat * 65536 + 0 * 256 + 0 = n := ⟨_, rfl⟩
  rw [hn, ofNat_toNat (a := a) (by omega)]
  exact ⟨_, _, rfl⟩

theorem fills_app {x y : Bs} (hy : 2 ≤ y.length) : fills (x ++ y) = fills y := by
  unfold fills
  have h1 : y ≠ [] := by intro e; rw [e] at hy; simp at hy
  have h2 : y.dropLast ≠ [] := by
    intro e
    have := congrArg List.length e
    simp at this
    omega
  have h3 : ∀ (a b : Bs), b ≠ [] → (a ++ b).getLast? = b.getLast? := fun a b hb => by
    rw [List.getLast?_append]
    cases e : b.getLast? with
    | none => exact absurd (List.getLast?_eq_none_iff.1 e) hb
    | some z => rfl
  rw [h3 _ _ h1, List.dropLast_append_of_ne_nil h1, h3 _ _ h2]

theorem unb_app {k : Nat} {x y : Bs} (hx : x.length = 4 * k) (hy : y.length = 4) : unb (x ++ y) = decG x ++ unb y := by
  unfold unb
  have h2 : fills y ≤ 2 := by unfold fills; split <;> (try split) <;> omega
  have hl := decG_len 1 y (by omega)
  rw [fills_app (by omega), decG_app k x y hx, List.length_append, Nat.add_sub_assoc (by omega), List.take_length_add_append]

theorem unb_grp {g : Bs} (h1 : 1 ≤ g.length) (h3 : g.length ≤ 3) : unb (grp g) = g := by
  have e1 : ∀ n, letN (n % 64) ≠ 61 := fun n => let_ne (Nat.mod_lt _ (by decide))
  match g, h1, h3 with
  | [a], _, _ =>
    obtain ⟨x, y, h⟩ := dec_one a
    unfold unb
    rw [h]
    have : fills (grp [a]) = 2 := by simp [fills, grp, lets]
    rw [this]
    rfl
  | [a, b], _, _ =>
    obtain ⟨x, h⟩ := dec_two a b
    unfold unb
    rw [h]
    have : fills (grp [a, b]) = 1 := by simp [fills, grp, lets, e1]
    rw [this]
    rfl
  | [a, b, c], _, _ =>
    unfold unb
    rw [dec_three]
    have : fills (grp [a, b, c]) = 0 := by simp [fills, grp, lets, e1]
    rw [this]
    rfl

/-- What is written is read back. -/
theorem unb_b64 : ∀ (b : Bs), unb (b64 b) = b
  | [] => rfl
  | [a] => unb_grp (g := [a]) (by simp) (by simp)
  | [a, b] => unb_grp (g := [a, b]) (by simp) (by simp)
  | [a, b, c] => by
    show unb (grp [a, b, c] ++ []) = _
    rw [List.append_nil]
    exact unb_grp (by simp) (by simp)
  | a :: b :: c :: d :: r => by
    have ih := unb_b64 (d :: r)
    show unb (grp [a, b, c] ++ b64 (d :: r)) = _
    obtain ⟨k, hk⟩ := b64_len4 (d :: r)
    have hk1 : 1 ≤ k := by
      apply Classical.byContradiction
      intro hc
      have h0 : b64 (d :: r) = [] := List.length_eq_zero_iff.1 (by omega)
      have : unb (b64 (d :: r)) = [] := by rw [h0]; rfl
      rw [ih] at this
      cases this
    -- the last four letters
    obtain ⟨p, q, hpq, hp, hq⟩ : ∃ p q, b64 (d :: r) = p ++ q ∧ p.length = 4 * (k - 1) ∧ q.length = 4 :=
      ⟨(b64 (d :: r)).take (4 * (k - 1)), (b64 (d :: r)).drop (4 * (k - 1)), (List.take_append_drop _ _).symm, by rw [List.length_take]; omega, by rw [List.length_drop]; omega⟩
    rw [hpq] at ih ⊢
    rw [unb_app hp hq] at ih
    have hg : (grp [a, b, c]).length = 4 := grp_len _ (by simp) (by simp)
    rw [← List.append_assoc, unb_app (k := k - 1 + 1) (by rw [List.length_append, hg, hp]; omega) hq, decG_app 1 _ _ (by omega), List.append_assoc, ih, dec_three]
    rfl

theorem from_b64 (b : Bs) : fromL (b64 b) = some b := by unfold fromL; rw [unb_b64, if_pos rfl]

theorem from_some {s b : Bs} (h : fromL s = some b) : b64 b = s := by
  unfold fromL at h
  split at h
  · cases h; assumption
  · cases h

theorem from_is {s b : Bs} (h : b64 b = s) : fromL s = some b := by rw [← h]; exact from_b64 b

theorem from_not {s : Bs} (h : ∀ b, b64 b ≠ s) : fromL s = none := by
  cases e : fromL s with
  | none => rfl
  | some b => exact absurd (from_some e) (h b)

theorem ready_step {P : Program} {md : Region.Mode} {ops : Array Oper} {Q : Exit → Act → World → Prop} {fuel : Nat} {listed : Array Bool} {a : Act} {w : World} {i : Nat} {rs : List Nat} (o : Oper) (ho : ops[i]? = some o) (hw : Region.wanted o (yielded ops a.tmps) = true)
    (h : ∀ K' : Act → World → Prop, (∀ a w, wpAny P md ops Q fuel (listed.setIfInBounds i true) a w → K' a w) → Oper.wp P o a w K' Q) (hs : AllReady P md ops Q fuel listed a w rs) : AllReady P md ops Q fuel listed a w (i :: rs) :=
  AllReady.cons ho (fun K hK => by rw [if_pos hw]; exact h K hK) hs

/-- Letters as they come, ahead of what is laid over the last ones. -/
def rawL : Bs → Bs
  | [] => []
  | [a] => lets (num3 a 0 0) 4
  | [a, b] => lets (num3 a b 0) 4
  | a :: b :: c :: r => lets (num3 a b c) 4 ++ rawL r

/-- One to three bytes as a number, what lacks as 0. -/
def numG (g : Bs) : Nat := (g.getD 0 0).toNat * 65536 + (g.getD 1 0).toNat * 256 + (g.getD 2 0).toNat

theorem raw_app : ∀ (k : Nat) (x y : Bs), x.length = 3 * k → rawL (x ++ y) = rawL x ++ rawL y
  | 0, x, y, h => by
    have : x = [] := List.length_eq_zero_iff.1 (by omega)
    subst this
    rfl
  | k + 1, x, y, h => by
    match x, h with
    | a :: b :: c :: r, h =>
      have hr : r.length = 3 * k := by simp at h; omega
      show lets (num3 a b c) 4 ++ rawL (r ++ y) = (lets (num3 a b c) 4 ++ rawL r) ++ rawL y
      rw [raw_app k r y hr, List.append_assoc]
    | [], h => simp at h
    | [_], h => simp at h; omega
    | [_, _], h => simp at h; omega

theorem raw_grp (g : Bs) (h1 : 1 ≤ g.length) (h3 : g.length ≤ 3) : rawL g = lets (numG g) 4 := by
  match g, h1, h3 with
  | [a], _, _ => rfl
  | [a, b], _, _ => rfl
  | [a, b, c], _, _ => show lets (num3 a b c) 4 ++ [] = _; rw [List.append_nil]; rfl

theorem raw_next {b : Bs} {k i : Nat} (hi : i = 3 * k) (hlt : i < b.length) : rawL (b.take (i + 3)) = rawL (b.take i) ++ lets (numG ((b.drop i).take 3)) 4 := by
  have e : b.take (i + 3) = b.take i ++ (b.drop i).take 3 := by rw [List.take_add]
  rw [e, raw_app k _ _ (by rw [List.length_take]; omega), raw_grp ((b.drop i).take 3) (by rw [List.length_take, List.length_drop]; omega) (by rw [List.length_take]; omega)]

theorem lets_len (n : Nat) : (lets n 4).length = 4 := rfl

theorem numG_lt (g : Bs) : numG g < 16777216 := by
  unfold numG
  have h0 := UInt8.toNat_lt (g.getD 0 0)
  have h1 := UInt8.toNat_lt (g.getD 1 0)
  have h2 := UInt8.toNat_lt (g.getD 2 0)
  omega

theorem raw_len : ∀ (b : Bs), ∃ k, (rawL b).length = 4 * k ∧ k ≤ b.length ∧ (1 ≤ b.length → 1 ≤ k)
  | [] => ⟨0, rfl, Nat.le_refl _, fun h => by simp at h⟩
  | [a] => ⟨1, rfl, Nat.le_refl _, fun _ => Nat.le_refl _⟩
  | [a, b] => ⟨1, rfl, by simp, fun _ => Nat.le_refl _⟩
  | a :: b :: c :: r => by
    obtain ⟨k, h1, h2, _⟩ := raw_len r
    refine ⟨k + 1, ?_, by simp; omega, fun _ => by omega⟩
    show (lets (num3 a b c) 4 ++ rawL r).length = _
    rw [List.length_append, h1, lets_len]
    omega

theorem set_app {x y : Bs} {k : Nat} {c : UInt8} (h : x.length ≤ k) : (x ++ y).set k c = x ++ y.set (k - x.length) c := List.set_append_right _ _ h

/-- What is laid over the last letters makes it whole. -/
theorem raw_fix : ∀ (b : Bs), (b.length % 3 = 0 → rawL b = b64 b) ∧ (b.length % 3 = 1 → ((rawL b).set ((rawL b).length - 2) 61).set ((rawL b).length - 1) 61 = b64 b) ∧ (b.length % 3 = 2 → (rawL b).set ((rawL b).length - 1) 61 = b64 b)
  | [] => ⟨fun _ => rfl, fun h => by simp at h, fun h => by simp at h⟩
  | [a] => ⟨fun h => by simp at h, fun _ => rfl, fun h => by simp at h⟩
  | [a, b] => ⟨fun h => by simp at h, fun h => by simp at h, fun _ => rfl⟩
  | a :: b :: c :: r => by
    obtain ⟨h0, h1, h2⟩ := raw_fix r
    have hl : (a :: b :: c :: r).length % 3 = r.length % 3 := by simp; omega
    obtain ⟨k, hk, _, hk1⟩ := raw_len r
    have el : (lets (num3 a b c) 4 ++ rawL r).length = 4 + (rawL r).length := by rw [List.length_append, lets_len]
    rw [hl]
    refine ⟨fun h => ?_, fun h => ?_, fun h => ?_⟩
    · show lets (num3 a b c) 4 ++ rawL r = lets (num3 a b c) 4 ++ b64 r
      rw [h0 h]
    · have : 1 ≤ k := hk1 (by omega)
      show ((lets (num3 a b c) 4 ++ rawL r).set ((lets (num3 a b c) 4 ++ rawL r).length - 2) 61).set ((lets (num3 a b c) 4 ++ rawL r).length - 1) 61 = lets (num3 a b c) 4 ++ b64 r
      rw [el, set_app (by rw [lets_len]; omega), set_app (by rw [lets_len]; omega), lets_len, ← h1 h, show 4 + (rawL r).length - 2 - 4 = (rawL r).length - 2 by omega, show 4 + (rawL r).length - 1 - 4 = (rawL r).length - 1 by omega]
    · have : 1 ≤ k := hk1 (by omega)
      show (lets (num3 a b c) 4 ++ rawL r).set ((lets (num3 a b c) 4 ++ rawL r).length - 1) 61 = lets (num3 a b c) 4 ++ b64 r
      rw [el, set_app (by rw [lets_len]; omega), lets_len, ← h2 h, show 4 + (rawL r).length - 1 - 4 = (rawL r).length - 1 by omega]

end Go.Proofs.YthcafeoamabkgaaGreatDoor

namespace Go.Proofs.YthcafeoamabkgaaGreatDoor
open Go.RowKit

theorem b64_app : ∀ (k : Nat) (x y : Bs), x.length = 3 * k → b64 (x ++ y) = b64 x ++ b64 y
  | 0, x, y, h => by
    have : x = [] := List.length_eq_zero_iff.1 (by omega)
    subst this
    rfl
  | k + 1, x, y, h => by
    match x, h with
    | a :: b :: c :: r, h =>
      have hr : r.length = 3 * k := by simp at h; omega
      show grp [a, b, c] ++ b64 (r ++ y) = (grp [a, b, c] ++ b64 r) ++ b64 y
      rw [b64_app k r y hr, List.append_assoc]
    | [], h => simp at h
    | [_], h => simp at h; omega
    | [_, _], h => simp at h; omega

theorem let_pos {c : UInt8} {n : Nat} (h : posN c = some n) : letN n = c := by
  unfold posN at h
  obtain ⟨hlt, hp, _⟩ := List.findIdx?_eq_some_iff_getElem.1 h
  unfold letN
  rw [List.getD_eq_getElem?_getD, List.getElem?_eq_getElem hlt]
  simpa using hp

theorem index_pos (x : UInt8) : Lib.indexByte lettersB.data.toList x = match posN x with | some v => (v : Int) | none => -1 := by
  unfold posN
  generalize lettersB.data.toList = l
  induction l with
  | nil => rfl
  | cons b l ih =>
    unfold Lib.indexByte
    rw [List.findIdx?_cons]
    cases h : b == x with
    | true => rfl
    | false =>
      simp only [Bool.false_eq_true, if_false]
      rw [ih]
      cases h2 : l.findIdx? (· == x) with
      | none => rfl
      | some v =>
        simp only [Option.map_some]
        have : ((v : Int) == -1) = false := by simp <;> omega
        rw [this]
        simp

theorem sign_pos (x : UInt8) : signAt x = match posN x with | some v => (v : Int) | none => -1 := index_pos x

theorem end_four {v : Nat} (h : v < 64) : endB (v : Int) = decide (v % 4 = 0) := by
  have : ∀ i : Fin 64, endB (i.1 : Int) = decide (i.1 % 4 = 0) := by decide +kernel
  exact this ⟨v, h⟩

theorem last_snoc (x : UInt8) : ∀ (c : Str) (z : Int), lastOf (c ++ [x]) z = if c.all (fun y => (posN y).isSome) then (match posN x with | some v => some (v : Int) | none => none) else none
  | [], z => by
    show (if signAt x < 0 then none else some (signAt x)) = _
    rw [sign_pos]
    cases posN x with
    | none => rfl
    | some v => simp <;> omega
  | y :: c, z => by
    show (if signAt y < 0 then none else lastOf (c ++ [x]) (signAt y)) = _
    rw [last_snoc x c, sign_pos]
    cases h : posN y with
    | none => simp [h]
    | some v =>
      simp only [List.all_cons, h, Option.isSome_some, Bool.true_and]
      rw [if_neg (by omega)]

/-- The form of a sum behind its head. -/
def SumForm (t : Str) : Prop := ∃ c r, t = c ++ [r] ++ [61] ∧ c.length = 42 ∧ c.all (fun y => (posN y).isSome) = true ∧ ∃ v, posN r = some v ∧ v % 4 = 0

theorem sum_form (s : Str) : sumB s = true ↔ ∃ t, s = headL ++ t ∧ SumForm t := by
  constructor
  · intro h
    unfold sumB at h
    simp only [Bool.and_eq_true, decide_eq_true_eq] at h
    obtain ⟨⟨⟨h1, h2⟩, h3⟩, h4⟩ := h
    unfold Lib.hasPrefix at h1
    obtain ⟨t, ht⟩ := List.isPrefixOf_iff_prefix.1 h1
    have ep : Lib.trimPrefix s headL = t := by
      unfold Lib.trimPrefix Lib.hasPrefix
      rw [if_pos h1, ← ht]
      simp
    rw [ep] at h2 h3 h4
    have h2' := h2
    unfold Lib.hasSuffix at h2
    obtain ⟨u, hu⟩ := List.isSuffixOf_iff_suffix.1 h2
    have es : Lib.trimSuffix t [61] = u := by
      unfold Lib.trimSuffix
      rw [if_pos h2', ← hu]
      simp
    rw [es] at h3 h4
    refine ⟨t, ht.symm, u.dropLast, u.getLast (by intro e; rw [e] at h3; simp at h3), by rw [List.dropLast_concat_getLast, hu], by simp; omega, ?_⟩
    have eu : u = u.dropLast ++ [u.getLast (by intro e; rw [e] at h3; simp at h3)] := (List.dropLast_concat_getLast _).symm
    generalize u.getLast _ = r at eu ⊢
    generalize u.dropLast = c at eu ⊢
    subst eu
    rw [last_snoc] at h4
    cases ha : c.all (fun y => (posN y).isSome) with
    | false => rw [ha] at h4; simp at h4
    | true =>
      rw [ha] at h4
      simp only [if_true] at h4
      cases hr : posN r with
      | none => rw [hr] at h4; simp at h4
      | some v =>
        rw [hr] at h4
        simp only [end_four (pos_lt hr), decide_eq_true_eq] at h4
        exact ⟨rfl, v, rfl, h4⟩
  · rintro ⟨t, rfl, c, r, rfl, hc, ha, v, hr, hv⟩
    have hp : Lib.hasPrefix (headL ++ (c ++ [r] ++ [61])) headL = true := List.isPrefixOf_iff_prefix.2 ⟨_, rfl⟩
    have ep : Lib.trimPrefix (headL ++ (c ++ [r] ++ [61])) headL = c ++ [r] ++ [61] := by
      unfold Lib.trimPrefix
      rw [if_pos hp]
      simp
    have hs : Lib.hasSuffix (c ++ [r] ++ [61]) [61] = true := List.isSuffixOf_iff_suffix.2 ⟨_, rfl⟩
    have es : Lib.trimSuffix (c ++ [r] ++ [61]) [61] = c ++ [r] := by
      unfold Lib.trimSuffix
      rw [if_pos hs]
      exact List.take_left' (by simp)
    unfold sumB
    rw [hp, ep, hs, es, last_snoc, ha, hr]
    simp only [if_true, Bool.true_and, end_four (pos_lt hr)]
    simp [hc, hv]

theorem grp_back {a b c d : UInt8} {p q r s : Nat} (h1 : posN a = some p) (h2 : posN b = some q) (h3 : posN c = some r) (h4 : posN d = some s) : grp (dec4 (num4 a b c d)) = [a, b, c, d] := by
  have l1 := pos_lt h1
  have l2 := pos_lt h2
  have l3 := pos_lt h3
  have l4 := pos_lt h4
  have e : num4 a b c d = ((p * 64 + q) * 64 + r) * 64 + s := by unfold num4 plc; rw [h1, h2, h3, h4]; rfl
  obtain ⟨n, hn⟩ : ∃ n, ((p * 64 + q) * 64 + r) * 64 + s = n := ⟨_, rfl⟩
  rw [e, hn]
  have en : num3 (UInt8.ofNat (n / 65536)) (UInt8.ofNat (n / 256 % 256)) (UInt8.ofNat (n % 256)) = n := by
    unfold num3
    rw [UInt8.toNat_ofNat', UInt8.toNat_ofNat', UInt8.toNat_ofNat']
    omega
  show lets (num3 (UInt8.ofNat (n / 65536)) (UInt8.ofNat (n / 256 % 256)) (UInt8.ofNat (n % 256))) 4 = _
  rw [en]
  show [letN (n / 262144 % 64), letN (n / 4096 % 64), letN (n / 64 % 64), letN (n % 64)] = _
  have a1 : n / 262144 % 64 = p := by omega
  have a2 : n / 4096 % 64 = q := by omega
  have a3 : n / 64 % 64 = r := by omega
  have a4 : n % 64 = s := by omega
  rw [a1, a2, a3, a4, let_pos h1, let_pos h2, let_pos h3, let_pos h4]

theorem isSome_get {o : Option Nat} (h : o.isSome = true) : ∃ v, o = some v := Option.isSome_iff_exists.1 h

theorem b64_back : ∀ (k : Nat) (c : Bs), c.length = 4 * k → c.all (fun y => (posN y).isSome) = true → b64 (decG c) = c
  | 0, c, h, _ => by
    have : c = [] := List.length_eq_zero_iff.1 (by omega)
    subst this
    rfl
  | k + 1, c, h, ha => by
    match c, h, ha with
    | a :: b :: c :: d :: r, h, ha =>
      simp only [List.all_cons, Bool.and_eq_true] at ha
      obtain ⟨h1, h2, h3, h4, h5⟩ := ha
      obtain ⟨p, e1⟩ := isSome_get h1
      obtain ⟨q, e2⟩ := isSome_get h2
      obtain ⟨s, e3⟩ := isSome_get h3
      obtain ⟨t, e4⟩ := isSome_get h4
      have ih := b64_back k r (by simp at h; omega) h5
      show b64 (dec4 (num4 a b c d) ++ decG r) = _
      rw [b64_app 1 _ _ (by rfl), ih]
      have := grp_back e1 e2 e3 e4
      show b64 (dec4 (num4 a b c d)) ++ r = _
      have e : b64 (dec4 (num4 a b c d)) = grp (dec4 (num4 a b c d)) ++ [] := rfl
      rw [e, this]
      rfl
    | [], h, _ => simp at h
    | [_], h, _ => simp at h; omega
    | [_, _], h, _ => simp at h; omega
    | [_, _, _], h, _ => simp at h; omega

theorem lets_all (n k : Nat) : (lets n k).all (fun y => (posN y).isSome) = true := by
  rw [List.all_eq_true]
  intro x hx
  have := List.mem_of_mem_take hx
  simp only [List.mem_cons, List.not_mem_nil, or_false] at this
  rcases this with rfl | rfl | rfl | rfl <;> rw [pos_let (Nat.mod_lt _ (by decide))] <;> rfl

theorem b64_all : ∀ (k : Nat) (b : Bs), b.length = 3 * k → (b64 b).all (fun y => (posN y).isSome) = true ∧ (b64 b).length = 4 * k
  | 0, b, h => by
    have : b = [] := List.length_eq_zero_iff.1 (by omega)
    subst this
    exact ⟨rfl, rfl⟩
  | k + 1, b, h => by
    match b, h with
    | x :: y :: z :: r, h =>
      obtain ⟨i1, i2⟩ := b64_all k r (by simp at h; omega)
      show (lets (num3 x y z) 4 ++ b64 r).all _ = true ∧ (lets (num3 x y z) 4 ++ b64 r).length = _
      rw [List.all_append, i1, lets_all, List.length_append, i2]
      refine ⟨rfl, ?_⟩
      show 4 + 4 * k = _
      omega
    | [], h => simp at h
    | [_], h => simp at h; omega
    | [_, _], h => simp at h; omega

theorem ref_form (t : Str) : (∃ b, fromL t = some b ∧ b.length = 32) ↔ SumForm t := by
  constructor
  · rintro ⟨b, hb, hl⟩
    have ht := from_some hb
    obtain ⟨b0, x, y, rfl, h0⟩ : ∃ b0 x y, b = b0 ++ [x, y] ∧ b0.length = 3 * 10 := by
      have e : b = b.take 30 ++ b.drop 30 := (List.take_append_drop 30 b).symm
      have hd : (b.drop 30).length = 2 := by rw [List.length_drop]; omega
      match hm : b.drop 30, hd with
      | [x, y], _ => exact ⟨b.take 30, x, y, by rw [hm] at e; exact e, by rw [List.length_take]; omega⟩
    obtain ⟨a1, a2⟩ := b64_all 10 b0 h0
    rw [b64_app 10 b0 [x, y] h0] at ht
    have hy := UInt8.toNat_lt y
    have z : (0 : UInt8).toNat = 0 := rfl
    refine ⟨b64 b0 ++ [letN (num3 x y 0 / 262144 % 64), letN (num3 x y 0 / 4096 % 64)], letN (num3 x y 0 / 64 % 64), ?_, by rw [List.length_append, a2]; rfl, ?_, num3 x y 0 / 64 % 64, pos_let (Nat.mod_lt _ (by decide)), ?_⟩
    · rw [← ht]
      show b64 b0 ++ (lets (num3 x y 0) 3 ++ [61]) = _
      simp [lets]
    · rw [List.all_append, a1]
      simp [pos_let (Nat.mod_lt _ (show 0 < 64 by decide))]
    · unfold num3
      rw [z]
      omega
  · rintro ⟨c, r, rfl, hc, ha, v, hr, hv⟩
    obtain ⟨c0, p, q, rfl, h0⟩ : ∃ c0 p q, c = c0 ++ [p, q] ∧ c0.length = 4 * 10 := by
      have e : c = c.take 40 ++ c.drop 40 := (List.take_append_drop 40 c).symm
      have hd : (c.drop 40).length = 2 := by rw [List.length_drop]; omega
      match hm : c.drop 40, hd with
      | [x, y], _ => exact ⟨c.take 40, x, y, by rw [hm] at e; exact e, by rw [List.length_take]; omega⟩
    rw [List.all_append, Bool.and_eq_true] at ha
    obtain ⟨h1, h2⟩ := ha
    simp only [List.all_cons, List.all_nil, Bool.and_true, Bool.and_eq_true] at h2
    obtain ⟨P, e1⟩ := isSome_get h2.1
    obtain ⟨Q, e2⟩ := isSome_get h2.2
    have l1 := pos_lt e1
    have l2 := pos_lt e2
    have l3 := pos_lt hr
    have hne : r ≠ 61 := by rw [← let_pos hr]; exact let_ne l3
    have et : c0 ++ [p, q] ++ [r] ++ [61] = c0 ++ [p, q, r, 61] := by simp
    rw [et]
    obtain ⟨n, hn⟩ : ∃ n, ((P * 64 + Q) * 64 + v) * 64 = n := ⟨_, rfl⟩
    have en : num4 p q r 61 = n := by unfold num4; rw [plc_fill]; unfold plc; rw [e1, e2, hr, ← hn]; rfl
    have eu : unb [p, q, r, 61] = [UInt8.ofNat (n / 65536), UInt8.ofNat (n / 256 % 256)] := by
      have ef : fills [p, q, r, 61] = 1 := by
        unfold fills
        simp [hne]
      unfold unb
      rw [ef]
      show ((dec4 (num4 p q r 61) ++ []).take _) = _
      rw [en]
      rfl
    have eU : unb (c0 ++ [p, q, r, 61]) = decG c0 ++ [UInt8.ofNat (n / 65536), UInt8.ofNat (n / 256 % 256)] := by rw [unb_app h0 rfl, eu]
    have dl := decG_len 10 c0 h0
    have en3 : num3 (UInt8.ofNat (n / 65536)) (UInt8.ofNat (n / 256 % 256)) 0 = n := by
      unfold num3
      rw [UInt8.toNat_ofNat', UInt8.toNat_ofNat', show (0 : UInt8).toNat = 0 from rfl]
      omega
    refine ⟨_, from_is (b := unb (c0 ++ [p, q, r, 61])) ?_, by rw [eU, List.length_append, dl]; rfl⟩
    rw [eU, b64_app 10 _ _ dl, b64_back 10 c0 h0 h1]
    show c0 ++ (lets (num3 (UInt8.ofNat (n / 65536)) (UInt8.ofNat (n / 256 % 256)) 0) 3 ++ [61]) = _
    rw [en3]
    have a1 : n / 262144 % 64 = P := by omega
    have a2 : n / 4096 % 64 = Q := by omega
    have a3 : n / 64 % 64 = v := by omega
    show c0 ++ ([letN (n / 262144 % 64), letN (n / 4096 % 64), letN (n / 64 % 64)] ++ [61]) = _
    rw [a1, a2, a3, let_pos e1, let_pos e2, let_pos hr]
    rfl

/-- By base64. -/
theorem sum_ref {s : Str} (_h : s.length = 47) (hp : s.take 3 = headL) : sumB s = (decide ((if (fromL (s.drop 3)).isSome then (0 : Int) else 15) = 0) && decide (((fromL (s.drop 3)).getD []).length = 32)) := by
  have es : s = headL ++ s.drop 3 := by rw [← hp, List.take_append_drop]
  rw [Bool.eq_iff_iff, sum_form, Bool.and_eq_true, decide_eq_true_eq, decide_eq_true_eq]
  have key := ref_form (s.drop 3)
  constructor
  · rintro ⟨t, e, hf⟩
    have : s.drop 3 = t := by rw [e]; rfl
    rw [← this] at hf
    obtain ⟨b, h1, h2⟩ := key.2 hf
    rw [h1]
    exact ⟨rfl, h2⟩
  · rintro ⟨h1, h2⟩
    cases hb : fromL (s.drop 3) with
    | none => rw [hb] at h1; simp at h1
    | some b =>
      rw [hb] at h2
      exact ⟨_, es, key.1 ⟨b, hb, h2⟩⟩

theorem sum_long {s : Str} (h : ¬ s.length = 47) : sumB s = false := by
  rw [Bool.eq_false_iff]
  intro h1
  obtain ⟨t, rfl, c, r, rfl, hc, _⟩ := (sum_form s).1 h1
  apply h
  simp [hc, headL]
theorem sum_head {s : Str} (h : ¬ s.take 3 = headL) : sumB s = false := by
  rw [Bool.eq_false_iff]
  intro h1
  obtain ⟨t, rfl, _⟩ := (sum_form s).1 h1
  exact h rfl

end Go.Proofs.YthcafeoamabkgaaGreatDoor

namespace Go.Proofs.YthcafeoamabkgaaGreatDoor
open Go.RowKit

theorem let_at {p : Nat} (h : p < 64) : lettersB[p]'h = letN p := by
  have : ∀ i : Fin 64, lettersB[i.1]'i.2 = letN i.1 := by decide +kernel
  exact this ⟨p, h⟩

theorem conv_own {B : Nat} {w : World} {v : Value} {l : Bs} (h : OwnB B w v l) : (convert 110 9 v).run Tryz.prog w = .ok (.string ⟨l.toArray⟩) w := by
  obtain ⟨a, c, rfl, hb, _, _⟩ := OwnB.at h
  have h5 : Tryz.prog.underlying 5 = some (.int .u8) := Tryz.underlying5
  have h9 : Tryz.prog.underlying 9 = some .string := Tryz.underlying9
  rcases hb.els with h0 | ⟨B', O, rfl, hc⟩
  · subst h0
    rcases h.2 with ⟨e, _⟩ | ⟨g, cap, cur, e, _⟩
    · cases e
      rw [run_convert_bytes_string w 110 9 5 _ _ _ Tryz.underlying110 h5 h9]
      rfl
    · cases e
      exact run_convert_bytes_back w 110 9 5 _ _ [] Tryz.underlying110 h5 h9 (fun j hj => by simp at hj)
  · exact run_convert_bytes_back w 110 9 5 _ _ l Tryz.underlying110 h5 h9 (fun j hj => by
      have h := hc j hj
      by_cases hj0 : j = 0
      · subst hj0
        exact h
      · rw [WideShapes.add_plain]
        exact h)

/-- append of four bytes, laid into a block of their own. -/
theorem app_four {B : Nat} {w W1 : World} {v : Value} {l : Bs} {c d e f : UInt8} (ho : OwnB B w v l) (hB : B ≤ w.heap.size) (hl : l.length ≤ 2147483648) (hW : w.alloc (.cells #[.int .u8 (c.toNat : Int), .int .u8 (d.toNat : Int), .int .u8 (e.toNat : Int), .int .u8 (f.toNat : Int)] 5) = W1) :
    ∃ v' w', (Builtin.append_ #[110, 110] 110 #[v, .slice (some ⟨w.heap.size, 0, none⟩) 4 4]).run Tryz.prog W1 = .ok v' w' ∧ OwnB B w' v' (l ++ [c, d, e, f]) ∧ GrB w w' v v' := by
  have hb : Below w.heap.size w W1 := by rw [← hW]; exact (Below.refl _ _).alloc (Nat.le_refl _) _
  have hblk : Blk W1 w.heap.size #[.int .u8 (c.toNat : Int), .int .u8 (d.toNat : Int), .int .u8 (e.toNat : Int), .int .u8 (f.toNat : Int)] 5 := by rw [← hW]; exact Blk.new _ _ _
  obtain ⟨v', w', h1, h2, h3⟩ := app_bytes (a := ⟨w.heap.size, 0, none⟩) (m := [c, d, e, f]) (n := 4) (c := 4) (ho.low hb) (Nat.le_trans hB hb.size) rfl (fun k hk => by
    have : k = 0 ∨ k = 1 ∨ k = 2 ∨ k = 3 := by simp at hk; omega
    rcases this with rfl | rfl | rfl | rfl
    · exact hblk.cell 0
    · exact hblk.cell 1
    · exact hblk.cell 2
    · exact hblk.cell 3) (by omega)
  have ha : GrB w W1 v v := by rw [← hW]; exact GrB.alloc _ _ _
  exact ⟨v', w', h1, h2, ha.trans h3⟩

theorem OwnB.put {base : Nat} {w : World} {g n cap : Nat} {l : Bs} (h : OwnB base w (.slice (some ⟨g, 0, none⟩) n cap) l) (k : Nat) (c : UInt8) : OwnB base (w.setCell ⟨g, k, none⟩ (.int .u8 (c.toNat : Int))) (.slice (some ⟨g, 0, none⟩) n cap) (l.set k c) := by
  rcases h.2 with ⟨e, _⟩ | ⟨g', cap', cur, e, hb, hh, h1, h2, h3, h4⟩
  · cases e
  · have e1 := (Value.slice.inj e).1
    cases e1
    have hs : Blk (w.setCell ⟨g, k, none⟩ (byteV c)) g (cur.setIfInBounds k (byteV c)) 5 := Blk.set hh k (byteV c)
    refine ⟨by simp, Or.inr ⟨g, cap', _, by rw [List.length_set]; exact e, hb, hs, by simpa using h1, h2, by simpa using h3, ?_⟩⟩
    rw [Array.toList_setIfInBounds, List.take_set, List.length_set, h4, List.map_set]

theorem own_free {base : Nat} {w : World} {g n cap k : Nat} {l : Bs} (h : OwnB base w (.slice (some ⟨g, 0, none⟩) n cap) l) : w.frozen? ⟨g, k, none⟩ = false ∧ base ≤ g ∧ n = l.length ∧ n ≤ cap := by
  rcases h.2 with ⟨e, _⟩ | ⟨g', cap', cur, e, hb, hh, h1, _⟩
  · cases e
  · obtain ⟨e1, e2, e3⟩ := Value.slice.inj e
    cases e1
    exact ⟨Lib.frozen_of_heap hh k, hb, e2, by omega⟩

theorem own_cell {base : Nat} {w : World} {g n cap k : Nat} {l : Bs} (h : OwnB base w (.slice (some ⟨g, 0, none⟩) n cap) l) (hk : k < l.length) : w.cell? ⟨g, k, none⟩ = some (.int .u8 (l[k].toNat : Int)) := by
  rcases h.2 with ⟨e, _⟩ | ⟨g', cap', cur, e, hb, hh, h1, h2, h3, h4⟩
  · cases e
  · obtain ⟨e1, e2, e3⟩ := Value.slice.inj e
    cases e1
    have hb2 : Blk w g cur 5 := hh
    rw [hb2.cell k]
    have h5 : (l.map byteV)[k]? = some (.int .u8 (l[k].toNat : Int)) := by rw [List.getElem?_map, List.getElem?_eq_getElem hk]; rfl
    rw [← h4, List.getElem?_take, if_pos (by omega), Array.getElem?_toList] at h5
    exact h5

theorem own_form {base : Nat} {w : World} {v : Value} {l : Bs} (h : OwnB base w v l) (hl : 1 ≤ l.length) : ∃ g cap, v = .slice (some ⟨g, 0, none⟩) l.length cap := by
  rcases h.2 with ⟨_, e⟩ | ⟨g, cap, cur, e, _⟩
  · omega
  · exact ⟨g, cap, e⟩

theorem low_put {w wa : World} {g k : Nat} {v : Value} (b : Below w.heap.size w wa) (hg : w.heap.size ≤ g) : Below w.heap.size w (wa.setCell ⟨g, k, none⟩ v) :=
  b.trans ⟨rfl, rfl, rfl, by simp [World.setCell], fun j hj => Below.heap_setCell _ _ _ _ (by show j ≠ g; omega)⟩

set_option maxRecDepth 100000 in
set_option maxHeartbeats 4000000 in
theorem refB64_any {w : World} {a : Option Addr} {n c : Nat} {b : Bs} (hn : b.length = n) (hN : n ≤ 268435456) (h : BAt w a b) :
    Calls Tryz.prog 113 #[.slice a n c] w fun e w' => e = .returned (.string ⟨(b64 b).toArray⟩) ∧ Below w.heap.size w w' := by
  have HN := hide hn
  have H := hide h
  clear hn h
  go_enter Tryz.func113, Tryz.ntmps113
  go_wp2
  go_loopw [3, 4, 5] (fun v3 v4 _ wr => ∃ i k : Nat, i = 3 * k ∧ i ≤ n + 2 ∧ v4 = .int .i64 (i : Int) ∧ OwnB w.heap.size wr v3 (rawL (b.take i)) ∧ Below w.heap.size w wr) (fun _ v4 _ _ => n + 3 - (intOf v4).toNat)
  case atStart => exact ⟨0, 0, rfl, Nat.zero_le _, rfl, World.ownsRow_nil _ _ _ _, Below.refl _ _⟩
  case round =>
    rename World => wr
    obtain ⟨i, k, hik, hin, rfl, ho, hbw⟩ := hrel
    by_cases hlt : i < n
    · have hil : i < b.length := by rw [unhide HN]; exact hlt
      have hB := (unhide H).low hbw
      obtain ⟨B, O, rfl, he⟩ : ∃ B O, a = some ⟨B, O, none⟩ ∧ ∀ k (hk : k < b.length), wr.cell? ⟨B, O + k, none⟩ = some (.int .u8 (b[k].toNat : Int)) := by
        rcases hB.els with e | h
        · rw [e] at hil; simp at hil
        · exact h
      have hnx := raw_next hik hil
      obtain ⟨x0, hx0⟩ : ∃ x, b[i] = x := ⟨_, rfl⟩
      have c0 := he i hil
      rw [hx0] at c0
      have g0 : ((b.drop i).take 3).getD 0 0 = x0 := by
        rw [List.getD_eq_getElem?_getD, List.getElem?_take, if_pos (by decide), List.getElem?_drop, Nat.add_zero, List.getElem?_eq_getElem hil, hx0]; rfl
      obtain ⟨i1, hi1⟩ : ∃ i1, i + 1 = i1 := ⟨_, rfl⟩
      obtain ⟨i2, hi2⟩ : ∃ i2, i + 2 = i2 := ⟨_, rfl⟩
      obtain ⟨i3, hi3⟩ : ∃ i3, i + 3 = i3 := ⟨_, rfl⟩
      have ei1 : (i : Int) + 1 = (i1 : Int) := by omega
      have ei2 : (i : Int) + 2 = (i2 : Int) := by omega
      have ei3 : (i : Int) + 3 = (i3 : Int) := by omega
      -- the number of the group
      obtain ⟨NG, hNG⟩ : ∃ NG, numG ((b.drop i).take 3) = NG := ⟨_, rfl⟩
      have hNGb : NG < 16777216 := by rw [← hNG]; exact numG_lt _
      obtain ⟨p0, hp0⟩ : ∃ p, NG / 262144 = p := ⟨_, rfl⟩
      obtain ⟨y1, hy1⟩ : ∃ p, NG / 4096 = p := ⟨_, rfl⟩
      obtain ⟨p1, hp1⟩ : ∃ p, y1 % 64 = p := ⟨_, rfl⟩
      obtain ⟨y2, hy2⟩ : ∃ p, NG / 64 = p := ⟨_, rfl⟩
      obtain ⟨p2, hp2⟩ : ∃ p, y2 % 64 = p := ⟨_, rfl⟩
      obtain ⟨p3, hp3⟩ : ∃ p, NG % 64 = p := ⟨_, rfl⟩
      have a0 : (NG : Int) / 262144 = (p0 : Int) := by omega
      have a1 : (NG : Int) / 4096 = (y1 : Int) := by omega
      have b1 : (y1 : Int).tmod 64 = (p1 : Int) := by rw [Int.tmod_eq_emod_of_nonneg (by omega)]; omega
      have b1' : (y1 : Int) % 64 = (p1 : Int) := by omega
      have a2 : (NG : Int) / 64 = (y2 : Int) := by omega
      have b2 : (y2 : Int).tmod 64 = (p2 : Int) := by rw [Int.tmod_eq_emod_of_nonneg (by omega)]; omega
      have b2' : (y2 : Int) % 64 = (p2 : Int) := by omega
      have b3 : (NG : Int).tmod 64 = (p3 : Int) := by rw [Int.tmod_eq_emod_of_nonneg (by omega)]; omega
      have b3' : (NG : Int) % 64 = (p3 : Int) := by omega
      have q0 : p0 < 64 := by omega
      have q1 : p1 < 64 := by omega
      have q2 : p2 < 64 := by omega
      have q3 : p3 < 64 := by omega
      have r0 : (p0 : Int) < 64 := by omega
      have r1 : (p1 : Int) < 64 := by omega
      have r2 : (p2 : Int) < 64 := by omega
      have r3 : (p3 : Int) < 64 := by omega
      have t0 := wrapI p0 (by omega)
      have t1 := wrapI y1 (by omega)
      have t2 := wrapI p1 (by omega)
      have t3 := wrapI y2 (by omega)
      have t4 := wrapI p2 (by omega)
      have t5 := wrapI p3 (by omega)
      obtain ⟨z0, hz0⟩ : ∃ z, letN p0 = z := ⟨_, rfl⟩
      obtain ⟨z1, hz1⟩ : ∃ z, letN p1 = z := ⟨_, rfl⟩
      obtain ⟨z2, hz2⟩ : ∃ z, letN p2 = z := ⟨_, rfl⟩
      obtain ⟨z3, hz3⟩ : ∃ z, letN p3 = z := ⟨_, rfl⟩
      have d0 := (let_at q0).trans hz0
      have d1 := (let_at q1).trans hz1
      have d2 := (let_at q2).trans hz2
      have d3 := (let_at q3).trans hz3
      unfold lettersB at d0 d1 d2 d3
      have hlets : lets NG 4 = [z0, z1, z2, z3] := by
        show [letN (NG / 262144 % 64), letN (NG / 4096 % 64), letN (NG / 64 % 64), letN (NG % 64)] = _
        rw [hy1, hp1, hy2, hp2, hp3, hp0, Nat.mod_eq_of_lt q0, hz0, hz1, hz2, hz3]
      rw [hNG, hlets] at hnx
      have hll : (rawL (b.take i)).length ≤ 2147483648 := by
        obtain ⟨kk, e1, e2, _⟩ := raw_len (b.take i)
        rw [List.length_take] at e2
        omega
      obtain ⟨W1, hW1⟩ : ∃ W1, wr.drew.alloc (.cells #[.int .u8 (z0.toNat : Int), .int .u8 (z1.toNat : Int), .int .u8 (z2.toNat : Int), .int .u8 (z3.toNat : Int)] 5) = W1 := ⟨_, rfl⟩
      obtain ⟨v', w', happ, hown, hgr⟩ := app_four (W1 := W1) (w := wr.drew) (ho.low (Below.refl _ _).drew) hbw.size hll hW1
      rw [← hnx, hi3] at hown
      have HP : Hid (OwnB w.heap.size w' v' (rawL (b.take i3)) ∧ Below w.heap.size w w') := hide ⟨hown, hbw.drew.trans (hgr.low hbw.size (OwnB.base ho))⟩
      have HW1 : Hid ((wr.alloc (.cells #[.int .u8 (z0.toNat : Int), .int .u8 (z1.toNat : Int), .int .u8 (z2.toNat : Int), .int .u8 (z3.toNat : Int)] 5)).drew = W1) := hide hW1
      have happ2 : (Builtin.append_ #[110, 110] 110 #[u3, .slice (some ⟨wr.heap.size, 0, none⟩) 4 4]).run Tryz.prog W1 = .ok v' w' := happ
      have mixed : Tryz.prog.follows .mixedOrders = true := by kernel_rfl
      have HIK : Hid (i3 = 3 * (k + 1)) := hide (by omega)
      have hi3n : i3 ≤ n + 2 := by omega
      have x08 := u8_lt x0
      have m1 : (x0.toNat : Int) * 65536 ≤ 16711680 := by omega
      obtain ⟨A0, hA0⟩ : ∃ A, x0.toNat * 65536 = A := ⟨_, rfl⟩
      have f0 : (x0.toNat : Int) * 65536 = (A0 : Int) := by omega
      have A0b : A0 < 16777216 := by omega
      clear m1
      by_cases h1 : i1 < n
      · have hl1 : i1 < b.length := by rw [unhide HN]; exact h1
        obtain ⟨x1, hx1⟩ : ∃ x, b[i1] = x := ⟨_, rfl⟩
        have c1 := he i1 hl1
        rw [hx1] at c1
        have g1 : ((b.drop i).take 3).getD 1 0 = x1 := by
          rw [List.getD_eq_getElem?_getD, List.getElem?_take, if_pos (by decide), List.getElem?_drop, hi1, List.getElem?_eq_getElem hl1, hx1]; rfl
        have x18 := u8_lt x1
        obtain ⟨A1, hA1⟩ : ∃ A, x1.toNat * 256 = A := ⟨_, rfl⟩
        have f1 : (x1.toNat : Int) * 256 = (A1 : Int) := by omega
        obtain ⟨S1, hS1⟩ : ∃ S, A0 + A1 = S := ⟨_, rfl⟩
        have f2 : (A0 : Int) + (A1 : Int) = (S1 : Int) := by omega
        have S1b : S1 < 16777216 := by omega
        by_cases h2 : i2 < n
        · have hl2 : i2 < b.length := by rw [unhide HN]; exact h2
          obtain ⟨x2, hx2⟩ : ∃ x, b[i2] = x := ⟨_, rfl⟩
          have c2 := he i2 hl2
          rw [hx2] at c2
          have g2 : ((b.drop i).take 3).getD 2 0 = x2 := by
            rw [List.getD_eq_getElem?_getD, List.getElem?_take, if_pos (by decide), List.getElem?_drop, hi2, List.getElem?_eq_getElem hl2, hx2]; rfl
          have x28 := u8_lt x2
          have f3 : (S1 : Int) + (x2.toNat : Int) = (NG : Int) := by
            rw [← hNG]
            unfold numG
            rw [g0, g1, g2]
            omega
          clear happ ho hbw hown hgr hW1 hnx hx0 g0 g1 g2 hx1 hx2 he hB hNG hlets hp0 hp1 hp2 hp3 hy1 hy2 hz0 hz1 hz2 hz3 hll hik hi1 hi2 hi3 hA0 hA1 hS1 hil hl1 hl2
          go_wp2
          refine wp_region_any mixed ?_
          refine wpAny_take (i := 0) (v := u3) rfl (by kernel_rfl) (by kernel_rfl) (by kernel_rfl) (fun _ _ _ h => h) (Or.inl ⟨rfl, fun _ => rfl⟩) ?_
          refine wpAny_take (i := 1) (v := .int .i64 (NG : Int)) rfl (by kernel_rfl) (by kernel_rfl) (by kernel_rfl) (fun _ _ _ h => h) (Or.inl ⟨rfl, fun _ => rfl⟩) ?_
          refine wpAny_take (i := 2) (v := .int .i64 (p0 : Int)) rfl (by kernel_rfl) (by kernel_rfl) (by kernel_rfl) (fun _ _ _ h => h) (Or.inl ⟨rfl, fun _ => by go_simp⟩) ?_
          refine wpAny_take (i := 3) (v := .int .u8 (z0.toNat : Int)) rfl (by kernel_rfl) (by kernel_rfl) (by kernel_rfl) (fun _ _ _ h => h) (Or.inl ⟨rfl, fun _ => by go_simp⟩) ?_
          go_simp
          refine wpAny_take (i := 4) (v := .int .i64 (NG : Int)) rfl (by kernel_rfl) (by kernel_rfl) (by kernel_rfl) (fun _ _ _ h => h) (Or.inl ⟨rfl, fun _ => rfl⟩) ?_
          refine wpAny_take (i := 5) (v := .int .i64 (y1 : Int)) rfl (by kernel_rfl) (by kernel_rfl) (by kernel_rfl) (fun _ _ _ h => h) (Or.inl ⟨rfl, fun _ => by go_simp⟩) ?_
          refine wpAny_take (i := 6) (v := .int .i64 (p1 : Int)) rfl (by kernel_rfl) (by kernel_rfl) (by kernel_rfl) (fun _ _ _ h => h) (Or.inl ⟨rfl, fun _ => by go_simp⟩) ?_
          refine wpAny_take (i := 7) (v := .int .u8 (z1.toNat : Int)) rfl (by kernel_rfl) (by kernel_rfl) (by kernel_rfl) (fun _ _ _ h => h) (Or.inl ⟨rfl, fun _ => by go_simp⟩) ?_
          go_simp
          refine wpAny_take (i := 8) (v := .int .i64 (NG : Int)) rfl (by kernel_rfl) (by kernel_rfl) (by kernel_rfl) (fun _ _ _ h => h) (Or.inl ⟨rfl, fun _ => rfl⟩) ?_
          refine wpAny_take (i := 9) (v := .int .i64 (y2 : Int)) rfl (by kernel_rfl) (by kernel_rfl) (by kernel_rfl) (fun _ _ _ h => h) (Or.inl ⟨rfl, fun _ => by go_simp⟩) ?_
          refine wpAny_take (i := 10) (v := .int .i64 (p2 : Int)) rfl (by kernel_rfl) (by kernel_rfl) (by kernel_rfl) (fun _ _ _ h => h) (Or.inl ⟨rfl, fun _ => by go_simp⟩) ?_
          refine wpAny_take (i := 11) (v := .int .u8 (z2.toNat : Int)) rfl (by kernel_rfl) (by kernel_rfl) (by kernel_rfl) (fun _ _ _ h => h) (Or.inl ⟨rfl, fun _ => by go_simp⟩) ?_
          go_simp
          refine wpAny_take (i := 12) (v := .int .i64 (NG : Int)) rfl (by kernel_rfl) (by kernel_rfl) (by kernel_rfl) (fun _ _ _ h => h) (Or.inl ⟨rfl, fun _ => rfl⟩) ?_
          refine wpAny_take (i := 13) (v := .int .i64 (p3 : Int)) rfl (by kernel_rfl) (by kernel_rfl) (by kernel_rfl) (fun _ _ _ h => h) (Or.inl ⟨rfl, fun _ => by go_simp⟩) ?_
          refine wpAny_take (i := 14) (v := .int .u8 (z3.toNat : Int)) rfl (by kernel_rfl) (by kernel_rfl) (by kernel_rfl) (fun _ _ _ h => h) (Or.inl ⟨rfl, fun _ => by go_simp⟩) ?_
          go_simp
          refine wpAny_ready (rs := [15]) (by kernel_rfl) (by simp) (ready_step _ rfl rfl (fun K hK => ?_) AllReady.nil)
          go_simp
          refine hK _ _ ?_
          clear hK K
          refine wpAny_ready (rs := [16]) (by kernel_rfl) (by simp) (ready_step _ rfl rfl (fun K hK => ?_) AllReady.nil)
          rw [unhide HW1]
          refine Lib.wp_append_run _ _ _ _ _ rfl _ _ rfl rfl _ _ happ2 ?_
          refine hK _ _ ?_
          clear hK K
          refine wpAny_ready (rs := [17]) (by kernel_rfl) (by simp) (ready_step _ rfl rfl (fun K hK => ?_) AllReady.nil)
          go_simp
          refine hK _ _ ?_
          clear hK K
          refine wpAny_done (by kernel_rfl) ?_ _
          go_wp2
          go_roundw
          case rel => exact ⟨i3, k + 1, unhide HIK, hi3n, rfl, (unhide HP).1, (unhide HP).2⟩
          case measure => simp [intOf]; omega
        · have f3 : S1 = NG := by
            have g2 : ((b.drop i).take 3).getD 2 0 = 0 := by
              rw [List.getD_eq_getElem?_getD, List.getElem?_take, if_pos (by decide), List.getElem?_drop, List.getElem?_eq_none (by rw [unhide HN]; omega)]; rfl
            have z : (0 : UInt8).toNat = 0 := rfl
            rw [← hNG]
            unfold numG
            rw [g0, g1, g2, z]
            omega
          subst f3
          clear happ ho hbw hown hgr hW1 hnx hx0 g0 g1 hx1 he hB hNG hlets hp0 hp1 hp2 hp3 hy1 hy2 hz0 hz1 hz2 hz3 hll hik hi1 hi2 hi3 hA0 hA1 hS1 hil hl1
          go_wp2
          refine wp_region_any mixed ?_
          refine wpAny_take (i := 0) (v := u3) rfl (by kernel_rfl) (by kernel_rfl) (by kernel_rfl) (fun _ _ _ h => h) (Or.inl ⟨rfl, fun _ => rfl⟩) ?_
          refine wpAny_take (i := 1) (v := .int .i64 (S1 : Int)) rfl (by kernel_rfl) (by kernel_rfl) (by kernel_rfl) (fun _ _ _ h => h) (Or.inl ⟨rfl, fun _ => rfl⟩) ?_
          refine wpAny_take (i := 2) (v := .int .i64 (p0 : Int)) rfl (by kernel_rfl) (by kernel_rfl) (by kernel_rfl) (fun _ _ _ h => h) (Or.inl ⟨rfl, fun _ => by go_simp⟩) ?_
          refine wpAny_take (i := 3) (v := .int .u8 (z0.toNat : Int)) rfl (by kernel_rfl) (by kernel_rfl) (by kernel_rfl) (fun _ _ _ h => h) (Or.inl ⟨rfl, fun _ => by go_simp⟩) ?_
          go_simp
          refine wpAny_take (i := 4) (v := .int .i64 (S1 : Int)) rfl (by kernel_rfl) (by kernel_rfl) (by kernel_rfl) (fun _ _ _ h => h) (Or.inl ⟨rfl, fun _ => rfl⟩) ?_
          refine wpAny_take (i := 5) (v := .int .i64 (y1 : Int)) rfl (by kernel_rfl) (by kernel_rfl) (by kernel_rfl) (fun _ _ _ h => h) (Or.inl ⟨rfl, fun _ => by go_simp⟩) ?_
          refine wpAny_take (i := 6) (v := .int .i64 (p1 : Int)) rfl (by kernel_rfl) (by kernel_rfl) (by kernel_rfl) (fun _ _ _ h => h) (Or.inl ⟨rfl, fun _ => by go_simp⟩) ?_
          refine wpAny_take (i := 7) (v := .int .u8 (z1.toNat : Int)) rfl (by kernel_rfl) (by kernel_rfl) (by kernel_rfl) (fun _ _ _ h => h) (Or.inl ⟨rfl, fun _ => by go_simp⟩) ?_
          go_simp
          refine wpAny_take (i := 8) (v := .int .i64 (S1 : Int)) rfl (by kernel_rfl) (by kernel_rfl) (by kernel_rfl) (fun _ _ _ h => h) (Or.inl ⟨rfl, fun _ => rfl⟩) ?_
          refine wpAny_take (i := 9) (v := .int .i64 (y2 : Int)) rfl (by kernel_rfl) (by kernel_rfl) (by kernel_rfl) (fun _ _ _ h => h) (Or.inl ⟨rfl, fun _ => by go_simp⟩) ?_
          refine wpAny_take (i := 10) (v := .int .i64 (p2 : Int)) rfl (by kernel_rfl) (by kernel_rfl) (by kernel_rfl) (fun _ _ _ h => h) (Or.inl ⟨rfl, fun _ => by go_simp⟩) ?_
          refine wpAny_take (i := 11) (v := .int .u8 (z2.toNat : Int)) rfl (by kernel_rfl) (by kernel_rfl) (by kernel_rfl) (fun _ _ _ h => h) (Or.inl ⟨rfl, fun _ => by go_simp⟩) ?_
          go_simp
          refine wpAny_take (i := 12) (v := .int .i64 (S1 : Int)) rfl (by kernel_rfl) (by kernel_rfl) (by kernel_rfl) (fun _ _ _ h => h) (Or.inl ⟨rfl, fun _ => rfl⟩) ?_
          refine wpAny_take (i := 13) (v := .int .i64 (p3 : Int)) rfl (by kernel_rfl) (by kernel_rfl) (by kernel_rfl) (fun _ _ _ h => h) (Or.inl ⟨rfl, fun _ => by go_simp⟩) ?_
          refine wpAny_take (i := 14) (v := .int .u8 (z3.toNat : Int)) rfl (by kernel_rfl) (by kernel_rfl) (by kernel_rfl) (fun _ _ _ h => h) (Or.inl ⟨rfl, fun _ => by go_simp⟩) ?_
          go_simp
          refine wpAny_ready (rs := [15]) (by kernel_rfl) (by simp) (ready_step _ rfl rfl (fun K hK => ?_) AllReady.nil)
          go_simp
          refine hK _ _ ?_
          clear hK K
          refine wpAny_ready (rs := [16]) (by kernel_rfl) (by simp) (ready_step _ rfl rfl (fun K hK => ?_) AllReady.nil)
          rw [unhide HW1]
          refine Lib.wp_append_run _ _ _ _ _ rfl _ _ rfl rfl _ _ happ2 ?_
          refine hK _ _ ?_
          clear hK K
          refine wpAny_ready (rs := [17]) (by kernel_rfl) (by simp) (ready_step _ rfl rfl (fun K hK => ?_) AllReady.nil)
          go_simp
          refine hK _ _ ?_
          clear hK K
          refine wpAny_done (by kernel_rfl) ?_ _
          go_wp2
          go_roundw
          case rel => exact ⟨i3, k + 1, unhide HIK, hi3n, rfl, (unhide HP).1, (unhide HP).2⟩
          case measure => simp [intOf]; omega
      · have h2 : ¬ i2 < n := by omega
        have f3 : A0 = NG := by
          have g1 : ((b.drop i).take 3).getD 1 0 = 0 := by
            rw [List.getD_eq_getElem?_getD, List.getElem?_take, if_pos (by decide), List.getElem?_drop, List.getElem?_eq_none (by rw [unhide HN]; omega)]; rfl
          have g2 : ((b.drop i).take 3).getD 2 0 = 0 := by
            rw [List.getD_eq_getElem?_getD, List.getElem?_take, if_pos (by decide), List.getElem?_drop, List.getElem?_eq_none (by rw [unhide HN]; omega)]; rfl
          have z : (0 : UInt8).toNat = 0 := rfl
          rw [← hNG]
          unfold numG
          rw [g0, g1, g2, z]
          omega
        subst f3
        clear happ ho hbw hown hgr hW1 hnx hx0 g0 he hB hNG hlets hp0 hp1 hp2 hp3 hy1 hy2 hz0 hz1 hz2 hz3 hll hik hi1 hi2 hi3 hA0 hil
        go_wp2
        refine wp_region_any mixed ?_
        refine wpAny_take (i := 0) (v := u3) rfl (by kernel_rfl) (by kernel_rfl) (by kernel_rfl) (fun _ _ _ h => h) (Or.inl ⟨rfl, fun _ => rfl⟩) ?_
        refine wpAny_take (i := 1) (v := .int .i64 (A0 : Int)) rfl (by kernel_rfl) (by kernel_rfl) (by kernel_rfl) (fun _ _ _ h => h) (Or.inl ⟨rfl, fun _ => rfl⟩) ?_
        refine wpAny_take (i := 2) (v := .int .i64 (p0 : Int)) rfl (by kernel_rfl) (by kernel_rfl) (by kernel_rfl) (fun _ _ _ h => h) (Or.inl ⟨rfl, fun _ => by go_simp⟩) ?_
        refine wpAny_take (i := 3) (v := .int .u8 (z0.toNat : Int)) rfl (by kernel_rfl) (by kernel_rfl) (by kernel_rfl) (fun _ _ _ h => h) (Or.inl ⟨rfl, fun _ => by go_simp⟩) ?_
        go_simp
        refine wpAny_take (i := 4) (v := .int .i64 (A0 : Int)) rfl (by kernel_rfl) (by kernel_rfl) (by kernel_rfl) (fun _ _ _ h => h) (Or.inl ⟨rfl, fun _ => rfl⟩) ?_
        refine wpAny_take (i := 5) (v := .int .i64 (y1 : Int)) rfl (by kernel_rfl) (by kernel_rfl) (by kernel_rfl) (fun _ _ _ h => h) (Or.inl ⟨rfl, fun _ => by go_simp⟩) ?_
        refine wpAny_take (i := 6) (v := .int .i64 (p1 : Int)) rfl (by kernel_rfl) (by kernel_rfl) (by kernel_rfl) (fun _ _ _ h => h) (Or.inl ⟨rfl, fun _ => by go_simp⟩) ?_
        refine wpAny_take (i := 7) (v := .int .u8 (z1.toNat : Int)) rfl (by kernel_rfl) (by kernel_rfl) (by kernel_rfl) (fun _ _ _ h => h) (Or.inl ⟨rfl, fun _ => by go_simp⟩) ?_
        go_simp
        refine wpAny_take (i := 8) (v := .int .i64 (A0 : Int)) rfl (by kernel_rfl) (by kernel_rfl) (by kernel_rfl) (fun _ _ _ h => h) (Or.inl ⟨rfl, fun _ => rfl⟩) ?_
        refine wpAny_take (i := 9) (v := .int .i64 (y2 : Int)) rfl (by kernel_rfl) (by kernel_rfl) (by kernel_rfl) (fun _ _ _ h => h) (Or.inl ⟨rfl, fun _ => by go_simp⟩) ?_
        refine wpAny_take (i := 10) (v := .int .i64 (p2 : Int)) rfl (by kernel_rfl) (by kernel_rfl) (by kernel_rfl) (fun _ _ _ h => h) (Or.inl ⟨rfl, fun _ => by go_simp⟩) ?_
        refine wpAny_take (i := 11) (v := .int .u8 (z2.toNat : Int)) rfl (by kernel_rfl) (by kernel_rfl) (by kernel_rfl) (fun _ _ _ h => h) (Or.inl ⟨rfl, fun _ => by go_simp⟩) ?_
        go_simp
        refine wpAny_take (i := 12) (v := .int .i64 (A0 : Int)) rfl (by kernel_rfl) (by kernel_rfl) (by kernel_rfl) (fun _ _ _ h => h) (Or.inl ⟨rfl, fun _ => rfl⟩) ?_
        refine wpAny_take (i := 13) (v := .int .i64 (p3 : Int)) rfl (by kernel_rfl) (by kernel_rfl) (by kernel_rfl) (fun _ _ _ h => h) (Or.inl ⟨rfl, fun _ => by go_simp⟩) ?_
        refine wpAny_take (i := 14) (v := .int .u8 (z3.toNat : Int)) rfl (by kernel_rfl) (by kernel_rfl) (by kernel_rfl) (fun _ _ _ h => h) (Or.inl ⟨rfl, fun _ => by go_simp⟩) ?_
        go_simp
        refine wpAny_ready (rs := [15]) (by kernel_rfl) (by simp) (ready_step _ rfl rfl (fun K hK => ?_) AllReady.nil)
        go_simp
        refine hK _ _ ?_
        clear hK K
        refine wpAny_ready (rs := [16]) (by kernel_rfl) (by simp) (ready_step _ rfl rfl (fun K hK => ?_) AllReady.nil)
        rw [unhide HW1]
        refine Lib.wp_append_run _ _ _ _ _ rfl _ _ rfl rfl _ _ happ2 ?_
        refine hK _ _ ?_
        clear hK K
        refine wpAny_ready (rs := [17]) (by kernel_rfl) (by simp) (ready_step _ rfl rfl (fun K hK => ?_) AllReady.nil)
        go_simp
        refine hK _ _ ?_
        clear hK K
        refine wpAny_done (by kernel_rfl) ?_ _
        go_wp2
        go_roundw
        case rel => exact ⟨i3, k + 1, unhide HIK, hi3n, rfl, (unhide HP).1, (unhide HP).2⟩
        case measure => simp [intOf]; omega
    · rw [List.take_of_length_le (by rw [unhide HN]; omega)] at ho
      obtain ⟨h0, h1, h2⟩ := raw_fix b
      obtain ⟨q, hq, _, hq1⟩ := raw_len b
      rw [unhide HN] at h0 h1 h2 hq1
      obtain ⟨r, hr⟩ : ∃ r, n % 3 = r := ⟨_, rfl⟩
      rw [hr] at h0 h1 h2
      have hr3 : r = 0 ∨ r = 1 ∨ r = 2 := by omega
      rcases hr3 with rfl | rfl | rfl
      · have er : (n : Int).tmod 3 = 0 := by rw [Int.tmod_eq_emod_of_nonneg (by omega)]; omega
        have er' : (n : Int) % 3 = 0 := by omega
        rw [h0 rfl] at ho
        have hcv := conv_own ho
        have HB := hide hbw
        clear ho hbw h0 h1 h2 hq hq1 hr hik
        go_wp2
        go_ret
        exact ⟨rfl, unhide HB⟩
      · have er : (n : Int).tmod 3 = 1 := by rw [Int.tmod_eq_emod_of_nonneg (by omega)]; omega
        have er' : (n : Int) % 3 = 1 := by omega
        have hq2 : 1 ≤ q := hq1 (by omega)
        obtain ⟨g, cap, rfl⟩ := own_form ho (by omega)
        obtain ⟨L, hL⟩ : ∃ L, (rawL b).length = L := ⟨_, rfl⟩
        obtain ⟨L2, hL2⟩ : ∃ x, L - 2 = x := ⟨_, rfl⟩
        obtain ⟨L1, hL1⟩ : ∃ x, L - 1 = x := ⟨_, rfl⟩
        have hfix := h1 rfl
        rw [hL, hL1, hL2] at hfix
        obtain ⟨fr2, hgb, -, hcap⟩ := own_free (k := L2) ho
        have ce2 := own_cell (k := L2) ho (by omega)
        obtain ⟨cv2, hcv2⟩ : ∃ x, Value.int .u8 (((rawL b)[L2]'(by omega)).toNat : Int) = x := ⟨_, rfl⟩
        rw [hcv2] at ce2
        have o2 := OwnB.put ho L2 61
        have ce1 := own_cell (k := L1) o2 (by rw [List.length_set]; omega)
        obtain ⟨cv1, hcv1⟩ : ∃ x, Value.int .u8 ((((rawL b).set L2 61)[L1]'(by rw [List.length_set]; omega)).toNat : Int) = x := ⟨_, rfl⟩
        rw [hcv1] at ce1
        obtain ⟨fr1, -, -, -⟩ := own_free (k := L1) o2
        have o3 := OwnB.put o2 L1 61
        rw [hfix] at o3
        rw [hL] at o3 hcap ⊢
        have hcv := conv_own o3
        have HB := hide (low_put (k := L1) (v := .int .u8 ((61 : UInt8).toNat : Int)) (low_put (k := L2) (v := .int .u8 ((61 : UInt8).toNat : Int)) hbw hgb) hgb)
        have u61 : ((61 : UInt8).toNat : Int) = 61 := rfl
        rw [u61] at HB hcv fr1 ce1
        have s2 : (L : Int) - 2 = (L2 : Int) := by omega
        have s1 : (L : Int) - 1 = (L1 : Int) := by omega
        have t2 : L2 < L := by omega
        have t1 : L1 < L := by omega
        have Lb : L ≤ 4294967296 := by
          obtain ⟨kk, e1, e2, _⟩ := raw_len b
          rw [unhide HN] at e2
          omega
        clear ho hbw h0 h1 h2 hq hq1 hr hik hfix o2 o3 hL hL1 hL2 hgb hcv1 hcv2
        go_wp2
        go_ret
        exact ⟨rfl, unhide HB⟩
      · have er : (n : Int).tmod 3 = 2 := by rw [Int.tmod_eq_emod_of_nonneg (by omega)]; omega
        have er' : (n : Int) % 3 = 2 := by omega
        have hq2 : 1 ≤ q := hq1 (by omega)
        obtain ⟨g, cap, rfl⟩ := own_form ho (by omega)
        obtain ⟨L, hL⟩ : ∃ L, (rawL b).length = L := ⟨_, rfl⟩
        obtain ⟨L1, hL1⟩ : ∃ x, L - 1 = x := ⟨_, rfl⟩
        have hfix := h2 rfl
        rw [hL, hL1] at hfix
        obtain ⟨fr1, hgb, -, hcap⟩ := own_free (k := L1) ho
        have ce1 := own_cell (k := L1) ho (by omega)
        obtain ⟨cv1, hcv1⟩ : ∃ x, Value.int .u8 (((rawL b)[L1]'(by omega)).toNat : Int) = x := ⟨_, rfl⟩
        rw [hcv1] at ce1
        have o3 := OwnB.put ho L1 61
        rw [hfix] at o3
        rw [hL] at o3 hcap ⊢
        have hcv := conv_own o3
        have HB := hide (low_put (k := L1) (v := .int .u8 ((61 : UInt8).toNat : Int)) hbw hgb)
        have u61 : ((61 : UInt8).toNat : Int) = 61 := rfl
        rw [u61] at HB hcv
        have s1 : (L : Int) - 1 = (L1 : Int) := by omega
        have t1 : L1 < L := by omega
        have Lb : L ≤ 4294967296 := by
          obtain ⟨kk, e1, e2, _⟩ := raw_len b
          rw [unhide HN] at e2
          omega
        clear ho hbw h0 h1 h2 hq hq1 hr hik hfix o3 hL hL1 hgb hcv1
        go_wp2
        go_ret
        exact ⟨rfl, unhide HB⟩

/-- The bytes that are told; the error. -/
def fromV (s : Bs) : Bs := (fromL s).getD []

def fromE (s : Bs) : Int := if (fromL s).isSome then 0 else 15

/-- A letter's place as a number; -1: it is none. -/
def plI (x : UInt8) : Int := match posN x with | some v => (v : Int) | none => -1

theorem pl_max (x : UInt8) : max (plI x) 0 = (plc x : Int) := by
  unfold plI plc
  cases posN x with
  | none => rfl
  | some v => show max (v : Int) 0 = (v : Int); omega

theorem let_get {j : Nat} (h : j < 64) : lettersB.data.toList[j]? = some (letN j) := by
  have : ∀ i : Fin 64, lettersB.data.toList[i.1]? = some (letN i.1) := by decide +kernel
  exact this ⟨j, h⟩

theorem let_len : lettersB.data.toList.length = 64 := by decide +kernel

theorem pos_found {x : UInt8} {i : Nat} (hi : i < 64) (h : ∀ j, j < i → letN j ≠ x) (he : letN i = x) : plI x = (i : Int) := by
  have hp : posN x = some i := by
    unfold posN
    rw [List.findIdx?_eq_some_iff_getElem]
    refine ⟨by rw [let_len]; exact hi, ?_, fun j hj => ?_⟩
    · have := let_get hi
      rw [List.getElem?_eq_getElem (by rw [let_len]; exact hi)] at this
      rw [Option.some.inj this, he]
      simp
    · have := let_get (j := j) (by omega)
      rw [List.getElem?_eq_getElem (by rw [let_len]; omega)] at this
      rw [Option.some.inj this]
      simpa using h j hj
  unfold plI
  rw [hp]

theorem pos_never {x : UInt8} (h : ∀ j, j < 64 → letN j ≠ x) : plI x = -1 := by
  have hp : posN x = none := by
    unfold posN
    rw [List.findIdx?_eq_none_iff]
    intro y hy
    obtain ⟨j, hj, rfl⟩ := List.mem_iff_getElem.1 hy
    rw [let_len] at hj
    have := let_get hj
    rw [List.getElem?_eq_getElem (by rw [let_len]; exact hj)] at this
    rw [Option.some.inj this]
    simpa using h j hj
  unfold plI
  rw [hp]

set_option maxRecDepth 100000 in
set_option maxHeartbeats 1000000 in
theorem place_any (x : UInt8) (w : World) : Calls Tryz.prog 112 #[.int .u8 (x.toNat : Int)] w fun e w' => e = .returned (.int .i64 (plI x)) ∧ w' = w := by
  go_enter Tryz.func112, Tryz.ntmps112
  go_wp2
  go_loop [3] (fun v3 => ∃ i : Nat, i ≤ 64 ∧ v3 = .int .i64 (i : Int) ∧ Hid (∀ j, j < i → letN j ≠ x)) (fun v3 => 64 - (intOf v3).toNat)
  case atStart => exact ⟨0, Nat.zero_le _, rfl, hide (fun j hj => by omega)⟩
  case round =>
    obtain ⟨i, hi, rfl, hne⟩ := hrel
    by_cases hlt : i < 64
    · obtain ⟨z, hz⟩ : ∃ z, letN i = z := ⟨_, rfl⟩
      have dz := (let_at hlt).trans hz
      unfold lettersB at dz
      have hi64 : (i : Int) < 64 := by omega
      by_cases hzx : z = x
      · subst hzx
        have HP := hide (pos_found hlt (unhide hne) hz)
        clear hz
        go_wp2
        go_ret
        rw [unhide HP]
        exact ⟨rfl, rfl⟩
      · have hq : ((z.toNat : Int) == (x.toNat : Int)) = false := by
          simp
          intro e
          exact hzx (UInt8.toNat_inj.1 (by omega))
        have HN : Hid (∀ j, j < i + 1 → letN j ≠ x) := hide (fun j hj => by
          by_cases e : j = i
          · rw [e, hz]; exact hzx
          · exact unhide hne j (by omega))
        clear hz hzx
        go_wp2
        go_round
        case rel => exact ⟨i + 1, hlt, by push_cast; rfl, HN⟩
        case measure => simp [intOf]; omega
    · have hie : i = 64 := by omega
      subst hie
      have HP := hide (pos_never (unhide hne))
      clear hne
      go_wp2
      go_ret
      rw [unhide HP]
      exact ⟨rfl, rfl⟩

/-- The number of so many letters from a place on. -/
def numP (s : Bs) (i : Nat) : Nat → Nat
  | 0 => 0
  | k + 1 => numP s i k * 64 + plc (s.getD (i + k) 0)

theorem numP_lt (s : Bs) (i : Nat) : ∀ k, numP s i k < 64 ^ k
  | 0 => by show (0 : Nat) < 64 ^ 0; decide
  | k + 1 => by
    have h1 := numP_lt s i k
    have h2 := plc_lt (s.getD (i + k) 0)
    show numP s i k * 64 + _ < 64 ^ (k + 1)
    rw [Nat.pow_succ]
    omega

theorem dec_next {s : Bs} {i q : Nat} (hi : i = 4 * q) (hl : i + 4 ≤ s.length) : decG (s.take (i + 4)) = decG (s.take i) ++ dec4 (numP s i 4) := by
  have e : s.take (i + 4) = s.take i ++ (s.drop i).take 4 := by rw [List.take_add]
  rw [e, decG_app q _ _ (by rw [List.length_take]; omega)]
  congr 1
  have h4 : (s.drop i).take 4 = [s.getD i 0, s.getD (i + 1) 0, s.getD (i + 2) 0, s.getD (i + 3) 0] := by
    apply List.ext_getElem
    · simp; omega
    · intro k h1 h2
      have hk : k < 4 := by simpa using h2
      have : k = 0 ∨ k = 1 ∨ k = 2 ∨ k = 3 := by omega
      have hg : ∀ j (hj : j < 4), s.getD (i + j) 0 = s[i + j]'(by omega) := fun j hj => by
        rw [List.getD_eq_getElem?_getD, List.getElem?_eq_getElem (by omega)]; rfl
      rcases this with rfl | rfl | rfl | rfl
      · simpa using (hg 0 (by omega)).symm
      · simpa using (hg 1 (by omega)).symm
      · simpa using (hg 2 (by omega)).symm
      · simpa using (hg 3 (by omega)).symm
  rw [h4]
  show dec4 (num4 _ _ _ _) ++ [] = _
  rw [List.append_nil]
  congr 1
  unfold num4
  show _ = (((0 * 64 + plc (s.getD (i + 0) 0)) * 64 + plc (s.getD (i + 1) 0)) * 64 + plc (s.getD (i + 2) 0)) * 64 + plc (s.getD (i + 3) 0)
  rw [Nat.zero_mul, Nat.zero_add]
  rfl

theorem fills_is {s : Bs} {m : Nat} (hm : s.length = m) (h4 : 2 ≤ m) : fills s = if s.getD (m - 1) 0 = 61 then (if s.getD (m - 2) 0 = 61 then 2 else 1) else 0 := by
  have h1 : s.getLast? = some (s.getD (m - 1) 0) := by
    rw [List.getLast?_eq_getElem?, hm, List.getElem?_eq_getElem (by omega), List.getD_eq_getElem?_getD, List.getElem?_eq_getElem (by omega)]; rfl
  have h2 : s.dropLast.getLast? = some (s.getD (m - 2) 0) := by
    rw [List.getLast?_eq_getElem?, List.length_dropLast, hm, List.getElem?_dropLast, if_pos (by omega), show m - 1 - 1 = m - 2 by omega, List.getElem?_eq_getElem (by omega), List.getD_eq_getElem?_getD, List.getElem?_eq_getElem (by omega)]; rfl
  unfold fills
  rw [h1, h2]
  simp only [Option.some.injEq]

theorem from_odd {s : Bs} (h : s.length % 4 ≠ 0) : fromL s = none := from_not (fun b e => by
  obtain ⟨k, hk⟩ := b64_len4 b
  rw [e] at hk
  omega)

theorem own_front {base : Nat} {w : World} {g n cap k : Nat} {l : Bs} (h : OwnB base w (.slice (some ⟨g, 0, none⟩) n cap) l) (hk : k ≤ l.length) : OwnB base w (.slice (some ⟨g, 0, none⟩) k cap) (l.take k) := by
  rcases h.2 with ⟨e, _⟩ | ⟨g', cap', cur, e, hb, hh, h1, h2, h3, h4⟩
  · cases e
  · obtain ⟨e1, e2, e3⟩ := Value.slice.inj e
    cases e1
    subst e3
    have hlen : (l.take k).length = k := by rw [List.length_take]; omega
    refine ⟨by simp, Or.inr ⟨g, cap, cur, by rw [hlen], hb, hh, by omega, h2, h3, ?_⟩⟩
    rw [hlen, Nat.mul_one, List.map_take, ← h4, Nat.mul_one, List.take_take, Nat.min_eq_left hk]

theorem app_three {B : Nat} {w W1 : World} {v : Value} {l : Bs} {c d e : UInt8} (ho : OwnB B w v l) (hB : B ≤ w.heap.size) (hl : l.length ≤ 2147483648) (hW : w.alloc (.cells #[.int .u8 (c.toNat : Int), .int .u8 (d.toNat : Int), .int .u8 (e.toNat : Int)] 5) = W1) :
    ∃ v' w', (Builtin.append_ #[110, 110] 110 #[v, .slice (some ⟨w.heap.size, 0, none⟩) 3 3]).run Tryz.prog W1 = .ok v' w' ∧ OwnB B w' v' (l ++ [c, d, e]) ∧ GrB w w' v v' := by
  have hb : Below w.heap.size w W1 := by rw [← hW]; exact (Below.refl _ _).alloc (Nat.le_refl _) _
  have hblk : Blk W1 w.heap.size #[.int .u8 (c.toNat : Int), .int .u8 (d.toNat : Int), .int .u8 (e.toNat : Int)] 5 := by rw [← hW]; exact Blk.new _ _ _
  obtain ⟨v', w', h1, h2, h3⟩ := app_bytes (a := ⟨w.heap.size, 0, none⟩) (m := [c, d, e]) (n := 3) (c := 3) (ho.low hb) (Nat.le_trans hB hb.size) rfl (fun k hk => by
    have : k = 0 ∨ k = 1 ∨ k = 2 := by simp at hk; omega
    rcases this with rfl | rfl | rfl
    · exact hblk.cell 0
    · exact hblk.cell 1
    · exact hblk.cell 2) (by omega)
  have ha : GrB w W1 v v := by rw [← hW]; exact GrB.alloc _ _ _
  exact ⟨v', w', h1, h2, ha.trans h3⟩

set_option maxRecDepth 100000 in
set_option maxHeartbeats 1000000 in
theorem refFrom_any {w : World} {s : Bs} (hs : s.length ≤ 1000000) :
    Calls Tryz.prog 68 #[.string ⟨s.toArray⟩] w fun e w' => ∃ v, e = .returned (.tuple #[v, .int .i64 (fromE s)]) ∧ OwnB w.heap.size w' v (fromV s) ∧ Below w.heap.size w w' := by
  obtain ⟨m, hm⟩ : ∃ m, s.length = m := ⟨_, rfl⟩
  obtain ⟨S, hS⟩ : ∃ S : ByteArray, (⟨s.toArray⟩ : ByteArray) = S := ⟨_, rfl⟩
  have hsz : S.size = m := by rw [← hS]; show s.toArray.size = m; simpa using hm
  have HSA : Hid (∀ i (h1 : i < S.size), S[i]'h1 = s.getD i 0) := hide (by
    subst hS
    intro i h1
    have h2 : i < s.length := by simpa [ByteArray.size] using h1
    rw [List.getD_eq_getElem?_getD, List.getElem?_eq_getElem h2]
    rfl)
  have HSE := hide hS
  have HM := hide hm
  obtain ⟨r, hr⟩ : ∃ r, m % 4 = r := ⟨_, rfl⟩
  have er : (m : Int).tmod 4 = (r : Int) := by rw [Int.tmod_eq_emod_of_nonneg (by omega)]; omega
  have er' : (m : Int) % 4 = (r : Int) := by omega
  have hmb : m ≤ 1000000 := by omega
  rw [hS]
  clear hS hm
  by_cases hr0 : r = 0
  · subst hr0
    have er0 : (m : Int).tmod 4 = 0 := er
    have er1 : (m : Int) % 4 = 0 := er'
    clear er er'
    go_enter Tryz.func68, Tryz.ntmps68
    go_wp2
    go_loopw [4, 5, 6, 7] (fun v4 v5 _ _ wr => ∃ i q : Nat, i = 4 * q ∧ i ≤ m ∧ v5 = .int .i64 (i : Int) ∧ OwnB w.heap.size wr v4 (decG (s.take i)) ∧ Below w.heap.size w wr) (fun _ v5 _ _ _ => m - (intOf v5).toNat)
    case atStart => exact ⟨0, 0, rfl, Nat.zero_le _, rfl, World.ownsRow_nil _ _ _ _, Below.refl _ _⟩
    case round =>
      rename World => wr
      obtain ⟨i, q, hiq, him, rfl, ho, hbw⟩ := hrel
      by_cases hlt : i < m
      · have hi4 : i + 4 ≤ m := by omega
        have hnx := dec_next hiq (show i + 4 ≤ s.length by rw [unhide HM]; exact hi4)
        have hdl := decG_len q (s.take i) (by rw [List.length_take, unhide HM]; omega)
        have HNX := hide hnx
        have HO := hide ho
        have HBW := hide hbw
        have HDL := hide hdl
        have HIQ := hide hiq
        clear hnx ho hbw hdl hiq
        go_wp2
        go_loop [6, 7] (fun v6 v7 => ∃ k : Nat, k ≤ 4 ∧ v7 = .int .i64 (k : Int) ∧ v6 = .int .i64 ((numP s i k : Nat) : Int)) (fun _ v7 => 4 - (intOf v7).toNat)
        case atStart => exact ⟨0, Nat.zero_le _, rfl, rfl⟩
        case round =>
          obtain ⟨k, hk, rfl, rfl⟩ := hrel
          have hnl := numP_lt s i k
          have hnb : numP s i k < 16777217 := by
            have : k = 0 ∨ k = 1 ∨ k = 2 ∨ k = 3 ∨ k = 4 := by omega
            rcases this with rfl | rfl | rfl | rfl | rfl <;> simp at hnl <;> omega
          by_cases hk4 : k < 4
          · obtain ⟨j, hj⟩ : ∃ j, i + k = j := ⟨_, rfl⟩
            have ej : (i : Int) + (k : Int) = (j : Int) := by omega
            have hjm : j < m := by omega
            have hjS : j < S.size := by rw [hsz]; exact hjm
            have hx0 := unhide HSA j hjS
            obtain ⟨x, hx⟩ : ∃ x, s.getD j 0 = x := ⟨_, rfl⟩
            rw [hx] at hx0
            have hmx := pl_max x
            obtain ⟨PX, hPX⟩ : ∃ PX, plI x = PX := ⟨_, rfl⟩
            have HPL := hide (fun wx => place_any x wx)
            rw [hPX] at hmx HPL
            have hpc := plc_lt x
            obtain ⟨pc, hpce⟩ : ∃ pc, plc x = pc := ⟨_, rfl⟩
            rw [hpce] at hmx hpc
            obtain ⟨A, hA⟩ : ∃ A, numP s i k = A := ⟨_, rfl⟩
            rw [hA] at hnb ⊢
            obtain ⟨A6, hA6⟩ : ∃ A6, A * 64 = A6 := ⟨_, rfl⟩
            obtain ⟨A7, hA7⟩ : ∃ A7, A6 + pc = A7 := ⟨_, rfl⟩
            have e1 : (A : Int) * 64 = (A6 : Int) := by omega
            have e2 : (A6 : Int) + (pc : Int) = (A7 : Int) := by omega
            have A6b : A6 ≤ 2000000000 := by omega
            have HNE : Hid (numP s i (k + 1) = A7) := hide (by
              show numP s i k * 64 + plc (s.getD (i + k) 0) = _
              rw [hA, hj, hx, hpce]
              omega)
            clear hx hPX hpce hA hA6 hA7 hnl hj
            go_wp2_with (go_at_call 112; refine (unhide HPL _).mono ?_; rintro e wn ⟨rfl, hwn⟩; rw [hwn]; clear hwn wn)
            go_round
            case rel => exact ⟨k + 1, hk4, by push_cast; rfl, by rw [unhide HNE]⟩
            case measure => simp [intOf]; omega
          · have hke : k = 4 := by omega
            subst hke
            clear hnl
            obtain ⟨A, hA⟩ : ∃ A, numP s i 4 = A := ⟨_, rfl⟩
            have hAb : A < 16777216 := by rw [← hA]; have := numP_lt s i 4; simpa using this
            rw [hA] at HNX
            rw [hA]
            obtain ⟨x, hx⟩ : ∃ x : UInt8, UInt8.ofNat (A / 65536) = x := ⟨_, rfl⟩
            obtain ⟨y, hy⟩ : ∃ x : UInt8, UInt8.ofNat (A / 256 % 256) = x := ⟨_, rfl⟩
            obtain ⟨z, hz⟩ : ∃ x : UInt8, UInt8.ofNat (A % 256) = x := ⟨_, rfl⟩
            have xn : x.toNat = A / 65536 := by rw [← hx, UInt8.toNat_ofNat']; omega
            have yn : y.toNat = A / 256 % 256 := by rw [← hy, UInt8.toNat_ofNat']; omega
            have zn : z.toNat = A % 256 := by rw [← hz, UInt8.toNat_ofNat']; omega
            obtain ⟨p, hp⟩ : ∃ p, A / 65536 = p := ⟨_, rfl⟩
            obtain ⟨p2, hp2⟩ : ∃ p, A / 256 = p := ⟨_, rfl⟩
            have f1 : (A : Int) / 65536 = (p : Int) := by omega
            have f2 : (A : Int) / 256 = (p2 : Int) := by omega
            have g1 : IntKind.u8.wrap (p : Int) = (x.toNat : Int) := by rw [IntKind.wrap_u8]; omega
            have g2 : IntKind.u8.wrap (p2 : Int) = (y.toNat : Int) := by rw [IntKind.wrap_u8]; omega
            have g3 : IntKind.u8.wrap (A : Int) = (z.toNat : Int) := by rw [IntKind.wrap_u8]; omega
            have k1 : (p : Int) % 256 = (x.toNat : Int) := by omega
            have k2 : (p2 : Int) % 256 = (y.toNat : Int) := by omega
            have k3 : (A : Int) % 256 = (z.toNat : Int) := by omega
            have hd4 : dec4 A = [x, y, z] := by unfold dec4; rw [hx, hy, hz]
            obtain ⟨W1, hW1⟩ : ∃ W1, wr.alloc (.cells #[.int .u8 (x.toNat : Int), .int .u8 (y.toNat : Int), .int .u8 (z.toNat : Int)] 5) = W1 := ⟨_, rfl⟩
            obtain ⟨v', w', happ, hown, hgr⟩ := app_three (W1 := W1) (unhide HO) (unhide HBW).size (by rw [unhide HDL]; have := unhide HIQ; omega) hW1
            rw [← hd4, ← unhide HNX] at hown
            have HP : Hid (OwnB w.heap.size w' v' (decG (s.take (i + 4))) ∧ Below w.heap.size w w') := hide ⟨hown, (unhide HBW).trans (hgr.low (unhide HBW).size (OwnB.base (unhide HO)))⟩
            have HW1 := hide hW1
            obtain ⟨i4, hi4e⟩ : ∃ i4, i + 4 = i4 := ⟨_, rfl⟩
            have e4 : (i : Int) + 4 = (i4 : Int) := by omega
            rw [hi4e] at HP
            have HIQ2 : Hid (i4 = 4 * (q + 1)) := hide (by have := unhide HIQ; omega)
            have i4m : i4 ≤ m := by omega
            clear hA hx hy hz xn yn zn hp hp2 hd4 hW1 hown hgr hi4e
            go_wp2_with (at_builtin; rw [unhide HW1]; refine Lib.wpList_append_run _ rfl (.tmp 33) (.tmp 42) 110 110 (by rfl) u4 (.slice (some ⟨wr.heap.size, 0, none⟩) 3 3) (by kernel_rfl) (by kernel_rfl) v' w' happ ?_)
            go_roundw
            case rel => exact ⟨i4, q + 1, unhide HIQ2, i4m, rfl, (unhide HP).1, (unhide HP).2⟩
            case measure => simp [intOf]; omega
      · have hie : i = m := by omega
        subst hie
        rw [List.take_of_length_le (by rw [unhide HM]; exact Nat.le_refl _)] at ho
        have hdl := decG_len q s (by rw [unhide HM]; exact hiq)
        have hbn : b64 (unb s) ≠ s → fromL s = none := fun h => by unfold fromL; rw [if_neg h]
        have hul : (unb s).length ≤ 1000000 := by
          have : (unb s).length ≤ (decG s).length := by unfold unb; rw [List.length_take]; omega
          omega
        by_cases hm0 : i = 0
        · subst hm0
          have hs0 : s = [] := List.length_eq_zero_iff.1 (unhide HM)
          have hu0 : unb s = decG s := by rw [hs0]; rfl
          rw [← hu0] at ho
          obtain ⟨oa, oc, rfl, oat, ocap, -⟩ := OwnB.at ho
          have HB6 := hide (refB64_any (n := (unb s).length) (c := oc) rfl (by omega) oat)
          have HOF := hide (And.intro ho hbw)
          clear ho hbw oat ocap hdl hiq hs0 hu0
          go_wp2
          go_loop [4, 8] (fun v4 v8 => v8 = .int .i64 0 ∧ v4 = .slice oa (unb s).length oc) (fun _ _ => 0)
          case atStart => exact ⟨rfl, rfl⟩
          case round =>
            obtain ⟨rfl, rfl⟩ := hrel
            by_cases hb : b64 (unb s) = s
            · have HE : Hid (fromE s = 0 ∧ fromV s = unb s) := hide ⟨by unfold fromE; rw [from_is hb]; rfl, by unfold fromV; rw [from_is hb]; rfl⟩
              rw [hb, unhide HSE] at HB6
              clear hb hbn
              go_wp2_with (go_at_call 113; fail)
              refine (unhide HB6).mono ?_
              rintro e w2 ⟨rfl, b2⟩
              have HR2 := hide (And.intro (OwnB.low (unhide HOF).1 b2) (low_trans (unhide HOF).2 b2))
              clear b2
              go_wp2
              go_ret2
              rw [(unhide HE).1, (unhide HE).2]
              exact ⟨_, rfl, (unhide HR2).1, (unhide HR2).2⟩
            · have HE : Hid (fromE s = 15 ∧ fromV s = []) := hide ⟨by unfold fromE; rw [hbn hb]; rfl, by unfold fromV; rw [hbn hb]; rfl⟩
              obtain ⟨T, hT⟩ : ∃ T : ByteArray, (⟨(b64 (unb s)).toArray⟩ : ByteArray) = T := ⟨_, rfl⟩
              have hTS : (T.toList == S.toList) = false := by
                rw [← hT, ← unhide HSE, ByteArray.toList_mk, ByteArray.toList_mk]
                simpa using hb
              rw [hT] at HB6
              clear hb hbn hT
              go_wp2_with (go_at_call 113; fail)
              refine (unhide HB6).mono ?_
              rintro e w2 ⟨rfl, b2⟩
              have HR2 := hide (low_trans (unhide HOF).2 b2)
              clear b2
              go_wp2
              go_ret2
              rw [(unhide HE).1, (unhide HE).2]
              exact ⟨.slice none 0 0, rfl, World.ownsRow_nil _ _ _ _, unhide HR2⟩
        · have hi4 : 4 ≤ i := by omega
          have hfi := fills_is (unhide HM) (by omega)
          obtain ⟨g, cap, rfl⟩ := own_form ho (by omega)
          obtain ⟨L, hL⟩ : ∃ L, (decG s).length = L := ⟨_, rfl⟩
          rw [hL] at ho hdl ⊢
          obtain ⟨F, hF⟩ : ∃ F, fills s = F := ⟨_, rfl⟩
          have hF2 : F ≤ 2 := by rw [← hF, hfi]; split <;> (try split) <;> omega
          obtain ⟨Z, hZ⟩ : ∃ Z, L - F = Z := ⟨_, rfl⟩
          have hunb : unb s = (decG s).take Z := by unfold unb; rw [hL, hF, hZ]
          have hof := own_front (k := Z) ho (by omega)
          rw [← hunb] at hof
          have hul2 : (unb s).length = Z := by rw [hunb, List.length_take]; omega
          obtain ⟨-, -, -, hcapL⟩ := own_free (k := 0) ho
          obtain ⟨oa, oc, hov, oat, ocap, -⟩ := OwnB.at hof
          obtain ⟨hoa, -, hoc⟩ := Value.slice.inj hov
          rw [← hoa] at oat
          have HB6 := hide (refB64_any (n := Z) (c := cap) hul2 (by omega) oat)
          have HOF := hide (And.intro hof hbw)
          obtain ⟨x1, hx1⟩ : ∃ x, s.getD (i - 1) 0 = x := ⟨_, rfl⟩
          obtain ⟨x2, hx2⟩ : ∃ x, s.getD (i - 2) 0 = x := ⟨_, rfl⟩
          rw [hF, hx1, hx2] at hfi
          obtain ⟨j1, hj1⟩ : ∃ j, i - 1 = j := ⟨_, rfl⟩
          obtain ⟨j2, hj2⟩ : ∃ j, i - 2 = j := ⟨_, rfl⟩
          have hS1 : j1 < S.size := by rw [hsz]; omega
          have hS2 : j2 < S.size := by rw [hsz]; omega
          have d1 := unhide HSA j1 hS1
          have d2 := unhide HSA j2 hS2
          rw [hj1] at hx1
          rw [hj2] at hx2
          rw [hx1] at d1
          rw [hx2] at d2
          have s1 : (i : Int) - 1 = (j1 : Int) := by omega
          have s2 : (j1 : Int) - 1 = (j2 : Int) := by omega
          have s0 : (j1 : Int) - 0 = (j1 : Int) := by omega
          have t1 : j1 < i := by omega
          have t2 : j2 < i := by omega
          have hLb : L ≤ 3000000 := by omega
          have hL3 : 3 ≤ L := by omega
          have x1e : ((x1.toNat : Int) == 61) = decide (x1 = 61) := by
            have : ((61 : UInt8).toNat : Int) = 61 := rfl
            by_cases e : x1 = 61
            · subst e; rfl
            · rw [decide_eq_false e]; simp; intro h; exact e (UInt8.toNat_inj.1 (by show x1.toNat = 61; omega))
          have x2e : ((x2.toNat : Int) == 61) = decide (x2 = 61) := by
            have : ((61 : UInt8).toNat : Int) = 61 := rfl
            by_cases e : x2 = 61
            · subst e; rfl
            · rw [decide_eq_false e]; simp; intro h; exact e (UInt8.toNat_inj.1 (by show x2.toNat = 61; omega))
          have HFI := hide hfi
          clear ho hbw hof oat ocap hov hoa hoc hL hF hunb hx1 hx2 hj1 hj2 hfi hiq hul2
          go_wp2
          go_loop [4, 8] (fun v4 v8 => ∃ k Lk : Nat, k ≤ F ∧ k + Lk = L ∧ v8 = .int .i64 (k : Int) ∧ v4 = .slice (some ⟨g, 0, none⟩) Lk cap) (fun _ v8 => F - (intOf v8).toNat)
          case atStart => exact ⟨0, L, Nat.zero_le _, by omega, rfl, rfl⟩
          case round =>
            obtain ⟨k, Lk, hkF, hkL, rfl, rfl⟩ := hrel
            have hk3 : k = 0 ∨ k = 1 ∨ k = 2 := by omega
            by_cases hlt : k < F
            · obtain ⟨L1, hL1⟩ : ∃ L1, Lk - 1 = L1 := ⟨_, rfl⟩
              have l1 : (Lk : Int) - 1 = (L1 : Int) := by omega
              have l2 : L1 ≤ cap := by omega
              have l3 : Hid (k + 1 + L1 = L) := hide (by omega)
              have l4 : Lk ≤ 3000000 := by omega
              have l5 : L1 ≤ Lk := by omega
              have hfi := unhide HFI
              rcases hk3 with rfl | rfl | rfl
              · have hx61 : x1 = 61 := by
                  apply Classical.byContradiction
                  intro h
                  rw [if_neg h] at hfi
                  omega
                have y1 : ((x1.toNat : Int) == 61) = true := by rw [x1e]; simpa using hx61
                clear hL1 x1e x2e hfi hx61 hkL
                go_wp2
                go_round
                case rel => exact ⟨1, L1, hlt, by have := unhide l3; omega, rfl, rfl⟩
                case measure => simp [intOf]; omega
              · have hx61 : x1 = 61 ∧ x2 = 61 := by
                  by_cases h1 : x1 = 61
                  · rw [if_pos h1] at hfi
                    by_cases h2 : x2 = 61
                    · exact ⟨h1, h2⟩
                    · rw [if_neg h2] at hfi; omega
                  · rw [if_neg h1] at hfi; omega
                have y2 : ((x2.toNat : Int) == 61) = true := by rw [x2e]; simpa using hx61.2
                clear hL1 x1e x2e hfi hx61 hkL
                go_wp2
                go_round
                case rel => exact ⟨2, L1, hlt, by have := unhide l3; omega, rfl, rfl⟩
                case measure => simp [intOf]; omega
              · omega
            · have hkF2 : k = F := by omega
              have hLZ : Lk = Z := by omega
              subst hLZ
              subst hkF2
              have hfi := unhide HFI
              have y1 : k = 0 → ((x1.toNat : Int) == 61) = false := fun e => by
                rw [x1e]
                apply decide_eq_false
                intro h
                rw [if_pos h] at hfi
                split at hfi <;> omega
              have y2 : k = 1 → ((x2.toNat : Int) == 61) = false := fun e => by
                rw [x2e]
                apply decide_eq_false
                intro h
                by_cases h1 : x1 = 61
                · rw [if_pos h1, if_pos h] at hfi; omega
                · rw [if_neg h1] at hfi; omega
              clear hfi x1e x2e HFI hlt hZ hkL hkF
              by_cases hb : b64 (unb s) = s
              · have HE : Hid (fromE s = 0 ∧ fromV s = unb s) := hide ⟨by unfold fromE; rw [from_is hb]; rfl, by unfold fromV; rw [from_is hb]; rfl⟩
                rw [hb, unhide HSE] at HB6
                clear hb hbn
                rcases hk3 with rfl | rfl | rfl
                · have z1 := y1 rfl
                  clear y1 y2
                  go_wp2_with (go_at_call 113; fail)
                  refine (unhide HB6).mono ?_
                  rintro e w2 ⟨rfl, b2⟩
                  have HR2 := hide (And.intro (OwnB.low (unhide HOF).1 b2) (low_trans (unhide HOF).2 b2))
                  clear b2
                  go_wp2
                  go_ret2
                  rw [(unhide HE).1, (unhide HE).2]
                  exact ⟨_, rfl, (unhide HR2).1, (unhide HR2).2⟩
                · have z2 := y2 rfl
                  clear y1 y2
                  go_wp2_with (go_at_call 113; fail)
                  refine (unhide HB6).mono ?_
                  rintro e w2 ⟨rfl, b2⟩
                  have HR2 := hide (And.intro (OwnB.low (unhide HOF).1 b2) (low_trans (unhide HOF).2 b2))
                  clear b2
                  go_wp2
                  go_ret2
                  rw [(unhide HE).1, (unhide HE).2]
                  exact ⟨_, rfl, (unhide HR2).1, (unhide HR2).2⟩
                · clear y1 y2
                  go_wp2_with (go_at_call 113; fail)
                  refine (unhide HB6).mono ?_
                  rintro e w2 ⟨rfl, b2⟩
                  have HR2 := hide (And.intro (OwnB.low (unhide HOF).1 b2) (low_trans (unhide HOF).2 b2))
                  clear b2
                  go_wp2
                  go_ret2
                  rw [(unhide HE).1, (unhide HE).2]
                  exact ⟨_, rfl, (unhide HR2).1, (unhide HR2).2⟩
              · have HE : Hid (fromE s = 15 ∧ fromV s = []) := hide ⟨by unfold fromE; rw [hbn hb]; rfl, by unfold fromV; rw [hbn hb]; rfl⟩
                obtain ⟨T, hT⟩ : ∃ T : ByteArray, (⟨(b64 (unb s)).toArray⟩ : ByteArray) = T := ⟨_, rfl⟩
                have hTS : (T.toList == S.toList) = false := by
                  rw [← hT, ← unhide HSE, ByteArray.toList_mk, ByteArray.toList_mk]
                  simpa using hb
                rw [hT] at HB6
                clear hb hbn hT
                rcases hk3 with rfl | rfl | rfl
                · have z1 := y1 rfl
                  clear y1 y2
                  go_wp2_with (go_at_call 113; fail)
                  refine (unhide HB6).mono ?_
                  rintro e w2 ⟨rfl, b2⟩
                  have HR2 := hide (low_trans (unhide HOF).2 b2)
                  clear b2
                  go_wp2
                  go_ret2
                  rw [(unhide HE).1, (unhide HE).2]
                  exact ⟨.slice none 0 0, rfl, World.ownsRow_nil _ _ _ _, unhide HR2⟩
                · have z2 := y2 rfl
                  clear y1 y2
                  go_wp2_with (go_at_call 113; fail)
                  refine (unhide HB6).mono ?_
                  rintro e w2 ⟨rfl, b2⟩
                  have HR2 := hide (low_trans (unhide HOF).2 b2)
                  clear b2
                  go_wp2
                  go_ret2
                  rw [(unhide HE).1, (unhide HE).2]
                  exact ⟨.slice none 0 0, rfl, World.ownsRow_nil _ _ _ _, unhide HR2⟩
                · clear y1 y2
                  go_wp2_with (go_at_call 113; fail)
                  refine (unhide HB6).mono ?_
                  rintro e w2 ⟨rfl, b2⟩
                  have HR2 := hide (low_trans (unhide HOF).2 b2)
                  clear b2
                  go_wp2
                  go_ret2
                  rw [(unhide HE).1, (unhide HE).2]
                  exact ⟨.slice none 0 0, rfl, World.ownsRow_nil _ _ _ _, unhide HR2⟩
  · have hr0' : ((r : Int) != 0) = true := by simp; omega
    have hq : ¬ (r : Int) = 0 := by omega
    have hn0 := from_odd (s := s) (by rw [unhide HM]; omega)
    have HE : Hid (fromE s = 15 ∧ fromV s = []) := hide ⟨by unfold fromE; rw [hn0]; rfl, by unfold fromV; rw [hn0]; rfl⟩
    clear hn0 hr0 hr
    go_enter Tryz.func68, Tryz.ntmps68
    go_wp2
    go_ret2
    rw [(unhide HE).1, (unhide HE).2]
    exact ⟨.slice none 0 0, rfl, World.ownsRow_nil _ _ _ _, Below.refl _ _⟩

end Go.Proofs.YthcafeoamabkgaaGreatDoor
