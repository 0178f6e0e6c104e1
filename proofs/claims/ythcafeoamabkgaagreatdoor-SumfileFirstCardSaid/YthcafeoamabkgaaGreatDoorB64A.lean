/-
  Rows of bytes; base64 as plain functions.
-/
import Derived.Test.YthcafeoamabkgaaGreatDoorMatX
import Derived.Test.YthcafeoamabkgaaGreatDoorLineX
namespace Go.Proofs.YthcafeoamabkgaaGreatDoor
open Go.RowKit

abbrev Bs := List UInt8

/-- Bytes lie at a slice. -/
structure BAt (w : World) (a : Option Addr) (xs : Bs) : Prop where
  els : xs = [] ∨ ∃ B O, a = some ⟨B, O, none⟩ ∧ ∀ k (hk : k < xs.length), w.cell? ⟨B, O + k, none⟩ = some (.int .u8 (xs[k].toNat : Int))

theorem BAt.low {w w' : World} {a : Option Addr} {xs : Bs} (h : BAt w a xs) (hb : Below w.heap.size w w') : BAt w' a xs := by
  rcases h.els with h0 | ⟨B, O, ha, he⟩
  · exact ⟨Or.inl h0⟩
  · exact ⟨Or.inr ⟨B, O, ha, fun k hk => (hb.cell (lt_of_cell (he k hk))).trans (he k hk)⟩⟩

theorem BAt.at {w : World} {a : Option Addr} {xs : Bs} (h : BAt w a xs) {k : Nat} (hk : k < xs.length) : ∃ B O, a = some ⟨B, O, none⟩ ∧ w.cell? ⟨B, O + k, none⟩ = some (.int .u8 (xs[k].toNat : Int)) := by
  rcases h.els with h0 | ⟨B, O, ha, he⟩
  · rw [h0] at hk; simp at hk
  · exact ⟨B, O, ha, he k hk⟩

theorem Blk.drew {w : World} {b : Nat} {cs : Array Value} {t : TypeId} (h : Blk w b cs t) : Blk w.drew b cs t := h

theorem u8_lt (c : UInt8) : c.toNat < 256 := UInt8.toNat_lt c

theorem wrapI (a : Nat) (ha : a < 67108864) : IntKind.i64.wrap (a : Int) = (a : Int) := by rw [IntKind.wrap_i64]; omega

def byteV (c : UInt8) : Value := .int .u8 (c.toNat : Int)

/-- A row of bytes. -/
abbrev OwnB (base : Nat) (w : World) (v : Value) (l : Bs) : Prop := w.ownsRow base 5 1 v l.length (l.map byteV)

/-- What a call leaves that may write into one row alone. -/
structure GrB (w w' : World) (v v' : Value) : Prop where
  os : w'.os = w.os
  tape : w'.tape = w.tape
  output : w'.output = w.output
  size : w.heap.size ≤ w'.heap.size
  block : ∀ k, k < w.heap.size → some k ≠ v.ownBlock → w'.heap[k]? = w.heap[k]?
  own : v'.ownBlock = v.ownBlock ∨ ∃ g, v'.ownBlock = some g ∧ w.heap.size ≤ g

theorem GrB.refl (w : World) (v : Value) : GrB w w v v := ⟨rfl, rfl, rfl, Nat.le_refl _, fun _ _ _ => rfl, Or.inl rfl⟩

theorem GrB.trans {a b c : World} {u v x : Value} (h : GrB a b u v) (k : GrB b c v x) : GrB a c u x := by
  refine ⟨k.os.trans h.os, k.tape.trans h.tape, k.output.trans h.output, Nat.le_trans h.size k.size, fun i hi hne => ?_, ?_⟩
  · have hv : some i ≠ v.ownBlock := by
      rcases h.own with e | ⟨g, e, hg⟩
      · rw [e]; exact hne
      · rw [e]; intro hh; cases hh; omega
    exact (k.block i (Nat.lt_of_lt_of_le hi h.size) hv).trans (h.block i hi hne)
  · rcases k.own with e | ⟨g, e, hg⟩
    · rw [e]; exact h.own
    · exact Or.inr ⟨g, e, Nat.le_trans h.size hg⟩

theorem GrB.drew {a b : World} {u v : Value} (h : GrB a b u v) : GrB a b.drew u v := ⟨h.os, h.tape, h.output, h.size, h.block, h.own⟩

theorem GrB.alloc (w : World) (o : Obj) (v : Value) : GrB w (w.alloc o) v v := ⟨rfl, rfl, rfl, by simp, fun k hk _ => Below.heap_alloc _ _ _ hk, Or.inl rfl⟩

/-- Seen from a base below the row nothing has turned. -/
theorem GrB.low {B : Nat} {a b : World} {u v : Value} (h : GrB a b u v) (hB : B ≤ a.heap.size) (hu : ∀ g, u.ownBlock = some g → B ≤ g) : Below B a b :=
  ⟨h.os, h.tape, h.output, h.size, fun k hk => h.block k (by omega) (fun e => by have := hu k e.symm; omega)⟩

theorem info5 : (Tryz.prog.info? 5).map (fun i => (i.zero, i.size, i.bytes)) = some (some (.int .u8 0), 1, 1) := by kernel_rfl

theorem OwnB.base {B : Nat} {w : World} {v : Value} {l : Bs} (h : OwnB B w v l) : ∀ g, v.ownBlock = some g → B ≤ g := by
  intro g hg
  rcases h.2 with ⟨rfl, _⟩ | ⟨g', cap, cur, rfl, hb, _⟩
  · cases hg
  · cases hg; exact hb

theorem OwnB.at {B : Nat} {w : World} {v : Value} {l : Bs} (h : OwnB B w v l) : ∃ a c, v = .slice a l.length c ∧ BAt w a l ∧ l.length ≤ c ∧ c ≤ maxLen := by
  rcases h.2 with ⟨rfl, h0⟩ | ⟨g, cap, cur, rfl, hb, hblk, hcap, hcm, hcs, hcur⟩
  · exact ⟨none, 0, by rw [h0], ⟨Or.inl (List.length_eq_zero_iff.1 h0)⟩, by omega, by omega⟩
  · refine ⟨_, cap, rfl, ⟨Or.inr ⟨g, 0, rfl, fun k hk => ?_⟩⟩, hcap, hcm⟩
    have h1 : cur.toList[k]? = (l.map byteV)[k]? := by rw [← hcur, List.getElem?_take_of_lt (by omega)]
    have h2 : cur[k]? = cur.toList[k]? := by simp
    rw [Nat.zero_add, Lib.cell_of_heap hblk, h2, h1]
    simp [hk, byteV]

theorem OwnB.keep {B : Nat} {w w' : World} {v : Value} {l : Bs} (h : OwnB B w v l) (hk : ∀ g, v.ownBlock = some g → w'.heap[g]? = w.heap[g]?) : OwnB B w' v l := by
  refine ⟨h.1, h.2.imp id ?_⟩
  rintro ⟨g, cap, cur, rfl, hb, hblk, hr⟩
  exact ⟨g, cap, cur, rfl, hb, (hk g rfl).trans hblk, hr⟩

theorem OwnB.lt {B : Nat} {w : World} {v : Value} {l : Bs} (h : OwnB B w v l) : ∀ g, v.ownBlock = some g → g < w.heap.size := by
  intro g hg
  rcases h.2 with ⟨rfl, _⟩ | ⟨g', cap, cur, rfl, hb, hblk, _⟩
  · cases hg
  · cases hg; exact (Array.getElem?_eq_some_iff.1 hblk).1

theorem OwnB.low {B : Nat} {w w' : World} {v : Value} {l : Bs} (h : OwnB B w v l) (hb : Below w.heap.size w w') : OwnB B w' v l := h.keep fun g hg => hb.block g (h.lt g hg)

theorem ownB_cat {B : Nat} {w : World} {v : Value} {l m : Bs} (h : w.ownsRow B 5 1 v (l.length + m.length) (l.map byteV ++ m.map byteV)) : OwnB B w v (l ++ m) := by
  unfold OwnB
  rw [List.map_append, List.length_append]
  exact h

theorem byteV_one (l : Bs) : ∀ u ∈ l.map byteV, u.oneCell' = true := by
  intro u hu
  obtain ⟨c, _, rfl⟩ := List.mem_map.1 hu
  rfl

/-- append of bytes that lie somewhere onto a row. -/
theorem app_bytes {B : Nat} {w : World} {v : Value} {l m : Bs} {a : Addr} {n c : Nat} (ho : OwnB B w v l) (hB : B ≤ w.heap.size) (hn : m.length = n) (hm : ∀ k (hk : k < m.length), w.cell? (a.add k) = some (byteV m[k])) (hl : l.length + n ≤ 4294967296) :
    ∃ v' w', (Builtin.append_ #[110, 110] 110 #[v, .slice (some a) n c]).run Tryz.prog w = .ok v' w' ∧ OwnB B w' v' (l ++ m) ∧ GrB w w' v v' := by
  obtain ⟨i0, hi, hz0, hz1, hz2⟩ := info_parts info5
  subst hn
  obtain ⟨v', w', h1, h2, h3, _, h5⟩ := run_append_own_at (P := Tryz.prog) w B 110 110 5 i0 _ 1 1 Tryz.underlying110 hi hz0 hz1 hz2 rfl (by decide) v l.length (l.map byteV) ho a m.length c (m.map byteV) (by simp) (fun j u hu => by
    rw [List.getElem?_map] at hu
    by_cases hj : j < m.length
    · rw [List.getElem?_eq_getElem hj] at hu
      simp only [Option.map_some, Option.some.injEq] at hu
      rw [← hu]
      exact hm j hj
    · rw [List.getElem?_eq_none (by omega)] at hu
      cases hu) (byteV_one m) (by unfold maxLen; omega) (by omega) hB
  refine ⟨v', w', h1, ownB_cat h2, ⟨h3.os, h3.tape, h3.output, h3.size, fun k hk hne => h3.block k hk hne, ?_⟩⟩
  rcases h5 with e | e
  · exact Or.inl e
  · exact Or.inr ⟨_, e, Nat.le_refl _⟩

def lettersB : ByteArray := ⟨#[65, 66, 67, 68, 69, 70, 71, 72, 73, 74, 75, 76, 77, 78, 79, 80, 81, 82, 83, 84, 85, 86, 87, 88, 89, 90, 97, 98, 99, 100, 101, 102, 103, 104, 105, 106, 107, 108, 109, 110, 111, 112, 113, 114, 115, 116, 117, 118, 119, 120, 121, 122, 48, 49, 50, 51, 52, 53, 54, 55, 56, 57, 43, 47]⟩

/-- A letter. -/
def letN (n : Nat) : UInt8 := lettersB.data.toList.getD n 0

/-- Three bytes as a number. -/
def num3 (a b c : UInt8) : Nat := a.toNat * 65536 + b.toNat * 256 + c.toNat

/-- So many letters of a number. -/
def lets (n k : Nat) : Bs := ([letN (n / 262144 % 64), letN (n / 4096 % 64), letN (n / 64 % 64), letN (n % 64)]).take k

/-- One to three bytes as four letters. -/
def grp : Bs → Bs
  | [a] => lets (num3 a 0 0) 2 ++ [61, 61]
  | [a, b] => lets (num3 a b 0) 3 ++ [61]
  | [a, b, c] => lets (num3 a b c) 4
  | _ => []

/-- Bytes as letters. -/
def b64 : Bs → Bs
  | [] => []
  | [a] => grp [a]
  | [a, b] => grp [a, b]
  | a :: b :: c :: r => grp [a, b, c] ++ b64 r

theorem grp_len (g : Bs) (h1 : 1 ≤ g.length) (h3 : g.length ≤ 3) : (grp g).length = 4 := by
  match g, h1, h3 with
  | [a], _, _ => rfl
  | [a, b], _, _ => rfl
  | [a, b, c], _, _ => rfl

/-- Where a letter stands. -/
def posN (c : UInt8) : Option Nat := lettersB.data.toList.findIdx? (· == c)

theorem pos_let {n : Nat} (h : n < 64) : posN (letN n) = some n := by
  have : ∀ i : Fin 64, posN (letN i.1) = some i.1 := by decide +kernel
  exact this ⟨n, h⟩

theorem let_ne {n : Nat} (h : n < 64) : letN n ≠ 61 := by
  have : ∀ i : Fin 64, letN i.1 ≠ 61 := by decide +kernel
  exact this ⟨n, h⟩

theorem pos_lt {c : UInt8} {n : Nat} (h : posN c = some n) : n < 64 := by
  unfold posN at h
  have h2 := (List.findIdx?_eq_some_iff_getElem.1 h).1
  exact h2

theorem ofNat_toNat {a : UInt8} {n : Nat} (h : n = a.toNat) : UInt8.ofNat n = a := by rw [h]; simp

/-- A letter's place; of what is none: 0. -/
def plc (c : UInt8) : Nat := (posN c).getD 0

theorem plc_let {n : Nat} (h : n < 64) : plc (letN n) = n := by unfold plc; rw [pos_let h]; rfl

theorem plc_fill : plc 61 = 0 := by decide +kernel

theorem plc_lt (c : UInt8) : plc c < 64 := by
  unfold plc
  cases h : posN c with
  | none => decide
  | some n => exact pos_lt h

/-- Four letters as three bytes. -/
def num4 (a b c d : UInt8) : Nat := ((plc a * 64 + plc b) * 64 + plc c) * 64 + plc d

def dec4 (n : Nat) : Bs := [UInt8.ofNat (n / 65536), UInt8.ofNat (n / 256 % 256), UInt8.ofNat (n % 256)]

def decG : Bs → Bs
  | a :: b :: c :: d :: r => dec4 (num4 a b c d) ++ decG r
  | _ => []

/-- How many signs are laid behind it, no more than two. -/
def fills (s : Bs) : Nat := if s.getLast? = some 61 then (if s.dropLast.getLast? = some 61 then 2 else 1) else 0

/-- Letters as bytes. -/
def unb (s : Bs) : Bs := (decG s).take ((decG s).length - fills s)

/-- The bytes whose letters a text is. -/
def fromL (s : Bs) : Option Bs := if b64 (unb s) = s then some (unb s) else none

theorem decG_app : ∀ (k : Nat) (x y : Bs), x.length = 4 * k → decG (x ++ y) = decG x ++ decG y
  | 0, x, y, h => by
    have : x = [] := List.length_eq_zero_iff.1 (by omega)
    subst this
    rfl
  | k + 1, x, y, h => by
    match x, h with
    | a :: b :: c :: d :: r, h =>
      have hr : r.length = 4 * k := by simp at h; omega
      show dec4 (num4 a b c d) ++ decG (r ++ y) = (dec4 (num4 a b c d) ++ decG r) ++ decG y
      rw [decG_app k r y hr, List.append_assoc]
    | [], h => simp at h
    | [_], h => simp at h; omega
    | [_, _], h => simp at h; omega
    | [_, _, _], h => simp at h; omega

theorem decG_len : ∀ (k : Nat) (x : Bs), x.length = 4 * k → (decG x).length = 3 * k
  | 0, x, h => by
    have : x = [] := List.length_eq_zero_iff.1 (by omega)
    subst this
    rfl
  | k + 1, x, h => by
    match x, h with
    | a :: b :: c :: d :: r, h =>
      have := decG_len k r (by simp at h; omega)
      show (dec4 (num4 a b c d) ++ decG r).length = _
      rw [List.length_append, this]
      simp [dec4]
      omega
    | [], h => simp at h
    | [_], h => simp at h; omega
    | [_, _], h => simp at h; omega
    | [_, _, _], h => simp at h; omega

theorem b64_len4 : ∀ (b : Bs), ∃ k, (b64 b).length = 4 * k
  | [] => ⟨0, rfl⟩
  | [a] => ⟨1, grp_len [a] (by simp) (by simp)⟩
  | [a, b] => ⟨1, grp_len [a, b] (by simp) (by simp)⟩
  | a :: b :: c :: r => by
    obtain ⟨k, hk⟩ := b64_len4 r
    refine ⟨k + 1, ?_⟩
    show (grp [a, b, c] ++ b64 r).length = _
    rw [List.length_append, hk, grp_len _ (by simp) (by simp)]
    omega

theorem dec_three (a b c : UInt8) : decG (grp [a, b, c]) = [a, b, c] := by
  have ha := UInt8.toNat_lt a
  have hb := UInt8.toNat_lt b
  have hc := UInt8.toNat_lt c
  show dec4 (num4 (letN (num3 a b c / 262144 % 64)) (letN (num3 a b c / 4096 % 64)) (letN (num3 a b c / 64 % 64)) (letN (num3 a b c % 64))) ++ [] = _
  unfold num4
  rw [plc_let (Nat.mod_lt _ (by decide)), plc_let (Nat.mod_lt _ (by decide)), plc_let (Nat.mod_lt _ (by decide)), plc_let (Nat.mod_lt _ (by decide))]
  unfold num3 dec4
  obtain ⟨n, hn⟩ : ∃ n, a.toNat * 65536 + b.toNat * 256 + c.toNat = n := ⟨_, rfl⟩
  rw [hn, ofNat_toNat (a := a) (by omega), ofNat_toNat (a := b) (by omega), ofNat_toNat (a := c) (by omega)]
  rfl

theorem dec_two (a b : UInt8) : ∃ x, decG (grp [a, b]) = [a, b, x] := by
  have ha := UInt8.toNat_lt a
  have hb := UInt8.toNat_lt b
  have z : (0 : UInt8).toNat = 0 := rfl
  show ∃ x, dec4 (num4 (letN (num3 a b 0 / 262144 % 64)) (letN (num3 a b 0 / 4096 % 64)) (letN (num3 a b 0 / 64 % 64)) 61) ++ [] = _
  unfold num4
  rw [plc_let (Nat.mod_lt _ (by decide)), plc_let (Nat.mod_lt _ (by decide)), plc_let (Nat.mod_lt _ (by decide)), plc_fill]
  unfold num3 dec4
  rw [z]
  obtain ⟨n, hn⟩ : ∃ n, a.toNat * 65536 + b.toNat * 256 + 0 = n := ⟨_, rfl⟩
  rw [hn, ofNat_toNat (a := a) (by omega), ofNat_toNat (a := b) (by omega)]
  exact ⟨_, rfl⟩

theorem dec_one (a : UInt8) : ∃ x y, decG (grp [a]) = [a, x, y] := by
  have ha := UInt8.toNat_lt a
  have z : (0 : UInt8).toNat = 0 := rfl
  show ∃ x y, dec4 (num4 (letN (num3 a 0 0 / 262144 % 64)) (letN (num3 a 0 0 / 4096 % 64)) 61 61) ++ [] = _
  unfold num4
  rw [plc_let (Nat.mod_lt _ (by decide)), plc_let (Nat.mod_lt _ (by decide)), plc_fill]
  unfold num3 dec4
  rw [z]
  obtain ⟨n, hn⟩ : ∃ n, a.toNat * 65536 + 0 * 256 + 0 = n := ⟨_, rfl⟩
  rw [hn, ofNat_toNat (a := a) (by omega)]
  exact ⟨_, _, rfl⟩

theorem fills_app {x y : Bs} (hy : 2 ≤ y.length) : fills (x ++ y) = fills y := by
  unfold fills
  have h1 : y ≠ [] := by intro e; rw [e] at hy; simp at hy
  have h2 : y.dropLast ≠ [] := by
    intro e
    have := congrArg List.length e
    simp at this
    omega
  have h3 : ∀ (a b : Bs), b ≠ [] → (a ++ b).getLast? = b.getLast? := fun a b hb => by
    rw [List.getLast?_append]
    cases e : b.getLast? with
    | none => exact absurd (List.getLast?_eq_none_iff.1 e) hb
    | some z => rfl
  rw [h3 _ _ h1, List.dropLast_append_of_ne_nil h1, h3 _ _ h2]

theorem unb_app {k : Nat} {x y : Bs} (hx : x.length = 4 * k) (hy : y.length = 4) : unb (x ++ y) = decG x ++ unb y := by
  unfold unb
  have h2 : fills y ≤ 2 := by unfold fills; split <;> (try split) <;> omega
  have hl := decG_len 1 y (by omega)
  rw [fills_app (by omega), decG_app k x y hx, List.length_append, Nat.add_sub_assoc (by omega), List.take_length_add_append]

theorem unb_grp {g : Bs} (h1 : 1 ≤ g.length) (h3 : g.length ≤ 3) : unb (grp g) = g := by
  have e1 : ∀ n, letN (n % 64) ≠ 61 := fun n => let_ne (Nat.mod_lt _ (by decide))
  match g, h1, h3 with
  | [a], _, _ =>
    obtain ⟨x, y, h⟩ := dec_one a
    unfold unb
    rw [h]
    have : fills (grp [a]) = 2 := by simp [fills, grp, lets]
    rw [this]
    rfl
  | [a, b], _, _ =>
    obtain ⟨x, h⟩ := dec_two a b
    unfold unb
    rw [h]
    have : fills (grp [a, b]) = 1 := by simp [fills, grp, lets, e1]
    rw [this]
    rfl
  | [a, b, c], _, _ =>
    unfold unb
    rw [dec_three]
    have : fills (grp [a, b, c]) = 0 := by simp [fills, grp, lets, e1]
    rw [this]
    rfl

/-- What is written is read back. -/
theorem unb_b64 : ∀ (b : Bs), unb (b64 b) = b
  | [] => rfl
  | [a] => unb_grp (g := [a]) (by simp) (by simp)
  | [a, b] => unb_grp (g := [a, b]) (by simp) (by simp)
  | [a, b, c] => by
    show unb (grp [a, b, c] ++ []) = _
    rw [List.append_nil]
    exact unb_grp (by simp) (by simp)
  | a :: b :: c :: d :: r => by
    have ih := unb_b64 (d :: r)
    show unb (grp [a, b, c] ++ b64 (d :: r)) = _
    obtain ⟨k, hk⟩ := b64_len4 (d :: r)
    have hk1 : 1 ≤ k := by
      apply Classical.byContradiction
      intro hc
      have h0 : b64 (d :: r) = [] := List.length_eq_zero_iff.1 (by omega)
      have : unb (b64 (d :: r)) = [] := by rw [h0]; rfl
      rw [ih] at this
      cases this
    -- the last four letters
    obtain ⟨p, q, hpq, hp, hq⟩ : ∃ p q, b64 (d :: r) = p ++ q ∧ p.length = 4 * (k - 1) ∧ q.length = 4 :=
      ⟨(b64 (d :: r)).take (4 * (k - 1)), (b64 (d :: r)).drop (4 * (k - 1)), (List.take_append_drop _ _).symm, by rw [List.length_take]; omega, by rw [List.length_drop]; omega⟩
    rw [hpq] at ih ⊢
    rw [unb_app hp hq] at ih
    have hg : (grp [a, b, c]).length = 4 := grp_len _ (by simp) (by simp)
    rw [← List.append_assoc, unb_app (k := k - 1 + 1) (by rw [List.length_append, hg, hp]; omega) hq, decG_app 1 _ _ (by omega), List.append_assoc, ih, dec_three]
    rfl

theorem from_b64 (b : Bs) : fromL (b64 b) = some b := by unfold fromL; rw [unb_b64, if_pos rfl]

theorem from_some {s b : Bs} (h : fromL s = some b) : b64 b = s := by
  unfold fromL at h
  split at h
  · cases h; assumption
  · cases h

theorem from_is {s b : Bs} (h : b64 b = s) : fromL s = some b := by rw [← h]; exact from_b64 b

theorem from_not {s : Bs} (h : ∀ b, b64 b ≠ s) : fromL s = none := by
  cases e : fromL s with
  | none => rfl
  | some b => exact absurd (from_some e) (h b)

theorem ready_step {P : Program} {md : Region.Mode} {ops : Array Oper} {Q : Exit → Act → World → Prop} {fuel : Nat} {listed : Array Bool} {a : Act} {w : World} {i : Nat} {rs : List Nat} (o : Oper) (ho : ops[i]? = some o) (hw : Region.wanted o (yielded ops a.tmps) = true)
    (h : ∀ K' : Act → World → Prop, (∀ a w, wpAny P md ops Q fuel (listed.setIfInBounds i true) a w → K' a w) → Oper.wp P o a w K' Q) (hs : AllReady P md ops Q fuel listed a w rs) : AllReady P md ops Q fuel listed a w (i :: rs) :=
  AllReady.cons ho (fun K hK => by rw [if_pos hw]; exact h K hK) hs

/-- Letters as they come, ahead of what is laid over the last ones. -/
def rawL : Bs → Bs
  | [] => []
  | [a] => lets (num3 a 0 0) 4
  | [a, b] => lets (num3 a b 0) 4
  | a :: b :: c :: r => lets (num3 a b c) 4 ++ rawL r

/-- One to three bytes as a number, what lacks as 0. -/
def numG (g : Bs) : Nat := (g.getD 0 0).toNat * 65536 + (g.getD 1 0).toNat * 256 + (g.getD 2 0).toNat

theorem raw_app : ∀ (k : Nat) (x y : Bs), x.length = 3 * k → rawL (x ++ y) = rawL x ++ rawL y
  | 0, x, y, h => by
    have : x = [] := List.length_eq_zero_iff.1 (by omega)
    subst this
    rfl
  | k + 1, x, y, h => by
    match x, h with
    | a :: b :: c :: r, h =>
      have hr : r.length = 3 * k := by simp at h; omega
      show lets (num3 a b c) 4 ++ rawL (r ++ y) = (lets (num3 a b c) 4 ++ rawL r) ++ rawL y
      rw [raw_app k r y hr, List.append_assoc]
    | [], h => simp at h
    | [_], h => simp at h; omega
    | [_, _], h => simp at h; omega

theorem raw_grp (g : Bs) (h1 : 1 ≤ g.length) (h3 : g.length ≤ 3) : rawL g = lets (numG g) 4 := by
  match g, h1, h3 with
  | [a], _, _ => rfl
  | [a, b], _, _ => rfl
  | [a, b, c], _, _ => show lets (num3 a b c) 4 ++ [] = _; rw [List.append_nil]; rfl

theorem raw_next {b : Bs} {k i : Nat} (hi : i = 3 * k) (hlt : i < b.length) : rawL (b.take (i + 3)) = rawL (b.take i) ++ lets (numG ((b.drop i).take 3)) 4 := by
  have e : b.take (i + 3) = b.take i ++ (b.drop i).take 3 := by rw [List.take_add]
  rw [e, raw_app k _ _ (by rw [List.length_take]; omega), raw_grp ((b.drop i).take 3) (by rw [List.length_take, List.length_drop]; omega) (by rw [List.length_take]; omega)]

theorem lets_len (n : Nat) : (lets n 4).length = 4 := rfl

theorem numG_lt (g : Bs) : numG g < 16777216 := by
  unfold numG
  have h0 := UInt8.toNat_lt (g.getD 0 0)
  have h1 := UInt8.toNat_lt (g.getD 1 0)
  have h2 := UInt8.toNat_lt (g.getD 2 0)
  omega

theorem raw_len : ∀ (b : Bs), ∃ k, (rawL b).length = 4 * k ∧ k ≤ b.length ∧ (1 ≤ b.length → 1 ≤ k)
  | [] => ⟨0, rfl, Nat.le_refl _, fun h => by simp at h⟩
  | [a] => ⟨1, rfl, Nat.le_refl _, fun _ => Nat.le_refl _⟩
  | [a, b] => ⟨1, rfl, by simp, fun _ => Nat.le_refl _⟩
  | a :: b :: c :: r => by
    obtain ⟨k, h1, h2, _⟩ := raw_len r
    refine ⟨k + 1, ?_, by simp; omega, fun _ => by omega⟩
    show (lets (num3 a b c) 4 ++ rawL r).length = _
    rw [List.length_append, h1, lets_len]
    omega

theorem set_app {x y : Bs} {k : Nat} {c : UInt8} (h : x.length ≤ k) : (x ++ y).set k c = x ++ y.set (k - x.length) c := List.set_append_right _ _ h

/-- What is laid over the last letters makes it whole. -/
theorem raw_fix : ∀ (b : Bs), (b.length % 3 = 0 → rawL b = b64 b) ∧ (b.length % 3 = 1 → ((rawL b).set ((rawL b).length - 2) 61).set ((rawL b).length - 1) 61 = b64 b) ∧ (b.length % 3 = 2 → (rawL b).set ((rawL b).length - 1) 61 = b64 b)
  | [] => ⟨fun _ => rfl, fun h => by simp at h, fun h => by simp at h⟩
  | [a] => ⟨fun h => by simp at h, fun _ => rfl, fun h => by simp at h⟩
  | [a, b] => ⟨fun h => by simp at h, fun h => by simp at h, fun _ => rfl⟩
  | a :: b :: c :: r => by
    obtain ⟨h0, h1, h2⟩ := raw_fix r
    have hl : (a :: b :: c :: r).length % 3 = r.length % 3 := by simp; omega
    obtain ⟨k, hk, _, hk1⟩ := raw_len r
    have el : (lets (num3 a b c) 4 ++ rawL r).length = 4 + (rawL r).length := by rw [List.length_append, lets_len]
    rw [hl]
    refine ⟨fun h => ?_, fun h => ?_, fun h => ?_⟩
    · show lets (num3 a b c) 4 ++ rawL r = lets (num3 a b c) 4 ++ b64 r
      rw [h0 h]
    · have : 1 ≤ k := hk1 (by omega)
      show ((lets (num3 a b c) 4 ++ rawL r).set ((lets (num3 a b c) 4 ++ rawL r).length - 2) 61).set ((lets (num3 a b c) 4 ++ rawL r).length - 1) 61 = lets (num3 a b c) 4 ++ b64 r
      rw [el, set_app (by rw [lets_len]; omega), set_app (by rw [lets_len]; omega), lets_len, ← h1 h, show 4 + (rawL r).length - 2 - 4 = (rawL r).length - 2 by omega, show 4 + (rawL r).length - 1 - 4 = (rawL r).length - 1 by omega]
    · have : 1 ≤ k := hk1 (by omega)
      show (lets (num3 a b c) 4 ++ rawL r).set ((lets (num3 a b c) 4 ++ rawL r).length - 1) 61 = lets (num3 a b c) 4 ++ b64 r
      rw [el, set_app (by rw [lets_len]; omega), lets_len, ← h2 h, show 4 + (rawL r).length - 1 - 4 = (rawL r).length - 1 by omega]

end Go.Proofs.YthcafeoamabkgaaGreatDoor
