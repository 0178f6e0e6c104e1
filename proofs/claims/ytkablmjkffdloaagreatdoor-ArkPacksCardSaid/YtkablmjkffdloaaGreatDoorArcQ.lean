/-
  How long an archive is, and the archive of files that anyone handed in.
-/
import Derived.Test.YtkablmjkffdloaaGreatDoorPakN
import Derived.Test.YtkablmjkffdloaaGreatDoorCrc
import Derived.Test.YtkablmjkffdloaaGreatDoorSumA
import Derived.Deep.RegionHeld3
import Derived.Test.YtkablmjkffdloaaGreatDoorFlsA
namespace Go.Proofs.YtkablmjkffdloaaGreatDoor
open Go.RowKit

def descL (nm d : Bs) : Bs := (leAll 2 [20, 0, 0, 0, 33] ++ leAll 4 [(crcL d).toNat, d.length, d.length]) ++ leAll 2 [nm.length, 0]
theorem descL_len (nm d : Bs) : (descL nm d).length = 26 := by
  unfold descL
  simp [leAll_len]
theorem Src.own {base : Nat} {w : World} {v : Value} {l : Bs} (h : Src base w v l) (h4 : l.length ≠ 4) : OwnB base w v l := by
  rcases h with h | ⟨_, _, _, _, _, _, h, _⟩
  · exact h
  · exact absurd h h4
/-- A row of numbers. -/
theorem nums_at {W : World} {N : Nat} {ns : List Nat} {cs : Array Value} (h : Blk W N cs 39) (hc : cs = (ns.map fun x : Nat => Value.int .u32 (x : Int)).toArray) : ∀ j (hj : j < ns.length), W.cell? ⟨N, j, none⟩ = some (.int .u32 ((ns[j] : Nat) : Int)) := fun j hj => by
  rw [h.cell j, hc]
  simp [hj]
theorem lowB {a w : World} (h : Below a.heap.size a w) (o : Obj) : Below a.heap.size a (w.alloc o) := h.alloc h.size o

set_option maxRecDepth 100000 in
set_option maxHeartbeats 4000000 in
theorem desc_any {w : World} {nm d : Bs} {a : Option Addr} {n c : Nat} (hn : d.length = n) (hN : n ≤ 2147483647) (hnm : nm.length ≤ 1000000) (hat : BAt w a d) :
    Calls Tryz.prog 127 #[.agg #[.string (ba nm), .slice a n c]] w fun e w' => ∃ v, e = .returned v ∧ OwnB w.heap.size w' v (descL nm d) ∧ Below w.heap.size w w' := by
  obtain ⟨K, hK⟩ : ∃ K, (crcL d).toNat = K := ⟨_, rfl⟩
  have hK2 : K < 4294967296 := by rw [← hK]; exact u32_lt _
  obtain ⟨m, hm⟩ : ∃ m, nm.length = m := ⟨_, rfl⟩
  have hsz : (ba nm).size = m := by rw [ba_size]; exact hm
  have hm2 : m ≤ 1000000 := by omega
  have cv1 : IntKind.u32.wrap (n : Int) = (n : Int) := by rw [IntKind.wrap_u32']; omega
  have cv2 : IntKind.u32.wrap (m : Int) = (m : Int) := by rw [IntKind.wrap_u32']; omega
  have hDL : Hid (descL nm d = (leAll 2 [20, 0, 0, 0, 33] ++ leAll 4 [K, n, n]) ++ leAll 2 [m, 0]) := hide (by unfold descL; rw [hK, hn, hm])
  have HC : Hid (∀ W, Below w.heap.size w W → Calls Tryz.prog 29 #[.slice a n c] W fun e w' => e = .returned (.int .u32 (K : Int)) ∧ w' = W) := hide (fun W hW => by
    have k := crc_any (c := c) hn (by omega) (hat.low hW)
    rw [hK] at k
    exact k)
  obtain ⟨W0, hW0⟩ : ∃ W0, w.alloc (.cells #[.string (ba nm), .slice a n c] 56) = W0 := ⟨_, rfl⟩
  obtain ⟨W1, hW1⟩ : ∃ W1, W0.alloc (.cells #[.int .i64 2] 3) = W1 := ⟨_, rfl⟩
  obtain ⟨W2, hW2⟩ : ∃ W2, W1.alloc (.cells #[.int .i64 4] 3) = W2 := ⟨_, rfl⟩
  obtain ⟨W3, hW3⟩ : ∃ W3, W2.alloc (.cells #[.int .u32 20, .int .u32 0, .int .u32 0, .int .u32 0, .int .u32 33] 39) = W3 := ⟨_, rfl⟩
  obtain ⟨F, hF⟩ : ∃ p, w.heap.size = p := ⟨_, rfl⟩
  obtain ⟨p2, hp2⟩ : ∃ p, W0.heap.size = p := ⟨_, rfl⟩
  obtain ⟨p4, hp4⟩ : ∃ p, W1.heap.size = p := ⟨_, rfl⟩
  obtain ⟨h1, hh1⟩ : ∃ p, W2.heap.size = p := ⟨_, rfl⟩
  have c0 : Below w.heap.size w W0 := by rw [← hW0]; exact lowB (Below.refl _ _) _
  have c1 : Below W0.heap.size W0 W1 := by rw [← hW1]; exact lowB (Below.refl _ _) _
  have c2 : Below W1.heap.size W1 W2 := by rw [← hW2]; exact lowB (Below.refl _ _) _
  have c3 : Below W2.heap.size W2 W3 := by rw [← hW3]; exact lowB (Below.refl _ _) _
  have kF0 : Blk W0 F #[.string (ba nm), .slice a n c] 56 := by rw [← hW0, ← hF]; exact Blk.new _ _ _
  have kF : Blk W3 F #[.string (ba nm), .slice a n c] 56 := ((kF0.low c1).low c2).low c3
  have k2 : Blk W3 p2 #[.int .i64 2] 3 := by
    have : Blk W1 p2 #[.int .i64 2] 3 := by rw [← hW1, ← hp2]; exact Blk.new _ _ _
    exact (this.low c2).low c3
  have k4 : Blk W3 p4 #[.int .i64 4] 3 := by
    have : Blk W2 p4 #[.int .i64 4] 3 := by rw [← hW2, ← hp4]; exact Blk.new _ _ _
    exact this.low c3
  have kh : Blk W3 h1 #[.int .u32 20, .int .u32 0, .int .u32 0, .int .u32 0, .int .u32 33] 39 := by rw [← hW3, ← hh1]; exact Blk.new _ _ _
  have b3 : Below w.heap.size w W3 := low_trans (low_trans (low_trans c0 c1) c2) c3
  have o3 : Src w.heap.size W3 (.slice none 0 0) [] := Or.inl (World.ownsRow_nil _ _ _ _)
  have H1 := hide (low_any (kc := 5) (q := 5) (ns := [20, 0, 0, 0, 33]) o3 b3.size rfl (nums_at kh rfl) (kh.type (by decide)) (k2.type (by decide)) (wd := 2) (k2.cell 0) (by decide) (fun x hx => by simp at hx; omega) (by decide) (by decide))
  have f0 := kF0.cell 1
  have f1 : W2.cell? ⟨F, 1, none⟩ = some (.slice a n c) := ((kF0.low c1).low c2).cell 1
  have HK := hide (And.intro kF (And.intro k2 (And.intro k4 (And.intro o3 b3))))
  have HW := hide (And.intro hW0 (And.intro hW1 (And.intro hW2 hW3)))
  have HP := hide (And.intro hF (And.intro hp2 (And.intro hp4 hh1)))
  clear hK hm hn hnm hat hW0 hW1 hW2 hW3 hF hp2 hp4 hh1 c0 c1 c2 c3 kF0 kF k2 k4 kh b3 o3 f0
  go_enter Tryz.func127, Tryz.ntmps127
  go_wp2_with (go_at_call 126; fail)
  rw [(unhide HW).1, (unhide HP).1]
  refine (lowFirst_any _ _).mono ?_
  rintro e wn ⟨rfl, hwn⟩
  rw [hwn, (unhide HW).2.1, (unhide HP).2.1]
  clear hwn wn
  go_wp2_with (go_at_call 126; fail)
  refine (lowFirst_any _ _).mono ?_
  rintro e wn ⟨rfl, hwn⟩
  rw [hwn, (unhide HW).2.2.1, (unhide HP).2.2.1]
  clear hwn wn
  go_wp2_with (go_at_call 172; fail)
  rw [(unhide HW).2.2.2, (unhide HP).2.2.2]
  refine (unhide H1).mono ?_
  rintro e w5 ⟨v5, rfl, o5, g5⟩
  obtain ⟨kF, k2, k4, o3, b3⟩ := unhide HK
  rw [List.nil_append] at o5
  have b5 : Below w.heap.size w w5 := b3.trans (g5.low b3.size (Src.base o3))
  have kF5 := kF.grB (by decide) o3 g5
  have k25 := k2.grB (by decide) o3 g5
  have k45 := k4.grB (by decide) o3 g5
  have K29 := hide (unhide HC w5 b5)
  obtain ⟨W6, hW6⟩ : ∃ W6, w5.alloc (.cells #[.int .u32 (K : Int), .int .u32 (n : Int), .int .u32 (n : Int)] 39) = W6 := ⟨_, rfl⟩
  have c6 : Below w5.heap.size w5 W6 := by rw [← hW6]; exact lowB (Below.refl _ _) _
  have kh6 : Blk W6 w5.heap.size #[.int .u32 (K : Int), .int .u32 (n : Int), .int .u32 (n : Int)] 39 := by rw [← hW6]; exact Blk.new _ _ _
  have o6 := o5.low c6
  have k46 := k45.low c6
  have k26 := k25.low c6
  have kF6 := kF5.low c6
  have b6 := b5.trans (c6.mono b5.size)
  have H2 := hide (low_any (kc := 3) (q := 3) (ns := [K, n, n]) o6 b6.size rfl (nums_at kh6 rfl) (kh6.type (by decide)) (k46.type (by decide)) (wd := 4) (k46.cell 0) (by decide) (fun x hx => by
    rcases List.mem_cons.1 hx with rfl | h
    · exact hK2
    · have h9 : x = n := by simpa using h
      omega) (by decide) (by simp [leAll_len]))
  have f5 := kF5.cell 1
  have HW6 := hide hW6
  have HK6 := hide (And.intro kF6 (And.intro k26 (And.intro o6 b6)))
  clear hW6 c6 kh6 o6 k46 k26 b6 kF6 o5 g5 kF k2 k4 o3 b3 kF5 k25 k45 b5 HK H1 f1
  go_wp2_with (go_at_call 29; refine (unhide K29).mono ?_; rintro e wn ⟨rfl, hwn⟩; rw [hwn]; clear hwn wn)
  go_wp2_with (go_at_call 172; fail)
  rw [unhide HW6]
  refine (unhide H2).mono ?_
  rintro e w7 ⟨v7, rfl, o7, g7⟩
  obtain ⟨kF6, k26, o6, b6⟩ := unhide HK6
  have b7 : Below w.heap.size w w7 := b6.trans (g7.low b6.size (Src.base o6))
  have k27 := k26.grB (by decide) o6 g7
  have kF7 := kF6.grB (by decide) o6 g7
  obtain ⟨W8, hW8⟩ : ∃ W8, w7.alloc (.cells #[.int .u32 (m : Int), .int .u32 0] 39) = W8 := ⟨_, rfl⟩
  have c8 : Below w7.heap.size w7 W8 := by rw [← hW8]; exact lowB (Below.refl _ _) _
  have kh8 : Blk W8 w7.heap.size #[.int .u32 (m : Int), .int .u32 0] 39 := by rw [← hW8]; exact Blk.new _ _ _
  have o8 := o7.low c8
  have k28 := k27.low c8
  have b8 := b7.trans (c8.mono b7.size)
  have H3 := hide (low_any (kc := 2) (q := 2) (ns := [m, 0]) o8 b8.size rfl (nums_at kh8 rfl) (kh8.type (by decide)) (k28.type (by decide)) (wd := 2) (k28.cell 0) (by decide) (fun x hx => by simp at hx; omega) (by decide) (by simp [leAll_len]))
  have f7 := kF7.cell 0
  have HW8 := hide hW8
  have HK8 := hide (And.intro o8 b8)
  clear o7 g7 k26 kF6 o6 b6 b7 k27 kF7 hW8 c8 kh8 o8 k28 b8 HK6 H2 f5
  go_wp2_with (go_at_call 172; fail)
  rw [unhide HW8]
  refine (unhide H3).mono ?_
  rintro e w9 ⟨v9, rfl, o9, g9⟩
  obtain ⟨o8, b8⟩ := unhide HK8
  have b9 : Below w.heap.size w w9 := b8.trans (g9.low b8.size (Src.base o8))
  have hR := Src.own o9 (by simp [leAll_len])
  rw [← unhide hDL] at hR
  have HR := hide (And.intro hR b9)
  clear o9 g9 o8 b8 b9 hR HK8 H3 f7
  go_wp2
  go_ret
  exact ⟨_, rfl, (unhide HR).1, (unhide HR).2⟩
end Go.Proofs.YtkablmjkffdloaaGreatDoor

namespace Go.Proofs.YtkablmjkffdloaaGreatDoor
open Go.RowKit

/-- A file as plain data: its name and its bytes. -/
abbrev Nd := Bs × Bs
def headL (p : Nd) : Bs := (([80, 75, 3, 4] ++ descL p.1 p.2) ++ p.1) ++ p.2
def entryL (at0 : Nat) (p : Nd) : Bs := (((([80, 75, 1, 2] ++ leAll 2 [20]) ++ descL p.1 p.2) ++ leAll 2 [0, 0, 0]) ++ leAll 4 [0, at0]) ++ p.1
def headsL (l : List Nd) : Bs := l.flatMap headL
def entsL : Nat → List Nd → Bs
  | _, [] => []
  | at0, p :: r => entryL at0 p ++ entsL (at0 + (headL p).length) r
def endL (k e h : Nat) : Bs := ([80, 75, 5, 6] ++ leAll 2 [0, 0, k, k]) ++ leAll 4 [e, h] ++ leAll 2 [0]
def arcL (l : List Nd) : Bs := (headsL l ++ entsL 0 l) ++ endL l.length (entsL 0 l).length (headsL l).length
theorem headL_len (p : Nd) : (headL p).length = 30 + p.1.length + p.2.length := by
  unfold headL
  simp [descL_len]
  omega
theorem entryL_len (at0 : Nat) (p : Nd) : (entryL at0 p).length = 46 + p.1.length := by
  unfold entryL
  simp [descL_len, leAll_len]
  omega
theorem headsL_snoc (l : List Nd) (p : Nd) : headsL (l ++ [p]) = headsL l ++ headL p := by unfold headsL; simp
theorem entsL_snoc : ∀ (l : List Nd) (at0 : Nat) (p : Nd), entsL at0 (l ++ [p]) = entsL at0 l ++ entryL (at0 + (headsL l).length) p
  | [], at0, p => by simp [entsL, headsL]
  | q :: l, at0, p => by
    show entryL at0 q ++ entsL _ (l ++ [p]) = (entryL at0 q ++ entsL _ l) ++ _
    rw [entsL_snoc l _ p, List.append_assoc]
    have e : (headsL (q :: l)).length = (headL q).length + (headsL l).length := by unfold headsL; simp
    rw [e, Nat.add_assoc]
def sizesL (l : List Nd) : Nat := (l.map fun p => 76 + 2 * p.1.length + p.2.length).foldr (· + ·) 0
theorem sizes_cons (p : Nd) (l : List Nd) : sizesL (p :: l) = 76 + 2 * p.1.length + p.2.length + sizesL l := rfl
theorem parts_len : ∀ (l : List Nd) (at0 : Nat), (headsL l).length + (entsL at0 l).length = sizesL l
  | [], _ => rfl
  | p :: l, at0 => by
    have ih := parts_len l (at0 + (headL p).length)
    have e : (headsL (p :: l)).length = (headL p).length + (headsL l).length := by unfold headsL; simp
    show (headsL (p :: l)).length + (entryL at0 p ++ entsL _ l).length = _
    rw [e, List.length_append, sizes_cons, entryL_len]
    have := headL_len p
    omega
theorem sizes_app : ∀ (l m : List Nd), sizesL (l ++ m) = sizesL l + sizesL m
  | [], m => by simp [sizesL]
  | p :: l, m => by
    have := sizes_app l m
    rw [List.cons_append, sizes_cons, sizes_cons, this]
    omega

/-- append of a string's bytes. -/
theorem app_strF {B : Nat} {w : World} {v : Value} {l r : Bs} (ho : OwnB B w v l) (hB : B ≤ w.heap.size) (hl : l.length + r.length ≤ 4294967296) :
    ∃ v' w', (Builtin.append_ #[23, 9] 23 #[v, .string (ba r)]).run Tryz.prog w = .ok v' w' ∧ OwnB B w' v' (l ++ r) ∧ GrB w w' v v' := by
  obtain ⟨i, hi, hz0, hz1, hz2⟩ := info_parts info5
  have hs := ba_size r
  obtain ⟨v', w', h1, h2, h3, h4⟩ := Lib.run_append_own_string (P := Tryz.prog) w B 23 9 23 5 i Tryz.underlying23 Tryz.underlying9 hi hz0 hz1 hz2 v l.length (l.map byteV) ho (ba r) (by rw [hs]; unfold maxLen; omega) (by rw [hs]; omega) hB
  have e : Lib.strCells (ba r) = r.map byteV := by
    unfold Lib.strCells
    rw [ba_data]
    rfl
  rw [hs, e] at h2
  have hown : v'.ownBlock = v.ownBlock ∨ ∃ g, v'.ownBlock = some g ∧ w.heap.size ≤ g := by
    rcases ho.2 with ⟨hv, h0⟩ | ⟨g, cap, cur, hv, hbg, hg, hnc, hcm, hcs, htake⟩
    · by_cases hr : (ba r).size = 0
      · rw [h4.2 ⟨hv, hr⟩, hv]
        exact Or.inl rfl
      · have k := run_append_nil_string (P := Tryz.prog) w 23 9 23 5 i (.int .u8 0) Tryz.underlying23 Tryz.underlying9 hi hz0 (ba r) (by omega) (by rw [hs]; omega) (by rw [hz2, hs]; omega)
        rw [hv] at h1
        rw [h1] at k
        cases k
        exact Or.inr ⟨_, rfl, Nat.le_refl _⟩
    · by_cases hroom : l.length + (ba r).size ≤ cap
      · have k := Lib.run_append_room_string (P := Tryz.prog) w 23 9 23 5 i Tryz.underlying23 Tryz.underlying9 hi hz1 g l.length cap cur hg (ba r) hroom (by rw [show cur.size = cap by simpa using hcs]; exact hroom)
        rw [hv] at h1
        rw [h1] at k
        cases k
        rw [hv]
        exact Or.inl rfl
      · rw [hv] at ho
        have holds : ∀ j u, (l.map byteV)[j]? = some u → w.cell? ((⟨g, 0, none⟩ : Addr).add j) = some u := World.ownsRow.cells ho (g := g) rfl
        have k := Lib.run_append_grow_string (P := Tryz.prog) w 23 9 23 5 i (.int .u8 0) Tryz.underlying23 Tryz.underlying9 hi hz0 ⟨g, 0, none⟩ l.length cap (l.map byteV) (by rw [hz1]; simp) holds (ba r) (by omega) (by rw [hs]; omega) (by rw [hz2]; exact growslice_fits (by omega) (by rw [hs]; omega))
        rw [hv] at h1
        rw [h1] at k
        cases k
        exact Or.inr ⟨_, rfl, Nat.le_refl _⟩
  exact ⟨v', w', h1, ownB_cat h2, ⟨h3.os, h3.tape, h3.output, h3.size, h3.block, hown⟩⟩
/-- append of bytes that lie anywhere. -/
theorem app_bytesF {B : Nat} {w : World} {v : Value} {l m : Bs} {a : Option Addr} {n c : Nat} (ho : OwnB B w v l) (hB : B ≤ w.heap.size) (hn : m.length = n) (hm : BAt w a m) (hl : l.length + n ≤ 4294967296) :
    ∃ v' w', (Builtin.append_ #[23, 23] 23 #[v, .slice a n c]).run Tryz.prog w = .ok v' w' ∧ OwnB B w' v' (l ++ m) ∧ GrB w w' v v' := by
  cases a with
  | none =>
    have h0 : m = [] := by
      rcases hm.els with h | ⟨_, _, e, _⟩
      · exact h
      · cases e
    subst h0
    simp at hn
    subst hn
    refine ⟨v, w, append_none ho, by rw [List.append_nil]; exact ho, GrB.refl _ _⟩
  | some A =>
    refine app_bytes ho hB hn (fun k hk => ?_) hl
    obtain ⟨B', O', e, h⟩ := hm.at hk
    obtain rfl := Option.some.inj e
    rw [WideShapes.add_plain]
    exact h

/-- Two rows of bytes that grow, and what else is needed while an archive is written. -/
structure AS (w0 w : World) (base p2 p4 : Nat) (hv ev : Value) (H E : Bs) : Prop where
  h : OwnB base w hv H
  e : OwnB base w ev E
  ne : ∀ k, hv.ownBlock = some k → ev.ownBlock = some k → False
  low : Below w0.heap.size w0 w
  k2 : Blk w p2 #[.int .i64 2] 3
  k4 : Blk w p4 #[.int .i64 4] 3
  sz : base ≤ w.heap.size
theorem AS.step {w0 w w' : World} {base p2 p4 : Nat} {hv ev : Value} {H E : Bs} (h : AS w0 w base p2 p4 hv ev H E) (b : Below w.heap.size w w') : AS w0 w' base p2 p4 hv ev H E :=
  ⟨h.h.low b, h.e.low b, h.ne, low_trans h.low b, h.k2.low b, h.k4.low b, Nat.le_trans h.sz b.size⟩
theorem own_lt {B : Nat} {w : World} {v : Value} {l : Bs} (h : OwnB B w v l) : ∀ g, v.ownBlock = some g → g < w.heap.size := OwnB.lt h
theorem AS.growH {w0 w w' : World} {base p2 p4 : Nat} {hv hv' ev : Value} {H H' E : Bs} (hbase : w0.heap.size ≤ base) (h : AS w0 w base p2 p4 hv ev H E) (g : GrB w w' hv hv') (o : OwnB base w' hv' H') : AS w0 w' base p2 p4 hv' ev H' E where
  h := o
  e := h.e.keep fun k hk => g.block k (own_lt h.e k hk) (fun e => h.ne k e.symm hk)
  ne := fun k h1 h2 => by
    rcases g.own with e | ⟨q, e, hq⟩
    · rw [e] at h1; exact h.ne k h1 h2
    · rw [e] at h1
      have := own_lt h.e k h2
      have : q = k := Option.some.inj h1
      omega
  low := h.low.trans (g.low (Nat.le_trans h.low.size (Nat.le_refl _)) (fun q hq => Nat.le_trans hbase (OwnB.base h.h q hq)))
  k2 := h.k2.grB (by decide) (Or.inl h.h) g
  k4 := h.k4.grB (by decide) (Or.inl h.h) g
  sz := Nat.le_trans h.sz g.size
theorem AS.growE {w0 w w' : World} {base p2 p4 : Nat} {hv ev ev' : Value} {H E E' : Bs} (hbase : w0.heap.size ≤ base) (h : AS w0 w base p2 p4 hv ev H E) (g : GrB w w' ev ev') (o : OwnB base w' ev' E') : AS w0 w' base p2 p4 hv ev' H E' where
  e := o
  h := h.h.keep fun k hk => g.block k (own_lt h.h k hk) (fun e => h.ne k hk e.symm)
  ne := fun k h1 h2 => by
    rcases g.own with e | ⟨q, e, hq⟩
    · rw [e] at h2; exact h.ne k h1 h2
    · rw [e] at h2
      have := own_lt h.h k h1
      have : q = k := Option.some.inj h2
      omega
  low := h.low.trans (g.low (Nat.le_trans h.low.size (Nat.le_refl _)) (fun q hq => Nat.le_trans hbase (OwnB.base h.e q hq)))
  k2 := h.k2.grB (by decide) (Or.inl h.e) g
  k4 := h.k4.grB (by decide) (Or.inl h.e) g
  sz := Nat.le_trans h.sz g.size
/-- What lies in another row, or below, stays while one row grows. -/
theorem BAt.grB {w w' : World} {v v' : Value} {a : Option Addr} {xs : Bs} (h : BAt w a xs) (g : GrB w w' v v') (hne : ∀ B O, a = some ⟨B, O, none⟩ → v.ownBlock ≠ some B) : BAt w' a xs := by
  rcases h.els with h0 | ⟨B, O, ha, he⟩
  · exact ⟨Or.inl h0⟩
  · refine ⟨Or.inr ⟨B, O, ha, fun k hk => ?_⟩⟩
    have hl := lt_of_cell (he k hk)
    have e : w'.heap[B]? = w.heap[B]? := g.block B hl (fun e => hne B O ha e.symm)
    have e2 : w'.cell? ⟨B, O + k, none⟩ = w.cell? ⟨B, O + k, none⟩ := by
      unfold World.cell?
      simp only [e]
    rw [e2]
    exact he k hk
end Go.Proofs.YtkablmjkffdloaaGreatDoor

namespace Go.Proofs.YtkablmjkffdloaaGreatDoor
open Go.RowKit

def ndF (dat : Fl → Bs) (x : Fl) : Nd := (x.nm, dat x)
/-- What is held while a file is written. -/
structure LS (w0 w : World) (p2 p4 F : Nat) (hv ev : Value) (H E : Bs) (nm : Bs) (xa : Option Addr) (xn xc : Nat) (sa : Option Addr) (D : Bs) : Prop where
  st : AS w0 w w0.heap.size p2 p4 hv ev H E
  kF : Blk w F #[.string (ba nm), .slice xa xn xc] 56
  s : BAt w sa D
  ns : ∀ B O, sa = some ⟨B, O, none⟩ → hv.ownBlock ≠ some B ∧ ev.ownBlock ≠ some B ∧ B < w.heap.size
theorem LS.step {w0 w w' : World} {p2 p4 F : Nat} {hv ev : Value} {H E nm D : Bs} {xa sa : Option Addr} {xn xc : Nat} (h : LS w0 w p2 p4 F hv ev H E nm xa xn xc sa D) (b : Below w.heap.size w w') : LS w0 w' p2 p4 F hv ev H E nm xa xn xc sa D :=
  ⟨h.st.step b, h.kF.low b, h.s.low b, fun B O e => ⟨(h.ns B O e).1, (h.ns B O e).2.1, Nat.lt_of_lt_of_le (h.ns B O e).2.2 b.size⟩⟩
theorem grown_ne {w w' : World} {v v' : Value} (g : GrB w w' v v') {B : Nat} (h : v.ownBlock ≠ some B) (hB : B < w.heap.size) : v'.ownBlock ≠ some B := by
  rcases g.own with e | ⟨q, e, hq⟩
  · rw [e]; exact h
  · rw [e]
    intro h2
    have : q = B := Option.some.inj h2
    omega
theorem LS.growH {w0 w w' : World} {p2 p4 F : Nat} {hv hv' ev : Value} {H H' E nm D : Bs} {xa sa : Option Addr} {xn xc : Nat} (h : LS w0 w p2 p4 F hv ev H E nm xa xn xc sa D) (g : GrB w w' hv hv') (o : OwnB w0.heap.size w' hv' H') : LS w0 w' p2 p4 F hv' ev H' E nm xa xn xc sa D :=
  ⟨h.st.growH (Nat.le_refl _) g o, h.kF.grB (by decide) (Or.inl h.st.h) g, h.s.grB g (fun B O e => (h.ns B O e).1), fun B O e => ⟨grown_ne g (h.ns B O e).1 (h.ns B O e).2.2, (h.ns B O e).2.1, Nat.lt_of_lt_of_le (h.ns B O e).2.2 g.size⟩⟩
theorem LS.growE {w0 w w' : World} {p2 p4 F : Nat} {hv ev ev' : Value} {H E E' nm D : Bs} {xa sa : Option Addr} {xn xc : Nat} (h : LS w0 w p2 p4 F hv ev H E nm xa xn xc sa D) (g : GrB w w' ev ev') (o : OwnB w0.heap.size w' ev' E') : LS w0 w' p2 p4 F hv ev' H E' nm xa xn xc sa D :=
  ⟨h.st.growE (Nat.le_refl _) g o, h.kF.grB (by decide) (Or.inl h.st.e) g, h.s.grB g (fun B O e => (h.ns B O e).2.1), fun B O e => ⟨(h.ns B O e).1, grown_ne g (h.ns B O e).2.1 (h.ns B O e).2.2, Nat.lt_of_lt_of_le (h.ns B O e).2.2 g.size⟩⟩
theorem sizes_take (l : List Nd) (i : Nat) : sizesL (l.take i) ≤ sizesL l := by
  have h := sizes_app (l.take i) (l.drop i)
  rw [List.take_append_drop] at h
  omega

set_option maxRecDepth 100000 in
set_option maxHeartbeats 16000000 in
theorem archive_any {w : World} {a : Option Addr} {n c : Nat} {xs : List Fl} {dat : Fl → Bs} (hx : xs.length = n) (hn : n ≤ 1000) (h : FAt w a xs) (hd : DatG w xs dat) (hsz : sizesL (xs.map (ndF dat)) ≤ 900000000) :
    Calls Tryz.prog 71 #[.slice a n c] w fun e w' => ∃ v, e = .returned v ∧ OwnB w.heap.size w' v (arcL (xs.map (ndF dat))) ∧ Below w.heap.size w w' := by
  obtain ⟨L, hL⟩ : ∃ L, xs.map (ndF dat) = L := ⟨_, rfl⟩
  have hLl : L.length = n := by rw [← hL, List.length_map]; exact hx
  rw [hL] at hsz ⊢
  obtain ⟨w1, hw1⟩ : ∃ w1, w.alloc (.cells #[.int .i64 2] 3) = w1 := ⟨_, rfl⟩
  obtain ⟨w2, hw2⟩ : ∃ w2, w1.alloc (.cells #[.int .i64 4] 3) = w2 := ⟨_, rfl⟩
  obtain ⟨p2, hp2⟩ : ∃ p, w.heap.size = p := ⟨_, rfl⟩
  obtain ⟨p4, hp4⟩ : ∃ p, w1.heap.size = p := ⟨_, rfl⟩
  have c1 : Below w.heap.size w w1 := by rw [← hw1]; exact lowB (Below.refl _ _) _
  have c2 : Below w1.heap.size w1 w2 := by rw [← hw2]; exact lowB (Below.refl _ _) _
  have k2 : Blk w2 p2 #[.int .i64 2] 3 := by
    have : Blk w1 p2 #[.int .i64 2] 3 := by rw [← hw1, ← hp2]; exact Blk.new _ _ _
    exact this.low c2
  have k4 : Blk w2 p4 #[.int .i64 4] 3 := by rw [← hw2, ← hp4]; exact Blk.new _ _ _
  have b2 := low_trans c1 c2
  have HAS : Hid (AS w w2 w.heap.size p2 p4 (.slice none 0 0) (.slice none 0 0) [] []) := hide ⟨World.ownsRow_nil _ _ _ _, World.ownsRow_nil _ _ _ _, fun k h => (by cases h), b2, k2, k4, b2.size⟩
  have HW := hide (And.intro hw1 hw2)
  have HP := hide (And.intro hp2 hp4)
  have HX := hide hx
  have HA := hide h
  have HD := hide hd
  have HLX := hide hL
  have HLL := hide hLl
  have HSZ := hide hsz
  clear hx h hd hL hLl hsz hw1 hw2 hp2 hp4 c1 c2 k2 k4 b2
  go_enter Tryz.func71, Tryz.ntmps71
  go_wp2_with (go_at_call 126; fail)
  refine (lowFirst_any _ _).mono ?_
  rintro e wn ⟨rfl, hwn⟩
  rw [hwn, (unhide HW).1, (unhide HP).1]
  clear hwn wn
  go_wp2_with (go_at_call 126; fail)
  refine (lowFirst_any _ _).mono ?_
  rintro e wn ⟨rfl, hwn⟩
  rw [hwn, (unhide HW).2, (unhide HP).2]
  clear hwn wn
  go_wp2
  go_loopw [5, 6, 8, 9, 10, 17] (fun v5 v6 _ _ _ v17 wr => ∃ i : Nat, i ≤ n ∧ v17 = .int .i64 (i : Int) ∧ AS w wr w.heap.size p2 p4 v5 v6 (headsL (L.take i)) (entsL 0 (L.take i))) (fun _ _ _ _ _ v17 _ => n - (intOf v17).toNat)
  case atStart => exact ⟨0, Nat.zero_le _, rfl, unhide HAS⟩
  case round =>
    rename World => wr
    obtain ⟨i, hi, rfl, hAS⟩ := hrel
    have HTOT : Hid ((headsL (L.take i)).length + (entsL 0 (L.take i)).length ≤ 900000000) := hide (by
      rw [parts_len]
      exact Nat.le_trans (sizes_take L i) (unhide HSZ))
    obtain ⟨ha, hc, hhv, -, -, -⟩ := OwnB.at hAS.h
    obtain ⟨ea, ec, hev, -, -, -⟩ := OwnB.at hAS.e
    obtain ⟨H, hH⟩ : ∃ H, headsL (L.take i) = H := ⟨_, rfl⟩
    obtain ⟨E, hE⟩ : ∃ E, entsL 0 (L.take i) = E := ⟨_, rfl⟩
    rw [hH] at HTOT hhv hAS
    rw [hE] at HTOT hev hAS
    obtain ⟨hn0, hhn⟩ : ∃ q, H.length = q := ⟨_, rfl⟩
    obtain ⟨en0, hen⟩ : ∃ q, E.length = q := ⟨_, rfl⟩
    rw [hhn] at HTOT hhv
    rw [hen] at HTOT hev
    subst hhv hev
    have htot := unhide HTOT
    have cvH : IntKind.u32.wrap (hn0 : Int) = (hn0 : Int) := by rw [IntKind.wrap_u32']; omega
    have HHN := hide hhn
    have HEN := hide hen
    have HH := hide hH
    have HE := hide hE
    have HST := hide hAS
    clear hhn hen hH hE HTOT
    by_cases hlt : i < n
    · have hil : i < xs.length := by rw [unhide HX]; exact hlt
      have hlt' : (i : Int) < (n : Int) := by omega
      obtain ⟨B, O, rfl, g0, g1⟩ := ((unhide HA).low hAS.low).get hil
      have dD := (unhide HD).low hAS.low
      have mx : xs[i] ∈ xs := List.getElem_mem hil
      have x1 := dD.len _ mx
      have x2 := dD.few _ mx
      have x6 := (unhide HD).at_ _ mx
      have x7 := dD.nm _ mx
      have hil2 : i < L.length := by rw [unhide HLL]; exact hlt
      have hLi : L[i] = (xs[i].nm, dat xs[i]) := by
        have h1 : L[i]? = some (ndF dat xs[i]) := by rw [← unhide HLX]; simp [hil]
        rw [List.getElem?_eq_getElem hil2] at h1
        exact Option.some.inj h1
      have htk := take_sn hil2
      rw [hLi] at htk
      obtain ⟨x, hxx⟩ : ∃ x, xs[i] = x := ⟨_, rfl⟩
      rw [hxx] at g0 g1 x1 x2 x6 x7 htk
      obtain ⟨d, hdd⟩ : ∃ d, dat x = d := ⟨_, rfl⟩
      rw [hdd] at x1 x6 htk
      obtain ⟨nm, xa, xn, xc⟩ := x
      simp only at g0 g1 x1 x2 x6 x7 htk
      have HHZ : Hid (headsL (L.take (i + 1)) = ((((H ++ [80, 75, 3, 4]) ++ descL nm d) ++ nm) ++ d)) := hide (by
        rw [htk, headsL_snoc, unhide HH]
        unfold headL
        simp only [List.append_assoc])
      have HEZ : Hid (entsL 0 (L.take (i + 1)) = (((((E ++ [80, 75, 1, 2]) ++ leAll 2 [20]) ++ descL nm d) ++ leAll 2 [0, 0, 0]) ++ leAll 4 [0, hn0]) ++ nm) := hide (by
        rw [htk, entsL_snoc, unhide HE, unhide HH, Nat.zero_add, unhide HHN]
        unfold entryL
        simp only [List.append_assoc])
      obtain ⟨F, hF⟩ : ∃ F, wr.heap.size = F := ⟨_, rfl⟩
      obtain ⟨W1, hW1⟩ : ∃ W1, wr.alloc (.cells #[.string (ba nm), .slice xa xn xc] 56) = W1 := ⟨_, rfl⟩
      have b1 : Below wr.heap.size wr W1 := by rw [← hW1]; exact lowB (Below.refl _ _) _
      have kF : Blk W1 F #[.string (ba nm), .slice xa xn xc] 56 := by rw [← hW1, ← hF]; exact Blk.new _ _ _
      have hA1 := hAS.step b1
      have KD := hide (desc_any (w := W1) (nm := nm) (c := xc) x1 (by omega) (by omega) (x6.low hA1.low))
      have f0 := kF.cell 0
      have f1 := kF.cell 1
      rw [← hW1, ← hF] at f0 f1
      have HX6 := hide x6
      have HX1 := hide x1
      have HA1 := hide hA1
      have HKF := hide kF
      have HW1 := hide hW1
      have HF := hide hF
      have HX7 := hide x7
      clear hAS dD mx x1 x6 hLi htk hxx hdd hF hW1 b1 kF hA1 HST
      go_wp2_with (go_at_call 127; fail)
      rw [unhide HW1, unhide HF]
      refine (unhide KD).mono ?_
      rintro e w2 ⟨sv, rfl, os, b2⟩
      have hsb := OwnB.base os
      obtain ⟨sa, sc, hsv, hsat, -, -⟩ := OwnB.at os
      obtain ⟨sn, hsn⟩ : ∃ q, (descL nm d).length = q := ⟨_, rfl⟩
      have hs26 : sn = 26 := by rw [← hsn]; exact descL_len nm d
      have HS26 := hide hs26
      have HSN := hide hsn
      rw [hsn] at hsv
      clear hsn hs26
      subst hsv
      have hslt := OwnB.lt os
      have hA2 := (unhide HA1).step b2
      have L2 : LS w w2 p2 p4 F (.slice ha hn0 hc) (.slice ea en0 ec) H E nm xa xn xc sa (descL nm d) := ⟨hA2, (unhide HKF).low b2, hsat, fun B O e => by
        subst e
        have h1 := hsb B rfl
        have h2 := hslt B rfl
        refine ⟨fun e => ?_, fun e => ?_, h2⟩
        · have := own_lt (unhide HA1).h B e; omega
        · have := own_lt (unhide HA1).e B e; omega⟩
      have HL2 := hide L2
      clear f0 f1 KD os b2 hsb hsat hslt hA2 L2
      obtain ⟨v3, w3, happ3, o3, g3⟩ := app_strF (r := [80, 75, 3, 4]) (unhide HL2).st.h (unhide HL2).st.sz (by simp; have := unhide HHN; have := unhide HEN; have := unhide HX1; have := unhide HX7; have := unhide HS26; omega)
      have L3 := (unhide HL2).growH g3 o3
      obtain ⟨a3, c3, hv3, -, -, -⟩ := OwnB.at L3.st.h
      obtain ⟨n3, hn3⟩ : ∃ n, (H ++ [80, 75, 3, 4]).length = n := ⟨_, rfl⟩
      rw [hn3] at hv3
      subst hv3
      have HL3 := hide L3
      clear o3 g3 L3 hn3
      obtain ⟨v4, w4, happ4, o4, g4⟩ := app_bytesF (c := sc) (unhide HL3).st.h (unhide HL3).st.sz (unhide HSN) (unhide HL3).s (by simp; have := unhide HHN; have := unhide HEN; have := unhide HX1; have := unhide HX7; have := unhide HS26; omega)
      have L4 := (unhide HL3).growH g4 o4
      obtain ⟨a4, c4, hv4, -, -, -⟩ := OwnB.at L4.st.h
      obtain ⟨n4, hn4⟩ : ∃ n, ((H ++ [80, 75, 3, 4]) ++ descL nm d).length = n := ⟨_, rfl⟩
      rw [hn4] at hv4
      subst hv4
      have HL4 := hide L4
      clear o4 g4 L4 hn4
      have f0 := (unhide HL4).kF.cell 0
      obtain ⟨v5, w5, happ5, o5, g5⟩ := app_strF (r := nm) (unhide HL4).st.h (unhide HL4).st.sz (by simp [descL_len]; have := unhide HHN; have := unhide HEN; have := unhide HX1; have := unhide HX7; have := unhide HS26; omega)
      have L5 := (unhide HL4).growH g5 o5
      obtain ⟨a5, c5, hv5, -, -, -⟩ := OwnB.at L5.st.h
      obtain ⟨n5, hn5⟩ : ∃ n, (((H ++ [80, 75, 3, 4]) ++ descL nm d) ++ nm).length = n := ⟨_, rfl⟩
      rw [hn5] at hv5
      subst hv5
      have HL5 := hide L5
      clear o5 g5 L5 hn5
      have f1 := (unhide HL5).kF.cell 1
      obtain ⟨v6, w6, happ6, o6, g6⟩ := app_bytesF (c := xc) (unhide HL5).st.h (unhide HL5).st.sz (unhide HX1) ((unhide HX6).low (unhide HL5).st.low) (by simp [descL_len]; have := unhide HHN; have := unhide HEN; have := unhide HX1; have := unhide HX7; have := unhide HS26; omega)
      have L6 := (unhide HL5).growH g6 o6
      obtain ⟨a6, c6, hv6, -, -, -⟩ := OwnB.at L6.st.h
      obtain ⟨n6, hn6⟩ : ∃ n, ((((H ++ [80, 75, 3, 4]) ++ descL nm d) ++ nm) ++ d).length = n := ⟨_, rfl⟩
      rw [hn6] at hv6
      subst hv6
      have HL6 := hide L6
      clear o6 g6 L6 hn6
      obtain ⟨v7, w7, happ7, o7, g7⟩ := app_strF (r := [80, 75, 1, 2]) (unhide HL6).st.e (unhide HL6).st.sz (by simp; have := unhide HHN; have := unhide HEN; have := unhide HX1; have := unhide HX7; have := unhide HS26; omega)
      have L7 := (unhide HL6).growE g7 o7
      obtain ⟨a7, c7, hv7, -, -, -⟩ := OwnB.at L7.st.e
      obtain ⟨n7, hn7⟩ : ∃ n, (E ++ [80, 75, 1, 2]).length = n := ⟨_, rfl⟩
      rw [hn7] at hv7
      subst hv7
      have HL7 := hide L7
      clear o7 g7 L7 hn7
      obtain ⟨N8, hN8⟩ : ∃ N, w7.heap.size = N := ⟨_, rfl⟩
      obtain ⟨W8, hW8⟩ : ∃ W, w7.alloc (.cells #[.int .u32 20] 39) = W := ⟨_, rfl⟩
      have b8 : Below w7.heap.size w7 W8 := by rw [← hW8]; exact lowB (Below.refl _ _) _
      have q8 : Blk W8 N8 #[.int .u32 20] 39 := by rw [← hW8, ← hN8]; exact Blk.new _ _ _
      have M8 := (unhide HL7).step b8
      have KC := hide (low_any (kc := 1) (q := 1) (ns := [20]) (Or.inl M8.st.e) M8.st.sz rfl (nums_at q8 rfl) (q8.type (by decide)) (M8.st.k2.type (by decide)) (wd := 2) (M8.st.k2.cell 0) (by decide) (fun x hx => by simp at hx; omega) (by decide) (by simp; have := unhide HHN; have := unhide HEN; have := unhide HX1; have := unhide HX7; have := unhide HS26; omega))
      have HM8 := hide M8
      have HW8 := hide hW8
      have HN8 := hide hN8
      clear hN8 hW8 b8 q8 M8
      go_wp2_with (first | (at_builtin; first | (refine Lib.wpList_append_run _ rfl _ _ _ _ rfl _ _ rfl rfl _ _ happ3 ?_; clear happ3) | (refine Lib.wpList_append_run _ rfl _ _ _ _ rfl _ _ rfl rfl _ _ happ4 ?_; clear happ4) | (refine Lib.wpList_append_run _ rfl _ _ _ _ rfl _ _ rfl rfl _ _ happ5 ?_; clear happ5) | (refine Lib.wpList_append_run _ rfl _ _ _ _ rfl _ _ rfl rfl _ _ happ6 ?_; clear happ6) | (refine Lib.wpList_append_run _ rfl _ _ _ _ rfl _ _ rfl rfl _ _ happ7 ?_; clear happ7)) | (go_at_call 172; fail))
      rw [unhide HW8, unhide HN8]
      refine (unhide KC).mono ?_
      rintro e w9 ⟨v9, rfl, o9, g9⟩
      have o9 := Src.own o9 (by simp [leAll_len])
      have L9 := (unhide HM8).growE g9 o9
      obtain ⟨a9, c9, hv9, -, -, -⟩ := OwnB.at L9.st.e
      obtain ⟨n9, hn9⟩ : ∃ n, ((E ++ [80, 75, 1, 2]) ++ leAll 2 [20]).length = n := ⟨_, rfl⟩
      rw [hn9] at hv9
      subst hv9
      have HL9 := hide L9
      clear o9 g9 L9 hn9 KC
      obtain ⟨v10, w10, happ10, o10, g10⟩ := app_bytesF (c := sc) (unhide HL9).st.e (unhide HL9).st.sz (unhide HSN) (unhide HL9).s (by simp [leAll_len]; have := unhide HHN; have := unhide HEN; have := unhide HX1; have := unhide HX7; have := unhide HS26; omega)
      have L10 := (unhide HL9).growE g10 o10
      obtain ⟨a10, c10, hv10, -, -, -⟩ := OwnB.at L10.st.e
      obtain ⟨n10, hn10⟩ : ∃ n, (((E ++ [80, 75, 1, 2]) ++ leAll 2 [20]) ++ descL nm d).length = n := ⟨_, rfl⟩
      rw [hn10] at hv10
      subst hv10
      have HL10 := hide L10
      clear o10 g10 L10 hn10
      obtain ⟨N11, hN11⟩ : ∃ N, w10.heap.size = N := ⟨_, rfl⟩
      obtain ⟨W11, hW11⟩ : ∃ W, w10.alloc (.cells #[.int .u32 0, .int .u32 0, .int .u32 0] 39) = W := ⟨_, rfl⟩
      have b11 : Below w10.heap.size w10 W11 := by rw [← hW11]; exact lowB (Below.refl _ _) _
      have q11 : Blk W11 N11 #[.int .u32 0, .int .u32 0, .int .u32 0] 39 := by rw [← hW11, ← hN11]; exact Blk.new _ _ _
      have M11 := (unhide HL10).step b11
      have KC := hide (low_any (kc := 3) (q := 3) (ns := [0, 0, 0]) (Or.inl M11.st.e) M11.st.sz rfl (nums_at q11 rfl) (q11.type (by decide)) (M11.st.k2.type (by decide)) (wd := 2) (M11.st.k2.cell 0) (by decide) (fun x hx => by simp at hx; omega) (by decide) (by simp [descL_len, leAll_len]; have := unhide HHN; have := unhide HEN; have := unhide HX1; have := unhide HX7; have := unhide HS26; omega))
      have HM11 := hide M11
      have HW11 := hide hW11
      have HN11 := hide hN11
      clear hN11 hW11 b11 q11 M11
      go_wp2_with (first | (at_builtin; refine Lib.wpList_append_run _ rfl _ _ _ _ rfl _ _ rfl rfl _ _ happ10 ?_; clear happ10) | (go_at_call 172; fail))
      rw [unhide HW11, unhide HN11]
      refine (unhide KC).mono ?_
      rintro e w12 ⟨v12, rfl, o12, g12⟩
      have o12 := Src.own o12 (by simp [leAll_len, descL_len])
      have L12 := (unhide HM11).growE g12 o12
      obtain ⟨a12, c12, hv12, -, -, -⟩ := OwnB.at L12.st.e
      obtain ⟨n12, hn12⟩ : ∃ n, ((((E ++ [80, 75, 1, 2]) ++ leAll 2 [20]) ++ descL nm d) ++ leAll 2 [0, 0, 0]).length = n := ⟨_, rfl⟩
      rw [hn12] at hv12
      subst hv12
      have HL12 := hide L12
      clear o12 g12 L12 hn12 KC
      obtain ⟨N13, hN13⟩ : ∃ N, w12.heap.size = N := ⟨_, rfl⟩
      obtain ⟨W13, hW13⟩ : ∃ W, (w12.alloc (.cells #[.int .u32 0, .int .u32 (hn0 : Int)] 39)).drew = W := ⟨_, rfl⟩
      have b12 : Below w12.heap.size w12 w12.drew := (Below.refl _ _).drew
      have bal : Below w12.heap.size w12 (w12.alloc (.cells #[.int .u32 0, .int .u32 (hn0 : Int)] 39)) := lowB (Below.refl _ _) _
      have b13 : Below w12.heap.size w12 W13 := by rw [← hW13]; exact bal.drew
      have q13 : Blk W13 N13 #[.int .u32 0, .int .u32 (hn0 : Int)] 39 := by
        have q := Blk.new w12 #[.int .u32 0, .int .u32 (hn0 : Int)] 39
        have q2 := q.low (Below.refl _ _).drew
        rw [hW13, hN13] at q2
        exact q2
      have M13 := (unhide HL12).step b13
      have KC := hide (low_any (kc := 2) (q := 2) (ns := [0, hn0]) (Or.inl M13.st.e) M13.st.sz rfl (nums_at q13 rfl) (q13.type (by decide)) (M13.st.k4.type (by decide)) (wd := 4) (M13.st.k4.cell 0) (by decide) (fun x hx => by simp at hx; omega) (by decide) (by simp [descL_len, leAll_len]; have := unhide HHN; have := unhide HEN; have := unhide HX1; have := unhide HX7; have := unhide HS26; omega))
      have hS : w12.cell? ⟨F, 0, none⟩ = some (.string (ba nm)) := (unhide HL12).kF.cell 0
      have hSd : w12.drew.cell? ⟨F, 0, none⟩ = some (.string (ba nm)) := ((unhide HL12).step b12).kF.cell 0
      have hSe : W13.cell? ⟨F, 0, none⟩ = some (.string (ba nm)) := M13.kF.cell 0
      rw [← hW13] at hSe
      have hSh := ((unhide HL12).step bal).kF.cell 0
      have HM13 := hide M13
      have HW13 := hide hW13
      have HN13 := hide hN13
      clear hN13 hW13 b12 b13 q13 M13 bal
      obtain ⟨n14, hn14⟩ : ∃ q, (((((E ++ [80, 75, 1, 2]) ++ leAll 2 [20]) ++ descL nm d) ++ leAll 2 [0, 0, 0]) ++ leAll 4 [0, hn0]).length = q := ⟨_, rfl⟩
      obtain ⟨n15, hn15⟩ : ∃ q, ((((((E ++ [80, 75, 1, 2]) ++ leAll 2 [20]) ++ descL nm d) ++ leAll 2 [0, 0, 0]) ++ leAll 4 [0, hn0]) ++ nm).length = q := ⟨_, rfl⟩
      have KCX := hide (Calls.mono (R' := fun e w' => ∃ a14 c14, e = .returned (.slice a14 n14 c14) ∧ w'.cell? ⟨F, 0, none⟩ = some (.string (ba nm)) ∧ Hid (LS w w' p2 p4 F (.slice a6 n6 c6) (.slice a14 n14 c14) ((((H ++ [80, 75, 3, 4]) ++ descL nm d) ++ nm) ++ d) (((((E ++ [80, 75, 1, 2]) ++ leAll 2 [20]) ++ descL nm d) ++ leAll 2 [0, 0, 0]) ++ leAll 4 [0, hn0]) nm xa xn xc sa (descL nm d))) (unhide KC) (by
        rintro e w14 ⟨v14, rfl, o14, g14⟩
        have o14 := Src.own o14 (by simp [leAll_len, descL_len])
        have L14 := (unhide HM13).growE g14 o14
        obtain ⟨a14, c14, hv14, -, -, -⟩ := OwnB.at L14.st.e
        rw [hn14] at hv14
        subst hv14
        exact ⟨a14, c14, rfl, L14.kF.cell 0, hide L14⟩))
      have HAP : Hid (∀ w14 a14 c14, Hid (LS w w14 p2 p4 F (.slice a6 n6 c6) (.slice a14 n14 c14) ((((H ++ [80, 75, 3, 4]) ++ descL nm d) ++ nm) ++ d) (((((E ++ [80, 75, 1, 2]) ++ leAll 2 [20]) ++ descL nm d) ++ leAll 2 [0, 0, 0]) ++ leAll 4 [0, hn0]) nm xa xn xc sa (descL nm d)) → ∃ a15 c15 w15, (Builtin.append_ #[23, 9] 23 #[.slice a14 n14 c14, .string (ba nm)]).run Tryz.prog w14 = .ok (.slice a15 n15 c15) w15 ∧ w15.cell? ⟨F, 0, none⟩ = some (.string (ba nm)) ∧ Hid (LS w w15 p2 p4 F (.slice a6 n6 c6) (.slice a15 n15 c15) ((((H ++ [80, 75, 3, 4]) ++ descL nm d) ++ nm) ++ d) ((((((E ++ [80, 75, 1, 2]) ++ leAll 2 [20]) ++ descL nm d) ++ leAll 2 [0, 0, 0]) ++ leAll 4 [0, hn0]) ++ nm) nm xa xn xc sa (descL nm d))) := hide (by
        intro w14 a14 c14 hl
        obtain ⟨v15, w15, happ15, o15, g15⟩ := app_strF (r := nm) (unhide hl).st.e (unhide hl).st.sz (by simp [descL_len, leAll_len]; have := unhide HHN; have := unhide HEN; have := unhide HX1; have := unhide HX7; have := unhide HS26; omega)
        have L15 := (unhide hl).growE g15 o15
        obtain ⟨a15, c15, hv15, -, -, -⟩ := OwnB.at L15.st.e
        rw [hn15] at hv15
        subst hv15
        exact ⟨a15, c15, w15, happ15, L15.kF.cell 0, hide L15⟩)
      clear KC hn14 hn15
      go_wp2
      go_region_held3 (fun wx => wx.cell? ⟨F, 0, none⟩ = some (.string (ba nm)))
        (first | assumption | exact hS | exact hSd | exact hSe | exact hSh | exact hSf | exact hSg)
        (first
          | (go_at_call 172; rw [unhide HN13, unhide HW13]; refine (unhide KCX).mono ?_; rintro e w14 ⟨a14, c14, rfl, hSf, HL14⟩)
          | (revert HL14; intro HL14; obtain ⟨a15, c15, w15, happ15, hSg, HL15⟩ := unhide HAP _ _ _ HL14; refine Lib.wp_append_run _ (.tmp 55) (.tmp 57) 23 9 (by rfl) (.slice a14 n14 c14) (.string (ba nm)) (by kernel_rfl) (by kernel_rfl) _ w15 happ15 ?_))
      all_goals
        have HI1 : Hid (i + 1 ≤ n) := hide hlt
        have HZ := hide ((unhide HL15).st)
        go_wp2
        go_roundw
        case rel => exact ⟨i + 1, unhide HI1, by push_cast; rfl, by rw [unhide HHZ, unhide HEZ]; exact unhide HZ⟩
        case measure => simp [intOf]; omega
    · have hin : i = n := by omega
      subst hin
      have hlt' : ¬ ((i : Int) < (i : Int)) := by omega
      have cvN : IntKind.u32.wrap (i : Int) = (i : Int) := by rw [IntKind.wrap_u32']; omega
      have cvE : IntKind.u32.wrap (en0 : Int) = (en0 : Int) := by rw [IntKind.wrap_u32']; omega
      have htk : L.take i = L := List.take_of_length_le (by rw [unhide HLL]; exact Nat.le_refl _)
      have HZ : Hid (arcL L = (H ++ E) ++ ((([80, 75, 5, 6] ++ leAll 2 [0, 0, i, i]) ++ leAll 4 [en0, hn0]) ++ leAll 2 [0])) := hide (by
        have e1 := unhide HH
        have e2 := unhide HE
        rw [htk] at e1 e2
        unfold arcL endL
        rw [e1, e2, unhide HLL, unhide HHN, unhide HEN])
      obtain ⟨W3, hW3⟩ : ∃ W3, wr.alloc (.cells #[.int .u8 80, .int .u8 75, .int .u8 5, .int .u8 6] 5 (4, 5)) = W3 := ⟨_, rfl⟩
      obtain ⟨W4, hW4⟩ : ∃ W4, W3.alloc (.cells #[.int .u32 0, .int .u32 0, .int .u32 (i : Int), .int .u32 (i : Int)] 39) = W4 := ⟨_, rfl⟩
      obtain ⟨h1, hh1⟩ : ∃ p, wr.heap.size = p := ⟨_, rfl⟩
      obtain ⟨h2, hh2⟩ : ∃ p, W3.heap.size = p := ⟨_, rfl⟩
      have c3 : Below wr.heap.size wr W3 := by rw [← hW3]; exact lowB (Below.refl _ _) _
      have c4 : Below W3.heap.size W3 W4 := by rw [← hW4]; exact lowB (Below.refl _ _) _
      have kh1 : W4.heap[h1]? = some (.cells #[.int .u8 80, .int .u8 75, .int .u8 5, .int .u8 6] 5 (4, 5)) := by
        have h3 : W3.heap[wr.heap.size]? = some (.cells #[.int .u8 80, .int .u8 75, .int .u8 5, .int .u8 6] 5 (4, 5)) := by rw [← hW3]; exact heap_alloc_new _ _
        rw [← hh1]
        exact (c4.block _ (Array.getElem?_eq_some_iff.1 h3).1).trans h3
      have hcv := Lib.run_convert_bytes_const (P := Tryz.prog) wr 23 5 #[.int .u8 80, .int .u8 75, .int .u8 5, .int .u8 6] 4 4 Tryz.underlying23 Tryz.underlying5
      rw [show (#[Value.int .u8 80, .int .u8 75, .int .u8 5, .int .u8 6] : Array Value).size = 4 from rfl, hW3] at hcv
      have kh2 : Blk W4 h2 #[.int .u32 0, .int .u32 0, .int .u32 (i : Int), .int .u32 (i : Int)] 39 := by rw [← hh2, ← hW4]; exact Blk.new _ _ _
      have o4 : Src wr.heap.size W4 (.slice (some ⟨h1, 0, none⟩) 4 4) [80, 75, 5, 6] := Or.inr ⟨h1, _, _, rfl, kh1, Nat.le_of_eq hh1, rfl, fun k hk => by
        have : k = 0 ∨ k = 1 ∨ k = 2 ∨ k = 3 := by simp at hk; omega
        rcases this with rfl | rfl | rfl | rfl <;> rfl⟩
      have b4 : Below wr.heap.size wr W4 := low_trans c3 c4
      have A0 := unhide HST
      have A4 := A0.step b4
      have H1 := hide (low_any (kc := 4) (q := 4) (ns := [0, 0, i, i]) o4 b4.size rfl (nums_at kh2 rfl) (kh2.type (by decide)) (A4.k2.type (by decide)) (wd := 2) (A4.k2.cell 0) (by decide) (fun x hx => by simp at hx; omega) (by decide) (by decide))
      have HK := hide (And.intro o4 b4)
      have HW := hide (And.intro hW3 hW4)
      have HP := hide (And.intro hh1 hh2)
      clear hW3 hW4 c3 c4 kh1 kh2 o4 b4 hh1 hh2 A0 A4 htk hAS
      go_wp2_with (go_at_call 172; fail)
      rw [(unhide HW).2, (unhide HP).1, (unhide HP).2]
      refine (unhide H1).mono ?_
      rintro e w5 ⟨v5, rfl, o5, g5⟩
      obtain ⟨o4, b4⟩ := unhide HK
      have b5 : Below wr.heap.size wr w5 := b4.trans (g5.low b4.size (Src.base o4))
      obtain ⟨W6, hW6⟩ : ∃ W6, w5.alloc (.cells #[.int .u32 (en0 : Int), .int .u32 (hn0 : Int)] 39) = W6 := ⟨_, rfl⟩
      have c6 : Below w5.heap.size w5 W6 := by rw [← hW6]; exact lowB (Below.refl _ _) _
      have kh6 : Blk W6 w5.heap.size #[.int .u32 (en0 : Int), .int .u32 (hn0 : Int)] 39 := by rw [← hW6]; exact Blk.new _ _ _
      have o6 := o5.low c6
      have b6 := b5.trans (c6.mono b5.size)
      have A6 := (unhide HST).step b6
      have H2 := hide (low_any (kc := 2) (q := 2) (ns := [en0, hn0]) o6 b6.size rfl (nums_at kh6 rfl) (kh6.type (by decide)) (A6.k4.type (by decide)) (wd := 4) (A6.k4.cell 0) (by decide) (fun x hx => by simp at hx; omega) (by decide) (by simp [leAll_len]))
      have HW6 := hide hW6
      have HK6 := hide (And.intro o6 b6)
      clear hcv o5 g5 o4 b4 b5 hW6 c6 kh6 o6 b6 A6 HK H1
      go_wp2_with (go_at_call 172; fail)
      rw [unhide HW6]
      refine (unhide H2).mono ?_
      rintro e w7 ⟨v7, rfl, o7, g7⟩
      obtain ⟨o6, b6⟩ := unhide HK6
      have b7 : Below wr.heap.size wr w7 := b6.trans (g7.low b6.size (Src.base o6))
      obtain ⟨W8, hW8⟩ : ∃ W8, w7.alloc (.cells #[.int .u32 0] 39) = W8 := ⟨_, rfl⟩
      have c8 : Below w7.heap.size w7 W8 := by rw [← hW8]; exact lowB (Below.refl _ _) _
      have kh8 : Blk W8 w7.heap.size #[.int .u32 0] 39 := by rw [← hW8]; exact Blk.new _ _ _
      have o8 := o7.low c8
      have b8 := b7.trans (c8.mono b7.size)
      have A8 := (unhide HST).step b8
      have H3 := hide (low_any (kc := 1) (q := 1) (ns := [0]) o8 b8.size rfl (nums_at kh8 rfl) (kh8.type (by decide)) (A8.k2.type (by decide)) (wd := 2) (A8.k2.cell 0) (by decide) (fun x hx => by simp at hx; omega) (by decide) (by simp [leAll_len]))
      have HW8 := hide hW8
      have HK8 := hide (And.intro o8 b8)
      clear o7 g7 o6 b6 b7 hW8 c8 kh8 o8 b8 A8 HK6 H2
      go_wp2_with (go_at_call 172; fail)
      rw [unhide HW8]
      refine (unhide H3).mono ?_
      rintro e w9 ⟨v9, rfl, o9, g9⟩
      obtain ⟨o8, b8⟩ := unhide HK8
      have b9 : Below wr.heap.size wr w9 := b8.trans (g9.low b8.size (Src.base o8))
      have A9 := (unhide HST).step b9
      have ob9 := Src.base o9
      have o9 := Src.own o9 (by simp [leAll_len])
      obtain ⟨T, hT⟩ : ∃ T : Bs, (([80, 75, 5, 6] ++ leAll 2 [0, 0, i, i]) ++ leAll 4 [en0, hn0]) ++ leAll 2 [0] = T := ⟨_, rfl⟩
      have hTl : T.length = 22 := by rw [← hT]; simp [leAll_len]
      rw [hT] at o9
      have HT := hide hT
      obtain ⟨a9, c9, hv9, hat9, -, -⟩ := OwnB.at o9
      obtain ⟨tn, htn⟩ : ∃ q, T.length = q := ⟨_, rfl⟩
      rw [htn] at hv9 hTl
      subst hv9
      obtain ⟨ea', ec', hev', hea, -, -⟩ := OwnB.at A9.e
      rw [unhide HEN] at hev'
      cases hev'
      obtain ⟨v10, w10, happ1, o10, g10⟩ := app_bytesF (c := ec) A9.h A9.sz (unhide HEN) hea (by have := unhide HHN; omega)
      have hat10 := BAt.grB hat9 g10 (fun B O e => by
        subst e
        intro e2
        have h1 := ob9 B rfl
        have h2 := own_lt (unhide HST).h B e2
        omega)
      have b10 := A9.low.trans (g10.low A9.low.size (fun q hq => OwnB.base A9.h q hq))
      obtain ⟨a10, c10, hv10, -, -, -⟩ := OwnB.at o10
      obtain ⟨n10, hn10⟩ : ∃ q, (H ++ E).length = q := ⟨_, rfl⟩
      rw [hn10] at hv10
      subst hv10
      obtain ⟨v11, w11, happ2, o11, g11⟩ := app_bytesF (c := c9) o10 b10.size htn hat10 (by rw [List.length_append]; have := unhide HHN; have := unhide HEN; omega)
      have b11 := b10.trans (g11.low b10.size (fun q hq => OwnB.base o10 q hq))
      clear hTl
      have HR := hide (And.intro o11 b11)
      clear o9 g9 o8 b8 b9 A9 ob9 hT hat9 hea o10 g10 hat10 b10 hn10 o11 g11 b11 HK8 H3
      go_wp2_with (at_builtin; first | (refine Lib.wpList_append_run _ rfl _ _ _ _ rfl _ _ rfl rfl _ _ happ1 ?_; clear happ1) | (refine Lib.wpList_append_run _ rfl _ _ _ _ rfl _ _ rfl rfl _ _ happ2 ?_; clear happ2))
      go_ret
      exact ⟨_, rfl, by rw [unhide HZ, unhide HT]; exact (unhide HR).1, (unhide HR).2⟩
end Go.Proofs.YtkablmjkffdloaaGreatDoor

namespace Go.Proofs.YtkablmjkffdloaaGreatDoor
open Go.RowKit

theorem sizes_le {K : Nat} : ∀ (l : List Nd), (∀ p ∈ l, 76 + 2 * p.1.length + p.2.length ≤ K) → sizesL l ≤ l.length * K
  | [], _ => by simp [sizesL]
  | p :: l, h => by
    have h1 := h p (List.mem_cons_self ..)
    have h2 := sizes_le l (fun q hq => h q (List.mem_cons_of_mem _ hq))
    rw [sizes_cons, List.length_cons, Nat.add_mul, Nat.one_mul]
    omega
theorem sizes_bound {w : World} {xs : List Fl} {dat : Fl → Bs} {n : Nat} (hx : xs.length = n) (hn : n ≤ 1000) (hd : DatG w xs dat) : sizesL (xs.map (ndF dat)) ≤ 1300000000 := by
  have h := sizes_le (K := 1300000) (xs.map (ndF dat)) (fun p hp => by
    obtain ⟨x, hxm, rfl⟩ := List.mem_map.1 hp
    have h1 := hd.len x hxm
    have h2 := hd.few x hxm
    have h3 := hd.nm x hxm
    show 76 + 2 * x.nm.length + (dat x).length ≤ 1300000
    omega)
  rw [List.length_map, hx] at h
  omega
theorem sizes_sn {l : List Nd} {i : Nat} (h : i < l.length) : sizesL (l.take (i + 1)) = sizesL (l.take i) + (76 + 2 * l[i].1.length + l[i].2.length) := by
  rw [take_sn h, sizes_app]
  rfl

set_option maxRecDepth 100000 in
set_option maxHeartbeats 4000000 in
theorem size_any {w : World} {a : Option Addr} {n c : Nat} {xs : List Fl} {dat : Fl → Bs} (hx : xs.length = n) (hn : n ≤ 1000) (h : FAt w a xs) (hd : DatG w xs dat) :
    Calls Tryz.prog 70 #[.slice a n c] w fun e w' => e = .returned (.int .i64 ((22 + sizesL (xs.map (ndF dat)) : Nat) : Int)) ∧ Below w.heap.size w w' := by
  have hsz := sizes_bound hx hn hd
  obtain ⟨L, hL⟩ : ∃ L, xs.map (ndF dat) = L := ⟨_, rfl⟩
  have hLl : L.length = n := by rw [← hL, List.length_map]; exact hx
  rw [hL] at hsz ⊢
  have HX := hide hx
  have HA := hide h
  have HD := hide hd
  have HLX := hide hL
  have HLL := hide hLl
  have HSZ := hide hsz
  clear hx h hd hL hLl hsz
  go_enter Tryz.func70, Tryz.ntmps70
  go_wp2
  go_loopw [3, 5, 8] (fun v3 _ v8 wr => ∃ i s : Nat, i ≤ n ∧ v8 = .int .i64 (i : Int) ∧ v3 = .int .i64 (s : Int) ∧ Hid (s = 22 + sizesL (L.take i)) ∧ Below w.heap.size w wr) (fun _ _ v8 _ => n - (intOf v8).toNat)
  case atStart => exact ⟨0, 22, Nat.zero_le _, rfl, rfl, hide rfl, Below.refl _ _⟩
  case round =>
    rename World => wr
    obtain ⟨i, s, hi, rfl, rfl, hs, hlow⟩ := hrel
    have hsb : s ≤ 1300000022 := by
      have h1 := sizes_take L i
      have h2 := unhide HSZ
      have h3 := unhide hs
      omega
    by_cases hlt : i < n
    · have hil : i < xs.length := by rw [unhide HX]; exact hlt
      have hlt' : (i : Int) < (n : Int) := by omega
      obtain ⟨B, O, rfl, g0, g1⟩ := ((unhide HA).low hlow).get hil
      have mx : xs[i] ∈ xs := List.getElem_mem hil
      have x1 := (unhide HD).len _ mx
      have x2 := (unhide HD).few _ mx
      have x7 := (unhide HD).nm _ mx
      have hil2 : i < L.length := by rw [unhide HLL]; exact hlt
      have hLi : L[i] = (xs[i].nm, dat xs[i]) := by
        have h1 : L[i]? = some (ndF dat xs[i]) := by rw [← unhide HLX]; simp [hil]
        rw [List.getElem?_eq_getElem hil2] at h1
        exact Option.some.inj h1
      have htk := sizes_sn hil2
      rw [hLi] at htk
      simp only at htk
      rw [x1] at htk
      obtain ⟨x, hxx⟩ : ∃ x, xs[i] = x := ⟨_, rfl⟩
      rw [hxx] at g0 g1 x2 x7 htk
      clear x1 hLi hxx mx
      obtain ⟨nm, xa, xn, xc⟩ := x
      simp only at g0 g1 x2 x7 htk
      obtain ⟨z, hz⟩ : ∃ z, nm.length = z := ⟨_, rfl⟩
      have hsz : (ba nm).size = z := by rw [ba_size]; exact hz
      rw [hz] at x7 htk
      obtain ⟨u1, hu1⟩ : ∃ u, 2 * z = u := ⟨_, rfl⟩
      have y1 : (2 : Int) * (z : Int) = (u1 : Int) := by omega
      have y1w : IntKind.i64.wrap (u1 : Int) = (u1 : Int) := by rw [IntKind.wrap_i64]; omega
      obtain ⟨u2, hu2⟩ : ∃ u, 76 + u1 = u := ⟨_, rfl⟩
      have y2 : (76 : Int) + (u1 : Int) = (u2 : Int) := by omega
      have y2w : IntKind.i64.wrap (u2 : Int) = (u2 : Int) := by rw [IntKind.wrap_i64]; omega
      obtain ⟨u3, hu3⟩ : ∃ u, u2 + xn = u := ⟨_, rfl⟩
      have y3 : (u2 : Int) + (xn : Int) = (u3 : Int) := by omega
      have y3w : IntKind.i64.wrap (u3 : Int) = (u3 : Int) := by rw [IntKind.wrap_i64]; omega
      obtain ⟨u4, hu4⟩ : ∃ u, s + u3 = u := ⟨_, rfl⟩
      have y4 : (s : Int) + (u3 : Int) = (u4 : Int) := by omega
      have y4w : IntKind.i64.wrap (u4 : Int) = (u4 : Int) := by rw [IntKind.wrap_i64]; omega
      have HS4 : Hid (u4 = 22 + sizesL (L.take (i + 1))) := hide (by
        have h3 := unhide hs
        omega)
      obtain ⟨i', hi'⟩ : ∃ i', i + 1 = i' := ⟨_, rfl⟩
      have y5 : (i : Int) + 1 = (i' : Int) := by omega
      have y5w : IntKind.i64.wrap (i' : Int) = (i' : Int) := by rw [IntKind.wrap_i64]; omega
      have hi2 : i' ≤ n := by omega
      rw [hi'] at HS4
      obtain ⟨F, hF⟩ : ∃ F, wr.heap.size = F := ⟨_, rfl⟩
      obtain ⟨W1, hW1⟩ : ∃ W1, wr.alloc (.cells #[.string (ba nm), .slice xa xn xc] 56) = W1 := ⟨_, rfl⟩
      have b1 : Below wr.heap.size wr W1 := by rw [← hW1]; exact lowB (Below.refl _ _) _
      have kF : Blk W1 F #[.string (ba nm), .slice xa xn xc] 56 := by rw [← hW1, ← hF]; exact Blk.new _ _ _
      have f0 := kF.cell 0
      have f1 := kF.cell 1
      rw [← hW1, ← hF] at f0 f1
      have HLW : Hid (∀ q, Below w.heap.size w (wr.drewN q)) := hide (fun q => low_trans hlow (low_q q))
      have HB1 : Hid (Below w.heap.size w W1) := hide (low_trans hlow b1)
      rw [← hW1] at HB1
      clear hz hu1 hu2 hu3 hu4 hW1 hF b1 kF hlow htk x2 x7 hs hsb HLW
      go_wp2
      go_roundw
      case rel => exact ⟨i', u4, hi2, rfl, rfl, HS4, unhide HB1⟩
      case measure => simp [intOf]; omega
    · have hie : i = n := by omega
      subst hie
      have HF : Hid (s = 22 + sizesL L) := hide (by
        have h1 := unhide hs
        rw [List.take_of_length_le (by rw [unhide HLL]; exact Nat.le_refl _)] at h1
        exact h1)
      have HB := hide hlow
      clear hs hlow hsb
      go_wp2
      go_ret
      exact ⟨by rw [← unhide HF]; rfl, unhide HB⟩
end Go.Proofs.YtkablmjkffdloaaGreatDoor
