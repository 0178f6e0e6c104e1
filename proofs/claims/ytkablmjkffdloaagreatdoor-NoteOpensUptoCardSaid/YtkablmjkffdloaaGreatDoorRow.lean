/-
  Rows of bytes that a call owns; numbers laid behind them, the high byte first.
-/
import Derived.Test.YtkablmjkffdloaaGreatDoorShaP
import Derived.Maps.AppendAt
import Derived.Deep.AppendLies
import Derived.Lib.AppendZeros
import Derived.OwnWalk
namespace Go.Proofs.YtkablmjkffdloaaGreatDoor
open Go.RowKit

def byteV (c : UInt8) : Value := .int .u8 (c.toNat : Int)
/-- A row of bytes. -/
abbrev OwnB (base : Nat) (w : World) (v : Value) (l : Bs) : Prop := w.ownsRow base 5 1 v l.length (l.map byteV)

/-- What a call leaves that may write into one row alone. -/
structure GrB (w w' : World) (v v' : Value) : Prop where
  os : w'.os = w.os
  tape : w'.tape = w.tape
  output : w'.output = w.output
  size : w.heap.size ≤ w'.heap.size
  block : ∀ k, k < w.heap.size → some k ≠ v.ownBlock → w'.heap[k]? = w.heap[k]?
  own : v'.ownBlock = v.ownBlock ∨ ∃ g, v'.ownBlock = some g ∧ w.heap.size ≤ g

theorem GrB.refl (w : World) (v : Value) : GrB w w v v := ⟨rfl, rfl, rfl, Nat.le_refl _, fun _ _ _ => rfl, Or.inl rfl⟩
theorem GrB.trans {a b c : World} {u v x : Value} (h : GrB a b u v) (k : GrB b c v x) : GrB a c u x := by
  refine ⟨k.os.trans h.os, k.tape.trans h.tape, k.output.trans h.output, Nat.le_trans h.size k.size, fun i hi hne => ?_, ?_⟩
  · have hv : some i ≠ v.ownBlock := by
      rcases h.own with e | ⟨g, e, hg⟩
      · rw [e]; exact hne
      · rw [e]; intro hh; cases hh; omega
    exact (k.block i (Nat.lt_of_lt_of_le hi h.size) hv).trans (h.block i hi hne)
  · rcases k.own with e | ⟨g, e, hg⟩
    · rw [e]; exact h.own
    · exact Or.inr ⟨g, e, Nat.le_trans h.size hg⟩
theorem GrB.drew {a b : World} {u v : Value} (h : GrB a b u v) : GrB a b.drew u v := ⟨h.os, h.tape, h.output, h.size, h.block, h.own⟩
theorem GrB.alloc (w : World) (o : Obj) (v : Value) : GrB w (w.alloc o) v v := ⟨rfl, rfl, rfl, by simp, fun k hk _ => Below.heap_alloc _ _ _ hk, Or.inl rfl⟩
/-- Seen from a base below the row nothing has turned. -/
theorem GrB.low {B : Nat} {a b : World} {u v : Value} (h : GrB a b u v) (hB : B ≤ a.heap.size) (hu : ∀ g, u.ownBlock = some g → B ≤ g) : Below B a b :=
  ⟨h.os, h.tape, h.output, h.size, fun k hk => h.block k (by omega) (fun e => by have := hu k e.symm; omega)⟩

theorem info5 : (Tryz.prog.info? 5).map (fun i => (i.zero, i.size, i.bytes)) = some (some (.int .u8 0), 1, 1) := by kernel_rfl

theorem OwnB.base {B : Nat} {w : World} {v : Value} {l : Bs} (h : OwnB B w v l) : ∀ g, v.ownBlock = some g → B ≤ g := by
  intro g hg
  rcases h.2 with ⟨rfl, _⟩ | ⟨g', cap, cur, rfl, hb, _⟩
  · cases hg
  · cases hg; exact hb
theorem OwnB.at {B : Nat} {w : World} {v : Value} {l : Bs} (h : OwnB B w v l) : ∃ a c, v = .slice a l.length c ∧ BAt w a l ∧ l.length ≤ c ∧ c ≤ maxLen := by
  rcases h.2 with ⟨rfl, h0⟩ | ⟨g, cap, cur, rfl, hb, hblk, hcap, hcm, hcs, hcur⟩
  · exact ⟨none, 0, by rw [h0], ⟨Or.inl (List.length_eq_zero_iff.1 h0)⟩, by omega, by omega⟩
  · refine ⟨_, cap, rfl, ⟨Or.inr ⟨g, 0, rfl, fun k hk => ?_⟩⟩, hcap, hcm⟩
    have h1 : cur.toList[k]? = (l.map byteV)[k]? := by rw [← hcur, List.getElem?_take_of_lt (by omega)]
    have h2 : cur[k]? = cur.toList[k]? := by simp
    rw [Nat.zero_add, Lib.cell_of_heap hblk, h2, h1]
    simp [hk, byteV]
theorem OwnB.keep {B : Nat} {w w' : World} {v : Value} {l : Bs} (h : OwnB B w v l) (hk : ∀ g, v.ownBlock = some g → w'.heap[g]? = w.heap[g]?) : OwnB B w' v l := by
  refine ⟨h.1, h.2.imp id ?_⟩
  rintro ⟨g, cap, cur, rfl, hb, hblk, hr⟩
  exact ⟨g, cap, cur, rfl, hb, (hk g rfl).trans hblk, hr⟩
theorem OwnB.lt {B : Nat} {w : World} {v : Value} {l : Bs} (h : OwnB B w v l) : ∀ g, v.ownBlock = some g → g < w.heap.size := by
  intro g hg
  rcases h.2 with ⟨rfl, _⟩ | ⟨g', cap, cur, rfl, hb, hblk, _⟩
  · cases hg
  · cases hg; exact (Array.getElem?_eq_some_iff.1 hblk).1
theorem OwnB.low {B : Nat} {w w' : World} {v : Value} {l : Bs} (h : OwnB B w v l) (hb : Below w.heap.size w w') : OwnB B w' v l := h.keep fun g hg => hb.block g (h.lt g hg)

theorem ownB_cat {B : Nat} {w : World} {v : Value} {l m : Bs} (h : w.ownsRow B 5 1 v (l.length + m.length) (l.map byteV ++ m.map byteV)) : OwnB B w v (l ++ m) := by
  unfold OwnB
  rw [List.map_append, List.length_append]
  exact h

theorem byteV_one (l : Bs) : ∀ u ∈ l.map byteV, u.oneCell' = true := by
  intro u hu
  obtain ⟨c, _, rfl⟩ := List.mem_map.1 hu
  rfl

/-- append of bytes that lie somewhere onto a row. -/
theorem app_bytes {B : Nat} {w : World} {v : Value} {l m : Bs} {a : Addr} {n c : Nat} (ho : OwnB B w v l) (hB : B ≤ w.heap.size) (hn : m.length = n) (hm : ∀ k (hk : k < m.length), w.cell? (a.add k) = some (byteV m[k])) (hl : l.length + n ≤ 4294967296) :
    ∃ v' w', (Builtin.append_ #[23, 23] 23 #[v, .slice (some a) n c]).run Tryz.prog w = .ok v' w' ∧ OwnB B w' v' (l ++ m) ∧ GrB w w' v v' := by
  obtain ⟨i0, hi, hz0, hz1, hz2⟩ := info_parts info5
  subst hn
  obtain ⟨v', w', h1, h2, h3, _, h5⟩ := run_append_own_at (P := Tryz.prog) w B 23 23 5 i0 _ 1 1 Tryz.underlying23 hi hz0 hz1 hz2 rfl (by decide) v l.length (l.map byteV) ho a m.length c (m.map byteV) (by simp) (fun j u hu => by
    rw [List.getElem?_map] at hu
    by_cases hj : j < m.length
    · rw [List.getElem?_eq_getElem hj] at hu
      simp only [Option.map_some, Option.some.injEq] at hu
      rw [← hu]
      exact hm j hj
    · rw [List.getElem?_eq_none (by omega)] at hu
      cases hu) (byteV_one m) (by unfold maxLen; omega) (by omega) hB
  refine ⟨v', w', h1, ownB_cat h2, ⟨h3.os, h3.tape, h3.output, h3.size, fun k hk hne => h3.block k hk hne, ?_⟩⟩
  rcases h5 with e | e
  · exact Or.inl e
  · exact Or.inr ⟨_, e, Nat.le_refl _⟩

/-- append of one byte, laid into a block of its own. -/
theorem app_byte {B : Nat} {w W1 : World} {v : Value} {l : Bs} {c : UInt8} (ho : OwnB B w v l) (hB : B ≤ w.heap.size) (hl : l.length ≤ 2147483648) (hW : w.alloc (.cells #[.int .u8 (c.toNat : Int)] 5) = W1) :
    ∃ v' w', (Builtin.append_ #[23, 23] 23 #[v, .slice (some ⟨w.heap.size, 0, none⟩) 1 1]).run Tryz.prog W1 = .ok v' w' ∧ OwnB B w' v' (l ++ [c]) ∧ GrB w w' v v' := by
  have hb : Below w.heap.size w W1 := by rw [← hW]; exact (Below.refl _ _).alloc (Nat.le_refl _) _
  have hblk : Blk W1 w.heap.size #[.int .u8 (c.toNat : Int)] 5 := by rw [← hW]; exact Blk.new _ _ _
  obtain ⟨v', w', h1, h2, h3⟩ := app_bytes (a := ⟨w.heap.size, 0, none⟩) (m := [c]) (n := 1) (c := 1) (ho.low hb) (Nat.le_trans hB hb.size) rfl (fun k hk => by
    have : k = 0 := by simp at hk; exact hk
    subst this
    exact hblk.cell 0) (by omega)
  have ha : GrB w W1 v v := by rw [← hW]; exact GrB.alloc _ _ _
  exact ⟨v', w', h1, h2, ha.trans h3⟩

theorem byte4_24 (x : UInt32) : (x.toNat : Int) / (16777216 : Int) % (256 : Int) = ((x >>> 24).toUInt8.toNat : Int) := by
  rw [show (x.toNat : Int) / (16777216 : Int) = ((x >>> (UInt32.ofNat 24)).toNat : Int) from shrN x (k := 24) (p := 16777216) (by decide) (by decide), UInt32.toNat_toUInt8]
  simp
theorem byte4_16 (x : UInt32) : (x.toNat : Int) / (65536 : Int) % (256 : Int) = ((x >>> 16).toUInt8.toNat : Int) := by
  rw [show (x.toNat : Int) / (65536 : Int) = ((x >>> (UInt32.ofNat 16)).toNat : Int) from shrN x (k := 16) (p := 65536) (by decide) (by decide), UInt32.toNat_toUInt8]
  simp
theorem byte4_8 (x : UInt32) : (x.toNat : Int) / (256 : Int) % (256 : Int) = ((x >>> 8).toUInt8.toNat : Int) := by
  rw [show (x.toNat : Int) / (256 : Int) = ((x >>> (UInt32.ofNat 8)).toNat : Int) from shrN x (k := 8) (p := 256) (by decide) (by decide), UInt32.toNat_toUInt8]
  simp
theorem byte4_0 (x : UInt32) : (x.toNat : Int) % (256 : Int) = (x.toUInt8.toNat : Int) := by
  rw [UInt32.toNat_toUInt8]
  simp

set_option maxRecDepth 100000 in
set_option maxHeartbeats 2000000 in
theorem high4 {base : Nat} {w : World} {v : Value} {l : Bs} {cB : Nat} {x : UInt32} (ho : OwnB base w v l) (hcell : w.cell? ⟨cB, 0, none⟩ = some (.int .i64 4)) (hb : base ≤ w.heap.size) (hl : l.length ≤ 1000000) :
    Calls Tryz.prog 144 #[v, .int .u64 (x.toNat : Int), .pointer (some ⟨cB, 0, none⟩)] w fun e w' => ∃ v', e = .returned v' ∧ OwnB base w' v' (l ++ be4 x) ∧ GrB w w' v v' := by
  have HO := hide ho
  have HB := hide hb
  clear ho hb
  go_enter Tryz.func144, Tryz.ntmps144
  go_wp2
  clear hcell
  go_loopw [0, 6] (fun v0 v6 wr => ∃ j : Nat, j ≤ 4 ∧ v6 = .int .i64 (24 - 8 * (j : Int)) ∧ OwnB base wr v0 (l ++ (be4 x).take j) ∧ GrB w wr v v0 ∧ base ≤ wr.heap.size) (fun _ v6 _ => (intOf v6 + 8).toNat)
  case atStart => exact ⟨0, Nat.zero_le _, by simp, by simpa using unhide HO, GrB.refl _ _, unhide HB⟩
  case round =>
    rename World => wr
    obtain ⟨j, hj, rfl, hrow, hgr0, hsz⟩ := hrel
    have hlen : (l ++ (be4 x).take j).length ≤ 2147483648 := by rw [List.length_append, List.length_take]; omega
    by_cases hlt : j < 4
    · have hj4 : j = 0 ∨ j = 1 ∨ j = 2 ∨ j = 3 := by omega
      rcases hj4 with rfl | rfl | rfl | rfl
      · have hbv : (x.toNat : Int) / (16777216 : Int) % (256 : Int) = (((x >>> 24).toUInt8).toNat : Int) := byte4_24 x
        obtain ⟨W1, hW1⟩ : ∃ W1, wr.alloc (.cells #[.int .u8 ((x.toNat : Int) / (16777216 : Int) % (256 : Int))] 5) = W1 := ⟨_, rfl⟩
        obtain ⟨v', w', happ, hown, hgr⟩ := app_byte (c := (x >>> 24).toUInt8) (W1 := W1) hrow hsz hlen (by rw [← hW1, hbv])
        have HP : Hid (OwnB base w' v' (l ++ (be4 x).take 1) ∧ GrB w w' v v' ∧ base ≤ w'.heap.size) := hide ⟨by have := hown; rw [List.append_assoc] at this; exact this, hgr0.trans hgr, Nat.le_trans hsz hgr.size⟩
        have HW1 := hide hW1
        rw [show (((0 : Nat) : Int)) = (0 : Int) from rfl]
        clear hrow hgr0 hsz hbv hown hgr hW1 hj hlt
        go_wp2_with (at_builtin; rw [unhide HW1]; refine Lib.wpList_append_run _ rfl _ _ _ _ rfl _ _ rfl rfl _ _ happ ?_)
        go_roundw
        case rel => exact ⟨1, by omega, by simp, (unhide HP).1, (unhide HP).2.1, (unhide HP).2.2⟩
        case measure => simp [intOf]
      · have hbv : (x.toNat : Int) / (65536 : Int) % (256 : Int) = (((x >>> 16).toUInt8).toNat : Int) := byte4_16 x
        obtain ⟨W1, hW1⟩ : ∃ W1, wr.alloc (.cells #[.int .u8 ((x.toNat : Int) / (65536 : Int) % (256 : Int))] 5) = W1 := ⟨_, rfl⟩
        obtain ⟨v', w', happ, hown, hgr⟩ := app_byte (c := (x >>> 16).toUInt8) (W1 := W1) hrow hsz hlen (by rw [← hW1, hbv])
        have HP : Hid (OwnB base w' v' (l ++ (be4 x).take 2) ∧ GrB w w' v v' ∧ base ≤ w'.heap.size) := hide ⟨by have := hown; rw [List.append_assoc] at this; exact this, hgr0.trans hgr, Nat.le_trans hsz hgr.size⟩
        have HW1 := hide hW1
        rw [show (((1 : Nat) : Int)) = (1 : Int) from rfl]
        clear hrow hgr0 hsz hbv hown hgr hW1 hj hlt
        go_wp2_with (at_builtin; rw [unhide HW1]; refine Lib.wpList_append_run _ rfl _ _ _ _ rfl _ _ rfl rfl _ _ happ ?_)
        go_roundw
        case rel => exact ⟨2, by omega, by simp, (unhide HP).1, (unhide HP).2.1, (unhide HP).2.2⟩
        case measure => simp [intOf]
      · have hbv : (x.toNat : Int) / (256 : Int) % (256 : Int) = (((x >>> 8).toUInt8).toNat : Int) := byte4_8 x
        obtain ⟨W1, hW1⟩ : ∃ W1, wr.alloc (.cells #[.int .u8 ((x.toNat : Int) / (256 : Int) % (256 : Int))] 5) = W1 := ⟨_, rfl⟩
        obtain ⟨v', w', happ, hown, hgr⟩ := app_byte (c := (x >>> 8).toUInt8) (W1 := W1) hrow hsz hlen (by rw [← hW1, hbv])
        have HP : Hid (OwnB base w' v' (l ++ (be4 x).take 3) ∧ GrB w w' v v' ∧ base ≤ w'.heap.size) := hide ⟨by have := hown; rw [List.append_assoc] at this; exact this, hgr0.trans hgr, Nat.le_trans hsz hgr.size⟩
        have HW1 := hide hW1
        rw [show (((2 : Nat) : Int)) = (2 : Int) from rfl]
        clear hrow hgr0 hsz hbv hown hgr hW1 hj hlt
        go_wp2_with (at_builtin; rw [unhide HW1]; refine Lib.wpList_append_run _ rfl _ _ _ _ rfl _ _ rfl rfl _ _ happ ?_)
        go_roundw
        case rel => exact ⟨3, by omega, by simp, (unhide HP).1, (unhide HP).2.1, (unhide HP).2.2⟩
        case measure => simp [intOf]
      · have hbv : (x.toNat : Int) % (256 : Int) = ((x.toUInt8).toNat : Int) := byte4_0 x
        obtain ⟨W1, hW1⟩ : ∃ W1, wr.alloc (.cells #[.int .u8 ((x.toNat : Int) % (256 : Int))] 5) = W1 := ⟨_, rfl⟩
        obtain ⟨v', w', happ, hown, hgr⟩ := app_byte (c := x.toUInt8) (W1 := W1) hrow hsz hlen (by rw [← hW1, hbv])
        have HP : Hid (OwnB base w' v' (l ++ (be4 x).take 4) ∧ GrB w w' v v' ∧ base ≤ w'.heap.size) := hide ⟨by have := hown; rw [List.append_assoc] at this; exact this, hgr0.trans hgr, Nat.le_trans hsz hgr.size⟩
        have HW1 := hide hW1
        rw [show (((3 : Nat) : Int)) = (3 : Int) from rfl]
        clear hrow hgr0 hsz hbv hown hgr hW1 hj hlt
        go_wp2_with (at_builtin; rw [unhide HW1]; refine Lib.wpList_append_run _ rfl _ _ _ _ rfl _ _ rfl rfl _ _ happ ?_)
        go_roundw
        case rel => exact ⟨4, by omega, by simp, (unhide HP).1, (unhide HP).2.1, (unhide HP).2.2⟩
        case measure => simp [intOf]
    · have hj4 : j = 4 := by omega
      subst hj4
      have HR := hide hrow
      have HG := hide hgr0
      rw [show (((4 : Nat) : Int)) = (4 : Int) from rfl]
      clear hrow hgr0 hsz hj hlt
      go_wp2
      go_ret
      exact ⟨_, rfl, unhide HR, unhide HG⟩

theorem byteN (n : Nat) {k p : Nat} (hp : 2 ^ k = p) : (n : Int) / (p : Int) % (256 : Int) = ((UInt8.ofNat (n >>> k)).toNat : Int) := by
  rw [UInt8.toNat_ofNat', Nat.shiftRight_eq_div_pow, hp]
  simp
theorem byteN0 (n : Nat) : (n : Int) % (256 : Int) = ((UInt8.ofNat n).toNat : Int) := by
  rw [UInt8.toNat_ofNat']
  simp

set_option maxRecDepth 100000 in
set_option maxHeartbeats 2000000 in
theorem high8 {base : Nat} {w : World} {v : Value} {l : Bs} {cB : Nat} {n : Nat} (ho : OwnB base w v l) (hcell : w.cell? ⟨cB, 0, none⟩ = some (.int .i64 8)) (hb : base ≤ w.heap.size) (hl : l.length ≤ 1000000) :
    Calls Tryz.prog 144 #[v, .int .u64 (n : Int), .pointer (some ⟨cB, 0, none⟩)] w fun e w' => ∃ v', e = .returned v' ∧ OwnB base w' v' (l ++ be8 n) ∧ GrB w w' v v' := by
  have HO := hide ho
  have HB := hide hb
  clear ho hb
  go_enter Tryz.func144, Tryz.ntmps144
  go_wp2
  clear hcell
  go_loopw [0, 6] (fun v0 v6 wr => ∃ j : Nat, j ≤ 8 ∧ v6 = .int .i64 (56 - 8 * (j : Int)) ∧ OwnB base wr v0 (l ++ (be8 n).take j) ∧ GrB w wr v v0 ∧ base ≤ wr.heap.size) (fun _ v6 _ => (intOf v6 + 8).toNat)
  case atStart => exact ⟨0, Nat.zero_le _, by simp, by simpa using unhide HO, GrB.refl _ _, unhide HB⟩
  case round =>
    rename World => wr
    obtain ⟨j, hj, rfl, hrow, hgr0, hsz⟩ := hrel
    have hlen : (l ++ (be8 n).take j).length ≤ 2147483648 := by rw [List.length_append, List.length_take]; omega
    by_cases hlt : j < 8
    · have hj4 : j = 0 ∨ j = 1 ∨ j = 2 ∨ j = 3 ∨ j = 4 ∨ j = 5 ∨ j = 6 ∨ j = 7 := by omega
      rcases hj4 with rfl | rfl | rfl | rfl | rfl | rfl | rfl | rfl
      · have hbv : (n : Int) / (72057594037927936 : Int) % (256 : Int) = ((UInt8.ofNat (n >>> 56)).toNat : Int) := byteN n (k := 56) (p := 72057594037927936) (by decide)
        obtain ⟨W1, hW1⟩ : ∃ W1, wr.alloc (.cells #[.int .u8 ((n : Int) / (72057594037927936 : Int) % (256 : Int))] 5) = W1 := ⟨_, rfl⟩
        obtain ⟨v', w', happ, hown, hgr⟩ := app_byte (c := UInt8.ofNat (n >>> 56)) (W1 := W1) hrow hsz hlen (by rw [← hW1, hbv])
        have HP : Hid (OwnB base w' v' (l ++ (be8 n).take 1) ∧ GrB w w' v v' ∧ base ≤ w'.heap.size) := hide ⟨by have := hown; rw [List.append_assoc] at this; exact this, hgr0.trans hgr, Nat.le_trans hsz hgr.size⟩
        have HW1 := hide hW1
        rw [show (((0 : Nat) : Int)) = (0 : Int) from rfl]
        clear hrow hgr0 hsz hbv hown hgr hW1 hj hlt
        go_wp2_with (at_builtin; rw [unhide HW1]; refine Lib.wpList_append_run _ rfl _ _ _ _ rfl _ _ rfl rfl _ _ happ ?_)
        go_roundw
        case rel => exact ⟨1, by omega, by simp, (unhide HP).1, (unhide HP).2.1, (unhide HP).2.2⟩
        case measure => simp [intOf]
      · have hbv : (n : Int) / (281474976710656 : Int) % (256 : Int) = ((UInt8.ofNat (n >>> 48)).toNat : Int) := byteN n (k := 48) (p := 281474976710656) (by decide)
        obtain ⟨W1, hW1⟩ : ∃ W1, wr.alloc (.cells #[.int .u8 ((n : Int) / (281474976710656 : Int) % (256 : Int))] 5) = W1 := ⟨_, rfl⟩
        obtain ⟨v', w', happ, hown, hgr⟩ := app_byte (c := UInt8.ofNat (n >>> 48)) (W1 := W1) hrow hsz hlen (by rw [← hW1, hbv])
        have HP : Hid (OwnB base w' v' (l ++ (be8 n).take 2) ∧ GrB w w' v v' ∧ base ≤ w'.heap.size) := hide ⟨by have := hown; rw [List.append_assoc] at this; exact this, hgr0.trans hgr, Nat.le_trans hsz hgr.size⟩
        have HW1 := hide hW1
        rw [show (((1 : Nat) : Int)) = (1 : Int) from rfl]
        clear hrow hgr0 hsz hbv hown hgr hW1 hj hlt
        go_wp2_with (at_builtin; rw [unhide HW1]; refine Lib.wpList_append_run _ rfl _ _ _ _ rfl _ _ rfl rfl _ _ happ ?_)
        go_roundw
        case rel => exact ⟨2, by omega, by simp, (unhide HP).1, (unhide HP).2.1, (unhide HP).2.2⟩
        case measure => simp [intOf]
      · have hbv : (n : Int) / (1099511627776 : Int) % (256 : Int) = ((UInt8.ofNat (n >>> 40)).toNat : Int) := byteN n (k := 40) (p := 1099511627776) (by decide)
        obtain ⟨W1, hW1⟩ : ∃ W1, wr.alloc (.cells #[.int .u8 ((n : Int) / (1099511627776 : Int) % (256 : Int))] 5) = W1 := ⟨_, rfl⟩
        obtain ⟨v', w', happ, hown, hgr⟩ := app_byte (c := UInt8.ofNat (n >>> 40)) (W1 := W1) hrow hsz hlen (by rw [← hW1, hbv])
        have HP : Hid (OwnB base w' v' (l ++ (be8 n).take 3) ∧ GrB w w' v v' ∧ base ≤ w'.heap.size) := hide ⟨by have := hown; rw [List.append_assoc] at this; exact this, hgr0.trans hgr, Nat.le_trans hsz hgr.size⟩
        have HW1 := hide hW1
        rw [show (((2 : Nat) : Int)) = (2 : Int) from rfl]
        clear hrow hgr0 hsz hbv hown hgr hW1 hj hlt
        go_wp2_with (at_builtin; rw [unhide HW1]; refine Lib.wpList_append_run _ rfl _ _ _ _ rfl _ _ rfl rfl _ _ happ ?_)
        go_roundw
        case rel => exact ⟨3, by omega, by simp, (unhide HP).1, (unhide HP).2.1, (unhide HP).2.2⟩
        case measure => simp [intOf]
      · have hbv : (n : Int) / (4294967296 : Int) % (256 : Int) = ((UInt8.ofNat (n >>> 32)).toNat : Int) := byteN n (k := 32) (p := 4294967296) (by decide)
        obtain ⟨W1, hW1⟩ : ∃ W1, wr.alloc (.cells #[.int .u8 ((n : Int) / (4294967296 : Int) % (256 : Int))] 5) = W1 := ⟨_, rfl⟩
        obtain ⟨v', w', happ, hown, hgr⟩ := app_byte (c := UInt8.ofNat (n >>> 32)) (W1 := W1) hrow hsz hlen (by rw [← hW1, hbv])
        have HP : Hid (OwnB base w' v' (l ++ (be8 n).take 4) ∧ GrB w w' v v' ∧ base ≤ w'.heap.size) := hide ⟨by have := hown; rw [List.append_assoc] at this; exact this, hgr0.trans hgr, Nat.le_trans hsz hgr.size⟩
        have HW1 := hide hW1
        rw [show (((3 : Nat) : Int)) = (3 : Int) from rfl]
        clear hrow hgr0 hsz hbv hown hgr hW1 hj hlt
        go_wp2_with (at_builtin; rw [unhide HW1]; refine Lib.wpList_append_run _ rfl _ _ _ _ rfl _ _ rfl rfl _ _ happ ?_)
        go_roundw
        case rel => exact ⟨4, by omega, by simp, (unhide HP).1, (unhide HP).2.1, (unhide HP).2.2⟩
        case measure => simp [intOf]
      · have hbv : (n : Int) / (16777216 : Int) % (256 : Int) = ((UInt8.ofNat (n >>> 24)).toNat : Int) := byteN n (k := 24) (p := 16777216) (by decide)
        obtain ⟨W1, hW1⟩ : ∃ W1, wr.alloc (.cells #[.int .u8 ((n : Int) / (16777216 : Int) % (256 : Int))] 5) = W1 := ⟨_, rfl⟩
        obtain ⟨v', w', happ, hown, hgr⟩ := app_byte (c := UInt8.ofNat (n >>> 24)) (W1 := W1) hrow hsz hlen (by rw [← hW1, hbv])
        have HP : Hid (OwnB base w' v' (l ++ (be8 n).take 5) ∧ GrB w w' v v' ∧ base ≤ w'.heap.size) := hide ⟨by have := hown; rw [List.append_assoc] at this; exact this, hgr0.trans hgr, Nat.le_trans hsz hgr.size⟩
        have HW1 := hide hW1
        rw [show (((4 : Nat) : Int)) = (4 : Int) from rfl]
        clear hrow hgr0 hsz hbv hown hgr hW1 hj hlt
        go_wp2_with (at_builtin; rw [unhide HW1]; refine Lib.wpList_append_run _ rfl _ _ _ _ rfl _ _ rfl rfl _ _ happ ?_)
        go_roundw
        case rel => exact ⟨5, by omega, by simp, (unhide HP).1, (unhide HP).2.1, (unhide HP).2.2⟩
        case measure => simp [intOf]
      · have hbv : (n : Int) / (65536 : Int) % (256 : Int) = ((UInt8.ofNat (n >>> 16)).toNat : Int) := byteN n (k := 16) (p := 65536) (by decide)
        obtain ⟨W1, hW1⟩ : ∃ W1, wr.alloc (.cells #[.int .u8 ((n : Int) / (65536 : Int) % (256 : Int))] 5) = W1 := ⟨_, rfl⟩
        obtain ⟨v', w', happ, hown, hgr⟩ := app_byte (c := UInt8.ofNat (n >>> 16)) (W1 := W1) hrow hsz hlen (by rw [← hW1, hbv])
        have HP : Hid (OwnB base w' v' (l ++ (be8 n).take 6) ∧ GrB w w' v v' ∧ base ≤ w'.heap.size) := hide ⟨by have := hown; rw [List.append_assoc] at this; exact this, hgr0.trans hgr, Nat.le_trans hsz hgr.size⟩
        have HW1 := hide hW1
        rw [show (((5 : Nat) : Int)) = (5 : Int) from rfl]
        clear hrow hgr0 hsz hbv hown hgr hW1 hj hlt
        go_wp2_with (at_builtin; rw [unhide HW1]; refine Lib.wpList_append_run _ rfl _ _ _ _ rfl _ _ rfl rfl _ _ happ ?_)
        go_roundw
        case rel => exact ⟨6, by omega, by simp, (unhide HP).1, (unhide HP).2.1, (unhide HP).2.2⟩
        case measure => simp [intOf]
      · have hbv : (n : Int) / (256 : Int) % (256 : Int) = ((UInt8.ofNat (n >>> 8)).toNat : Int) := byteN n (k := 8) (p := 256) (by decide)
        obtain ⟨W1, hW1⟩ : ∃ W1, wr.alloc (.cells #[.int .u8 ((n : Int) / (256 : Int) % (256 : Int))] 5) = W1 := ⟨_, rfl⟩
        obtain ⟨v', w', happ, hown, hgr⟩ := app_byte (c := UInt8.ofNat (n >>> 8)) (W1 := W1) hrow hsz hlen (by rw [← hW1, hbv])
        have HP : Hid (OwnB base w' v' (l ++ (be8 n).take 7) ∧ GrB w w' v v' ∧ base ≤ w'.heap.size) := hide ⟨by have := hown; rw [List.append_assoc] at this; exact this, hgr0.trans hgr, Nat.le_trans hsz hgr.size⟩
        have HW1 := hide hW1
        rw [show (((6 : Nat) : Int)) = (6 : Int) from rfl]
        clear hrow hgr0 hsz hbv hown hgr hW1 hj hlt
        go_wp2_with (at_builtin; rw [unhide HW1]; refine Lib.wpList_append_run _ rfl _ _ _ _ rfl _ _ rfl rfl _ _ happ ?_)
        go_roundw
        case rel => exact ⟨7, by omega, by simp, (unhide HP).1, (unhide HP).2.1, (unhide HP).2.2⟩
        case measure => simp [intOf]
      · have hbv : (n : Int) % (256 : Int) = ((UInt8.ofNat n).toNat : Int) := byteN0 n
        obtain ⟨W1, hW1⟩ : ∃ W1, wr.alloc (.cells #[.int .u8 ((n : Int) % (256 : Int))] 5) = W1 := ⟨_, rfl⟩
        obtain ⟨v', w', happ, hown, hgr⟩ := app_byte (c := UInt8.ofNat n) (W1 := W1) hrow hsz hlen (by rw [← hW1, hbv])
        have HP : Hid (OwnB base w' v' (l ++ (be8 n).take 8) ∧ GrB w w' v v' ∧ base ≤ w'.heap.size) := hide ⟨by have := hown; rw [List.append_assoc] at this; exact this, hgr0.trans hgr, Nat.le_trans hsz hgr.size⟩
        have HW1 := hide hW1
        rw [show (((7 : Nat) : Int)) = (7 : Int) from rfl]
        clear hrow hgr0 hsz hbv hown hgr hW1 hj hlt
        go_wp2_with (at_builtin; rw [unhide HW1]; refine Lib.wpList_append_run _ rfl _ _ _ _ rfl _ _ rfl rfl _ _ happ ?_)
        go_roundw
        case rel => exact ⟨8, by omega, by simp, (unhide HP).1, (unhide HP).2.1, (unhide HP).2.2⟩
        case measure => simp [intOf]
    · have hj4 : j = 8 := by omega
      subst hj4
      have HR := hide hrow
      have HG := hide hgr0
      rw [show (((8 : Nat) : Int)) = (8 : Int) from rfl]
      clear hrow hgr0 hsz hj hlt
      go_wp2
      go_ret
      exact ⟨_, rfl, unhide HR, unhide HG⟩

end Go.Proofs.YtkablmjkffdloaaGreatDoor
