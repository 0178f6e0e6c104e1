/-
  A tile's path.
-/
import Derived.Test.YtkpmbbeidcpclaaGreatDoorTile
import Derived.Test.YtkpmbbeidcpclaaGreatDoorShelf
import Derived.Shelf.SlSortCmp.QuietGrown
namespace Go.Proofs.YtkpmbbeidcpclaaGreatDoor
open Go.RowKit
open Go.Sort (grow)

/-- A world drawn on, with blocks laid behind it. -/
def Gr (w w' : World) : Prop := ∃ k os, w' = grow (w.drewN k) os
theorem Gr.refl (w : World) : Gr w w := ⟨0, #[], by rw [Sort.grow_empty]; rfl⟩
theorem Gr.trans {a b c : World} (h : Gr a b) (k : Gr b c) : Gr a c := by
  obtain ⟨n, os, rfl⟩ := h
  obtain ⟨m, os', rfl⟩ := k
  refine ⟨n + m, os ++ os', ?_⟩
  show grow (grow ((a.drewN n).drewN m) os) os' = _
  rw [Sort.grow_grow, World.drewN_drewN]
theorem Gr.alloc {a b : World} (h : Gr a b) (o : Obj) : Gr a (b.alloc o) := h.trans ⟨0, #[o], by rw [Sort.alloc_eq_grow]; rfl⟩
theorem Gr.drewN {a b : World} (h : Gr a b) (n : Nat) : Gr a (b.drewN n) := h.trans ⟨n, #[], by rw [Sort.grow_empty]⟩
theorem Gr.low {a b : World} (h : Gr a b) : Below a.heap.size a b := by
  obtain ⟨n, os, rfl⟩ := h
  exact ⟨rfl, rfl, rfl, by simp [grow], fun k hk => Sort.heap_grow_old _ _ hk⟩

/-- The library's variables as they were laid. -/
structure Gd (w : World) : Prop where
  ml : ∃ m, w.cell? ⟨1, 0, none⟩ = some (.int .i64 m)
  tab : Lib.TabIs Tryz.prog w "internal/strconv.uint64pow10" .u64 Lib.pow10Tab
theorem var_low {P : Program} {w w' : World} {n : String} {cs : Array Value} (hv : w.var? P n = some cs) (h : Below w.heap.size w w') : w'.var? P n = some cs := by
  unfold World.var? at hv ⊢
  obtain ⟨g, hg, hc⟩ := Option.bind_eq_some_iff.1 hv
  rw [hg]
  show (match w'.heap[g]? with | some (Obj.cells cs _ _) => some cs | _ => none) = some cs
  have hlt : g < w.heap.size := by
    apply Classical.byContradiction
    intro hn
    rw [Array.getElem?_eq_none (by omega)] at hc
    cases hc
  rw [h.block g hlt]
  exact hc
theorem Gd.low {w w' : World} (h : Gd w) (hb : Below w.heap.size w w') : Gd w' where
  ml := by
    obtain ⟨m, hm⟩ := h.ml
    exact ⟨m, by rw [hb.cell (lt_of_cell hm)]; exact hm⟩
  tab := var_low h.tab hb

/-- A text. -/
def ba (l : Bs) : ByteArray := ⟨l.toArray⟩
theorem cat (a b : Bs) : ba a ++ ba b = ba (a ++ b) := by
  apply ByteArray.ext
  simp [ba]
theorem ba_size (l : Bs) : (ba l).size = l.length := by simp [ba, ByteArray.size]

theorem itoa_any {n : Nat} (hn : n ≤ 4294967296) {w : World} (hg : Gd w) : Calls Tryz.prog 56 #[.int .i64 (n : Int)] w fun e w' => e = .returned (.string (ba (Lib.decDigits n))) ∧ ∃ k os, w' = grow (w.drewN k) os := by
  have h := Tryz.strconv_Itoa (n : Int) (by omega) (by omega) w hg.tab
  have e : Lib.itoa (n : Int) = Lib.decDigits n := by
    unfold Lib.itoa
    rw [if_neg (by omega)]
    simp
  rw [e] at h
  exact h

def dg (n : Nat) : UInt8 := UInt8.ofNat (48 + n)
/-- Three digits. -/
def three (n : Nat) : Bs := [dg (n / 100), dg (n / 10 % 10), dg (n % 10)]
theorem dec_small {n : Nat} (h : n < 10) : Lib.decDigits n = [dg n] := by rw [Lib.decDigits, dif_pos h]; rfl
theorem dec_big {n : Nat} (h : ¬ n < 10) : Lib.decDigits n = Lib.decDigits (n / 10) ++ [dg (n % 10)] := by rw [Lib.decDigits, dif_neg h]; rfl
theorem dec_thousand {n : Nat} (h : n < 1000) : Lib.decDigits (1000 + n) = 49 :: three n := by
  rw [dec_big (by omega), dec_big (n := (1000 + n) / 10) (by omega), dec_big (n := (1000 + n) / 10 / 10) (by omega), dec_small (by omega)]
  have e1 : (1000 + n) / 10 / 10 / 10 = 1 := by omega
  have e2 : (1000 + n) / 10 / 10 % 10 = n / 100 := by omega
  have e3 : (1000 + n) / 10 % 10 = n / 10 % 10 := by omega
  have e4 : (1000 + n) % 10 = n % 10 := by omega
  rw [e1, e2, e3, e4]
  rfl

theorem three_any {n : Nat} (hn : n < 1000) {w : World} (hg : Gd w) : Calls Tryz.prog 91 #[.int .i64 (n : Int)] w fun e w' => e = .returned (.string (ba (three n))) ∧ ∃ k os, w' = grow (w.drewN k) os := by
  obtain ⟨m, hm⟩ : ∃ m, 1000 + n = m := ⟨_, rfl⟩
  have e1 : 1000 + (n : Int) = (m : Int) := by omega
  have HI := hide (itoa_any (n := m) (by omega) hg)
  have HE : Hid (Lib.decDigits m = 49 :: three n) := hide (by rw [← hm]; exact dec_thousand hn)
  have q1 : (ba (49 :: three n)).size = 4 := by rw [ba_size]; rfl
  have q2 : (ba (49 :: three n)).extract 1 4 = ba (three n) := by
    unfold three ba
    rfl
  clear hm
  go_enter Tryz.func91, Tryz.ntmps91
  go_wp2_with (go_at_call 56; fail)
  refine (unhide HI).mono ?_
  rintro e w1 ⟨rfl, hgr⟩
  rw [unhide HE]
  have HG := hide hgr
  clear hgr
  go_wp2
  go_ret
  exact ⟨rfl, unhide HG⟩

/-- A number in groups of three digits, below a million. -/
def groupL (n : Nat) : Bs := if n < 1000 then three n else 120 :: three (n / 1000) ++ (47 :: three (n % 1000))

set_option maxHeartbeats 1000000 in
theorem grouped_any {n : Nat} (hn : n < 1000000) {w : World} (hg : Gd w) : Calls Tryz.prog 57 #[.int .i64 (n : Int)] w fun e w' => e = .returned (.string (ba (groupL n))) ∧ ∃ k os, w' = grow (w.drewN k) os := by
  obtain ⟨r, hr⟩ : ∃ r, n % 1000 = r := ⟨_, rfl⟩
  obtain ⟨q, hq⟩ : ∃ q, n / 1000 = q := ⟨_, rfl⟩
  have e1 : (n : Int) % 1000 = (r : Int) := by omega
  have e2 : (n : Int) / 1000 = (q : Int) := by omega
  have HT := hide (three_any (n := r) (by omega) hg)
  have HL1 : Hid (q = 0 → groupL n = three r) := hide (fun h => by unfold groupL; rw [if_pos (by omega)]; congr 1; omega)
  have HL2 : Hid (q ≠ 0 → groupL n = 120 :: three q ++ (47 :: three r)) := hide (fun h => by unfold groupL; rw [if_neg (by omega), hq, hr])
  have hq3 : q < 1000 := by omega
  have HG := hide hg
  clear hr hq hg
  go_enter Tryz.func57, Tryz.ntmps57
  go_wp2_with (go_at_call 91; fail)
  refine (unhide HT).mono ?_
  rintro e w1 ⟨rfl, hgr⟩
  have HG1 : Hid (Gr w w1) := hide hgr
  clear hgr HT
  go_wp2
  clear e1 e2
  go_loopw [0, 3] (fun v0 v3 wr => Gr w wr ∧ ((v0 = .int .i64 (q : Int) ∧ v3 = .string (ba (three r))) ∨ (q ≠ 0 ∧ v0 = .int .i64 0 ∧ v3 = .string (ba (groupL n))))) (fun v0 _ _ => (intOf v0).toNat)
  case atStart => exact ⟨unhide HG1, Or.inl ⟨rfl, rfl⟩⟩
  case round =>
    rename World => wr
    obtain ⟨hgw, hc⟩ := hrel
    have HGW := hide hgw
    rcases hc with ⟨rfl, rfl⟩ | ⟨hq0, rfl, rfl⟩
    · by_cases hq0 : q = 0
      · have HLz : Hid (groupL n = three r) := hide (unhide HL1 hq0)
        clear HL1 HL2
        subst hq0
        clear hgw
        have hz : ((0 : Nat) : Int) = 0 := rfl
        rw [hz]
        go_wp2
        go_ret
        exact ⟨by rw [unhide HLz]; rfl, unhide HGW⟩
      · have HT := hide (three_any (n := q) hq3 ((unhide HG).low hgw.low))
        have hpos : 0 < q := by omega
        have e1 : (q : Int) % 1000 = (q : Int) := by omega
        have e2 : (q : Int) / 1000 = 0 := by omega
        have c1 : (⟨#[120]⟩ : ByteArray) ++ ba (three q) = ba (120 :: three q) := cat [120] _
        have c2 : ba (120 :: three q) ++ (⟨#[47]⟩ : ByteArray) = ba (120 :: (three q ++ [47])) := cat _ [47]
        have c3 : ba (120 :: (three q ++ [47])) ++ ba (three r) = ba (groupL n) := by rw [cat, unhide HL2 hq0]; simp
        clear hgw
        go_wp2_with (go_at_call 91; fail)
        refine (unhide HT).mono ?_
        rintro e w2 ⟨rfl, hgr⟩
        have HG2 : Hid (Gr w w2) := hide ((unhide HGW).trans hgr)
        clear hgr HT
        go_wp2
        go_roundw
        case rel => exact ⟨unhide HG2, Or.inr ⟨hq0, rfl, rfl⟩⟩
        case measure => simp [intOf]; omega
    · clear hgw
      go_wp2
      go_ret
      exact ⟨rfl, unhide HGW⟩

theorem height_true {h : Nat} (h1 : 1 ≤ h) (h8 : h ≤ 8) (w : World) : Calls Tryz.prog 44 #[.int .i64 (h : Int)] w fun e w' => e = .returned (.bool true) ∧ w' = w := by
  have := height_any (h : Int) w
  rw [height_nat h1 h8] at this
  exact this

/-- A tile's four numbers. -/
def tileV (H L N W : Nat) : Value := .agg #[.int .i64 (H : Int), .int .i64 (L : Int), .int .i64 (N : Int), .int .i64 (W : Int)]

set_option maxHeartbeats 1000000 in
theorem isTile_good {H L N W p : Nat} (h1 : 1 ≤ H) (h8 : H ≤ 8) (hp : 2 ^ H = p) (hW : 1 ≤ W) (hWp : W ≤ p) (w : World) :
    Calls Tryz.prog 54 #[tileV H L N W] w fun e w' => e = .returned (.bool true) ∧ ∃ k os, w' = grow (w.drewN k) os := by
  have e3 : (2 : Int) ^ H = (p : Int) := by rw [pow_int, hp]
  have hp2 : p ≤ 256 := by
    rw [← hp]
    exact Nat.le_trans (Nat.pow_le_pow_right (by decide) h8) (by decide)
  have t1 : decide ((0 : Int) ≤ (L : Int)) = true := decide_eq_true (by omega)
  have t2 : decide ((0 : Int) ≤ (N : Int)) = true := decide_eq_true (by omega)
  have t3 : decide ((1 : Int) ≤ (W : Int)) = true := decide_eq_true (by omega)
  have t4 : decide ((W : Int) ≤ (p : Int)) = true := decide_eq_true (by omega)
  clear hp
  unfold tileV
  go_enter Tryz.func54, Tryz.ntmps54
  go_wp2
  go_quiet ((go_at_call 44; exact Calls.quiet_of_same (height_true h1 h8 _)))
  go_wp2
  go_ret
  exact ⟨rfl, ((Gr.refl w).alloc _).drewN _⟩

set_option maxHeartbeats 1000000 in
theorem isWithin_good {H L N W p n s a b c : Nat} (h1 : 1 ≤ H) (h8 : H ≤ 8) (hp : 2 ^ H = p) (hW : 1 ≤ W) (hWp : W ≤ p) (hs : H * L = s) (hs20 : s ≤ 20) (hn : n ≤ 1048576) (ha : n / 2 ^ s = a) (hb : N * p = b) (hba : b + W ≤ a) (hc : a / p = c) (hNc : N ≤ c) (w : World) :
    Calls Tryz.prog 50 #[tileV H L N W, .int .i64 (n : Int)] w fun e w' => e = .returned (.bool true) ∧ ∃ k os, w' = grow (w.drewN k) os := by
  have HI : Hid (∀ wx, Calls Tryz.prog 54 #[tileV H L N W] wx fun e w' => e = .returned (.bool true) ∧ ∃ k os, w' = grow (wx.drewN k) os) := hide (fun wx => isTile_good h1 h8 hp hW hWp wx)
  have hL : L ≤ 20 := by
    have : 1 * L ≤ H * L := Nat.mul_le_mul_right _ h1
    omega
  have e1 : (H : Int) * (L : Int) = (s : Int) := by rw [← hs]; push_cast; rfl
  have e2 : (n : Int) / 2 ^ s = (a : Int) := by rw [pow_int, ← Int.natCast_ediv, ha]
  have e3 : (a : Int) / 2 ^ H = (c : Int) := by rw [pow_int, ← Int.natCast_ediv, hp, hc]
  have e4 : (N : Int) * 2 ^ H = (b : Int) := by rw [pow_int, hp, ← hb]; push_cast; rfl
  have ha2 : a ≤ 1048576 := by rw [← ha]; exact Nat.le_trans (Nat.div_le_self _ _) hn
  obtain ⟨t, ht⟩ : ∃ t, b + W = t := ⟨_, rfl⟩
  have e5 : (b : Int) + (W : Int) = (t : Int) := by omega
  have t1 : decide (N ≤ c) = true := decide_eq_true hNc
  have t2 : decide (t ≤ a) = true := decide_eq_true (by omega)
  have t3 : decide ((20 : Int) < (L : Int)) = false := decide_eq_false (by omega)
  have ht2 : t ≤ 1048576 := by omega
  have hb2 : b ≤ 1048576 := by omega
  unfold tileV at HI ⊢
  obtain ⟨W1, hW1⟩ : ∃ W1, w.alloc (.cells #[.int .i64 (H : Int), .int .i64 (L : Int), .int .i64 (N : Int), .int .i64 (W : Int)] 31) = W1 := ⟨_, rfl⟩
  have HW1 := hide hW1
  have hblk : Blk W1 w.heap.size #[.int .i64 (H : Int), .int .i64 (L : Int), .int .i64 (N : Int), .int .i64 (W : Int)] 31 := by rw [← hW1]; exact Blk.new w _ 31
  have HK := hide hblk
  clear hp hs ha hb hba hc hNc ht hW1 hblk
  go_enter Tryz.func50, Tryz.ntmps50
  go_wp2_with (go_at_call 54; fail)
  rw [unhide HW1]
  refine (unhide HI _).mono ?_
  rintro e w2 ⟨rfl, hgr⟩
  have hg2 : Gr W1 w2 := hgr
  have hblk := (unhide HK).low hg2.low
  have HGR : Hid (Gr w w2) := hide ((by rw [← unhide HW1]; exact (Gr.refl w).alloc _ : Gr w W1).trans hg2)
  have d0 := hblk.cell 0
  have d1 := hblk.cell 1
  have d2 := hblk.cell 2
  have d3 := hblk.cell 3
  clear hgr hg2 hblk
  go_wp2
  go_quiet (fail)
  go_wp2
  go_ret
  exact ⟨rfl, (unhide HGR).drewN _⟩
def dirL (H L N : Nat) : Bs := 116 :: 105 :: 108 :: 101 :: 47 :: (Lib.decDigits H ++ (47 :: (Lib.decDigits L ++ (47 :: groupL N))))
/-- A tile's path. -/
def pathL (H L N W p : Nat) : Bs := if W = p then dirL H L N else dirL H L N ++ (46 :: 112 :: 47 :: Lib.decDigits W)

theorem dec_two {n : Nat} (h : n < 100) : (Lib.decDigits n).length ≤ 2 := by
  by_cases h1 : n < 10
  · rw [dec_small h1]; simp
  · rw [dec_big h1, dec_small (by omega)]; simp

theorem dec_three {n : Nat} (h : n < 1000) : (Lib.decDigits n).length ≤ 3 := by
  by_cases h1 : n < 10
  · rw [dec_small h1]; simp
  · rw [dec_big h1, List.length_append]
    have := dec_two (n := n / 10) (by omega)
    simp
    omega
theorem itoa_small {n : Nat} (h : n < 100) (w : World) : Calls Tryz.prog 56 #[.int .i64 (n : Int)] w fun e w' => e = .returned (.string (ba (Lib.decDigits n))) ∧ ∃ k os, w' = grow (w.drewN k) os :=
  (Tryz.strconv_Itoa_small n h w).mono fun _ _ ⟨h1, h2⟩ => ⟨h1, by rw [h2]; exact Gr.refl w⟩

theorem group_len (n : Nat) : (groupL n).length ≤ 8 := by
  unfold groupL
  split <;> simp [three]

set_option maxHeartbeats 1000000 in
theorem path_good {H L N W p s a b c : Nat} {w : World} (hg : Gd w) (h1 : 1 ≤ H) (h8 : H ≤ 8) (hp : 2 ^ H = p) (hW : 1 ≤ W) (hWp : W ≤ p) (hs : H * L = s) (hs20 : s ≤ 20) (ha : 1048576 / 2 ^ s = a) (hb : N * p = b) (hba : b + W ≤ a) (hc : a / p = c) (hNc : N ≤ c) :
    Calls Tryz.prog 17 #[tileV H L N W] w fun e w' => e = .returned (.tuple #[.string (ba (pathL H L N W p)), .int .i64 0]) ∧ ∃ k os, w' = grow (w.drewN k) os := by
  have HI : Hid (∀ wx, Calls Tryz.prog 50 #[tileV H L N W, .int .i64 1048576] wx fun e w' => e = .returned (.bool true) ∧ ∃ k os, w' = grow (wx.drewN k) os) := hide (fun wx => isWithin_good (n := 1048576) h1 h8 hp hW hWp hs hs20 (by decide) ha hb hba hc hNc wx)
  have hL : L ≤ 20 := by
    have : 1 * L ≤ H * L := Nat.mul_le_mul_right _ h1
    omega
  have ha2 : a ≤ 1048576 := by rw [← ha]; exact Nat.div_le_self _ _
  have hc2 : c ≤ 524288 := by
    have hp1 : 2 ≤ p := by rw [← hp]; exact Nat.le_trans (by decide) (Nat.pow_le_pow_right (by decide) h1)
    have e1 : a / p ≤ a / 2 := Nat.div_le_div_left hp1 (by decide)
    omega
  have hp2 : p ≤ 256 := by
    rw [← hp]
    exact Nat.le_trans (Nat.pow_le_pow_right (by decide) h8) (by decide)
  have hN : N < 1000000 := by omega
  have e3 : (2 : Int) ^ H = (p : Int) := by rw [pow_int, hp]
  unfold tileV at HI ⊢
  obtain ⟨W1, hW1⟩ : ∃ W1, w.alloc (.cells #[.int .i64 (H : Int), .int .i64 (L : Int), .int .i64 (N : Int), .int .i64 (W : Int)] 31) = W1 := ⟨_, rfl⟩
  have HW1 := hide hW1
  have hblk : Blk W1 w.heap.size #[.int .i64 (H : Int), .int .i64 (L : Int), .int .i64 (N : Int), .int .i64 (W : Int)] 31 := by rw [← hW1]; exact Blk.new w _ 31
  have HK := hide hblk
  have HG := hide hg
  clear hp hs ha hb hba hc hNc hW1 hblk hg
  go_enter Tryz.func17, Tryz.ntmps17
  go_wp2_with (go_at_call 50; fail)
  rw [unhide HW1]
  refine (unhide HI _).mono ?_
  rintro e w2 ⟨rfl, hgr⟩
  have hg2 : Gr W1 w2 := hgr
  have hblk := (unhide HK).low hg2.low
  have hgw : Gr w w2 := (by rw [← unhide HW1]; exact (Gr.refl w).alloc _ : Gr w W1).trans hg2
  have hgd : Gd w2 := (unhide HG).low hgw.low
  have HGR := hide hgw
  have HGD := hide hgd
  have HK2 := hide hblk
  have d0 : ∀ n os, (grow (w2.drewN n) os).cell? ⟨w.heap.size, 0, none⟩ = some (.int .i64 (H : Int)) := cell_grown hblk.lt (hblk.cell 0)
  have d1 : ∀ n os, (grow (w2.drewN n) os).cell? ⟨w.heap.size, 1, none⟩ = some (.int .i64 (L : Int)) := cell_grown hblk.lt (hblk.cell 1)
  have d2 : ∀ n os, (grow (w2.drewN n) os).cell? ⟨w.heap.size, 2, none⟩ = some (.int .i64 (N : Int)) := cell_grown hblk.lt (hblk.cell 2)
  have HA : Hid (∀ n os, Gd (grow (w2.drewN n) os)) := hide (fun n os => hgd.low (Gr.low ⟨n, os, rfl⟩))
  have c1 : (⟨#[116, 105, 108, 101, 47]⟩ : ByteArray) ++ ba (Lib.decDigits H) = ba ([116, 105, 108, 101, 47] ++ Lib.decDigits H) := cat [116, 105, 108, 101, 47] _
  obtain ⟨x1, hx1⟩ : ∃ x, [116, 105, 108, 101, 47] ++ Lib.decDigits H = x := ⟨_, rfl⟩
  rw [hx1] at c1
  have c2 : ba x1 ++ (⟨#[47]⟩ : ByteArray) = ba (x1 ++ [47]) := cat _ [47]
  obtain ⟨x2, hx2⟩ : ∃ x, x1 ++ [47] = x := ⟨_, rfl⟩
  rw [hx2] at c2
  have c3 : ba x2 ++ ba (Lib.decDigits L) = ba (x2 ++ Lib.decDigits L) := cat _ _
  obtain ⟨x3, hx3⟩ : ∃ x, x2 ++ Lib.decDigits L = x := ⟨_, rfl⟩
  rw [hx3] at c3
  have c4 : ba x3 ++ (⟨#[47]⟩ : ByteArray) = ba (x3 ++ [47]) := cat _ [47]
  obtain ⟨x4, hx4⟩ : ∃ x, x3 ++ [47] = x := ⟨_, rfl⟩
  rw [hx4] at c4
  have c5 : ba x4 ++ ba (groupL N) = ba (dirL H L N) := by
    rw [cat, ← hx4, ← hx3, ← hx2, ← hx1]
    congr 1
    simp [dirL]
  obtain ⟨k1, hk1⟩ : ∃ k, (Lib.decDigits H).length = k := ⟨_, rfl⟩
  obtain ⟨k2, hk2⟩ : ∃ k, (Lib.decDigits L).length = k := ⟨_, rfl⟩
  obtain ⟨k3, hk3⟩ : ∃ k, (groupL N).length = k := ⟨_, rfl⟩
  have b1 : k1 ≤ 2 := by rw [← hk1]; exact dec_two (by omega)
  have b2 : k2 ≤ 2 := by rw [← hk2]; exact dec_two (by omega)
  have b3 : k3 ≤ 8 := by rw [← hk3]; exact group_len N
  have z1 : (ba (Lib.decDigits H)).size = k1 := by rw [ba_size, hk1]
  have z2 : (ba (Lib.decDigits L)).size = k2 := by rw [ba_size, hk2]
  have z3 : (ba (groupL N)).size = k3 := by rw [ba_size, hk3]
  have y1 : (ba x1).size = k1 + 5 := by rw [ba_size, ← hx1, List.length_append, hk1]; simp; omega
  have y2 : (ba x2).size = k1 + 6 := by rw [ba_size, ← hx2, List.length_append, ← ba_size x1, y1]; rfl
  have y3 : (ba x3).size = k1 + 6 + k2 := by rw [ba_size, ← hx3, List.length_append, ← ba_size x2, y2, hk2]
  have y4 : (ba x4).size = k1 + 6 + k2 + 1 := by rw [ba_size, ← hx4, List.length_append, ← ba_size x3, y3]; rfl
  have y5 : (ba (dirL H L N)).size = k1 + 6 + k2 + 1 + k3 := by rw [← c5, cat, ba_size, List.length_append, ← ba_size x4, y4, hk3]
  clear hgr hg2 hblk hgw hgd hx1 hx2 hx3 hx4 hk1 hk2 hk3
  obtain ⟨j1, hj1⟩ : ∃ j, k1 + 5 = j := ⟨_, rfl⟩
  obtain ⟨j2, hj2⟩ : ∃ j, k1 + 6 = j := ⟨_, rfl⟩
  obtain ⟨j3, hj3⟩ : ∃ j, k1 + 6 + k2 = j := ⟨_, rfl⟩
  obtain ⟨j4, hj4⟩ : ∃ j, k1 + 6 + k2 + 1 = j := ⟨_, rfl⟩
  obtain ⟨j5, hj5⟩ : ∃ j, k1 + 6 + k2 + 1 + k3 = j := ⟨_, rfl⟩
  rw [hj1] at y1
  rw [hj2] at y2
  rw [hj3] at y3
  rw [hj4] at y4
  rw [hj5] at y5
  have n1 : ¬ (9223372036854775807 < 5 + k1) := by omega
  have n2 : ¬ (9223372036854775807 < j1 + 1) := by omega
  have n3 : ¬ (9223372036854775807 < j2 + k2) := by omega
  have n4 : ¬ (9223372036854775807 < j3 + 1) := by omega
  have n5 : ¬ (9223372036854775807 < j4 + k3) := by omega
  have b5 : j5 ≤ 1000 := by omega
  clear hj1 hj2 hj3 hj4 hj5
  have mixed : Tryz.prog.follows .mixedOrders = true := by kernel_rfl
  go_wp2
  refine wp_region_quiet_grown (by assumption) (by kernel_rfl) ?_
  quiet_step (fail)
  quiet_step (fail)
  quiet_step ((go_at_call 56; exact Calls.grown_of (itoa_small (n := H) (by omega) _)))
  quiet_step (fail)
  quiet_step (fail)
  quiet_step (fail)
  quiet_step (fail)
  quiet_step ((go_at_call 56; exact Calls.grown_of (itoa_small (n := L) (by omega) _)))
  quiet_step (fail)
  quiet_step (fail)
  quiet_step (fail)
  quiet_step (fail)
  quiet_step ((go_at_call 57; exact Calls.grown_of (grouped_any hN (unhide HA _ _))))
  quiet_step (fail)
  quiet_step (fail)
  refine wpQuiet_nil ?_
  rintro _ ⟨⟨nq, osq⟩, rfl⟩
  obtain ⟨w3, hw3⟩ : ∃ w3, grow (w2.drewN nq) osq = w3 := ⟨_, rfl⟩
  have hg3 : Gr w2 w3 := ⟨nq, osq, hw3.symm⟩
  show Exit.then _ _ Exit.normal _ (grow (w2.drewN nq) osq)
  rw [hw3]
  have hk3 := (unhide HK2).low hg3.low
  have HG3 := hide hg3
  have HK3 := hide hk3
  have f0 := hk3.cell 0
  have f3 := hk3.cell 3
  clear hw3 hg3 hk3 d0 d1 d2 c1 c2 c3 c4 c5 z1 z2 z3 y1 y2 y3 y4 n1 n2 n3 n4 n5
  by_cases hWq : W = p
  · have t1 : ((W : Int) != (p : Int)) = false := by simp [hWq]
    have HP : Hid (pathL H L N W p = dirL H L N) := hide (by unfold pathL; rw [if_pos hWq])
    go_wp2
    go_quiet (fail)
    go_wp2
    go_ret2
    exact ⟨by rw [unhide HP]; rfl, ((unhide HGR).trans (unhide HG3)).drewN _⟩
  · have t1 : ((W : Int) != (p : Int)) = true := by simp; omega
    have HP : Hid (pathL H L N W p = dirL H L N ++ (46 :: 112 :: 47 :: Lib.decDigits W)) := hide (by unfold pathL; rw [if_neg hWq])
    obtain ⟨k4, hk4⟩ : ∃ k, (Lib.decDigits W).length = k := ⟨_, rfl⟩
    have b4 : k4 ≤ 3 := by rw [← hk4]; exact dec_three (by omega)
    have z4 : (ba (Lib.decDigits W)).size = k4 := by rw [ba_size, hk4]
    have c6 : (⟨#[46, 112, 47]⟩ : ByteArray) ++ ba (Lib.decDigits W) = ba (46 :: 112 :: 47 :: Lib.decDigits W) := cat [46, 112, 47] _
    have y6 : (ba (46 :: 112 :: 47 :: Lib.decDigits W)).size = k4 + 3 := by rw [ba_size]; simp [hk4]
    have c7 : ba (dirL H L N) ++ ba (46 :: 112 :: 47 :: Lib.decDigits W) = ba (pathL H L N W p) := by rw [cat, unhide HP]
    have n6 : ¬ (9223372036854775807 < 3 + k4) := by omega
    have n7 : ¬ (9223372036854775807 < j5 + (k4 + 3)) := by omega
    clear hk4
    go_wp2
    go_quiet (fail)
    have HI4 := hide (itoa_any (n := W) (by omega) ((unhide HGD).low (((unhide HG3).drewN nq).low)))
    have f4 : (w3.drewN nq).cell? ⟨w.heap.size, 3, none⟩ = some (.int .i64 (W : Int)) := f3
    go_wp2_with (go_at_call 56; fail)
    refine (unhide HI4).mono ?_
    rintro e w4 ⟨rfl, hgr4⟩
    have HG4 : Hid (Gr w w4) := hide ((((unhide HGR).trans (unhide HG3)).drewN nq).trans hgr4)
    clear hgr4
    go_wp2
    go_ret2
    exact ⟨rfl, unhide HG4⟩
end Go.Proofs.YtkpmbbeidcpclaaGreatDoor
