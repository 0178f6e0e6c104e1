/-
  A head's text taken apart, as plain lists.
-/
import Derived.Test.YtkablmjkffdloaaGreatDoorB64Y
import Derived.Test.YtkablmjkffdloaaGreatDoorSumA
import Derived.Test.YtkablmjkffdloaaGreatDoorShelf
import Derived.Deep.RegionHeld3
import Derived.Lib.AtoiAll
namespace Go.Proofs.YtkablmjkffdloaaGreatDoor
open Go.RowKit

/-- The table of powers is laid. -/
def Pw (w : World) : Prop := Lib.TabIs Tryz.prog w "internal/strconv.uint64pow10" .u64 Lib.pow10Tab
theorem var_low {P : Program} {w w' : World} {n : String} {cs : Array Value} (hv : w.var? P n = some cs) (h : Below w.heap.size w w') : w'.var? P n = some cs := by
  unfold World.var? at hv ⊢
  obtain ⟨g, hg, hc⟩ := Option.bind_eq_some_iff.1 hv
  rw [hg]
  show (match w'.heap[g]? with | some (Obj.cells cs _ _) => some cs | _ => none) = some cs
  have hlt : g < w.heap.size := by
    apply Classical.byContradiction
    intro hn
    rw [Array.getElem?_eq_none (by omega)] at hc
    cases hc
  rw [h.block g hlt]
  exact hc
theorem Pw.low {w w' : World} (h : Pw w) (hb : Below w.heap.size w w') : Pw w' := var_low h hb

/-- The words ahead of a head. -/
def headM : Bs := [109, 101, 119, 115, 32, 108, 111, 103, 10]
/-- A head's text. -/
def headT (n : Nat) (r : Bs) : Bs := headM ++ (Lib.decDigits n ++ ([10] ++ (b64 r ++ [10])))
theorem itoa_nat {n : Nat} (hn : n ≤ 4294967296) {w : World} (hg : Pw w) : Calls Tryz.prog 119 #[.int .i64 (n : Int)] w fun e w' => e = .returned (.string (ba (Lib.decDigits n))) ∧ Below w.heap.size w w' := by
  have h := Tryz.strconv_Itoa (n : Int) (by omega) (by omega) w hg
  have e : Lib.itoa (n : Int) = Lib.decDigits n := by
    unfold Lib.itoa
    rw [if_neg (by omega)]
    simp
  rw [e] at h
  refine h.mono ?_
  rintro e w' ⟨rfl, k, os, rfl⟩
  exact ⟨rfl, ⟨rfl, rfl, rfl, by simp [Sort.grow], fun k hk => Sort.heap_grow_old _ _ hk⟩⟩

theorem dec_len {n : Nat} (hn : n ≤ 1048576) : (Lib.decDigits n).length ≤ 7 := by
  have h : ∀ (k m : Nat), m < 10 ^ (k + 1) → (Lib.decDigits m).length ≤ k + 1 := by
    intro k
    induction k with
    | zero => intro m hm; rw [Lib.decDigits, dif_pos (by omega)]; simp
    | succ k ih =>
      intro m hm
      by_cases h10 : m < 10
      · rw [Lib.decDigits, dif_pos h10]; simp
      · rw [Lib.decDigits, dif_neg h10, List.length_append]
        have := ih (m / 10) (by rw [Nat.pow_succ] at hm; omega)
        simp
        omega
  exact h 6 n (by omega)
theorem b64_len32 {r : Bs} (h : r.length = 32) : (b64 r).length = 44 := by
  match r, h with
  | [a0, a1, a2, a3, a4, a5, a6, a7, a8, a9, b0, b1, b2, b3, b4, b5, b6, b7, b8, b9, c0, c1, c2, c3, c4, c5, c6, c7, c8, c9, d0, d1], _ => rfl

theorem sdrew {w w' : World} {B : Nat} {x y : Value} (h : w'.cell? ⟨B, 0, none⟩ = some x ∧ w'.cell? ⟨B, 1, none⟩ = some y ∧ B < w'.heap.size ∧ Below w.heap.size w w') : w'.drew.cell? ⟨B, 0, none⟩ = some x ∧ w'.drew.cell? ⟨B, 1, none⟩ = some y ∧ B < w'.drew.heap.size ∧ Below w.heap.size w w'.drew :=
  ⟨h.1, h.2.1, h.2.2.1, h.2.2.2.drew⟩

set_option maxRecDepth 100000 in
set_option maxHeartbeats 2000000 in
theorem formatHead_ok {w : World} {a : Option Addr} {n c : Nat} {r : Bs} (hn : n ≤ 1048576) (hr : r.length = 32) (hc : 32 ≤ c) (hg : Pw w) (h : BAt w a r) :
    Calls Tryz.prog 64 #[.agg #[.int .i64 (n : Int), .slice a 32 c]] w fun e w' => e = .returned (.tuple #[.string (ba (headT n r)), .int .i64 0]) ∧ Below w.heap.size w w' := by
  have HG := hide hg
  have hdl := dec_len hn
  have hbl := b64_len32 hr
  obtain ⟨D, hD⟩ : ∃ D, Lib.decDigits n = D := ⟨_, rfl⟩
  obtain ⟨E, hE⟩ : ∃ E, b64 r = E := ⟨_, rfl⟩
  have HD := hide hD
  rw [hD] at hdl
  rw [hE] at hbl
  have hT : headT n r = headM ++ (D ++ ([10] ++ (E ++ [10]))) := by unfold headT; rw [hD, hE]
  have HT := hide hT
  obtain ⟨P1, hP1⟩ : ∃ P1, headM ++ D = P1 := ⟨_, rfl⟩
  obtain ⟨P2, hP2⟩ : ∃ P2, P1 ++ [10] = P2 := ⟨_, rfl⟩
  obtain ⟨P3, hP3⟩ : ∃ P3, P2 ++ E = P3 := ⟨_, rfl⟩
  obtain ⟨P4, hP4⟩ : ∃ P4, P3 ++ [10] = P4 := ⟨_, rfl⟩
  have c1 : (⟨#[109, 101, 119, 115, 32, 108, 111, 103, 10]⟩ : ByteArray) ++ ba D = ba P1 := by rw [← hP1]; exact cat headM D
  have c2 : ba P1 ++ (⟨#[10]⟩ : ByteArray) = ba P2 := by rw [← hP2]; exact cat _ [10]
  have c3 : ba P2 ++ ba E = ba P3 := by rw [← hP3]; exact cat _ _
  have c4 : ba P3 ++ (⟨#[10]⟩ : ByteArray) = ba P4 := by rw [← hP4]; exact cat _ [10]
  obtain ⟨x0, z0⟩ : ∃ x0, (ba D).size = x0 := ⟨_, rfl⟩
  obtain ⟨x1, z1⟩ : ∃ x1, (ba P1).size = x1 := ⟨_, rfl⟩
  obtain ⟨x2, z2⟩ : ∃ x2, (ba P2).size = x2 := ⟨_, rfl⟩
  obtain ⟨x3, z3⟩ : ∃ x3, (ba P3).size = x3 := ⟨_, rfl⟩
  have z4 : (ba E).size = 44 := by rw [ba_size]; exact hbl
  have y0 : x0 ≤ 7 := by rw [← z0, ba_size]; exact hdl
  have y1 : x1 ≤ 16 := by rw [← z1, ba_size, ← hP1]; simp [headM]; omega
  have y2 : x2 ≤ 17 := by rw [← z2, ba_size, ← hP2, ← hP1]; simp [headM]; omega
  have y3 : x3 ≤ 61 := by rw [← z3, ba_size, ← hP3, ← hP2, ← hP1]; simp [headM]; omega
  have g0 : ¬ 9223372036854775807 < 9 + x0 := by omega
  have g1 : ¬ 9223372036854775807 < x1 + 1 := by omega
  have g2 : ¬ 9223372036854775807 < x2 + 44 := by omega
  have g3 : ¬ 9223372036854775807 < x3 + 1 := by omega
  have hfin : P4 = headT n r := by rw [hT, ← hP4, ← hP3, ← hP2, ← hP1]; simp
  clear hdl hP1 hP2 hP3 hP4
  have HF := hide hfin
  have HH := hide h
  have HR := hide hr
  have HE := hide hE
  clear h hr hT hfin hg hD hE hbl
  obtain ⟨B, hB⟩ : ∃ B, w.heap.size = B := ⟨_, rfl⟩
  obtain ⟨W1, hW1⟩ : ∃ W1, w.alloc (.cells #[.int .i64 (n : Int), .slice a 32 c] 97) = W1 := ⟨_, rfl⟩
  have q1 : Blk W1 w.heap.size #[.int .i64 (n : Int), .slice a 32 c] 97 := by rw [← hW1]; exact Blk.new _ _ _
  have bb : Below w.heap.size w W1 := by rw [← hW1]; exact (Below.refl _ _).alloc (Nat.le_refl _) _
  have s0 : W1.cell? ⟨B, 0, none⟩ = some (.int .i64 (n : Int)) := by rw [← hB]; exact q1.cell 0
  have s1 : W1.cell? ⟨B, 1, none⟩ = some (.slice a 32 c) := by rw [← hB]; exact q1.cell 1
  have s2 : B < W1.heap.size := lt_of_cell s0
  have HI2 : Hid (∀ wx, (wx.cell? ⟨B, 0, none⟩ = some (.int .i64 (n : Int)) ∧ wx.cell? ⟨B, 1, none⟩ = some (.slice a 32 c) ∧ B < wx.heap.size ∧ Below w.heap.size w wx) → Calls Tryz.prog 119 #[.int .i64 (n : Int)] wx fun e w' => e = .returned (.string (ba D)) ∧ (w'.cell? ⟨B, 0, none⟩ = some (.int .i64 (n : Int)) ∧ w'.cell? ⟨B, 1, none⟩ = some (.slice a 32 c) ∧ B < w'.heap.size ∧ Below w.heap.size w w')) := hide (fun wx ⟨h0, h1, h2, h3⟩ => by
    have k := itoa_nat (n := n) (by omega) ((unhide HG).low h3)
    rw [unhide HD] at k
    refine k.mono ?_
    rintro e w' ⟨rfl, bl⟩
    exact ⟨rfl, (bl.cell (lt_of_cell h0)).trans h0, (bl.cell (lt_of_cell h1)).trans h1, Nat.lt_of_lt_of_le h2 bl.size, low_trans h3 bl⟩)
  have HB2 : Hid (∀ wx, (wx.cell? ⟨B, 0, none⟩ = some (.int .i64 (n : Int)) ∧ wx.cell? ⟨B, 1, none⟩ = some (.slice a 32 c) ∧ B < wx.heap.size ∧ Below w.heap.size w wx) → Calls Tryz.prog 25 #[.slice a 32 c] wx fun e w' => e = .returned (.string (ba E)) ∧ (w'.cell? ⟨B, 0, none⟩ = some (.int .i64 (n : Int)) ∧ w'.cell? ⟨B, 1, none⟩ = some (.slice a 32 c) ∧ B < w'.heap.size ∧ Below w.heap.size w w')) := hide (fun wx ⟨h0, h1, h2, h3⟩ => by
    have k := base64_any (c := c) (unhide HR) (by omega) hc ((unhide HH).low h3)
    have e9 : (⟨(b64 r).toArray⟩ : ByteArray) = ba E := by rw [unhide HE]; rfl
    rw [e9] at k
    refine k.mono ?_
    rintro e w' ⟨rfl, bl⟩
    exact ⟨rfl, (bl.cell (lt_of_cell h0)).trans h0, (bl.cell (lt_of_cell h1)).trans h1, Nat.lt_of_lt_of_le h2 bl.size, low_trans h3 bl⟩)
  have HW1 := hide hW1
  have HBB := hide hB
  clear hW1 hB q1
  go_enter Tryz.func64, Tryz.ntmps64
  go_wp2
  rw [unhide HW1, unhide HBB]
  clear HW1
  go_region_held3 (fun w' => w'.cell? ⟨B, 0, none⟩ = some (.int .i64 (n : Int)) ∧ w'.cell? ⟨B, 1, none⟩ = some (.slice a 32 c) ∧ B < w'.heap.size ∧ Below w.heap.size w w')
    (first | assumption | exact ⟨s0, s1, s2, bb⟩ | exact ⟨s0, s1, s2, bb.drew⟩ | exact sdrew (by assumption))
    (first
      | (go_at_call 119; refine (unhide HI2 _ (by assumption)).mono ?_; rintro e w' ⟨rfl, k⟩)
      | (go_at_call 25; refine (unhide HB2 _ (by assumption)).mono ?_; rintro e w' ⟨rfl, k⟩))
  rename_i hS
  have HZ := hide hS
  go_wp2
  go_ret2
  exact ⟨by rw [unhide HF]; rfl, (unhide HZ).2.2.2⟩

set_option maxRecDepth 100000 in
set_option maxHeartbeats 2000000 in
theorem refFormatHead_ok {w : World} {a : Option Addr} {n c : Nat} {r : Bs} (hn : n ≤ 1048576) (hr : r.length = 32) (hg : Pw w) (h : BAt w a r) :
    Calls Tryz.prog 65 #[.int .i64 (n : Int), .slice a 32 c] w fun e w' => e = .returned (.tuple #[.string (ba (headT n r)), .int .i64 0]) ∧ Below w.heap.size w w' := by
  have HG := hide hg
  have hdl := dec_len hn
  have hbl := b64_len32 hr
  obtain ⟨D, hD⟩ : ∃ D, Lib.decDigits n = D := ⟨_, rfl⟩
  obtain ⟨E, hE⟩ : ∃ E, b64 r = E := ⟨_, rfl⟩
  have HD := hide hD
  rw [hD] at hdl
  rw [hE] at hbl
  have hT : headT n r = headM ++ (D ++ ([10] ++ (E ++ [10]))) := by unfold headT; rw [hD, hE]
  have HT := hide hT
  obtain ⟨P1, hP1⟩ : ∃ P1, headM ++ D = P1 := ⟨_, rfl⟩
  obtain ⟨P2, hP2⟩ : ∃ P2, P1 ++ [10] = P2 := ⟨_, rfl⟩
  obtain ⟨P3, hP3⟩ : ∃ P3, P2 ++ E = P3 := ⟨_, rfl⟩
  obtain ⟨P4, hP4⟩ : ∃ P4, P3 ++ [10] = P4 := ⟨_, rfl⟩
  have c1 : (⟨#[109, 101, 119, 115, 32, 108, 111, 103, 10]⟩ : ByteArray) ++ ba D = ba P1 := by rw [← hP1]; exact cat headM D
  have c2 : ba P1 ++ (⟨#[10]⟩ : ByteArray) = ba P2 := by rw [← hP2]; exact cat _ [10]
  have c3 : ba P2 ++ ba E = ba P3 := by rw [← hP3]; exact cat _ _
  have c4 : ba P3 ++ (⟨#[10]⟩ : ByteArray) = ba P4 := by rw [← hP4]; exact cat _ [10]
  obtain ⟨x0, z0⟩ : ∃ x0, (ba D).size = x0 := ⟨_, rfl⟩
  obtain ⟨x1, z1⟩ : ∃ x1, (ba P1).size = x1 := ⟨_, rfl⟩
  obtain ⟨x2, z2⟩ : ∃ x2, (ba P2).size = x2 := ⟨_, rfl⟩
  obtain ⟨x3, z3⟩ : ∃ x3, (ba P3).size = x3 := ⟨_, rfl⟩
  have z4 : (ba E).size = 44 := by rw [ba_size]; exact hbl
  have y0 : x0 ≤ 7 := by rw [← z0, ba_size]; exact hdl
  have y1 : x1 ≤ 16 := by rw [← z1, ba_size, ← hP1]; simp [headM]; omega
  have y2 : x2 ≤ 17 := by rw [← z2, ba_size, ← hP2, ← hP1]; simp [headM]; omega
  have y3 : x3 ≤ 61 := by rw [← z3, ba_size, ← hP3, ← hP2, ← hP1]; simp [headM]; omega
  have g0 : ¬ 9223372036854775807 < 9 + x0 := by omega
  have g1 : ¬ 9223372036854775807 < x1 + 1 := by omega
  have g2 : ¬ 9223372036854775807 < x2 + 44 := by omega
  have g3 : ¬ 9223372036854775807 < x3 + 1 := by omega
  have hfin : P4 = headT n r := by rw [hT, ← hP4, ← hP3, ← hP2, ← hP1]; simp
  clear hdl hP1 hP2 hP3 hP4
  have HF := hide hfin
  have HH := hide h
  have HR := hide hr
  have HE := hide hE
  clear h hr hT hfin hg hD hE hbl
  have HI2 : Hid (∀ wx, Below w.heap.size w wx → Calls Tryz.prog 119 #[.int .i64 (n : Int)] wx fun e w' => e = .returned (.string (ba D)) ∧ Below w.heap.size w w') := hide (fun wx h3 => by
    have k := itoa_nat (n := n) (by omega) ((unhide HG).low h3)
    rw [unhide HD] at k
    refine k.mono ?_
    rintro e w' ⟨rfl, bl⟩
    exact ⟨rfl, low_trans h3 bl⟩)
  have HB2 : Hid (∀ wx, Below w.heap.size w wx → Calls Tryz.prog 33 #[.slice a 32 c] wx fun e w' => e = .returned (.string (ba E)) ∧ Below w.heap.size w w') := hide (fun wx h3 => by
    have k := refB64_any (c := c) (unhide HR) (by omega) ((unhide HH).low h3)
    have e9 : (⟨(b64 r).toArray⟩ : ByteArray) = ba E := by rw [unhide HE]; rfl
    rw [e9] at k
    refine k.mono ?_
    rintro e w' ⟨rfl, bl⟩
    exact ⟨rfl, low_trans h3 bl⟩)
  have bb : Below w.heap.size w w := Below.refl _ _
  go_enter Tryz.func65, Tryz.ntmps65
  go_wp2_with (go_at_call 119; fail)
  refine (unhide HI2 _ bb).mono ?_
  rintro e w1 ⟨rfl, b1⟩
  go_wp2_with (go_at_call 33; fail)
  refine (unhide HB2 _ b1).mono ?_
  rintro e w2 ⟨rfl, b2⟩
  have HZ := hide b2
  clear b1 b2
  go_wp2
  go_ret2
  exact ⟨by rw [unhide HF]; rfl, unhide HZ⟩

set_option maxRecDepth 100000 in
set_option maxHeartbeats 2000000 in
theorem formatHead_bad {w : World} {a : Option Addr} {n c : Nat} {x : Int} (h : x < 0 ∨ 1048576 < x ∨ n ≠ 32) :
    Calls Tryz.prog 64 #[.agg #[.int .i64 x, .slice a n c]] w fun e w' => e = .returned (.tuple #[.string ⟨#[]⟩, .int .i64 15]) ∧ Below w.heap.size w w' := by
  obtain ⟨W1, hW1⟩ : ∃ W1, w.alloc (.cells #[.int .i64 x, .slice a n c] 97) = W1 := ⟨_, rfl⟩
  have bb : Below w.heap.size w W1 := by rw [← hW1]; exact (Below.refl _ _).alloc (Nat.le_refl _) _
  have HB := hide bb
  have HW := hide hW1
  clear bb hW1
  by_cases h1 : x < 0
  · clear h
    go_enter Tryz.func64, Tryz.ntmps64
    go_wp2
    go_ret2
    exact ⟨rfl, by rw [unhide HW]; exact unhide HB⟩
  · by_cases h2 : 1048576 < x
    · clear h
      go_enter Tryz.func64, Tryz.ntmps64
      go_wp2
      go_ret2
      exact ⟨rfl, by rw [unhide HW]; exact unhide HB⟩
    · have h3 : n ≠ 32 := by omega
      have h4 : ((n : Int) == 32) = false := by simp; omega
      have h5 : ((n : Int) != 32) = true := by simp; omega
      have h6 : ¬ (n : Int) = 32 := by omega
      clear h
      go_enter Tryz.func64, Tryz.ntmps64
      go_wp2
      go_ret2
      exact ⟨rfl, by rw [unhide HW]; exact unhide HB⟩

set_option maxRecDepth 100000 in
set_option maxHeartbeats 2000000 in
theorem refFormatHead_bad {w : World} {a : Option Addr} {n c : Nat} {x : Int} (h : x < 0 ∨ 1048576 < x ∨ n ≠ 32) :
    Calls Tryz.prog 65 #[.int .i64 x, .slice a n c] w fun e w' => e = .returned (.tuple #[.string ⟨#[]⟩, .int .i64 15]) ∧ Below w.heap.size w w' := by
  have HB := hide (Below.refl w.heap.size w)
  by_cases h1 : x < 0
  · clear h
    go_enter Tryz.func65, Tryz.ntmps65
    go_wp2
    go_ret2
    exact ⟨rfl, unhide HB⟩
  · by_cases h2 : 1048576 < x
    · clear h
      go_enter Tryz.func65, Tryz.ntmps65
      go_wp2
      go_ret2
      exact ⟨rfl, unhide HB⟩
    · have h3 : n ≠ 32 := by omega
      have h4 : ((n : Int) == 32) = false := by simp; omega
      have h5 : ((n : Int) != 32) = true := by simp; omega
      have h6 : ¬ (n : Int) = 32 := by omega
      clear h
      go_enter Tryz.func65, Tryz.ntmps65
      go_wp2
      go_ret2
      exact ⟨rfl, unhide HB⟩
end Go.Proofs.YtkablmjkffdloaaGreatDoor

namespace Go.Proofs.YtkablmjkffdloaaGreatDoor
open Go.RowKit

theorem index_no {c : UInt8} {r : Bs} : ∀ {a : Bs}, c ∉ a → Lib.index a (c :: r) = -1
  | [], _ => rfl
  | x :: a, h => by
    have hx : x ≠ c := fun e => h (by simp [e])
    have ha : c ∉ a := fun e => h (by simp [e])
    show (if (c :: r).isPrefixOf (x :: a) then (0 : Int) else if Lib.index a (c :: r) == -1 then -1 else Lib.index a (c :: r) + 1) = -1
    have hp : (c :: r).isPrefixOf (x :: a) = false := by
      show ((c == x) && r.isPrefixOf a) = false
      rw [beq_eq_false_iff_ne.2 (fun e => hx e.symm)]; rfl
    rw [hp, index_no ha]
    rfl
theorem prefix_self : ∀ (r b : Bs), r.isPrefixOf (r ++ b) = true
  | [], _ => by simp
  | x :: r, b => by
    show ((x == x) && r.isPrefixOf (r ++ b)) = true
    rw [prefix_self r b]; simp
theorem index_at {c : UInt8} {r b : Bs} : ∀ {a : Bs}, c ∉ a → Lib.index (a ++ (c :: (r ++ b))) (c :: r) = (a.length : Int)
  | [], _ => by
    show (if (c :: r).isPrefixOf (c :: (r ++ b)) then (0 : Int) else _) = 0
    have hp : (c :: r).isPrefixOf (c :: (r ++ b)) = true := prefix_self (c :: r) b
    rw [hp]; rfl
  | x :: a, h => by
    have hx : x ≠ c := fun e => h (by simp [e])
    have ha : c ∉ a := fun e => h (by simp [e])
    show (if (c :: r).isPrefixOf (x :: (a ++ (c :: (r ++ b)))) then (0 : Int) else if Lib.index (a ++ (c :: (r ++ b))) (c :: r) == -1 then -1 else Lib.index (a ++ (c :: (r ++ b))) (c :: r) + 1) = _
    have hp : (c :: r).isPrefixOf (x :: (a ++ (c :: (r ++ b)))) = false := by
      show ((c == x) && _) = false
      rw [beq_eq_false_iff_ne.2 (fun e => hx e.symm)]; rfl
    have hi := index_at (r := r) (b := b) ha
    rw [hp, hi]
    have : (((a.length : Int) == -1)) = false := by simp
    rw [this]
    simp

theorem cut_no {c : UInt8} {r a : Bs} (h : c ∉ a) : Lib.cut a (c :: r) = (a, [], false) := by
  unfold Lib.cut
  rw [index_no h, if_neg (by decide)]
theorem cut_at {c : UInt8} {r a b : Bs} (h : c ∉ a) : Lib.cut (a ++ (c :: (r ++ b))) (c :: r) = (a, b, true) := by
  unfold Lib.cut
  rw [index_at h, if_pos (by omega)]
  have h1 : ((a.length : Int)).toNat = a.length := by omega
  rw [h1, List.take_left]
  have h2 : (a ++ (c :: (r ++ b))).drop (a.length + (c :: r).length) = b := by
    rw [← List.drop_drop, List.drop_left]
    show (c :: (r ++ b)).drop (r.length + 1) = b
    rw [List.drop_succ_cons, List.drop_left]
  rw [h2]


theorem dec_less {n : Nat} (h : n < 10) : Lib.decDigits n = [UInt8.ofNat (48 + n)] := by rw [Lib.decDigits, dif_pos h]
theorem dec_more {n : Nat} (h : ¬ n < 10) : Lib.decDigits n = Lib.decDigits (n / 10) ++ [UInt8.ofNat (48 + n % 10)] := by rw [Lib.decDigits, dif_neg h]
theorem dig_nat {d : Nat} (h : d < 10) : (UInt8.ofNat (48 + d)).toNat = 48 + d := by simp; omega
theorem dec_all : ∀ (n : Nat) (c : UInt8), c ∈ Lib.decDigits n → 48 ≤ c.toNat ∧ c.toNat ≤ 57 := by
  intro n
  induction n using Nat.strongRecOn with
  | _ n ih =>
    intro c hc
    by_cases h : n < 10
    · rw [dec_less h] at hc
      simp only [List.mem_singleton] at hc
      subst hc
      rw [dig_nat h]
      omega
    · rw [dec_more h] at hc
      rcases List.mem_append.1 hc with hc | hc
      · exact ih (n / 10) (by omega) c hc
      · simp only [List.mem_singleton] at hc
        subst hc
        rw [dig_nat (by omega)]
        omega
theorem dec_no10 (n : Nat) : (10 : UInt8) ∉ Lib.decDigits n := fun h => by
  have := (dec_all n 10 h).1
  revert this
  decide
theorem dec_some (n : Nat) : ∃ c r, Lib.decDigits n = c :: r ∧ 48 ≤ c.toNat ∧ c.toNat ≤ 57 := by
  cases e : Lib.decDigits n with
  | nil =>
    by_cases h : n < 10
    · rw [dec_less h] at e; cases e
    · rw [dec_more h] at e; simp at e
  | cons c r => exact ⟨c, r, rfl, dec_all n c (by rw [e]; simp)⟩
theorem uint_snoc {c : UInt8} {d : Nat} (hc : c.toNat = 48 + d) (hd : d < 10) : ∀ (l : Bs) (acc u : Nat), Lib.parseUint10 acc l = .ok u → u < 1000000000000 → Lib.parseUint10 acc (l ++ [c]) = .ok (u * 10 + d)
  | [], acc, u, h, hu => by
    simp only [Lib.parseUint10] at h
    injection h with h
    subst h
    simp only [List.nil_append, Lib.parseUint10]
    rw [if_pos (by omega), if_neg (by omega), if_neg (by omega), hc]
    congr 2
    omega
  | x :: l, acc, u, h, hu => by
    simp only [List.cons_append, Lib.parseUint10] at h ⊢
    split at h
    · rename_i h1
      split at h
      · cases h
      · rename_i h2
        split at h
        · cases h
        · rename_i h3
          rw [if_pos h1, if_neg h2, if_neg h3]
          exact uint_snoc hc hd l _ u h hu
    · cases h
theorem uint_dec : ∀ (n : Nat), n < 1000000000000 → Lib.parseUint10 0 (Lib.decDigits n) = .ok n := by
  intro n
  induction n using Nat.strongRecOn with
  | _ n ih =>
    intro hn
    by_cases h : n < 10
    · rw [dec_less h]
      have := uint_snoc (c := UInt8.ofNat (48 + n)) (dig_nat h) h [] 0 0 rfl (by omega)
      simpa using this
    · rw [dec_more h]
      have := uint_snoc (c := UInt8.ofNat (48 + n % 10)) (dig_nat (by omega)) (by omega) (Lib.decDigits (n / 10)) 0 (n / 10) (ih _ (by omega) (by omega)) (by omega)
      rw [this]
      congr 1
      omega
theorem atoi_dec {n : Nat} (hn : n ≤ 1048576) : Lib.atoiAll (Lib.decDigits n) = .ok (n : Int) := by
  obtain ⟨c, r, e, h1, h2⟩ := dec_some n
  have hu := uint_dec n (by omega)
  rw [e] at hu ⊢
  unfold Lib.atoiAll
  simp only
  have hs : ¬ (c.toNat = 43 ∨ c.toNat = 45) := by omega
  have hm : Lib.parseMag (c :: r) = .ok n := by unfold Lib.parseMag; rw [if_neg (by simp), hu]
  rw [if_neg hs, hm]
  simp only
  rw [if_neg (by omega), if_neg (by omega), if_neg (by omega)]

/-- A text is a good head's. -/
def isHead (s : Bs) (n : Nat) (r : Bs) : Prop := n ≤ 1048576 ∧ r.length = 32 ∧ headT n r = s
theorem trimM (x : Bs) : Lib.trimPrefix (headM ++ x) headM = x := by
  unfold Lib.trimPrefix
  have : Lib.hasPrefix (headM ++ x) headM = true := prefix_self headM x
  rw [this, if_pos rfl, List.drop_left]
theorem head_cut (n : Nat) (r : Bs) : Lib.cut (Lib.trimPrefix (headT n r) headM) [10] = (Lib.decDigits n, b64 r ++ [10], true) := by
  unfold headT
  rw [trimM]
  exact cut_at (r := []) (dec_no10 n)
theorem trim10 (x : Bs) : Lib.trimSuffix (x ++ [10]) [10] = x := by
  unfold Lib.trimSuffix
  have : Lib.hasSuffix (x ++ [10]) [10] = true := by
    unfold Lib.hasSuffix
    simp
  rw [this, if_pos rfl]
  simp

end Go.Proofs.YtkablmjkffdloaaGreatDoor
