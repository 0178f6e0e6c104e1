/-
  What is laid behind each text.
-/
import Derived.Test.YtkablmjkffdloaaGreatDoorRow
namespace Go.Proofs.YtkablmjkffdloaaGreatDoor
open Go.RowKit

theorem highF (n : Int) (w : World) : Calls Tryz.prog 87 #[.int .i64 n] w fun e w' => e = .returned (.func (.func 144) #[] #[.pointer (some ⟨w.heap.size, 0, none⟩)]) ∧ w' = w.alloc (.cells #[.int .i64 n] 3) := by
  go_enter Tryz.func87, Tryz.ntmps87
  go_wp2
  go_ret
  exact ⟨rfl, rfl⟩

theorem append_none {B : Nat} {w : World} {v : Value} {l : Bs} {c : Nat} (ho : OwnB B w v l) : (Builtin.append_ #[23, 23] 23 #[v, .slice none 0 c]).run Tryz.prog w = .ok v w := by
  obtain ⟨i0, hi, hz0, hz1, hz2⟩ := info_parts info5
  rcases ho.2 with ⟨rfl, h0⟩ | ⟨g, cap, cur, rfl, _, _, hnc, _⟩
  · simp [Builtin.append_, run_underlying Tryz.underlying23, sizeOf, typeInfo, hi, Builtin.lenOf, Builtin.firstCells]
  · simp [Builtin.append_, run_underlying Tryz.underlying23, sizeOf, typeInfo, hi, Builtin.lenOf, Builtin.firstCells, hnc, storeCells]

/-- append of bytes at a slice, wherever it lies. -/
theorem app_at {B : Nat} {w : World} {v : Value} {l r : Bs} {a : Option Addr} {m c : Nat} (hm : r.length = m) (hr : BAt w a r) (ho : OwnB B w v l) (hB : B ≤ w.heap.size) (hl : l.length + m ≤ 4294967296) :
    ∃ v' w', (Builtin.append_ #[23, 23] 23 #[v, .slice a m c]).run Tryz.prog w = .ok v' w' ∧ OwnB B w' v' (l ++ r) ∧ GrB w w' v v' := by
  cases a with
  | none =>
    have h0 : r = [] := by
      rcases hr.els with h | ⟨B, O, hb, _⟩
      · exact h
      · cases hb
    subst h0
    have : m = 0 := by simpa using hm.symm
    subst this
    exact ⟨v, w, append_none ho, by rw [List.append_nil]; exact ho, GrB.refl _ _⟩
  | some ad =>
    refine app_bytes ho hB hm (fun k hk => ?_) hl
    obtain ⟨B', O, ha, hc⟩ := hr.at hk
    cases ha
    have hadd : (⟨B', O, none⟩ : Addr).add k = ⟨B', O + k, none⟩ := by unfold Addr.add; split <;> simp_all
    rw [hadd]
    exact hc

def sliceLen : Value → Nat
  | .slice _ n _ => n
  | _ => 0

theorem low_grownN {w w' : World} (h : w.grownBy w' none) : Below w.heap.size w w' := ⟨h.os, h.tape, h.output, h.size, fun k hk => h.block k hk (by simp)⟩

set_option maxRecDepth 100000 in
set_option maxHeartbeats 2000000 in
theorem last_any {w : World} {a : Option Addr} {r : Bs} {m c n : Nat} (hm : r.length = m) (h64 : m < 64) (hr : BAt w a r) :
    Calls Tryz.prog 86 #[.slice a m c, .int .u64 ((n : Nat) : Int)] w fun e w' => ∃ v', e = .returned v' ∧ OwnB w.heap.size w' v' ((r ++ 0x80 :: List.replicate ((119 - m) % 64) 0) ++ be8 n) ∧ Below w.heap.size w w' := by
  obtain ⟨i0, hi, hz0, hz1, hz2⟩ := info_parts info5
  have HM := hide hm
  have HR := hide hr
  clear hm hr
  go_enter Tryz.func86, Tryz.ntmps86
  go_wp2_with (first
    | (at_make; refine wpList_make_own _ rfl _ _ 23 rfl w.heap.size 5 i0 (.int .u8 0) 1 Tryz.underlying23 hi hz0 hz1 _ _ _ 128 rfl rfl rfl (by rw [hz2]; omega) (by unfold maxLen; omega) (Nat.le_refl _) ?_; intro w1 hown hgrow; have hlow := low_grownN hgrow; obtain ⟨v2, w2, happ1, ho2, hg2⟩ := app_at (l := []) (c := c) (unhide HM) ((unhide HR).low hlow) hown hlow.size (by simp; omega); have HB : Hid (Below w.heap.size w w2) := hide (hlow.trans (hg2.low hlow.size (OwnB.base (l := []) hown))); have HS : Hid (w.heap.size ≤ w2.heap.size) := hide (Nat.le_trans hlow.size hg2.size); have HO := hide ho2; clear hown hgrow hlow hg2 ho2)
    | (at_builtin; refine Lib.wpList_append_run _ rfl _ _ _ _ rfl _ _ rfl rfl _ _ happ1 ?_; clear happ1; obtain ⟨W3, hW3⟩ : ∃ W3, w2.alloc (.cells #[.int .u8 128] 5) = W3 := ⟨_, rfl⟩; obtain ⟨v4, w4, happ2, ho4, hg4⟩ := app_byte (c := 0x80) (W1 := W3) (unhide HO) (unhide HS) (by rw [List.nil_append, unhide HM]; omega) hW3; have HB4 : Hid (Below w.heap.size w w4) := hide ((unhide HB).trans (hg4.low (unhide HS) (OwnB.base (unhide HO)))); have HS4 : Hid (w.heap.size ≤ w4.heap.size) := hide (Nat.le_trans (unhide HS) hg4.size); have HO4 := hide ho4; have HW3 := hide hW3; clear ho4 hg4 hW3)
    | (at_builtin; rw [unhide HW3]; refine Lib.wpList_append_run _ rfl _ _ _ _ rfl _ _ rfl rfl _ _ happ2 ?_; clear happ2))
  obtain ⟨z, hz⟩ : ∃ z, (119 - m) % 64 = z := ⟨_, rfl⟩
  rw [List.nil_append] at HO4
  have HZ := hide hz
  have hzm : m + 1 + z = 56 ∨ m + 1 + z = 120 := by omega
  have hz64 : z < 64 := by omega
  clear hi hz0 hz1 hz2 HO HS HB HR hz
  go_loopw [5] (fun v5 wr => ∃ k : Nat, k ≤ z ∧ OwnB w.heap.size wr v5 (r ++ 0x80 :: List.replicate k 0) ∧ Below w.heap.size w wr) (fun v5 _ => 200 - sliceLen v5)
  case atStart => exact ⟨0, Nat.zero_le _, unhide HO4, unhide HB4⟩
  case round =>
    rename World => wr
    clear HO4 HB4 HS4 HW3
    obtain ⟨k, hk, hrow, hlow⟩ := hrel
    have hlen : (r ++ 0x80 :: List.replicate k 0).length = m + 1 + k := by rw [List.length_append, List.length_cons, List.length_replicate, unhide HM]; omega
    obtain ⟨a5, c5, hv5, _, _, hc5⟩ := OwnB.at hrow
    rw [hlen] at hv5
    subst hv5
    have HO := hide hrow
    have HL := hide hlow
    by_cases hlt : k < z
    · have hne : ((m + 1 + k : Nat) : Int) % 64 ≠ 56 := by omega
      obtain ⟨W3, hW3⟩ : ∃ W3, wr.alloc (.cells #[.int .u8 0] 5) = W3 := ⟨_, rfl⟩
      obtain ⟨v4, w4, happ2, ho4, hg4⟩ := app_byte (c := 0) (W1 := W3) hrow hlow.size (by rw [hlen]; omega) hW3
      have HW3 := hide hW3
      have hcat : (r ++ 0x80 :: List.replicate k 0) ++ [0] = r ++ 0x80 :: List.replicate (k + 1) 0 := by rw [List.replicate_succ', List.append_assoc]; rfl
      rw [hcat] at ho4
      obtain ⟨a6, c6, hv6, _, _, _⟩ := OwnB.at ho4
      have hl6 : (r ++ 0x80 :: List.replicate (k + 1) 0).length = m + 1 + (k + 1) := by rw [← hcat, List.length_append, hlen]; rfl
      rw [hl6] at hv6
      subst hv6
      have HP : Hid (OwnB w.heap.size w4 _ (r ++ 0x80 :: List.replicate (k + 1) 0) ∧ Below w.heap.size w w4) := hide ⟨ho4, hlow.trans (hg4.low hlow.size (OwnB.base hrow))⟩
      clear hW3 hrow hlow ho4 hg4 hcat hl6
      go_wp2_with (at_builtin; rw [unhide HW3]; refine Lib.wpList_append_run _ rfl _ _ _ _ rfl _ _ rfl rfl _ _ happ2 ?_)
      go_roundw
      case rel => exact ⟨k + 1, hlt, (unhide HP).1, (unhide HP).2⟩
      case measure => simp [sliceLen]; omega
    · have hkz : k = z := by omega
      subst hkz
      have heq : ((m + 1 + k : Nat) : Int) % 64 = 56 := by omega
      obtain ⟨W4, hW4⟩ : ∃ W4, wr.alloc (.cells #[.int .i64 8] 3) = W4 := ⟨_, rfl⟩
      have b4 : Below wr.heap.size wr W4 := by rw [← hW4]; exact (Below.refl _ _).alloc (Nat.le_refl _) _
      have k4 : Blk W4 wr.heap.size #[.int .i64 8] 3 := by rw [← hW4]; exact Blk.new _ _ _
      have H8 := hide (high8 (n := n) (OwnB.low hrow b4) (k4.cell 0) (Nat.le_trans hlow.size b4.size) (by rw [hlen]; omega))
      have HL4 := hide (hlow.trans (b4.mono hlow.size))
      have HB4 : Hid (w.heap.size ≤ W4.heap.size) := hide (Nat.le_trans hlow.size b4.size)
      have HBA := hide (OwnB.base hrow)
      have HW4 := hide hW4
      clear hrow hlow b4 k4 hW4
      go_wp2_with (go_at_call 87; fail)
      refine (highF 8 wr).mono ?_
      rintro e w9 ⟨rfl, hw⟩
      rw [hw, unhide HW4]; clear hw w9
      go_wp2_with (go_at_call 144; fail)
      refine (unhide H8).mono ?_
      rintro e w9 ⟨v9, rfl, o9, g9⟩
      have HD : Hid (OwnB w.heap.size w9 v9 ((r ++ 0x80 :: List.replicate k 0) ++ be8 n) ∧ Below w.heap.size w w9) := hide ⟨o9, (unhide HL4).trans (g9.low (unhide HB4) (unhide HBA))⟩
      clear o9 g9
      go_wp2
      go_ret
      rw [unhide HZ]
      exact ⟨_, rfl, (unhide HD).1, (unhide HD).2⟩

end Go.Proofs.YtkablmjkffdloaaGreatDoor
