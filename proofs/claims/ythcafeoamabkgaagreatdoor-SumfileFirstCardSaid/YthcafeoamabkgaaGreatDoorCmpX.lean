/-
  The contracts of Max, ValidVersion, Parts.
-/
import Derived.Test.YthcafeoamabkgaaGreatDoorVersX
import Derived.Deep.RegionHeld3
import Derived.Test.YthcafeoamabkgaaGreatDoorPure5
namespace Go.Proofs.YthcafeoamabkgaaGreatDoor
open Go.RowKit

theorem or_two {w : World} {B : Nat} {x y : Int} {cp : Nat} (h0 : w.cell? ⟨B, 0, none⟩ = some (.int .i64 x)) (h1 : w.cell? ⟨B, 1, none⟩ = some (.int .i64 y)) :
    Calls Tryz.prog 93 #[.slice (some ⟨B, 0, none⟩) 2 cp] w fun e w' => e = .returned (.int .i64 (orI x y)) ∧ w' = w := by
  by_cases hx : x = 0
  · by_cases hy : y = 0
    · have HV : Hid (orI x y = 0) := by show orI x y = 0; unfold orI; rw [if_pos hx, hy]
      subst hx hy
      go_enter Tryz.func93, Tryz.ntmps93
      go_wp2
      refine wp_loop_rounds 3 ?_
      rw [rounds_succ]
      go_wp2
      rw [rounds_succ]
      go_wp2
      rw [rounds_succ]
      go_wp2
      go_ret
      exact ⟨retv (by rw [unhide HV]; rfl), rfl⟩
    · have HV : Hid (orI x y = y) := by show orI x y = y; unfold orI; rw [if_pos hx]
      subst hx
      go_enter Tryz.func93, Tryz.ntmps93
      go_wp2
      refine wp_loop_rounds 2 ?_
      rw [rounds_succ]
      go_wp2
      rw [rounds_succ]
      go_wp2
      go_ret
      exact ⟨retv (by rw [unhide HV]; rfl), rfl⟩
  · have HV : Hid (orI x y = x) := by show orI x y = x; unfold orI; rw [if_neg hx]
    go_enter Tryz.func93, Tryz.ntmps93
    go_wp2
    refine wp_loop_rounds 1 ?_
    rw [rounds_succ]
    go_wp2
    go_ret
    exact ⟨retv (by rw [unhide HV]; rfl), rfl⟩

theorem compareInt_nat (a b : Nat) : Lib.compareInt (a : Int) (b : Int) = cmpNat a b := by
  unfold Lib.compareInt cmpNat
  by_cases h1 : a < b
  · rw [if_pos (by omega), if_pos h1]
  · rw [if_neg (by omega), if_neg h1]
    by_cases h2 : b < a
    · rw [if_pos (by omega), if_pos h2]
    · rw [if_neg (by omega), if_neg h2]
theorem cmpLen_any (a b : Nat) (w : World) : Calls Tryz.prog 95 #[.int .i64 (a : Int), .int .i64 (b : Int)] w fun e w' => e = .returned (.int .i64 (cmpNat a b)) ∧ w' = w := by
  rw [← compareInt_nat]; exact Tryz.cmp_Compare_int _ _ w
theorem cmpBytes_any (a b : Str) (w : World) : Calls Tryz.prog 103 #[.string (ba a), .string (ba b)] w fun e w' => e = .returned (.int .i64 (Lib.compareBytes a b)) ∧ w' = w := Tryz.strings_Compare (ba a) (ba b) w

theorem cmpIds_any {a b : Str} (ha : a.length ≤ 4294967281) (hb : b.length ≤ 4294967281) (w : World) : Gives 267 #[.string (ba a), .string (ba b)] w (.int .i64 (cmpIds a b)) := by
  unfold Gives
  have hsa : (ba a).size = a.length := ba_size a
  have hsb : (ba b).size = b.length := ba_size b
  cases hda : digitsB a with
  | true =>
    cases hdb : digitsB b with
    | true =>
      have HV : Hid (cmpIds a b = orI (cmpNat a.length b.length) (Lib.compareBytes a b)) := by show cmpIds a b = _; unfold cmpIds; rw [hda, hdb]; rfl
      have HA := hide hda
      have HB := hide hdb
      clear hda hdb
      go_enter Tryz.func267, Tryz.ntmps267
      go_wp2_with (go_at_call 216; refine (digits_is (unhide HA) ha _).mono ?_)
      rintro e w1 ⟨rfl, hw⟩
      subst hw
      go_wp2_with (go_at_call 216; refine (digits_is (unhide HB) hb _).mono ?_)
      rintro e w1 ⟨rfl, hw⟩
      subst hw
      go_wp2_with (first | (go_at_call 95; refine (cmpLen_any a.length b.length _).mono ?_; rintro e w1 ⟨rfl, hw⟩; subst hw) | (go_at_call 103; refine (cmpBytes_any a b _).mono ?_; rintro e w1 ⟨rfl, hw⟩; subst hw) | (go_at_call 93; fail))
      refine (or_two (x := cmpNat a.length b.length) (y := Lib.compareBytes a b) (by simp) (by simp)).mono ?_
      rintro e w1 ⟨rfl, rfl⟩
      go_wp2
      go_ret
      exact ⟨retv (by rw [unhide HV]; rfl), (Bel.refl _ _).alloc (Nat.le_refl _) _⟩
    | false =>
      have HV : Hid (cmpIds a b = -1) := by show cmpIds a b = _; unfold cmpIds; rw [hda, hdb]; rfl
      have HA := hide hda
      have HB := hide hdb
      clear hda hdb
      go_enter Tryz.func267, Tryz.ntmps267
      go_wp2_with (go_at_call 216; refine (digits_is (unhide HA) ha _).mono ?_)
      rintro e w1 ⟨rfl, hw⟩
      subst hw
      go_wp2_with (go_at_call 216; refine (digits_is (unhide HB) hb _).mono ?_)
      rintro e w1 ⟨rfl, hw⟩
      subst hw
      go_wp2
      go_ret
      exact ⟨retv (by rw [unhide HV]; rfl), Bel.refl _ _⟩
  | false =>
    cases hdb : digitsB b with
    | true =>
      have HV : Hid (cmpIds a b = 1) := by show cmpIds a b = _; unfold cmpIds; rw [hda, hdb]; rfl
      have HA := hide hda
      have HB := hide hdb
      clear hda hdb
      go_enter Tryz.func267, Tryz.ntmps267
      go_wp2_with (go_at_call 216; refine (digits_is (unhide HA) ha _).mono ?_)
      rintro e w1 ⟨rfl, hw⟩
      subst hw
      go_wp2_with (go_at_call 216; refine (digits_is (unhide HB) hb _).mono ?_)
      rintro e w1 ⟨rfl, hw⟩
      subst hw
      go_wp2
      go_ret
      exact ⟨retv (by rw [unhide HV]; rfl), Bel.refl _ _⟩
    | false =>
      have HV : Hid (cmpIds a b = Lib.compareBytes a b) := by show cmpIds a b = _; unfold cmpIds; rw [hda, hdb]; rfl
      have HA := hide hda
      have HB := hide hdb
      clear hda hdb
      go_enter Tryz.func267, Tryz.ntmps267
      go_wp2_with (go_at_call 216; refine (digits_is (unhide HA) ha _).mono ?_)
      rintro e w1 ⟨rfl, hw⟩
      subst hw
      go_wp2_with (go_at_call 216; refine (digits_is (unhide HB) hb _).mono ?_)
      rintro e w1 ⟨rfl, hw⟩
      subst hw
      go_wp2_with (first | (go_at_call 103; refine (cmpBytes_any a b _).mono ?_; rintro e w1 ⟨rfl, hw⟩; subst hw))
      go_ret
      exact ⟨retv (by rw [unhide HV]; rfl), Bel.refl _ _⟩

end Go.Proofs.YthcafeoamabkgaaGreatDoor

namespace Go.Proofs.YthcafeoamabkgaaGreatDoor
open Go.RowKit

theorem cmpList_longer_at (f : Str → Str → Int) {l m : List Str} {k : Nat} (h1 : k < l.length) (h2 : m.length ≤ k) : cmpList f (l.drop k) (m.drop k) = 1 := by
  rw [List.drop_eq_nil_of_le h2, List.drop_eq_getElem_cons h1]; rfl
theorem cmpList_step (f : Str → Str → Int) {l m : List Str} {k : Nat} (h1 : k < l.length) (h2 : k < m.length) : cmpList f (l.drop k) (m.drop k) = orI (f l[k] m[k]) (cmpList f (l.drop (k + 1)) (m.drop (k + 1))) := by
  rw [List.drop_eq_getElem_cons h1, List.drop_eq_getElem_cons h2]; rfl
theorem cmpList_end (f : Str → Str → Int) {l m : List Str} : cmpList f (l.drop l.length) (m.drop l.length) = if l.length < m.length then -1 else 0 := by
  rw [List.drop_length]
  by_cases h : l.length < m.length
  · rw [if_pos h, List.drop_eq_getElem_cons h]; rfl
  · rw [if_neg h, List.drop_eq_nil_of_le (by omega)]; rfl

set_option maxHeartbeats 1000000 in
theorem compareFunc_any {l m : List Str} {A B ca cb : Nat} (hl : l.length ≤ 4294967282) (_hm : m.length ≤ 4294967282) (hsl : ∀ p ∈ l, p.length ≤ 4294967281) (hsm : ∀ p ∈ m, p.length ≤ 4294967281) {w : World} (hA : Texts w A l) (hB : Texts w B m) (lA : A < w.heap.size) (lB : B < w.heap.size) :
    Gives 266 #[.slice (some ⟨A, 0, none⟩) l.length ca, .slice (some ⟨B, 0, none⟩) m.length cb, .func (.func 267) #[] #[]] w (.int .i64 (cmpList cmpIds l m)) := by
  unfold Gives
  have HA := hide hA
  have HB := hide hB
  have HSL := hide hsl
  have HSM := hide hsm
  clear hA hB hsl hsm
  go_enter Tryz.func266, Tryz.ntmps266
  go_wp2
  go_loopw [13] (fun i wr => ∃ k : Nat, k ≤ l.length ∧ k ≤ m.length ∧ i = .int .i64 k ∧ cmpList cmpIds l m = cmpList cmpIds (l.drop k) (m.drop k) ∧ Bel w.heap.size w wr) (fun i _ => l.length - (intOf i).toNat)
  case atStart => exact ⟨0, Nat.zero_le _, Nat.zero_le _, rfl, rfl, Bel.refl _ _⟩
  case round =>
    obtain ⟨k, hk, hkm, rfl, hc, hb⟩ := hrel
    have HC := hide hc
    have HBW := hide hb
    have tA := (unhide HA).below lA hb
    have tB := (unhide HB).below lB hb
    clear hc hb
    by_cases h1 : k < l.length
    · have c1 := tA k h1
      by_cases h2 : k < m.length
      · have c2 := tB k h2
        clear tA tB
        go_wp2_with (go_at_call 267; fail)
        refine (cmpIds_any ((unhide HSL) _ (List.getElem_mem h1)) ((unhide HSM) _ (List.getElem_mem h2)) _).mono ?_
        rintro e w2 ⟨rfl, b2⟩
        have HS : Hid (cmpList cmpIds l m = orI (cmpIds l[k] m[k]) (cmpList cmpIds (l.drop (k + 1)) (m.drop (k + 1)))) := (unhide HC).trans (cmpList_step cmpIds h1 h2)
        have BB := hide ((unhide HBW).trans (b2.mono (unhide HBW).size))
        by_cases hz : cmpIds l[k] m[k] = 0
        · have HS' : Hid (cmpList cmpIds l m = cmpList cmpIds (l.drop (k + 1)) (m.drop (k + 1))) := (unhide HS).trans (by rw [hz]; rfl)
          clear b2 HBW c1 c2 HC
          go_wp2
          go_roundw
          case rel => exact ⟨k + 1, h1, h2, by simp, unhide HS', unhide BB⟩
          case measure => simp [intOf]; omega
        · have HS' : Hid (cmpList cmpIds l m = cmpIds l[k] m[k]) := (unhide HS).trans (by unfold orI; rw [if_neg hz])
          clear b2 HBW c1 c2 HC
          go_wp2
          go_ret
          exact ⟨retv (by rw [unhide HS']; rfl), unhide BB⟩
      · have HS : Hid (cmpList cmpIds l m = 1) := (unhide HC).trans (cmpList_longer_at cmpIds h1 (by omega))
        clear tA tB
        go_wp2
        go_ret
        exact ⟨retv (by rw [unhide HS]; rfl), unhide HBW⟩
    · have hke : k = l.length := by omega
      subst hke
      have HS : Hid (cmpList cmpIds l m = if l.length < m.length then -1 else 0) := (unhide HC).trans (cmpList_end cmpIds)
      clear tA tB
      by_cases h3 : l.length < m.length
      · have HS' : Hid (cmpList cmpIds l m = -1) := (unhide HS).trans (if_pos h3)
        clear HS HC
        go_wp2
        go_ret
        exact ⟨retv (by rw [unhide HS']; rfl), unhide HBW⟩
      · have HS' : Hid (cmpList cmpIds l m = 0) := (unhide HS).trans (if_neg h3)
        clear HS HC
        go_wp2
        go_ret
        exact ⟨retv (by rw [unhide HS']; rfl), unhide HBW⟩

theorem pieces_bound {c : UInt8} {l : Str} (h : l.length < 4294967281) : (pieces c l).length ≤ 4294967282 ∧ ∀ p ∈ pieces c l, p.length ≤ 4294967281 := by
  refine ⟨?_, fun p hp => by have := pieces_small c l p hp; omega⟩
  rw [pieces_length, Lib.count_one]
  have := List.count_le_length (a := c) (l := l)
  omega

set_option maxHeartbeats 1000000 in
theorem cmpPres_any {a b : Str} (ha : a.length < 4294967281) (hb : b.length < 4294967281) {w : World} (hg : Gd w) : Gives 256 #[.string (ba a), .string (ba b)] w (.int .i64 (cmpPres a b)) := by
  unfold Gives
  have la := ba_list a
  have lb := ba_list b
  by_cases h1 : a = b
  · have HV : Hid (cmpPres a b = 0) := by show cmpPres a b = 0; unfold cmpPres; rw [if_pos h1]
    subst h1
    go_enter Tryz.func256, Tryz.ntmps256
    go_wp2
    go_ret
    exact ⟨retv (by rw [unhide HV]; rfl), Bel.refl _ _⟩
  · by_cases h2 : a = []
    · have HV : Hid (cmpPres a b = 1) := by show cmpPres a b = 1; unfold cmpPres; rw [if_neg h1, if_pos h2]
      subst h2
      have h3 : b.isEmpty = false := by simpa using fun e => h1 e.symm
      go_enter Tryz.func256, Tryz.ntmps256
      go_wp2
      go_ret
      exact ⟨retv (by rw [unhide HV]; rfl), Bel.refl _ _⟩
    · by_cases h3 : b = []
      · have HV : Hid (cmpPres a b = -1) := by show cmpPres a b = -1; unfold cmpPres; rw [if_neg h1, if_neg h2, if_pos h3]
        have h4 : a.isEmpty = false := by simpa using h2
        subst h3
        go_enter Tryz.func256, Tryz.ntmps256
        go_wp2
        go_ret
        exact ⟨retv (by rw [unhide HV]; rfl), Bel.refl _ _⟩
      · have HV : Hid (cmpPres a b = cmpList cmpIds (pieces 46 a) (pieces 46 b)) := by show cmpPres a b = _; unfold cmpPres; rw [if_neg h1, if_neg h2, if_neg h3]
        have q1 : (a == b) = false := by simpa using h1
        have q2 : a.isEmpty = false := by simpa using h2
        have q3 : b.isEmpty = false := by simpa using h3
        have e46 : (⟨#[46]⟩ : ByteArray) = ba [46] := rfl
        clear h1 h2 h3
        go_enter Tryz.func256, Tryz.ntmps256
        go_wp2_with (go_at_call 76; refine (split_any 46 ha hg).mono ?_)
        rintro e w1 ⟨A, rfl, tA, lA, b1⟩
        go_wp2_with (go_at_call 76; refine (split_any 46 hb (hg.below b1)).mono ?_)
        rintro e w2 ⟨B, rfl, tB, lB, b2⟩
        have p1 := pieces_bound (c := 46) ha
        have p2 := pieces_bound (c := 46) hb
        have HT := hide tA
        have HT2 := hide tB
        clear tA tB
        go_wp2_with (go_at_call 266; fail)
        refine (compareFunc_any p1.1 p2.1 p1.2 p2.2 ((unhide HT).below lA.1 b2) (unhide HT2) (Nat.lt_of_lt_of_le lA.1 b2.size) lB.1).mono ?_
        rintro e w3 ⟨rfl, b3⟩
        have HB := hide (below_trans (below_trans b1 b2) b3)
        clear b1 b2 b3 p1 p2
        go_wp2
        go_ret
        exact ⟨retv (by rw [unhide HV]; rfl), unhide HB⟩

end Go.Proofs.YthcafeoamabkgaaGreatDoor

namespace Go.Proofs.YthcafeoamabkgaaGreatDoor
open Go.RowKit

/-- Three numbers in a block. -/
def Three (w : World) (A : Nat) (a b c : Nat) : Prop := w.cell? ⟨A, 0, none⟩ = some (.int .i64 (a : Int)) ∧ w.cell? ⟨A, 1, none⟩ = some (.int .i64 (b : Int)) ∧ w.cell? ⟨A, 2, none⟩ = some (.int .i64 (c : Int))

theorem orI_first {a b : Int} (h : a ≠ 0) : orI a b = a := by unfold orI; rw [if_neg h]

theorem compare3 {w : World} {A B ca cb : Nat} {a b c x y z : Nat} (hA : Three w A a b c) (hB : Three w B x y z) :
    Calls Tryz.prog 255 #[.slice (some ⟨A, 0, none⟩) 3 ca, .slice (some ⟨B, 0, none⟩) 3 cb] w fun e w' => e = .returned (.int .i64 (orI (cmpNat a x) (orI (cmpNat b y) (cmpNat c z)))) ∧ w' = w := by
  obtain ⟨a0, a1, a2⟩ := hA
  obtain ⟨b0, b1, b2⟩ := hB
  by_cases h0 : cmpNat a x = 0
  · by_cases h1 : cmpNat b y = 0
    · by_cases h2 : cmpNat c z = 0
      · have HV : Hid (orI (cmpNat a x) (orI (cmpNat b y) (cmpNat c z)) = 0) := by show orI _ _ = _; rw [orI_pos h0, orI_pos h1]; exact h2
        go_enter Tryz.func255, Tryz.ntmps255
        go_wp2
        refine wp_loop_rounds 4 ?_
        rw [rounds_succ]
        go_wp2_with (go_at_call 95; refine (cmpLen_any a x _).mono ?_; rintro e w1 ⟨rfl, hw⟩; subst hw)
        rw [rounds_succ]
        go_wp2_with (go_at_call 95; refine (cmpLen_any b y _).mono ?_; rintro e w1 ⟨rfl, hw⟩; subst hw)
        rw [rounds_succ]
        go_wp2_with (go_at_call 95; refine (cmpLen_any c z _).mono ?_; rintro e w1 ⟨rfl, hw⟩; subst hw)
        rw [rounds_succ]
        go_wp2
        go_ret
        exact ⟨retv (by rw [unhide HV]; rfl), rfl⟩
      · have HV : Hid (orI (cmpNat a x) (orI (cmpNat b y) (cmpNat c z)) = cmpNat c z) := by show orI _ _ = _; rw [orI_pos h0, orI_pos h1]
        go_enter Tryz.func255, Tryz.ntmps255
        go_wp2
        refine wp_loop_rounds 3 ?_
        rw [rounds_succ]
        go_wp2_with (go_at_call 95; refine (cmpLen_any a x _).mono ?_; rintro e w1 ⟨rfl, hw⟩; subst hw)
        rw [rounds_succ]
        go_wp2_with (go_at_call 95; refine (cmpLen_any b y _).mono ?_; rintro e w1 ⟨rfl, hw⟩; subst hw)
        rw [rounds_succ]
        go_wp2_with (go_at_call 95; refine (cmpLen_any c z _).mono ?_; rintro e w1 ⟨rfl, hw⟩; subst hw)
        go_ret
        exact ⟨retv (by rw [unhide HV]; rfl), rfl⟩
    · have HV : Hid (orI (cmpNat a x) (orI (cmpNat b y) (cmpNat c z)) = cmpNat b y) := by show orI _ _ = _; rw [orI_pos h0]; exact orI_first h1
      go_enter Tryz.func255, Tryz.ntmps255
      go_wp2
      refine wp_loop_rounds 2 ?_
      rw [rounds_succ]
      go_wp2_with (go_at_call 95; refine (cmpLen_any a x _).mono ?_; rintro e w1 ⟨rfl, hw⟩; subst hw)
      rw [rounds_succ]
      go_wp2_with (go_at_call 95; refine (cmpLen_any b y _).mono ?_; rintro e w1 ⟨rfl, hw⟩; subst hw)
      go_ret
      exact ⟨retv (by rw [unhide HV]; rfl), rfl⟩
  · have HV : Hid (orI (cmpNat a x) (orI (cmpNat b y) (cmpNat c z)) = cmpNat a x) := by show orI _ _ = _; exact orI_first h0
    go_enter Tryz.func255, Tryz.ntmps255
    go_wp2
    refine wp_loop_rounds 1 ?_
    rw [rounds_succ]
    go_wp2_with (go_at_call 95; refine (cmpLen_any a x _).mono ?_; rintro e w1 ⟨rfl, hw⟩; subst hw)
    go_ret
    exact ⟨retv (by rw [unhide HV]; rfl), rfl⟩

theorem Blk.same {w W : World} {b : Nat} {cs : Array Value} {t : TypeId} (h : Blk w b cs t) (e : W.heap = w.heap) : Blk W b cs t := by unfold Blk at h ⊢; rw [e]; exact h

def verAgg (x : Ver) : Value := .agg #[.int .i64 (x.a : Int), .int .i64 (x.b : Int), .int .i64 (x.c : Int), .string (ba x.pre)]

set_option maxHeartbeats 1000000 in
theorem cmpVer_any {x y : Ver} (hx : x.pre.length < 4294967281) (hy : y.pre.length < 4294967281) {w : World} (hg : Gd w) : Gives 224 #[verAgg x, verAgg y] w (.int .i64 (cmpVer x y)) := by
  unfold Gives verAgg
  go_enter Tryz.func224, Tryz.ntmps224
  go_wp2_with fail
  obtain ⟨w2, hw2⟩ : ∃ w2, w2 = (w.alloc (.cells #[.int .i64 (x.a : Int), .int .i64 (x.b : Int), .int .i64 (x.c : Int), .string (ba x.pre)] 205)).alloc (.cells #[.int .i64 (y.a : Int), .int .i64 (y.b : Int), .int .i64 (y.c : Int), .string (ba y.pre)] 205) := ⟨_, rfl⟩
  rw [← hw2]
  have kx : Blk w2 w.heap.size #[.int .i64 (x.a : Int), .int .i64 (x.b : Int), .int .i64 (x.c : Int), .string (ba x.pre)] 205 := by rw [hw2]; exact (Blk.new w _ 205).alloc _
  have ky : Blk w2 (w.heap.size + 1) #[.int .i64 (y.a : Int), .int .i64 (y.b : Int), .int .i64 (y.c : Int), .string (ba y.pre)] 205 := by
    rw [hw2]
    have := Blk.new (w.alloc (.cells #[.int .i64 (x.a : Int), .int .i64 (x.b : Int), .int .i64 (x.c : Int), .string (ba x.pre)] 205)) #[.int .i64 (y.a : Int), .int .i64 (y.b : Int), .int .i64 (y.c : Int), .string (ba y.pre)] 205
    have e : (w.alloc (.cells #[.int .i64 (x.a : Int), .int .i64 (x.b : Int), .int .i64 (x.c : Int), .string (ba x.pre)] 205)).heap.size = w.heap.size + 1 := by simp
    rw [e] at this
    exact this
  have b2 : Bel w.heap.size w w2 := by rw [hw2]; exact ((Bel.refl _ _).alloc (Nat.le_refl _) _).alloc (by simp) _
  have k3 : w2.cell? ⟨w.heap.size, 3, none⟩ = some (.string (ba x.pre)) := kx.cell 3
  have l3 : w2.cell? ⟨w.heap.size + 1, 3, none⟩ = some (.string (ba y.pre)) := ky.cell 3
  have H101 : Hid (∀ W : World, W.heap = w2.heap → Calls Tryz.prog 255 #[.slice (some ⟨w.heap.size, 0, none⟩) 3 3, .slice (some ⟨w.heap.size + 1, 0, none⟩) 3 3] W fun e w' => e = .returned (.int .i64 (orI (cmpNat x.a y.a) (orI (cmpNat x.b y.b) (cmpNat x.c y.c)))) ∧ w' = W) := by
    intro W hW
    have ex := kx.same hW
    have ey := ky.same hW
    exact compare3 ⟨ex.cell 0, ex.cell 1, ex.cell 2⟩ ⟨ey.cell 0, ey.cell 1, ey.cell 2⟩
  have H102 : Hid (∀ W : World, W.heap = w2.heap → W.os = w2.os → W.tape = w2.tape → W.output = w2.output → w2.drawn ≤ W.drawn → Calls Tryz.prog 256 #[.string (ba x.pre), .string (ba y.pre)] W fun e w4 => e = .returned (.int .i64 (cmpPres x.pre y.pre)) ∧ Bel w.heap.size w w4 ∧ w4.cell? ⟨w.heap.size, 3, none⟩ = some (.string (ba x.pre)) ∧ w4.cell? ⟨w.heap.size + 1, 3, none⟩ = some (.string (ba y.pre))) := by
    intro W e1 e2 e3 e4 e5
    have hbW : Bel w.heap.size w W := ⟨e2.trans b2.os, e3.trans b2.tape, e4.trans b2.output, by rw [e1]; exact b2.size, fun k hk => by rw [e1]; exact b2.block k hk, Nat.le_trans b2.drawn e5⟩
    have ex := kx.same e1
    have ey := ky.same e1
    refine (cmpPres_any hx hy (hg.below hbW)).mono ?_
    rintro e w4 ⟨rfl, b4⟩
    exact ⟨rfl, hbW.trans (b4.mono hbW.size), (ex.below b4).cell 3, (ey.below b4).cell 3⟩
  clear hw2 kx ky b2
  go_region_held3 (fun w' => w'.cell? ⟨w.heap.size, 3, none⟩ = some (.string (ba x.pre)) ∧ w'.cell? ⟨w.heap.size + 1, 3, none⟩ = some (.string (ba y.pre)))
    (go_keep)
    (first | (go_at_call 255; refine (unhide H101 _ (by rfl)).mono ?_; rintro e w3 ⟨rfl, rfl⟩) | (go_at_call 256; refine (unhide H102 _ (by rfl) (by rfl) (by rfl) (by rfl) (by first | exact Nat.le_refl _ | exact Nat.le_succ _ | simp)).mono ?_; rintro e w4 ⟨rfl, b4, k34, l34⟩) | (go_at_call 93; refine (or_two (x := orI (cmpNat x.a y.a) (orI (cmpNat x.b y.b) (cmpNat x.c y.c))) (y := cmpPres x.pre y.pre) (by simp) (by simp)).mono ?_; rintro e w5 ⟨rfl, rfl⟩))
  have HB := hide b4
  clear b4
  go_wp2
  go_ret
  exact ⟨rfl, (unhide HB).alloc (unhide HB).size _⟩

theorem pre_small {v : Str} {x : Ver} (h : parseV v = some x) : x.pre.length < 4294967281 := by
  obtain ⟨hl, rest, rfl, hr⟩ := parseV_some h
  have e := (parseR_spec hr).2.1
  have := behind_le 45 rest
  rw [e]
  simp at hl
  omega

set_option maxHeartbeats 1000000 in
theorem compare_any {a b : Str} {w : World} (hg : Gd w) : Gives 184 #[.string (ba a), .string (ba b)] w (.int .i64 (cmpV a b)) := by
  unfold Gives
  go_enter Tryz.func184, Tryz.ntmps184
  go_wp2_with (go_at_call 171; refine (parse_any a hg).mono ?_)
  rintro e w1 ⟨rfl, b1⟩
  rw [verV_eq]
  have g1 := hg.below b1
  cases ha : parseV a with
  | none =>
    cases hb : parseV b with
    | none =>
      have HV : Hid (cmpV a b = Lib.compareBytes a b) := by show cmpV a b = _; unfold cmpV; rw [ha, hb]
      have HB := hide hb
      unfold verCells
      clear ha hb
      have b2 : Bel w1.heap.size w1 (w1.alloc (.cells #[.int .i64 0, .int .i64 0, .int .i64 0, .string ⟨#[]⟩] 205)) := (Bel.refl _ _).alloc (Nat.le_refl _) _
      go_wp2_with (go_at_call 171; refine (parse_any b (g1.below b2)).mono ?_)
      rintro e w3 ⟨rfl, b3⟩
      rw [verV_eq, unhide HB]
      unfold verCells
      have BB := hide (below_trans (below_trans b1 b2) b3)
      clear b1 b2 b3
      go_wp2_with (go_at_call 103; refine (cmpBytes_any a b _).mono ?_; rintro e w1 ⟨rfl, hw⟩; subst hw)
      go_ret
      exact ⟨retv (by rw [unhide HV]; rfl), (unhide BB).alloc (unhide BB).size _⟩
    | some y =>
      have HV : Hid (cmpV a b = -1) := by show cmpV a b = _; unfold cmpV; rw [ha, hb]
      have HB := hide hb
      unfold verCells
      clear ha hb
      have b2 : Bel w1.heap.size w1 (w1.alloc (.cells #[.int .i64 0, .int .i64 0, .int .i64 0, .string ⟨#[]⟩] 205)) := (Bel.refl _ _).alloc (Nat.le_refl _) _
      go_wp2_with (go_at_call 171; refine (parse_any b (g1.below b2)).mono ?_)
      rintro e w3 ⟨rfl, b3⟩
      rw [verV_eq, unhide HB]
      unfold verCells
      have BB := hide (below_trans (below_trans b1 b2) b3)
      clear b1 b2 b3
      go_wp2
      go_ret
      exact ⟨retv (by rw [unhide HV]; rfl), (unhide BB).alloc (unhide BB).size _⟩
  | some x =>
    cases hb : parseV b with
    | none =>
      have HV : Hid (cmpV a b = 1) := by show cmpV a b = _; unfold cmpV; rw [ha, hb]
      have HB := hide hb
      unfold verCells
      clear ha hb
      have b2 : Bel w1.heap.size w1 (w1.alloc (.cells #[.int .i64 (x.a : Int), .int .i64 (x.b : Int), .int .i64 (x.c : Int), .string (ba x.pre)] 205)) := (Bel.refl _ _).alloc (Nat.le_refl _) _
      go_wp2_with (go_at_call 171; refine (parse_any b (g1.below b2)).mono ?_)
      rintro e w3 ⟨rfl, b3⟩
      rw [verV_eq, unhide HB]
      unfold verCells
      have BB := hide (below_trans (below_trans b1 b2) b3)
      clear b1 b2 b3
      go_wp2
      go_ret
      exact ⟨retv (by rw [unhide HV]; rfl), (unhide BB).alloc (unhide BB).size _⟩
    | some y =>
      have HV : Hid (cmpV a b = cmpVer x y) := by show cmpV a b = _; unfold cmpV; rw [ha, hb]
      have HB := hide hb
      have HX : Hid (x.pre.length < 4294967281) := pre_small ha
      have HY : Hid (y.pre.length < 4294967281) := pre_small hb
      unfold verCells
      clear ha hb
      have b2 : Bel w1.heap.size w1 (w1.alloc (.cells #[.int .i64 (x.a : Int), .int .i64 (x.b : Int), .int .i64 (x.c : Int), .string (ba x.pre)] 205)) := (Bel.refl _ _).alloc (Nat.le_refl _) _
      go_wp2_with (go_at_call 171; refine (parse_any b (g1.below b2)).mono ?_)
      rintro e w3 ⟨rfl, b3⟩
      rw [verV_eq, unhide HB]
      unfold verCells
      have BB := hide (below_trans (below_trans b1 b2) b3)
      have kx := (Blk.new w1 #[.int .i64 (x.a : Int), .int .i64 (x.b : Int), .int .i64 (x.c : Int), .string (ba x.pre)] 205).below b3
      have hlt := kx.lt
      have c0 := kx.cell 0
      have c1 := kx.cell 1
      have c2 := kx.cell 2
      have c3 := kx.cell 3
      simp at c0 c1 c2 c3
      have b4 : Bel w3.heap.size w3 (w3.alloc (.cells #[.int .i64 (y.a : Int), .int .i64 (y.b : Int), .int .i64 (y.c : Int), .string (ba y.pre)] 205)) := (Bel.refl _ _).alloc (Nat.le_refl _) _
      have G4 := hide (((g1.below b2).below b3).below b4)
      have hne : ¬ w1.heap.size = w3.heap.size := by omega
      clear b1 b2 b3 kx
      go_wp2_with (go_at_call 224; fail)
      refine (cmpVer_any (x := x) (y := y) (unhide HX) (unhide HY) (unhide G4)).mono ?_
      rintro e w5 ⟨rfl, b5⟩
      have B5 := hide (below_trans (below_trans (unhide BB) b4) b5)
      clear b4 b5
      go_wp2
      go_ret
      exact ⟨retv (by rw [unhide HV]; rfl), unhide B5⟩

end Go.Proofs.YthcafeoamabkgaaGreatDoor

namespace Go.Proofs.YthcafeoamabkgaaGreatDoor
open Go.RowKit

def maxV (a b : Str) : Str := if cmpV a b < 0 then b else a

theorem valid_any {v : Str} {w : World} (hg : Gd w) : Gives 134 #[.string (ba v)] w (.bool (parseV v).isSome) := by
  unfold Gives
  cases hv : parseV v with
  | none =>
    have HV := hide hv
    clear hv
    go_enter Tryz.func134, Tryz.ntmps134
    go_wp2_with (go_at_call 171; refine (parse_any v hg).mono ?_)
    rintro e w1 ⟨rfl, b1⟩
    rw [verV_eq, unhide HV]
    unfold verCells
    go_wp2
    go_ret
    exact ⟨rfl, b1.alloc b1.size _⟩
  | some x =>
    have HV := hide hv
    clear hv
    go_enter Tryz.func134, Tryz.ntmps134
    go_wp2_with (go_at_call 171; refine (parse_any v hg).mono ?_)
    rintro e w1 ⟨rfl, b1⟩
    rw [verV_eq, unhide HV]
    unfold verCells
    go_wp2
    go_ret
    exact ⟨rfl, b1.alloc b1.size _⟩

/-- What Parts answers. -/
def partsV (o : Option Ver) : Value :=
  .tuple #[.int .i64 ((o.getD ⟨0, 0, 0, []⟩).a : Int), .int .i64 ((o.getD ⟨0, 0, 0, []⟩).b : Int), .int .i64 ((o.getD ⟨0, 0, 0, []⟩).c : Int), .string (ba (o.getD ⟨0, 0, 0, []⟩).pre), .bool o.isSome]

set_option maxHeartbeats 1000000 in
theorem parts_any {v : Str} {w : World} (hg : Gd w) : Gives 172 #[.string (ba v)] w (partsV (parseV v)) := by
  unfold Gives
  cases hv : parseV v with
  | none =>
    have HV := hide hv
    clear hv
    go_enter Tryz.func172, Tryz.ntmps172
    go_wp2_with (go_at_call 171; refine (parse_any v hg).mono ?_)
    rintro e w1 ⟨rfl, b1⟩
    rw [verV_eq, unhide HV]
    unfold verCells
    go_wp2
    go_quiet (fail)
    go_wp2
    exact bodyPost_ret (v := partsV none) (by simp [results, Tryz.results172, go_sem, partsV, ba]) rfl ⟨rfl, below_drewN (b1.alloc b1.size _) _⟩
  | some x =>
    have HV := hide hv
    clear hv
    go_enter Tryz.func172, Tryz.ntmps172
    go_wp2_with (go_at_call 171; refine (parse_any v hg).mono ?_)
    rintro e w1 ⟨rfl, b1⟩
    rw [verV_eq, unhide HV]
    unfold verCells
    go_wp2
    go_quiet (fail)
    go_wp2
    exact bodyPost_ret (v := partsV (some x)) (by simp [results, Tryz.results172, go_sem, partsV]) rfl ⟨rfl, below_drewN (b1.alloc b1.size _) _⟩

end Go.Proofs.YthcafeoamabkgaaGreatDoor
