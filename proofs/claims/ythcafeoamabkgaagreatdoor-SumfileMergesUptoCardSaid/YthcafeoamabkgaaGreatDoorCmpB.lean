/-
  The contracts of CompareFunc at texts and of comparePres.
-/
import Derived.Test.YthcafeoamabkgaaGreatDoorCmpA
namespace Go.Proofs.YthcafeoamabkgaaGreatDoor
open Go.RowKit

theorem cmpList_longer_at (f : Str → Str → Int) {l m : List Str} {k : Nat} (h1 : k < l.length) (h2 : m.length ≤ k) : cmpList f (l.drop k) (m.drop k) = 1 := by
  rw [List.drop_eq_nil_of_le h2, List.drop_eq_getElem_cons h1]; rfl
theorem cmpList_step (f : Str → Str → Int) {l m : List Str} {k : Nat} (h1 : k < l.length) (h2 : k < m.length) : cmpList f (l.drop k) (m.drop k) = orI (f l[k] m[k]) (cmpList f (l.drop (k + 1)) (m.drop (k + 1))) := by
  rw [List.drop_eq_getElem_cons h1, List.drop_eq_getElem_cons h2]; rfl
theorem cmpList_end (f : Str → Str → Int) {l m : List Str} : cmpList f (l.drop l.length) (m.drop l.length) = if l.length < m.length then -1 else 0 := by
  rw [List.drop_length]
  by_cases h : l.length < m.length
  · rw [if_pos h, List.drop_eq_getElem_cons h]; rfl
  · rw [if_neg h, List.drop_eq_nil_of_le (by omega)]; rfl

set_option maxHeartbeats 1000000 in
theorem compareFunc_any {l m : List Str} {A B ca cb : Nat} (hl : l.length ≤ 4294967282) (_hm : m.length ≤ 4294967282) (hsl : ∀ p ∈ l, p.length ≤ 4294967281) (hsm : ∀ p ∈ m, p.length ≤ 4294967281) {w : World} (hA : Texts w A l) (hB : Texts w B m) (lA : A < w.heap.size) (lB : B < w.heap.size) :
    Gives 266 #[.slice (some ⟨A, 0, none⟩) l.length ca, .slice (some ⟨B, 0, none⟩) m.length cb, .func (.func 267) #[] #[]] w (.int .i64 (cmpList cmpIds l m)) := by
  unfold Gives
  have HA := hide hA
  have HB := hide hB
  have HSL := hide hsl
  have HSM := hide hsm
  clear hA hB hsl hsm
  go_enter Tryz.func266, Tryz.ntmps266
  go_wp2
  go_loopw [13] (fun i wr => ∃ k : Nat, k ≤ l.length ∧ k ≤ m.length ∧ i = .int .i64 k ∧ cmpList cmpIds l m = cmpList cmpIds (l.drop k) (m.drop k) ∧ Bel w.heap.size w wr) (fun i _ => l.length - (intOf i).toNat)
  case atStart => exact ⟨0, Nat.zero_le _, Nat.zero_le _, rfl, rfl, Bel.refl _ _⟩
  case round =>
    obtain ⟨k, hk, hkm, rfl, hc, hb⟩ := hrel
    have HC := hide hc
    have HBW := hide hb
    have tA := (unhide HA).below lA hb
    have tB := (unhide HB).below lB hb
    clear hc hb
    by_cases h1 : k < l.length
    · have c1 := tA k h1
      by_cases h2 : k < m.length
      · have c2 := tB k h2
        clear tA tB
        go_wp2_with (go_at_call 267; fail)
        refine (cmpIds_any ((unhide HSL) _ (List.getElem_mem h1)) ((unhide HSM) _ (List.getElem_mem h2)) _).mono ?_
        rintro e w2 ⟨rfl, b2⟩
        have HS : Hid (cmpList cmpIds l m = orI (cmpIds l[k] m[k]) (cmpList cmpIds (l.drop (k + 1)) (m.drop (k + 1)))) := (unhide HC).trans (cmpList_step cmpIds h1 h2)
        have BB := hide ((unhide HBW).trans (b2.mono (unhide HBW).size))
        by_cases hz : cmpIds l[k] m[k] = 0
        · have HS' : Hid (cmpList cmpIds l m = cmpList cmpIds (l.drop (k + 1)) (m.drop (k + 1))) := (unhide HS).trans (by rw [hz]; rfl)
          clear b2 HBW c1 c2 HC
          go_wp2
          go_roundw
          case rel => exact ⟨k + 1, h1, h2, by simp, unhide HS', unhide BB⟩
          case measure => simp [intOf]; omega
        · have HS' : Hid (cmpList cmpIds l m = cmpIds l[k] m[k]) := (unhide HS).trans (by unfold orI; rw [if_neg hz])
          clear b2 HBW c1 c2 HC
          go_wp2
          go_ret
          exact ⟨retv (by rw [unhide HS']; rfl), unhide BB⟩
      · have HS : Hid (cmpList cmpIds l m = 1) := (unhide HC).trans (cmpList_longer_at cmpIds h1 (by omega))
        clear tA tB
        go_wp2
        go_ret
        exact ⟨retv (by rw [unhide HS]; rfl), unhide HBW⟩
    · have hke : k = l.length := by omega
      subst hke
      have HS : Hid (cmpList cmpIds l m = if l.length < m.length then -1 else 0) := (unhide HC).trans (cmpList_end cmpIds)
      clear tA tB
      by_cases h3 : l.length < m.length
      · have HS' : Hid (cmpList cmpIds l m = -1) := (unhide HS).trans (if_pos h3)
        clear HS HC
        go_wp2
        go_ret
        exact ⟨retv (by rw [unhide HS']; rfl), unhide HBW⟩
      · have HS' : Hid (cmpList cmpIds l m = 0) := (unhide HS).trans (if_neg h3)
        clear HS HC
        go_wp2
        go_ret
        exact ⟨retv (by rw [unhide HS']; rfl), unhide HBW⟩

theorem pieces_bound {c : UInt8} {l : Str} (h : l.length < 4294967281) : (pieces c l).length ≤ 4294967282 ∧ ∀ p ∈ pieces c l, p.length ≤ 4294967281 := by
  refine ⟨?_, fun p hp => by have := pieces_small c l p hp; omega⟩
  rw [pieces_length, Lib.count_one]
  have := List.count_le_length (a := c) (l := l)
  omega

set_option maxHeartbeats 1000000 in
theorem cmpPres_any {a b : Str} (ha : a.length < 4294967281) (hb : b.length < 4294967281) {w : World} (hg : Gd w) : Gives 256 #[.string (ba a), .string (ba b)] w (.int .i64 (cmpPres a b)) := by
  unfold Gives
  have la := ba_list a
  have lb := ba_list b
  by_cases h1 : a = b
  · have HV : Hid (cmpPres a b = 0) := by show cmpPres a b = 0; unfold cmpPres; rw [if_pos h1]
    subst h1
    go_enter Tryz.func256, Tryz.ntmps256
    go_wp2
    go_ret
    exact ⟨retv (by rw [unhide HV]; rfl), Bel.refl _ _⟩
  · by_cases h2 : a = []
    · have HV : Hid (cmpPres a b = 1) := by show cmpPres a b = 1; unfold cmpPres; rw [if_neg h1, if_pos h2]
      subst h2
      have h3 : b.isEmpty = false := by simpa using fun e => h1 e.symm
      go_enter Tryz.func256, Tryz.ntmps256
      go_wp2
      go_ret
      exact ⟨retv (by rw [unhide HV]; rfl), Bel.refl _ _⟩
    · by_cases h3 : b = []
      · have HV : Hid (cmpPres a b = -1) := by show cmpPres a b = -1; unfold cmpPres; rw [if_neg h1, if_neg h2, if_pos h3]
        have h4 : a.isEmpty = false := by simpa using h2
        subst h3
        go_enter Tryz.func256, Tryz.ntmps256
        go_wp2
        go_ret
        exact ⟨retv (by rw [unhide HV]; rfl), Bel.refl _ _⟩
      · have HV : Hid (cmpPres a b = cmpList cmpIds (pieces 46 a) (pieces 46 b)) := by show cmpPres a b = _; unfold cmpPres; rw [if_neg h1, if_neg h2, if_neg h3]
        have q1 : (a == b) = false := by simpa using h1
        have q2 : a.isEmpty = false := by simpa using h2
        have q3 : b.isEmpty = false := by simpa using h3
        have e46 : (⟨#[46]⟩ : ByteArray) = ba [46] := rfl
        clear h1 h2 h3
        go_enter Tryz.func256, Tryz.ntmps256
        go_wp2_with (go_at_call 76; refine (split_any 46 ha hg).mono ?_)
        rintro e w1 ⟨A, rfl, tA, lA, b1⟩
        go_wp2_with (go_at_call 76; refine (split_any 46 hb (hg.below b1)).mono ?_)
        rintro e w2 ⟨B, rfl, tB, lB, b2⟩
        have p1 := pieces_bound (c := 46) ha
        have p2 := pieces_bound (c := 46) hb
        have HT := hide tA
        have HT2 := hide tB
        clear tA tB
        go_wp2_with (go_at_call 266; fail)
        refine (compareFunc_any p1.1 p2.1 p1.2 p2.2 ((unhide HT).below lA.1 b2) (unhide HT2) (Nat.lt_of_lt_of_le lA.1 b2.size) lB.1).mono ?_
        rintro e w3 ⟨rfl, b3⟩
        have HB := hide (below_trans (below_trans b1 b2) b3)
        clear b1 b2 b3 p1 p2
        go_wp2
        go_ret
        exact ⟨retv (by rw [unhide HV]; rfl), unhide HB⟩

end Go.Proofs.YthcafeoamabkgaaGreatDoor
