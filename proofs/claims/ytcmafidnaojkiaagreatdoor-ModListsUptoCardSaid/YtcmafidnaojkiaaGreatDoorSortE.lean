/-
  symMerge_func where the second range has one element.
-/
import Derived.Test.YtcmafidnaojkiaaGreatDoorSortD
namespace Go.Proofs.YtcmafidnaojkiaaGreatDoor
open Go.RowKit
variable {α : Type} {g : Nat} {lb : Array Value} {sf : Nat} {sb : Array Value} {blk n : Nat} {lt : α → α → Bool} {R : List α → World → Prop}

/-- The search for the last element's place. -/
def LstS (lt : α → α → Bool) (R : List α → World → Prop) (blk a : Nat) (w0 : World) (p u s : List α) (y : α) (i j : Nat) (wr : World) : Prop :=
  a ≤ i ∧ i ≤ j ∧ j ≤ a + u.length ∧ (∀ q, a < i → u[i - 1 - a]? = some q → lt y q = false) ∧ (∀ q, u[j - a]? = some q → lt q y = false) ∧ R (p ++ (u ++ y :: s)) wr ∧ Fr blk w0 wr
/-- What follows on the answer of 'less'. -/
def LstA (lt : α → α → Bool) (R : List α → World → Prop) (blk a : Nat) (w0 : World) (p u s : List α) (y : α) (i j h : Nat) (bv : Bool) (w' : World) : Prop :=
  Fr blk w0 w' ∧ (bv = false → LstS lt R blk a w0 p u s y (h + 1) j w') ∧ (bv = true → LstS lt R blk a w0 p u s y i h w')

theorem LstS.ask (S : Sorts g lb sf sb blk n lt R) (O : Strict lt) {a m i j h : Nat} {w0 wr : World} {p u s : List α} {y : α} (hp : p.length = a) (hm : a + u.length = m) (H : LstS lt R blk a w0 p u s y i j wr) (h1 : i ≤ h) (h2 : h < j) :
    ∃ bv, Calls Tryz.prog g (#[.int .i64 (m : Int), .int .i64 (h : Int)] ++ lb) wr fun e w' => e = .returned (.bool bv) ∧ LstA lt R blk a w0 p u s y i j h bv w' := by
  obtain ⟨k1, k2, k3, k4, k5, k6, k7⟩ := H
  have hk : h - a < u.length := by omega
  have e : p ++ (u ++ y :: s) = (p ++ u.take (h - a)) ++ u[h - a] :: (u.drop (h - a + 1) ++ y :: s) := by
    conv => lhs; rw [split_at hk]
    simp only [List.append_assoc, List.cons_append]
  have hR := k6
  rw [e] at hR
  have lA : (p ++ u.take (h - a)).length = h := by simp; omega
  have lB : (u.drop (h - a + 1)).length = u.length - (h - a + 1) := by simp
  refine ⟨lt y u[h - a], (less_bwd S (i := (h : Int)) (j := (m : Int)) (by rw [lA]) (by rw [lA, lB]; omega) hR k7).mono ?_⟩
  rintro e' w' ⟨rfl, hR', hF'⟩
  rw [← e] at hR'
  refine ⟨rfl, hF', fun hb => ⟨by omega, by omega, k3, ?_, k5, hR', hF'⟩, fun hb => ⟨k1, h1, by omega, k4, ?_, hR', hF'⟩⟩
  · intro q _ hq
    rw [show h + 1 - 1 - a = h - a by omega, List.getElem?_eq_getElem hk] at hq
    obtain rfl := Option.some.inj hq
    exact hb
  · intro q hq
    rw [List.getElem?_eq_getElem hk] at hq
    obtain rfl := Option.some.inj hq
    exact O.asym _ _ hb

/-- The way to its place: t elements are still ahead of it. -/
def LstT (R : List α → World → Prop) (blk : Nat) (w0 : World) (p U V s : List α) (y : α) (t : Nat) (wr : World) : Prop :=
  t ≤ V.length ∧ R (p ++ (U ++ (V.take t ++ y :: (V.drop t ++ s)))) wr ∧ Fr blk w0 wr

theorem LstT.step (S : Sorts g lb sf sb blk n lt R) {i k t : Nat} {w0 wr : World} {p U V s : List α} {y : α} (hp : p.length + U.length = i) (hk : k = i + (t + 1)) (H : LstT R blk w0 p U V s y (t + 1) wr) :
    ∃ w', (callFunc sf (#[.int .i64 (k : Int), .int .i64 ((k : Int) - 1)] ++ sb)).run Tryz.prog wr = .ok (.value (.tuple #[])) w' ∧ LstT R blk w0 p U V s y t w' := by
  obtain ⟨h1, h2, h3⟩ := H
  have ht : t < V.length := by omega
  have e : p ++ (U ++ (V.take (t + 1) ++ y :: (V.drop (t + 1) ++ s))) = (p ++ (U ++ V.take t)) ++ V[t] :: ([] ++ y :: (V.drop (t + 1) ++ s)) := by
    rw [List.take_add_one, List.getElem?_eq_getElem ht]
    simp only [Option.toList_some, List.append_assoc, List.cons_append, List.nil_append]
  rw [e] at h2
  have lA : (p ++ (U ++ V.take t)).length = i + t := by simp; omega
  obtain ⟨w', r1, r2, r3⟩ := swap_bwd S (i := (k : Int) - 1) (j := (k : Int)) (by rw [lA]; omega) (by rw [lA]; simp; omega) h2 h3
  refine ⟨w', r1, by omega, ?_, r3⟩
  rw [List.drop_eq_getElem_cons ht]
  simp only [List.append_assoc, List.nil_append] at r2
  exact r2

set_option maxHeartbeats 2000000 in
set_option maxRecDepth 100000 in
theorem sym_last (S : Sorts g lb sf sb blk n lt R) (O : Strict lt) {p u s : List α} {y : α} {a m b : Nat} (ha : p.length = a) (hm : a + u.length = m) (h1 : u.length ≠ 1) (hb : m + 1 = b) (hu : Srt lt u) {w : World} (hR : R (p ++ (u ++ y :: s)) w) :
    Calls Tryz.prog 143 #[duo g lb sf sb, .int .i64 (a : Int), .int .i64 (m : Int), .int .i64 (b : Int)] w fun e w' => e = .returned (.tuple #[]) ∧ ∃ x, x.Perm (u ++ [y]) ∧ Srt lt x ∧ R (p ++ (x ++ s)) w' ∧ Fr blk w w' := by
  have hbl := S.inside _ _ hR
  have hsm := S.small
  have hln := S.len _ _ hR
  simp only [List.length_append, List.length_cons] at hln
  have u104 := Tryz.underlying104
  have eg := S.enter
  have hbn : b ≤ n := by omega
  have HI : Hid (LstS lt R blk a (w.alloc (duoBox g lb sf sb)) p u s y a m (w.alloc (duoBox g lb sf sb))) :=
    ⟨Nat.le_refl _, by omega, by omega, fun q hq => absurd hq (by omega), fun q hq => (by rw [List.getElem?_eq_none (by omega)] at hq; cases hq), S.alloc _ _ _ hR, Fr.refl _ _⟩
  have hma : ((m : Int) - (a : Int) == 1) = false := by simp; omega
  have hmb : ((b : Int) - (m : Int) == 1) = true := by simp; omega
  have hmn : a ≤ m := by omega
  have hmn2 : m ≤ b := by omega
  have HS := hide S
  have HP := hide ha
  have HM := hide hm
  have HV := hide hu
  clear S hR ha hm hb hu hln h1
  go_enter Tryz.func143, Tryz.ntmps143
  go_wp2
  go_loopw [12, 13, 14] (fun v8 v9 _ wr => ∃ i j : Nat, v8 = .int .i64 i ∧ v9 = .int .i64 j ∧ LstS lt R blk a (w.alloc (duoBox g lb sf sb)) p u s y i j wr) (fun v8 v9 _ _ => (intOf v9).toNat - (intOf v8).toNat)
  case atStart => exact ⟨a, m, rfl, rfl, unhide HI⟩
  case round =>
    obtain ⟨i, j, rfl, rfl, hI⟩ := hrel
    have i1 := hI.1
    have i2 := hI.2.1
    have i3 : j ≤ m := by have := hI.2.2.1; have := unhide HM; omega
    have hf := hI.2.2.2.2.2.2
    have c0 := (box_at hbl hf).1
    have c1 := (box_at hbl hf).2
    clear hf HI
    by_cases hlt : i < j
    · obtain ⟨h, hh⟩ : ∃ h : Nat, (i + j) / 2 = h := ⟨_, rfl⟩
      have hh2 : ((i : Int) + (j : Int)) / 2 = (h : Int) := by omega
      have q1 : i ≤ h := by omega
      have q2 : h < j := by omega
      obtain ⟨bv, hc⟩ := LstS.ask (unhide HS) O (unhide HP) (unhide HM) hI q1 q2
      have HC := hide hc
      clear hc hI hh
      cases bv with
      | false =>
        go_wp2_with (go_at_fn g; fail)
        refine (unhide HC).mono ?_
        rintro e w1 ⟨rfl, hA⟩
        have HT := hide (hA.2.1 rfl)
        clear hA HC
        go_wp2
        go_roundw
        case rel => exact ⟨h + 1, j, int_eq (by omega), rfl, unhide HT⟩
        case measure => simp [intOf]; omega
      | true =>
        go_wp2_with (go_at_fn g; fail)
        refine (unhide HC).mono ?_
        rintro e w1 ⟨rfl, hA⟩
        have HT := hide (hA.2.2 rfl)
        clear hA HC
        go_wp2
        go_roundw
        case rel => exact ⟨i, h, rfl, rfl, unhide HT⟩
        case measure => simp [intOf]; omega
    · have hij : j = i := by omega
      subst hij
      obtain ⟨_, _, k3, k4, k5, k6, k7⟩ := hI
      have hfit := one_fit O (x := y) (k := j - a) (by omega) (unhide HV) (fun q hq h => k4 q (by omega) (by rw [show j - 1 - a = j - a - 1 by omega]; exact h)) k5
      obtain ⟨U, hU⟩ : ∃ U, u.take (j - a) = U := ⟨_, rfl⟩
      obtain ⟨V, hV⟩ : ∃ V, u.drop (j - a) = V := ⟨_, rfl⟩
      have hUV : U ++ V = u := by rw [← hU, ← hV, List.take_append_drop]
      have lU : U.length = j - a := by rw [← hU]; simp; omega
      have lV : j + V.length = m := by
        have e1 := congrArg List.length hUV
        have := unhide HM
        simp at e1
        omega
      have hpU : p.length + U.length = j := by have := unhide HP; omega
      have hperm : (U ++ y :: V).Perm (u ++ [y]) := by
        rw [← hUV]
        refine List.Perm.trans List.perm_middle ?_
        exact (List.perm_append_comm (l₁ := U ++ V) (l₂ := [y])).symm
      rw [hU, hV] at hfit
      have HFit := hide hfit
      have HPe := hide hperm
      have HPU := hide hpU
      have HT0 : Hid (LstT R blk (w.alloc (duoBox g lb sf sb)) p U V s y V.length wr) := by
        refine ⟨Nat.le_refl _, ?_, k7⟩
        rw [List.take_length, List.drop_length, List.nil_append]
        rw [← hUV, List.append_assoc] at k6
        exact k6
      clear k3 k4 k5 k6 k7 hfit hU hV hUV hperm lU hpU
      go_wp2
      go_loopw [15] (fun v15 wr2 => ∃ k t : Nat, v15 = .int .i64 k ∧ k = j + t ∧ LstT R blk (w.alloc (duoBox g lb sf sb)) p U V s y t wr2) (fun v15 _ => (intOf v15).toNat)
      case atStart => exact ⟨m, V.length, rfl, lV.symm, unhide HT0⟩
      case round =>
        obtain ⟨k, t, rfl, hkt, hK⟩ := hrel
        have t1 := hK.1
        have hf := hK.2.2
        have d0 := (box_at hbl hf).1
        have d1 := (box_at hbl hf).2
        clear hf HT0
        cases t with
        | succ t =>
          obtain ⟨w', hrun, hK2⟩ := LstT.step (unhide HS) (unhide HPU) hkt hK
          have HK := hide hK2
          have hq : (j : Int) < (k : Int) := by omega
          have hkm : k ≤ m := by omega
          have HKT := hide hkt
          clear hK2 hK hkt
          go_wp2
          go_roundw
          case rel => exact ⟨k - 1, t, int_eq (by omega), by have := unhide HKT; omega, unhide HK⟩
          case measure => simp [intOf]; omega
        | zero =>
          have hq : ¬ (j : Int) < (k : Int) := by omega
          have HK := hide hK
          clear hK hkt
          go_wp2
          obtain ⟨_, h3, h4⟩ := unhide HK
          rw [List.take_zero, List.drop_zero, List.nil_append] at h3
          exact bodyPost_ret (v := .tuple #[]) (by simp [results, Tryz.results143, go_sem]) rfl ⟨rfl, U ++ y :: V, unhide HPe, unhide HFit, by simpa using h3, (Fr.alloc _ _ _).trans h4⟩

end Go.Proofs.YtcmafidnaojkiaaGreatDoor
