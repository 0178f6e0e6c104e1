/-
  symMerge_func where one of the two ranges has one element.
-/
import Derived.Test.YtcmafidnaojkiaaGreatDoorSortC
namespace Go.Proofs.YtcmafidnaojkiaaGreatDoor
open Go.RowKit
variable {α : Type} {g : Nat} {lb : Array Value} {sf : Nat} {sb : Array Value} {blk n : Nat} {lt : α → α → Bool} {R : List α → World → Prop}

/-- An element at its place among rising ones. -/
theorem one_fit (O : Strict lt) {v : List α} {x : α} {k : Nat} (hkl : k ≤ v.length) (hv : Srt lt v) (hl : ∀ q, 0 < k → v[k - 1]? = some q → lt x q = false) (hr : ∀ q, v[k]? = some q → lt q x = false) : Srt lt (v.take k ++ x :: v.drop k) := by
  have hs : Srt lt (v.take k ++ v.drop k) := by rw [List.take_append_drop]; exact hv
  have h' := List.pairwise_append.1 hs
  refine List.pairwise_append.2 ⟨h'.1, List.pairwise_cons.2 ⟨?_, h'.2.1⟩, ?_⟩
  · intro q hq
    cases hd : v.drop k with
    | nil => rw [hd] at hq; cases hq
    | cons z t =>
      have hz : v[k]? = some z := by
        have := congrArg List.head? hd
        simpa [List.head?_drop] using this
      have h1 := hr z hz
      rw [hd] at hq h'
      rcases List.mem_cons.1 hq with rfl | hq
      · exact h1
      · exact O.ntrans _ _ _ h1 ((List.pairwise_cons.1 h'.2.1).1 q hq)
  · intro q hq y hy
    rcases List.mem_cons.1 hy with rfl | hy
    · rcases List.eq_nil_or_concat (v.take k) with ht | ⟨t, z, ht⟩
      · rw [ht] at hq; cases hq
      · rw [List.concat_eq_append] at ht
        have hk : 0 < k := by
          cases k with
          | zero => simp at ht
          | succ k => omega
        have hlen : (v.take k).length = t.length + 1 := by rw [ht]; simp
        have hlen2 : min k v.length = t.length + 1 := by rw [← hlen]; simp
        have hz : v[k - 1]? = some z := by
          have e1 : (v.take k)[k - 1]? = some z := by
            rw [ht]
            have : k - 1 = t.length := by omega
            rw [this]; simp
          rw [List.getElem?_take_of_lt (by omega)] at e1
          exact e1
        have h1 := hl z hk hz
        rw [ht] at hq h'
        rcases List.mem_append.1 hq with hq | hq
        · exact O.ntrans _ _ _ ((List.pairwise_append.1 h'.1).2.2 q hq z (by simp)) h1
        · simp at hq; subst hq; exact h1
    · exact h'.2.2 q hq y hy

/-- The search for the one element's place. -/
def OneS (lt : α → α → Bool) (R : List α → World → Prop) (blk m : Nat) (w0 : World) (p v s : List α) (x : α) (i j : Nat) (wr : World) : Prop :=
  m ≤ i ∧ i ≤ j ∧ j ≤ m + v.length ∧ (∀ q, m < i → v[i - 1 - m]? = some q → lt x q = false) ∧ (∀ q, v[j - m]? = some q → lt q x = false) ∧ R (p ++ x :: (v ++ s)) wr ∧ Fr blk w0 wr

theorem split_at {v : List α} {k : Nat} (h : k < v.length) : v = v.take k ++ v[k] :: v.drop (k + 1) := by
  rw [← List.drop_eq_getElem_cons h, List.take_append_drop]

/-- What follows on the answer of 'less'. -/
def OneA (lt : α → α → Bool) (R : List α → World → Prop) (blk m : Nat) (w0 : World) (p v s : List α) (x : α) (i j h : Nat) (bv : Bool) (w' : World) : Prop :=
  Fr blk w0 w' ∧ (bv = true → OneS lt R blk m w0 p v s x (h + 1) j w') ∧ (bv = false → OneS lt R blk m w0 p v s x i h w')

theorem OneS.ask (S : Sorts g lb sf sb blk n lt R) (O : Strict lt) {a m i j h : Nat} {w0 wr : World} {p v s : List α} {x : α} (hp : p.length = a) (hm : a + 1 = m) (H : OneS lt R blk m w0 p v s x i j wr) (h1 : i ≤ h) (h2 : h < j) :
    ∃ bv, Calls Tryz.prog g (#[.int .i64 (h : Int), .int .i64 (a : Int)] ++ lb) wr fun e w' => e = .returned (.bool bv) ∧ OneA lt R blk m w0 p v s x i j h bv w' := by
  obtain ⟨k1, k2, k3, k4, k5, k6, k7⟩ := H
  have hk : h - m < v.length := by omega
  have e : p ++ x :: (v ++ s) = p ++ x :: (v.take (h - m) ++ v[h - m] :: (v.drop (h - m + 1) ++ s)) := by
    conv => lhs; rw [split_at hk]
    simp only [List.append_assoc, List.cons_append]
  have hR := k6
  rw [e] at hR
  have lB : (v.take (h - m)).length = h - m := by simp; omega
  refine ⟨lt v[h - m] x, (less_bwd S (i := (a : Int)) (j := (h : Int)) (by omega) (by rw [lB]; omega) hR k7).mono ?_⟩
  rintro e' w' ⟨rfl, hR', hF'⟩
  rw [← e] at hR'
  refine ⟨rfl, hF', fun hb => ⟨by omega, by omega, k3, ?_, k5, hR', hF'⟩, fun hb => ⟨k1, h1, by omega, k4, ?_, hR', hF'⟩⟩
  · intro q _ hq
    rw [show h + 1 - 1 - m = h - m by omega, List.getElem?_eq_getElem hk] at hq
    obtain rfl := Option.some.inj hq
    exact O.asym _ _ hb
  · intro q hq
    rw [List.getElem?_eq_getElem hk] at hq
    obtain rfl := Option.some.inj hq
    exact hb

/-- The way to its place. -/
def OneT (R : List α → World → Prop) (blk a : Nat) (w0 : World) (p V W s : List α) (x : α) (k : Nat) (wr : World) : Prop :=
  a ≤ k ∧ k - a ≤ V.length ∧ R (p ++ (V.take (k - a) ++ x :: (V.drop (k - a) ++ (W ++ s)))) wr ∧ Fr blk w0 wr

theorem OneT.step (S : Sorts g lb sf sb blk n lt R) {a k : Nat} {w0 wr : World} {p V W s : List α} {x : α} (hp : p.length = a) (H : OneT R blk a w0 p V W s x k wr) (hk : k - a < V.length) :
    ∃ w', (callFunc sf (#[.int .i64 (k : Int), .int .i64 ((k : Int) + 1)] ++ sb)).run Tryz.prog wr = .ok (.value (.tuple #[])) w' ∧ OneT R blk a w0 p V W s x (k + 1) w' := by
  obtain ⟨h1, h2, h3, h4⟩ := H
  have e : p ++ (V.take (k - a) ++ x :: (V.drop (k - a) ++ (W ++ s))) = (p ++ V.take (k - a)) ++ x :: ([] ++ V[k - a] :: (V.drop (k - a + 1) ++ (W ++ s))) := by
    rw [List.drop_eq_getElem_cons hk]
    simp only [List.append_assoc, List.cons_append, List.nil_append]
  rw [e] at h3
  have lA : (p ++ V.take (k - a)).length = k := by simp; omega
  obtain ⟨w', r1, r2, r3⟩ := swap_fwd S (i := (k : Int)) (j := (k : Int) + 1) (by rw [lA]) (by rw [lA]; simp) h3 h4
  refine ⟨w', r1, by omega, by omega, ?_, r3⟩
  rw [show k + 1 - a = k - a + 1 by omega, List.take_add_one, List.getElem?_eq_getElem hk]
  simp only [Option.toList_some, List.append_assoc, List.cons_append, List.nil_append]
  simp only [List.append_assoc, List.nil_append] at r2
  exact r2

set_option maxHeartbeats 2000000 in
set_option maxRecDepth 100000 in
theorem sym_one (S : Sorts g lb sf sb blk n lt R) (O : Strict lt) {p v s : List α} {x : α} {a m b : Nat} (ha : p.length = a) (hm : a + 1 = m) (hb : m + v.length = b) (hv : Srt lt v) {w : World} (hR : R (p ++ x :: (v ++ s)) w) :
    Calls Tryz.prog 143 #[duo g lb sf sb, .int .i64 (a : Int), .int .i64 (m : Int), .int .i64 (b : Int)] w fun e w' => e = .returned (.tuple #[]) ∧ ∃ y, y.Perm (x :: v) ∧ Srt lt y ∧ R (p ++ (y ++ s)) w' ∧ Fr blk w w' := by
  have hbl := S.inside _ _ hR
  have hsm := S.small
  have hln := S.len _ _ hR
  simp only [List.length_append, List.length_cons] at hln
  have u104 := Tryz.underlying104
  have eg := S.enter
  have hbn : b ≤ n := by omega
  have hmb : m ≤ b := by omega
  have HI : Hid (OneS lt R blk m (w.alloc (duoBox g lb sf sb)) p v s x m b (w.alloc (duoBox g lb sf sb))) :=
    ⟨Nat.le_refl _, hmb, by omega, fun q hq => absurd hq (by omega), fun q hq => (by rw [List.getElem?_eq_none (by omega)] at hq; cases hq), S.alloc _ _ _ hR, Fr.refl _ _⟩
  have hma : ((m : Int) - (a : Int) == 1) = true := by simp; omega
  have hmn : a ≤ m := by omega
  have HS := hide S
  have HP := hide ha
  have HM := hide hm
  have HB := hide hb
  have HV := hide hv
  clear S hR ha hm hb hv hln
  go_enter Tryz.func143, Tryz.ntmps143
  go_wp2
  go_loopw [8, 9, 10] (fun v8 v9 _ wr => ∃ i j : Nat, v8 = .int .i64 i ∧ v9 = .int .i64 j ∧ OneS lt R blk m (w.alloc (duoBox g lb sf sb)) p v s x i j wr) (fun v8 v9 _ _ => (intOf v9).toNat - (intOf v8).toNat)
  case atStart => exact ⟨m, b, int_eq (by omega), rfl, unhide HI⟩
  case round =>
    obtain ⟨i, j, rfl, rfl, hI⟩ := hrel
    have i1 := hI.1
    have i2 := hI.2.1
    have i3 : j ≤ b := by have := hI.2.2.1; have := unhide HB; omega
    have hf := hI.2.2.2.2.2.2
    have c0 := (box_at hbl hf).1
    have c1 := (box_at hbl hf).2
    clear hf HI
    by_cases hlt : i < j
    · obtain ⟨h, hh⟩ : ∃ h : Nat, (i + j) / 2 = h := ⟨_, rfl⟩
      have hh2 : ((i : Int) + (j : Int)) / 2 = (h : Int) := by omega
      have q1 : i ≤ h := by omega
      have q2 : h < j := by omega
      obtain ⟨bv, hc⟩ := OneS.ask (unhide HS) O (unhide HP) (unhide HM) hI q1 q2
      have HC := hide hc
      clear hc hI hh
      cases bv with
      | true =>
        go_wp2_with (go_at_fn g; fail)
        refine (unhide HC).mono ?_
        rintro e w1 ⟨rfl, hA⟩
        have HT := hide (hA.2.1 rfl)
        clear hA HC
        go_wp2
        go_roundw
        case rel => exact ⟨h + 1, j, int_eq (by omega), rfl, unhide HT⟩
        case measure => simp [intOf]; omega
      | false =>
        go_wp2_with (go_at_fn g; fail)
        refine (unhide HC).mono ?_
        rintro e w1 ⟨rfl, hA⟩
        have HT := hide (hA.2.2 rfl)
        clear hA HC
        go_wp2
        go_roundw
        case rel => exact ⟨i, h, rfl, rfl, unhide HT⟩
        case measure => simp [intOf]; omega
    · have hij : j = i := by omega
      subst hij
      obtain ⟨_, _, k3, k4, k5, k6, k7⟩ := hI
      have hfit := one_fit O (x := x) (k := j - m) (by omega) (unhide HV) (fun q hq h => k4 q (by omega) (by rw [show j - 1 - m = j - m - 1 by omega]; exact h)) k5
      obtain ⟨V, hV⟩ : ∃ V, v.take (j - m) = V := ⟨_, rfl⟩
      obtain ⟨T, hT⟩ : ∃ T, v.drop (j - m) = T := ⟨_, rfl⟩
      have hVT : V ++ T = v := by rw [← hV, ← hT, List.take_append_drop]
      have lV : V.length = j - m := by rw [← hV]; simp; omega
      have hperm : (V ++ x :: T).Perm (x :: v) := by rw [← hVT]; exact List.perm_middle
      rw [hV, hT] at hfit
      have HFit := hide hfit
      have HPe := hide hperm
      have HT0 : Hid (OneT R blk a (w.alloc (duoBox g lb sf sb)) p V T s x a wr) := by
        refine ⟨Nat.le_refl _, by omega, ?_, k7⟩
        rw [Nat.sub_self]
        rw [← hVT, List.append_assoc] at k6
        exact k6
      have hja : a + 1 ≤ j := by have := unhide HM; omega
      have hlv : a + V.length + 1 = j := by have := unhide HM; omega
      clear k3 k4 k5 k6 k7 hfit hV hT hVT hperm lV
      go_wp2
      go_loopw [11] (fun v11 wr2 => ∃ k : Nat, v11 = .int .i64 k ∧ OneT R blk a (w.alloc (duoBox g lb sf sb)) p V T s x k wr2) (fun v11 _ => a + V.length - (intOf v11).toNat)
      case atStart => exact ⟨a, rfl, unhide HT0⟩
      case round =>
        obtain ⟨k, rfl, hK⟩ := hrel
        have t1 := hK.1
        have t2 := hK.2.1
        have hf := hK.2.2.2
        have d0 := (box_at hbl hf).1
        have d1 := (box_at hbl hf).2
        clear hf HT0
        by_cases hkl : k - a < V.length
        · obtain ⟨w', hrun, hK2⟩ := OneT.step (unhide HS) (unhide HP) hK hkl
          have HK := hide hK2
          clear hK2 hK
          have hq : (k : Int) < (j : Int) - 1 := by omega
          go_wp2
          go_roundw
          case rel => exact ⟨k + 1, by simp, unhide HK⟩
          case measure => simp [intOf]; omega
        · have hke : k - a = V.length := by omega
          have hq : ¬ (k : Int) < (j : Int) - 1 := by omega
          have HK := hide hK
          clear hK
          go_wp2
          obtain ⟨_, _, h3, h4⟩ := unhide HK
          rw [hke, List.take_length, List.drop_length] at h3
          exact bodyPost_ret (v := .tuple #[]) (by simp [results, Tryz.results143, go_sem]) rfl ⟨rfl, V ++ x :: T, unhide HPe, unhide HFit, by simpa using h3, (Fr.alloc _ _ _).trans h4⟩

end Go.Proofs.YtcmafidnaojkiaaGreatDoor
