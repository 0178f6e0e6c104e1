/-
  ModSorted: Sort answers a rising permutation, and sorts what is sorted into itself: the walk.
-/
import Derived.Test.YtcmafidnaojkiaaGreatDoorSortR
namespace Go.Proofs.YtcmafidnaojkiaaGreatDoor
open Go.RowKit

theorem wrapB {k : Nat} (h : k ≤ 60) : IntKind.i64.wrap (k : Int) = (k : Int) := by rw [IntKind.wrap_i64]; omega

set_option maxHeartbeats 4000000 in
set_option maxRecDepth 100000 in
theorem sorted_small {ps : List Str} {B off c : Nat} (h : fewB ps = true) {w : World} (hg : Gd w) (hB : B < w.heap.size) (ht : ∀ k (hk : k < ps.length), w.cell? ⟨B, off + k, none⟩ = some (.string (ba ps[k]))) : Gives 12 #[.slice (some ⟨B, off, none⟩) ps.length c] w (.bool true) := by
  unfold Gives
  have hn60 : ps.length ≤ 60 := by unfold fewB at h; simp at h; exact h.1
  have HF : Hid (∀ w1, Below w.heap.size w w1 → Calls Tryz.prog 14 #[.slice (some ⟨B, off, none⟩) ps.length c] w1 fun e w' => e = .returned (.bool true) ∧ w' = w1) := by
    intro w1 b1
    have := few_at (cp := c) (by omega) (w := w1) (fun k hk => (b1.cell (p := ⟨B, off + k, none⟩) hB).trans (ht k hk))
    rw [h] at this
    exact this
  have HS : Hid (∀ w1, Below w.heap.size w w1 → Calls Tryz.prog 20 #[.slice (some ⟨B, off, none⟩) ps.length c] w1 fun e w' => ∃ g cap x, e = .returned (.slice (some ⟨g, 0, none⟩) ps.length cap) ∧ x.Perm ps ∧ Srt ltV x ∧ RowT g x w' ∧ w1.heap.size ≤ g ∧ g < w'.heap.size ∧ Below w1.heap.size w1 w') :=
    fun w1 b1 => sort_T (hg.below b1) (by omega) (fun k hk => (b1.cell (p := ⟨B, off + k, none⟩) hB).trans (ht k hk))
  obtain ⟨n, hnn⟩ : ∃ n, ps.length = n := ⟨_, rfl⟩
  rw [hnn] at hn60 HF HS ⊢
  have HT := hide ht
  have HN := hide hnn
  clear h ht hnn
  go_enter Tryz.func12, Tryz.ntmps12
  go_wp2_with (go_at_call 13; fail)
  refine (first_any hg).mono ?_
  rintro e w1 ⟨rfl, b1⟩
  go_wp2_with (go_at_call 14; fail)
  refine ((unhide HF) w1 b1).mono ?_
  rintro e w2 ⟨rfl, hw⟩
  rw [hw]
  clear hw HF w2
  go_wp2_with (go_at_call 20; fail)
  refine ((unhide HS) w1 b1).mono ?_
  rintro e w2 ⟨g, cap, x, rfl, hperm, hsrt, hrow, hg1, hg2, b2⟩
  have lx : x.length = n := by rw [hperm.length_eq]; exact unhide HN
  have b2 := below_trans b1 b2
  have HS2 : Hid (Calls Tryz.prog 20 #[.slice (some ⟨g, 0, none⟩) n cap] w2 fun e w' => ∃ g2 cap2, e = .returned (.slice (some ⟨g2, 0, none⟩) n cap2) ∧ RowT g2 x w' ∧ RowT g x w' ∧ g < w'.heap.size ∧ g2 < w'.heap.size ∧ Below w.heap.size w w') := by
    have hs := sort_T (ps := x) (c := cap) (B := g) (off := 0) (hg.below b2) (by omega) (fun k hk => by rw [Nat.zero_add]; exact (hrow k hk).1)
    rw [lx] at hs
    refine hs.mono ?_
    rintro e w' ⟨g2, cap2, y, rfl, p1, p2, p3, p4, p5, p6⟩
    have exy : y = x := srt_unique p1 p2 hsrt
    rw [exy] at p3
    exact ⟨g2, cap2, rfl, p3, hrow.below p6 hg2, Nat.lt_of_lt_of_le hg2 p6.size, p5, below_trans b2 p6⟩
  have HLX := hide lx
  have HPE := hide hperm
  have HSR := hide hsrt
  clear hrow lx hperm hsrt HS b1
  go_wp2_with (go_at_call 20; fail)
  refine (unhide HS2).mono ?_
  rintro e w3 ⟨g2, cap2, rfl, r1, r2, q1, q2, b3⟩
  have HST : Hid (Calls Tryz.prog 21 #[.slice (some ⟨g2, 0, none⟩) n cap2, .slice (some ⟨g, 0, none⟩) n cap] w3 fun e w' => e = .returned (.bool true) ∧ Below w3.heap.size w3 w') := by
    have := sameTexts_same (x := x) (ac := cap2) (bc := cap) (A := g2) (ao := 0) (B := g) (bo := 0) (w := w3) (by rw [unhide HLX]; omega) (fun k hk => by rw [Nat.zero_add]; exact (r1 k hk).1) (fun k hk => by rw [Nat.zero_add]; exact (r2 k hk).1)
    rw [unhide HLX] at this
    exact this
  have HR2 := hide r2
  clear r1 r2 HS2
  go_wp2_with (go_at_call 21; fail)
  refine (unhide HST).mono ?_
  rintro e W ⟨rfl, b4⟩
  have HRW : Hid (RowT g x W) := (unhide HR2).below b4 q1
  have hgW : g < W.heap.size := Nat.lt_of_lt_of_le q1 b4.size
  have bW := below_trans b3 b4
  have HTW : Hid (∀ k (hk : k < ps.length), W.cell? ⟨B, off + k, none⟩ = some (.string (ba ps[k]))) := fun k hk => (bW.cell (p := ⟨B, off + k, none⟩) hB).trans ((unhide HT) k hk)
  have hBW : B < W.heap.size := Nat.lt_of_lt_of_le hB bW.size
  clear HST HR2 b4 b3 b2 HT q1 q2 hg1 hg2
  go_wp2
  go_loopw [6, 7, 8, 9] (fun v6 _ _ _ wr => ∃ i : Nat, v6 = .int .i64 i ∧ i ≤ n ∧ Below W.heap.size W wr) (fun v6 _ _ _ _ => n - (intOf v6).toNat)
  case atStart => exact ⟨0, rfl, Nat.zero_le _, Below.refl _ _⟩
  case round =>
    obtain ⟨i, rfl, hin, hbw⟩ := hrel
    have HB0 := hide hbw
    clear hbw
    by_cases hlt : i < n
    · have hip : i < ps.length := by rw [unhide HN]; exact hlt
      obtain ⟨t, ht⟩ : ∃ t, ps[i] = t := ⟨_, rfl⟩
      have HCI : Hid (W.cell? ⟨B, off + i, none⟩ = some (.string (ba t))) := by
        have := (unhide HTW) i hip
        rw [ht] at this
        exact this
      have hlt2 := ba_list t
      clear ht
      go_wp2
      go_loopw [7, 8, 9] (fun v7 v8 v9 wr2 => ∃ j : Nat, j ≤ n ∧ v7 = .int .i64 (cnt t ps j) ∧ v8 = .int .i64 (cnt t x j) ∧ v9 = .int .i64 j ∧ Below W.heap.size W wr2) (fun _ _ v9 _ => n - (intOf v9).toNat)
      case atStart => exact ⟨0, Nat.zero_le _, rfl, rfl, rfl, unhide HB0⟩
      case round =>
        obtain ⟨j, hjl, rfl, rfl, rfl, hbw⟩ := hrel
        have HBW := hide hbw
        by_cases hjn : j < n
        · have hjp : j < ps.length := by rw [unhide HN]; exact hjn
          have hjx : j < x.length := by rw [unhide HLX]; exact hjn
          obtain ⟨a, ha0⟩ : ∃ a, ps[j] = a := ⟨_, rfl⟩
          obtain ⟨b, hb0⟩ : ∃ b, x[j] = b := ⟨_, rfl⟩
          have ci : wr.cell? ⟨B, off + i, none⟩ = some (.string (ba t)) := (hbw.cell (p := ⟨B, off + i, none⟩) hBW).trans (unhide HCI)
          have ca : wr.cell? ⟨B, off + j, none⟩ = some (.string (ba a)) := by rw [← ha0]; exact (hbw.cell (p := ⟨B, off + j, none⟩) hBW).trans ((unhide HTW) j hjp)
          have cb : wr.cell? ⟨g, j, none⟩ = some (.string (ba b)) := by rw [← hb0]; exact (hbw.cell (p := ⟨g, j, none⟩) hgW).trans ((unhide HRW) j hjx).1
          have hla := ba_list a
          have hlb := ba_list b
          clear hbw
          cases hqa : (a == t) with
          | true =>
            cases hqb : (b == t) with
            | true =>
              have hma : cnt t ps (j + 1) = cnt t ps j + 1 := by rw [cnt_step hjp, ha0, hqa]; rfl
              have hmb : cnt t x (j + 1) = cnt t x j + 1 := by rw [cnt_step hjx, hb0, hqb]; rfl
              have HMA := hide hma
              have HMB := hide hmb
              obtain ⟨P, hP⟩ : ∃ P, cnt t ps j = P := ⟨_, rfl⟩
              obtain ⟨X, hX⟩ : ∃ X, cnt t x j = X := ⟨_, rfl⟩
              have bP : P ≤ 60 := by rw [← hP]; exact Nat.le_trans (cnt_le _ _ _) (by rw [unhide HN]; omega)
              have bX : X ≤ 60 := by rw [← hX]; exact Nat.le_trans (cnt_le _ _ _) (by rw [unhide HLX]; omega)
              rw [hP, hX]
              have HPP := hide hP
              have HXX := hide hX
              clear hma hmb hP hX ha0 hb0
              go_wp2
              go_quiet (fail)
              go_wp2
              go_quiet (fail)
              go_wp2
              go_roundw
              case rel => exact ⟨j + 1, hjn, int_eq (by have := unhide HMA; have := unhide HPP; omega), int_eq (by have := unhide HMB; have := unhide HXX; omega), by simp, below_drewN (unhide HBW) _⟩
              case measure => simp [intOf]; omega
            | false =>
              have hma : cnt t ps (j + 1) = cnt t ps j + 1 := by rw [cnt_step hjp, ha0, hqa]; rfl
              have hmb : cnt t x (j + 1) = cnt t x j + 0 := by rw [cnt_step hjx, hb0, hqb]; rfl
              have HMA := hide hma
              have HMB := hide hmb
              obtain ⟨P, hP⟩ : ∃ P, cnt t ps j = P := ⟨_, rfl⟩
              obtain ⟨X, hX⟩ : ∃ X, cnt t x j = X := ⟨_, rfl⟩
              have bP : P ≤ 60 := by rw [← hP]; exact Nat.le_trans (cnt_le _ _ _) (by rw [unhide HN]; omega)
              have bX : X ≤ 60 := by rw [← hX]; exact Nat.le_trans (cnt_le _ _ _) (by rw [unhide HLX]; omega)
              rw [hP, hX]
              have HPP := hide hP
              have HXX := hide hX
              clear hma hmb hP hX ha0 hb0
              go_wp2
              go_quiet (fail)
              go_wp2
              go_quiet (fail)
              go_wp2
              go_roundw
              case rel => exact ⟨j + 1, hjn, int_eq (by have := unhide HMA; have := unhide HPP; omega), int_eq (by have := unhide HMB; have := unhide HXX; omega), by simp, below_drewN (unhide HBW) _⟩
              case measure => simp [intOf]; omega
          | false =>
            cases hqb : (b == t) with
            | true =>
              have hma : cnt t ps (j + 1) = cnt t ps j + 0 := by rw [cnt_step hjp, ha0, hqa]; rfl
              have hmb : cnt t x (j + 1) = cnt t x j + 1 := by rw [cnt_step hjx, hb0, hqb]; rfl
              have HMA := hide hma
              have HMB := hide hmb
              obtain ⟨P, hP⟩ : ∃ P, cnt t ps j = P := ⟨_, rfl⟩
              obtain ⟨X, hX⟩ : ∃ X, cnt t x j = X := ⟨_, rfl⟩
              have bP : P ≤ 60 := by rw [← hP]; exact Nat.le_trans (cnt_le _ _ _) (by rw [unhide HN]; omega)
              have bX : X ≤ 60 := by rw [← hX]; exact Nat.le_trans (cnt_le _ _ _) (by rw [unhide HLX]; omega)
              rw [hP, hX]
              have HPP := hide hP
              have HXX := hide hX
              clear hma hmb hP hX ha0 hb0
              go_wp2
              go_quiet (fail)
              go_wp2
              go_quiet (fail)
              go_wp2
              go_roundw
              case rel => exact ⟨j + 1, hjn, int_eq (by have := unhide HMA; have := unhide HPP; omega), int_eq (by have := unhide HMB; have := unhide HXX; omega), by simp, below_drewN (unhide HBW) _⟩
              case measure => simp [intOf]; omega
            | false =>
              have hma : cnt t ps (j + 1) = cnt t ps j + 0 := by rw [cnt_step hjp, ha0, hqa]; rfl
              have hmb : cnt t x (j + 1) = cnt t x j + 0 := by rw [cnt_step hjx, hb0, hqb]; rfl
              have HMA := hide hma
              have HMB := hide hmb
              obtain ⟨P, hP⟩ : ∃ P, cnt t ps j = P := ⟨_, rfl⟩
              obtain ⟨X, hX⟩ : ∃ X, cnt t x j = X := ⟨_, rfl⟩
              have bP : P ≤ 60 := by rw [← hP]; exact Nat.le_trans (cnt_le _ _ _) (by rw [unhide HN]; omega)
              have bX : X ≤ 60 := by rw [← hX]; exact Nat.le_trans (cnt_le _ _ _) (by rw [unhide HLX]; omega)
              rw [hP, hX]
              have HPP := hide hP
              have HXX := hide hX
              clear hma hmb hP hX ha0 hb0
              go_wp2
              go_quiet (fail)
              go_wp2
              go_quiet (fail)
              go_wp2
              go_roundw
              case rel => exact ⟨j + 1, hjn, int_eq (by have := unhide HMA; have := unhide HPP; omega), int_eq (by have := unhide HMB; have := unhide HXX; omega), by simp, below_drewN (unhide HBW) _⟩
              case measure => simp [intOf]; omega
        · have hje : j = n := by omega
          subst hje
          obtain ⟨M, hM⟩ : ∃ M, cnt t ps j = M := ⟨_, rfl⟩
          have hM2 : cnt t x j = M := by
            have e := cnt_perm (t := t) (unhide HPE)
            rw [unhide HLX, unhide HN] at e
            rw [e, hM]
          rw [hM, hM2]
          clear hM hM2
          by_cases h0 : i = 0
          · subst h0
            clear hbw
            go_wp2
            go_quiet (fail)
            go_wp2
            go_roundw
            case rel => exact ⟨1, rfl, by omega, below_drewN (unhide HBW) _⟩
            case measure => simp [intOf]; omega
          · obtain ⟨k, hk⟩ : ∃ k, i = k + 1 := ⟨i - 1, by omega⟩
            have hkx : k < x.length := by rw [unhide HLX]; omega
            have hix : i < x.length := by rw [unhide HLX]; omega
            obtain ⟨r, hr⟩ : ∃ r, cmpV x[k] x[i] = r := ⟨_, rfl⟩
            have hr0 : ¬ 0 < r := by rw [← hr]; exact Int.not_lt.2 (srt_at (unhide HSR) (by omega) hix)
            obtain ⟨y1, hy1⟩ : ∃ y1, x[k] = y1 := ⟨_, rfl⟩
            obtain ⟨y2, hy2⟩ : ∃ y2, x[i] = y2 := ⟨_, rfl⟩
            have s1 : wr.cell? ⟨g, k, none⟩ = some (.string (ba y1)) := by rw [← hy1]; exact (hbw.cell (p := ⟨g, k, none⟩) hgW).trans ((unhide HRW) k hkx).1
            have s2 : wr.cell? ⟨g, i, none⟩ = some (.string (ba y2)) := by rw [← hy2]; exact (hbw.cell (p := ⟨g, i, none⟩) hgW).trans ((unhide HRW) i hix).1
            rw [hy1, hy2] at hr
            have HR := hide hr
            have e1 : (i : Int) - 1 = (k : Int) := by omega
            have k0 : k < j := by omega
            have k1 : decide (0 < i) = true := by simp; omega
            have k2 : decide ((0 : Int) < (i : Int)) = true := by simp; omega
            have k3 : i ≤ 60 := by omega
            have k6 : k ≤ 60 := by omega
            have k8 : IntKind.i64.wrap (k : Int) = (k : Int) := wrapB k6
            have k4 : (k : Int) < (j : Int) := by omega
            have k5 : (i : Int) < (j : Int) := by omega
            clear hr hy1 hy2 hk h0 hkx hix
            go_wp2
            go_region_held3 (fun w' => w'.cell? ⟨g, k, none⟩ = some (.string (ba y1)) ∧ w'.cell? ⟨g, i, none⟩ = some (.string (ba y2)) ∧ Below W.heap.size W w')
              (first | assumption | exact cmp_drew (by assumption) | exact ⟨s1, s2, hbw⟩ | exact cmp_drew ⟨s1, s2, hbw⟩)
              (first
                | (go_at_call 15; refine (cmp_held hg bW hgW (unhide HR) (by assumption)).mono ?_; rintro e w' ⟨rfl, hk9⟩))
            go_wp2
            go_roundw
            case rel => exact ⟨i + 1, by simp, by omega, cmp_end (g := g) (i := k) (j := i) (x := y1) (y := y2) (by assumption)⟩
            case measure => simp [intOf]; omega
    · have hie : i = n := by omega
      subst hie
      go_wp2
      go_ret
      exact ⟨rfl, below_trans bW (unhide HB0)⟩

end Go.Proofs.YtcmafidnaojkiaaGreatDoor
