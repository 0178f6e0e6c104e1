/-
  All tiles of a log: the program's way.
-/
import Derived.Test.YtkpmbbeidcpclaaDoorTilA
namespace Go.Proofs.YtkpmbbeidcpclaaDoor
open Go.RowKit

theorem rowN_lt {a p k : Nat} (hp : 1 ≤ p) (h : k * p < a) : k < rowN a p := by
  unfold rowN
  rw [Nat.lt_div_iff_mul_lt (by omega)]
  omega
theorem rowN_ge {a p k : Nat} (hp : 1 ≤ p) (h : a ≤ k * p) : rowN a p ≤ k := by
  unfold rowN
  rw [← Nat.lt_succ_iff, Nat.div_lt_iff_lt_mul (by omega), Nat.succ_mul]
  omega
theorem rowN_le {a p : Nat} (hp : 1 ≤ p) : rowN a p ≤ a := by
  apply rowN_ge hp
  exact Nat.le_mul_of_pos_right a (by omega)

/-- What Tiles answers. -/
def TilesOk (w : World) (ts : List Ti) (e : Ending) (w' : World) : Prop := ∃ v, e = .returned (.tuple #[v, .int .i64 0]) ∧ TiAt w.heap.size w' v ts ∧ Below w.heap.size w w'

set_option maxRecDepth 100000 in
set_option maxHeartbeats 2000000 in
theorem tiles_any {h n : Nat} (h1 : 1 ≤ h) (h8 : h ≤ 8) (hn : n ≤ 100000) (w : World) :
    Calls Tryd.prog 41 #[.int .i64 (h : Int), .int .i64 (n : Int)] w (TilesOk w (tilesF 22 h n 0)) := by
  obtain ⟨p, hp⟩ : ∃ p, 2 ^ h = p := ⟨_, rfl⟩
  have hp1 : 1 ≤ p := by rw [← hp]; exact Nat.one_le_two_pow
  have hp256 : p ≤ 256 := by rw [← hp]; exact Nat.le_trans (Nat.pow_le_pow_right (by decide) h8) (by decide)
  have HP := hide hp
  have T1 : Hid (heightB (h : Int) = true) := hide (by unfold heightB; simp; omega)
  have T2 := hide (sizeB_nat (n := n) (by omega))
  clear hp
  go_enter Tryd.func41, Tryd.ntmps41
  go_wp2_with (go_at_call 85; fail)
  refine (height_any _ _).mono ?_
  rintro e w1 ⟨rfl, rfl⟩
  rw [unhide T1]
  go_wp2_with (go_at_call 67; fail)
  refine (size_any _ _).mono ?_
  rintro e w2 ⟨rfl, rfl⟩
  rw [unhide T2]
  go_wp2
  go_loopw [6, 7, 8] (fun v6 v7 _ wr => ∃ (r f : Nat) (ts : List Ti), v7 = .int .i64 (r : Int) ∧ r + f = 22 ∧ h * r ≤ 28 ∧ TiAt w2.heap.size wr v6 ts ∧ ts.length ≤ r * 100000 ∧ ts ++ tilesF f h n r = tilesF 22 h n 0 ∧ Below w2.heap.size w2 wr) (fun _ v7 _ _ => 40 - (intOf v7).toNat)
  case atStart => exact ⟨0, 22, [], rfl, rfl, by omega, ⟨rfl, Or.inl ⟨rfl, rfl⟩⟩, by simp, rfl, Below.refl _ _⟩
  case round =>
    rename World => wr
    obtain ⟨r, f, ts, rfl, hrf, hhr, hti, htl, htf, hlow⟩ := hrel
    obtain ⟨s, hs⟩ : ∃ s, h * r = s := ⟨_, rfl⟩
    rw [hs] at hhr
    obtain ⟨a, ha⟩ : ∃ a, n / 2 ^ s = a := ⟨_, rfl⟩
    have han : a ≤ n := by rw [← ha]; exact Nat.div_le_self _ _
    have e1 : (h : Int) * (r : Int) = (s : Int) := by rw [← hs]; push_cast; rfl
    have e2 : (n : Int) / 2 ^ s = (a : Int) := by rw [pow_int, ← Int.natCast_ediv, ha]
    have e3 : min s 64 = s := by omega
    have hr28 : r ≤ 28 := by
      have : 1 * r ≤ h * r := Nat.mul_le_mul_right _ h1
      omega
    have HS := hide hs
    have HAe := hide ha
    have HTF := hide htf
    have HTI := hide hti
    have HLOW := hide hlow
    have HTL := hide htl
    have HRF := hide hrf
    clear hs ha htf hti hlow htl
    by_cases ha0 : 0 < a
    · obtain ⟨f', hf'⟩ : ∃ f', f = f' + 1 := by
        have hs20 : s ≤ 20 := by
          apply Classical.byContradiction; intro hc
          have x1 : (2 : Nat) ^ 21 ≤ 2 ^ s := Nat.pow_le_pow_right (by decide) (by omega)
          have x2 : (2 : Nat) ^ 21 = 2097152 := by decide
          have x3 := unhide HAe
          rw [Nat.div_eq_of_lt (by omega)] at x3
          omega
        have : 1 * r ≤ h * r := Nat.mul_le_mul_right _ h1
        have := unhide HS
        exact ⟨f - 1, by omega⟩
      have hs20 : s ≤ 20 := by
        apply Classical.byContradiction; intro hc
        have x1 : (2 : Nat) ^ 21 ≤ 2 ^ s := Nat.pow_le_pow_right (by decide) (by omega)
        have x2 : (2 : Nat) ^ 21 = 2097152 := by decide
        have x3 := unhide HAe
        rw [Nat.div_eq_of_lt (by omega)] at x3
        omega
      have hrn := rowN_le (a := a) hp1
      clear hrf
      go_wp2
      go_loopw [6, 8] (fun v6 v8 wy => ∃ k : Nat, v8 = .int .i64 (k : Int) ∧ k ≤ rowN a p ∧ TiAt w2.heap.size wy v6 (ts ++ rowT h r a p k) ∧ Below w2.heap.size w2 wy) (fun _ v8 _ => a + 1 - (intOf v8).toNat)
      case atStart => exact ⟨0, rfl, Nat.zero_le _, by unfold rowT; simpa using unhide HTI, unhide HLOW⟩
      case round =>
        rename World => wy
        obtain ⟨k, rfl, hkr, hty, hly⟩ := hrel
        obtain ⟨b, hb⟩ : ∃ b, k * p = b := ⟨_, rfl⟩
        have e4 : (k : Int) * 2 ^ h = (b : Int) := by rw [pow_int, unhide HP, ← hb]; push_cast; rfl
        have hbb : b ≤ 25700000 := by
          rw [← hb]
          exact Nat.le_trans (Nat.mul_le_mul (show k ≤ 100000 by omega) hp256) (by decide)
        have HBe := hide hb
        have HTY := hide hty
        have HLY := hide hly
        clear hb hty hly
        by_cases hba : b < a
        · have hbi : (b : Int) < (a : Int) := by omega
          obtain ⟨t, ht⟩ : ∃ t, b + t = a := ⟨a - b, by omega⟩
          have HWD := hide (fun wx => widest_any (row := r) (k := k) h8 (unhide HS) (by omega) (show n ≤ 1048576 by omega) (unhide HAe) (unhide HP) (unhide HBe) (by omega) ht wx)
          obtain ⟨mw, hmw⟩ : ∃ mw, min t p = mw := ⟨_, rfl⟩
          rw [hmw] at HWD
          have HMW : Hid (min (a - k * p) p = mw) := hide (by rw [unhide HBe, ← hmw]; congr 1; omega)
          have hd : decide (b < a) = true := decide_eq_true hba
          clear ht hmw
          go_wp2
          go_quiet (fail)
          obtain ⟨w5, hw5⟩ : ∃ w5, wy.drewN nq = w5 := ⟨_, rfl⟩
          rw [hw5]
          have b5 : Below wy.heap.size wy w5 := by rw [← hw5]; exact lowN (Below.refl _ _) _
          have HT5 := hide (TiAt.low (unhide HTY) b5)
          have HL5 := hide ((unhide HLY).trans (b5.mono (unhide HLY).size))
          clear hw5 b5 HTY HLY
          go_wp2_with (go_at_call 86; fail)
          refine (unhide HWD _).mono ?_
          rintro e w6 ⟨rfl, b6⟩
          have hlow6 := (unhide HL5).trans (b6.mono (unhide HL5).size)
          obtain ⟨W7, hW7⟩ : ∃ W7, w6.alloc (.cells #[.int .i64 (h : Int), .int .i64 (r : Int), .int .i64 (k : Int), .int .i64 (mw : Int)] 72) = W7 := ⟨_, rfl⟩
          have hlen : (ts ++ rowT h r a p k).length ≤ 4000000 := by
            have := unhide HTL
            rw [List.length_append]
            unfold rowT
            rw [List.length_map, List.length_range]
            omega
          obtain ⟨v8, w8, happ, ti8, low8⟩ := app_tile (t := ⟨h, r, k, mw⟩) (TiAt.low (unhide HT5) b6) hlow6.size hlen hW7
          have HR : Hid (TiAt w2.heap.size w8 v8 (ts ++ rowT h r a p (k + 1)) ∧ Below w2.heap.size w2 w8) := hide ⟨by
            rw [rowT_snoc, unhide HMW, ← List.append_assoc]; exact ti8, hlow6.trans low8⟩
          have HKR : Hid (k + 1 ≤ rowN a p) := hide (rowN_lt hp1 (by rw [unhide HBe]; exact hba))
          have HW7 := hide hW7
          clear b6 hlow6 hW7 hlen ti8 low8 HWD HT5 HL5
          go_wp2_with (at_builtin; rw [unhide HW7]; refine Lib.wpList_append_run _ rfl _ _ _ _ rfl _ _ rfl rfl _ _ happ ?_)
          go_roundw
          case rel => exact ⟨k + 1, by push_cast; rfl, unhide HKR, unhide HR⟩
          case measure => simp [intOf]; omega
        · have hbi : ¬ ((b : Int) < (a : Int)) := by omega
          have hd : decide (b < a) = false := decide_eq_false hba
          have hke : k = rowN a p := Nat.le_antisymm hkr (rowN_ge hp1 (by rw [unhide HBe]; omega))
          have HR : Hid (TiAt w2.heap.size wy u6 (ts ++ rowT h r a p (rowN a p)) ∧ Below w2.heap.size w2 wy) := hide ⟨by rw [← hke]; exact unhide HTY, unhide HLY⟩
          have HLN : Hid ((ts ++ rowT h r a p (rowN a p)).length ≤ (r + 1) * 100000) := hide (by
            have := unhide HTL
            rw [List.length_append]
            unfold rowT
            rw [List.length_map, List.length_range, Nat.succ_mul]
            omega)
          have HFF : Hid ((ts ++ rowT h r a p (rowN a p)) ++ tilesF f' h n (r + 1) = tilesF 22 h n 0) := hide (by
            rw [← unhide HTF, hf', List.append_assoc]
            congr 1
            show _ = if n / 2 ^ (h * r) = 0 then _ else _
            rw [unhide HS, unhide HAe, if_neg (by omega), unhide HP])
          have HH28 : Hid (h * (r + 1) ≤ 28) := hide (by rw [Nat.mul_succ, unhide HS]; omega)
          have HRF2 : Hid (r + 1 + f' = 22) := hide (by have := unhide HRF; omega)
          clear HTY HLY hke
          go_wp2
          go_quiet (fail)
          go_wp2
          go_roundw
          case rel => exact ⟨r + 1, f', _, by push_cast; rfl, unhide HRF2, unhide HH28, TiAt.low (unhide HR).1 (lowN (Below.refl _ _) _), unhide HLN, unhide HFF, lowN (unhide HR).2 _⟩
          case measure => simp [intOf]; omega
    · have ha00 : a = 0 := by omega
      have HR : Hid (TilesOk w2 (tilesF 22 h n 0) (.returned (.tuple #[u6, .int .i64 0])) wr) := hide ⟨u6, rfl, by
        have hrf := unhide HRF
        have e : tilesF f h n r = [] := by
          cases f with
          | zero => rfl
          | succ f =>
            show (if n / 2 ^ (h * r) = 0 then _ else _) = _
            rw [unhide HS, unhide HAe, if_pos ha00]
        have := unhide HTF
        rw [e, List.append_nil] at this
        rw [← this]; exact unhide HTI, unhide HLOW⟩
      have hai : ¬ ((0 : Int) < (a : Int)) := by omega
      subst ha00
      clear hrf
      go_wp2
      go_ret2
      exact unhide HR

end Go.Proofs.YtkpmbbeidcpclaaDoor
