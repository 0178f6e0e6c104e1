/-
  ModEscapes: any text is escaped and read back as the reference says.
-/
import Derived.Test.YtcmafidnaojkiaaGreatDoorRefEsc
namespace Go.Proofs.YtcmafidnaojkiaaGreatDoor
open Go.RowKit

theorem refEsc_is {l r : Str} {n : Nat} (h : escR l = (r, n)) (hl : l.length ≤ 4294967281) (w : World) : Gives 40 #[.string (ba l)] w (.tuple #[.string (ba r), .int .i64 (n : Int)]) := by
  have := refEsc_any hl w
  rw [h] at this; exact this
theorem refUnesc_is {l r : Str} {n : Nat} (h : unescR l = (r, n)) (hl : l.length ≤ 4294967281) (w : World) : Gives 42 #[.string (ba l)] w (.tuple #[.string (ba r), .int .i64 (n : Int)]) := by
  have := refUnesc_any hl w
  rw [h] at this; exact this

theorem escapes_big {l : Str} (h : 2000 < l.length) {w : World} (hg : Gd w) : Gives 7 #[.string (ba l)] w (.bool true) := by
  unfold Gives
  have hs := ba_size l
  have hq : (2000 : Int) < l.length := by omega
  go_enter Tryz.func7, Tryz.ntmps7
  go_wp2_with (go_at_call 13; fail)
  refine (first_any hg).mono ?_
  rintro e w1 ⟨rfl, b1⟩
  go_wp2
  go_ret
  exact ⟨rfl, b1⟩

set_option maxHeartbeats 1000000 in
theorem escapes_small {l : Str} (h : l.length ≤ 2000) {w : World} (hg : Gd w) : Gives 7 #[.string (ba l)] w (.bool true) := by
  unfold Gives
  have hs := ba_size l
  have hq : ¬ (2000 : Int) < l.length := by omega
  obtain ⟨x, n, hx⟩ : ∃ x n, escR l = (x, n) := ⟨_, _, rfl⟩
  obtain ⟨y, m, hy⟩ : ∃ y m, unescR l = (y, m) := ⟨_, _, rfl⟩
  have HX := hide hx
  have HY := hide hy
  clear hx hy
  go_enter Tryz.func7, Tryz.ntmps7
  go_wp2_with (go_at_call 13; fail)
  refine (first_any hg).mono ?_
  rintro e w1 ⟨rfl, b1⟩
  go_wp2_with (go_at_call 39; fail)
  refine (esc_is (unhide HX) (by omega) _).mono ?_
  rintro e w2 ⟨rfl, b2⟩
  have b2 := below_trans b1 b2
  clear b1
  go_wp2_with (go_at_call 40; fail)
  refine (refEsc_is (unhide HX) (by omega) _).mono ?_
  rintro e w3 ⟨rfl, b3⟩
  have b3 := below_trans b2 b3
  clear b2
  go_wp2_with (go_at_call 41; fail)
  refine (unesc_is (unhide HY) (by omega) _).mono ?_
  rintro e w4 ⟨rfl, b4⟩
  have b4 := below_trans b3 b4
  clear b3
  go_wp2_with (go_at_call 42; fail)
  refine (refUnesc_is (unhide HY) (by omega) _).mono ?_
  rintro e w5 ⟨rfl, b5⟩
  have b5 := below_trans b4 b5
  clear b4
  go_wp2_with (go_at_call 28; refine (num_any _ _).mono ?_; rintro e w6 ⟨rfl, hw⟩; rw [hw]; clear hw w6)
  go_ret
  exact ⟨rfl, b5⟩

theorem escapes_any (l : Str) {w : World} (hg : Gd w) : Gives 7 #[.string (ba l)] w (.bool true) := by
  by_cases h : l.length ≤ 2000
  · exact escapes_small h hg
  · exact escapes_big (by omega) hg

end Go.Proofs.YtcmafidnaojkiaaGreatDoor
