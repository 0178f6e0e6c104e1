/-
  first: the walk.
-/
import Derived.Test.YtmbcjdlpdibalaaFstB
namespace Go.Proofs.Ytmbcjdlpdibalaa
open Go.RowKit Go.WideMaps Go.Maps Go.MuLone

set_option maxHeartbeats 1000000 in
set_option maxRecDepth 100000 in
theorem first_any (w : World) : Calls Try.prog 6 #[] w fun e w' => e = .returned (.bool true) ∧ Below w.heap.size w w' := by
  have kc := fun (w : World) (C : Array Value) (n c : Nat) => Lib.run_convert_bytes_const (P := Try.prog) w 32 5 C n c Try.underlying32 Try.underlying5
  go_enter Try.func6, Try.ntmps6
  go_wp2_with (go_at_call 8; fail)
  refine (new_any (first_pages w) (first_faults w) (by omega) (by omega)).mono ?_
  rintro e w1 hq
  rw [first_new] at hq
  obtain ⟨⟨F, P, T, A, lo, hi⟩, rfl, hrep, hge, hb⟩ := hq
  obtain ⟨_, _, _, hs0, hb0⟩ := fW_blocks w
  have HB1 : Hid (Below w.heap.size w w1) := hb0.trans (hb.mono (by omega))
  have HGE : Hid (w.heap.size ≤ F ∧ w.heap.size ≤ A) := ⟨by have := hge.1; simp only at this; omega, by have := hge.2.2.2; simp only at this; omega⟩
  have HORD : Hid (F < w1.heap.size ∧ A < w1.heap.size) := by
    obtain ⟨o1, o2, o3, o4, o5, o6⟩ := hrep.ord
    simp only at o1 o4 o5 o6
    exact ⟨by omega, by omega⟩
  have HG1 := hide (fget hrep fS_n small_ua get1)
  clear hrep hge hb hs0 hb0 kc
  go_wp2_with (first
    | (go_at_call 9; refine (num_any 0 w1).mono ?_; rintro e w9 ⟨rfl, hw⟩; rw [hw]; clear hw w9)
    | (go_at_call 10; refine (unhide HG1).mono ?_; fail))
  refine (unhide HG1).mono ?_
  rintro e w2 ⟨a2, c2, rfl, hd⟩
  obtain ⟨W2, hW2⟩ : ∃ W, w2.alloc (.cells #[.int .i64 0, .slice a2 0 c2, .int .i64 1] 34) = W := ⟨_, rfl⟩
  have D2 : Hid (GetDone ⟨F, P, T, A, lo, hi⟩ fS ua ⟨0, [], 1⟩ a2 c2 w1 w2 W2) := by rw [← hW2]; exact hd
  have HW2 := hide hW2
  have HG2 := hide (fget (unhide D2).rep (by show fS.n + 1 ≤ 1000000; decide) small_ua get2)
  clear hd hW2 HG1
  go_wp2_with (go_at_call 10; fail)
  rw [unhide HW2]
  refine (unhide HG2).mono ?_
  rintro e w3 ⟨a3, c3, rfl, hd⟩
  obtain ⟨W3, hW3⟩ : ∃ W, w3.alloc (.cells #[.int .i64 200, .slice a3 2 c3, .int .i64 1] 34) = W := ⟨_, rfl⟩
  have D3 : Hid (GetDone ⟨F, P, T, A, lo, hi⟩ (getS fS ua) ua ⟨200, [97, 98], 1⟩ a3 c3 W2 w3 W3) := by rw [← hW3]; exact hd
  have HW3 := hide hW3
  have HG3 := hide (fget (unhide D3).rep (by show fS.n + 2 ≤ 1000000; decide) small_ua get3)
  clear hd hW3 HG2
  go_wp2_with (go_at_call 10; fail)
  rw [unhide HW3]
  refine (unhide HG3).mono ?_
  rintro e w4 ⟨a4, c4, rfl, hd⟩
  obtain ⟨W4, hW4⟩ : ∃ W, w4.alloc (.cells #[.int .i64 200, .slice a4 3 c4, .int .i64 1] 34) = W := ⟨_, rfl⟩
  have D4 : Hid (GetDone ⟨F, P, T, A, lo, hi⟩ (getS (getS fS ua) ua) ua ⟨200, [97, 99, 99], 1⟩ a4 c4 W3 w4 W4) := by rw [← hW4]; exact hd
  have HW4 := hide hW4
  have HG4 := hide (fget (unhide D4).rep (by show fS.n + 3 ≤ 1000000; decide) small_ub get4)
  clear hd hW4 HG3
  go_wp2_with (go_at_call 10; fail)
  rw [unhide HW4]
  refine (unhide HG4).mono ?_
  rintro e w5 ⟨a5, c5, rfl, hd⟩
  obtain ⟨W5, hW5⟩ : ∃ W, w5.alloc (.cells #[.int .i64 404, .slice a5 0 c5, .int .i64 1] 34) = W := ⟨_, rfl⟩
  have D5 : Hid (GetDone ⟨F, P, T, A, lo, hi⟩ (getS (getS (getS fS ua) ua) ua) ub ⟨404, [], 1⟩ a5 c5 W4 w5 W5) := by rw [← hW5]; exact hd
  have HW5 := hide hW5
  clear hd hW5 HG4
  obtain ⟨y2, ⟨y3, y3'⟩, y4, y5, t3, t4, ask, tot, res⟩ := first_facts (unhide D2) (unhide D3) (unhide D4) (unhide D5) (unhide HB1) (unhide HGE) (unhide HORD)
  have HASK := hide ask
  have HTOT := hide tot
  have HRES := hide res
  clear ask tot res D2 D3 D4 D5 HB1 HGE HORD HW2 HW3 HW4
  have hW5 := unhide HW5
  go_wp2_with (go_at_call 12; fail)
  refine (unhide HASK).mono ?_
  rintro e w6 ⟨rfl, b6⟩
  have HB6 := hide b6
  clear b6
  go_wp2_with (go_at_call 14; fail)
  refine ((unhide HTOT) w6 (unhide HB6)).mono ?_
  rintro e w7 ⟨rfl, b7⟩
  have HB7 := hide b7
  clear b7
  go_wp2
  go_ret
  exact ⟨rfl, (unhide HRES) w6 w7 (unhide HB6) (unhide HB7)⟩

end Go.Proofs.Ytmbcjdlpdibalaa
