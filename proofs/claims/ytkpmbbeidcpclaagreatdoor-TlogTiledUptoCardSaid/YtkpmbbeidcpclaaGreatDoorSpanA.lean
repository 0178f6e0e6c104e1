/-
  The halves of a span; reading a log by a function that copies.
-/
import Derived.Test.YtkpmbbeidcpclaaGreatDoorHshE
import Derived.Test.YtkpmbbeidcpclaaGreatDoorTz
namespace Go.Proofs.YtkpmbbeidcpclaaGreatDoor
open Go.RowKit

theorem size100 : (Tryz.prog.info? 137).map (·.size) = some 2 := by kernel_rfl

set_option maxRecDepth 100000 in
set_option maxHeartbeats 1000000 in
theorem halves_any {f n h : Nat} (h1 : 2 ≤ n) (h2 : n ≤ 1048576) (hf : f ≤ 1048576) (hh : half n = h) (w : World) :
    Calls Tryz.prog 124 #[.agg #[.int .i64 (f : Int), .int .i64 (n : Int)]] w fun e w' => e = .returned (.tuple #[.agg #[.int .i64 (f : Int), .int .i64 (h : Int)], .agg #[.int .i64 ((f + h : Nat) : Int), .int .i64 ((n - h : Nat) : Int)]]) ∧ Below w.heap.size w w' := by
  obtain ⟨g1, g2, _, _⟩ := half_is h1 h2
  have HHF := hide (fun wx => firstHalf_any h1 h2 wx)
  rw [hh] at g1 g2 HHF
  obtain ⟨f2, hf2⟩ : ∃ f2, f + h = f2 := ⟨_, rfl⟩
  obtain ⟨n2, hn2⟩ : ∃ n2, n - h = n2 := ⟨_, rfl⟩
  have e1 : (f : Int) + (h : Int) = (f2 : Int) := by omega
  have e2 : (n : Int) - (h : Int) = (n2 : Int) := by omega
  have hf2b : f2 ≤ 2097152 := by omega
  rw [hf2, hn2]
  clear hf2 hn2 hh
  go_enter Tryz.func124, Tryz.ntmps124
  go_wp2_with (go_at_call 110; fail)
  refine (unhide HHF _).mono ?_
  rintro e w1 ⟨rfl, hw1⟩
  subst hw1
  go_wp2
  go_region
  go_wp2
  have hA := Blk.new (w.alloc (.cells #[.int .i64 (f : Int), .int .i64 (n : Int)] 137)) #[.int .i64 (f : Int), .int .i64 (h : Int)] 137
  have hA2 := hA.alloc (.cells #[.int .i64 (f2 : Int), .int .i64 (n2 : Int)] 137)
  have hB2 := Blk.new ((w.alloc (.cells #[.int .i64 (f : Int), .int .i64 (n : Int)] 137)).alloc (.cells #[.int .i64 (f : Int), .int .i64 (h : Int)] 137)) #[.int .i64 (f2 : Int), .int .i64 (n2 : Int)] 137
  have sA : (w.alloc (.cells #[.int .i64 (f : Int), .int .i64 (n : Int)] 137)).heap.size = w.heap.size + 1 := by simp
  have sB : ((w.alloc (.cells #[.int .i64 (f : Int), .int .i64 (n : Int)] 137)).alloc (.cells #[.int .i64 (f : Int), .int .i64 (h : Int)] 137)).heap.size = w.heap.size + 1 + 1 := by simp
  rw [sA] at hA2
  rw [sB] at hB2
  have hb : Below w.heap.size w (((w.alloc (.cells #[.int .i64 (f : Int), .int .i64 (n : Int)] 137)).alloc (.cells #[.int .i64 (f : Int), .int .i64 (h : Int)] 137)).alloc (.cells #[.int .i64 (f2 : Int), .int .i64 (n2 : Int)] 137)) :=
    (((Below.refl _ _).alloc (Nat.le_refl _) _).alloc (by rw [sA]; omega) _).alloc (by rw [sB]; omega) _
  exact bodyPost_ret (v := .tuple #[.agg #[.int .i64 (f : Int), .int .i64 (h : Int)], .agg #[.int .i64 (f2 : Int), .int .i64 (n2 : Int)]])
    (by
      have l1 := run_loadVar_row (P := Tryz.prog) _ (w.heap.size + 1) 137 137 _ (0, 0) _ hA2.drew Tryz.underlying137 rfl size100
      have l2 := run_loadVar_row (P := Tryz.prog) _ (w.heap.size + 1 + 1) 137 137 _ (0, 0) _ hB2.drew Tryz.underlying137 rfl size100
      simp only [results, Tryz.results124]
      simp [asAddr, l1, l2]) rfl ⟨rfl, hb.drew⟩

end Go.Proofs.YtkpmbbeidcpclaaGreatDoor
