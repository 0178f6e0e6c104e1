/-
  The sort of no line or of one: what the first look of each statement asks.
-/
import Derived.Test.YthcafeoamabkgaaGreatDoorReadX
import Derived.Test.YthcafeoamabkgaaGreatDoorSLY
import Derived.Shelf.SlicesE.Clone
namespace Go.Proofs
def Tryz.clone91_ren : Go.Shelf.Ren := ⟨fun | 41 => 91 | n => n, fun | 22 => 22 | 23 => 38 | 4 => 4 | n => n, fun | n => n⟩
theorem Tryz.clone91 : Go.Proofs.SlLaysE0.n41 Tryz.prog Tryz.clone91_ren := {
  mixed := by kernel_rfl
  f41 := ⟨Tryz.f91.name, by decide, Tryz.func91.trans (congrArg some (by kernel_rfl))⟩
  t4 := Tryz.underlying4
  a4 := Tryz.isAgg4
  z4 := Tryz.sizeOf4
  v4 := Tryz.zeroValue4
  t22 := Tryz.underlying22
  a22 := Tryz.isAgg22
  z22 := Tryz.sizeOf22
  v22 := Tryz.zeroValue22 }

namespace YthcafeoamabkgaaGreatDoor
open Go.RowKit Go.WideMaps Go.Maps

theorem lnsV_one (l : List Ln) : ∀ u ∈ lnsV l, u.oneCell' = true := by
  induction l with
  | nil => intro u hu; cases hu
  | cons x l ih =>
    intro u hu
    simp only [lnsV, List.mem_cons] at hu
    rcases hu with rfl | rfl | rfl | rfl | h
    · rfl
    · rfl
    · rfl
    · rfl
    · exact ih u h

/-- slices.Clone of lines. -/
theorem clone_L {B : Nat} {w : World} {v : Value} {xs : List Ln} (h : Lines B w v xs) (hn : xs.length ≤ 1000000) :
    Calls Tryz.prog 91 #[v] w fun e w' => ∃ v', e = .returned v' ∧ Lines w.heap.size w' v' xs ∧ Below w.heap.size w w' := by
  rcases h.2 with ⟨rfl, h0⟩ | ⟨g, cap, cur, rfl, hb, hblk, hcap, hcm, hcs, hcur⟩
  · refine (AnyE.slices_Clone_nil Tryz.clone91 0 0 w).mono ?_
    rintro e w' ⟨rfl, rfl⟩
    exact ⟨_, rfl, ⟨h.1, Or.inl ⟨rfl, h0⟩⟩, Below.refl _ _⟩
  · obtain ⟨i0, hi, hz0, hz1, hz2⟩ := info_parts info38
    refine (AnyE.slices_Clone Tryz.clone91 i0 _ 4 56 hi hz0 hz1 hz2 rfl (by omega) Tryz.sizeOf38 g 0 xs.length cap (lnsV xs) w h.1 (by unfold maxLen; omega) (by omega) ?_ (lnsV_one xs)).mono ?_
    · intro j u hu
      have hj : j < xs.length * 4 := by
        have := (List.getElem?_eq_some_iff.1 hu).1
        rwa [lnsV_length] at this
      have h1 : cur.toList[j]? = (lnsV xs)[j]? := by rw [← hcur, List.getElem?_take_of_lt hj]
      have h2 : cur[j]? = cur.toList[j]? := by simp
      rw [Lib.cell_of_heap hblk, Nat.zero_add, h2, h1, hu]
    · rintro e w' ⟨v', rfl, hown, _, hb'⟩
      exact ⟨v', rfl, hown, hb'⟩

set_option maxHeartbeats 2000000 in
theorem insert_one (p : Option Addr) (cap : Nat) (fv : Value) (w : World) :
    Calls Tryz.prog 174 #[.slice p 1 cap, .int .i64 0, .int .i64 1, fv] w fun e w' => e = .returned (.tuple #[]) ∧ w' = w := by
  go_enter Tryz.func174, Tryz.ntmps174
  go_wp2
  refine wp_loop_rounds 1 ?_
  rw [rounds_succ]
  go_wp2
  go_end0
  exact ⟨rfl, rfl⟩

set_option maxHeartbeats 2000000 in
theorem pdq_one (p : Option Addr) (cap : Nat) (lim : Int) (fv : Value) (w : World) :
    Calls Tryz.prog 137 #[.slice p 1 cap, .int .i64 0, .int .i64 1, .int .i64 lim, fv] w fun e w' => e = .returned (.tuple #[]) ∧ w' = w := by
  go_enter Tryz.func137, Tryz.ntmps137
  go_wp2
  refine wp_loop_rounds 1 ?_
  rw [rounds_succ]
  go_wp2_with (go_at_call 174; refine (insert_one p cap fv _).mono ?_; rintro e w' ⟨rfl, rfl⟩)
  (try simp only [Exit.inBlock, Exit.then]); refine bodyPost_ret (results_none rfl _ _ _) rfl ?_
  exact ⟨rfl, rfl⟩

set_option maxHeartbeats 2000000 in
theorem sort_one (p : Option Addr) (cap : Nat) (fv : Value) (w : World) :
    Calls Tryz.prog 92 #[.slice p 1 cap, fv] w fun e w' => e = .returned (.tuple #[]) ∧ w' = w := by
  have hl : ∀ W, Calls Tryz.prog 138 #[.int .u64 1] W fun e w' => e = .returned (.int .i64 (Lib.bitLen 1 : Nat)) ∧ w' = W := fun W => by
    have h := Any.bits_Len (SlLaysF0.n15.bits (P := Tryz.prog) (ρ := Tryz.sort92_ren) { Tryz.sort92 with }) 1 W (by omega) (by omega)
    exact h
  go_enter Tryz.func92, Tryz.ntmps92
  go_wp2_with (first | (go_at_call 138; refine (hl _).mono ?_; rintro e w' ⟨rfl, rfl⟩) | (go_at_call 137; refine (pdq_one p cap _ fv _).mono ?_; rintro e w' ⟨rfl, rfl⟩))
  go_end0
  exact ⟨rfl, rfl⟩

/-- The sort of no line or of one. -/
theorem sort_few {B : Nat} {w : World} {v : Value} {xs : List Ln} (h : Lines B w v xs) (hn : xs.length ≤ 1) (fv : Value) : Calls Tryz.prog 92 #[v, fv] w fun e w' => e = .returned (.tuple #[]) ∧ w' = w := by
  have h01 : xs.length = 0 ∨ xs.length = 1 := by omega
  rcases h.2 with ⟨rfl, h0⟩ | ⟨g, cap, cur, rfl, hb, hblk, hcap, hcm, hcs, hcur⟩
  · exact AnyF.slices_SortFunc_none Tryz.sort92 none 0 fv w
  · rcases h01 with e | e
    · rw [e]; exact AnyF.slices_SortFunc_none Tryz.sort92 _ cap fv w
    · rw [e]; exact sort_one _ cap fv w

/-- 'sorted' of no line or of one: the same, in new memory. -/
theorem sorted_few {B : Nat} {w : World} {v : Value} {xs : List Ln} (h : Lines B w v xs) (hn : xs.length ≤ 1) (fv : Value) : Calls Tryz.prog 47 #[v, fv] w fun e w' => ∃ v', e = .returned v' ∧ Lines w.heap.size w' v' xs ∧ Below w.heap.size w w' := by
  have HC := hide (clone_L h (by omega))
  have HN := hide hn
  clear h hn
  go_enter Tryz.func47, Tryz.ntmps47
  go_wp2_with (go_at_call 91; fail)
  refine (unhide HC).mono ?_
  rintro e w1 ⟨v', rfl, hr, hb⟩
  have HS := hide (sort_few hr (unhide HN) fv)
  have HR := hide hr
  have HB := hide hb
  clear hr hb
  go_wp2_with (go_at_call 92; fail)
  refine (unhide HS).mono ?_
  rintro e w2 ⟨rfl, hw⟩
  rw [hw]; clear hw w2
  go_wp2
  go_ret
  exact ⟨v', rfl, unhide HR, unhide HB⟩

end YthcafeoamabkgaaGreatDoor
end Go.Proofs
