/-
  SameLines at two lists that hold the same lines.
-/
import Derived.Test.YthcafeoamabkgaaGreatDoorLinesR
import Derived.BigQuiet
namespace Go.Proofs.YthcafeoamabkgaaGreatDoor
open Go.RowKit

/-- A row of the reference's lines that is owned. -/
theorem RLines.at {B : Nat} {w : World} {v : Value} {xs : List Ln} (h : RLines B w v xs) : ∃ a c, v = .slice a xs.length c ∧ LRow w a xs ∧ xs.length ≤ c := by
  rcases h.2 with ⟨rfl, h0⟩ | ⟨g, cap, cur, rfl, hb, hblk, hcap, hcm, hcs, hcur⟩
  · exact ⟨none, 0, by rw [h0], ⟨Or.inl (List.length_eq_zero_iff.1 h0)⟩, by omega⟩
  · refine ⟨_, cap, rfl, ⟨Or.inr ⟨g, 0, rfl, fun k hk => ?_⟩⟩, hcap⟩
    have at' : ∀ j, j < xs.length * 4 → w.cell? ⟨g, j, none⟩ = (lnsV xs)[j]? := by
      intro j hj
      have h1 : cur.toList[j]? = (lnsV xs)[j]? := by rw [← hcur, List.getElem?_take_of_lt hj]
      have h2 : cur[j]? = cur.toList[j]? := by simp
      rw [Lib.cell_of_heap hblk, h2, h1]
    obtain ⟨a1, a2, a3, a4⟩ := lnL_at hk
    rw [Nat.zero_add]
    exact ⟨by rw [at' _ (by omega), a1], by rw [at' _ (by omega), a2], by rw [at' _ (by omega), a3], by rw [at' _ (by omega), a4]⟩

set_option maxRecDepth 100000 in
set_option maxHeartbeats 4000000 in
theorem sameLines_same {w : World} {a b : Option Addr} {n ac bc : Nat} {xs : List Ln} (hn : xs.length = n) (hN : n ≤ 1000000) (ha : LRow w a xs) (hb : LRow w b xs) :
    Calls Tryz.prog 24 #[.slice a n ac, .slice b n bc] w fun e w' => e = .returned (.bool true) ∧ ∃ q, w' = w.drewN q := by
  have HN := hide hn
  have HA := hide ha
  have HB := hide hb
  clear hn ha hb
  go_enter Tryz.func24, Tryz.ntmps24
  go_wp2
  go_loopw [5] (fun v5 wr => ∃ k nr : Nat, k ≤ n ∧ v5 = .int .i64 k ∧ wr = w.drewN nr) (fun v5 _ => n - (intOf v5).toNat)
  case atStart => exact ⟨0, 0, Nat.zero_le _, rfl, rfl⟩
  case round =>
    obtain ⟨k, nr, hk, rfl, hwr⟩ := hrel
    have HWR := hide hwr
    by_cases hlt : k < n
    · have hkt : k < xs.length := by rw [unhide HN]; exact hlt
      obtain ⟨A, ao, rfl, he⟩ : ∃ B O, a = some ⟨B, O, none⟩ ∧ ∀ k (hk : k < xs.length), LnAt w B (O + k * 4) xs[k] := by
        rcases (unhide HA).els with h | h
        · rw [h] at hkt; simp at hkt
        · exact h
      obtain ⟨B, bo, rfl, hf⟩ : ∃ B O, b = some ⟨B, O, none⟩ ∧ ∀ k (hk : k < xs.length), LnAt w B (O + k * 4) xs[k] := by
        rcases (unhide HB).els with h | h
        · rw [h] at hkt; simp at hkt
        · exact h
      obtain ⟨x, hx⟩ : ∃ x, xs[k] = x := ⟨_, rfl⟩
      have h1 := he k hkt
      have h2 := hf k hkt
      rw [hx] at h1 h2
      have m1 : wr.cell? ⟨A, ao + k * 4, none⟩ = some (.string (ba x.p)) := by rw [hwr]; exact h1.1
      have m2 : wr.cell? ⟨A, ao + k * 4 + 1, none⟩ = some (.string (ba x.v)) := by rw [hwr]; exact h1.2.1
      have m3 : wr.cell? ⟨A, ao + k * 4 + 2, none⟩ = some (.int .i64 x.k) := by rw [hwr]; exact h1.2.2.1
      have m4 : wr.cell? ⟨A, ao + k * 4 + 3, none⟩ = some (.string (ba x.s)) := by rw [hwr]; exact h1.2.2.2
      have p1 : wr.cell? ⟨B, bo + k * 4, none⟩ = some (.string (ba x.p)) := by rw [hwr]; exact h2.1
      have p2 : wr.cell? ⟨B, bo + k * 4 + 1, none⟩ = some (.string (ba x.v)) := by rw [hwr]; exact h2.2.1
      have p3 : wr.cell? ⟨B, bo + k * 4 + 2, none⟩ = some (.int .i64 x.k) := by rw [hwr]; exact h2.2.2.1
      have p4 : wr.cell? ⟨B, bo + k * 4 + 3, none⟩ = some (.string (ba x.s)) := by rw [hwr]; exact h2.2.2.2
      clear h1 h2 he hf hx hwr
      go_wp2
      go_quiet (fail)
      go_wp2
      go_roundw
      case rel => exact ⟨k + 1, nr + nq, hlt, by simp, by rw [unhide HWR, World.drewN_drewN]⟩
      case measure => simp [intOf]; omega
    · clear hwr
      go_wp2
      go_ret
      exact ⟨rfl, nr, unhide HWR⟩

theorem alike_same {w : World} {a b : Option Addr} {n ac bc : Nat} {xs : List Ln} (hn : xs.length = n) (hN : n ≤ 1000000) (ha : LRow w a xs) (hb : LRow w b xs) :
    Calls Tryz.prog 18 #[.slice a n ac, .slice b n bc] w fun e w' => e = .returned (.bool true) ∧ Below w.heap.size w w' := by
  have HL := hide (lines_any (c := bc) hn hN hb)
  have HA := hide ha
  have HN := hide hn
  clear hn ha hb
  go_enter Tryz.func18, Tryz.ntmps18
  go_wp2_with (go_at_call 23; fail)
  refine (unhide HL).mono ?_
  rintro e w1 ⟨v, rfl, hr, b1⟩
  obtain ⟨a', c', rfl, hr', _⟩ := RLines.at hr
  have HS : Hid (Calls Tryz.prog 24 #[.slice a n ac, .slice a' xs.length c'] w1 fun e w' => e = .returned (.bool true) ∧ ∃ q, w' = w1.drewN q) := by
    have h := sameLines_same (ac := ac) (bc := c') (unhide HN) hN ((unhide HA).low b1) hr'
    rw [unhide HN]
    exact h
  have HB := hide b1
  clear hr hr' b1
  go_wp2_with (go_at_call 24; fail)
  refine (unhide HS).mono ?_
  rintro e w2 ⟨rfl, q, rfl⟩
  go_wp2
  go_ret
  exact ⟨rfl, low_drewN (unhide HB) q⟩

end Go.Proofs.YthcafeoamabkgaaGreatDoor
