/-
  A record's proof checked: the program's way.
-/
import Derived.Test.YtkpmbbeidcpclaaGreatDoorSameB
import Derived.Test.YtkpmbbeidcpclaaGreatDoorHalf
namespace Go.Proofs.YtkpmbbeidcpclaaGreatDoor
open Go.RowKit

/-- Hashes in a row of slices. -/
structure PAt (w : World) (a : Option Addr) (ps : List Bs) : Prop where
  els : ps = [] ∨ ∃ B O, a = some ⟨B, O, none⟩ ∧ ∀ k (hk : k < ps.length), ∃ x c, w.cell? ⟨B, O + k, none⟩ = some (.slice x ps[k].length c) ∧ BAt w x ps[k]
theorem PAt.low {w w' : World} {a : Option Addr} {ps : List Bs} (h : PAt w a ps) (b : Below w.heap.size w w') : PAt w' a ps := by
  rcases h.els with h0 | ⟨B, O, ha, he⟩
  · exact ⟨Or.inl h0⟩
  · refine ⟨Or.inr ⟨B, O, ha, fun k hk => ?_⟩⟩
    obtain ⟨x, c, h1, h2⟩ := he k hk
    exact ⟨x, c, (b.cell (lt_of_cell h1)).trans h1, h2.low b⟩
theorem PAt.front {w : World} {a : Option Addr} {ps : List Bs} (h : PAt w a ps) (n : Nat) : PAt w a (ps.take n) := by
  rcases h.els with h0 | ⟨B, O, ha, he⟩
  · exact ⟨Or.inl (by rw [h0]; simp)⟩
  · refine ⟨Or.inr ⟨B, O, ha, fun k hk => ?_⟩⟩
    have hk' : k < ps.length := by rw [List.length_take] at hk; omega
    obtain ⟨x, c, h1, h2⟩ := he k hk'
    refine ⟨x, c, ?_, ?_⟩
    · rw [List.getElem_take]; exact h1
    · rw [List.getElem_take]; exact h2

/-- Has each of them 32 bytes? -/
def hashB (ps : List Bs) : Bool := ps.all fun p => p.length == 32

set_option maxHeartbeats 1000000 in
theorem areHashes_any {w : World} {a : Option Addr} {n c : Nat} {ps : List Bs} (hn : ps.length = n) (hN : n ≤ 1073741824) (hl : ∀ p ∈ ps, p.length ≤ 1073741824) (h : PAt w a ps) :
    Calls Tryz.prog 78 #[.slice a n c] w fun e w' => e = .returned (.bool (hashB ps)) ∧ w' = w := by
  have HN := hide hn
  have H := hide h
  have HL := hide hl
  clear hn h hl
  go_enter Tryz.func78, Tryz.ntmps78
  go_wp2
  go_loop [4, 7] (fun _ v7 => ∃ k : Nat, k ≤ n ∧ v7 = .int .i64 (k : Int) ∧ hashB (ps.take k) = true) (fun _ v7 => n - (intOf v7).toNat)
  case atStart => exact ⟨0, Nat.zero_le _, rfl, rfl⟩
  case round =>
    obtain ⟨k, hk, rfl, ht⟩ := hrel
    by_cases hlt : k < n
    · have hkp : k < ps.length := by rw [unhide HN]; exact hlt
      rcases (unhide H).els with h0 | ⟨B, O, rfl, he⟩
      · rw [h0] at hkp; simp at hkp
      · obtain ⟨x, d, hc, _⟩ := he k hkp
        have hpl := unhide HL ps[k] (List.getElem_mem hkp)
        obtain ⟨m, hm⟩ : ∃ m, ps[k].length = m := ⟨_, rfl⟩
        rw [hm] at hc hpl
        by_cases hm32 : m = 32
        · have HT : Hid (hashB (ps.take (k + 1)) = true) := hide (by
            unfold hashB at ht ⊢
            rw [List.take_add_one, List.getElem?_eq_getElem hkp, List.all_append, ht]
            simp [hm, hm32])
          subst hm32
          clear ht he hm
          go_wp2
          go_round
          case rel => exact ⟨k + 1, hlt, by push_cast; rfl, unhide HT⟩
          case measure => simp [intOf]; omega
        · have HT : Hid (hashB ps = false) := hide (by
            unfold hashB
            rw [List.all_eq_false]
            exact ⟨ps[k], List.getElem_mem hkp, by simp [hm, hm32]⟩)
          have hq : ((m : Int) != 32) = true := by simp; omega
          clear ht he hm
          go_wp2
          go_ret
          exact ⟨by rw [unhide HT]; rfl, rfl⟩
    · have HT : Hid (hashB ps = true) := hide (by
        rw [List.take_of_length_le (by rw [unhide HN]; omega)] at ht
        exact ht)
      clear ht
      go_wp2
      go_ret
      exact ⟨by rw [unhide HT]; rfl, rfl⟩

end Go.Proofs.YtkpmbbeidcpclaaGreatDoor
