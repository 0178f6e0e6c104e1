/-
  Is a text among some texts?
-/
import Derived.Test.YtkpmbbeidcpclaaDoorOnes
namespace Go.Proofs.YtkpmbbeidcpclaaDoor
open Go.RowKit

/-- Texts in a row. -/
structure StAt (w : World) (a : Option Addr) (xs : List ByteArray) : Prop where
  els : xs = [] ∨ ∃ B O, a = some ⟨B, O, none⟩ ∧ ∀ k (hk : k < xs.length), w.cell? ⟨B, O + k, none⟩ = some (.string xs[k])

set_option maxHeartbeats 1000000 in
theorem has_not {w : World} {a : Option Addr} {n c : Nat} {xs : List ByteArray} {s : ByteArray} (hn : xs.length = n) (hN : n ≤ 1000000) (h : StAt w a xs) (hs : s ∉ xs) :
    Calls Tryd.prog 44 #[.slice a n c, .string s] w fun e w' => e = .returned (.bool false) ∧ w' = w := by
  have HN := hide hn
  have H := hide h
  have HS := hide hs
  clear hn h hs
  go_enter Tryd.func44, Tryd.ntmps44
  go_wp2
  go_loop [5] (fun v5 => ∃ k : Nat, k ≤ n ∧ v5 = .int .i64 (k : Int)) (fun v5 => n - (intOf v5).toNat)
  case atStart => exact ⟨0, Nat.zero_le _, rfl⟩
  case round =>
    obtain ⟨k, hk, rfl⟩ := hrel
    by_cases hlt : k < n
    · have hkp : k < xs.length := by rw [unhide HN]; exact hlt
      rcases (unhide H).els with h0 | ⟨B, O, rfl, he⟩
      · rw [h0] at hkp; simp at hkp
      have hc := he k hkp
      obtain ⟨x, hx⟩ : ∃ x, xs[k] = x := ⟨_, rfl⟩
      rw [hx] at hc
      have hne : x ≠ s := fun e => unhide HS (by rw [← e, ← hx]; exact List.getElem_mem hkp)
      have hne2 : (x.toList == s.toList) = false := by
        rw [beq_eq_false_iff_ne]
        intro e
        rw [ByteArray.toList_eq, ByteArray.toList_eq] at e
        apply hne
        cases x; cases s
        simp only [ByteArray.mk.injEq]
        exact Array.toList_inj.1 e
      clear he hx
      go_wp2
      go_round
      case rel => exact ⟨k + 1, hlt, by push_cast; rfl⟩
      case measure => simp [intOf]; omega
    · go_wp2
      go_ret
      exact ⟨rfl, rfl⟩

end Go.Proofs.YtkpmbbeidcpclaaDoor
