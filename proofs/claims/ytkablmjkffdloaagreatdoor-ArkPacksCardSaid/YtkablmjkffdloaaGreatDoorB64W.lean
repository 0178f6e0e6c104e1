/-
  Base64 of any bytes.
-/
import Derived.Test.YtkablmjkffdloaaGreatDoorB64G
import Derived.Test.YtkablmjkffdloaaGreatDoorShaW
namespace Go.Proofs.YtkablmjkffdloaaGreatDoor
open Go.RowKit

theorem BAt.take {w : World} {a : Option Addr} {xs : Bs} (h : BAt w a xs) (m : Nat) : BAt w a (xs.take m) := by
  rcases h.els with h0 | ⟨B, O, ha, he⟩
  · exact ⟨Or.inl (by rw [h0]; simp)⟩
  · refine ⟨Or.inr ⟨B, O, ha, fun k hk => ?_⟩⟩
    have hk' : k < xs.length := by rw [List.length_take] at hk; omega
    rw [he k hk', List.getElem_take]

set_option maxRecDepth 100000 in
set_option maxHeartbeats 2000000 in
theorem base64_any {w : World} {a : Option Addr} {n c : Nat} {b : Bs} (hn : b.length = n) (hN : n ≤ 268435456) (hc : n ≤ c) (h : BAt w a b) :
    Calls Tryz.prog 25 #[.slice a n c] w fun e w' => e = .returned (.string ⟨(b64 b).toArray⟩) ∧ Below w.heap.size w w' := by
  have HN := hide hn
  have H := hide h
  have HFB := hide (Lib.fresh_isBuilder 119 5 w)
  have HB0 : Hid (Below w.heap.size w (w.alloc (.cells #[.pointer none, .slice none 0 0] 119))) := hide ((Below.refl _ _).alloc (Nat.le_refl _) _)
  obtain ⟨W1, hW1⟩ : ∃ W1, w.alloc (.cells #[.pointer none, .slice none 0 0] 119) = W1 := ⟨_, rfl⟩
  rw [hW1] at HFB HB0
  have HW1 := hide hW1
  clear hn h hW1
  go_enter Tryz.func25, Tryz.ntmps25
  go_wp2
  rw [unhide HW1]
  go_loopw [4] (fun v4 wr => ∃ i k : Nat, i = 3 * k ∧ i ≤ n + 2 ∧ v4 = .int .i64 (i : Int) ∧ Lib.IsBuilder 119 5 w.heap.size w.heap.size (Lib.byteCells (b64 (b.take i))) wr ∧ Below w.heap.size w wr) (fun v4 _ => n + 3 - (intOf v4).toNat)
  case atStart => exact ⟨0, 0, rfl, Nat.zero_le _, rfl, unhide HFB, unhide HB0⟩
  case round =>
    rename World => wr
    obtain ⟨i, k, hik, hin, rfl, hbd, hbw⟩ := hrel
    clear HFB HB0 HW1
    by_cases hlt : i < n
    · have hil : i < b.length := by rw [unhide HN]; exact hlt
      obtain ⟨B, O, rfl, -⟩ := (unhide H).at (k := 0) (by omega)
      have hnx := b64_next hik hil
      obtain ⟨hi, hhi⟩ : ∃ hi, min (i + 3) n = hi := ⟨_, rfl⟩
      obtain ⟨m, hm⟩ : ∃ m, hi - i = m := ⟨_, rfl⟩
      have hglen : ((b.drop i).take 3).length = m := by rw [List.length_take, List.length_drop, unhide HN]; omega
      have hbl : (b64 (b.take i)).length ≤ 1000000000 := by
        have := b64_len k (b.take i) (by rw [List.length_take]; omega)
        omega
      have HGA := hide (fun cc => group_any (c := cc) (g := (b.drop i).take 3) (l := b64 (b.take i)) hglen (by omega) (by omega) ((((unhide H).low hbw).drop i).take 3) hbd hbl hbw.size)
      have hmin : min ((i : Int) + 3) (n : Int) = (hi : Int) := by omega
      have hhin : hi ≤ n := by omega
      have hihi : i < hi := by omega
      have hhic : hi ≤ c := by omega
      have hsub : (hi : Int) - (i : Int) = (m : Int) := by omega
      have HBW := hide hbw
      have HIK := hide hik
      have HNX := hide hnx
      clear hbd hbw hnx hglen hik hil hhi hbl
      go_wp2_with (go_at_call 80; fail)
      refine (unhide HGA _).mono ?_
      rintro e w2 ⟨rfl, hbd2, hb2⟩
      rw [← unhide HNX] at hbd2
      have HR := hide (And.intro hbd2 ((unhide HBW).trans hb2))
      obtain ⟨i3, hi3⟩ : ∃ i3, i + 3 = i3 := ⟨_, rfl⟩
      have e3 : (i : Int) + 3 = (i3 : Int) := by omega
      have HI3 := hide hi3
      clear hbd2 hb2
      go_wp2
      go_roundw
      case rel => exact ⟨i3, k + 1, by have := unhide HIK; have := unhide HI3; omega, by omega, rfl, by rw [← unhide HI3]; exact (unhide HR).1, (unhide HR).2⟩
      case measure => simp [intOf]; omega
    · rw [List.take_of_length_le (by rw [unhide HN]; omega)] at hbd
      have HST := hide (Tryz.Builder_String_any _ _ _ wr hbd hbw.size)
      have HBW := hide hbw
      clear hbd hbw hik
      go_wp2_with (go_at_call 81; fail)
      refine (unhide HST).mono ?_
      rintro e w2 ⟨rfl, hb2⟩
      have HR := hide ((unhide HBW).trans hb2)
      clear hb2
      go_wp2
      go_ret
      exact ⟨rfl, unhide HR⟩
end Go.Proofs.YtkablmjkffdloaaGreatDoor
