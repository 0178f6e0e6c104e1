/-
  What is lent to a log, and looked at behind it.
-/
import Derived.Test.YtkablmjkffdloaaGreatDoorRefQ
import Derived.Test.YtkablmjkffdloaaGreatDoorSameB
namespace Go.Proofs.YtkablmjkffdloaaGreatDoor
open Go.RowKit

/-- The front of an owned row. -/
theorem OwnB.front {b : Nat} {w : World} {g n cap : Nat} {l m : Bs} (h : OwnB b w (.slice (some ⟨g, 0, none⟩) n cap) (l ++ m)) : BAt w (some ⟨g, 0, none⟩) l := by
  obtain ⟨a, c, hv, hb, _, _⟩ := OwnB.at h
  cases hv
  rcases hb.els with e | ⟨B, O, ea, hx⟩
  · have : l = [] := by
      cases l with
      | nil => rfl
      | cons x r => simp at e
    exact ⟨Or.inl this⟩
  · refine ⟨Or.inr ⟨B, O, ea, fun k hk => ?_⟩⟩
    have := hx k (by rw [List.length_append]; omega)
    rw [List.getElem_append_left hk] at this
    exact this

set_option maxRecDepth 100000 in
set_option maxHeartbeats 1000000 in
theorem lent_any {w : World} {a : Option Addr} {n c : Nat} {b : Bs} (hn : b.length = n) (hN : n ≤ 2000000) (h : BAt w a b) :
    Calls Tryz.prog 26 #[.slice a n c] w fun e w' => ∃ g cap, e = .returned (.slice (some ⟨g, 0, none⟩) n cap) ∧ n + 1 ≤ cap ∧ cap ≤ maxLen ∧ w.heap.size ≤ g ∧ OwnB w.heap.size w' (.slice (some ⟨g, 0, none⟩) (n + 1) cap) (b ++ [201]) ∧ Below w.heap.size w w' := by
  have HBY := hide (bytes_any (c := c) hn (by omega) h)
  have HN := hide hn
  clear hn h
  go_enter Tryz.func26, Tryz.ntmps26
  go_wp2_with (go_at_call 82; fail)
  refine (unhide HBY).mono ?_
  rintro e w1 ⟨v1, rfl, o1, b1⟩
  obtain ⟨W2, hW2⟩ : ∃ W2, w1.alloc (.cells #[.int .u8 ((201 : UInt8).toNat : Int)] 5) = W2 := ⟨_, rfl⟩
  obtain ⟨v3, w3, happ, o3, g3⟩ := app_byte (c := 201) o1 b1.size (by rw [unhide HN]; omega) hW2
  have hb3 : Below w.heap.size w w3 := b1.trans (g3.low b1.size (OwnB.base o1))
  obtain ⟨g, cap, rfl, hgw, hcap, hcm⟩ : ∃ g cap, v3 = .slice (some ⟨g, 0, none⟩) (n + 1) cap ∧ w.heap.size ≤ g ∧ n + 1 ≤ cap ∧ cap ≤ maxLen := by
    rcases o3.2 with ⟨_, hn0⟩ | ⟨g, cap, cur, e, hb, _, h1, h2, _⟩
    · simp at hn0
    · have hl : (b ++ [201]).length = n + 1 := by rw [List.length_append, unhide HN]; rfl
      rw [hl] at e h1
      exact ⟨g, cap, e, hb, h1, h2⟩
  have HP : Hid (w.heap.size ≤ g ∧ OwnB w.heap.size w3 (.slice (some ⟨g, 0, none⟩) (n + 1) cap) (b ++ [201]) ∧ Below w.heap.size w w3) := hide ⟨hgw, o3, hb3⟩
  have hW2' : w1.alloc (.cells #[.int .u8 201] 5) = W2 := hW2
  have HW2 := hide hW2'
  obtain ⟨n1, hn1⟩ : ∃ n1, n + 1 = n1 := ⟨_, rfl⟩
  rw [hn1] at happ hcap
  have HN1 := hide hn1
  have hnc : n ≤ cap := by omega
  have hnci : (n : Int) ≤ (cap : Int) := by omega
  have hcm2 : cap ≤ 9223372036854775807 := hcm
  clear o1 b1 o3 g3 hb3 hW2 hW2' hgw hn1 HBY
  go_wp2_with (at_builtin; rw [unhide HW2]; refine Lib.wpList_append_run _ rfl _ _ _ _ rfl _ _ rfl rfl _ _ happ ?_)
  go_ret
  refine ⟨g, cap, rfl, by rw [unhide HN1]; exact hcap, hcm, unhide HP⟩

set_option maxRecDepth 100000 in
set_option maxHeartbeats 1000000 in
theorem kept_any {w : World} {base g n cap : Nat} {a : Option Addr} {c : Nat} {b : Bs} (hn : b.length = n) (hN : n ≤ 2000000) (hcap : n + 1 ≤ cap) (ho : OwnB base w (.slice (some ⟨g, 0, none⟩) (n + 1) cap) (b ++ [201])) (h : BAt w a b) :
    Calls Tryz.prog 36 #[.slice (some ⟨g, 0, none⟩) n cap, .slice a n c] w fun e w' => e = .returned (.bool true) ∧ ∃ q, w' = w.drewN q := by
  have HSB := hide (sameBytes_any (c := cap) (c2 := c) hn hn (by omega) (by omega) ho.front h)
  have hc : w.cell? ⟨g, n, none⟩ = some (.int .u8 201) := by
    obtain ⟨a', c', hv, hb, _, _⟩ := OwnB.at ho
    have ha : some ⟨g, 0, none⟩ = a' := (Value.slice.inj hv).1
    rcases hb.els with e | ⟨B, O, ea, hx⟩
    · simp at e
    · rw [← ha] at ea
      cases ea
      have := hx n (by rw [List.length_append]; simp; omega)
      rw [List.getElem_append_right (by omega)] at this
      simpa [hn] using this
  obtain ⟨n1, hn1⟩ : ∃ n1, n + 1 = n1 := ⟨_, rfl⟩
  rw [hn1] at hcap
  have e1 : (n : Int) + 1 = (n1 : Int) := by omega
  have e2 : (n1 : Int) ≤ (cap : Int) := by omega
  have e3 : n < n1 := by omega
  have e4 : (n : Int) < (n1 : Int) := by omega
  have hn1b : n1 ≤ 2000001 := by omega
  clear hn ho h hn1
  go_enter Tryz.func36, Tryz.ntmps36
  go_wp2_with (go_at_call 23; fail)
  refine (unhide HSB).mono ?_
  rintro e w1 ⟨rfl, q, hw1⟩
  rw [show decide True = true from rfl]
  have hc1 : w1.cell? ⟨g, n, none⟩ = some (.int .u8 201) := by rw [hw1]; exact hc
  have HW := hide hw1
  clear hw1 hc
  go_wp2
  go_ret
  exact ⟨rfl, q, unhide HW⟩

end Go.Proofs.YtkablmjkffdloaaGreatDoor
