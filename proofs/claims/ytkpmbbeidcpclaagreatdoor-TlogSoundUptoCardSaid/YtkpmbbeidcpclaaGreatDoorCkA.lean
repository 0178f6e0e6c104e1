/-
  A record's proof checked: the program's way, whole.
-/
import Derived.Test.YtkpmbbeidcpclaaGreatDoorRoot
import Derived.Test.YtkpmbbeidcpclaaGreatDoorShelf
namespace Go.Proofs.YtkpmbbeidcpclaaGreatDoor
open Go.RowKit

def recB (i n : Int) : Bool := sizeB n && decide (0 ≤ i) && decide (i < n)
def partB (m n : Int) : Bool := sizeB n && decide (0 ≤ m) && decide (m ≤ n)

theorem isRecord_any (i n : Int) (w : World) : Calls Tryz.prog 77 #[.int .i64 i, .int .i64 n] w fun e w' => e = .returned (.bool (recB i n)) ∧ w' = w := by
  have HS := hide (size_any n w)
  by_cases h0 : sizeB n = true
  · by_cases h1 : 0 ≤ i
    · have HT : Hid (recB i n = decide (i < n)) := hide (by unfold recB; simp [h0, h1])
      go_enter Tryz.func77, Tryz.ntmps77
      go_wp2_with (go_at_call 45; fail)
      refine (unhide HS).mono ?_
      rintro e w1 ⟨rfl, rfl⟩
      rw [h0]
      go_wp2
      go_ret
      exact ⟨by rw [unhide HT]; rfl, rfl⟩
    · have HT : Hid (recB i n = false) := hide (by unfold recB; simp [h1])
      go_enter Tryz.func77, Tryz.ntmps77
      go_wp2_with (go_at_call 45; fail)
      refine (unhide HS).mono ?_
      rintro e w1 ⟨rfl, rfl⟩
      rw [h0]
      go_wp2
      go_ret
      exact ⟨by rw [unhide HT]; rfl, rfl⟩
  · have h0' : sizeB n = false := by simpa using h0
    have HT : Hid (recB i n = false) := hide (by unfold recB; simp [h0'])
    go_enter Tryz.func77, Tryz.ntmps77
    go_wp2_with (go_at_call 45; fail)
    refine (unhide HS).mono ?_
    rintro e w1 ⟨rfl, rfl⟩
    rw [h0']
    go_wp2
    go_ret
    exact ⟨by rw [unhide HT]; rfl, rfl⟩
theorem isPart_any (i n : Int) (w : World) : Calls Tryz.prog 81 #[.int .i64 i, .int .i64 n] w fun e w' => e = .returned (.bool (partB i n)) ∧ w' = w := by
  have HS := hide (size_any n w)
  by_cases h0 : sizeB n = true
  · by_cases h1 : 0 ≤ i
    · have HT : Hid (partB i n = decide (i ≤ n)) := hide (by unfold partB; simp [h0, h1])
      go_enter Tryz.func81, Tryz.ntmps81
      go_wp2_with (go_at_call 45; fail)
      refine (unhide HS).mono ?_
      rintro e w1 ⟨rfl, rfl⟩
      rw [h0]
      go_wp2
      go_ret
      exact ⟨by rw [unhide HT]; rfl, rfl⟩
    · have HT : Hid (partB i n = false) := hide (by unfold partB; simp [h1])
      go_enter Tryz.func81, Tryz.ntmps81
      go_wp2_with (go_at_call 45; fail)
      refine (unhide HS).mono ?_
      rintro e w1 ⟨rfl, rfl⟩
      rw [h0]
      go_wp2
      go_ret
      exact ⟨by rw [unhide HT]; rfl, rfl⟩
  · have h0' : sizeB n = false := by simpa using h0
    have HT : Hid (partB i n = false) := hide (by unfold partB; simp [h0'])
    go_enter Tryz.func81, Tryz.ntmps81
    go_wp2_with (go_at_call 45; fail)
    refine (unhide HS).mono ?_
    rintro e w1 ⟨rfl, rfl⟩
    rw [h0']
    go_wp2
    go_ret
    exact ⟨by rw [unhide HT]; rfl, rfl⟩

theorem in_of {w : World} {a : Option Addr} {b : Bs} {n : Nat} (hn : b.length = n) (h : BAt w a b) : Lib.BytesIn w a n (b.map fun x => (x.toNat : Int)) := fun h0 => by
  rcases h.els with e | ⟨B, O, rfl, hc⟩
  · subst e; simp at hn; omega
  · refine ⟨B, O, rfl, fun i hi => ?_⟩
    rw [hc i (by omega), List.getD_eq_getElem?_getD, List.getElem?_map, List.getElem?_eq_getElem (by omega)]
    rfl
theorem bytesOf_map (b : Bs) : Lib.bytesOf (b.map fun x => (x.toNat : Int)) = b := by
  unfold Lib.bytesOf
  rw [List.map_map]
  conv => rhs; rw [← List.map_id b]
  apply List.map_congr_left
  intro x _
  simp
/-- bytes.Equal. -/
theorem equal_any {w : World} {a a2 : Option Addr} {n c n2 c2 : Nat} {b b2 : Bs} (hn : b.length = n) (hn2 : b2.length = n2) (h : BAt w a b) (h2 : BAt w a2 b2) :
    Calls Tryz.prog 80 #[.slice a n c, .slice a2 n2 c2] w fun e w' => e = .returned (.bool (decide (b = b2))) ∧ w' = w := by
  refine (Tryz.bytes_Equal_all a a2 n c n2 c2 _ _ w (by simpa using hn) (by simpa using hn2) (in_of hn h) (in_of hn2 h2)).mono ?_
  rintro e w' ⟨rfl, rfl⟩
  refine ⟨?_, rfl⟩
  rw [bytesOf_map, bytesOf_map]
  congr 2
  rw [Bool.eq_iff_iff]; simp

/-- Two slices in a new block are a list of two. -/
theorem PAt.two {w : World} {a a2 : Option Addr} {b b2 : Bs} {n c n2 c2 Z : Nat} (hn : b.length = n) (hn2 : b2.length = n2) (h0 : w.cell? ⟨Z, 0, none⟩ = some (.slice a n c)) (h1 : w.cell? ⟨Z, 1, none⟩ = some (.slice a2 n2 c2)) (h : BAt w a b) (h2 : BAt w a2 b2) : PAt w (some ⟨Z, 0, none⟩) [b, b2] := by
  refine ⟨Or.inr ⟨Z, 0, rfl, fun k hk => ?_⟩⟩
  match k, hk with
  | 0, _ => exact ⟨a, c, by rw [← hn] at h0; exact h0, h⟩
  | 1, _ => exact ⟨a2, c2, by rw [← hn2] at h1; exact h1, h2⟩

/-- Two slices laid in a new block. -/
theorem lay_two {w : World} {a a2 : Option Addr} {b b2 : Bs} {n c n2 c2 : Nat} (hn : b.length = n) (hn2 : b2.length = n2) (h : BAt w a b) (h2 : BAt w a2 b2) : ∃ W1, w.alloc (.cells #[.slice a n c, .slice a2 n2 c2] 32) = W1 ∧ Below w.heap.size w W1 ∧ PAt W1 (some ⟨w.heap.size, 0, none⟩) [b, b2] := by
  have hb1 : Below w.heap.size w (w.alloc (.cells #[.slice a n c, .slice a2 n2 c2] 32)) := (Below.refl _ _).alloc (Nat.le_refl _) _
  have hz := Blk.new w #[.slice a n c, .slice a2 n2 c2] 32
  exact ⟨_, rfl, hb1, PAt.two (c := c) (c2 := c2) hn hn2 (hz.cell 0) (hz.cell 1) (h.low hb1) (h2.low hb1)⟩
theorem two_short {b b2 : Bs} {n n2 : Nat} (hn : b.length = n) (hn2 : b2.length = n2) (h : n ≤ 100000000) (h2 : n2 ≤ 100000000) : ∀ p ∈ [b, b2], p.length ≤ 1073741824 := by
  intro p hp
  simp at hp
  rcases hp with rfl | rfl <;> omega

/-- What a check of a record's proof answers. -/
def recE (ps : List Bs) (i n : Int) (leaf root : Bs) : Int :=
  if recB i n = false then 6 else if hashB ps = false then 19 else if hashB [leaf, root] = false then 19 else if rootP ps.reverse i.toNat n.toNat leaf = (root, true) then 0 else 19

end Go.Proofs.YtkpmbbeidcpclaaGreatDoor
