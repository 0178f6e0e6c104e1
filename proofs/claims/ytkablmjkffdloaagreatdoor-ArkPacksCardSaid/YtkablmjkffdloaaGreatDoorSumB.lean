/-
  The sum of a manifest.
-/
import Derived.Test.YtkablmjkffdloaaGreatDoorSumA
namespace Go.Proofs.YtkablmjkffdloaaGreatDoor
open Go.RowKit

def goMod : Bs := [103, 111, 46, 109, 111, 100]
/-- The sum of a manifest. -/
def manF (b : Bs) : Bs := 104 :: 49 :: 58 :: b64 (shaL (lineF goMod b))
theorem sum_one (b : Bs) (x : Fl) (hx : x.nm = goMod) : sumF (fun _ => b) [x] = manF b := by
  unfold sumF manF linesF
  simp [hx]

set_option maxRecDepth 100000 in
set_option maxHeartbeats 1000000 in
theorem manSum_any {w : World} {a : Option Addr} {n c : Nat} {b : Bs} (hn : b.length = n) (hN : n ≤ 1048576) (hc : n ≤ c) (hc2 : c ≤ 9223372036854775807) (hp : a = none ∨ ∃ B O, a = some ⟨B, O, none⟩) (h : BAt w a b) :
    Calls Tryz.prog 34 #[.slice a n c] w fun e w' => e = .returned (.string (ba (manF b))) ∧ Below w.heap.size w w' := by
  obtain ⟨W1, hW1⟩ : ∃ W1, w.alloc (.cells #[.string (ba goMod), .slice a n c] 56) = W1 := ⟨_, rfl⟩
  have b1 : Below w.heap.size w W1 := by rw [← hW1]; exact (Below.refl _ _).alloc (Nat.le_refl _) _
  have q1 : Blk W1 w.heap.size #[.string (ba goMod), .slice a n c] 56 := by rw [← hW1]; exact Blk.new _ _ _
  have hfat : FAt W1 (some ⟨w.heap.size, 0, none⟩) [⟨goMod, a, n, c⟩] := ⟨Or.inr ⟨_, 0, rfl, fun j u hu => by
    have hj : j < 2 := by
      have := (List.getElem?_eq_some_iff.1 hu).1
      simpa [flsV] using this
    have : j = 0 ∨ j = 1 := by omega
    rcases this with rfl | rfl
    · simp [flsV] at hu; rw [← hu]; exact q1.cell 0
    · simp [flsV] at hu; rw [← hu]; exact q1.cell 1⟩⟩
  have hdat : DatAt W1 [⟨goMod, a, n, c⟩] (fun _ => b) := by
    have one : ∀ x ∈ ([⟨goMod, a, n, c⟩] : List Fl), x = ⟨goMod, a, n, c⟩ := fun x hx => by simpa using hx
    exact ⟨fun x hx => by rw [one x hx]; exact hn, fun x hx => by rw [one x hx]; exact hN, fun x hx => by rw [one x hx]; exact hc, fun x hx => by rw [one x hx]; exact hc2, fun x hx => by rw [one x hx]; exact hp, fun x hx => by rw [one x hx]; exact h.low b1, fun x hx => by rw [one x hx]; show goMod.length ≤ 100000; decide⟩
  have HS := hide (sumOf_any (n := 1) (c := 1) rfl (Or.inr ⟨_, _, rfl⟩) hfat (by decide) (by decide) hdat)
  have HB1 := hide b1
  have hW1' : w.alloc (.cells #[.string ⟨#[103, 111, 46, 109, 111, 100]⟩, .slice a n c] 56) = W1 := hW1
  have HW1 := hide hW1'
  clear b1 q1 hfat hdat hW1 hW1' h hp hc hc2 hn
  go_enter Tryz.func34, Tryz.ntmps34
  go_wp2_with (go_at_call 91; fail)
  rw [unhide HW1]
  refine (unhide HS).mono ?_
  rintro e w2 ⟨ys, hp, _, rfl, b2⟩
  have hys : ys = [⟨goMod, a, n, c⟩] := List.perm_singleton.1 hp
  have hsum : sumF (fun _ => b) ys = manF b := by rw [hys]; exact sum_one b _ rfl
  rw [hsum]
  have HB := hide (low_trans (unhide HB1) b2)
  clear hp b2 hys hsum
  go_wp2
  go_ret
  exact ⟨rfl, unhide HB⟩
end Go.Proofs.YtkablmjkffdloaaGreatDoor
