/-
  sort.SliceStable over rows of texts, by Sort's closure.
-/
import Derived.Test.YtcmafidnaojkiaaGreatDoorSortL
namespace Go.Proofs.YtcmafidnaojkiaaGreatDoor
open Go.RowKit Go.Lib Go.Shelf Go.Sort

abbrev ltV (a b : Str) : Bool := decide (cmpV a b < 0)

theorem sortsT {w0 : World} {blk Bs n c : Nat} (hg : Gd w0) (hblk : w0.heap.size ≤ blk) (hne : Bs ≠ blk) (hsm : n ≤ 1099511627776) :
    Sorts 59 #[.pointer (some ⟨Bs, 0, none⟩)] 136 #[.slice (some ⟨blk, 0, none⟩) n c, typeHandle Tryz.prog 9] blk n ltV (RSort w0 blk Bs n c) where
  enter := enters_of Tryz.func59 (by kernel_rfl) rfl
  small := hsm
  len := fun d w h => h.1
  inside := fun d w h => h.2.2.2.1
  less := fun d w i j hi hj h => less59 hg hsm hi hj h
  swap := fun d w i j hi hj h => by
    obtain ⟨h1, h2, h3, h4, h5, h6⟩ := h
    refine ⟨_, swapT h1 h2 hi hj, ⟨by simpa using h1, ?_, ?_, by simpa [World.setCell] using h4, by simpa [World.setCell] using h5, (h6.setCell (p := ⟨blk, i, none⟩) hblk _).setCell (p := ⟨blk, j, none⟩) hblk _⟩, (Fr.put _ _ _ _).trans (Fr.put _ _ _ _)⟩
    · exact (h2.put hi d[j]).put (by simpa using hj) d[i]
    · rw [World.cell?_setCell_far _ _ _ _ (by show blk ≠ Bs; exact fun e => hne e.symm), World.cell?_setCell_far _ _ _ _ (by show blk ≠ Bs; exact fun e => hne e.symm)]
      exact h3
  alloc := fun d w o h => h.below ((Below.refl _ _).alloc (Nat.le_refl _) o)

theorem strictV : Strict ltV where
  asym := fun x y h => by
    have t := orders_v.turn x y
    simp only [decide_eq_true_eq, decide_eq_false_iff_not] at h ⊢
    omega
  ntrans := fun x y z h1 h2 => by
    simp only [decide_eq_false_iff_not] at h1 h2 ⊢
    intro h3
    have t1 := orders_v.turn x y
    have t2 := orders_v.turn y z
    have t3 := orders_v.turn x z
    by_cases e1 : cmpV x y = 0
    · obtain rfl := (orders_v.eq x y).1 e1
      omega
    · by_cases e2 : cmpV y z = 0
      · obtain rfl := (orders_v.eq y z).1 e2
        omega
      · have := orders_v.lt x y z (by omega) (by omega)
        omega

noncomputable def infoT : TypeInfo := (Tryz.prog.info? 24).get (by kernel_rfl)

theorem swapK {n : Nat} (h2 : 2 ≤ n) : Lib.swapperK n infoS 24 = 4 := by
  have a : infoS.hasPointers = true := by kernel_rfl
  have b : infoS.bytes = 16 := by kernel_rfl
  have c : (n == 0) = false := by simp; omega
  have d : (n == 1) = false := by simp; omega
  simp [Lib.swapperK, a, b, c, d]

theorem below_grow (w : World) (os : Array Obj) : Below w.heap.size w (Sort.grow w os) :=
  ⟨rfl, rfl, rfl, by rw [size_grow]; omega, fun k hk => by
    show (w.heap ++ os)[k]? = w.heap[k]?
    rw [Array.getElem?_append_left hk]⟩

set_option maxHeartbeats 1000000 in
theorem sliceStable_T {w0 w : World} {blk Bs n c : Nat} {d : List Str} (hg : Gd w0) (hblk : w0.heap.size ≤ blk) (hne : Bs ≠ blk) (hsm : n ≤ 1099511627776) (hR : RSort w0 blk Bs n c d w) :
    Calls Tryz.prog 58 #[.iface 24 (.slice (some ⟨blk, 0, none⟩) n c), .func (.func 59) #[] #[.pointer (some ⟨Bs, 0, none⟩)]] w fun e w' => e = .returned (.tuple #[]) ∧ ∃ x, x.Perm d ∧ Srt ltV x ∧ RSort w0 blk Bs n c x w' ∧ Fr blk w w' := by
  by_cases h2 : 2 ≤ n
  · refine Any.sort_SliceStable_of_stable Tryz.sl58 24 9 infoT infoS (by kernel_rfl) (by kernel_rfl) (by kernel_rfl) (by kernel_rfl) 24 (fun _ => by kernel_rfl) (some ⟨blk, 0, none⟩) n c (by omega) 136 (by rw [swapK h2]; kernel_rfl) (.func 59) #[] _ w _ ?_
    have hB : sliceBound Tryz.prog 9 infoS 24 (some ⟨blk, 0, none⟩) n c = #[.slice (some ⟨blk, 0, none⟩) n c, typeHandle Tryz.prog 9] := by
      unfold sliceBound; rw [if_neg (swapperK_gt _ _ _ h2)]
    rw [hB]
    have b1 : Below w.heap.size w (stableWorld Tryz.prog Tryz.sl58_ren 24 (some ⟨blk, 0, none⟩) n c w) := by
      unfold stableWorld
      exact ((Below.refl _ _).alloc (Nat.le_refl _) _).alloc (by simp) _
    refine (stable_any (sortsT hg hblk hne hsm) strictV (hR.below b1)).mono ?_
    rintro e w' ⟨rfl, x, k1, k2, k3, k4⟩
    exact ⟨rfl, x, k1, k2, k3, (Fr.below b1).trans k4⟩
  · have hd : d.length ≤ 1 := by have := hR.1; omega
    have hs : Srt ltV d := by
      match d, hd with
      | [], _ => exact List.Pairwise.nil
      | [a], _ => exact List.pairwise_singleton _ _
    obtain ⟨f, hf⟩ : ∃ f, Tryz.prog.funcs.findIdx? (·.name == "internal/reflectlite" ++ ".Swapper$" ++ toString (swapperK n infoS 24)) = some f := by
      by_cases h0 : n = 0
      · subst h0; exact ⟨133, by kernel_rfl⟩
      · have h1 : n = 1 := by omega
        subst h1; exact ⟨134, by kernel_rfl⟩
    refine (Any.sort_SliceStable_tiny Tryz.sl58 24 9 infoT infoS (by kernel_rfl) (by kernel_rfl) (by kernel_rfl) (by kernel_rfl) 24 (fun _ => by kernel_rfl) (some ⟨blk, 0, none⟩) n c (by omega) f hf (.func 59) #[] _ w).mono ?_
    rintro e w' ⟨rfl, os, rfl⟩
    exact ⟨rfl, d, List.Perm.refl _, hs, hR.below (below_grow w os), Fr.below (below_grow w os)⟩

end Go.Proofs.YtcmafidnaojkiaaGreatDoor
