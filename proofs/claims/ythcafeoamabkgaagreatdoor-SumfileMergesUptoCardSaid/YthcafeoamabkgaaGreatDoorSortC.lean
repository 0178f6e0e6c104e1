/-
  sorted and Parse at every text.
-/
import Derived.Test.YthcafeoamabkgaaGreatDoorSortB
import Derived.Test.YthcafeoamabkgaaGreatDoorFirst
namespace Go.Proofs.YthcafeoamabkgaaGreatDoor
open Go.RowKit Go.WideMaps Go.Maps

/-- Lines that are the same in a rising order, in new memory. -/
def SortedSaid (w : World) (xs : List Ln) (v' : Value) (w' : World) : Prop := ∃ ys : List Ln, ys.Perm xs ∧ Rising ys ∧ Lines w.heap.size w' v' ys ∧ Below w.heap.size w w'

theorem rising_nil : Rising [] := fun i j hi => by simp at hi

set_option maxHeartbeats 1000000 in
theorem sorted_any {B : Nat} {w : World} {v : Value} {xs : List Ln} (hg : Gd w) (h : Lines B w v xs) (hn : xs.length ≤ 1000000) :
    Calls Tryz.prog 47 #[v, .func (.func 48) #[] #[]] w fun e w' => ∃ v', e = .returned v' ∧ SortedSaid w xs v' w' := by
  have HC := hide (clone_L h hn)
  have HN := hide hn
  have HG := hide hg
  clear h hn hg
  go_enter Tryz.func47, Tryz.ntmps47
  go_wp2_with (go_at_call 91; fail)
  refine (unhide HC).mono ?_
  rintro e w1 ⟨v', rfl, hr, hb⟩
  have HS : Hid (Calls Tryz.prog 92 #[v', .func (.func 48) #[] #[]] w1 fun e w' => e = .returned (.tuple #[]) ∧ SortedSaid w xs v' w') := by
    rcases hr.2 with ⟨rfl, h0⟩ | ⟨g, cap, cur, rfl, hB, hblk, hcap, hcm, hcs, hcur⟩
    · refine (AnyF.slices_SortFunc_none Tryz.sort92 none 0 _ w1).mono ?_
      rintro e w' ⟨rfl, rfl⟩
      have e0 : xs = [] := List.length_eq_zero_iff.1 h0
      subst e0
      exact ⟨rfl, [], List.Perm.refl _, rising_nil, hr, hb⟩
    · refine (sort_L (unhide HG) hb hB hb.size hblk hcap hcm hcs hcur (unhide HN)).mono ?_
      rintro e w' ⟨rfl, ys, h1, h2, h3, h4⟩
      exact ⟨rfl, ys, h1, h2, h3, h4⟩
  clear hr hb HC
  go_wp2_with (go_at_call 92; fail)
  refine (unhide HS).mono ?_
  rintro e w2 ⟨rfl, hs⟩
  have HD := hide hs
  clear hs
  go_wp2
  go_ret
  exact ⟨v', rfl, unhide HD⟩

theorem readR_len : ∀ (f : Nat) (ks : List En) (xs : List Ln) (k : Nat) (t : Str), (readR f ks xs k t).1.length ≤ xs.length + f
  | 0, _, xs, _, _ => by simp [readR]
  | f + 1, ks, xs, k, t => by
    unfold readR
    split
    · simp
    · split
      · simp
      · split
        · simp
        · split
          · have := readR_len f (checkK ks ‹Ln›) (xs ++ [‹Ln›]) (k + 1) (behind 10 t)
            simp at this
            omega
          · simp

/-- What Parse answers. -/
def ParseSaid (w : World) (R : List Ln × Nat × Int) (e : Ending) (w' : World) : Prop :=
  ∃ v', e = .returned (.tuple #[v', .int .i64 (R.2.1 : Nat), .int .i64 R.2.2]) ∧ SortedSaid w R.1 v' w'

set_option maxHeartbeats 2000000 in
/-- Parse, at every text that is not too long. -/
theorem parse_all {w : World} {t : Str} (hg : Gd w) (ht : t.length ≤ 65536) : Calls Tryz.prog 16 #[.string (ba t)] w (ParseSaid w (readR t.length [] [] 1 t)) := by
  have hn := readR_len t.length [] [] 1 t
  obtain ⟨R, hR⟩ : ∃ R, readR t.length [] [] 1 t = R := ⟨_, rfl⟩
  have HT := hide ht
  have HR := hide hR
  have HG := hide hg
  rw [hR] at hn ⊢
  have HN : Hid (R.1.length ≤ 1000000) := hide (by simp at hn; omega)
  have HC := hide (lineCheck_any w)
  clear hR hg hn ht
  go_enter Tryz.func16, Tryz.ntmps16
  go_wp2_with (go_at_call 45; fail)
  refine (unhide HC).mono ?_
  rintro e w1 ⟨rfl, k1, s1, b1⟩
  obtain ⟨W, hW⟩ : ∃ W, w1.alloc (.cells (ckC (w.heap.size + 1)) 82) = W := ⟨_, rfl⟩
  have PW : PSt w W w1.heap.size (w.heap.size + 1) w.heap.size 0 [] := by
    rw [← hW]
    have al := (Below.refl w1.heap.size w1).alloc (Nat.le_refl _) (.cells (ckC (w.heap.size + 1)) 82)
    exact ⟨b1.alloc b1.size _, Blk.new _ _ _, k1.alloc _, s1.low al, Nat.le_refl _⟩
  have HL := hide (readLines_any (unhide HG) PW (unhide HT))
  rw [unhide HR] at HL
  have HW := hide hW
  clear hW PW k1 s1 b1
  go_wp2_with (go_at_call 50; fail)
  rw [unhide HW]
  refine (unhide HL).mono ?_
  rintro e w2 ⟨v2, rfl, l2, b2⟩
  have HS := hide (sorted_any ((unhide HG).low b2) l2 (unhide HN))
  have HB := hide b2
  clear l2 b2
  go_wp2_with (go_at_call 47; fail)
  refine (unhide HS).mono ?_
  rintro e w3 ⟨v3, rfl, ys, y1, y2, y3, y4⟩
  have HD : Hid (SortedSaid w R.1 v3 w3) := ⟨ys, y1, y2, lines_mono y3 (unhide HB).size, low_trans (unhide HB) y4⟩
  clear y1 y2 y3 y4
  go_wp2
  go_ret3
  exact ⟨v3, rfl, unhide HD⟩

set_option maxHeartbeats 1000000 in
/-- Parse, at a text that is too long. -/
theorem parse_long {w : World} {t : Str} (hg : Gd w) (ht : 65536 < t.length) : Calls Tryz.prog 16 #[.string (ba t)] w (ParseSaid w ([], 0, 13)) := by
  have hsz := ba_size t
  have hq : (65536 : Int) < (t.length : Int) := by omega
  have HR : Hid (∀ w' ck, Calls Tryz.prog 50 #[.string (ba t), .func (.func 51) #[] #[.pointer (some ⟨ck, 0, none⟩)]] w' fun e w'' => e = .returned (.tuple #[.slice none 0 0, .int .i64 0, .int .i64 13]) ∧ w'' = w') := by
    intro w' ck
    clear hg ht
    go_enter Tryz.func50, Tryz.ntmps50
    go_wp2
    go_ret3
    exact ⟨rfl, rfl⟩
  have HG := hide hg
  have HC := hide (lineCheck_any w)
  clear hg
  go_enter Tryz.func16, Tryz.ntmps16
  go_wp2_with (go_at_call 45; fail)
  refine (unhide HC).mono ?_
  rintro e w1 ⟨rfl, k1, s1, b1⟩
  have HB : Hid (Below w.heap.size w (w1.alloc (.cells (ckC (w.heap.size + 1)) 82))) := hide (b1.alloc b1.size _)
  clear k1 s1 b1
  go_wp2_with (go_at_call 50; fail)
  refine ((unhide HR) _ _).mono ?_
  rintro e w2 ⟨rfl, hw⟩
  rw [hw]; clear hw w2
  have HS := hide (sorted_any (xs := []) ((unhide HG).low (unhide HB)) (lines_nil 0 _) (by simp))
  go_wp2_with (go_at_call 47; fail)
  refine (unhide HS).mono ?_
  rintro e w3 ⟨v3, rfl, ys, y1, y2, y3, y4⟩
  have HD : Hid (SortedSaid w [] v3 w3) := ⟨ys, y1, y2, lines_mono y3 (unhide HB).size, low_trans (unhide HB) y4⟩
  clear y1 y2 y3 y4
  go_wp2
  go_ret3
  exact ⟨v3, rfl, unhide HD⟩

end Go.Proofs.YthcafeoamabkgaaGreatDoor
