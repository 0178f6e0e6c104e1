/-
  Pack of files that anyone handed in.
-/
import Derived.Test.YtkablmjkffdloaaGreatDoorArcQ
import Derived.Test.YtkablmjkffdloaaGreatDoorNamE
namespace Go.Proofs.YtkablmjkffdloaaGreatDoor
open Go.RowKit

theorem sizes_perm {l m : List Nd} (h : l.Perm m) : sizesL l = sizesL m := by
  induction h with
  | nil => rfl
  | cons x _ ih => rw [sizes_cons, sizes_cons, ih]
  | swap x y l =>
    simp only [sizes_cons]
    omega
  | trans _ _ h1 h2 => exact h1.trans h2
theorem ownB_mono {B B' : Nat} {w : World} {v : Value} {l : Bs} (h : OwnB B w v l) (hb : B' ≤ B) : OwnB B' w v l := by
  refine ⟨h.1, h.2.imp id ?_⟩
  rintro ⟨g, cap, cur, rfl, hg, hr⟩
  exact ⟨g, cap, cur, rfl, Nat.le_trans hb hg, hr⟩
/-- What Pack answers to at most a hundred files. -/
def PackS (base : Nat) (dat : Fl → Bs) (xs : List Fl) (e : Ending) (w' : World) : Prop :=
  (nmE [] (xs.map Fl.nm) ≠ 0 ∧ e = .returned (.tuple #[.slice none 0 0, .int .i64 (nmE [] (xs.map Fl.nm))]))
  ∨ (nmE [] (xs.map Fl.nm) = 0 ∧ 1048576 < 22 + sizesL (xs.map (ndF dat)) ∧ e = .returned (.tuple #[.slice none 0 0, .int .i64 13]))
  ∨ (nmE [] (xs.map Fl.nm) = 0 ∧ 22 + sizesL (xs.map (ndF dat)) ≤ 1048576 ∧ ∃ v ys, e = .returned (.tuple #[v, .int .i64 0]) ∧ ys.Perm xs ∧ Rising ys ∧ OwnB base w' v (arcL (ys.map (ndF dat))))

set_option maxRecDepth 100000 in
set_option maxHeartbeats 4000000 in
theorem pack_many {w : World} {a : Option Addr} {n c : Nat} (h1 : 100 < n) : Calls Tryz.prog 18 #[.slice a n c] w fun e w' => e = .returned (.tuple #[.slice none 0 0, .int .i64 14]) ∧ w' = w := by
  have hb : (100 : Int) < (n : Int) := by omega
  go_enter Tryz.func18, Tryz.ntmps18
  go_wp2
  go_ret2
  exact ⟨rfl, rfl⟩

set_option maxRecDepth 100000 in
set_option maxHeartbeats 4000000 in
theorem pack_any {w : World} {a : Option Addr} {n c : Nat} {xs : List Fl} {dat : Fl → Bs} (hg : Ml w) (hx : xs.length = n) (hn : n ≤ 100) (hform : (a = none ∧ n = 0 ∧ c = 0) ∨ ∃ B O, a = some ⟨B, O, none⟩) (hc : n ≤ c) (h : FAt w a xs) (hd : DatG w xs dat) :
    Calls Tryz.prog 18 #[.slice a n c] w fun e w' => PackS w.heap.size dat xs e w' ∧ Below w.heap.size w w' := by
  have hb : ¬ (100 : Int) < (n : Int) := by omega
  have KN := hide (checkNames_any (c := c) hg hx (by omega) h)
  have KS : Hid (∀ w1, Below w.heap.size w w1 → Calls Tryz.prog 70 #[.slice a n c] w1 fun e w' => e = .returned (.int .i64 ((22 + sizesL (xs.map (ndF dat)) : Nat) : Int)) ∧ Below w1.heap.size w1 w') := hide (fun w1 b => size_any hx (by omega) (h.low b) (hd.low b))
  have KB : Hid (∀ w1, Below w.heap.size w w1 → Calls Tryz.prog 72 #[.slice a n c] w1 fun e w' => ∃ ra rc ys, e = .returned (.slice ra n rc) ∧ ys.Perm xs ∧ Rising ys ∧ FAt w' ra ys ∧ Below w1.heap.size w1 w') := hide (fun w1 b => by
    refine (byName_any hx hform (h.low b) (by omega) hc).mono ?_
    rintro e w' ⟨v', ys, rfl, hp, hr, hrow, bb⟩
    obtain ⟨ra, rc, rfl, hat, -⟩ := FRow.at hrow
    rw [hp.length_eq, hx]
    exact ⟨ra, rc, ys, rfl, hp, hr, hat, bb⟩)
  obtain ⟨RES, hR⟩ : ∃ R, nmE [] (xs.map Fl.nm) = R := ⟨_, rfl⟩
  obtain ⟨S, hS⟩ : ∃ S, 22 + sizesL (xs.map (ndF dat)) = S := ⟨_, rfl⟩
  rw [hR] at KN
  rw [hS] at KS
  have HX := hide hx
  have HD := hide hd
  have HR := hide hR
  have HS := hide hS
  have HN := hide hn
  clear hg hx hform hc h hd hR hS
  go_enter Tryz.func18, Tryz.ntmps18
  go_wp2_with (go_at_call 69; fail)
  refine (unhide KN).mono ?_
  rintro e w1 ⟨rfl, b1⟩
  have HB1 := hide b1
  clear b1 KN
  by_cases h0 : RES = 0
  · subst h0
    go_wp2_with (go_at_call 70; fail)
    refine (unhide KS _ (unhide HB1)).mono ?_
    rintro e w2 ⟨rfl, b2⟩
    have HB2 := hide (low_trans (unhide HB1) b2)
    clear b2 KS
    by_cases hs : 1048576 < S
    · have hs' : (1048576 : Int) < (S : Int) := by omega
      go_wp2
      go_ret2
      exact ⟨Or.inr (Or.inl ⟨unhide HR, by rw [unhide HS]; exact hs, rfl⟩), unhide HB2⟩
    · have hs' : ¬ (1048576 : Int) < (S : Int) := by omega
      have HSB := hide (Nat.le_of_not_lt hs)
      go_wp2_with (go_at_call 72; fail)
      refine (unhide KB _ (unhide HB2)).mono ?_
      rintro e w3 ⟨ra, rc, ys, rfl, hp, hr, hat, b3⟩
      have b3' := low_trans (unhide HB2) b3
      have KA := hide (archive_any (w := w3) (n := n) (c := rc) (xs := ys) (dat := dat) (hp.length_eq.trans (unhide HX)) (by have := unhide HN; omega) hat (((unhide HD).low b3').perm hp) (by
        rw [sizes_perm (hp.map (ndF dat))]
        have := unhide HS
        have := unhide HSB
        omega))
      have HP := hide (And.intro hp hr)
      have HB3 := hide b3'
      clear hp hr hat b3 b3' KB
      go_wp2_with (go_at_call 71; fail)
      refine (unhide KA).mono ?_
      rintro e w4 ⟨v, rfl, o4, b4⟩
      have HR4 : Hid (OwnB w.heap.size w4 v (arcL (ys.map (ndF dat))) ∧ Below w.heap.size w w4) := hide ⟨ownB_mono o4 (unhide HB3).size, low_trans (unhide HB3) b4⟩
      clear o4 b4 KA
      go_wp2
      go_ret2
      exact ⟨Or.inr (Or.inr ⟨unhide HR, by rw [unhide HS]; exact unhide HSB, v, ys, rfl, (unhide HP).1, (unhide HP).2, (unhide HR4).1⟩), (unhide HR4).2⟩
  · have h0' : (RES == 0) = false := by simp [h0]
    have h0'' : (RES != 0) = true := by simp [h0]
    go_wp2
    go_ret2
    exact ⟨Or.inl ⟨by rw [unhide HR]; exact h0, by rw [unhide HR]; rfl⟩, unhide HB1⟩
end Go.Proofs.YtkablmjkffdloaaGreatDoor
