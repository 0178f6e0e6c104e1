/-
  symMerge_func: two neighbouring rising ranges become one.
-/
import Derived.Test.YtcmafidnaojkiaaGreatDoorSortE
namespace Go.Proofs.YtcmafidnaojkiaaGreatDoor
open Go.RowKit
variable {α : Type} {g : Nat} {lb : Array Value} {sf : Nat} {sb : Array Value} {blk n : Nat} {lt : α → α → Bool} {R : List α → World → Prop}

theorem Strict.refl (O : Strict lt) (x : α) : lt x x = false := by
  cases h : lt x x with
  | false => rfl
  | true => have := O.asym _ _ h; rw [h] at this; cases this

theorem take_le (O : Strict lt) {u : List α} {i : Nat} {X : α} (hu : Srt lt u) (hX : u[i - 1]? = some X) {x : α} (hx : x ∈ u.take i) : lt X x = false := by
  obtain ⟨j, hj, rfl⟩ := List.mem_iff_getElem.1 hx
  have hj2 : j < i ∧ j < u.length := by rw [List.length_take] at hj; omega
  rw [List.getElem_take]
  have hi : i - 1 < u.length := (List.getElem?_eq_some_iff.1 hX).1
  have e : u[i - 1] = X := (List.getElem?_eq_some_iff.1 hX).2
  by_cases h : j = i - 1
  · subst h; rw [e]; exact O.refl X
  · rw [← e]; exact List.pairwise_iff_getElem.1 hu j (i - 1) hj2.2 hi (by omega)

theorem drop_ge (O : Strict lt) {v : List α} {k : Nat} {Y : α} (hv : Srt lt v) (hY : v[k]? = some Y) {y : α} (hy : y ∈ v.drop k) : lt y Y = false := by
  obtain ⟨j, hj, rfl⟩ := List.mem_iff_getElem.1 hy
  rw [List.getElem_drop]
  have hk : k < v.length := (List.getElem?_eq_some_iff.1 hY).1
  have e : v[k] = Y := (List.getElem?_eq_some_iff.1 hY).2
  have hj2 : k + j < v.length := by simp at hj; omega
  by_cases h : j = 0
  · subst h; rw [← e]; exact O.refl _
  · rw [← e]; exact List.pairwise_iff_getElem.1 hv k (k + j) hk hj2 (by omega)

/-- All ahead of one mark against all behind another. -/
theorem cross (O : Strict lt) {u v : List α} {i k : Nat} (hu : Srt lt u) (hv : Srt lt v) (h : ∀ x y, 0 < i → u[i - 1]? = some x → v[k]? = some y → lt y x = false) (hi : i ≤ u.length) : ∀ x ∈ u.take i, ∀ y ∈ v.drop k, lt y x = false := by
  intro x hx y hy
  by_cases h0 : 0 < i
  · by_cases hk : k < v.length
    · have hX : u[i - 1]? = some u[i - 1] := List.getElem?_eq_getElem (by omega)
      have hY : v[k]? = some v[k] := List.getElem?_eq_getElem hk
      exact O.ntrans _ _ _ (take_le O hu hX hx) (O.ntrans _ _ _ (h _ _ h0 hX hY) (drop_ge O hv hY hy))
    · rw [List.drop_of_length_le (by omega)] at hy; cases hy
  · rw [show i = 0 by omega] at hx; simp at hx

/-- The search for the mark. -/
def SymS (lt : α → α → Bool) (R : List α → World → Prop) (blk a mid lo hi : Nat) (w0 : World) (p u v s : List α) (st r : Nat) (wr : World) : Prop :=
  lo ≤ st ∧ st ≤ r ∧ r ≤ hi ∧ (∀ x y, lo < st → u[st - 1 - a]? = some x → v[mid - st]? = some y → lt y x = false) ∧ (∀ x y, r < hi → u[r - a]? = some x → v[mid - 1 - r]? = some y → lt y x = true) ∧ R (p ++ (u ++ (v ++ s))) wr ∧ Fr blk w0 wr
/-- What follows on the answer of 'less'. -/
def SymA (lt : α → α → Bool) (R : List α → World → Prop) (blk a mid lo hi : Nat) (w0 : World) (p u v s : List α) (st r c : Nat) (bv : Bool) (w' : World) : Prop :=
  Fr blk w0 w' ∧ (bv = false → SymS lt R blk a mid lo hi w0 p u v s (c + 1) r w') ∧ (bv = true → SymS lt R blk a mid lo hi w0 p u v s st c w')

theorem SymS.ask (S : Sorts g lb sf sb blk n lt R) {a m b mid lo hi st r c : Nat} {w0 wr : World} {p u v s : List α} (hp : p.length = a) (hm : a + u.length = m) (hb : m + v.length = b) (hlo : a ≤ lo) (hhi : hi ≤ m) (hhm : hi ≤ mid) (hlb : mid + m ≤ b + lo) (H : SymS lt R blk a mid lo hi w0 p u v s st r wr) (h1 : st ≤ c) (h2 : c < r) :
    ∃ bv, Calls Tryz.prog g (#[.int .i64 ((mid : Int) + (m : Int) - 1 - (c : Int)), .int .i64 (c : Int)] ++ lb) wr fun e w' => e = .returned (.bool bv) ∧ SymA lt R blk a mid lo hi w0 p u v s st r c bv w' := by
  obtain ⟨k1, k2, k3, k4, k5, k6, k7⟩ := H
  have hu : c - a < u.length := by omega
  have hv : mid - 1 - c < v.length := by omega
  have e : p ++ (u ++ (v ++ s)) = (p ++ u.take (c - a)) ++ u[c - a] :: ((u.drop (c - a + 1) ++ v.take (mid - 1 - c)) ++ v[mid - 1 - c] :: (v.drop (mid - 1 - c + 1) ++ s)) := by
    conv => lhs; rw [split_at hu, split_at hv]
    simp only [List.append_assoc, List.cons_append]
  have hR := k6
  rw [e] at hR
  have lA : (p ++ u.take (c - a)).length = c := by simp; omega
  have lB : (u.drop (c - a + 1) ++ v.take (mid - 1 - c)).length = (u.length - (c - a + 1)) + (mid - 1 - c) := by simp; omega
  refine ⟨lt v[mid - 1 - c] u[c - a], (less_bwd S (i := (c : Int)) (j := (mid : Int) + (m : Int) - 1 - (c : Int)) (by rw [lA]) (by rw [lA, lB]; omega) hR k7).mono ?_⟩
  rintro e' w' ⟨rfl, hR', hF'⟩
  rw [← e] at hR'
  refine ⟨rfl, hF', fun hb => ⟨by omega, by omega, k3, ?_, k5, hR', hF'⟩, fun hb => ⟨k1, h1, by omega, k4, ?_, hR', hF'⟩⟩
  · intro x y _ hx hy
    rw [show c + 1 - 1 - a = c - a by omega, List.getElem?_eq_getElem hu] at hx
    rw [show mid - (c + 1) = mid - 1 - c by omega, List.getElem?_eq_getElem hv] at hy
    obtain rfl := Option.some.inj hx
    obtain rfl := Option.some.inj hy
    exact hb
  · intro x y _ hx hy
    rw [List.getElem?_eq_getElem hu] at hx
    rw [List.getElem?_eq_getElem hv] at hy
    obtain rfl := Option.some.inj hx
    obtain rfl := Option.some.inj hy
    exact hb

/-- The four parts, parted at the mark. -/
structure Parts4 (lt : α → α → Bool) (u v u1 u2 v1 v2 : List α) : Prop where
  hu : u1 ++ u2 = u
  hv : v1 ++ v2 = v
  s1 : Srt lt u1
  s2 : Srt lt u2
  t1 : Srt lt v1
  t2 : Srt lt v2
  c1 : ∀ x ∈ u1, ∀ y ∈ u2, lt y x = false
  c2 : ∀ x ∈ v1, ∀ y ∈ v2, lt y x = false
  c3 : ∀ x ∈ u1, ∀ y ∈ v2, lt y x = false
  c4 : ∀ x ∈ v1, ∀ y ∈ u2, lt y x = false

theorem SymS.parts (O : Strict lt) {a m b mid lo hi st : Nat} {w0 wr : World} {p u v s : List α} (hm : a + u.length = m) (hb : m + v.length = b) (hlo : a ≤ lo) (hhi : hi ≤ m) (hhm : hi ≤ mid) (hlb : mid + m ≤ b + lo) (el : lo = a ∨ mid + m = b + lo) (eh : hi = m ∨ hi = mid) (su : Srt lt u) (sv : Srt lt v) (H : SymS lt R blk a mid lo hi w0 p u v s st st wr) :
    Parts4 lt u v (u.take (st - a)) (u.drop (st - a)) (v.take (mid - st)) (v.drop (mid - st)) := by
  obtain ⟨k1, k2, k3, k4, k5, k6, k7⟩ := H
  have pu := List.pairwise_append.1 (show Srt lt (u.take (st - a) ++ u.drop (st - a)) by rw [List.take_append_drop]; exact su)
  have pv := List.pairwise_append.1 (show Srt lt (v.take (mid - st) ++ v.drop (mid - st)) by rw [List.take_append_drop]; exact sv)
  refine ⟨List.take_append_drop _ _, List.take_append_drop _ _, pu.1, pu.2.1, pv.1, pv.2.1, pu.2.2, pv.2.2, ?_, ?_⟩
  · refine cross O su sv ?_ (by omega)
    intro x y h0 hx hy
    rcases el with el | el
    · exact k4 x y (by omega) (by rw [show st - 1 - a = st - a - 1 by omega]; exact hx) hy
    · by_cases hls : lo < st
      · exact k4 x y hls (by rw [show st - 1 - a = st - a - 1 by omega]; exact hx) hy
      · rw [List.getElem?_eq_none (by omega)] at hy; cases hy
  · refine cross O sv su ?_ (by omega)
    intro x y h0 hx hy
    by_cases hsh : st < hi
    · have := k5 y x hsh hy (by rw [show mid - 1 - st = mid - st - 1 by omega]; exact hx)
      exact O.asym _ _ this
    · rcases eh with eh | eh
      · rw [List.getElem?_eq_none (by omega)] at hy; cases hy
      · omega

/-- The whole, from the two halves. -/
theorem Parts4.whole {u v u1 u2 v1 v2 x1 x2 : List α} (P : Parts4 lt u v u1 u2 v1 v2) (p1 : x1.Perm (u1 ++ v1)) (p2 : x2.Perm (u2 ++ v2)) (s1 : Srt lt x1) (s2 : Srt lt x2) : (x1 ++ x2).Perm (u ++ v) ∧ Srt lt (x1 ++ x2) := by
  constructor
  · refine (p1.append p2).trans ?_
    rw [← P.hu, ← P.hv]
    simp only [List.append_assoc]
    refine List.Perm.append_left u1 ?_
    rw [← List.append_assoc, ← List.append_assoc]
    exact List.Perm.append_right v2 List.perm_append_comm
  · refine List.pairwise_append.2 ⟨s1, s2, ?_⟩
    intro x hx y hy
    rcases List.mem_append.1 (p1.mem_iff.1 hx) with hx | hx <;> rcases List.mem_append.1 (p2.mem_iff.1 hy) with hy | hy
    · exact P.c1 x hx y hy
    · exact P.c3 x hx y hy
    · exact P.c4 x hx y hy
    · exact P.c2 x hx y hy

end Go.Proofs.YtcmafidnaojkiaaGreatDoor
