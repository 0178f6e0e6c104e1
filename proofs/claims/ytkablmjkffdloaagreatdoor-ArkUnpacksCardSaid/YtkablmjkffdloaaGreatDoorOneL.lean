/-
  Pack of any files as the laws need it; files in another order; a byte turned (plain).
-/
import Derived.Test.YtkablmjkffdloaaGreatDoorSmF
import Derived.Test.YtkablmjkffdloaaGreatDoorTelW
namespace Go.Proofs.YtkablmjkffdloaaGreatDoor
open Go.RowKit

theorem nmE_iff : ∀ (l seen : List Bs), nmE seen l = 0 ↔ (∀ x ∈ l, nameF x = true) ∧ (l.map lowL).Nodup ∧ ∀ x ∈ l, lowL x ∉ seen
  | [], seen => by simp [nmE]
  | x :: r, seen => by
    simp only [nmE]
    by_cases h1 : nameF x = false
    · rw [if_pos h1]
      constructor
      · intro h; cases h
      · rintro ⟨h, _⟩
        have := h x (by simp)
        rw [h1] at this
        cases this
    · rw [if_neg h1]
      have h1' : nameF x = true := by simpa using h1
      by_cases h2 : lowL x ∈ seen
      · rw [if_pos h2]
        constructor
        · intro h; cases h
        · rintro ⟨_, _, h⟩
          exact absurd h2 (h x (by simp))
      · rw [if_neg h2, nmE_iff r]
        constructor
        · rintro ⟨a1, a2, a3⟩
          refine ⟨fun y hy => ?_, ?_, fun y hy => ?_⟩
          · rcases List.mem_cons.1 hy with rfl | hy
            · exact h1'
            · exact a1 y hy
          · rw [List.map_cons]
            refine List.nodup_cons.2 ⟨fun hm => ?_, a2⟩
            obtain ⟨z, hz, e⟩ := List.mem_map.1 hm
            exact a3 z hz (by rw [e]; simp)
          · rcases List.mem_cons.1 hy with rfl | hy
            · exact h2
            · exact fun hm => a3 y hy (by simp [hm])
        · rintro ⟨a1, a2, a3⟩
          rw [List.map_cons] at a2
          obtain ⟨a4, a5⟩ := List.nodup_cons.1 a2
          refine ⟨fun y hy => a1 y (by simp [hy]), a5, fun y hy hm => ?_⟩
          rcases List.mem_cons.1 hm with e | hm
          · exact a4 (by rw [← e]; exact List.mem_map_of_mem hy)
          · exact a3 y (by simp [hy]) hm
theorem nmE_perm {l m : List Bs} (h : l.Perm m) : nmE [] l = 0 ↔ nmE [] m = 0 := by
  rw [nmE_iff, nmE_iff]
  have e := (h.map lowL).nodup_iff
  constructor
  · rintro ⟨a1, a2, _⟩
    exact ⟨fun x hx => a1 x (h.mem_iff.2 hx), e.1 a2, by simp⟩
  · rintro ⟨a1, a2, _⟩
    exact ⟨fun x hx => a1 x (h.mem_iff.1 hx), e.2 a2, by simp⟩
/-- These files can be packed. -/
def Good (dat : Fl → Bs) (xs : List Fl) : Prop := xs.length ≤ 100 ∧ nmE [] (xs.map Fl.nm) = 0 ∧ 22 + sizesL (xs.map (ndF dat)) ≤ 1048576
theorem Good.perm {dat : Fl → Bs} {xs ys : List Fl} (h : Good dat xs) (p : xs.Perm ys) : Good dat ys :=
  ⟨by rw [← p.length_eq]; exact h.1, (nmE_perm (p.map Fl.nm)).1 h.2.1, by rw [← sizes_perm (p.map (ndF dat))]; exact h.2.2⟩
/-- What Pack answers to any files. -/
def PkR (base : Nat) (dat : Fl → Bs) (xs : List Fl) (e : Ending) (w' : World) : Prop :=
  (¬ Good dat xs ∧ ∃ E : Int, E ≠ 0 ∧ e = .returned (.tuple #[.slice none 0 0, .int .i64 E])) ∨
  (Good dat xs ∧ ∃ v ys, e = .returned (.tuple #[v, .int .i64 0]) ∧ ys.Perm xs ∧ Rising ys ∧ OwnB base w' v (arcL (ys.map (ndF dat))))
theorem pack_all {w : World} {a : Option Addr} {n c : Nat} {xs : List Fl} {dat : Fl → Bs} (hg : Ml w) (hx : xs.length = n) (hform : (a = none ∧ n = 0 ∧ c = 0) ∨ ∃ B O, a = some ⟨B, O, none⟩) (hc : n ≤ c) (h : FAt w a xs) (hd : DatG w xs dat) :
    Calls Tryz.prog 18 #[.slice a n c] w fun e w' => PkR w.heap.size dat xs e w' ∧ Below w.heap.size w w' := by
  by_cases hn : n ≤ 100
  · refine (pack_any hg hx hn hform hc h hd).mono ?_
    rintro e w' ⟨hp, b⟩
    refine ⟨?_, b⟩
    rcases hp with ⟨h1, rfl⟩ | ⟨h1, h2, rfl⟩ | ⟨h1, h2, v, ys, rfl, h3, h4, h5⟩
    · exact Or.inl ⟨fun hg => h1 hg.2.1, _, h1, rfl⟩
    · exact Or.inl ⟨fun hg => by have := hg.2.2; omega, 13, by decide, rfl⟩
    · exact Or.inr ⟨⟨by omega, h1, h2⟩, v, ys, rfl, h3, h4, h5⟩
  · refine (pack_many (by omega)).mono ?_
    rintro e w' ⟨rfl, rfl⟩
    exact ⟨Or.inl ⟨fun hg => by have := hg.1; omega, 14, by decide, rfl⟩, Below.refl _ _⟩
theorem arc_pos (l : List Nd) : 22 ≤ (arcL l).length := by
  unfold arcL endL
  simp [leAll_len]
  omega
theorem arc_len (l : List Nd) : (arcL l).length = sizesL l + 22 := by
  have := parts_len l 0
  unfold arcL endL
  simp [leAll_len]
  omega
/-- Sorted files of one bag are packed alike. -/
theorem arcs_same {dat : Fl → Bs} {xs ys zs : List Fl} (hn : nmE [] (xs.map Fl.nm) = 0) (hy : ys.Perm xs) (hz : zs.Perm xs) (ry : Rising ys) (rz : Rising zs) : ys.map (ndF dat) = zs.map (ndF dat) := by
  have hnd := (nmE_nodup _ _ hn).1
  exact stp_perm (stp_of ry ((hy.map Fl.nm).nodup_iff.2 hnd)) (stp_of rz ((hz.map Fl.nm).nodup_iff.2 hnd)) ((hy.trans hz.symm).map _)
/-- A byte of an archive turned: other files. -/
theorem turn_tells {dat : Fl → Bs} {xs ys zs : List Fl} {L : List Sf} {p : Nat} {x : UInt8} (hn : nmE [] (xs.map Fl.nm) = 0) (hy : ys.Perm xs) (ry : Rising ys) (hz : zs.Perm xs) (rz : Rising zs) (hp : p < (arcL (ys.map (ndF dat))).length) (hx : (arcL (ys.map (ndF dat)))[p] ≠ x) (hL : Packs L ((arcL (ys.map (ndF dat))).set p x)) : ¬ L.map sfN = zs.map (ndF dat) := by
  intro e
  obtain ⟨qs, h1, h2, h3, -⟩ := hL
  have hnd := (nmE_nodup _ _ hn).1
  have hs : Stp (zs.map (ndF dat)) := stp_of rz ((hz.map Fl.nm).nodup_iff.2 hnd)
  have e2 : qs = zs.map (ndF dat) := stp_perm h2 hs (by rw [← e]; exact h1)
  rw [e2, ← arcs_same hn hy hz ry rz] at h3
  have h4 : (arcL (ys.map (ndF dat)))[p]? = ((arcL (ys.map (ndF dat))).set p x)[p]? := by rw [← h3]
  rw [List.getElem?_set_self hp, List.getElem?_eq_getElem hp] at h4
  exact hx (Option.some.inj h4)
theorem mod_snd (i : Int) {N : Nat} (hN : 1 ≤ N) : ∃ (r : Int) (s j : Nat), i.tmod (N : Int) = r ∧ r + (N : Int) = (s : Int) ∧ s < 2 * N ∧ (s : Int).tmod (N : Int) = (j : Int) ∧ j < N := by
  have h1 : i.tmod (N : Int) < N := Int.tmod_lt_of_pos i (by omega)
  have h2 : -(N : Int) < i.tmod (N : Int) := Int.lt_tmod_of_pos i (by omega)
  refine ⟨_, (i.tmod (N : Int) + N).toNat, (i.tmod (N : Int) + N).toNat % N, rfl, by omega, by omega, ?_, Nat.mod_lt _ (by omega)⟩
  rw [Int.tmod_eq_emod_of_nonneg (by omega)]
  omega
end Go.Proofs.YtkablmjkffdloaaGreatDoor
