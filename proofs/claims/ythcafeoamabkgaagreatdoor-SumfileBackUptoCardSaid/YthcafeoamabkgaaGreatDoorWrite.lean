/-
  writeLine.
-/
import Derived.Test.YthcafeoamabkgaaGreatDoorFrontsP
import Derived.Test.YthcafeoamabkgaaGreatDoorFew
namespace Go.Proofs.YthcafeoamabkgaaGreatDoor
open Go.RowKit

/-- A line's text. -/
def verT (x : Ln) : Str := if x.k = 1 then x.v ++ gmL else x.v
def lineT (x : Ln) : Str := ((((x.p ++ [32]) ++ verT x) ++ [32]) ++ x.s) ++ [10]

set_option maxHeartbeats 1000000 in
theorem writeLine_any {x : Ln} (h1 : x.p.length ≤ 1099511627776) (h2 : x.v.length ≤ 1099511627776) (h3 : x.s.length ≤ 1099511627776) (w : World) : Calls Tryz.prog 49 #[lnV x] w fun e w' => e = .returned (.string (ba (lineT x))) ∧ Below w.heap.size w w' := by
  obtain ⟨p, v, k, s⟩ := x
  simp only at h1 h2 h3
  obtain ⟨b, hb⟩ : ∃ b, verT ⟨p, v, k, s⟩ = b := ⟨_, rfl⟩
  obtain ⟨t, ht⟩ : ∃ t, lineT ⟨p, v, k, s⟩ = t := ⟨_, rfl⟩
  have HT : Hid (t = ((((p ++ [32]) ++ b) ++ [32]) ++ s) ++ [10]) := hide (by rw [← ht, ← hb]; rfl)
  rw [ht]
  have hbl : b.length ≤ 1099511627783 := by
    rw [← hb]
    unfold verT
    simp only
    split
    · rw [List.length_append]; simp [gmL]; omega
    · omega
  have z1 := ba_size p
  have z2 := ba_size v
  have z3 := ba_size s
  have z4 := ba_size b
  have y1 : (ba (p ++ [32])).size = p.length + 1 := by rw [ba_size]; simp
  have y2 : (ba ((p ++ [32]) ++ b)).size = p.length + 1 + b.length := by rw [ba_size]; simp; omega
  have y3 : (ba (((p ++ [32]) ++ b) ++ [32])).size = p.length + 1 + b.length + 1 := by rw [ba_size]; simp; omega
  have y4 : (ba ((((p ++ [32]) ++ b) ++ [32]) ++ s)).size = p.length + 1 + b.length + 1 + s.length := by rw [ba_size]; simp; omega
  have c1 : ba p ++ ⟨#[32]⟩ = ba (p ++ [32]) := ba_app p [32]
  have c2 : ba (p ++ [32]) ++ ba b = ba ((p ++ [32]) ++ b) := ba_app _ _
  have c3 : ba ((p ++ [32]) ++ b) ++ ⟨#[32]⟩ = ba (((p ++ [32]) ++ b) ++ [32]) := ba_app _ [32]
  have c4 : ba (((p ++ [32]) ++ b) ++ [32]) ++ ba s = ba ((((p ++ [32]) ++ b) ++ [32]) ++ s) := ba_app _ _
  have c5 : ba ((((p ++ [32]) ++ b) ++ [32]) ++ s) ++ ⟨#[10]⟩ = ba t := by rw [unhide HT]; exact ba_app _ [10]
  clear ht
  by_cases hk : k = 1
  · have c0 : ba v ++ ⟨#[47, 103, 111, 46, 109, 111, 100]⟩ = ba b := by
      rw [← hb]
      unfold verT
      simp only
      rw [if_pos hk]
      exact ba_app v gmL
    subst hk
    clear hb
    generalize hq1 : ba (p ++ [32]) = q1 at *
    generalize hq2 : ba ((p ++ [32]) ++ b) = q2 at *
    generalize hq3 : ba (((p ++ [32]) ++ b) ++ [32]) = q3 at *
    generalize hq4 : ba ((((p ++ [32]) ++ b) ++ [32]) ++ s) = q4 at *
    clear hq1 hq2 hq3 hq4 HT
    go_enter Tryz.func49, Tryz.ntmps49
    go_wp2
    go_ret
    exact ⟨rfl, (Below.refl _ _).alloc (Nat.le_refl _) _⟩
  · have hvb : v = b := by
      rw [← hb]
      unfold verT
      simp only
      rw [if_neg hk]
    subst hvb
    have hk' : (k == 1) = false := by simpa using hk
    clear hb hk
    generalize hq1 : ba (p ++ [32]) = q1 at *
    generalize hq2 : ba ((p ++ [32]) ++ v) = q2 at *
    generalize hq3 : ba (((p ++ [32]) ++ v) ++ [32]) = q3 at *
    generalize hq4 : ba ((((p ++ [32]) ++ v) ++ [32]) ++ s) = q4 at *
    clear hq1 hq2 hq3 hq4 HT
    go_enter Tryz.func49, Tryz.ntmps49
    go_wp2
    go_ret
    exact ⟨rfl, (Below.refl _ _).alloc (Nat.le_refl _) _⟩

end Go.Proofs.YthcafeoamabkgaaGreatDoor
