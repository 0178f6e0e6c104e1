/-
  The reference's look at a name: a good one.
-/
import Derived.Test.YtkablmjkffdloaaGreatDoorCutR
namespace Go.Proofs.YtkablmjkffdloaaGreatDoor
open Go.RowKit

/-- A sign that may stand in a name. -/
def chG (c : UInt8) : Bool := decide (32 ≤ c.toNat) && decide (c.toNat ≤ 126) && decide (c.toNat ≠ 92) && decide (c.toNat ≠ 58) && decide (c.toNat ≠ 42) && decide (c.toNat ≠ 63) && decide (c.toNat ≠ 34) && decide (c.toNat ≠ 60) && decide (c.toNat ≠ 62) && decide (c.toNat ≠ 124)
/-- What may stand between the slashes of a name. -/
def elG (x : Bs) : Bool := decide (x ≠ []) && decide (x ≠ [46]) && decide (x ≠ [46, 46]) && decide (x.headD 0 ≠ 32) && decide (x.getLastD 0 ≠ 32) && x.all chG

theorem pieces_short (c : UInt8) : ∀ (l : Bs), ∀ x ∈ pieces c l, x.length ≤ l.length
  | [], x, hx => by
    simp [pieces] at hx
    rw [hx]
    exact Nat.le_refl _
  | y :: l, x, hx => by
    have ih := pieces_short c l
    have hn := pieces_ne c l
    rw [pieces_cons] at hx
    split at hx
    · rcases List.mem_cons.1 hx with e | e
      · rw [e]; simp
      · have := ih x e; simp; omega
    · cases hp : pieces c l with
      | nil => exact absurd hp hn
      | cons z zs =>
        rw [hp] at hx ih
        simp at hx
        rcases hx with e | e
        · rw [e]; have := ih z (by simp); simp; omega
        · have := ih x (by simp [e]); simp; omega

set_option maxRecDepth 100000 in
set_option maxHeartbeats 2000000 in
theorem refValid_good {l : Bs} (h1 : 1 ≤ l.length) (h2 : l.length ≤ 200) (h : (pieces 47 l).all elG = true) (w : World) : Calls Tryz.prog 49 #[.string (ba l)] w fun e w' => e = .returned (.bool true) ∧ Below w.heap.size w w' := by
  obtain ⟨S, hS⟩ : ∃ S, ba l = S := ⟨_, rfl⟩
  obtain ⟨m, hm⟩ : ∃ m, l.length = m := ⟨_, rfl⟩
  have hsz : S.size = m := by rw [← hS, ba_size]; exact hm
  have hne : (S.toList == []) = false := by
    rw [← hS, ByteArray.toList_eq, ba_data]
    cases l with
    | nil => simp at h1
    | cons x l => rfl
  have HC := hide (refCut_any 47 (l := l) (by omega) w)
  rw [hS] at HC
  obtain ⟨ps, hps⟩ : ∃ ps, pieces 47 l = ps := ⟨_, rfl⟩
  rw [hps] at HC h
  have u47 : ((47 : UInt8).toNat : Int) = 47 := rfl
  rw [u47] at HC
  have hpl : ps.length ≤ 201 := by
    rw [← hps]
    have : ∀ l : Bs, (pieces 47 l).length ≤ l.length + 1 := fun l => by
      induction l with
      | nil => simp [pieces]
      | cons x l ih =>
        have hn := pieces_ne 47 l
        rw [pieces_cons]
        split
        · simp; omega
        · cases hp : pieces 47 l with
          | nil => exact absurd hp hn
          | cons y ys => rw [hp] at ih; simp at ih ⊢; omega
    have := this l
    omega
  have HPS : Hid (∀ x ∈ ps, x.length ≤ m) := hide (fun x hx => by rw [← hm]; exact pieces_short 47 l x (by rw [hps]; exact hx))
  have HA := hide h
  rw [hS]
  have hm2 : m ≤ 200 := by omega
  have hm1 : 1 ≤ m := by omega
  clear h hS hm h1 h2 hps u47
  go_enter Tryz.func49, Tryz.ntmps49
  go_wp2_with (go_at_call 100; fail)
  refine (unhide HC).mono ?_
  rintro e w1 ⟨B, cp, rfl, htx, ⟨hB1, hB2⟩, b1⟩
  have HT := hide htx
  have HB1 := hide b1
  clear htx b1 hB1 hB2 HC
  obtain ⟨q, hq⟩ : ∃ q, ps.length = q := ⟨_, rfl⟩
  have HQ := hide hq
  rw [hq] at hpl ⊢
  clear hq
  go_wp2
  go_loop [4, 5, 6, 7] (fun v4 _ _ _ => ∃ i : Nat, i ≤ q ∧ v4 = .int .i64 (i : Int)) (fun v4 _ _ _ => q - (intOf v4).toNat)
  case atStart => exact ⟨0, Nat.zero_le _, rfl⟩
  case round =>
    obtain ⟨i, hi, rfl⟩ := hrel
    by_cases hlt : i < q
    · have hil : i < ps.length := by rw [unhide HQ]; exact hlt
      have hcell := unhide HT i hil
      obtain ⟨x, hx⟩ : ∃ x, ps[i] = x := ⟨_, rfl⟩
      rw [hx] at hcell
      have hg : elG x = true := List.all_eq_true.1 (unhide HA) x (by rw [← hx]; exact List.getElem_mem hil)
      unfold elG at hg
      simp only [Bool.and_eq_true, decide_eq_true_eq] at hg
      obtain ⟨⟨⟨⟨⟨g1, g2⟩, g3⟩, g4⟩, g5⟩, g6⟩ := hg
      obtain ⟨X, hX⟩ : ∃ X, ba x = X := ⟨_, rfl⟩
      rw [hX] at hcell
      obtain ⟨k, hk⟩ : ∃ k, x.length = k := ⟨_, rfl⟩
      have hXs : X.size = k := by rw [← hX, ba_size]; exact hk
      have hk1 : 1 ≤ k := by
        cases x with
        | nil => exact absurd rfl g1
        | cons y x => simp at hk; omega
      have e0 : (X.toList == []) = false := by rw [← hX, ByteArray.toList_eq, ba_data]; simpa using g1
      have e1 : (X.toList == [46]) = false := by rw [← hX, ByteArray.toList_eq, ba_data]; simpa using g2
      have e2 : (X.toList == [46, 46]) = false := by rw [← hX, ByteArray.toList_eq, ba_data]; simpa using g3
      have HXA : Hid (∀ j (h1 : j < X.size) (h2 : j < x.length), X[j]'h1 = x[j]'h2) := hide (by
        subst hX
        intro j h1 h2
        exact ba_get x j h2)
      have hX0 : 0 < X.size := by omega
      have a0 := unhide HXA 0 hX0 (by omega)
      obtain ⟨c0, hc0⟩ : ∃ c0, x[0]'(by omega) = c0 := ⟨_, rfl⟩
      rw [hc0] at a0
      have f0 : ((c0.toNat : Int) == 32) = false := by
        have : c0 ≠ 32 := by
          intro e
          apply g4
          rw [← e, ← hc0]
          cases x with
          | nil => simp at hk; omega
          | cons y x => rfl
        simp
        intro e
        exact this (UInt8.toNat_inj.1 (by show c0.toNat = 32; omega))
      obtain ⟨k1, hk1e⟩ : ∃ k1, k - 1 = k1 := ⟨_, rfl⟩
      have s1 : (k : Int) - 1 = (k1 : Int) := by omega
      have hX1 : k1 < X.size := by omega
      have a1 := unhide HXA k1 hX1 (by omega)
      obtain ⟨c1, hc1⟩ : ∃ c1, x[k1]'(by omega) = c1 := ⟨_, rfl⟩
      rw [hc1] at a1
      have f1 : ((c1.toNat : Int) == 32) = false := by
        have : c1 ≠ 32 := by
          intro e
          apply g5
          have hlk : x.length - 1 = k1 := by omega
          have hg : x[x.length - 1]? = some (x[k1]'(by omega)) := by rw [hlk]; exact List.getElem?_eq_getElem (by omega)
          rw [← e, ← hc1, List.getLastD_eq_getLast?, List.getLast?_eq_getElem?, hg]
          rfl
        simp
        intro e
        exact this (UInt8.toNat_inj.1 (by show c1.toNat = 32; omega))
      have k1k : k1 < k := by omega
      have HG6 := hide g6
      have HK := hide hk
      have hkb : k ≤ 200 := by have := unhide HPS x (by rw [← hx]; exact List.getElem_mem hil); omega
      clear g1 g2 g3 g4 g5 g6 hX hk hc0 hc1 hx hil hk1e
      go_wp2
      go_loop [6, 7] (fun v6 _ => ∃ j : Nat, j ≤ k ∧ v6 = .int .i64 (j : Int)) (fun v6 _ => k - (intOf v6).toNat)
      case atStart => exact ⟨0, Nat.zero_le _, rfl⟩
      case round =>
        obtain ⟨j, hj, rfl⟩ := hrel
        by_cases hjk : j < k
        · have hjX : j < X.size := by omega
          have hjx : j < x.length := by rw [unhide HK]; exact hjk
          have aj := unhide HXA j hjX hjx
          obtain ⟨cj, hcj⟩ : ∃ cj, x[j] = cj := ⟨_, rfl⟩
          rw [hcj] at aj
          have hgc : chG cj = true := List.all_eq_true.1 (unhide HG6) cj (by rw [← hcj]; exact List.getElem_mem hjx)
          unfold chG at hgc
          simp only [Bool.and_eq_true, decide_eq_true_eq] at hgc
          have r0 : ¬ ((cj.toNat : Int) < 32) := by omega
          have r1 : ¬ ((126 : Int) < (cj.toNat : Int)) := by omega
          have t92 : ((cj.toNat : Int) == 92) = false := by simp; omega
          have t58 : ((cj.toNat : Int) == 58) = false := by simp; omega
          have t42 : ((cj.toNat : Int) == 42) = false := by simp; omega
          have t63 : ((cj.toNat : Int) == 63) = false := by simp; omega
          have t34 : ((cj.toNat : Int) == 34) = false := by simp; omega
          have t60 : ((cj.toNat : Int) == 60) = false := by simp; omega
          have t62 : ((cj.toNat : Int) == 62) = false := by simp; omega
          have t124 : ((cj.toNat : Int) == 124) = false := by simp; omega
          clear hgc hcj
          go_wp2
          go_round
          case rel => exact ⟨j + 1, hjk, by push_cast; rfl⟩
          case measure => simp [intOf]; omega
        · have hje : j = k := by omega
          subst hje
          go_wp2
          go_round
          case rel => exact ⟨i + 1, hlt, by push_cast; rfl⟩
          case measure => simp [intOf]; omega
    · go_wp2
      go_ret
      exact ⟨rfl, unhide HB1⟩
end Go.Proofs.YtkablmjkffdloaaGreatDoor
