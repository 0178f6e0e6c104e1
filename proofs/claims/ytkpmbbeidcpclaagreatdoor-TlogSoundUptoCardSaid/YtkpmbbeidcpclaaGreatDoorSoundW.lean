/-
  Each record of a log is proved to be in each longer one, and each longer log to go on from each shorter one; with one bit turned nothing is proved.
-/
import Derived.Test.YtkpmbbeidcpclaaGreatDoorSndZ
import Derived.Test.YtkpmbbeidcpclaaGreatDoorLogQ
import Derived.Test.YtkpmbbeidcpclaaGreatDoorHshQ
import Derived.Test.YtkpmbbeidcpclaaGreatDoorFirst
namespace Go.Proofs.YtkpmbbeidcpclaaGreatDoor
open Go.RowKit

theorem Made.lg {w0 w : World} {base F n : Nat} {v : Value} {ls : List Bs} (h : Made base w0 w F n v ls) (hl : ls.length = n) (hn : n ≤ 1000) (ht : TzAt w) : Lg w F n ls := by
  obtain ⟨hs, h1, h2⟩ := h.log
  exact ⟨⟨_, hs, h1, h2⟩, hl, hn, ht⟩

theorem proves_any {w : World} {F i m n K : Nat} {bit : Int} {lv : List Bs} (h : Lg w F K lv) (h32 : All32 lv) (hn1 : 1 ≤ n) (hn : n ≤ K) (hi : i < n) (hm : m ≤ n) :
    Calls Tryz.prog 9 #[.pointer (some ⟨F, 0, none⟩), .int .i64 (i : Int), .int .i64 (m : Int), .int .i64 (n : Int), .int .i64 bit] w fun e w' => e = .returned (.bool true) ∧ Below w.heap.size w w' := by
  by_cases h0 : m = 0
  · exact proves_zero h h32 hn1 hn hi hm h0
  · exact proves_pos h h32 hn1 hn hi hm (by omega)

theorem mod_snd (i : Int) {N : Nat} (hN : 1 ≤ N) : ∃ (r : Int) (s j : Nat), i.tmod (N : Int) = r ∧ r + (N : Int) = (s : Int) ∧ s < 2 * N ∧ (s : Int).tmod (N : Int) = (j : Int) ∧ j < N := by
  have h1 : i.tmod (N : Int) < N := Int.tmod_lt_of_pos i (by omega)
  have h2 : -(N : Int) < i.tmod (N : Int) := Int.lt_tmod_of_pos i (by omega)
  refine ⟨_, (i.tmod (N : Int) + N).toNat, (i.tmod (N : Int) + N).toNat % N, rfl, by omega, by omega, ?_, Nat.mod_lt _ (by omega)⟩
  rw [Int.tmod_eq_emod_of_nonneg (by omega)]
  omega

set_option maxRecDepth 100000 in
set_option maxHeartbeats 4000000 in
theorem sound_law {w : World} (hg : Gd w) (htz : TzAt w) {a : Option Addr} {N c : Nat} {iI mI nI bit : Int} {ps : List Bs} (hn : ps.length = N) (hN : N ≤ 1048576) (hps : ∀ p ∈ ps, p.length ≤ 1048576) (hp : PAt w a ps) :
    Calls Tryz.prog 3 #[.slice a N c, .int .i64 iI, .int .i64 mI, .int .i64 nI, .int .i64 bit] w fun e w' => e = .returned (.bool true) ∧ Below w.heap.size w w' := by
  have HF := hide (first_any hg)
  have HTZ := hide htz
  have HN := hide hn
  have HPS := hide hps
  have HP := hide hp
  clear hg hn hps hp htz
  go_enter Tryz.func3, Tryz.ntmps3
  go_wp2_with (go_at_call 6; fail)
  refine (unhide HF).mono ?_
  rintro e w1 ⟨rfl, b1⟩
  have HB1 := hide b1
  have HP1 := hide ((unhide HP).low b1)
  have HTZ1 := hide ((unhide HTZ).low b1)
  clear b1 HF HP HTZ
  go_wp2_with (go_at_call 7; fail)
  refine (few_any (c := c) (unhide HN) hN (fun p hp => Nat.le_trans (unhide HPS p hp) (by omega)) (unhide HP1)).mono ?_
  rintro e w2 ⟨r, rfl, hr, rfl⟩
  cases r with
  | false =>
    clear hr
    go_wp2
    go_ret
    exact ⟨rfl, unhide HB1⟩
  | true =>
    have h70 : N ≤ 70 := hr rfl
    clear hr hN
    by_cases hN0 : N = 0
    · subst hN0
      go_wp2
      go_ret
      exact ⟨rfl, unhide HB1⟩
    · have hq0 : ((N : Int) == 0) = false := by simp; omega
      have HMD := hide (made_any (c := c) (unhide HN) (by omega) (fun p hp => Nat.le_trans (unhide HPS p hp) (by omega)) (unhide HP1))
      go_wp2_with (go_at_call 8; fail)
      refine (unhide HMD).mono ?_
      rintro e w3 ⟨F, v, rfl, hm⟩
      have hlen : (ps.map leafL).length = N := by rw [List.length_map]; exact unhide HN
      have h32 : All32 (ps.map leafL) := fun x hx => by
        obtain ⟨y, _, rfl⟩ := List.mem_map.1 hx
        exact leaf_len y
      have hlg := hm.lg hlen (by omega) ((unhide HTZ1).low hm.low)
      have hlow := hm.low
      clear hm
      obtain ⟨r1, s1, j1, m1, m2, m3, m4, m5⟩ := mod_snd nI (N := N) (by omega)
      obtain ⟨n, hne⟩ : ∃ n, j1 + 1 = n := ⟨_, rfl⟩
      have m6 : (j1 : Int) + 1 = (n : Int) := by omega
      obtain ⟨r2, s2, i, i1, i2, i3, i4, i5⟩ := mod_snd iI (N := n) (by omega)
      obtain ⟨n1, hn1e⟩ : ∃ n1, n + 1 = n1 := ⟨_, rfl⟩
      have m7 : (n : Int) + 1 = (n1 : Int) := by omega
      obtain ⟨r3, s3, m, k1, k2, k3, k4, k5⟩ := mod_snd mI (N := n1) (by omega)
      have hn1 : 1 ≤ n := by omega
      obtain ⟨q3, hq3⟩ : ∃ q3, r3 + (n : Int) = q3 := ⟨_, rfl⟩
      have k6 : q3 + 1 = (s3 : Int) := by omega
      have HPR := hide (proves_any (bit := bit) hlg h32 hn1 (by omega) i5 (show m ≤ n by omega))
      have HB3 := hide (low_trans (unhide HB1) hlow)
      have u1 : -(70 : Int) ≤ r1 ∧ r1 ≤ 70 := by omega
      have u2 : -(71 : Int) ≤ r2 ∧ r2 ≤ 71 := by omega
      have u3 : -(72 : Int) ≤ r3 ∧ r3 ≤ 72 := by omega
      have u4 : n ≤ 70 := by omega
      have z1 : ((N : Int) == 0) = false := hq0
      have z2 : ((n : Int) == 0) = false := by simp; omega
      have z3 : ((n1 : Int) == 0) = false := by simp; omega
      have y1 : ¬ ((n : Int) = 0) := by omega
      have y2 : ¬ ((n1 : Int) = 0) := by omega
      have y3 : ¬ ((N : Int) = 0) := by omega
      have u5 : n1 ≤ 71 := by omega
      have u6 : -(142 : Int) ≤ q3 ∧ q3 ≤ 142 := by omega
      clear hlen h32 hlg hlow HMD HP1 HTZ1 hne hn1e k2 m5 i5 k5
      go_wp2_with (go_at_call 9; fail)
      refine (unhide HPR).mono ?_
      rintro e w4 ⟨rfl, b4⟩
      have HZ := hide (low_trans (unhide HB3) b4)
      clear b4
      go_wp2
      go_ret
      exact ⟨rfl, unhide HZ⟩
end Go.Proofs.YtkpmbbeidcpclaaGreatDoor
