/-
  The contract of SameBytes.
-/
import Derived.Test.YtmbcjdlpdibalaaBase
namespace Go.Proofs.Ytmbcjdlpdibalaa
open Go.RowKit Go.WideMaps Go.Maps

theorem sameBytes_len {w : World} {a b : Option Addr} {n m c1 c2 : Nat} (h : n ≠ m) :
    Calls Try.prog 11 #[.slice a n c1, .slice b m c2] w fun e w' => e = .returned (.bool false) ∧ w' = w := by
  have hq : ((n : Int) != (m : Int)) = true := by simp; omega
  clear h
  go_enter Try.func11, Try.ntmps11
  go_wp2
  go_ret
  exact ⟨rfl, rfl⟩

theorem sameBytes_nil {w : World} {a b : Option Addr} {c1 c2 : Nat} :
    Calls Try.prog 11 #[.slice a 0 c1, .slice b 0 c2] w fun e w' => e = .returned (.bool true) ∧ w' = w := by
  go_enter Try.func11, Try.ntmps11
  go_wp2
  refine wp_loop_rounds 1 ?_
  rw [rounds_succ]
  go_wp2
  go_ret
  exact ⟨rfl, rfl⟩

theorem u8_int {x y : UInt8} : ((x.toNat : Int) = (y.toNat : Int)) ↔ x = y := by
  constructor
  · intro h; apply UInt8.toNat_inj.1; omega
  · intro h; rw [h]

set_option maxHeartbeats 1000000 in
theorem sameBytes_some {w : World} {x y : Addr} {n c1 c2 : Nat} {l1 l2 : List UInt8} (h1 : Bytes w (some x) n l1) (h2 : Bytes w (some y) n l2) (hl : n ≤ 140737488355328) (hc1 : n ≤ c1) (hc2 : n ≤ c2) :
    Calls Try.prog 11 #[.slice (some x) n c1, .slice (some y) n c2] w fun e w' => e = .returned (.bool (decide (l1 = l2))) ∧ ∃ nq, w' = w.drewN nq := by
  have H1 := hide h1
  have H2 := hide h2
  clear h1 h2
  go_enter Try.func11, Try.ntmps11
  go_wp2
  go_loopw [5] (fun i wr => ∃ k nq : Nat, k ≤ n ∧ i = .int .i64 k ∧ wr = w.drewN nq ∧ l1.take k = l2.take k) (fun i _ => n - (intOf i).toNat)
  case atStart => exact ⟨0, 0, Nat.zero_le _, rfl, rfl, rfl⟩
  case round =>
    obtain ⟨k, nr, hk, rfl, rfl, htk⟩ := hrel
    by_cases hlt : k < n
    · have k1 : w.cell? (x.add k) = some (.int .u8 ((l1.getD k 0).toNat : Int)) := (unhide H1).cell x rfl k hlt
      have k2 : w.cell? (y.add k) = some (.int .u8 ((l2.getD k 0).toNat : Int)) := (unhide H2).cell y rfl k hlt
      have e1 := (unhide H1).len
      have e2 := (unhide H2).len
      by_cases he : l1.getD k 0 = l2.getD k 0
      · have HT : Hid (l1.take (k + 1) = l2.take (k + 1)) := by
          show l1.take (k + 1) = l2.take (k + 1)
          have a1 : l1[k]? = some (l1.getD k 0) := by simp [List.getD, show k < l1.length by omega]
          have a2 : l2[k]? = some (l2.getD k 0) := by simp [List.getD, show k < l2.length by omega]
          rw [List.take_add_one, List.take_add_one, htk, a1, a2, he]
        rw [he] at k1
        clear htk e1 e2 he
        go_wp2
        go_quiet (fail)
        go_wp2
        go_roundw
        case rel => exact ⟨k + 1, nr + nq, by omega, by go_num, rfl, unhide HT⟩
        case measure => simp [intOf]; omega
      · have HT : Hid (decide (l1 = l2) = false) := by
          show decide (l1 = l2) = false
          rw [decide_eq_false_iff_not]
          intro e; rw [e] at he; exact he rfl
        have hq : (((l1.getD k 0).toNat : Int) != ((l2.getD k 0).toNat : Int)) = true := by
          simp only [bne_iff_ne, ne_eq]; exact fun e => he (u8_int.1 e)
        clear htk e1 e2 he
        obtain ⟨p, hp⟩ : ∃ p : Int, p = ((l1.getD k 0).toNat : Int) := ⟨_, rfl⟩
        obtain ⟨q, hp2⟩ : ∃ q : Int, q = ((l2.getD k 0).toNat : Int) := ⟨_, rfl⟩
        rw [← hp] at hq k1
        rw [← hp2] at hq k2
        clear hp hp2
        go_wp2
        go_quiet (fail)
        go_wp2
        go_ret
        exact ⟨ret_bool (unhide HT).symm, nr + nq, World.drewN_drewN ..⟩
    · have hkn : k = n := by omega
      subst hkn
      have HT : Hid (decide (l1 = l2) = true) := by
        show decide (l1 = l2) = true
        have e1 := (unhide H1).len
        have e2 := (unhide H2).len
        rw [List.take_of_length_le (by omega), List.take_of_length_le (by omega)] at htk
        simpa using htk
      clear htk
      go_wp2
      go_ret
      exact ⟨ret_bool (unhide HT).symm, _, rfl⟩

theorem sameBytes_any {w : World} {a b : Option Addr} {n m c1 c2 : Nat} {l1 l2 : List UInt8} (h1 : Bytes w a n l1) (h2 : Bytes w b m l2) (hl : n ≤ 140737488355328) (hc1 : n ≤ c1) (hc2 : m ≤ c2) :
    Calls Try.prog 11 #[.slice a n c1, .slice b m c2] w fun e w' => e = .returned (.bool (decide (l1 = l2))) ∧ ∃ nq, w' = w.drewN nq := by
  have e1 := h1.len
  have e2 := h2.len
  by_cases hnm : n = m
  · subst hnm
    by_cases h0 : n = 0
    · subst h0
      have : decide (l1 = l2) = true := by
        have a1 : l1 = [] := List.length_eq_zero_iff.1 e1.symm
        have a2 : l2 = [] := List.length_eq_zero_iff.1 e2.symm
        rw [a1, a2]; simp
      rw [this]
      exact sameBytes_nil.mono (fun e w' ⟨p, q⟩ => ⟨p, 0, q⟩)
    · cases a with
      | none => exact absurd (h1.nil rfl) h0
      | some x =>
        cases b with
        | none => exact absurd (h2.nil rfl) h0
        | some y => exact sameBytes_some h1 h2 hl hc1 hc2
  · have : decide (l1 = l2) = false := by
      rw [decide_eq_false_iff_not]; intro e; rw [e] at e1; omega
    rw [this]
    exact (sameBytes_len hnm).mono (fun e w' ⟨p, q⟩ => ⟨p, 0, q⟩)

end Go.Proofs.Ytmbcjdlpdibalaa
