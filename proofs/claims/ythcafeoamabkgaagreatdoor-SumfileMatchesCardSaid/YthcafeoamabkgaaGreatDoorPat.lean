/-
  Patterns are read as the plain function says.
-/
import Derived.Test.YthcafeoamabkgaaGreatDoorMatch
import Derived.Test.YthcafeoamabkgaaGreatDoorLineP
namespace Go.Proofs.YthcafeoamabkgaaGreatDoor
open Go.RowKit

def okB (c : UInt8) : Bool := decide (33 ≤ c.toNat) && decide (c.toNat ≤ 126)
def patB (p : Str) : Bool := p.all okB && !(pieces 47 p).contains []
/-- The patterns of a text, and the error. -/
def patsR (s : Str) : List Str × Int :=
  if s = [] then ([], 0) else if 1000 < s.length then ([], 13) else if (pieces 44 s).all patB = false then ([], 15) else if 20 < (pieces 44 s).length then ([], 14) else (pieces 44 s, 0)

theorem ok_yes {c : UInt8} (h : okB c = true) : ¬ (c.toNat : Int) ≤ 32 ∧ ¬ (126 : Int) < (c.toNat : Int) := by
  simp [okB] at h
  omega
theorem ok_no {c : UInt8} (h : okB c = false) : (c.toNat : Int) ≤ 32 ∨ (¬ (c.toNat : Int) ≤ 32 ∧ (126 : Int) < (c.toNat : Int)) := by
  simp [okB] at h
  omega
theorem all_next {p : UInt8 → Bool} {l : Str} {k : Nat} (hk : k < l.length) (h : (l.take k).all p = true) (hp : p l[k] = true) : (l.take (k + 1)).all p = true := by
  rw [List.take_add_one, List.all_append, h, List.getElem?_eq_getElem hk]
  simp [hp]
theorem allC_no {p : UInt8 → Bool} {l : Str} {k : Nat} (hk : k < l.length) (hp : p l[k] = false) : l.all p = false := by
  rw [List.all_eq_false]
  exact ⟨l[k], List.getElem_mem hk, by rw [hp]; decide⟩

set_option maxHeartbeats 1000000 in
theorem validPattern_any {l : Str} (hl : l.length < 4294967281) {w : World} (hg : Gd w) : Calls Tryz.prog 120 #[.string (ba l)] w fun e w' => e = .returned (.bool (patB l)) ∧ Below w.heap.size w w' := by
  have hsz := ba_size l
  have HG := hide hg
  clear hg
  go_enter Tryz.func120, Tryz.ntmps120
  go_wp2
  go_loop [3, 6] (fun _ v6 => ∃ k : Nat, k ≤ l.length ∧ v6 = .int .i64 k ∧ (l.take k).all okB = true) (fun _ v6 => l.length - (intOf v6).toNat)
  case atStart => exact ⟨0, Nat.zero_le _, rfl, rfl⟩
  case round =>
    obtain ⟨k, hk, rfl, hall⟩ := hrel
    have HA := hide hall
    clear hall
    by_cases hlt : k < l.length
    · have gx : (ba l)[k]'(by omega) = l[k] := ba_get l k hlt
      obtain ⟨d, hd⟩ : ∃ d, l[k] = d := ⟨_, rfl⟩
      rw [hd] at gx
      cases ho : okB d with
      | true =>
        obtain ⟨e1, e2⟩ := ok_yes ho
        have HN := hide (all_next hlt (unhide HA) (by rw [hd]; exact ho))
        clear ho hd
        go_wp2
        go_round
        case rel => exact ⟨k + 1, hlt, by simp, unhide HN⟩
        case measure => simp [intOf]; omega
      | false =>
        have HN : Hid (patB l = false) := hide (by unfold patB; rw [allC_no (p := okB) hlt (by rw [hd]; exact ho)]; rfl)
        rcases ok_no ho with e1 | ⟨e1, e2⟩
        · clear ho hd
          go_wp2
          go_ret
          exact ⟨ret_bool (unhide HN).symm, Below.refl _ _⟩
        · clear ho hd
          go_wp2
          go_ret
          exact ⟨ret_bool (unhide HN).symm, Below.refl _ _⟩
    · have hke : l.take k = l := List.take_of_length_le (by omega)
      rw [hke] at HA
      have HS := hide (split_any 47 hl (unhide HG))
      have HP : Hid (patB l = !(pieces 47 l).contains []) := hide (by unfold patB; rw [unhide HA]; rfl)
      clear hke
      go_wp2_with (go_at_call 76; fail)
      refine (unhide HS).mono ?_
      rintro e w1 ⟨B, rfl, ht, hB, b1⟩
      have HC := hide (contains_is (c := (pieces 47 l).length) ht rfl (by have h1 := pieces_length 47 l; have h2 := Lib.count_le l [47]; omega))
      have HB := hide b1.low
      clear ht hB b1
      go_wp2_with (go_at_call 142; fail)
      refine (unhide HC).mono ?_
      rintro e w2 ⟨rfl, hw⟩
      rw [hw]; clear hw w2
      obtain ⟨r, hr⟩ : ∃ r, (pieces 47 l).contains [] = r := ⟨_, rfl⟩
      rw [hr] at HP ⊢
      clear hr HC
      go_wp2
      go_ret
      exact ⟨ret_bool (unhide HP).symm, unhide HB⟩

theorem allT_next {p : Str → Bool} {l : List Str} {k : Nat} (hk : k < l.length) (h : (l.take k).all p = true) (hp : p l[k] = true) : (l.take (k + 1)).all p = true := by
  rw [List.take_add_one, List.all_append, h, List.getElem?_eq_getElem hk]
  simp [hp]
theorem allT_no {p : Str → Bool} {l : List Str} {k : Nat} (hk : k < l.length) (hp : p l[k] = false) : l.all p = false := by
  rw [List.all_eq_false]
  exact ⟨l[k], List.getElem_mem hk, by rw [hp]; decide⟩

set_option maxHeartbeats 1000000 in
theorem allValid_any {ts : List Str} {B n c : Nat} {w : World} (hg : Gd w) (ht : Texts w B ts) (hB : B < w.heap.size) (hn : ts.length = n) (hN : n ≤ 1099511627776) (hl : ∀ x ∈ ts, x.length < 4294967281) :
    Calls Tryz.prog 77 #[.slice (some ⟨B, 0, none⟩) n c] w fun e w' => e = .returned (.bool (ts.all patB)) ∧ Below w.heap.size w w' := by
  have HG := hide hg
  have HT := hide ht
  have HN := hide hn
  have HL := hide hl
  clear hg ht hn hl
  go_enter Tryz.func77, Tryz.ntmps77
  go_wp2
  go_loopw [4, 7] (fun _ v7 wr => ∃ k : Nat, k ≤ n ∧ v7 = .int .i64 k ∧ (ts.take k).all patB = true ∧ Below w.heap.size w wr) (fun _ v7 _ => n - (intOf v7).toNat)
  case atStart => exact ⟨0, Nat.zero_le _, rfl, by simp, Below.refl _ _⟩
  case round =>
    obtain ⟨k, hk, rfl, hall, hlow⟩ := hrel
    rename World => wr
    have HA := hide hall
    have HW := hide hlow
    clear hall hlow
    by_cases hlt : k < n
    · have hkt : k < ts.length := by rw [unhide HN]; exact hlt
      have t0 := ((unhide HT).low hB (unhide HW)) k hkt
      obtain ⟨x, hx⟩ : ∃ x, ts[k] = x := ⟨_, rfl⟩
      rw [hx] at t0
      have HC := hide (validPattern_any (l := x) ((unhide HL) x (by rw [← hx]; exact List.getElem_mem _)) ((unhide HG).low (unhide HW)))
      cases hpx : patB x with
      | true =>
        rw [hpx] at HC
        have HV := hide (allT_next hkt (unhide HA) (by rw [hx]; exact hpx))
        clear hpx hx
        go_wp2_with (go_at_call 120; fail)
        refine (unhide HC).mono ?_
        rintro e w1 ⟨rfl, b1⟩
        have HB := hide (low_trans (unhide HW) b1)
        clear b1
        go_wp2
        go_roundw
        case rel => exact ⟨k + 1, hlt, by simp, unhide HV, unhide HB⟩
        case measure => simp [intOf]; omega
      | false =>
        rw [hpx] at HC
        have HV := hide (allT_no (p := patB) hkt (by rw [hx]; exact hpx))
        clear hpx hx
        go_wp2_with (go_at_call 120; fail)
        refine (unhide HC).mono ?_
        rintro e w1 ⟨rfl, b1⟩
        have HB := hide (low_trans (unhide HW) b1)
        clear b1
        go_wp2
        go_ret
        exact ⟨ret_bool (unhide HV).symm, unhide HB⟩
    · have hkn : ts.take k = ts := List.take_of_length_le (by rw [unhide HN]; omega)
      rw [hkn] at HA
      clear hkn
      go_wp2
      go_ret
      exact ⟨ret_bool (unhide HA).symm, unhide HW⟩

/-- What Patterns answers. -/
def PatsSaid (w : World) (R : List Str × Int) (e : Ending) (w' : World) : Prop :=
  ∃ a c, e = .returned (.tuple #[.slice a R.1.length c, .int .i64 R.2]) ∧ Row w' a R.1 ∧ Below w.heap.size w w'

theorem row_none (w : World) (a : Option Addr) : Row w a [] := ⟨Or.inl rfl⟩
theorem row_texts {w : World} {B : Nat} {ts : List Str} (h : Texts w B ts) : Row w (some ⟨B, 0, none⟩) ts := ⟨Or.inr ⟨B, 0, rfl, fun k hk => by rw [Nat.zero_add]; exact h k hk⟩⟩

set_option maxHeartbeats 1000000 in
theorem patterns_any {s : Str} {w : World} (hg : Gd w) : Calls Tryz.prog 36 #[.string (ba s)] w (PatsSaid w (patsR s)) := by
  have hsz := ba_size s
  have HG := hide hg
  clear hg
  by_cases h0 : s = []
  · have e : patsR s = ([], 0) := by unfold patsR; rw [if_pos h0]
    rw [e]
    have hem : (ba s).toList.isEmpty = true := by rw [h0, ba_list]; rfl
    clear h0 e
    go_enter Tryz.func36, Tryz.ntmps36
    go_wp2
    go_ret2
    exact ⟨none, 0, rfl, row_none _ _, Below.refl _ _⟩
  · have hem : (ba s).toList.isEmpty = false := by rw [ba_list]; simp [h0]
    by_cases h1 : 1000 < s.length
    · have e : patsR s = ([], 13) := by unfold patsR; rw [if_neg h0, if_pos h1]
      rw [e]
      have q1 : (1000 : Int) < (s.length : Int) := by omega
      clear h0 e
      go_enter Tryz.func36, Tryz.ntmps36
      go_wp2
      go_ret2
      exact ⟨none, 0, rfl, row_none _ _, Below.refl _ _⟩
    · have q1 : ¬ (1000 : Int) < (s.length : Int) := by omega
      have HS := hide (split_any 44 (l := s) (by omega) (unhide HG))
      have hpc : (pieces 44 s).length ≤ 1002 := by
        have h1 := pieces_length 44 s
        have h2 := Lib.count_le s [44]
        omega
      have HPS := hide (pieces_small 44 s)
      cases hv : (pieces 44 s).all patB with
      | false =>
        have e : patsR s = ([], 15) := by unfold patsR; rw [if_neg h0, if_neg h1, if_pos hv]
        rw [e]
        have HV := hide hv
        clear h0 e hv
        go_enter Tryz.func36, Tryz.ntmps36
        go_wp2_with (go_at_call 76; fail)
        refine (unhide HS).mono ?_
        rintro e w1 ⟨B, rfl, ht, hB, b1⟩
        have HC := hide (allValid_any (c := (pieces 44 s).length) ((unhide HG).low b1.low) ht hB.1 rfl (by omega) (fun x hx => by have := (unhide HPS) x hx; omega))
        rw [unhide HV] at HC
        have HB := hide b1.low
        clear ht hB b1
        go_wp2_with (go_at_call 77; fail)
        refine (unhide HC).mono ?_
        rintro e w2 ⟨rfl, b2⟩
        have HB2 := hide (low_trans (unhide HB) b2)
        clear b2
        go_wp2
        go_ret2
        exact ⟨none, 0, rfl, row_none _ _, unhide HB2⟩
      | true =>
        have hv' : ¬ (pieces 44 s).all patB = false := by rw [hv]; decide
        have HV := hide hv
        by_cases h20 : 20 < (pieces 44 s).length
        · have e : patsR s = ([], 14) := by unfold patsR; rw [if_neg h0, if_neg h1, if_neg hv', if_pos h20]
          rw [e]
          have q2 : (20 : Int) < ((pieces 44 s).length : Int) := by omega
          clear h0 e hv hv'
          go_enter Tryz.func36, Tryz.ntmps36
          go_wp2_with (go_at_call 76; fail)
          refine (unhide HS).mono ?_
          rintro e w1 ⟨B, rfl, ht, hB, b1⟩
          have HC := hide (allValid_any (c := (pieces 44 s).length) ((unhide HG).low b1.low) ht hB.1 rfl (by omega) (fun x hx => by have := (unhide HPS) x hx; omega))
          rw [unhide HV] at HC
          have HB := hide b1.low
          clear ht hB b1
          go_wp2_with (go_at_call 77; fail)
          refine (unhide HC).mono ?_
          rintro e w2 ⟨rfl, b2⟩
          have HB2 := hide (low_trans (unhide HB) b2)
          clear b2
          go_wp2
          go_ret2
          exact ⟨none, 0, rfl, row_none _ _, unhide HB2⟩
        · have e : patsR s = (pieces 44 s, 0) := by unfold patsR; rw [if_neg h0, if_neg h1, if_neg hv', if_neg h20]
          rw [e]
          have q2 : ¬ (20 : Int) < ((pieces 44 s).length : Int) := by omega
          clear h0 e hv hv'
          go_enter Tryz.func36, Tryz.ntmps36
          go_wp2_with (go_at_call 76; fail)
          refine (unhide HS).mono ?_
          rintro e w1 ⟨B, rfl, ht, hB, b1⟩
          have HC := hide (allValid_any (c := (pieces 44 s).length) ((unhide HG).low b1.low) ht hB.1 rfl (by omega) (fun x hx => by have := (unhide HPS) x hx; omega))
          rw [unhide HV] at HC
          have HT := hide ht
          have HBB := hide hB.1
          have HB := hide b1.low
          clear ht hB b1
          go_wp2_with (go_at_call 77; fail)
          refine (unhide HC).mono ?_
          rintro e w2 ⟨rfl, b2⟩
          have HR := hide (row_texts ((unhide HT).low (unhide HBB) b2))
          have HB2 := hide (low_trans (unhide HB) b2)
          clear b2
          go_wp2
          go_ret2
          exact ⟨_, _, rfl, unhide HR, unhide HB2⟩

end Go.Proofs.YthcafeoamabkgaaGreatDoor
