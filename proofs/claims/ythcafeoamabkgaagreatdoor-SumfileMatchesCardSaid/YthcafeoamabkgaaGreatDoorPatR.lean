/-
  The reference's Patterns: the same plain function.
-/
import Derived.Test.YthcafeoamabkgaaGreatDoorPat
import Derived.Test.YthcafeoamabkgaaGreatDoorCutR
namespace Go.Proofs.YthcafeoamabkgaaGreatDoor
open Go.RowKit

def elB (e : Str) : Bool := !e.isEmpty && e.all okB
theorem all_glue {q : UInt8 → Bool} {c : UInt8} (hq : q c = true) : ∀ xs : List Str, (glue c xs).all q = xs.all (fun x => x.all q)
  | [] => rfl
  | [p] => by simp [glue]
  | p :: r :: ps => by
    have ih := all_glue hq (r :: ps)
    simp only [glue, List.all_append, List.all_cons, hq, Bool.true_and] at ih ⊢
    rw [ih]
theorem all_elB (xs : List Str) : xs.all elB = (xs.all (fun x => x.all okB) && !xs.contains []) := by
  induction xs with
  | nil => rfl
  | cons x xs ih =>
    simp only [List.all_cons, ih, elB, List.contains_cons]
    cases x with
    | nil => simp
    | cons a x =>
      have h : (([] : Str) == a :: x) = false := rfl
      rw [h]
      simp [Bool.and_assoc]
theorem patB_els (p : Str) : patB p = (pieces 47 p).all elB := by
  rw [all_elB, ← all_glue (q := okB) (c := 47) (by decide), glue_pieces]
  rfl
theorem ok_yes' {c : UInt8} (h : okB c = true) : ¬ (c.toNat : Int) < 33 ∧ ¬ (126 : Int) < (c.toNat : Int) := by
  simp [okB] at h
  omega
theorem ok_no' {c : UInt8} (h : okB c = false) : (c.toNat : Int) < 33 ∨ (¬ (c.toNat : Int) < 33 ∧ (126 : Int) < (c.toNat : Int)) := by
  simp [okB] at h
  omega

set_option maxRecDepth 100000 in
set_option maxHeartbeats 4000000 in
theorem refPatterns_any {s : Str} (w : World) : Calls Tryz.prog 37 #[.string (ba s)] w (PatsSaid w (patsR s)) := by
  have hsz := ba_size s
  by_cases h1 : 1000 < s.length
  · have h0 : ¬ s = [] := fun e => by rw [e] at h1; simp at h1
    have e : patsR s = ([], 13) := by unfold patsR; rw [if_neg h0, if_pos h1]
    rw [e]
    have q1 : (1000 : Int) < (s.length : Int) := by omega
    clear h0 e
    go_enter Tryz.func37, Tryz.ntmps37
    go_wp2
    go_ret2
    exact ⟨none, 0, rfl, row_none _ _, Below.refl _ _⟩
  · have q1 : ¬ (1000 : Int) < (s.length : Int) := by omega
    by_cases h0 : s = []
    · have e : patsR s = ([], 0) := by unfold patsR; rw [if_pos h0]
      rw [e]
      have hem : (ba s).toList.isEmpty = true := by rw [h0, ba_list]; rfl
      clear h0 e
      go_enter Tryz.func37, Tryz.ntmps37
      go_wp2
      go_ret2
      exact ⟨none, 0, rfl, row_none _ _, Below.refl _ _⟩
    · have hem : (ba s).toList.isEmpty = false := by rw [ba_list]; simp [h0]
      have HS := hide (refCut_any 44 (l := s) (by omega) w)
      have hpc : (pieces 44 s).length ≤ 1002 := by
        have h1 := pieces_length 44 s
        have h2 := Lib.count_le s [44]
        omega
      have HPS := hide (pieces_small 44 s)
      have HR : Hid (patsR s = if (pieces 44 s).all patB = false then ([], 15) else if 20 < (pieces 44 s).length then ([], 14) else (pieces 44 s, 0)) := hide (by unfold patsR; rw [if_neg h0, if_neg h1])
      obtain ⟨R, hR⟩ : ∃ R, patsR s = R := ⟨_, rfl⟩
      rw [hR] at HR ⊢
      obtain ⟨ls, hls⟩ : ∃ ls, pieces 44 s = ls := ⟨_, rfl⟩
      rw [hls] at HR HPS HS hpc
      obtain ⟨n, hn⟩ : ∃ n, ls.length = n := ⟨_, rfl⟩
      rw [hn] at HR HS hpc
      have HN := hide hn
      clear h0 hR hls hn
      go_enter Tryz.func37, Tryz.ntmps37
      go_wp2_with (go_at_call 44; fail)
      refine (unhide HS).mono ?_
      rintro e w1 ⟨B, cp, rfl, ht, hB, b1⟩
      have HT := hide ht
      have HBB := hide hB.1
      have HB := hide b1
      clear ht hB b1
      go_wp2
      go_loopw [5, 6, 7, 8] (fun v5 _ _ _ wr => ∃ i : Nat, i ≤ n ∧ v5 = .int .i64 i ∧ (ls.take i).all patB = true ∧ Below w1.heap.size w1 wr) (fun v5 _ _ _ _ => n - (intOf v5).toNat)
      case atStart => exact ⟨0, Nat.zero_le _, rfl, by simp, Below.refl _ _⟩
      case round =>
        obtain ⟨i, hi, rfl, hall, hlow⟩ := hrel
        rename World => wr
        have HA := hide hall
        have HW := hide hlow
        clear hall hlow
        by_cases hlt : i < n
        · have hit : i < ls.length := by rw [unhide HN]; exact hlt
          have t0 := ((unhide HT).low (unhide HBB) (unhide HW)) i hit
          obtain ⟨x, hx⟩ : ∃ x, ls[i] = x := ⟨_, rfl⟩
          rw [hx] at t0
          have hxl : x.length ≤ s.length := (unhide HPS) x (by rw [← hx]; exact List.getElem_mem _)
          have HC := hide (refCut_any 47 (l := x) (by omega) wr)
          have hmc : (pieces 47 x).length ≤ 1002 := by
            have h1 := pieces_length 47 x
            have h2 := Lib.count_le x [47]
            omega
          have HES := hide (pieces_small 47 x)
          have HYES : Hid ((pieces 47 x).all elB = true → (ls.take (i + 1)).all patB = true) := hide (fun h => allT_next hit (unhide HA) (by rw [hx, patB_els]; exact h))
          have HNO : Hid ((pieces 47 x).all elB = false → ls.all patB = false) := hide (fun h => allT_no (p := patB) hit (by rw [hx, patB_els]; exact h))
          obtain ⟨es, hes⟩ : ∃ es, pieces 47 x = es := ⟨_, rfl⟩
          rw [hes] at HC HES HYES HNO hmc
          obtain ⟨m, hm⟩ : ∃ m, es.length = m := ⟨_, rfl⟩
          rw [hm] at HC hmc
          have HM := hide hm
          clear hx hes hm
          go_wp2_with (go_at_call 44; fail)
          refine (unhide HC).mono ?_
          rintro e w2 ⟨E, ce, rfl, hte, hE, b2⟩
          have HTE := hide hte
          have HB2 := hide (low_trans (unhide HW) b2)
          clear hte hE b2 t0
          go_wp2
          go_loop [7, 8] (fun v7 _ => ∃ k : Nat, k ≤ m ∧ v7 = .int .i64 k ∧ (es.take k).all elB = true) (fun v7 _ => m - (intOf v7).toNat)
          case atStart => exact ⟨0, Nat.zero_le _, rfl, by simp⟩
          case round =>
            obtain ⟨k, hk, rfl, hall⟩ := hrel
            have HA2 := hide hall
            clear hall
            by_cases hklt : k < m
            · have hkt : k < es.length := by rw [unhide HM]; exact hklt
              have t1 := (unhide HTE) k hkt
              obtain ⟨y, hy⟩ : ∃ y, es[k] = y := ⟨_, rfl⟩
              rw [hy] at t1
              have hyl : y.length ≤ x.length := (unhide HES) y (by rw [← hy]; exact List.getElem_mem _)
              have sy := ba_size y
              have HY : Hid (elB y = true → (es.take (k + 1)).all elB = true) := hide (fun h => allT_next hkt (unhide HA2) (by rw [hy]; exact h))
              have HZ : Hid (elB y = false → R = ([], 15)) := hide (fun h => by
                have h2 := (unhide HNO) (allT_no (p := elB) hkt (by rw [hy]; exact h))
                rw [unhide HR, if_pos h2])
              clear hy
              by_cases hy0 : y = []
              · have hem2 : (ba y).toList.isEmpty = true := by rw [hy0, ba_list]; rfl
                have HZ := hide ((unhide HZ) (by rw [hy0]; rfl))
                clear hy0
                go_wp2
                go_ret2
                rw [unhide HZ]
                exact ⟨none, 0, rfl, row_none _ _, low_trans (unhide HB) (unhide HB2)⟩
              · have hem2 : (ba y).toList.isEmpty = false := by rw [ba_list]; simp [hy0]
                have HY0 := hide hy0
                clear hy0
                go_wp2
                go_loop [8] (fun v8 => ∃ j : Nat, j ≤ y.length ∧ v8 = .int .i64 j ∧ (y.take j).all okB = true) (fun v8 => y.length - (intOf v8).toNat)
                case atStart => exact ⟨0, Nat.zero_le _, rfl, rfl⟩
                case round =>
                  obtain ⟨j, hj, rfl, hall⟩ := hrel
                  have HA3 := hide hall
                  clear hall
                  by_cases hjl : j < y.length
                  · have gx : (ba y)[j]'(by omega) = y[j] := ba_get y j hjl
                    obtain ⟨d, hd⟩ : ∃ d, y[j] = d := ⟨_, rfl⟩
                    rw [hd] at gx
                    cases ho : okB d with
                    | true =>
                      obtain ⟨e1, e2⟩ := ok_yes' ho
                      have HN3 := hide (all_next hjl (unhide HA3) (by rw [hd]; exact ho))
                      clear ho hd
                      go_wp2
                      go_round
                      case rel => exact ⟨j + 1, hjl, by simp, unhide HN3⟩
                      case measure => simp [intOf]; omega
                    | false =>
                      have HZ := hide ((unhide HZ) (by unfold elB; rw [allC_no (p := okB) hjl (by rw [hd]; exact ho)]; simp))
                      rcases ok_no' ho with e1 | ⟨e1, e2⟩
                      · clear ho hd
                        go_wp2
                        go_ret2
                        rw [unhide HZ]
                        exact ⟨none, 0, rfl, row_none _ _, low_trans (unhide HB) (unhide HB2)⟩
                      · clear ho hd
                        go_wp2
                        go_ret2
                        rw [unhide HZ]
                        exact ⟨none, 0, rfl, row_none _ _, low_trans (unhide HB) (unhide HB2)⟩
                  · have hje : y.take j = y := List.take_of_length_le (by omega)
                    have HY := hide ((unhide HY) (by unfold elB; rw [hje] at HA3; rw [unhide HA3]; simp [unhide HY0]))
                    clear hje
                    go_wp2
                    go_round
                    case rel => exact ⟨k + 1, hklt, by simp, unhide HY⟩
                    case measure => simp [intOf]; omega
            · have hke : es.take k = es := List.take_of_length_le (by rw [unhide HM]; omega)
              rw [hke] at HA2
              have HYES := hide ((unhide HYES) (unhide HA2))
              clear hke
              go_wp2
              go_roundw
              case rel => exact ⟨i + 1, hlt, by simp, unhide HYES, unhide HB2⟩
              case measure => simp [intOf]; omega
        · have hkn : ls.take i = ls := List.take_of_length_le (by rw [unhide HN]; omega)
          rw [hkn] at HA
          clear hkn
          have HR2 : Hid (R = if 20 < n then ([], 14) else (ls, 0)) := hide (by rw [unhide HR, if_neg (by rw [unhide HA]; decide)])
          by_cases h20 : 20 < n
          · have q2 : (20 : Int) < (n : Int) := by omega
            have HR3 : Hid (R = ([], 14)) := hide (by rw [unhide HR2, if_pos h20])
            go_wp2
            go_ret2
            rw [unhide HR3]
            exact ⟨none, 0, rfl, row_none _ _, low_trans (unhide HB) (unhide HW)⟩
          · have q2 : ¬ (20 : Int) < (n : Int) := by omega
            have HR3 : Hid (R = (ls, 0)) := hide (by rw [unhide HR2, if_neg h20])
            go_wp2
            go_ret2
            rw [unhide HR3]
            refine ⟨some ⟨B, 0, none⟩, cp, ?_, row_texts ((unhide HT).low (unhide HBB) (unhide HW)), low_trans (unhide HB) (unhide HW)⟩
            rw [show ((ls, (0 : Int)) : List Str × Int).1.length = n from unhide HN]
            rfl

end Go.Proofs.YthcafeoamabkgaaGreatDoor
