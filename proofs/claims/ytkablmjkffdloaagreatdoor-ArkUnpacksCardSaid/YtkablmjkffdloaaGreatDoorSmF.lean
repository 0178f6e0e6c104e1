/-
  Whether files are the same, the law's look: any files.
-/
import Derived.Test.YtkablmjkffdloaaGreatDoorUnpE
namespace Go.Proofs.YtkablmjkffdloaaGreatDoor
open Go.RowKit

theorem FdAt.low {w w' : World} {a : Option Addr} {l : List Nd} (h : FdAt w a l) (hb : Below w.heap.size w w') : FdAt w' a l := by
  obtain ⟨ys, h1, h2, h3⟩ := h
  exact ⟨ys, h1, h2.low hb, h3.low hb⟩
theorem FdAt.get {w : World} {a : Option Addr} {l : List Nd} (h : FdAt w a l) {k : Nat} (hk : k < l.length) : ∃ B O fa fn fc, a = some ⟨B, O, none⟩ ∧ w.cell? ⟨B, O + k * 2, none⟩ = some (.string (ba l[k].1)) ∧ w.cell? ⟨B, O + k * 2 + 1, none⟩ = some (.slice fa fn fc) ∧ l[k].2.length = fn ∧ BAt w fa l[k].2 := by
  obtain ⟨ys, h1, h2, h3⟩ := h
  have hl : ys.length = l.length := by have := congrArg List.length h1; simpa using this
  have hky : k < ys.length := by omega
  obtain ⟨B, O, e, g0, g1⟩ := h2.get hky
  have hn : ys[k].nm = l[k].1 := by
    have h4 : (ys.map Fl.nm)[k]? = (l.map Prod.fst)[k]? := by rw [h1]
    simp [hky, hk] at h4
    exact h4
  obtain ⟨l1, t1⟩ := h3.one k hky (by rw [List.length_map]; exact hk)
  rw [List.getElem_map] at l1 t1
  exact ⟨B, O, ys[k].a, ys[k].n, ys[k].c, e, by rw [← hn]; exact g0, g1, l1, t1⟩

set_option maxRecDepth 100000 in
set_option maxHeartbeats 4000000 in
theorem sameFd_any {w : World} {a a2 : Option Addr} {n m c c2 : Nat} {l1 l2 : List Nd} (h1 : l1.length = n) (h2 : l2.length = m) (hn : n ≤ 1000000) (hm : m ≤ 1000000) (hs1 : ∀ p ∈ l1, p.2.length ≤ 1073741824) (hs2 : ∀ p ∈ l2, p.2.length ≤ 1073741824) (F1 : FdAt w a l1) (F2 : FdAt w a2 l2) :
    Calls Tryz.prog 21 #[.slice a n c, .slice a2 m c2] w fun e w' => e = .returned (.bool (decide (l1 = l2))) ∧ ∃ q, w' = w.drewN q := by
  obtain ⟨RES, hR⟩ : ∃ R, decide (l1 = l2) = R := ⟨_, rfl⟩
  rw [hR]
  have HR := hide hR
  have H1 := hide h1
  have H2 := hide h2
  have HF1 := hide F1
  have HF2 := hide F2
  have HS1 := hide hs1
  have HS2 := hide hs2
  clear hR h1 h2 F1 F2 hs1 hs2
  by_cases hnm : n = m
  · subst hnm
    go_enter Tryz.func21, Tryz.ntmps21
    go_wp2
    go_loopw [5] (fun v5 wr => ∃ k q : Nat, k ≤ n ∧ v5 = .int .i64 (k : Int) ∧ Hid (∀ j (_ : j < k) (h1 : j < l1.length) (h2 : j < l2.length), l1[j] = l2[j]) ∧ wr = w.drewN q) (fun v5 _ => n - (intOf v5).toNat)
    case atStart => exact ⟨0, 0, Nat.zero_le _, rfl, hide (fun j h => by omega), rfl⟩
    case round =>
      rename World => wr
      obtain ⟨k, q, hk, rfl, hsame, hwr⟩ := hrel
      have HWR := hide hwr
      by_cases hlt : k < n
      · have hk1 : k < l1.length := by rw [unhide H1]; exact hlt
        have hk2 : k < l2.length := by rw [unhide H2]; exact hlt
        have hlt' : (k : Int) < (n : Int) := by omega
        have hbw : Below w.heap.size w wr := by rw [hwr]; exact low_q _
        obtain ⟨B, O, fa, fn, fc, rfl, g0, g1, u1, t1⟩ := ((unhide HF1).low hbw).get hk1
        obtain ⟨B2, O2, fa2, fn2, fc2, rfl, k0, k1, u2, t2⟩ := ((unhide HF2).low hbw).get hk2
        have b1 := unhide HS1 _ (List.getElem_mem hk1)
        have b2 := unhide HS2 _ (List.getElem_mem hk2)
        have hnext : Hid (l1[k] = l2[k] → ∀ j (_ : j < k + 1) (h1 : j < l1.length) (h2 : j < l2.length), l1[j] = l2[j]) := hide (fun e j hj h1 h2 => by
          by_cases e2 : j = k
          · subst e2; exact e
          · exact unhide hsame j (by omega) h1 h2)
        have hfail : Hid (l1[k] ≠ l2[k] → RES = false) := hide (fun e => by
          rw [← unhide HR]
          refine decide_eq_false (fun e2 => e ?_)
          subst e2
          rfl)
        obtain ⟨x, hxx⟩ : ∃ x, l1[k] = x := ⟨_, rfl⟩
        obtain ⟨y, hyy⟩ : ∃ y, l2[k] = y := ⟨_, rfl⟩
        rw [hxx] at g0 u1 t1 b1 hnext hfail
        rw [hyy] at k0 u2 t2 b2 hnext hfail
        obtain ⟨xnm, xd⟩ := x
        obtain ⟨ynm, yd⟩ := y
        simp only at g0 u1 t1 b1 k0 u2 t2 b2
        obtain ⟨sb, hsb⟩ : ∃ sb, decide (xd = yd) = sb := ⟨_, rfl⟩
        have HC : Hid (∀ nq, Calls Tryz.prog 23 #[.slice fa fn fc, .slice fa2 fn2 fc2] (wr.drewN nq) fun e w' => e = .returned (.bool sb) ∧ ∃ m, w' = (wr.drewN nq).drewN m) := hide (fun nq => by
          have kk := sameBytes_any (w := wr.drewN nq) (c := fc) (c2 := fc2) u1 u2 (by omega) (by omega) (t1.low (low_q _)) (t2.low (low_q _))
          rw [hsb] at kk
          exact kk)
        clear hxx hyy u1 t1 b1 u2 t2 b2 hbw hwr hk1 hk2
        by_cases hne : xnm = ynm
        · subst hne
          have ss : ((ba xnm).toList != (ba xnm).toList) = false := by simp
          have ss2 : ((ba xnm).toList == (ba xnm).toList) = true := by simp
          cases sb with
          | true =>
            have HNX := hide (unhide hnext (by rw [of_decide_eq_true hsb]))
            clear hnext hfail hsb hsame
            go_wp2
            go_quiet ((go_at_call 23; exact Calls.quiet_of (unhide HC _)))
            go_wp2
            go_roundw
            case rel => exact ⟨k + 1, q + nq, hlt, by push_cast; rfl, HNX, by rw [unhide HWR, World.drewN_drewN]⟩
            case measure => simp [intOf]; omega
          | false =>
            have HNX := hide (unhide hfail (fun e => by
              have : xd = yd := congrArg Prod.snd e
              exact absurd this (of_decide_eq_false hsb)))
            clear hnext hfail hsb hsame
            go_wp2
            go_quiet ((go_at_call 23; exact Calls.quiet_of (unhide HC _)))
            go_wp2
            go_ret
            exact ⟨by rw [unhide HNX]; rfl, q + nq, by rw [unhide HWR, World.drewN_drewN]⟩
        · have ss2 : ((ba xnm).toList == (ba ynm).toList) = false := by
            rw [baL_list, baL_list]
            simpa using hne
          have ss : ((ba xnm).toList != (ba ynm).toList) = true := by
            rw [bne, ss2]; rfl
          have HNX := hide (unhide hfail (fun e => hne (congrArg Prod.fst e)))
          clear hnext hfail hsb hsame hne HC
          go_wp2
          go_quiet (fail)
          go_wp2
          go_ret
          exact ⟨by rw [unhide HNX]; rfl, q + nq, by rw [unhide HWR, World.drewN_drewN]⟩
      · have hkn : k = n := by omega
        subst hkn
        have HF : Hid (RES = true) := hide (by
          rw [← unhide HR]
          refine decide_eq_true (List.ext_getElem (by rw [unhide H1, unhide H2]) (fun j g1 g2 => unhide hsame j (by rw [unhide H1] at g1; exact g1) g1 g2))
          )
        clear hwr hsame
        go_wp2
        go_ret
        exact ⟨by rw [unhide HF]; rfl, q, unhide HWR⟩
  · have hne : ((n : Int) == (m : Int)) = false := by simp; omega
    have hne2 : ((n : Int) != (m : Int)) = true := by simp; omega
    have HF : Hid (RES = false) := hide (by
      rw [← unhide HR]
      refine decide_eq_false (fun e => hnm ?_)
      rw [← unhide H1, ← unhide H2, e])
    clear hnm
    go_enter Tryz.func21, Tryz.ntmps21
    go_wp2
    go_ret
    exact ⟨by rw [unhide HF]; rfl, 0, rfl⟩
end Go.Proofs.YtkablmjkffdloaaGreatDoor
