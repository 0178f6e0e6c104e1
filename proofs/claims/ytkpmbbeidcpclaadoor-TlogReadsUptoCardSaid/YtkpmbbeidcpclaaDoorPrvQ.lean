/-
  What both sides answer to one question for a proof.
-/
import Derived.Test.YtkpmbbeidcpclaaDoorRfsQ
import Derived.Test.YtkpmbbeidcpclaaDoorOver
import Derived.Test.YtkpmbbeidcpclaaDoorSpanQ
namespace Go.Proofs.YtkpmbbeidcpclaaDoor
open Go.RowKit

theorem overL_any {base : Nat} {w0 w : World} {v : Value} {ps : List Bs} (h : LvAt base w0 v ps) (h32 : All32 ps) (hb : ∀ k : Nat, base ≤ k → k < w0.heap.size → w.heap[k]? = w0.heap[k]?) (hN : ps.length ≤ 1000000) :
    Calls Tryd.prog 23 #[v] w fun e w' => e = .returned (.tuple #[]) ∧ Mid base w0.heap.size w w' := by
  obtain ⟨us, h1, h2⟩ := h
  rcases h1.2 with ⟨rfl, hn⟩ | ⟨g, cap, cur, rfl, hbg, hh, h3, _, h4, h5⟩
  · refine over_none.mono ?_
    rintro e w' ⟨rfl, rfl⟩
    exact ⟨rfl, Mid.refl _ _ _⟩
  · refine over_some (us := us) hN ⟨⟨cur, (hb g hbg (Array.getElem?_eq_some_iff.1 hh).1).trans hh, fun k hk => ?_⟩, fun k hk => ?_⟩
    · rw [← h5, List.getElem?_take, if_pos (by omega), Array.getElem?_toList]
    · obtain ⟨u, e, o⟩ := h2 k hk
      have h32k := h32 ps[k] (List.getElem_mem hk)
      rcases o.2 with ⟨_, hz⟩ | ⟨b, cap', cs, rfl, hb1, hh', g1, _, g3, _⟩
      · omega
      · rw [h32k] at e g1
        refine ⟨b, cap', cs, e, (hb b hb1 (Array.getElem?_eq_some_iff.1 hh').1).trans hh', by omega, hb1, (Array.getElem?_eq_some_iff.1 hh').1⟩

/-- A list whose blocks lie behind what was written over. -/
theorem LvAt.mid {base top B : Nat} {w w' : World} {v : Value} {ls : List Bs} (h : LvAt B w v ls) (hm : Mid base top w w') (hB : top ≤ B) : LvAt B w' v ls := by
  obtain ⟨us, h1, h2⟩ := h
  refine ⟨us, ⟨h1.1, ?_⟩, fun k hk => ?_⟩
  · rcases h1.2 with ⟨rfl, hn⟩ | ⟨g, cap, cur, rfl, hb, hh, r⟩
    · exact Or.inl ⟨rfl, hn⟩
    · exact Or.inr ⟨g, cap, cur, rfl, hb, (hm.block g (Or.inr (by omega))).trans hh, r⟩
  · obtain ⟨u, e, o⟩ := h2 k hk
    refine ⟨u, e, o.1, ?_⟩
    rcases o.2 with ⟨rfl, hn⟩ | ⟨g, cap, cur, rfl, hb, hh, r⟩
    · exact Or.inl ⟨rfl, hn⟩
    · exact Or.inr ⟨g, cap, cur, rfl, hb, (hm.block g (Or.inr (by omega))).trans hh, r⟩

theorem pathP_32 : ∀ (k i : Nat) (l : List Bs), All32 l → All32 (pathP k i l)
  | 0, _, _, _ => fun x hx => by cases hx
  | k + 1, i, l, h => by
    have ht : All32 (l.take (half l.length)) := fun x hx => h x (List.mem_of_mem_take hx)
    have hd : All32 (l.drop (half l.length)) := fun x hx => h x (List.mem_of_mem_drop hx)
    unfold pathP
    split
    · exact fun x hx => by cases hx
    · split
      · intro x hx
        rcases List.mem_append.1 hx with e | e
        · exact pathP_32 k i _ ht x e
        · simp at e; rw [e]; exact mth_len _ _ hd
      · intro x hx
        rcases List.mem_append.1 hx with e | e
        · exact pathP_32 k _ _ hd x e
        · simp at e; rw [e]; exact mth_len _ _ ht
theorem subP_32 : ∀ (k m : Nat) (l : List Bs) (wh : Bool), All32 l → All32 (subP k m l wh)
  | 0, _, _, _, _ => fun x hx => by cases hx
  | k + 1, m, l, wh, h => by
    have ht : All32 (l.take (half l.length)) := fun x hx => h x (List.mem_of_mem_take hx)
    have hd : All32 (l.drop (half l.length)) := fun x hx => h x (List.mem_of_mem_drop hx)
    unfold subP
    split
    · split
      · exact fun x hx => by cases hx
      · intro x hx
        simp at hx; rw [hx]; exact mth_len _ _ h
    · split
      · intro x hx
        rcases List.mem_append.1 hx with e | e
        · exact subP_32 k m _ wh ht x e
        · simp at e; rw [e]; exact mth_len _ _ hd
      · intro x hx
        rcases List.mem_append.1 hx with e | e
        · exact subP_32 k _ _ false hd x e
        · simp at e; rw [e]; exact mth_len _ _ ht

set_option maxRecDepth 100000 in
theorem refProve_in {w : World} {a : Option Addr} {n c i : Nat} {ls : List Bs} (hn : ls.length = n) (hN : n ≤ 1000) (hnc : n ≤ c) (hcm : c ≤ maxLen) (h32 : All32 ls) (hp : PAt w a ls) (hi : i < n) :
    Calls Tryd.prog 18 #[.int .i64 (i : Int), .slice a n c] w (ProofOk w.heap.size w (pathP 1000 i ls)) := by
  have H := hide (refPath_any 1000 hn (by omega) hN (by omega) hnc hcm h32 hp hi)
  have g1 : ¬ ((i : Int) < 0) := by omega
  have g2 : ¬ ((n : Int) ≤ (i : Int)) := by omega
  have g3 : decide (n ≤ i) = false := decide_eq_false (by omega)
  clear hn hnc hcm h32 hp hi
  go_enter Tryd.func18, Tryd.ntmps18
  go_wp2_with (go_at_call 53; fail)
  refine (unhide H).mono ?_
  rintro e w1 ⟨v, rfl, l1, b1⟩
  have HR : Hid (ProofOk w.heap.size w (pathP 1000 i ls) (.returned (.tuple #[v, .int .i64 0])) w1) := hide ⟨v, rfl, l1, b1⟩
  clear l1 b1
  go_wp2
  go_ret2
  exact unhide HR
theorem refProve_out {w : World} {a : Option Addr} {n c : Nat} {i : Int} (hi : i < 0 ∨ (n : Int) ≤ i) :
    Calls Tryd.prog 18 #[.int .i64 i, .slice a n c] w (OutR w) := by
  have HR : Hid (OutR w (.returned (.tuple #[.slice none 0 0, .int .i64 6])) w) := hide ⟨rfl, Below.refl _ _⟩
  by_cases c1 : i < 0
  · clear hi
    go_enter Tryd.func18, Tryd.ntmps18
    go_wp2
    go_ret2
    exact unhide HR
  · have c2 : (n : Int) ≤ i := by omega
    clear hi
    go_enter Tryd.func18, Tryd.ntmps18
    go_wp2
    go_ret2
    exact unhide HR

set_option maxRecDepth 100000 in
theorem refTree_in {w : World} {a : Option Addr} {n c m : Nat} {ls : List Bs} (hn : ls.length = n) (hN : n ≤ 1000) (hnc : n ≤ c) (hcm : c ≤ maxLen) (h32 : All32 ls) (hp : PAt w a ls) (hm : m ≤ n) :
    Calls Tryd.prog 19 #[.int .i64 (m : Int), .slice a n c] w (ProofOk w.heap.size w (if m = 0 then [] else subP 1000 m ls true)) := by
  have g1 : ¬ ((m : Int) < 0) := by omega
  have g2 : ¬ ((n : Int) < (m : Int)) := by omega
  have g3 : decide (n < m) = false := decide_eq_false (by omega)
  by_cases h0 : m = 0
  · subst h0
    have HR : Hid (ProofOk w.heap.size w (if 0 = 0 then [] else subP 1000 0 ls true) (.returned (.tuple #[.slice none 0 0, .int .i64 0])) w) := hide ⟨_, rfl, LvAt.nil _ _, Below.refl _ _⟩
    have g4 : ¬ ((n : Int) < 0) := by omega
    clear hn hnc hcm h32 hp g1 g2 g3
    go_enter Tryd.func19, Tryd.ntmps19
    go_wp2
    go_ret2
    exact unhide HR
  · rw [if_neg h0]
    have q0 : ((m : Int) == 0) = false := by simp; omega
    by_cases hmn : m = n
    · subst hmn
      have HR : Hid (ProofOk w.heap.size w (subP 1000 m ls true) (.returned (.tuple #[.slice none 0 0, .int .i64 0])) w) := hide ⟨_, rfl, by
        have e : subP 1000 m ls true = [] := by
          show (if m = ls.length then _ else _) = _
          rw [if_pos hn.symm]; rfl
        rw [e]; exact LvAt.nil _ _, Below.refl _ _⟩
      clear hn hnc hcm h32 hp
      go_enter Tryd.func19, Tryd.ntmps19
      go_wp2
      go_ret2
      exact unhide HR
    · have H := hide (refSub_any 1000 (wh := true) hn (by omega) hN (by omega) hnc hcm h32 hp (show 1 ≤ m by omega) hm)
      have q1 : ((m : Int) == (n : Int)) = false := by simp; omega
      clear hn hnc hcm h32 hp
      go_enter Tryd.func19, Tryd.ntmps19
      go_wp2_with (go_at_call 54; fail)
      refine (unhide H).mono ?_
      rintro e w1 ⟨v, rfl, l1, b1⟩
      have HR : Hid (ProofOk w.heap.size w (subP 1000 m ls true) (.returned (.tuple #[v, .int .i64 0])) w1) := hide ⟨v, rfl, l1, b1⟩
      clear l1 b1
      go_wp2
      go_ret2
      exact unhide HR
theorem refTree_out {w : World} {a : Option Addr} {n c : Nat} {m : Int} (hm : m < 0 ∨ (n : Int) < m) :
    Calls Tryd.prog 19 #[.int .i64 m, .slice a n c] w (OutR w) := by
  have HR : Hid (OutR w (.returned (.tuple #[.slice none 0 0, .int .i64 6])) w) := hide ⟨rfl, Below.refl _ _⟩
  by_cases c1 : m < 0
  · clear hm
    go_enter Tryd.func19, Tryd.ntmps19
    go_wp2
    go_ret2
    exact unhide HR
  · have c2 : (n : Int) < m := by omega
    clear hm
    go_enter Tryd.func19, Tryd.ntmps19
    go_wp2
    go_ret2
    exact unhide HR

end Go.Proofs.YtkpmbbeidcpclaaDoor

namespace Go.Proofs.YtkpmbbeidcpclaaDoor
open Go.RowKit

/-- A list and an error's number as an answer. -/
def PairOk (ps : List Bs) (E : Int) (np : Nat) (w : World) (e : Ending) (w' : World) : Prop := ∃ a c, e = .returned (.tuple #[.slice a np c, .int .i64 E]) ∧ LvAt w.heap.size w' (.slice a np c) ps ∧ Below w.heap.size w w'

theorem pair_of_proof {ps : List Bs} {np : Nat} {w w' : World} {e : Ending} (hn : ps.length = np) (h : ProofOk w.heap.size w ps e w') : PairOk ps 0 np w e w' := by
  obtain ⟨v, rfl, l, b⟩ := h
  obtain ⟨a, c, rfl, _, _⟩ := l.pat
  rw [hn] at l ⊢
  exact ⟨a, c, rfl, l, b⟩
theorem pair_of_out {w w' : World} {e : Ending} (h : OutR w e w') : PairOk [] 6 0 w e w' := by
  obtain ⟨rfl, b⟩ := h
  exact ⟨none, 0, rfl, LvAt.nil _ _, b⟩

theorem rec_in {i n : Int} (h : recB i n = true) : ∃ i' n' : Nat, i = i' ∧ n = n' ∧ 1 ≤ n' ∧ n' ≤ 1048576 ∧ i' < n' := by
  unfold recB sizeB at h
  simp only [Bool.and_eq_true, decide_eq_true_eq] at h
  obtain ⟨⟨⟨h1, h2⟩, h3⟩, h4⟩ := h
  exact ⟨i.toNat, n.toNat, by omega, by omega, by omega, by omega, by omega⟩
theorem part_in {m n : Int} (h : partB m n = true) : ∃ m' n' : Nat, m = m' ∧ n = n' ∧ n' ≤ 1048576 ∧ m' ≤ n' := by
  unfold partB sizeB at h
  simp only [Bool.and_eq_true, decide_eq_true_eq] at h
  obtain ⟨⟨⟨h1, h2⟩, h3⟩, h4⟩ := h
  exact ⟨m.toNat, n.toNat, by omega, by omega, by omega, by omega⟩
theorem rec_out {i : Int} {M : Nat} (h : recB i (M : Int) = false) (hM : M ≤ 1048576) : i < 0 ∨ (M : Int) ≤ i := by
  unfold recB at h
  rw [sizeB_nat hM, Bool.true_and, Bool.and_eq_false_iff] at h
  simp only [decide_eq_false_iff_not] at h
  omega
theorem part_out {i : Int} {M : Nat} (h : partB i (M : Int) = false) (hM : M ≤ 1048576) : i < 0 ∨ (M : Int) < i := by
  unfold partB at h
  rw [sizeB_nat hM, Bool.true_and, Bool.and_eq_false_iff] at h
  simp only [decide_eq_false_iff_not] at h
  omega

/-- Prove, in range of the log: what both answer. -/
theorem prove_both (i : Int) {N M : Nat} {ls : List Bs} (hM : M ≤ N) (hN : N ≤ 1000) (hls : ls.length = N) (h32 : All32 ls) :
    ∃ ps E np, ps.length = np ∧ np ≤ 1000 ∧ All32 ps ∧ (∀ wx F, Lg wx F N ls → Calls Tryd.prog 15 #[.pointer (some ⟨F, 0, none⟩), .int .i64 i, .int .i64 (M : Int)] wx (PairOk ps E np wx)) ∧
      (∀ wx a c, PAt wx a ls → M ≤ c → c ≤ maxLen → Calls Tryd.prog 18 #[.int .i64 i, .slice a M c] wx (PairOk ps E np wx)) := by
  have hl : (ls.take M).length = M := by rw [List.length_take]; omega
  have ht : All32 (ls.take M) := fun x hx => h32 x (List.mem_of_mem_take hx)
  cases hb : recB i (M : Int) with
  | true =>
    obtain ⟨i', M', rfl, hMM, h1, h2, h3⟩ := rec_in hb
    obtain rfl : M = M' := by omega
    exact ⟨pathP 1000 i' (ls.take M), 0, _, rfl, pathP_len _ _ _, pathP_32 _ _ _ ht, fun wx F hg => (logProve_in hg hM h3).mono fun e w' h => pair_of_proof rfl h,
      fun wx a c hp hc hcm => (refProve_in hl (by omega) hc hcm ht (hp.front M) h3).mono fun e w' h => pair_of_proof rfl h⟩
  | false =>
    exact ⟨[], 6, 0, rfl, by omega, (fun x hx => by cases hx), fun wx F hg => (logProve_out hg (Or.inr hb)).mono fun e w' h => pair_of_out h,
      fun wx a c _ _ _ => (refProve_out (rec_out hb (by omega))).mono fun e w' h => pair_of_out h⟩

/-- ProveTree, in range of the log: what both answer. -/
theorem tree_both (m : Int) {N M : Nat} {ls : List Bs} (hM : M ≤ N) (hN : N ≤ 1000) (hls : ls.length = N) (h32 : All32 ls) :
    ∃ ps E np, ps.length = np ∧ np ≤ 1000 ∧ All32 ps ∧ (∀ wx F, Lg wx F N ls → Calls Tryd.prog 16 #[.pointer (some ⟨F, 0, none⟩), .int .i64 m, .int .i64 (M : Int)] wx (PairOk ps E np wx)) ∧
      (∀ wx a c, PAt wx a ls → M ≤ c → c ≤ maxLen → Calls Tryd.prog 19 #[.int .i64 m, .slice a M c] wx (PairOk ps E np wx)) := by
  have hl : (ls.take M).length = M := by rw [List.length_take]; omega
  have ht : All32 (ls.take M) := fun x hx => h32 x (List.mem_of_mem_take hx)
  cases hb : partB m (M : Int) with
  | true =>
    obtain ⟨m', M', rfl, hMM, h2, h3⟩ := part_in hb
    obtain rfl : M = M' := by omega
    have hlen : (if m' = 0 then [] else subP 1000 m' (ls.take M) true).length ≤ 1000 := by
      split
      · exact Nat.zero_le _
      · exact subP_len _ _ _ _
    have h32' : All32 (if m' = 0 then [] else subP 1000 m' (ls.take M) true) := by
      split
      · exact fun x hx => by cases hx
      · exact subP_32 _ _ _ _ ht
    exact ⟨_, 0, _, rfl, hlen, h32', fun wx F hg => (logTree_in hg hM h3).mono fun e w' h => pair_of_proof rfl h,
      fun wx a c hp hc hcm => (refTree_in hl (by omega) hc hcm ht (hp.front M) h3).mono fun e w' h => pair_of_proof rfl h⟩
  | false =>
    exact ⟨[], 6, 0, rfl, by omega, (fun x hx => by cases hx), fun wx F hg => (logTree_out hg (Or.inr hb)).mono fun e w' h => pair_of_out h,
      fun wx a c _ _ _ => (refTree_out (part_out hb (by omega))).mono fun e w' h => pair_of_out h⟩

end Go.Proofs.YtkpmbbeidcpclaaDoor
