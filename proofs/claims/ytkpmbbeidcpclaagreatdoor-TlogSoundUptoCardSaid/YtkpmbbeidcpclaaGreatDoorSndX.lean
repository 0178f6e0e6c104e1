/-
  What is in a log is proved, and with one bit turned nothing is.
-/
import Derived.Test.YtkpmbbeidcpclaaGreatDoorGrwP
import Derived.Test.YtkpmbbeidcpclaaGreatDoorCkA
import Derived.Test.YtkpmbbeidcpclaaGreatDoorSpanQ
import Derived.Test.YtkpmbbeidcpclaaGreatDoorCkC
import Derived.Test.YtkpmbbeidcpclaaGreatDoorCkE
import Derived.Test.YtkpmbbeidcpclaaGreatDoorFirst
import Derived.Deep.Slices
import Derived.BigRegion
import Derived.Deep.RegionHeld3
namespace Go.Proofs.YtkpmbbeidcpclaaGreatDoor
open Go.RowKit

theorem rootP_cons {p : Bs} {r : List Bs} {i n : Nat} {leaf : Bs} (h : n ≠ 1) : rootP (p :: r) i n leaf = if i < half n then (nodeL (rootP r i (half n) leaf).1 p, (rootP r i (half n) leaf).2) else (nodeL p (rootP r (i - half n) (n - half n) leaf).1, (rootP r (i - half n) (n - half n) leaf).2) := by
  show (if n = 1 then _ else _) = _
  rw [if_neg h]

theorem root_path : ∀ (k i : Nat) (l : List Bs) (leaf : Bs), l[i]? = some leaf → l.length ≤ k → l.length ≤ 1048576 → rootP (pathP k i l).reverse i l.length leaf = (mth k l, true)
  | 0, i, l, leaf, hi, hk, _ => by
    have : l = [] := List.length_eq_zero_iff.1 (by omega)
    subst this
    simp at hi
  | k + 1, i, l, leaf, hi, hk, hb => by
    have hil : i < l.length := by
      apply Classical.byContradiction; intro hn
      rw [List.getElem?_eq_none (by omega)] at hi; cases hi
    by_cases h1 : l.length = 1
    · obtain ⟨x, rfl⟩ : ∃ x, l = [x] := by
        match l, h1 with
        | [x], _ => exact ⟨x, rfl⟩
      have hi0 : i = 0 := by simp at hil; exact hil
      subst hi0
      simp only [List.getElem?_cons_zero, Option.some.injEq] at hi
      subst hi
      rfl
    · have h2 : 2 ≤ l.length := by omega
      obtain ⟨g1, g2, _, _⟩ := half_is h2 hb
      have hp : 1 ≤ half l.length := by unfold half; exact Nat.one_le_two_pow
      rw [pathP_two h2, mth_two (f := k) h2]
      obtain ⟨h, hh⟩ : ∃ h, half l.length = h := ⟨_, rfl⟩
      rw [hh] at g1 g2 hp ⊢
      have l1 : (l.take h).length = h := by rw [List.length_take]; omega
      have l2 : (l.drop h).length = l.length - h := by rw [List.length_drop]
      by_cases hlt : i < h
      · rw [if_pos hlt, List.reverse_append, List.reverse_singleton, List.singleton_append, rootP_cons h1, hh, if_pos hlt]
        have ih := root_path k i (l.take h) leaf (by rw [List.getElem?_take, if_pos hlt]; exact hi) (by omega) (by omega)
        rw [l1] at ih
        rw [ih]
      · rw [if_neg hlt, List.reverse_append, List.reverse_singleton, List.singleton_append, rootP_cons h1, hh, if_neg hlt]
        have ih := root_path k (i - h) (l.drop h) leaf (by rw [List.getElem?_drop, Nat.add_sub_cancel' (by omega)]; exact hi) (by omega) (by omega)
        rw [l2] at ih
        rw [ih]

theorem hashB_32 {ps : List Bs} (h : All32 ps) : hashB ps = true := by
  unfold hashB
  rw [List.all_eq_true]
  intro x hx
  simp [h x hx]

/-- The log's own proof of a record is taken. -/
theorem rec_ok {ls : List Bs} {i n : Nat} {leaf : Bs} (hn : ls.length = n) (hi : ls[i]? = some leaf) (hb : n ≤ 1000) (h32 : All32 ls) (hp32 : All32 (pathP 1000 i ls)) : recE (pathP 1000 i ls) (i : Int) (n : Int) leaf (mth 1000 ls) = 0 := by
  have hil : i < n := by
    apply Classical.byContradiction; intro hc
    rw [List.getElem?_eq_none (by omega)] at hi; cases hi
  have hrec : recB (i : Int) (n : Int) = true := by
    unfold recB
    rw [sizeB_nat (by omega), decide_eq_true (by omega), decide_eq_true (by omega)]
    rfl
  have hr := root_path 1000 i ls leaf hi (by omega) (by omega)
  rw [hn] at hr
  unfold recE
  rw [if_neg (by rw [hrec]; decide), if_neg (by rw [hashB_32 hp32]; decide), if_neg (by
    rw [hashB_32 (ps := [leaf, mth 1000 ls]) (fun x hx => by
      simp at hx
      rcases hx with rfl | rfl
      · exact h32 _ (List.mem_of_getElem? hi)
      · exact mth_len _ _ h32)]
    decide), Int.toNat_natCast, Int.toNat_natCast, if_pos hr]

/-- With a hash more it is not. -/
theorem rec_more {ls : List Bs} {i n : Nat} {leaf x root : Bs} (hn : ls.length = n) (hi : ls[i]? = some leaf) (hb : n ≤ 1000) : recE (pathP 1000 i ls ++ [x]) (i : Int) (n : Int) leaf root ≠ 0 := by
  have hil : i < n := by
    apply Classical.byContradiction; intro hc
    rw [List.getElem?_eq_none (by omega)] at hi; cases hi
  have hr := root_path 1000 i ls leaf hi (by omega) (by omega)
  rw [hn] at hr
  have h20 : n ≤ 2 ^ 20 := Nat.le_trans hb (by decide)
  have o1 := root_ok 20 (pathP 1000 i ls).reverse i n leaf (by omega) (by omega) h20
  rw [hr] at o1
  have e1 : (pathP 1000 i ls).length = stepsN 20 i n := by simpa using o1.symm
  have o2 := root_ok 20 (pathP 1000 i ls ++ [x]).reverse i n leaf (by omega) (by omega) h20
  have e2 : (rootP (pathP 1000 i ls ++ [x]).reverse i n leaf).2 = false := by
    rw [o2]
    simp [e1]
  unfold recE
  rw [Int.toNat_natCast, Int.toNat_natCast]
  split
  · decide
  · split
    · decide
    · split
      · decide
      · rw [if_neg (fun e => by rw [e] at e2; cases e2)]
        decide

end Go.Proofs.YtkpmbbeidcpclaaGreatDoor

namespace Go.Proofs.YtkpmbbeidcpclaaGreatDoor
open Go.RowKit

/-- Thirty-two bytes at a slice. -/
def H32 (base : Nat) (w : World) (v : Value) : Prop := ∃ b : Bs, b.length = 32 ∧ OwnB base w v b
/-- A list of such. -/
def L32 (base : Nat) (w : World) (v : Value) (N : Nat) : Prop := ∃ us : List Value, w.ownsRow base 32 1 v N us ∧ ∀ k, k < N → ∃ u, us[k]? = some u ∧ H32 base w u

theorem H32.low {base : Nat} {w w' : World} {v : Value} (h : H32 base w v) (b : Below w.heap.size w w') : H32 base w' v := by
  obtain ⟨x, h1, h2⟩ := h
  exact ⟨x, h1, OwnB.low h2 b⟩
theorem L32.low {base : Nat} {w w' : World} {v : Value} {N : Nat} (h : L32 base w v N) (b : Below w.heap.size w w') : L32 base w' v N := by
  obtain ⟨us, h1, h2⟩ := h
  refine ⟨us, ⟨h1.1, ?_⟩, fun k hk => ?_⟩
  · rcases h1.2 with ⟨rfl, hn⟩ | ⟨g, cap, cur, rfl, hb, hh, r⟩
    · exact Or.inl ⟨rfl, hn⟩
    · exact Or.inr ⟨g, cap, cur, rfl, hb, (b.block g (Array.getElem?_eq_some_iff.1 hh).1).trans hh, r⟩
  · obtain ⟨u, e, o⟩ := h2 k hk
    exact ⟨u, e, o.low b⟩

theorem OwnB.turn {base : Nat} {w : World} {v : Value} {b : Bs} (h : OwnB base w v b) {g k : Nat} {cs : Array Value} {c : UInt8} (hg : Blk w g cs 5) :
    ∃ b' : Bs, b'.length = b.length ∧ OwnB base (w.setCell ⟨g, k, none⟩ (byteV c)) v b' := by
  rcases h.2 with ⟨rfl, hn⟩ | ⟨g', cap, cur, rfl, hb, hh, h1, h2, h3, h4⟩
  · exact ⟨b, rfl, h.1, Or.inl ⟨rfl, hn⟩⟩
  · by_cases he : g' = g
    · subst he
      have hcs : cur = cs := by
        have x2 : w.heap[g']? = some (.cells cs 5 (0, 0)) := hg
        rw [hh] at x2
        simpa using x2
      subst hcs
      have hs := hg.set k (byteV c)
      refine ⟨b.set k c, by simp, by simp, Or.inr ⟨g', cap, _, by simp, hb, hs, by simpa using h1, h2, by simpa using h3, ?_⟩⟩
      rw [Array.toList_setIfInBounds, List.take_set, List.length_set, h4, List.map_set]
    · exact ⟨b, rfl, h.1, Or.inr ⟨g', cap, cur, rfl, hb, (set_other he).trans hh, h1, h2, h3, h4⟩⟩
theorem H32.turn {base : Nat} {w : World} {v : Value} (h : H32 base w v) {g k : Nat} {cs : Array Value} {c : UInt8} (hg : Blk w g cs 5) : H32 base (w.setCell ⟨g, k, none⟩ (byteV c)) v := by
  obtain ⟨b, h1, h2⟩ := h
  obtain ⟨b', e1, e2⟩ := OwnB.turn h2 (k := k) (c := c) hg
  exact ⟨b', by rw [e1]; exact h1, e2⟩
theorem L32.turn {base : Nat} {w : World} {v : Value} {N : Nat} (h : L32 base w v N) {g k : Nat} {cs : Array Value} {c : UInt8} (hg : Blk w g cs 5) : L32 base (w.setCell ⟨g, k, none⟩ (byteV c)) v N := by
  obtain ⟨us, h1, h2⟩ := h
  refine ⟨us, ⟨h1.1, ?_⟩, fun k hk => ?_⟩
  · rcases h1.2 with ⟨rfl, hn⟩ | ⟨g', cap, cur, rfl, hb, hh, r⟩
    · exact Or.inl ⟨rfl, hn⟩
    · refine Or.inr ⟨g', cap, cur, rfl, hb, (set_other (fun e => ?_)).trans hh, r⟩
      rw [e] at hh
      have x2 : w.heap[g]? = some (.cells cs 5 (0, 0)) := hg
      rw [hh] at x2
      simp at x2
  · obtain ⟨u, e, o⟩ := h2 k hk
    exact ⟨u, e, o.turn hg⟩
theorem LvAt.l32 {base : Nat} {w : World} {v : Value} {ls : List Bs} (h : LvAt base w v ls) (h32 : All32 ls) : L32 base w v ls.length := by
  obtain ⟨us, h1, h2⟩ := h
  refine ⟨us, h1, fun k hk => ?_⟩
  obtain ⟨u, e, o⟩ := h2 k hk
  exact ⟨u, e, _, h32 _ (List.getElem_mem hk), o⟩
theorem L32.lv {base : Nat} {w : World} {v : Value} {N : Nat} (h : L32 base w v N) : ∃ ls : List Bs, ls.length = N ∧ All32 ls ∧ LvAt base w v ls := by
  obtain ⟨us, h1, h2⟩ := h
  obtain ⟨f, hf⟩ := Deep.choose_lt (p := fun k (b : Bs) => ∃ u, us[k]? = some u ∧ b.length = 32 ∧ OwnB base w u b) (fun k hk => by
    obtain ⟨u, e, b, h3, h4⟩ := h2 k hk
    exact ⟨b, u, e, h3, h4⟩)
  have hl : ((List.range N).map f).length = N := by simp
  refine ⟨(List.range N).map f, hl, fun x hx => ?_, us, by rw [hl]; exact h1, fun k hk => ?_⟩
  · obtain ⟨k, hk, rfl⟩ := List.mem_map.1 hx
    obtain ⟨u, _, h3, _⟩ := hf k (List.mem_range.1 hk)
    exact h3
  · rw [hl] at hk
    obtain ⟨u, e, _, h4⟩ := hf k hk
    refine ⟨u, e, ?_⟩
    rw [List.getElem_map, List.getElem_range]
    exact h4
/-- The slice of a hash of thirty-two bytes. -/
theorem H32.adr {base : Nat} {w : World} {v : Value} (h : H32 base w v) : ∃ g c, v = .slice (some ⟨g, 0, none⟩) 32 c ∧ ∃ cs, Blk w g cs 5 ∧ 32 ≤ cs.size ∧ ∀ k, k < 32 → ∃ x : UInt8, cs[k]? = some (byteV x) := by
  obtain ⟨b, h1, h2⟩ := h
  rcases h2.2 with ⟨e, hn⟩ | ⟨g, cap, cur, e, hb, hh, r1, r2, r3, r4⟩
  · omega
  · refine ⟨g, cap, by rw [e, h1], cur, hh, by omega, fun k hk => ?_⟩
    refine ⟨b[k]'(by omega), ?_⟩
    have := congrArg (fun l => l[k]?) r4
    simp only [List.getElem?_take, h1] at this
    rw [if_pos (by omega), List.getElem?_map, List.getElem?_eq_getElem (show k < b.length by omega)] at this
    rw [← Array.getElem?_toList]
    simpa using this
theorem H32.inj {base : Nat} {w : World} {a : Option Addr} {n c : Nat} (h : H32 base w (.slice a n c)) : ∃ b : Bs, b.length = 32 ∧ n = 32 ∧ BAt w a b := by
  obtain ⟨b, h1, h2⟩ := h
  obtain ⟨a', c', e, hb, _, _⟩ := OwnB.at h2
  obtain ⟨rfl, rfl, rfl⟩ := Value.slice.inj e
  exact ⟨b, h1, h1, hb⟩
theorem L32.inj {base : Nat} {w : World} {a : Option Addr} {n c N : Nat} (h : L32 base w (.slice a n c) N) : ∃ ls : List Bs, ls.length = N ∧ n = N ∧ N ≤ c ∧ All32 ls ∧ PAt w a ls := by
  obtain ⟨ls, h1, h2, h3⟩ := h.lv
  obtain ⟨a', c', e, hc, hp⟩ := h3.pat
  obtain ⟨rfl, rfl, rfl⟩ := Value.slice.inj e
  exact ⟨ls, h1, h1, by omega, h2, hp⟩

set_option maxRecDepth 100000 in
set_option maxHeartbeats 1000000 in
theorem record_any {base : Nat} {w : World} {P I M L R : Nat} {i n : Int} {pa la ra : Option Addr} {pn pc ln lc rn rc N : Nat}
    (cp : w.cell? ⟨P, 0, none⟩ = some (.slice pa pn pc)) (ci : w.cell? ⟨I, 0, none⟩ = some (.int .i64 i)) (cn : w.cell? ⟨M, 0, none⟩ = some (.int .i64 n)) (cl : w.cell? ⟨L, 0, none⟩ = some (.slice la ln lc)) (cr : w.cell? ⟨R, 0, none⟩ = some (.slice ra rn rc))
    (hp : L32 base w (.slice pa pn pc) N) (hN : N ≤ 1000) (hl : H32 base w (.slice la ln lc)) (hr : H32 base w (.slice ra rn rc)) :
    Calls Tryz.prog 40 #[.pointer (some ⟨P, 0, none⟩), .pointer (some ⟨I, 0, none⟩), .pointer (some ⟨M, 0, none⟩), .pointer (some ⟨L, 0, none⟩), .pointer (some ⟨R, 0, none⟩)] w fun e w' => e = .returned (.bool true) ∧ Below w.heap.size w w' := by
  obtain ⟨ls, h1, rfl, h3, h4, h5⟩ := hp.inj
  obtain ⟨lb, l1, rfl, l3⟩ := hl.inj
  obtain ⟨rb, r1, rfl, r3⟩ := hr.inj
  have HA := hide (checkRec_any (i := i) (n := n) (c := pc) (lc := lc) (rc := rc) h1 hN h3 (fun p hp => by rw [h4 p hp]; decide) l1 (by omega) r1 (by omega) h5 l3 r3)
  have HB := hide (fun wx (b : Below w.heap.size w wx) => refCheckRec_any (i := i) (n := n) (c := pc) (lc := lc) (rc := rc) h1 hN h3 (fun p hp => by rw [h4 p hp]; decide) l1 (by omega) r1 (by omega) (h5.low b) (l3.low b) (r3.low b))
  obtain ⟨E, hE⟩ : ∃ E, recE ls i n lb rb = E := ⟨_, rfl⟩
  rw [hE] at HA HB
  have HC := hide (And.intro cp (And.intro ci (And.intro cn (And.intro cl cr))))
  clear hp hl hr h1 h4 h5 l1 l3 r1 r3 hE
  go_enter Tryz.func40, Tryz.ntmps40
  go_wp2_with (go_at_call 38; fail)
  refine (unhide HA).mono ?_
  rintro e w1 ⟨rfl, b1⟩
  have HD := hide (unhide HB _ b1)
  have HB1 := hide b1
  obtain ⟨cp', ci', cn', cl', cr'⟩ := unhide HC
  clear cp ci cn cl cr
  rw [← b1.cell (lt_of_cell cp')] at cp'
  rw [← b1.cell (lt_of_cell ci')] at ci'
  rw [← b1.cell (lt_of_cell cn')] at cn'
  rw [← b1.cell (lt_of_cell cl')] at cl'
  rw [← b1.cell (lt_of_cell cr')] at cr'
  clear b1 HA HB HC
  by_cases h0 : E = 0
  · subst h0
    go_wp2_with (first | (go_at_call 21; refine (errno_any _ _).mono ?_; rintro e wn ⟨rfl, rfl⟩) | (go_at_call 41; fail))
    refine (unhide HD).mono ?_
    rintro e w2 ⟨rfl, b2⟩
    have HZ := hide (low_trans (unhide HB1) b2)
    clear b2 HD
    go_wp2
    go_ret
    exact ⟨rfl, unhide HZ⟩
  · have hq : (E != 0) = true := by simp [h0]
    go_wp2_with (first | (go_at_call 21; refine (errno_any _ _).mono ?_; rintro e wn ⟨rfl, rfl⟩) | (go_at_call 41; fail))
    go_ret
    exact ⟨rfl, unhide HB1⟩

set_option maxRecDepth 100000 in
set_option maxHeartbeats 1000000 in
theorem tree_any {base : Nat} {w : World} {P I M L R : Nat} {i n : Int} {pa la ra : Option Addr} {pn pc ln lc rn rc N : Nat}
    (cp : w.cell? ⟨P, 0, none⟩ = some (.slice pa pn pc)) (ci : w.cell? ⟨I, 0, none⟩ = some (.int .i64 i)) (cn : w.cell? ⟨M, 0, none⟩ = some (.int .i64 n)) (cl : w.cell? ⟨L, 0, none⟩ = some (.slice la ln lc)) (cr : w.cell? ⟨R, 0, none⟩ = some (.slice ra rn rc))
    (hp : L32 base w (.slice pa pn pc) N) (hN : N ≤ 1000) (hl : H32 base w (.slice la ln lc)) (hr : H32 base w (.slice ra rn rc)) :
    Calls Tryz.prog 42 #[.pointer (some ⟨P, 0, none⟩), .pointer (some ⟨I, 0, none⟩), .pointer (some ⟨M, 0, none⟩), .pointer (some ⟨L, 0, none⟩), .pointer (some ⟨R, 0, none⟩)] w fun e w' => e = .returned (.bool true) ∧ Below w.heap.size w w' := by
  obtain ⟨ls, h1, rfl, h3, h4, h5⟩ := hp.inj
  obtain ⟨lb, l1, rfl, l3⟩ := hl.inj
  obtain ⟨rb, r1, rfl, r3⟩ := hr.inj
  have HA := hide (checkTree_any (m := i) (n := n) (c := pc) (lc := lc) (rc := rc) h1 hN h3 (fun p hp => by rw [h4 p hp]; decide) l1 (by omega) r1 (by omega) h5 l3 r3)
  have HB := hide (fun wx (b : Below w.heap.size w wx) => refCheckTree_any (m := i) (n := n) (c := pc) (lc := lc) (rc := rc) h1 hN h3 (fun p hp => by rw [h4 p hp]; decide) l1 (by omega) r1 (by omega) (h5.low b) (l3.low b) (r3.low b))
  obtain ⟨E, hE⟩ : ∃ E, treeE ls i n lb rb = E := ⟨_, rfl⟩
  rw [hE] at HA HB
  have HC := hide (And.intro cp (And.intro ci (And.intro cn (And.intro cl cr))))
  clear hp hl hr h1 h4 h5 l1 l3 r1 r3 hE
  go_enter Tryz.func42, Tryz.ntmps42
  go_wp2_with (go_at_call 39; fail)
  refine (unhide HA).mono ?_
  rintro e w1 ⟨rfl, b1⟩
  have HD := hide (unhide HB _ b1)
  have HB1 := hide b1
  obtain ⟨cp', ci', cn', cl', cr'⟩ := unhide HC
  clear cp ci cn cl cr
  rw [← b1.cell (lt_of_cell cp')] at cp'
  rw [← b1.cell (lt_of_cell ci')] at ci'
  rw [← b1.cell (lt_of_cell cn')] at cn'
  rw [← b1.cell (lt_of_cell cl')] at cl'
  rw [← b1.cell (lt_of_cell cr')] at cr'
  clear b1 HA HB HC
  by_cases h0 : E = 0
  · subst h0
    go_wp2_with (first | (go_at_call 21; refine (errno_any _ _).mono ?_; rintro e wn ⟨rfl, rfl⟩) | (go_at_call 43; fail))
    refine (unhide HD).mono ?_
    rintro e w2 ⟨rfl, b2⟩
    have HZ := hide (low_trans (unhide HB1) b2)
    clear b2 HD
    go_wp2
    go_ret
    exact ⟨rfl, unhide HZ⟩
  · have hq : (E != 0) = true := by simp [h0]
    go_wp2_with (first | (go_at_call 21; refine (errno_any _ _).mono ?_; rintro e wn ⟨rfl, rfl⟩) | (go_at_call 43; fail))
    go_ret
    exact ⟨rfl, unhide HB1⟩
end Go.Proofs.YtkpmbbeidcpclaaGreatDoor

namespace Go.Proofs.YtkpmbbeidcpclaaGreatDoor
open Go.RowKit

/-- The variables of the look at proofs, and what they hold. -/
structure Snd (base : Nat) (w : World) (bi bm bn br bo bp bq bl : Nat) (i m n : Int) (gr rc go oc : Nat) (pa : Option Addr) (N pc : Nat) (qa : Option Addr) (M qc : Nat) (gl lc : Nat) : Prop where
  ci : w.cell? ⟨bi, 0, none⟩ = some (.int .i64 i)
  cm : w.cell? ⟨bm, 0, none⟩ = some (.int .i64 m)
  cn : w.cell? ⟨bn, 0, none⟩ = some (.int .i64 n)
  cr : w.cell? ⟨br, 0, none⟩ = some (.slice (some ⟨gr, 0, none⟩) 32 rc)
  co : w.cell? ⟨bo, 0, none⟩ = some (.slice (some ⟨go, 0, none⟩) 32 oc)
  cp : w.cell? ⟨bp, 0, none⟩ = some (.slice pa N pc)
  cq : w.cell? ⟨bq, 0, none⟩ = some (.slice qa M qc)
  cl : w.cell? ⟨bl, 0, none⟩ = some (.slice (some ⟨gl, 0, none⟩) 32 lc)
  hr : H32 base w (.slice (some ⟨gr, 0, none⟩) 32 rc)
  ho : H32 base w (.slice (some ⟨go, 0, none⟩) 32 oc)
  hp : L32 base w (.slice pa N pc) N
  hq : L32 base w (.slice qa M qc) M
  hl : H32 base w (.slice (some ⟨gl, 0, none⟩) 32 lc)

theorem Snd.low {base : Nat} {w w' : World} {bi bm bn br bo bp bq bl : Nat} {i m n : Int} {gr rc go oc : Nat} {pa : Option Addr} {N pc : Nat} {qa : Option Addr} {M qc : Nat} {gl lc : Nat} (h : Snd base w bi bm bn br bo bp bq bl i m n gr rc go oc pa N pc qa M qc gl lc) (b : Below w.heap.size w w') : Snd base w' bi bm bn br bo bp bq bl i m n gr rc go oc pa N pc qa M qc gl lc :=
  ⟨(b.cell (lt_of_cell h.ci)).trans h.ci, (b.cell (lt_of_cell h.cm)).trans h.cm, (b.cell (lt_of_cell h.cn)).trans h.cn, (b.cell (lt_of_cell h.cr)).trans h.cr, (b.cell (lt_of_cell h.co)).trans h.co, (b.cell (lt_of_cell h.cp)).trans h.cp, (b.cell (lt_of_cell h.cq)).trans h.cq, (b.cell (lt_of_cell h.cl)).trans h.cl, h.hr.low b, h.ho.low b, h.hp.low b, h.hq.low b, h.hl.low b⟩

/-- A cell that is no byte is in no block of bytes that begins with one. -/
theorem cell_turn {w : World} {b g k : Nat} {cs : Array Value} {x c : UInt8} {v : Value} (hg : Blk w g cs 5) (h0 : cs[0]? = some (byteV x)) (h : w.cell? ⟨b, 0, none⟩ = some v) (hv : ∀ y : UInt8, v ≠ byteV y) : (w.setCell ⟨g, k, none⟩ (byteV c)).cell? ⟨b, 0, none⟩ = some v := by
  have hne : b ≠ g := fun e => by
    subst e
    rw [hg.cell 0, h0] at h
    exact hv x (Option.some.inj h).symm
  have hb := lt_of_cell h
  unfold World.cell? at h ⊢
  rw [show (w.setCell ⟨g, k, none⟩ (byteV c)).heap[b]? = w.heap[b]? from set_other hne]
  exact h

theorem Snd.turn {base : Nat} {w : World} {bi bm bn br bo bp bq bl : Nat} {i m n : Int} {gr rc go oc : Nat} {pa : Option Addr} {N pc : Nat} {qa : Option Addr} {M qc : Nat} {gl lc : Nat} (h : Snd base w bi bm bn br bo bp bq bl i m n gr rc go oc pa N pc qa M qc gl lc) {g k : Nat} {cs : Array Value} {x c : UInt8} (hg : Blk w g cs 5) (h0 : cs[0]? = some (byteV x)) : Snd base (w.setCell ⟨g, k, none⟩ (byteV c)) bi bm bn br bo bp bq bl i m n gr rc go oc pa N pc qa M qc gl lc :=
  ⟨cell_turn hg h0 h.ci (fun y e => by simp [byteV] at e), cell_turn hg h0 h.cm (fun y e => by simp [byteV] at e), cell_turn hg h0 h.cn (fun y e => by simp [byteV] at e), cell_turn hg h0 h.cr (fun y e => by simp [byteV] at e), cell_turn hg h0 h.co (fun y e => by simp [byteV] at e), cell_turn hg h0 h.cp (fun y e => by simp [byteV] at e), cell_turn hg h0 h.cq (fun y e => by simp [byteV] at e), cell_turn hg h0 h.cl (fun y e => by simp [byteV] at e), h.hr.turn hg, h.ho.turn hg, h.hp.turn hg, h.hq.turn hg, h.hl.turn hg⟩

theorem bx8 (x y : UInt8) : bits .xor .u8 (x.toNat : Int) (y.toNat : Int) = ((x ^^^ y).toNat : Int) := by
  rw [u8_xor_nat _ _ (u8_lt x) (u8_lt y), UInt8.toNat_xor]

theorem pathP_32 : ∀ (k i : Nat) (l : List Bs), All32 l → All32 (pathP k i l)
  | 0, _, _, _ => fun x hx => by cases hx
  | k + 1, i, l, h => by
    have ht : All32 (l.take (half l.length)) := fun x hx => h x (List.mem_of_mem_take hx)
    have hd : All32 (l.drop (half l.length)) := fun x hx => h x (List.mem_of_mem_drop hx)
    unfold pathP
    split
    · exact fun x hx => by cases hx
    · split
      · intro x hx
        rcases List.mem_append.1 hx with e | e
        · exact pathP_32 k i _ ht x e
        · simp at e; rw [e]; exact mth_len _ _ hd
      · intro x hx
        rcases List.mem_append.1 hx with e | e
        · exact pathP_32 k _ _ hd x e
        · simp at e; rw [e]; exact mth_len _ _ ht
theorem subP_32 : ∀ (k m : Nat) (l : List Bs) (wh : Bool), All32 l → All32 (subP k m l wh)
  | 0, _, _, _, _ => fun x hx => by cases hx
  | k + 1, m, l, wh, h => by
    have ht : All32 (l.take (half l.length)) := fun x hx => h x (List.mem_of_mem_take hx)
    have hd : All32 (l.drop (half l.length)) := fun x hx => h x (List.mem_of_mem_drop hx)
    unfold subP
    split
    · split
      · exact fun x hx => by cases hx
      · intro x hx
        simp at hx; rw [hx]; exact mth_len _ _ h
    · split
      · intro x hx
        rcases List.mem_append.1 hx with e | e
        · exact subP_32 k m _ wh ht x e
        · simp at e; rw [e]; exact mth_len _ _ hd
      · intro x hx
        rcases List.mem_append.1 hx with e | e
        · exact subP_32 k _ _ false hd x e
        · simp at e; rw [e]; exact mth_len _ _ ht
/-- With a hash more it is not, whatever the hashes are. -/
theorem rec_more2 {ls ps : List Bs} {i n : Nat} {leaf l2 x root : Bs} (hn : ls.length = n) (hi : ls[i]? = some leaf) (hb : n ≤ 1000) (hps : ps.length = (pathP 1000 i ls).length) : recE (ps ++ [x]) (i : Int) (n : Int) l2 root ≠ 0 := by
  have hil : i < n := by
    apply Classical.byContradiction; intro hc
    rw [List.getElem?_eq_none (by omega)] at hi; cases hi
  have hr := root_path 1000 i ls leaf hi (by omega) (by omega)
  rw [hn] at hr
  have h20 : n ≤ 2 ^ 20 := Nat.le_trans hb (by decide)
  have o1 := root_ok 20 (pathP 1000 i ls).reverse i n leaf (by omega) (by omega) h20
  rw [hr] at o1
  have e1 : (pathP 1000 i ls).length = stepsN 20 i n := by simpa using o1.symm
  have o2 := root_ok 20 (ps ++ [x]).reverse i n l2 (by omega) (by omega) h20
  have e2 : (rootP (ps ++ [x]).reverse i n l2).2 = false := by
    rw [o2]
    simp [hps, e1]
  unfold recE
  rw [Int.toNat_natCast, Int.toNat_natCast]
  split
  · decide
  · split
    · decide
    · split
      · decide
      · rw [if_neg (fun e => by rw [e] at e2; cases e2)]
        decide
/-- The log's own proof of growth is taken. -/
theorem grow_ok2 {ls : List Bs} {m n : Nat} (hn : ls.length = n) (h1 : 1 ≤ m) (hm : m ≤ n) (hb : n ≤ 1000) (h32 : All32 ls) : treeE (subP 1000 m ls true) (m : Int) (n : Int) (mth 1000 (ls.take m)) (mth 1000 ls) = 0 := by
  have ht : All32 (ls.take m) := fun x hx => h32 x (List.mem_of_mem_take hx)
  have hg : goesB (subP 1000 m ls true) m n (mth 1000 (ls.take m)) (mth 1000 ls) = true := by
    unfold goesB
    rw [if_neg (by omega)]
    by_cases hmn : m = n
    · rw [if_pos hmn]
      have hs : subP 1000 m ls true = [] := by
        show (if m = ls.length then _ else _) = _
        rw [if_pos (by omega)]; rfl
      rw [hs, List.take_of_length_le (by omega)]
      simp
    · rw [if_neg hmn, hashB_32 (subP_32 _ _ _ _ h32), hashB_32 (ps := [mth 1000 (ls.take m), mth 1000 ls]) (fun x hx => by
        simp at hx
        rcases hx with rfl | rfl
        · exact mth_len _ _ ht
        · exact mth_len _ _ h32)]
      have := roots_sub 1000 m ls true (mth 1000 (ls.take m)) h1 (by omega) (by omega) (by omega) (fun _ => rfl)
      rw [hn] at this
      rw [this]
      simp
  unfold treeE
  rw [partB_at hm (by omega), if_neg (by decide), Int.toNat_natCast, Int.toNat_natCast, if_pos hg]

theorem app_leaf2 {base : Nat} {w W1 : World} {v : Value} {ls : List Bs} {h : Bs} {a : Option Addr} {n c : Nat} (hl : LvAt base w v ls) (hu : OwnB base w (.slice a n c) h) (hB : base ≤ w.heap.size) (hls : ls.length ≤ 1000000) (hW : w.alloc (.cells #[.slice a n c] 32) = W1) :
    ∃ v' w', (Builtin.append_ #[22, 22] 22 #[v, .slice (some ⟨w.heap.size, 0, none⟩) 1 1]).run Tryz.prog W1 = .ok v' w' ∧ LvAt base w' v' (ls ++ [h]) ∧ Below base w w' ∧ ∀ k, k < w.heap.size → v.ownBlock ≠ some k → w'.heap[k]? = w.heap[k]? := by
  obtain ⟨i0, hi, hz0, hz1, hz2⟩ := info_parts info29
  have b1 : Below w.heap.size w W1 := by rw [← hW]; exact (Below.refl _ _).alloc (Nat.le_refl _) _
  have hz : Blk W1 w.heap.size #[.slice a n c] 32 := by rw [← hW]; exact Blk.new _ _ _
  obtain ⟨us, h1, h2⟩ := hl.low b1
  obtain ⟨us0, g1, _⟩ := hl
  obtain ⟨v', w', r1, r2, r3, _, r5⟩ := run_append_own_at (P := Tryz.prog) W1 base 22 22 32 i0 _ 1 24 Tryz.underlying22 hi hz0 hz1 hz2 rfl (by decide) v ls.length us h1 ⟨w.heap.size, 0, none⟩ 1 1 [.slice a n c] rfl (fun j u hj => by
    cases j with
    | zero =>
      simp only [List.getElem?_cons_zero, Option.some.injEq] at hj
      rw [← hj]
      exact hz.cell 0
    | succ j => simp at hj) (fun u hu => by simp at hu; rw [hu]; rfl) (by unfold maxLen; omega) (by omega) (Nat.le_trans hB b1.size)
  have hblk0 : ∀ k, k < w.heap.size → v.ownBlock ≠ some k → w'.heap[k]? = w.heap[k]? := fun k hk hne => by
    rw [r3.block k (Nat.lt_of_lt_of_le hk b1.size) (fun e => hne e.symm), b1.block k hk]
  have hblk : ∀ k, k < w.heap.size → (∀ cs, w.heap[k]? ≠ some (.cells cs 32 (0, 0))) → w'.heap[k]? = w.heap[k]? := fun k hk hne => by
    rw [r3.block k (Nat.lt_of_lt_of_le hk b1.size) (fun e => by
      obtain ⟨_, cur, hc⟩ := row29 g1 e.symm
      exact hne cur hc), b1.block k hk]
  have hown : ∀ u l, OwnB base w u l → OwnB base w' u l := fun u l o => by
    refine ⟨o.1, ?_⟩
    rcases o.2 with ⟨rfl, hn⟩ | ⟨g, cap, cur, rfl, hb, hh, r⟩
    · exact Or.inl ⟨rfl, hn⟩
    · refine Or.inr ⟨g, cap, cur, rfl, hb, ?_, r⟩
      rw [hblk g (Array.getElem?_eq_some_iff.1 hh).1 (fun cs e => by rw [hh] at e; simp at e)]
      exact hh
  refine ⟨v', w', r1, ⟨us ++ [.slice a n c], by rw [List.length_append]; exact r2, fun k hk => ?_⟩, ⟨r3.os.trans b1.os, r3.tape.trans b1.tape, r3.output.trans b1.output, Nat.le_trans b1.size r3.size, fun k hk => ?_⟩, hblk0⟩
  · have hul : us.length = ls.length := by have := h1.1; omega
    by_cases hkl : k < ls.length
    · obtain ⟨u, e, o⟩ := h2 k hkl
      rw [List.getElem_append_left hkl, List.getElem?_append_left (by omega)]
      refine ⟨u, e, ?_⟩
      -- the leaf lay in the world before
      rcases o.2 with ⟨rfl, hn⟩ | ⟨g, cap, cur, rfl, hb, hh, r⟩
      · exact ⟨o.1, Or.inl ⟨rfl, hn⟩⟩
      · refine ⟨o.1, Or.inr ⟨g, cap, cur, rfl, hb, ?_, r⟩⟩
        rw [r3.block g (Array.getElem?_eq_some_iff.1 hh).1 (fun e2 => by
          obtain ⟨_, cur2, hc⟩ := row29 h1 e2.symm
          rw [hh] at hc
          simp at hc)]
        exact hh
    · rw [List.length_append] at hk
      simp only [List.length_cons, List.length_nil] at hk
      have hke : k = ls.length := by omega
      subst hke
      rw [List.getElem_append_right (by omega), List.getElem?_append_right (by omega)]
      refine ⟨.slice a n c, by simp [hul], ?_⟩
      simpa using hown _ _ hu
  · rw [r3.block k (Nat.lt_of_lt_of_le hk (Nat.le_trans hB b1.size)) (fun e => by
      obtain ⟨hx, _⟩ := row29 g1 e.symm
      omega), b1.block k (Nat.lt_of_lt_of_le hk hB)]
theorem app_cell {base : Nat} {wz wa : World} {pa : Option Addr} {N pc b : Nat} {ls : List Bs} {v : Value} (hl : LvAt base wz (.slice pa N pc) ls) (hb : ∀ k, k < wz.heap.size → (Value.slice pa N pc).ownBlock ≠ some k → wa.heap[k]? = wz.heap[k]?) (hne : ∀ pb, pa = some ⟨pb, 0, none⟩ → pb ≠ b) (h : wz.cell? ⟨b, 0, none⟩ = some v) : wa.cell? ⟨b, 0, none⟩ = some v := by
  have hlt := lt_of_cell h
  have hn : (Value.slice pa N pc).ownBlock ≠ some b := fun e => by
    obtain ⟨us, o1, _⟩ := hl
    rcases o1.2 with ⟨e1, _⟩ | ⟨g, cap, cur, e1, _⟩
    · rw [e1] at e; cases e
    · rw [e1] at e
      exact hne g (Value.slice.inj e1).1 (Option.some.inj e)
  unfold World.cell? at h ⊢
  rw [hb b hlt hn]
  exact h
theorem app_own {base b2 : Nat} {wz wa : World} {pa : Option Addr} {N pc : Nat} {ls : List Bs} {u : Value} {x : Bs} (hl : LvAt base wz (.slice pa N pc) ls) (hb : ∀ k, k < wz.heap.size → (Value.slice pa N pc).ownBlock ≠ some k → wa.heap[k]? = wz.heap[k]?) (h : OwnB b2 wz u x) : OwnB b2 wa u x := by
  refine ⟨h.1, ?_⟩
  rcases h.2 with ⟨rfl, hn⟩ | ⟨g, cap, cur, rfl, hb2, hh, r⟩
  · exact Or.inl ⟨rfl, hn⟩
  · refine Or.inr ⟨g, cap, cur, rfl, hb2, ?_, r⟩
    rw [hb g (Array.getElem?_eq_some_iff.1 hh).1 (fun e => by
      obtain ⟨us, o1, _⟩ := hl
      obtain ⟨_, cu, q2⟩ := row29 o1 e
      rw [hh] at q2
      simp at q2)]
    exact hh
theorem L32.elem {base : Nat} {w : World} {pa : Option Addr} {N pc : Nat} (h : L32 base w (.slice pa N pc) N) {k : Nat} (hk : k < N) : ∃ pb g c cur, pa = some ⟨pb, 0, none⟩ ∧ Blk w pb cur 32 ∧ w.cell? ⟨pb, k, none⟩ = some (.slice (some ⟨g, 0, none⟩) 32 c) ∧ H32 base w (.slice (some ⟨g, 0, none⟩) 32 c) := by
  obtain ⟨us, h1, h2⟩ := h
  obtain ⟨u, e, o⟩ := h2 k hk
  obtain ⟨g, c, rfl, _⟩ := o.adr
  rcases h1.2 with ⟨_, hn⟩ | ⟨pb, cap, cur, e2, hb, hh, q1, q2, q3, q4⟩
  · omega
  · refine ⟨pb, g, c, cur, (Value.slice.inj e2).1, hh, ?_, o⟩
    have hb2 : Blk w pb cur 32 := hh
    rw [hb2.cell k]
    rw [← q4, List.getElem?_take, if_pos (by omega)] at e
    rw [← Array.getElem?_toList]
    exact e
theorem row_turn {w : World} {pb g k j : Nat} {cs cur : Array Value} {c : Value} {v : Value} (hg : Blk w g cs 5) (hp : Blk w pb cur 32) (h : w.cell? ⟨pb, j, none⟩ = some v) : Blk (w.setCell ⟨g, k, none⟩ c) pb cur 32 ∧ (w.setCell ⟨g, k, none⟩ c).cell? ⟨pb, j, none⟩ = some v := by
  have hne : pb ≠ g := fun e => by
    subst e
    have x1 : w.heap[pb]? = some (.cells cs 5 (0, 0)) := hg
    have x2 : w.heap[pb]? = some (.cells cur 32 (0, 0)) := hp
    rw [x1] at x2
    simp at x2
  have hp' : Blk (w.setCell ⟨g, k, none⟩ c) pb cur 32 := (set_other hne).trans hp
  refine ⟨hp', ?_⟩
  rw [hp'.cell j, ← hp.cell j]
  exact h
theorem low_turn {w wa : World} {g k : Nat} {v : Value} (b : Below w.heap.size w wa) (hg : w.heap.size ≤ g) : Below w.heap.size w (wa.setCell ⟨g, k, none⟩ v) :=
  b.trans ⟨rfl, rfl, rfl, by rw [set_size]; exact Nat.le_refl _, fun j hj => set_other (by omega)⟩
theorem low_drew (w : World) : Below w.heap.size w w.drew := ⟨rfl, rfl, rfl, Nat.le_refl _, fun _ _ => rfl⟩
theorem mod_256 (i : Int) : ∃ (r : Int) (s j : Nat), i.tmod 256 = r ∧ r + 256 = (s : Int) ∧ (s : Int).tmod 256 = (j : Int) ∧ j < 256 ∧ s < 512 := by
  have h1 : i.tmod 256 < 256 := Int.tmod_lt_of_pos i (by omega)
  have h2 : -256 < i.tmod 256 := Int.lt_tmod_of_pos i (by omega)
  refine ⟨_, (i.tmod 256 + 256).toNat, (i.tmod 256 + 256).toNat % 256, rfl, by omega, ?_, Nat.mod_lt _ (by omega), by omega⟩
  rw [Int.tmod_eq_emod_of_nonneg (by omega)]
  omega
theorem H32.far {base : Nat} {w : World} {g c : Nat} (h : H32 base w (.slice (some ⟨g, 0, none⟩) 32 c)) : base ≤ g ∧ ∃ cs, Blk w g cs 5 ∧ 32 ≤ cs.size ∧ ∀ k, k < 32 → ∃ x : UInt8, cs[k]? = some (byteV x) := by
  obtain ⟨g', c', e, cs, h1, h2, h3⟩ := h.adr
  obtain ⟨e1, _, _⟩ := Value.slice.inj e
  have e2 := (Addr.mk.inj (Option.some.inj e1)).1
  subst e2
  refine ⟨?_, cs, h1, h2, h3⟩
  obtain ⟨b, q1, q2⟩ := h
  exact OwnB.base q2 g rfl
theorem cap_of {base : Nat} {w : World} {a : Option Addr} {N c : Nat} {ls : List Bs} (h : LvAt base w (.slice a N c) ls) (hn : ls.length = N) : N ≤ c := by
  obtain ⟨a', c', e, hc, _⟩ := h.pat
  obtain ⟨_, _, rfl⟩ := Value.slice.inj e
  omega
theorem LvAt.patAt {base : Nat} {w : World} {a : Option Addr} {n c : Nat} {ps : List Bs} (h : LvAt base w (.slice a n c) ps) : PAt w a ps := by
  obtain ⟨a', c', hv, _, hp⟩ := h.pat
  rw [(Value.slice.inj hv).1]
  exact hp
theorem own_at {base : Nat} {w : World} {g c : Nat} {b : Bs} (h : OwnB base w (.slice (some ⟨g, 0, none⟩) 32 c) b) (hb : b.length = 32) : BAt w (some ⟨g, 0, none⟩) b := by
  obtain ⟨g', c', e, hp⟩ := OwnB.adr h hb
  obtain ⟨e1, _, _⟩ := Value.slice.inj e
  rw [e1]
  exact hp
end Go.Proofs.YtkpmbbeidcpclaaGreatDoor
