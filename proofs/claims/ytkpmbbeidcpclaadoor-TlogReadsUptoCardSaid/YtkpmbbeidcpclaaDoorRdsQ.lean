/-
  Proofs by a log and by a function that may fail: what both answer.
-/
import Derived.Test.YtkpmbbeidcpclaaDoorSpanQ
import Derived.Test.YtkpmbbeidcpclaaDoorProvesW
namespace Go.Proofs.YtkpmbbeidcpclaaDoor
open Go.RowKit

/-- All blocks but one are as they were. -/
structure Bx (K : Nat) (w w' : World) : Prop where
  os : w'.os = w.os
  tape : w'.tape = w.tape
  output : w'.output = w.output
  size : w.heap.size ≤ w'.heap.size
  block : ∀ k, k < w.heap.size → k ≠ K → w'.heap[k]? = w.heap[k]?
theorem Bx.of {K : Nat} {w w' : World} (b : Below w.heap.size w w') : Bx K w w' := ⟨b.os, b.tape, b.output, b.size, fun k hk _ => b.block k hk⟩
theorem Bx.trans {K : Nat} {a b c : World} (h : Bx K a b) (k : Bx K b c) : Bx K a c :=
  ⟨k.os.trans h.os, k.tape.trans h.tape, k.output.trans h.output, Nat.le_trans h.size k.size, fun i hi hne => (k.block i (Nat.lt_of_lt_of_le hi h.size) hne).trans (h.block i hi hne)⟩
theorem Bx.cell {K : Nat} {w w' : World} (h : Bx K w w') {a : Addr} {v : Value} (hc : w.cell? a = some v) (hne : a.block ≠ K) : w'.cell? a = some v := by
  have hl := lt_of_cell hc
  unfold World.cell? at hc ⊢
  rw [h.block _ hl hne]
  exact hc
theorem Bx.low {K base : Nat} {w w' : World} (h : Bx K w w') (hk : base ≤ K) (hs : base ≤ w.heap.size) : Below base w w' :=
  ⟨h.os, h.tape, h.output, h.size, fun k hk' => h.block k (by omega) (by omega)⟩

/-- Where such a read has its things. -/
structure Ids where
  R : Nat
  F : Nat
  n : Nat
  K : Nat
  NB : Nat
  EB : Nat
  LB : Nat
  fl : Int
  er : Int
  lv : List Bs

/-- A function that reads a log, fails at its call fl with er, and was called c times. -/
structure RdF (x : Ids) (w : World) (c : Nat) : Prop where
  cell : w.cell? ⟨x.R, 0, none⟩ = some (.func (.func 82) #[] #[.pointer (some ⟨x.K, 0, none⟩), .pointer (some ⟨x.NB, 0, none⟩), .pointer (some ⟨x.EB, 0, none⟩), .pointer (some ⟨x.LB, 0, none⟩)])
  ck : Blk w x.K #[.int .i64 (c : Int)] 3
  cn : w.cell? ⟨x.NB, 0, none⟩ = some (.int .i64 x.fl)
  ce : w.cell? ⟨x.EB, 0, none⟩ = some (.int .i64 x.er)
  cl : w.cell? ⟨x.LB, 0, none⟩ = some (.pointer (some ⟨x.F, 0, none⟩))
  rk : x.R ≠ x.K
  nk : x.NB ≠ x.K
  ek : x.EB ≠ x.K
  lk : x.LB ≠ x.K
  fe : x.fl ≠ 0 → x.er ≠ 0
  log : ∃ base hs, LogAt base w x.F x.n hs ∧ Inv x.lv hs
  len : x.lv.length = x.n
  few : x.n ≤ 1000
  tz : TzAt w

theorem type_ne {w : World} {K k : Nat} {cs cs' : Array Value} {t : TypeId} (hk : Blk w K cs 3) (h : w.heap[k]? = some (Obj.cells cs' t (0, 0))) (ht : t ≠ 3) : k ≠ K := by
  intro e
  subst e
  have h' : w.heap[k]? = some (.cells cs 3 (0, 0)) := hk
  rw [h] at h'
  simp only [Option.some.injEq, Obj.cells.injEq] at h'
  exact ht h'.2.1

theorem LvAt.bx {base K : Nat} {w w' : World} {v : Value} {ls : List Bs} {cs : Array Value} (h : LvAt base w v ls) (hk : Blk w K cs 3) (b : Bx K w w') : LvAt base w' v ls :=
  h.keep fun k _ _ he ht => b.block k (Array.getElem?_eq_some_iff.1 he).1 (type_ne hk he (by rcases ht with rfl | rfl <;> decide))
theorem OwnB.bx {base K : Nat} {w w' : World} {v : Value} {l : Bs} {cs : Array Value} (h : OwnB base w v l) (hk : Blk w K cs 3) (b : Bx K w w') : OwnB base w' v l := by
  refine ⟨h.1, ?_⟩
  rcases h.2 with ⟨rfl, hn⟩ | ⟨g, cap, cur, rfl, hb, hh, r⟩
  · exact Or.inl ⟨rfl, hn⟩
  · exact Or.inr ⟨g, cap, cur, rfl, hb, (b.block g (Array.getElem?_eq_some_iff.1 hh).1 (type_ne hk hh (by decide))).trans hh, r⟩

theorem RdF.step {x : Ids} {w w' : World} {c c' : Nat} (h : RdF x w c) (b : Bx x.K w w') (hk : Blk w' x.K #[.int .i64 (c' : Int)] 3) : RdF x w' c' := by
  obtain ⟨base, hs, hl, hi⟩ := h.log
  refine ⟨b.cell h.cell h.rk, hk, b.cell h.cn h.nk, b.cell h.ce h.ek, b.cell h.cl h.lk, h.rk, h.nk, h.ek, h.lk, h.fe, ⟨base, hs, ?_, hi⟩, h.len, h.few, fun j hj => b.cell (h.tz j hj) (fun e => ?_)⟩
  · exact hl.keep fun k _ _ he ht => b.block k (Array.getElem?_eq_some_iff.1 he).1 (type_ne h.ck he (by rcases ht with rfl | rfl <;> decide))
  · have h1 := h.tz 0 (by decide)
    have h2 := h.ck.cell 0
    have e' : 1 = x.K := e
    rw [← e', h1] at h2
    simp at h2
theorem RdF.low {x : Ids} {w w' : World} {c : Nat} (h : RdF x w c) (b : Below w.heap.size w w') : RdF x w' c := h.step (Bx.of b) (h.ck.low b)

/-- What a hash is answered as. -/
def HashF (x : Ids) (c d : Nat) (w : World) (b : Bs) (e : Ending) (w' : World) : Prop :=
  ∃ c', RdF x w' c' ∧ c' ≤ c + d ∧ Bx x.K w w' ∧ ((∃ a q, e = .returned (.tuple #[.slice a 32 q, .int .i64 0]) ∧ b.length = 32 ∧ OwnB w.heap.size w' (.slice a 32 q) b) ∨ (x.fl ≠ 0 ∧ e = .returned (.tuple #[.slice none 0 0, .int .i64 x.er])))

abbrev rfV (x : Ids) : Value := .func (.func 82) #[] #[.pointer (some ⟨x.K, 0, none⟩), .pointer (some ⟨x.NB, 0, none⟩), .pointer (some ⟨x.EB, 0, none⟩), .pointer (some ⟨x.LB, 0, none⟩)]

set_option maxRecDepth 100000 in
set_option maxHeartbeats 1000000 in
theorem readF_any {x : Ids} {w : World} {c v j : Nat} (h : RdF x w c) (hc : c ≤ 1000000) (hv : v ≤ 20) (hj : (j + 1) * 2 ^ v ≤ x.n) :
    Calls Tryd.prog 82 #[.int .i64 (v : Int), .int .i64 (j : Int), .pointer (some ⟨x.K, 0, none⟩), .pointer (some ⟨x.NB, 0, none⟩), .pointer (some ⟨x.EB, 0, none⟩), .pointer (some ⟨x.LB, 0, none⟩)] w (HashF x c 1 w (treeH v (x.lv.drop (j * 2 ^ v)))) := by
  obtain ⟨R, F, n, K, NB, EB, LB, fl, er, lv⟩ := x
  have hK0 := h.ck.cell 0
  have hfree := h.ck.free 0
  have c1 : (c : Int) + 1 = ((c + 1 : Nat) : Int) := by push_cast; rfl
  have hb1 : (c + 1 : Nat) ≤ 1000001 := by omega
  obtain ⟨W1, hW1⟩ : ∃ W1, w.setCell ⟨K, 0, none⟩ (.int .i64 ((c + 1 : Nat) : Int)) = W1 := ⟨_, rfl⟩
  have bx1 : Bx K w W1 := by
    rw [← hW1]
    exact ⟨rfl, rfl, rfl, by rw [set_size]; exact Nat.le_refl _, fun k _ hne => set_other hne⟩
  have hk1 : Blk W1 K #[.int .i64 ((c + 1 : Nat) : Int)] 3 := by
    rw [← hW1]
    exact h.ck.set 0 _
  have h1 : RdF ⟨R, F, n, K, NB, EB, LB, fl, er, lv⟩ W1 (c + 1) := h.step bx1 hk1
  have hKc : W1.cell? ⟨K, 0, none⟩ = some (.int .i64 ((c + 1 : Nat) : Int)) := hk1.cell 0
  have hN : W1.cell? ⟨NB, 0, none⟩ = some (.int .i64 fl) := h1.cn
  have hE : W1.cell? ⟨EB, 0, none⟩ = some (.int .i64 er) := h1.ce
  have hL : W1.cell? ⟨LB, 0, none⟩ = some (.pointer (some ⟨F, 0, none⟩)) := h1.cl
  have hK0' : w.cell? ⟨K, 0, none⟩ = some (.int .i64 (c : Int)) := hK0
  have hfree' : w.frozen? ⟨K, 0, none⟩ = false := hfree
  have hlen : lv.length = n := h1.len
  have hj' : (j + 1) * 2 ^ v ≤ n := hj
  have hfew : n ≤ 1000 := h1.few
  obtain ⟨base, hs, hl, hi⟩ := h1.log
  have hl' : LogAt base W1 F n hs := hl
  have hi' : Inv lv hs := hi
  have h32 : (treeH v (lv.drop (j * 2 ^ v))).length = 32 := hl'.all _ (List.mem_of_getElem? (hi'.tree v j (by rw [hlen]; exact hj')))
  have HH := hide (logHash_ok hl' hi' hlen (by omega) hv hj')
  obtain ⟨T, hT⟩ : ∃ T, treeH v (lv.drop (j * 2 ^ v)) = T := ⟨_, rfl⟩
  show Calls Tryd.prog 82 #[.int .i64 (v : Int), .int .i64 (j : Int), .pointer (some ⟨K, 0, none⟩), .pointer (some ⟨NB, 0, none⟩), .pointer (some ⟨EB, 0, none⟩), .pointer (some ⟨LB, 0, none⟩)] w (HashF ⟨R, F, n, K, NB, EB, LB, fl, er, lv⟩ c 1 w (treeH v (lv.drop (j * 2 ^ v))))
  rw [hT] at HH h32 ⊢
  have H32 := hide h32
  have HR1 := hide h1
  have HBX := hide bx1
  obtain ⟨d, hd⟩ : ∃ d, c + 1 = d := ⟨_, rfl⟩
  rw [hd] at c1 hb1 hKc HR1 hW1
  have HD := hide hd
  have HW := hide hW1
  rw [← hW1] at hN hE hL hKc
  clear h h1 hl hi hl' hi' h32 hW1 bx1 hk1 hT hj hj' hd hK0 hfree hlen hfew
  by_cases hfl : (d : Int) = fl
  · subst hfl
    have hq : ((d : Int) == (d : Int)) = true := by simp
    have HFL : Hid ((d : Int) ≠ 0) := hide (by have := unhide HD; omega)
    go_enter Tryd.func82, Tryd.ntmps82
    go_wp2
    rw [unhide HW] at hE ⊢
    clear hN hL hKc
    go_quiet (fail)
    go_wp2
    go_ret2
    exact ⟨d, (unhide HR1).low (lowN (Below.refl _ _) _), by have := unhide HD; omega, (unhide HBX).trans (Bx.of (lowN (Below.refl _ _) _)), Or.inr ⟨unhide HFL, rfl⟩⟩
  · have hq : ((d : Int) == fl) = false := by simp [hfl]
    go_enter Tryd.func82, Tryd.ntmps82
    go_wp2_with (go_at_call 24; fail)
    rw [unhide HW]
    refine (unhide HH).mono ?_
    rintro e w2 ⟨a, q, rfl, o2, b2⟩
    have HR : Hid (HashF ⟨R, F, n, K, NB, EB, LB, fl, er, lv⟩ c 1 w T (.returned (.tuple #[.slice a 32 q, .int .i64 0])) w2) := hide ⟨d, (unhide HR1).low b2, by have := unhide HD; omega, (unhide HBX).trans (Bx.of b2), Or.inl ⟨a, q, rfl, unhide H32, OwnB.less (unhide HBX).size o2⟩⟩
    clear o2 b2 HH hN hE hL hKc
    go_wp2
    go_ret2
    exact unhide HR
end Go.Proofs.YtkpmbbeidcpclaaDoor

namespace Go.Proofs.YtkpmbbeidcpclaaDoor
open Go.RowKit

theorem fn_nilF {p : Array Value} {w : World} : (binOp BinOp.eql 60 (.func (.func 82) #[] p) .nilFunc).run Tryd.prog w = .ok (.bool false) w := by kernel_rfl

set_option maxRecDepth 100000 in
set_option maxHeartbeats 1000000 in
theorem readC_any {x : Ids} {w : World} {c v j : Nat} (h : RdF x w c) (hc : c ≤ 1000000) (hv : v ≤ 20) (hj : (j + 1) * 2 ^ v ≤ x.n) :
    Calls Tryd.prog 107 #[.int .i64 (v : Int), .int .i64 (j : Int), .pointer (some ⟨x.R, 0, none⟩)] w (HashF x c 1 w (treeH v (x.lv.drop (j * 2 ^ v)))) := by
  have HH := hide (readF_any h hc hv hj)
  have hcell := h.cell
  obtain ⟨R, F, n, K, NB, EB, LB, fl, er, lv⟩ := x
  simp only at hcell HH ⊢
  obtain ⟨T, hT⟩ : ∃ T, treeH v (lv.drop (j * 2 ^ v)) = T := ⟨_, rfl⟩
  rw [hT] at HH ⊢
  have hfn := fn_nilF (p := #[.pointer (some ⟨K, 0, none⟩), .pointer (some ⟨NB, 0, none⟩), .pointer (some ⟨EB, 0, none⟩), .pointer (some ⟨LB, 0, none⟩)]) (w := w)
  clear h hT hj
  go_enter Tryd.func107, Tryd.ntmps107
  go_wp2_with (go_at_call 82; fail)
  refine (unhide HH).mono ?_
  rintro e w1 ⟨c', r1, hc', bx1, h1⟩
  have HR1 := hide r1
  have HX1 := hide bx1
  have HC1 := hide hc'
  have hfe := r1.fe
  clear r1 bx1 hc' HH
  rcases h1 with ⟨a, q, rfl, h32, o1⟩ | ⟨hfl, rfl⟩
  · obtain ⟨g1, c1, hve, hb1⟩ := OwnB.adr o1 h32
    obtain ⟨rfl, _, rfl⟩ := Value.slice.inj hve
    have HC := hide (clone_any (c := q) h32 (by omega) hb1)
    have H32 := hide h32
    clear o1 hve hb1 h32 hfe
    go_wp2_with (go_at_call 60; fail)
    refine (unhide HC).mono ?_
    rintro e w2 ⟨v2, rfl, o2, b2⟩
    obtain ⟨g2, c2, rfl, _⟩ := OwnB.adr o2 (unhide H32)
    have HR : Hid (HashF ⟨R, F, n, K, NB, EB, LB, fl, er, lv⟩ c 1 w T (.returned (.tuple #[.slice (some ⟨g2, 0, none⟩) 32 c2, .int .i64 0])) w2) := hide ⟨c', (unhide HR1).low b2, unhide HC1, (unhide HX1).trans (Bx.of b2), Or.inl ⟨_, c2, rfl, unhide H32, OwnB.less (unhide HX1).size o2⟩⟩
    clear o2 b2 HC
    go_wp2
    go_ret2
    exact unhide HR
  · have hq : (er != 0) = true := by have := hfe hfl; simpa using this
    have HFL := hide hfl
    clear hfe hfl
    go_wp2
    go_ret2
    exact ⟨c', unhide HR1, unhide HC1, unhide HX1, Or.inr ⟨unhide HFL, rfl⟩⟩

set_option maxRecDepth 100000 in
set_option maxHeartbeats 2000000 in
theorem spanHashF_any : ∀ (k : Nat) {x : Ids} {w : World} {c f n : Nat} (_ : RdF x w c) (_ : c + n ≤ 1000000) (_ : 1 ≤ n) (_ : n ≤ k) (_ : f + n ≤ x.n) (_ : Al f n),
    Calls Tryd.prog 80 #[.agg #[.int .i64 (f : Int), .int .i64 (n : Int)], rdV x.R] w (HashF x c n w (mth k ((x.lv.drop f).take n)))
  | 0, x, w, c, f, n, _, _, h1, hk, _, _ => by omega
  | k + 1, x, w, c, f, n, hrd, hcn, h1, hk, hN, hal => by
    have hfew := hrd.few
    obtain ⟨W1, hW1⟩ : ∃ W1, w.alloc (.cells #[.int .i64 (f : Int), .int .i64 (n : Int)] 100) = W1 := ⟨_, rfl⟩
    have b1 : Below w.heap.size w W1 := by rw [← hW1]; exact (Below.refl _ _).alloc (Nat.le_refl _) _
    have hblk : Blk W1 w.heap.size #[.int .i64 (f : Int), .int .i64 (n : Int)] 100 := by rw [← hW1]; exact Blk.new _ _ _
    have hc0 : W1.cell? ⟨w.heap.size, 0, none⟩ = some (.int .i64 (f : Int)) := hblk.cell 0
    have hc1 : W1.cell? ⟨w.heap.size, 1, none⟩ = some (.int .i64 (n : Int)) := hblk.cell 1
    have hrd1 := hrd.low b1
    have hand := and_i64 n (n - 1) (by omega) (by omega)
    obtain ⟨n1, hn1⟩ : ∃ n1, n - 1 = n1 := ⟨_, rfl⟩
    have e1 : (n : Int) - 1 = (n1 : Int) := by omega
    rw [hn1] at hand
    obtain ⟨lv, hlv⟩ : ∃ lv, x.lv = lv := ⟨_, rfl⟩
    obtain ⟨N, hNe⟩ : ∃ N, x.n = N := ⟨_, rfl⟩
    obtain ⟨R, hRe⟩ : ∃ R, x.R = R := ⟨_, rfl⟩
    have hlen := hrd.len
    rw [hlv, hNe] at hlen
    rw [hlv, hRe]
    rw [hNe] at hN hfew
    have hllen : ((lv.drop f).take n).length = n := by rw [List.length_take, List.length_drop, hlen]; omega
    rcases pow_or h1 (by omega) with ⟨v, hv, hp, h0⟩ | ⟨h2, hlt, hne⟩
    · rw [hn1] at h0
      rw [h0] at hand
      have hand' : bits .and .i64 (n : Int) (n1 : Int) = 0 := hand
      have htz := tz_any hv hp hrd1.tz
      have hfm := hal v (by omega)
      obtain ⟨j, hj⟩ : ∃ j, f / 2 ^ v = j := ⟨_, rfl⟩
      have hfj : j * 2 ^ v = f := by rw [← hj]; exact Nat.div_mul_cancel (Nat.dvd_of_mod_eq_zero hfm)
      have hjn : (j + 1) * 2 ^ v ≤ N := by rw [Nat.succ_mul, hfj, hp]; exact hN
      have HRD := hide (readC_any hrd1 (by omega) hv (by rw [hNe]; exact hjn))
      rw [hfj, hlv, hRe] at HRD
      have hmt : mth (k + 1) ((lv.drop f).take n) = treeH v (lv.drop f) := by
        rw [mth_tree v (k + 1) _ hv (by rw [hllen, hp]) (by omega)]
        conv => rhs; rw [← List.take_append_drop n (lv.drop f)]
        rw [treeH_app v _ _ (by rw [hllen, hp]; exact Nat.le_refl _)]
      rw [hmt]
      have e2 : (f : Int) / 2 ^ v = (j : Int) := by rw [pow_int, ← Int.natCast_ediv, hj]
      have e3 : min v 64 = v := by omega
      have HTZ := hide htz
      have HW := hide hW1
      have HB := hide b1
      clear hand h0 htz hp hfm hj hfj hjn hmt hblk hrd hrd1 hW1 b1 hllen hal hn1 hlv hNe hRe hlen
      go_enter Tryd.func80, Tryd.ntmps80
      go_wp2_with (go_at_call 105; fail)
      rw [unhide HW]
      refine (unhide HTZ).mono ?_
      rintro e w2 ⟨rfl, rfl⟩
      go_wp2_with (go_at_call 107; fail)
      refine (unhide HRD).mono ?_
      rintro e w3 ⟨c', r3, hc', bx3, h3⟩
      have HA : Hid (∃ c', RdF x w3 c' ∧ c' ≤ c + n ∧ Bx x.K w w3) := hide ⟨c', r3, by omega, (Bx.of (unhide HB)).trans bx3⟩
      clear r3 hc' bx3
      rcases h3 with ⟨a, q, rfl, h32, o3⟩ | ⟨hfl, rfl⟩
      · have HR : Hid (HashF x c n w (treeH v (lv.drop f)) (.returned (.tuple #[.slice a 32 q, .int .i64 0])) w3) := hide (by
          obtain ⟨c', r, hc, b⟩ := unhide HA
          exact ⟨c', r, hc, b, Or.inl ⟨a, q, rfl, h32, OwnB.less (unhide HB).size o3⟩⟩)
        clear o3 h32
        go_wp2
        go_ret2
        exact unhide HR
      · have HR : Hid (HashF x c n w (treeH v (lv.drop f)) (.returned (.tuple #[.slice none 0 0, .int .i64 x.er])) w3) := hide (by
          obtain ⟨c', r, hc, b⟩ := unhide HA
          exact ⟨c', r, hc, b, Or.inr ⟨hfl, rfl⟩⟩)
        clear hfl
        go_wp2
        go_ret2
        exact unhide HR
    · rw [hn1] at hne
      have hand' : (bits .and .i64 (n : Int) (n1 : Int) == 0) = false := by rw [hand]; simp; exact hne
      obtain ⟨g1, g2, _, _⟩ := half_is h2 (by omega)
      obtain ⟨h, hh⟩ : ∃ h, half n = h := ⟨_, rfl⟩
      have HHV := hide (fun wx => halves_any (f := f) h2 (by omega) (by omega) hh wx)
      have hmt := mth_two (f := k) (l := (lv.drop f).take n) (by omega)
      rw [hllen, hh] at hmt
      have al1 := hal.left h2 (by omega)
      have al2 := hal.right h2 (by omega)
      rw [hh] at al1 al2 g1 g2
      obtain ⟨f2, hf2⟩ : ∃ f2, f + h = f2 := ⟨_, rfl⟩
      obtain ⟨n2, hn2⟩ : ∃ n2, n - h = n2 := ⟨_, rfl⟩
      rw [hf2, hn2] at HHV al2
      have t1 : ((lv.drop f).take n).take h = (lv.drop f).take h := by rw [List.take_take, Nat.min_eq_left (by omega)]
      have t2 : ((lv.drop f).take n).drop h = (lv.drop f2).take n2 := by rw [List.drop_take, List.drop_drop, hf2, hn2]
      rw [t1, t2] at hmt
      have HRD := hide hrd1
      have HAL1 := hide al1
      have HAL2 := hide al2
      have HMT := hide hmt
      have HW := hide hW1
      have HB := hide b1
      have k1 : 1 ≤ h := by omega
      have k2 : h ≤ k := by omega
      have k3 : f + h ≤ N := by omega
      have k4 : 1 ≤ n2 := by omega
      have k5 : n2 ≤ k := by omega
      have k6 : f2 + n2 ≤ N := by omega
      have k7 : h + n2 = n := by omega
      have HLE := hide (And.intro hlv (And.intro hNe hRe))
      clear hand hne hblk hrd hrd1 hW1 b1 hllen hal hn1 hh hmt al1 al2 hf2 hn2 t1 t2 hlv hNe hRe hlen
      go_enter Tryd.func80, Tryd.ntmps80
      go_wp2_with (go_at_call 106; fail)
      rw [unhide HW]
      refine (unhide HHV _).mono ?_
      rintro e w3 ⟨rfl, b3⟩
      obtain ⟨W4, hW4⟩ : ∃ W4, (w3.alloc (.cells #[.int .i64 (f : Int), .int .i64 (h : Int)] 100)).alloc (.cells #[.int .i64 (f2 : Int), .int .i64 (n2 : Int)] 100) = W4 := ⟨_, rfl⟩
      have s3 : (w3.alloc (.cells #[.int .i64 (f : Int), .int .i64 (h : Int)] 100)).heap.size = w3.heap.size + 1 := by simp
      have b4 : Below w3.heap.size w3 W4 := by rw [← hW4]; exact ((Below.refl _ _).alloc (Nat.le_refl _) _).alloc (by rw [s3]; omega) _
      have hk8 : Blk W4 (w3.heap.size + 1) #[.int .i64 (f2 : Int), .int .i64 (n2 : Int)] 100 := by
        have := Blk.new (w3.alloc (.cells #[.int .i64 (f : Int), .int .i64 (h : Int)] 100)) #[.int .i64 (f2 : Int), .int .i64 (n2 : Int)] 100
        rw [s3, hW4] at this
        exact this
      have hb4 := low_trans (low_trans (unhide HB) b3) b4
      have hr4 := ((unhide HRD).low b3).low b4
      have HRC := hide (spanHashF_any k hr4 (by omega) k1 k2 (by rw [(unhide HLE).2.1]; exact k3) (unhide HAL1))
      rw [(unhide HLE).1, (unhide HLE).2.2] at HRC
      have HB4 := hide hb4
      have HW4 := hide hW4
      have HK8 := hide hk8
      have HK4 := hide hr4.ck
      clear b3 b4 hk8 hb4 hW4 s3 HRD HB hc0 hc1 hr4
      go_wp2_with (go_at_call 80; fail)
      rw [unhide HW4]
      refine (unhide HRC).mono ?_
      rintro e w5 ⟨c5, r5, hc5, bx5, h5⟩
      have hX5 := (Bx.of (unhide HB4)).trans bx5
      rcases h5 with ⟨a5, q5, rfl, h32, o5⟩ | ⟨hfl, rfl⟩
      · have hne8 : w3.heap.size + 1 ≠ x.K := type_ne (unhide HK4) (unhide HK8) (by decide)
        have hk5 : Blk w5 (w3.heap.size + 1) #[.int .i64 (f2 : Int), .int .i64 (n2 : Int)] 100 := (bx5.block _ (unhide HK8).lt hne8).trans (unhide HK8)
        have d0 : w5.cell? ⟨w3.heap.size + 1, 0, none⟩ = some (.int .i64 (f2 : Int)) := hk5.cell 0
        have d1 : w5.cell? ⟨w3.heap.size + 1, 1, none⟩ = some (.int .i64 (n2 : Int)) := hk5.cell 1
        have HRC2 := hide (spanHashF_any k r5 (by omega) k4 k5 (by rw [(unhide HLE).2.1]; exact k6) (unhide HAL2))
        rw [(unhide HLE).1, (unhide HLE).2.2] at HRC2
        have HO5 := hide (And.intro h32 o5)
        have HX5 := hide hX5
        have HC5 := hide hc5
        have HK5 := hide r5.ck
        clear h32 o5 hk5 HRC HK8 hX5 hc5 bx5 r5 hne8 HK4
        go_wp2_with (go_at_call 80; fail)
        refine (unhide HRC2).mono ?_
        rintro e w6 ⟨c6, r6, hc6, bx6, h6⟩
        have HX6 := hide ((unhide HX5).trans bx6)
        have HR6 := hide r6
        have HC6 : Hid (c6 ≤ c + n) := hide (by have := unhide HC5; omega)
        have o5' := OwnB.bx (unhide HO5).2 (unhide HK5) bx6
        clear r6 hc6 bx6
        rcases h6 with ⟨a6, q6, rfl, h32', o6⟩ | ⟨hfl, rfl⟩
        · have h32 := (unhide HO5).1
          obtain ⟨x5, y5, hv5, hb5⟩ := OwnB.adr o5' h32
          obtain ⟨x6, y6, hv6, hb6⟩ := OwnB.adr o6 h32'
          obtain ⟨rfl, _, rfl⟩ := Value.slice.inj hv5
          obtain ⟨rfl, _, rfl⟩ := Value.slice.inj hv6
          have HND := hide (node_any (c := q5) (c2 := q6) h32 h32' (by omega) (by omega) hb5 hb6)
          clear h32 o5' h32' o6 hv5 hv6 hb5 hb6 HO5 HRC2 HB4 d0 d1
          go_wp2_with (go_at_call 93; fail)
          refine (unhide HND).mono ?_
          rintro e w7 ⟨v7, rfl, o7, b7⟩
          obtain ⟨g7, c7, rfl, _⟩ := OwnB.adr o7 (node_len _ _)
          have HR : Hid (HashF x c n w (mth (k + 1) ((lv.drop f).take n)) (.returned (.tuple #[.slice (some ⟨g7, 0, none⟩) 32 c7, .int .i64 0])) w7) := hide ⟨c6, (unhide HR6).low b7, unhide HC6, (unhide HX6).trans (Bx.of b7), Or.inl ⟨_, c7, rfl, by rw [unhide HMT]; exact node_len _ _, by rw [unhide HMT]; exact OwnB.less (unhide HX6).size o7⟩⟩
          clear o7 b7 HND
          go_wp2
          go_ret2
          exact unhide HR
        · have hq : (x.er != 0) = true := by have := (unhide HR6).fe hfl; simpa using this
          have HR : Hid (HashF x c n w (mth (k + 1) ((lv.drop f).take n)) (.returned (.tuple #[.slice none 0 0, .int .i64 x.er])) w6) := hide ⟨c6, unhide HR6, unhide HC6, unhide HX6, Or.inr ⟨hfl, rfl⟩⟩
          clear hfl o5' d0 d1
          go_wp2
          go_ret2
          exact unhide HR
      · have hq : (x.er != 0) = true := by have := r5.fe hfl; simpa using this
        have HR : Hid (HashF x c n w (mth (k + 1) ((lv.drop f).take n)) (.returned (.tuple #[.slice none 0 0, .int .i64 x.er])) w5) := hide ⟨c5, r5, by omega, hX5, Or.inr ⟨hfl, rfl⟩⟩
        clear hfl r5 hc5 bx5 hX5
        go_wp2
        go_ret2
        exact unhide HR

end Go.Proofs.YtkpmbbeidcpclaaDoor

namespace Go.Proofs.YtkpmbbeidcpclaaDoor
open Go.RowKit

/-- All blocks below a bound but one are as they were. -/
structure Bb (base K : Nat) (w w' : World) : Prop where
  os : w'.os = w.os
  tape : w'.tape = w.tape
  output : w'.output = w.output
  size : w.heap.size ≤ w'.heap.size
  block : ∀ k, k < base → k ≠ K → w'.heap[k]? = w.heap[k]?
theorem Bx.bb {base K : Nat} {w w' : World} (h : Bx K w w') (hs : base ≤ w.heap.size) : Bb base K w w' := ⟨h.os, h.tape, h.output, h.size, fun k hk hne => h.block k (by omega) hne⟩
theorem Bb.trans {base K : Nat} {a b c : World} (h : Bb base K a b) (k : Bb base K b c) : Bb base K a c :=
  ⟨k.os.trans h.os, k.tape.trans h.tape, k.output.trans h.output, Nat.le_trans h.size k.size, fun i hi hne => (k.block i hi hne).trans (h.block i hi hne)⟩
theorem Bb.of {base K : Nat} {w w' : World} (b : Below base w w') : Bb base K w w' := ⟨b.os, b.tape, b.output, b.size, fun k hk _ => b.block k hk⟩
theorem Bb.low {base b2 K : Nat} {w w' : World} (h : Bb base K w w') (hk : b2 ≤ K) (hs : b2 ≤ base) : Below b2 w w' := ⟨h.os, h.tape, h.output, h.size, fun k hk' => h.block k (by omega) (by omega)⟩
theorem Bb.bx {K : Nat} {w w' : World} (h : Bb w.heap.size K w w') : Bx K w w' := ⟨h.os, h.tape, h.output, h.size, h.block⟩
theorem Bb.cell {base K : Nat} {w w' : World} (h : Bb base K w w') {a : Addr} {v : Value} (hc : w.cell? a = some v) (hl : a.block < base) (hne : a.block ≠ K) : w'.cell? a = some v := by
  unfold World.cell? at hc ⊢
  rw [h.block _ hl hne]
  exact hc

/-- The things of a read lie below a bound. -/
structure Lo (x : Ids) (base : Nat) : Prop where
  r : x.R < base
  k : x.K < base
  nb : x.NB < base
  eb : x.EB < base
  lb : x.LB < base
  one : 1 < base
theorem RdF.lo {x : Ids} {w : World} {c : Nat} (h : RdF x w c) : Lo x w.heap.size :=
  ⟨lt_of_cell h.cell, h.ck.lt, lt_of_cell h.cn, lt_of_cell h.ce, lt_of_cell h.cl, lt_of_cell (h.tz 0 (by decide))⟩
theorem Lo.le {x : Ids} {a b : Nat} (h : Lo x a) (hb : a ≤ b) : Lo x b := ⟨by have := h.r; omega, by have := h.k; omega, by have := h.nb; omega, by have := h.eb; omega, by have := h.lb; omega, by have := h.one; omega⟩
theorem RdF.app {x : Ids} {base : Nat} {w w' : World} {c : Nat} (h : RdF x w c) (hlo : Lo x base) (b : Below base w w') (hb : ∀ k, k < w.heap.size → (∀ cs, w.heap[k]? ≠ some (.cells cs 29 (0, 0))) → w'.heap[k]? = w.heap[k]?) : RdF x w' c := by
  obtain ⟨bs, hs, hl, hi⟩ := h.log
  refine ⟨(b.cell hlo.r).trans h.cell, (b.block _ hlo.k).trans h.ck, (b.cell hlo.nb).trans h.cn, (b.cell hlo.eb).trans h.ce, (b.cell hlo.lb).trans h.cl, h.rk, h.nk, h.ek, h.lk, h.fe, ⟨bs, hs, ?_, hi⟩, h.len, h.few, fun j hj => (b.cell (p := ⟨1, j, none⟩) hlo.one).trans (h.tz j hj)⟩
  exact hl.keep fun k _ t he ht => hb k (Array.getElem?_eq_some_iff.1 he).1 (fun cs' e => by
    rw [he] at e; simp only [Option.some.injEq, Obj.cells.injEq] at e; obtain ⟨_, rfl, _⟩ := e; revert ht; decide)

/-- What a proof is answered as. -/
def ProofF (x : Ids) (c d base : Nat) (w : World) (ps : List Bs) (e : Ending) (w' : World) : Prop :=
  ∃ c', RdF x w' c' ∧ c' ≤ c + d ∧ Bb base x.K w w' ∧ ((∃ v, e = .returned (.tuple #[v, .int .i64 0]) ∧ LvAt base w' v ps) ∨ (x.fl ≠ 0 ∧ e = .returned (.tuple #[.slice none 0 0, .int .i64 x.er])))

set_option maxRecDepth 100000 in
set_option maxHeartbeats 1000000 in
theorem behindF_any {x : Ids} {base : Nat} {w : World} {c f n k : Nat} {ps : List Bs} {v : Value} (hrd : RdF x w c) (hcn : c + n ≤ 1000000) (hlo : Lo x base) (h1 : 1 ≤ n) (hk : n ≤ k) (hN : f + n ≤ x.n) (hal : Al f n) (hlv : LvAt base w v ps) (hb : base ≤ w.heap.size) (hps : ps.length ≤ 100000) :
    Calls Tryd.prog 108 #[.agg #[.int .i64 (f : Int), .int .i64 (n : Int)], v, .int .i64 0, rdV x.R] w (ProofF x c n base w (ps ++ [mth k ((x.lv.drop f).take n)])) := by
  obtain ⟨W1, hW1⟩ : ∃ W1, w.alloc (.cells #[.int .i64 (f : Int), .int .i64 (n : Int)] 100) = W1 := ⟨_, rfl⟩
  have b1 : Below w.heap.size w W1 := by rw [← hW1]; exact (Below.refl _ _).alloc (Nat.le_refl _) _
  have hr1 := hrd.low b1
  have HSP := hide (spanHashF_any k hr1 hcn h1 hk hN hal)
  have HLV := hide (hlv.low b1)
  have HK1 := hide hr1.ck
  have HB1 := hide b1
  have HW := hide hW1
  have HLO := hide hlo
  obtain ⟨T, hT⟩ : ∃ T, mth k ((x.lv.drop f).take n) = T := ⟨_, rfl⟩
  rw [hT] at HSP ⊢
  obtain ⟨R, hR⟩ : ∃ R, x.R = R := ⟨_, rfl⟩
  rw [hR] at HSP ⊢
  clear hrd hr1 hlv b1 hW1 hT hal hN hlo hR
  go_enter Tryd.func108, Tryd.ntmps108
  go_wp2_with (go_at_call 80; fail)
  rw [unhide HW]
  refine (unhide HSP).mono ?_
  rintro e w2 ⟨c2, r2, hc2, bx2, h2⟩
  have hb2 : base ≤ w2.heap.size := Nat.le_trans hb (Nat.le_trans (unhide HB1).size bx2.size)
  have hx2 : Bb base x.K w w2 := ((Bx.of (unhide HB1)).trans bx2).bb hb
  rcases h2 with ⟨a, q, rfl, h32, o2⟩ | ⟨hfl, rfl⟩
  · obtain ⟨W3, hW3⟩ : ∃ W3, w2.alloc (.cells #[.slice a 32 q] 29) = W3 := ⟨_, rfl⟩
    obtain ⟨v', w', happ, lv', low', hblk⟩ := app_leaf ((unhide HLV).bx (unhide HK1) bx2) (OwnB.less (Nat.le_trans hb (unhide HB1).size) o2) hb2 (by omega) hW3
    have HR : Hid (ProofF x c n base w (ps ++ [T]) (.returned (.tuple #[v', .int .i64 0])) w') := hide ⟨c2, r2.app (unhide HLO) low' hblk, hc2, hx2.trans (Bb.of low'), Or.inl ⟨v', rfl, lv'⟩⟩
    have HW3 := hide hW3
    clear o2 bx2 h32 hb2 hW3 lv' low' hblk r2 hc2 hx2 HSP
    go_wp2_with (at_builtin; rw [unhide HW3]; refine Lib.wpList_append_run _ rfl _ _ _ _ rfl _ _ rfl rfl _ _ happ ?_)
    go_ret2
    exact unhide HR
  · have hq : (x.er != 0) = true := by have := r2.fe hfl; simpa using this
    have HR : Hid (ProofF x c n base w (ps ++ [T]) (.returned (.tuple #[.slice none 0 0, .int .i64 x.er])) w2) := hide ⟨c2, r2, hc2, hx2, Or.inr ⟨hfl, rfl⟩⟩
    clear bx2 hb2 r2 hc2 hx2 HSP hfl
    go_wp2
    go_ret2
    exact unhide HR

set_option maxRecDepth 100000 in
theorem behindF_err {w : World} {f n : Nat} {er : Int} {v r : Value} (he : er ≠ 0) :
    Calls Tryd.prog 108 #[.agg #[.int .i64 (f : Int), .int .i64 (n : Int)], v, .int .i64 er, r] w fun e w' => e = .returned (.tuple #[.slice none 0 0, .int .i64 er]) ∧ Below w.heap.size w w' := by
  obtain ⟨W1, hW1⟩ : ∃ W1, w.alloc (.cells #[.int .i64 (f : Int), .int .i64 (n : Int)] 100) = W1 := ⟨_, rfl⟩
  have HB : Hid (Below w.heap.size w W1) := hide (by rw [← hW1]; exact (Below.refl _ _).alloc (Nat.le_refl _) _)
  have HW := hide hW1
  have hq : (er != 0) = true := by simpa using he
  clear hW1 he
  go_enter Tryd.func108, Tryd.ntmps108
  go_wp2
  rw [unhide HW]
  go_ret2
  exact ⟨rfl, unhide HB⟩

set_option maxRecDepth 100000 in
set_option maxHeartbeats 2000000 in
theorem spanPathF_any : ∀ (k : Nat) {x : Ids} {w : World} {c f n i : Nat} (_ : RdF x w c) (_ : c + n ≤ 1000000) (_ : 1 ≤ n) (_ : n ≤ k) (_ : k ≤ 100000) (_ : f + n ≤ x.n) (_ : Al f n) (_ : i < n),
    Calls Tryd.prog 83 #[.agg #[.int .i64 (f : Int), .int .i64 (n : Int)], .int .i64 (i : Int), rdV x.R] w (ProofF x c n w.heap.size w (pathP k i ((x.lv.drop f).take n)))
  | 0, x, w, c, f, n, i, _, _, h1, hk, _, _, _, _ => by omega
  | k + 1, x, w, c, f, n, i, hrd, hcn, h1, hk, hkb', hN, hal, hin => by
    have hfew := hrd.few
    have hkb : k ≤ 100000 := by omega
    obtain ⟨W1, hW1⟩ : ∃ W1, w.alloc (.cells #[.int .i64 (f : Int), .int .i64 (n : Int)] 100) = W1 := ⟨_, rfl⟩
    have b1 : Below w.heap.size w W1 := by rw [← hW1]; exact (Below.refl _ _).alloc (Nat.le_refl _) _
    have hrd1 := hrd.low b1
    have hlo := hrd.lo
    obtain ⟨lv, hlv⟩ : ∃ lv, x.lv = lv := ⟨_, rfl⟩
    obtain ⟨N, hNe⟩ : ∃ N, x.n = N := ⟨_, rfl⟩
    obtain ⟨R, hRe⟩ : ∃ R, x.R = R := ⟨_, rfl⟩
    have hlen := hrd.len
    rw [hlv, hNe] at hlen
    rw [hlv, hRe]
    rw [hNe] at hN hfew
    have hllen : ((lv.drop f).take n).length = n := by rw [List.length_take, List.length_drop, hlen]; omega
    by_cases hn1 : n = 1
    · subst hn1
      have HR : Hid (ProofF x c 1 w.heap.size w (pathP (k + 1) i ((lv.drop f).take 1)) (.returned (.tuple #[.slice none 0 0, .int .i64 0])) W1) := hide ⟨c, hrd1, by omega, Bb.of b1, Or.inl ⟨_, rfl, by
        have e : pathP (k + 1) i ((lv.drop f).take 1) = [] := by
          show (if ((lv.drop f).take 1).length ≤ 1 then _ else _) = _
          rw [if_pos (by rw [hllen]; exact Nat.le_refl _)]
        rw [e]; exact LvAt.nil _ _⟩⟩
      have HW := hide hW1
      clear hrd hrd1 b1 hW1 hllen hal hlv hNe hRe hlen hlo
      go_enter Tryd.func83, Tryd.ntmps83
      go_wp2
      rw [show w.alloc (.cells #[.int .i64 (f : Int), .int .i64 1] 100) = W1 from unhide HW]
      go_ret2
      exact unhide HR
    have h2 : 2 ≤ n := by omega
    have hq : ((n : Int) == 1) = false := by simp; omega
    have hmt := pathP_two (k := k) (i := i) (l := (lv.drop f).take n) (by omega)
    obtain ⟨g1, g2, _, _⟩ := half_is h2 (by omega)
    obtain ⟨h, hh⟩ : ∃ h, half n = h := ⟨_, rfl⟩
    have HHV := hide (fun wx => halves_any (f := f) h2 (by omega) (by omega) hh wx)
    rw [hllen, hh] at hmt
    have al1 := hal.left h2 (by omega)
    have al2 := hal.right h2 (by omega)
    rw [hh] at al1 al2 g1 g2
    obtain ⟨f2, hf2⟩ : ∃ f2, f + h = f2 := ⟨_, rfl⟩
    obtain ⟨n2, hn2⟩ : ∃ n2, n - h = n2 := ⟨_, rfl⟩
    rw [hf2, hn2] at HHV al2
    have t1 : ((lv.drop f).take n).take h = (lv.drop f).take h := by rw [List.take_take, Nat.min_eq_left (by omega)]
    have t2 : ((lv.drop f).take n).drop h = (lv.drop f2).take n2 := by rw [List.drop_take, List.drop_drop, hf2, hn2]
    rw [t1, t2] at hmt
    have hblk : Blk W1 w.heap.size #[.int .i64 (f : Int), .int .i64 (n : Int)] 100 := by rw [← hW1]; exact Blk.new _ _ _
    have hc0 : W1.cell? ⟨w.heap.size, 0, none⟩ = some (.int .i64 (f : Int)) := hblk.cell 0
    have hc1 : W1.cell? ⟨w.heap.size, 1, none⟩ = some (.int .i64 (n : Int)) := hblk.cell 1
    have HRD := hide hrd1
    have HAL1 := hide al1
    have HAL2 := hide al2
    have HW := hide hW1
    have HB := hide b1
    have HLO := hide hlo
    have HLE := hide (And.intro hlv (And.intro hNe hRe))
    have k1 : 1 ≤ h := by omega
    have k2 : h ≤ k := by omega
    have k3 : f + h ≤ N := by omega
    have k4 : 1 ≤ n2 := by omega
    have k5 : n2 ≤ k := by omega
    have k6 : f2 + n2 ≤ N := by omega
    have k7 : h + n2 = n := by omega
    clear hblk hrd hrd1 hW1 b1 hllen hal hh al1 al2 hf2 hn2 t1 t2 hlv hNe hRe hlen hlo
    by_cases hlt : i < h
    · rw [if_pos hlt] at hmt
      have HMT := hide hmt
      clear hmt
      go_enter Tryd.func83, Tryd.ntmps83
      go_wp2_with (go_at_call 106; fail)
      rw [unhide HW]
      refine (unhide HHV _).mono ?_
      rintro e w3 ⟨rfl, b3⟩
      obtain ⟨W4, hW4⟩ : ∃ W4, (w3.alloc (.cells #[.int .i64 (f : Int), .int .i64 (h : Int)] 100)).alloc (.cells #[.int .i64 (f2 : Int), .int .i64 (n2 : Int)] 100) = W4 := ⟨_, rfl⟩
      have s3 : (w3.alloc (.cells #[.int .i64 (f : Int), .int .i64 (h : Int)] 100)).heap.size = w3.heap.size + 1 := by simp
      have b4 : Below w3.heap.size w3 W4 := by rw [← hW4]; exact ((Below.refl _ _).alloc (Nat.le_refl _) _).alloc (by rw [s3]; omega) _
      have hkA : Blk W4 w3.heap.size #[.int .i64 (f : Int), .int .i64 (h : Int)] 100 := by
        rw [← hW4]; exact (Blk.new w3 _ _).alloc _
      have hkB : Blk W4 (w3.heap.size + 1) #[.int .i64 (f2 : Int), .int .i64 (n2 : Int)] 100 := by
        have := Blk.new (w3.alloc (.cells #[.int .i64 (f : Int), .int .i64 (h : Int)] 100)) #[.int .i64 (f2 : Int), .int .i64 (n2 : Int)] 100
        rw [s3, hW4] at this
        exact this
      have hb4 := low_trans (low_trans (unhide HB) b3) b4
      have hr4 := ((unhide HRD).low b3).low b4
      have HRC := hide (spanPathF_any k hr4 (by omega) k1 k2 hkb (by rw [(unhide HLE).2.1]; exact k3) (unhide HAL1) hlt)
      rw [(unhide HLE).1, (unhide HLE).2.2] at HRC
      have HB4 := hide hb4
      have HW4 := hide hW4
      have HKX := hide hkB
      have HK4 := hide hr4.ck
      clear b3 b4 hkA hkB hb4 hW4 s3 HRD HB hc0 hc1 hr4
      go_wp2_with (go_at_call 83; fail)
      rw [unhide HW4]
      refine (unhide HRC).mono ?_
      rintro e w5 ⟨c5, r5, hc5, bb5, h5⟩
      have bx5 := bb5.bx
      have hX5 := (Bx.of (unhide HB4)).trans bx5
      have hne8 : w3.heap.size + 1 ≠ x.K := type_ne (unhide HK4) (unhide HKX) (by decide)
      have hkx : Blk w5 (w3.heap.size + 1) #[.int .i64 (f2 : Int), .int .i64 (n2 : Int)] 100 := (bx5.block _ (unhide HKX).lt hne8).trans (unhide HKX)
      have d0 : w5.cell? ⟨w3.heap.size + 1, 0, none⟩ = some (.int .i64 (f2 : Int)) := hkx.cell 0
      have d1 : w5.cell? ⟨w3.heap.size + 1, 1, none⟩ = some (.int .i64 (n2 : Int)) := hkx.cell 1
      have hs5 : w.heap.size ≤ w5.heap.size := hX5.size
      rcases h5 with ⟨v5, rfl, l5⟩ | ⟨hfl, rfl⟩
      · have HBH := hide (behindF_any (base := w.heap.size) (k := k) (v := v5) (ps := pathP k i ((lv.drop f).take h)) r5 (by omega) (unhide HLO) k4 k5 (by rw [(unhide HLE).2.1]; exact k6) (unhide HAL2) (LvAt.less (unhide HB4).size l5) hs5 (Nat.le_trans (pathP_len _ _ _) hkb))
        rw [(unhide HLE).1, (unhide HLE).2.2] at HBH
        have HX5 := hide hX5
        clear l5 hkx HRC HKX HK4 HB4 bx5 bb5 hX5 hne8 r5
        go_wp2_with (go_at_call 108; fail)
        refine (unhide HBH).mono ?_
        rintro e w6 ⟨c6, r6, hc6, bb6, h6⟩
        have HA : Hid (∃ c', RdF x w6 c' ∧ c' ≤ c + n ∧ Bb w.heap.size x.K w w6) := hide ⟨c6, r6, by omega, ((unhide HX5).bb (Nat.le_refl _)).trans bb6⟩
        clear r6 bb6 hc6 hc5 HBH d0 d1 hs5
        rcases h6 with ⟨v6, rfl, l6⟩ | ⟨hfl, rfl⟩
        · have HR : Hid (ProofF x c n w.heap.size w (pathP (k + 1) i ((lv.drop f).take n)) (.returned (.tuple #[v6, .int .i64 0])) w6) := hide (by
            obtain ⟨c', r, hc, b⟩ := unhide HA
            exact ⟨c', r, hc, b, Or.inl ⟨v6, rfl, by rw [unhide HMT]; exact l6⟩⟩)
          clear l6
          go_wp2
          go_ret2
          exact unhide HR
        · have HR : Hid (ProofF x c n w.heap.size w (pathP (k + 1) i ((lv.drop f).take n)) (.returned (.tuple #[.slice none 0 0, .int .i64 x.er])) w6) := hide (by
            obtain ⟨c', r, hc, b⟩ := unhide HA
            exact ⟨c', r, hc, b, Or.inr ⟨hfl, rfl⟩⟩)
          clear hfl
          go_wp2
          go_ret2
          exact unhide HR
      · have her : x.er ≠ 0 := r5.fe hfl
        have HBE := hide (behindF_err (w := w5) (f := f2) (n := n2) (v := .slice none 0 0) (r := rdV R) her)
        have HFL := hide hfl
        have HR5 := hide r5
        have HX5 := hide hX5
        clear hkx HRC HKX HK4 HB4 bx5 bb5 hX5 hne8 r5 hfl her
        go_wp2_with (go_at_call 108; fail)
        refine (unhide HBE).mono ?_
        rintro e w6 ⟨rfl, b6⟩
        have HR : Hid (ProofF x c n w.heap.size w (pathP (k + 1) i ((lv.drop f).take n)) (.returned (.tuple #[.slice none 0 0, .int .i64 x.er])) w6) := hide ⟨c5, (unhide HR5).low b6, by omega, ((unhide HX5).trans (Bx.of b6)).bb (Nat.le_refl _), Or.inr ⟨unhide HFL, rfl⟩⟩
        clear b6 HBE d0 d1 hs5
        go_wp2
        go_ret2
        exact unhide HR
    · rw [if_neg hlt] at hmt
      obtain ⟨j, hj⟩ : ∃ j, i - h = j := ⟨_, rfl⟩
      have ej : (i : Int) - (h : Int) = (j : Int) := by omega
      rw [hj] at hmt
      have j1 : j < n2 := by omega
      have j2 : j ≤ n2 := by omega
      clear hj
      have HMT := hide hmt
      clear hmt
      go_enter Tryd.func83, Tryd.ntmps83
      go_wp2_with (go_at_call 106; fail)
      rw [unhide HW]
      refine (unhide HHV _).mono ?_
      rintro e w3 ⟨rfl, b3⟩
      obtain ⟨W4, hW4⟩ : ∃ W4, (w3.alloc (.cells #[.int .i64 (f : Int), .int .i64 (h : Int)] 100)).alloc (.cells #[.int .i64 (f2 : Int), .int .i64 (n2 : Int)] 100) = W4 := ⟨_, rfl⟩
      have s3 : (w3.alloc (.cells #[.int .i64 (f : Int), .int .i64 (h : Int)] 100)).heap.size = w3.heap.size + 1 := by simp
      have b4 : Below w3.heap.size w3 W4 := by rw [← hW4]; exact ((Below.refl _ _).alloc (Nat.le_refl _) _).alloc (by rw [s3]; omega) _
      have hkA : Blk W4 w3.heap.size #[.int .i64 (f : Int), .int .i64 (h : Int)] 100 := by
        rw [← hW4]; exact (Blk.new w3 _ _).alloc _
      have hkB : Blk W4 (w3.heap.size + 1) #[.int .i64 (f2 : Int), .int .i64 (n2 : Int)] 100 := by
        have := Blk.new (w3.alloc (.cells #[.int .i64 (f : Int), .int .i64 (h : Int)] 100)) #[.int .i64 (f2 : Int), .int .i64 (n2 : Int)] 100
        rw [s3, hW4] at this
        exact this
      have hb4 := low_trans (low_trans (unhide HB) b3) b4
      have hr4 := ((unhide HRD).low b3).low b4
      have HRC := hide (spanPathF_any k hr4 (by omega) k4 k5 hkb (by rw [(unhide HLE).2.1]; exact k6) (unhide HAL2) j1)
      rw [(unhide HLE).1, (unhide HLE).2.2] at HRC
      have HB4 := hide hb4
      have HW4 := hide hW4
      have HKX := hide hkA
      have HK4 := hide hr4.ck
      clear b3 b4 hkA hkB hb4 hW4 s3 HRD HB hc0 hc1 hr4
      go_wp2_with (go_at_call 83; fail)
      rw [unhide HW4]
      refine (unhide HRC).mono ?_
      rintro e w5 ⟨c5, r5, hc5, bb5, h5⟩
      have bx5 := bb5.bx
      have hX5 := (Bx.of (unhide HB4)).trans bx5
      have hne8 : w3.heap.size ≠ x.K := type_ne (unhide HK4) (unhide HKX) (by decide)
      have hkx : Blk w5 (w3.heap.size) #[.int .i64 (f : Int), .int .i64 (h : Int)] 100 := (bx5.block _ (unhide HKX).lt hne8).trans (unhide HKX)
      have d0 : w5.cell? ⟨w3.heap.size, 0, none⟩ = some (.int .i64 (f : Int)) := hkx.cell 0
      have d1 : w5.cell? ⟨w3.heap.size, 1, none⟩ = some (.int .i64 (h : Int)) := hkx.cell 1
      have hs5 : w.heap.size ≤ w5.heap.size := hX5.size
      rcases h5 with ⟨v5, rfl, l5⟩ | ⟨hfl, rfl⟩
      · have HBH := hide (behindF_any (base := w.heap.size) (k := k) (v := v5) (ps := pathP k j ((lv.drop f2).take n2)) r5 (by omega) (unhide HLO) k1 k2 (by rw [(unhide HLE).2.1]; exact k3) (unhide HAL1) (LvAt.less (unhide HB4).size l5) hs5 (Nat.le_trans (pathP_len _ _ _) hkb))
        rw [(unhide HLE).1, (unhide HLE).2.2] at HBH
        have HX5 := hide hX5
        clear l5 hkx HRC HKX HK4 HB4 bx5 bb5 hX5 hne8 r5
        go_wp2_with (go_at_call 108; fail)
        refine (unhide HBH).mono ?_
        rintro e w6 ⟨c6, r6, hc6, bb6, h6⟩
        have HA : Hid (∃ c', RdF x w6 c' ∧ c' ≤ c + n ∧ Bb w.heap.size x.K w w6) := hide ⟨c6, r6, by omega, ((unhide HX5).bb (Nat.le_refl _)).trans bb6⟩
        clear r6 bb6 hc6 hc5 HBH d0 d1 hs5
        rcases h6 with ⟨v6, rfl, l6⟩ | ⟨hfl, rfl⟩
        · have HR : Hid (ProofF x c n w.heap.size w (pathP (k + 1) i ((lv.drop f).take n)) (.returned (.tuple #[v6, .int .i64 0])) w6) := hide (by
            obtain ⟨c', r, hc, b⟩ := unhide HA
            exact ⟨c', r, hc, b, Or.inl ⟨v6, rfl, by rw [unhide HMT]; exact l6⟩⟩)
          clear l6
          go_wp2
          go_ret2
          exact unhide HR
        · have HR : Hid (ProofF x c n w.heap.size w (pathP (k + 1) i ((lv.drop f).take n)) (.returned (.tuple #[.slice none 0 0, .int .i64 x.er])) w6) := hide (by
            obtain ⟨c', r, hc, b⟩ := unhide HA
            exact ⟨c', r, hc, b, Or.inr ⟨hfl, rfl⟩⟩)
          clear hfl
          go_wp2
          go_ret2
          exact unhide HR
      · have her : x.er ≠ 0 := r5.fe hfl
        have HBE := hide (behindF_err (w := w5) (f := f) (n := h) (v := .slice none 0 0) (r := rdV R) her)
        have HFL := hide hfl
        have HR5 := hide r5
        have HX5 := hide hX5
        clear hkx HRC HKX HK4 HB4 bx5 bb5 hX5 hne8 r5 hfl her
        go_wp2_with (go_at_call 108; fail)
        refine (unhide HBE).mono ?_
        rintro e w6 ⟨rfl, b6⟩
        have HR : Hid (ProofF x c n w.heap.size w (pathP (k + 1) i ((lv.drop f).take n)) (.returned (.tuple #[.slice none 0 0, .int .i64 x.er])) w6) := hide ⟨c5, (unhide HR5).low b6, by omega, ((unhide HX5).trans (Bx.of b6)).bb (Nat.le_refl _), Or.inr ⟨unhide HFL, rfl⟩⟩
        clear b6 HBE d0 d1 hs5
        go_wp2
        go_ret2
        exact unhide HR

set_option maxRecDepth 100000 in
set_option maxHeartbeats 2000000 in
theorem spanGrowF_any : ∀ (k : Nat) {x : Ids} {w : World} {c f n m : Nat} {wh : Bool} (_ : RdF x w c) (_ : c + n ≤ 1000000) (_ : 1 ≤ n) (_ : n ≤ k) (_ : k ≤ 100000) (_ : f + n ≤ x.n) (_ : Al f n) (_ : 1 ≤ m) (_ : m ≤ n),
    Calls Tryd.prog 84 #[.agg #[.int .i64 (f : Int), .int .i64 (n : Int)], .int .i64 (m : Int), .bool wh, rdV x.R] w (ProofF x c n w.heap.size w (subP k m ((x.lv.drop f).take n) wh))
  | 0, x, w, c, f, n, m, wh, _, _, h1, hk, _, _, _, _, _ => by omega
  | k + 1, x, w, c, f, n, m, wh, hrd, hcn, h1, hk, hkb', hN, hal, hin, hmn => by
    have hfew := hrd.few
    have hkb : k ≤ 100000 := by omega
    obtain ⟨W1, hW1⟩ : ∃ W1, w.alloc (.cells #[.int .i64 (f : Int), .int .i64 (n : Int)] 100) = W1 := ⟨_, rfl⟩
    have b1 : Below w.heap.size w W1 := by rw [← hW1]; exact (Below.refl _ _).alloc (Nat.le_refl _) _
    have hrd1 := hrd.low b1
    have hlo := hrd.lo
    obtain ⟨lv, hlv⟩ : ∃ lv, x.lv = lv := ⟨_, rfl⟩
    obtain ⟨N, hNe⟩ : ∃ N, x.n = N := ⟨_, rfl⟩
    obtain ⟨R, hRe⟩ : ∃ R, x.R = R := ⟨_, rfl⟩
    have hlen := hrd.len
    rw [hlv, hNe] at hlen
    rw [hlv, hRe]
    rw [hNe] at hN hfew
    have hllen : ((lv.drop f).take n).length = n := by rw [List.length_take, List.length_drop, hlen]; omega
    by_cases hmn1 : m = n
    · subst hmn1
      cases wh with
      | true =>
        have HR : Hid (ProofF x c m w.heap.size w (subP (k + 1) m ((lv.drop f).take m) true) (.returned (.tuple #[.slice none 0 0, .int .i64 0])) W1) := hide ⟨c, hrd1, by omega, Bb.of b1, Or.inl ⟨_, rfl, by
          have e : subP (k + 1) m ((lv.drop f).take m) true = [] := by
            show (if m = ((lv.drop f).take m).length then _ else _) = _
            rw [if_pos hllen.symm]; rfl
          rw [e]; exact LvAt.nil _ _⟩⟩
        have HW := hide hW1
        clear hrd hrd1 b1 hW1 hllen hal hlv hNe hRe hlen hlo
        go_enter Tryd.func84, Tryd.ntmps84
        go_wp2
        rw [unhide HW]
        go_ret2
        exact unhide HR
      | false =>
        have HBH := hide (behindF_any (base := w.heap.size) (k := k + 1) (v := .slice none 0 0) (ps := []) hrd1 hcn hlo h1 hk (by rw [hNe]; exact hN) hal (LvAt.nil _ _) b1.size (by simp))
        rw [hlv, hRe] at HBH
        have HE : Hid (subP (k + 1) m ((lv.drop f).take m) false = [] ++ [mth (k + 1) ((lv.drop f).take m)]) := hide (by
          show (if m = ((lv.drop f).take m).length then _ else _) = _
          rw [if_pos hllen.symm]; rfl)
        have HB := hide b1
        have HW := hide hW1
        clear hrd hrd1 b1 hW1 hllen hal hlv hNe hRe hlen hlo
        go_enter Tryd.func84, Tryd.ntmps84
        go_wp2_with (go_at_call 108; fail)
        rw [unhide HW]
        refine (unhide HBH).mono ?_
        rintro e w2 ⟨c2, r2, hc2, bb2, h2⟩
        have HA : Hid (∃ c', RdF x w2 c' ∧ c' ≤ c + m ∧ Bb w.heap.size x.K w w2) := hide ⟨c2, r2, hc2, (Bb.of (unhide HB)).trans bb2⟩
        clear r2 bb2 hc2 HBH
        rcases h2 with ⟨v2, rfl, l2⟩ | ⟨hfl, rfl⟩
        · have HR : Hid (ProofF x c m w.heap.size w (subP (k + 1) m ((lv.drop f).take m) false) (.returned (.tuple #[v2, .int .i64 0])) w2) := hide (by
            obtain ⟨c', r, hc, b⟩ := unhide HA
            exact ⟨c', r, hc, b, Or.inl ⟨v2, rfl, by rw [unhide HE]; exact l2⟩⟩)
          clear l2
          go_wp2
          go_ret2
          exact unhide HR
        · have HR : Hid (ProofF x c m w.heap.size w (subP (k + 1) m ((lv.drop f).take m) false) (.returned (.tuple #[.slice none 0 0, .int .i64 x.er])) w2) := hide (by
            obtain ⟨c', r, hc, b⟩ := unhide HA
            exact ⟨c', r, hc, b, Or.inr ⟨hfl, rfl⟩⟩)
          clear hfl
          go_wp2
          go_ret2
          exact unhide HR
    have h2 : 2 ≤ n := by omega
    have hq : ((m : Int) == (n : Int)) = false := by simp; omega
    have hmt := subP_ne (k := k) (m := m) (wh := wh) (l := (lv.drop f).take n) (by omega)
    obtain ⟨g1, g2, _, _⟩ := half_is h2 (by omega)
    obtain ⟨h, hh⟩ : ∃ h, half n = h := ⟨_, rfl⟩
    have HHV := hide (fun wx => halves_any (f := f) h2 (by omega) (by omega) hh wx)
    rw [hllen, hh] at hmt
    have al1 := hal.left h2 (by omega)
    have al2 := hal.right h2 (by omega)
    rw [hh] at al1 al2 g1 g2
    obtain ⟨f2, hf2⟩ : ∃ f2, f + h = f2 := ⟨_, rfl⟩
    obtain ⟨n2, hn2⟩ : ∃ n2, n - h = n2 := ⟨_, rfl⟩
    rw [hf2, hn2] at HHV al2
    have t1 : ((lv.drop f).take n).take h = (lv.drop f).take h := by rw [List.take_take, Nat.min_eq_left (by omega)]
    have t2 : ((lv.drop f).take n).drop h = (lv.drop f2).take n2 := by rw [List.drop_take, List.drop_drop, hf2, hn2]
    rw [t1, t2] at hmt
    have hblk : Blk W1 w.heap.size #[.int .i64 (f : Int), .int .i64 (n : Int)] 100 := by rw [← hW1]; exact Blk.new _ _ _
    have hc0 : W1.cell? ⟨w.heap.size, 0, none⟩ = some (.int .i64 (f : Int)) := hblk.cell 0
    have hc1 : W1.cell? ⟨w.heap.size, 1, none⟩ = some (.int .i64 (n : Int)) := hblk.cell 1
    have HRD := hide hrd1
    have HAL1 := hide al1
    have HAL2 := hide al2
    have HW := hide hW1
    have HB := hide b1
    have HLO := hide hlo
    have HLE := hide (And.intro hlv (And.intro hNe hRe))
    have k1 : 1 ≤ h := by omega
    have k2 : h ≤ k := by omega
    have k3 : f + h ≤ N := by omega
    have k4 : 1 ≤ n2 := by omega
    have k5 : n2 ≤ k := by omega
    have k6 : f2 + n2 ≤ N := by omega
    have k7 : h + n2 = n := by omega
    clear hblk hrd hrd1 hW1 b1 hllen hal hh al1 al2 hf2 hn2 t1 t2 hlv hNe hRe hlen hlo
    by_cases hlt : m ≤ h
    · rw [if_pos hlt] at hmt
      have HMT := hide hmt
      clear hmt
      go_enter Tryd.func84, Tryd.ntmps84
      go_wp2_with (go_at_call 106; fail)
      rw [unhide HW]
      refine (unhide HHV _).mono ?_
      rintro e w3 ⟨rfl, b3⟩
      obtain ⟨W4, hW4⟩ : ∃ W4, (w3.alloc (.cells #[.int .i64 (f : Int), .int .i64 (h : Int)] 100)).alloc (.cells #[.int .i64 (f2 : Int), .int .i64 (n2 : Int)] 100) = W4 := ⟨_, rfl⟩
      have s3 : (w3.alloc (.cells #[.int .i64 (f : Int), .int .i64 (h : Int)] 100)).heap.size = w3.heap.size + 1 := by simp
      have b4 : Below w3.heap.size w3 W4 := by rw [← hW4]; exact ((Below.refl _ _).alloc (Nat.le_refl _) _).alloc (by rw [s3]; omega) _
      have hkA : Blk W4 w3.heap.size #[.int .i64 (f : Int), .int .i64 (h : Int)] 100 := by
        rw [← hW4]; exact (Blk.new w3 _ _).alloc _
      have hkB : Blk W4 (w3.heap.size + 1) #[.int .i64 (f2 : Int), .int .i64 (n2 : Int)] 100 := by
        have := Blk.new (w3.alloc (.cells #[.int .i64 (f : Int), .int .i64 (h : Int)] 100)) #[.int .i64 (f2 : Int), .int .i64 (n2 : Int)] 100
        rw [s3, hW4] at this
        exact this
      have hb4 := low_trans (low_trans (unhide HB) b3) b4
      have hr4 := ((unhide HRD).low b3).low b4
      have HRC := hide (spanGrowF_any k (wh := wh) hr4 (by omega) k1 k2 hkb (by rw [(unhide HLE).2.1]; exact k3) (unhide HAL1) hin hlt)
      rw [(unhide HLE).1, (unhide HLE).2.2] at HRC
      have HB4 := hide hb4
      have HW4 := hide hW4
      have HKX := hide hkB
      have HK4 := hide hr4.ck
      clear b3 b4 hkA hkB hb4 hW4 s3 HRD HB hc0 hc1 hr4
      go_wp2_with (go_at_call 84; fail)
      rw [unhide HW4]
      refine (unhide HRC).mono ?_
      rintro e w5 ⟨c5, r5, hc5, bb5, h5⟩
      have bx5 := bb5.bx
      have hX5 := (Bx.of (unhide HB4)).trans bx5
      have hne8 : w3.heap.size + 1 ≠ x.K := type_ne (unhide HK4) (unhide HKX) (by decide)
      have hkx : Blk w5 (w3.heap.size + 1) #[.int .i64 (f2 : Int), .int .i64 (n2 : Int)] 100 := (bx5.block _ (unhide HKX).lt hne8).trans (unhide HKX)
      have d0 : w5.cell? ⟨w3.heap.size + 1, 0, none⟩ = some (.int .i64 (f2 : Int)) := hkx.cell 0
      have d1 : w5.cell? ⟨w3.heap.size + 1, 1, none⟩ = some (.int .i64 (n2 : Int)) := hkx.cell 1
      have hs5 : w.heap.size ≤ w5.heap.size := hX5.size
      rcases h5 with ⟨v5, rfl, l5⟩ | ⟨hfl, rfl⟩
      · have HBH := hide (behindF_any (base := w.heap.size) (k := k) (v := v5) (ps := subP k m ((lv.drop f).take h) wh) r5 (by omega) (unhide HLO) k4 k5 (by rw [(unhide HLE).2.1]; exact k6) (unhide HAL2) (LvAt.less (unhide HB4).size l5) hs5 (Nat.le_trans (subP_len _ _ _ _) hkb))
        rw [(unhide HLE).1, (unhide HLE).2.2] at HBH
        have HX5 := hide hX5
        clear l5 hkx HRC HKX HK4 HB4 bx5 bb5 hX5 hne8 r5
        go_wp2_with (go_at_call 108; fail)
        refine (unhide HBH).mono ?_
        rintro e w6 ⟨c6, r6, hc6, bb6, h6⟩
        have HA : Hid (∃ c', RdF x w6 c' ∧ c' ≤ c + n ∧ Bb w.heap.size x.K w w6) := hide ⟨c6, r6, by omega, ((unhide HX5).bb (Nat.le_refl _)).trans bb6⟩
        clear r6 bb6 hc6 hc5 HBH d0 d1 hs5
        rcases h6 with ⟨v6, rfl, l6⟩ | ⟨hfl, rfl⟩
        · have HR : Hid (ProofF x c n w.heap.size w (subP (k + 1) m ((lv.drop f).take n) wh) (.returned (.tuple #[v6, .int .i64 0])) w6) := hide (by
            obtain ⟨c', r, hc, b⟩ := unhide HA
            exact ⟨c', r, hc, b, Or.inl ⟨v6, rfl, by rw [unhide HMT]; exact l6⟩⟩)
          clear l6
          go_wp2
          go_ret2
          exact unhide HR
        · have HR : Hid (ProofF x c n w.heap.size w (subP (k + 1) m ((lv.drop f).take n) wh) (.returned (.tuple #[.slice none 0 0, .int .i64 x.er])) w6) := hide (by
            obtain ⟨c', r, hc, b⟩ := unhide HA
            exact ⟨c', r, hc, b, Or.inr ⟨hfl, rfl⟩⟩)
          clear hfl
          go_wp2
          go_ret2
          exact unhide HR
      · have her : x.er ≠ 0 := r5.fe hfl
        have HBE := hide (behindF_err (w := w5) (f := f2) (n := n2) (v := .slice none 0 0) (r := rdV R) her)
        have HFL := hide hfl
        have HR5 := hide r5
        have HX5 := hide hX5
        clear hkx HRC HKX HK4 HB4 bx5 bb5 hX5 hne8 r5 hfl her
        go_wp2_with (go_at_call 108; fail)
        refine (unhide HBE).mono ?_
        rintro e w6 ⟨rfl, b6⟩
        have HR : Hid (ProofF x c n w.heap.size w (subP (k + 1) m ((lv.drop f).take n) wh) (.returned (.tuple #[.slice none 0 0, .int .i64 x.er])) w6) := hide ⟨c5, (unhide HR5).low b6, by omega, ((unhide HX5).trans (Bx.of b6)).bb (Nat.le_refl _), Or.inr ⟨unhide HFL, rfl⟩⟩
        clear b6 HBE d0 d1 hs5
        go_wp2
        go_ret2
        exact unhide HR
    · rw [if_neg hlt] at hmt
      obtain ⟨j, hj⟩ : ∃ j, m - h = j := ⟨_, rfl⟩
      have ej : (m : Int) - (h : Int) = (j : Int) := by omega
      rw [hj] at hmt
      have j1 : 1 ≤ j := by omega
      have j2 : j ≤ n2 := by omega
      clear hj
      have HMT := hide hmt
      clear hmt
      go_enter Tryd.func84, Tryd.ntmps84
      go_wp2_with (go_at_call 106; fail)
      rw [unhide HW]
      refine (unhide HHV _).mono ?_
      rintro e w3 ⟨rfl, b3⟩
      obtain ⟨W4, hW4⟩ : ∃ W4, (w3.alloc (.cells #[.int .i64 (f : Int), .int .i64 (h : Int)] 100)).alloc (.cells #[.int .i64 (f2 : Int), .int .i64 (n2 : Int)] 100) = W4 := ⟨_, rfl⟩
      have s3 : (w3.alloc (.cells #[.int .i64 (f : Int), .int .i64 (h : Int)] 100)).heap.size = w3.heap.size + 1 := by simp
      have b4 : Below w3.heap.size w3 W4 := by rw [← hW4]; exact ((Below.refl _ _).alloc (Nat.le_refl _) _).alloc (by rw [s3]; omega) _
      have hkA : Blk W4 w3.heap.size #[.int .i64 (f : Int), .int .i64 (h : Int)] 100 := by
        rw [← hW4]; exact (Blk.new w3 _ _).alloc _
      have hkB : Blk W4 (w3.heap.size + 1) #[.int .i64 (f2 : Int), .int .i64 (n2 : Int)] 100 := by
        have := Blk.new (w3.alloc (.cells #[.int .i64 (f : Int), .int .i64 (h : Int)] 100)) #[.int .i64 (f2 : Int), .int .i64 (n2 : Int)] 100
        rw [s3, hW4] at this
        exact this
      have hb4 := low_trans (low_trans (unhide HB) b3) b4
      have hr4 := ((unhide HRD).low b3).low b4
      have HRC := hide (spanGrowF_any k (wh := false) hr4 (by omega) k4 k5 hkb (by rw [(unhide HLE).2.1]; exact k6) (unhide HAL2) j1 j2)
      rw [(unhide HLE).1, (unhide HLE).2.2] at HRC
      have HB4 := hide hb4
      have HW4 := hide hW4
      have HKX := hide hkA
      have HK4 := hide hr4.ck
      clear b3 b4 hkA hkB hb4 hW4 s3 HRD HB hc0 hc1 hr4
      go_wp2_with (go_at_call 84; fail)
      rw [unhide HW4]
      refine (unhide HRC).mono ?_
      rintro e w5 ⟨c5, r5, hc5, bb5, h5⟩
      have bx5 := bb5.bx
      have hX5 := (Bx.of (unhide HB4)).trans bx5
      have hne8 : w3.heap.size ≠ x.K := type_ne (unhide HK4) (unhide HKX) (by decide)
      have hkx : Blk w5 (w3.heap.size) #[.int .i64 (f : Int), .int .i64 (h : Int)] 100 := (bx5.block _ (unhide HKX).lt hne8).trans (unhide HKX)
      have d0 : w5.cell? ⟨w3.heap.size, 0, none⟩ = some (.int .i64 (f : Int)) := hkx.cell 0
      have d1 : w5.cell? ⟨w3.heap.size, 1, none⟩ = some (.int .i64 (h : Int)) := hkx.cell 1
      have hs5 : w.heap.size ≤ w5.heap.size := hX5.size
      rcases h5 with ⟨v5, rfl, l5⟩ | ⟨hfl, rfl⟩
      · have HBH := hide (behindF_any (base := w.heap.size) (k := k) (v := v5) (ps := subP k j ((lv.drop f2).take n2) false) r5 (by omega) (unhide HLO) k1 k2 (by rw [(unhide HLE).2.1]; exact k3) (unhide HAL1) (LvAt.less (unhide HB4).size l5) hs5 (Nat.le_trans (subP_len _ _ _ _) hkb))
        rw [(unhide HLE).1, (unhide HLE).2.2] at HBH
        have HX5 := hide hX5
        clear l5 hkx HRC HKX HK4 HB4 bx5 bb5 hX5 hne8 r5
        go_wp2_with (go_at_call 108; fail)
        refine (unhide HBH).mono ?_
        rintro e w6 ⟨c6, r6, hc6, bb6, h6⟩
        have HA : Hid (∃ c', RdF x w6 c' ∧ c' ≤ c + n ∧ Bb w.heap.size x.K w w6) := hide ⟨c6, r6, by omega, ((unhide HX5).bb (Nat.le_refl _)).trans bb6⟩
        clear r6 bb6 hc6 hc5 HBH d0 d1 hs5
        rcases h6 with ⟨v6, rfl, l6⟩ | ⟨hfl, rfl⟩
        · have HR : Hid (ProofF x c n w.heap.size w (subP (k + 1) m ((lv.drop f).take n) wh) (.returned (.tuple #[v6, .int .i64 0])) w6) := hide (by
            obtain ⟨c', r, hc, b⟩ := unhide HA
            exact ⟨c', r, hc, b, Or.inl ⟨v6, rfl, by rw [unhide HMT]; exact l6⟩⟩)
          clear l6
          go_wp2
          go_ret2
          exact unhide HR
        · have HR : Hid (ProofF x c n w.heap.size w (subP (k + 1) m ((lv.drop f).take n) wh) (.returned (.tuple #[.slice none 0 0, .int .i64 x.er])) w6) := hide (by
            obtain ⟨c', r, hc, b⟩ := unhide HA
            exact ⟨c', r, hc, b, Or.inr ⟨hfl, rfl⟩⟩)
          clear hfl
          go_wp2
          go_ret2
          exact unhide HR
      · have her : x.er ≠ 0 := r5.fe hfl
        have HBE := hide (behindF_err (w := w5) (f := f) (n := h) (v := .slice none 0 0) (r := rdV R) her)
        have HFL := hide hfl
        have HR5 := hide r5
        have HX5 := hide hX5
        clear hkx HRC HKX HK4 HB4 bx5 bb5 hX5 hne8 r5 hfl her
        go_wp2_with (go_at_call 108; fail)
        refine (unhide HBE).mono ?_
        rintro e w6 ⟨rfl, b6⟩
        have HR : Hid (ProofF x c n w.heap.size w (subP (k + 1) m ((lv.drop f).take n) wh) (.returned (.tuple #[.slice none 0 0, .int .i64 x.er])) w6) := hide ⟨c5, (unhide HR5).low b6, by omega, ((unhide HX5).trans (Bx.of b6)).bb (Nat.le_refl _), Or.inr ⟨unhide HFL, rfl⟩⟩
        clear b6 HBE d0 d1 hs5
        go_wp2
        go_ret2
        exact unhide HR

end Go.Proofs.YtkpmbbeidcpclaaDoor

namespace Go.Proofs.YtkpmbbeidcpclaaDoor
open Go.RowKit

/-- The same with its function in another variable. -/
def Ids.at (x : Ids) (R : Nat) : Ids := { x with R := R }
/-- A function that reads a log and may fail, not called yet. -/
def RdG (x : Ids) (w : World) : Prop := ∀ (R : Nat) (w' : World), Below w.heap.size w w' → w.heap.size ≤ R → w'.cell? ⟨R, 0, none⟩ = some (rfV x) → RdF (x.at R) w' 0
theorem RdG.low {x : Ids} {w w' : World} (h : RdG x w) (b : Below w.heap.size w w') : RdG x w' := fun R w2 b2 hR hc => h R w2 (low_trans b b2) (Nat.le_trans b.size hR) hc

set_option maxRecDepth 100000 in
set_option maxHeartbeats 1000000 in
theorem reads_any {w : World} {F n : Nat} {lv : List Bs} {fl er : Int} (h : Lg w F n lv) (hfe : fl ≠ 0 → er ≠ 0) :
    Calls Tryd.prog 38 #[.pointer (some ⟨F, 0, none⟩), .int .i64 fl, .int .i64 er] w fun e w' => ∃ x : Ids, x.lv = lv ∧ x.n = n ∧ x.fl = fl ∧ x.er = er ∧ w.heap.size ≤ x.K ∧ x.K < w'.heap.size ∧ e = .returned (rfV x) ∧ RdG x w' ∧ Below w.heap.size w w' := by
  obtain ⟨W, hW⟩ : ∃ W, (((w.alloc (.cells #[.pointer (some ⟨F, 0, none⟩)] 25)).alloc (.cells #[.int .i64 fl] 3)).alloc (.cells #[.int .i64 er] 30)).alloc (.cells #[.int .i64 0] 3) = W := ⟨_, rfl⟩
  obtain ⟨w1, hw1⟩ : ∃ w1, w.alloc (.cells #[.pointer (some ⟨F, 0, none⟩)] 25) = w1 := ⟨_, rfl⟩
  obtain ⟨w2, hw2⟩ : ∃ w2, w1.alloc (.cells #[.int .i64 fl] 3) = w2 := ⟨_, rfl⟩
  obtain ⟨w3, hw3⟩ : ∃ w3, w2.alloc (.cells #[.int .i64 er] 30) = w3 := ⟨_, rfl⟩
  have hW' : w3.alloc (.cells #[.int .i64 0] 3) = W := by rw [← hw3, ← hw2, ← hw1]; exact hW
  have s1 : w1.heap.size = w.heap.size + 1 := by rw [← hw1]; simp
  have s2 : w2.heap.size = w.heap.size + 1 + 1 := by rw [← hw2]; simp [s1]
  have s3 : w3.heap.size = w.heap.size + 1 + 1 + 1 := by rw [← hw3]; simp [s2]
  have s4 : W.heap.size = w.heap.size + 1 + 1 + 1 + 1 := by rw [← hW']; simp [s3]
  have b1 : Below w.heap.size w w1 := by rw [← hw1]; exact (Below.refl _ _).alloc (Nat.le_refl _) _
  have b2 : Below w1.heap.size w1 w2 := by rw [← hw2]; exact (Below.refl _ _).alloc (Nat.le_refl _) _
  have b3 : Below w2.heap.size w2 w3 := by rw [← hw3]; exact (Below.refl _ _).alloc (Nat.le_refl _) _
  have b4 : Below w3.heap.size w3 W := by rw [← hW']; exact (Below.refl _ _).alloc (Nat.le_refl _) _
  have k1 : Blk W w.heap.size #[.pointer (some ⟨F, 0, none⟩)] 25 := by
    have := Blk.new w #[.pointer (some ⟨F, 0, none⟩)] 25
    rw [hw1] at this
    exact ((this.low b2).low b3).low b4
  have k2 : Blk W (w.heap.size + 1) #[.int .i64 fl] 3 := by
    have := Blk.new w1 #[.int .i64 fl] 3
    rw [hw2, s1] at this
    exact (this.low b3).low b4
  have k3 : Blk W (w.heap.size + 1 + 1) #[.int .i64 er] 30 := by
    have := Blk.new w2 #[.int .i64 er] 30
    rw [hw3, s2] at this
    exact this.low b4
  have k4 : Blk W (w.heap.size + 1 + 1 + 1) #[.int .i64 ((0 : Nat) : Int)] 3 := by
    have := Blk.new w3 #[.int .i64 0] 3
    rw [hW', s3] at this
    exact this
  have bW := low_trans (low_trans (low_trans b1 b2) b3) b4
  have hlW := h.low bW
  have HR : Hid (RdG ⟨0, F, n, w.heap.size + 1 + 1 + 1, w.heap.size + 1, w.heap.size + 1 + 1, w.heap.size, fl, er, lv⟩ W) := hide (fun R w' b hR hc => by
    have hl' := hlW.low b
    exact ⟨hc, k4.low b, (k2.low b).cell 0, (k3.low b).cell 0, (k1.low b).cell 0, by show R ≠ w.heap.size + 1 + 1 + 1; omega, by show w.heap.size + 1 ≠ w.heap.size + 1 + 1 + 1; omega, by show w.heap.size + 1 + 1 ≠ w.heap.size + 1 + 1 + 1; omega, by show w.heap.size ≠ w.heap.size + 1 + 1 + 1; omega, hfe, hl'.log, hl'.len, hl'.few, hl'.tz⟩)
  have HB := hide bW
  have HW := hide hW
  have HS := hide s4
  clear h hfe hlW bW k1 k2 k3 k4 b1 b2 b3 b4 s1 s2 s3 s4 hW' hw1 hw2 hw3 hW
  go_enter Tryd.func38, Tryd.ntmps38
  go_wp2
  rw [unhide HW]
  go_ret
  exact ⟨⟨0, F, n, w.heap.size + 1 + 1 + 1, w.heap.size + 1, w.heap.size + 1 + 1, w.heap.size, fl, er, lv⟩, rfl, rfl, rfl, rfl, by show w.heap.size ≤ w.heap.size + 1 + 1 + 1; omega, by show w.heap.size + 1 + 1 + 1 < _; rw [unhide HS]; omega, rfl, unhide HR, unhide HB⟩

theorem copyingF_any {x : Ids} {w : World} (h : RdG x w) : Calls Tryd.prog 81 #[rfV x] w fun e w' => ∃ R, e = .returned (rdV R) ∧ RdF (x.at R) w' 0 ∧ Below w.heap.size w w' := by
  have b1 : Below w.heap.size w (w.alloc (.cells #[rfV x] 60)) := (Below.refl _ _).alloc (Nat.le_refl _) _
  have HR : Hid (RdF (x.at w.heap.size) (w.alloc (.cells #[rfV x] 60)) 0 ∧ Below w.heap.size w (w.alloc (.cells #[rfV x] 60))) := hide ⟨h _ _ b1 (Nat.le_refl _) ((Blk.new w #[rfV x] 60).cell 0), b1⟩
  clear h b1
  go_enter Tryd.func81, Tryd.ntmps81
  go_wp2
  go_ret
  exact ⟨w.heap.size, rfl, unhide HR⟩

/-- What a root is answered as. -/
def RootF (x : Ids) (w : World) (b : Bs) (e : Ending) (w' : World) : Prop :=
  Bx x.K w w' ∧ ((∃ a q, e = .returned (.tuple #[.slice a 32 q, .int .i64 0]) ∧ b.length = 32 ∧ OwnB w.heap.size w' (.slice a 32 q) b) ∨ (x.fl ≠ 0 ∧ e = .returned (.tuple #[.slice none 0 0, .int .i64 x.er])))
/-- What a proof is answered as, with its own error. -/
def PrfF (x : Ids) (w : World) (ps : List Bs) (E : Int) (e : Ending) (w' : World) : Prop :=
  Bx x.K w w' ∧ ((∃ v, e = .returned (.tuple #[v, .int .i64 E]) ∧ LvAt w.heap.size w' v ps) ∨ (x.fl ≠ 0 ∧ e = .returned (.tuple #[.slice none 0 0, .int .i64 x.er])))

set_option maxRecDepth 100000 in
set_option maxHeartbeats 1000000 in
theorem rootF_in {x : Ids} {w : World} {m : Nat} (h : RdG x w) (hm : m ≤ x.n) (hfew : x.n ≤ 1000) : Calls Tryd.prog 37 #[.int .i64 (m : Int), rfV x] w (RootF x w (mth 1000 (x.lv.take m))) := by
  have HSZ := hide (size_any (m : Int) w)
  rw [sizeB_nat (by omega)] at HSZ
  by_cases h0 : m = 0
  · subst h0
    have HS := hide (sha_any (w := w) (a := none) (n := 0) (c := 0) (b := []) rfl (by omega) (by omega) (by omega) (Or.inl rfl) ⟨Or.inl rfl⟩)
    have HE : Hid (mth 1000 (x.lv.take 0) = shaL []) := hide rfl
    have HSZ' : Hid (Calls Tryd.prog 67 #[.int .i64 0] w fun e w' => e = .returned (.bool true) ∧ w' = w) := HSZ
    clear h HSZ
    go_enter Tryd.func37, Tryd.ntmps37
    go_wp2_with (go_at_call 67; fail)
    refine (unhide HSZ').mono ?_
    rintro e w1 ⟨rfl, rfl⟩
    go_wp2_with (go_at_call 79; fail)
    refine (unhide HS).mono ?_
    rintro e w2 ⟨v2, rfl, o2, b2⟩
    obtain ⟨g2, c2, rfl, _⟩ := OwnB.adr o2 (sha_len _)
    have HR : Hid (RootF x w1 (mth 1000 (x.lv.take 0)) (.returned (.tuple #[.slice (some ⟨g2, 0, none⟩) 32 c2, .int .i64 0])) w2) := hide ⟨Bx.of b2, Or.inl ⟨_, c2, rfl, by rw [unhide HE]; exact sha_len _, by rw [unhide HE]; exact o2⟩⟩
    clear o2 b2
    go_wp2
    go_ret2
    exact unhide HR
  · have hq : ((m : Int) == 0) = false := by simp; omega
    have HCP := hide (copyingF_any h)
    have HSP := hide (fun (wx : World) (R : Nat) (hr : RdF (x.at R) wx 0) => spanHashF_any 1000 (f := 0) (n := m) hr (by omega) (by omega) (by omega) (by show 0 + m ≤ x.n; omega) (Al.zero _))
    simp only [List.drop_zero] at HSP
    clear h
    go_enter Tryd.func37, Tryd.ntmps37
    go_wp2_with (go_at_call 67; fail)
    refine (unhide HSZ).mono ?_
    rintro e w1 ⟨rfl, rfl⟩
    go_wp2_with (go_at_call 81; fail)
    refine (unhide HCP).mono ?_
    rintro e w2 ⟨R, rfl, hr, b2⟩
    have HX := hide (unhide HSP _ _ hr)
    have HB := hide b2
    clear hr b2 HSP
    go_wp2_with (go_at_call 80; fail)
    refine (unhide HX).mono ?_
    rintro e w3 ⟨c3, r3, _, bx3, h3⟩
    have HX3 : Hid (Bx x.K w1 w3) := hide ((Bx.of (unhide HB)).trans bx3)
    clear r3 bx3
    rcases h3 with ⟨a, q, rfl, h32, o3⟩ | ⟨hfl, rfl⟩
    · have HR : Hid (RootF x w1 (mth 1000 (x.lv.take m)) (.returned (.tuple #[.slice a 32 q, .int .i64 0])) w3) := hide ⟨unhide HX3, Or.inl ⟨a, q, rfl, h32, OwnB.less (unhide HB).size o3⟩⟩
      clear h32 o3
      go_wp2
      go_ret2
      exact unhide HR
    · have HR : Hid (RootF x w1 (mth 1000 (x.lv.take m)) (.returned (.tuple #[.slice none 0 0, .int .i64 (x.at R).er])) w3) := hide ⟨unhide HX3, Or.inr ⟨hfl, rfl⟩⟩
      clear hfl
      go_wp2
      go_ret2
      exact unhide HR

set_option maxRecDepth 100000 in
set_option maxHeartbeats 1000000 in
theorem proveF_in {x : Ids} {w : World} {m i : Nat} (h : RdG x w) (hm : m ≤ x.n) (hfew : x.n ≤ 1000) (hi : i < m) : Calls Tryd.prog 39 #[.int .i64 (i : Int), .int .i64 (m : Int), rfV x] w (PrfF x w (pathP 1000 i (x.lv.take m)) 0) := by
  have HP := hide (isRecord_any (i : Int) (m : Int) w)
  rw [recB_at hi (by omega)] at HP
  have HCP := hide (copyingF_any h)
  have HSP := hide (fun (wx : World) (R : Nat) (hr : RdF (x.at R) wx 0) => spanPathF_any 1000 (f := 0) (n := m) (i := i) hr (by omega) (by omega) (by omega) (by omega) (by show 0 + m ≤ x.n; omega) (Al.zero _) hi)
  simp only [List.drop_zero] at HSP
  clear h
  go_enter Tryd.func39, Tryd.ntmps39
  go_wp2_with (go_at_call 68; fail)
  refine (unhide HP).mono ?_
  rintro e w1 ⟨rfl, rfl⟩
  go_wp2_with (go_at_call 81; fail)
  refine (unhide HCP).mono ?_
  rintro e w2 ⟨R, rfl, hr, b2⟩
  have HX := hide (unhide HSP _ _ hr)
  have HB := hide b2
  clear hr b2 HSP
  go_wp2_with (go_at_call 83; fail)
  refine (unhide HX).mono ?_
  rintro e w3 ⟨c3, r3, _, bb3, h3⟩
  have HX3 : Hid (Bx x.K w1 w3) := hide ((Bx.of (unhide HB)).trans bb3.bx)
  clear r3 bb3
  rcases h3 with ⟨v3, rfl, l3⟩ | ⟨hfl, rfl⟩
  · have HR : Hid (PrfF x w1 (pathP 1000 i (x.lv.take m)) 0 (.returned (.tuple #[v3, .int .i64 0])) w3) := hide ⟨unhide HX3, Or.inl ⟨v3, rfl, LvAt.less (unhide HB).size l3⟩⟩
    clear l3
    go_wp2
    go_ret2
    exact unhide HR
  · have HR : Hid (PrfF x w1 (pathP 1000 i (x.lv.take m)) 0 (.returned (.tuple #[.slice none 0 0, .int .i64 (x.at R).er])) w3) := hide ⟨unhide HX3, Or.inr ⟨hfl, rfl⟩⟩
    clear hfl
    go_wp2
    go_ret2
    exact unhide HR

set_option maxRecDepth 100000 in
set_option maxHeartbeats 1000000 in
theorem proveF_out {x : Ids} {w : World} {i m : Int} (hm : recB i m = false) : Calls Tryd.prog 39 #[.int .i64 i, .int .i64 m, rfV x] w (PrfF x w [] 6) := by
  have HP := hide (isRecord_any i m w)
  rw [hm] at HP
  clear hm
  go_enter Tryd.func39, Tryd.ntmps39
  go_wp2_with (go_at_call 68; fail)
  refine (unhide HP).mono ?_
  rintro e w1 ⟨rfl, rfl⟩
  go_wp2
  go_ret2
  exact ⟨Bx.of (Below.refl _ _), Or.inl ⟨_, rfl, LvAt.nil _ _⟩⟩

set_option maxRecDepth 100000 in
set_option maxHeartbeats 1000000 in
theorem treeF_in {x : Ids} {w : World} {m i : Nat} (h : RdG x w) (hm : m ≤ x.n) (hfew : x.n ≤ 1000) (hi : i ≤ m) : Calls Tryd.prog 40 #[.int .i64 (i : Int), .int .i64 (m : Int), rfV x] w (PrfF x w (if i = 0 then [] else subP 1000 i (x.lv.take m) true) 0) := by
  have HP := hide (isPart_any (i : Int) (m : Int) w)
  rw [partB_at hi (by omega)] at HP
  by_cases h0 : i = 0
  · subst h0
    rw [if_pos rfl]
    have HP' : Hid (Calls Tryd.prog 75 #[.int .i64 0, .int .i64 (m : Int)] w fun e w' => e = .returned (.bool true) ∧ w' = w) := HP
    clear h HP
    go_enter Tryd.func40, Tryd.ntmps40
    go_wp2_with (go_at_call 75; fail)
    refine (unhide HP').mono ?_
    rintro e w1 ⟨rfl, rfl⟩
    go_wp2
    go_ret2
    exact ⟨Bx.of (Below.refl _ _), Or.inl ⟨_, rfl, LvAt.nil _ _⟩⟩
  · rw [if_neg h0]
    have hq : ((i : Int) == 0) = false := by simp; omega
    have HCP := hide (copyingF_any h)
    have HSP := hide (fun (wx : World) (R : Nat) (hr : RdF (x.at R) wx 0) => spanGrowF_any 1000 (f := 0) (n := m) (m := i) (wh := true) hr (by omega) (by omega) (by omega) (by omega) (by show 0 + m ≤ x.n; omega) (Al.zero _) (by omega) hi)
    simp only [List.drop_zero] at HSP
    clear h
    go_enter Tryd.func40, Tryd.ntmps40
    go_wp2_with (go_at_call 75; fail)
    refine (unhide HP).mono ?_
    rintro e w1 ⟨rfl, rfl⟩
    go_wp2_with (go_at_call 81; fail)
    refine (unhide HCP).mono ?_
    rintro e w2 ⟨R, rfl, hr, b2⟩
    have HX := hide (unhide HSP _ _ hr)
    have HB := hide b2
    clear hr b2 HSP
    go_wp2_with (go_at_call 84; fail)
    refine (unhide HX).mono ?_
    rintro e w3 ⟨c3, r3, _, bb3, h3⟩
    have HX3 : Hid (Bx x.K w1 w3) := hide ((Bx.of (unhide HB)).trans bb3.bx)
    clear r3 bb3
    rcases h3 with ⟨v3, rfl, l3⟩ | ⟨hfl, rfl⟩
    · have HR : Hid (PrfF x w1 (subP 1000 i (x.lv.take m) true) 0 (.returned (.tuple #[v3, .int .i64 0])) w3) := hide ⟨unhide HX3, Or.inl ⟨v3, rfl, LvAt.less (unhide HB).size l3⟩⟩
      clear l3
      go_wp2
      go_ret2
      exact unhide HR
    · have HR : Hid (PrfF x w1 (subP 1000 i (x.lv.take m) true) 0 (.returned (.tuple #[.slice none 0 0, .int .i64 (x.at R).er])) w3) := hide ⟨unhide HX3, Or.inr ⟨hfl, rfl⟩⟩
      clear hfl
      go_wp2
      go_ret2
      exact unhide HR

set_option maxRecDepth 100000 in
set_option maxHeartbeats 1000000 in
theorem treeF_out {x : Ids} {w : World} {i m : Int} (hm : partB i m = false) : Calls Tryd.prog 40 #[.int .i64 i, .int .i64 m, rfV x] w (PrfF x w [] 6) := by
  have HP := hide (isPart_any i m w)
  rw [hm] at HP
  clear hm
  go_enter Tryd.func40, Tryd.ntmps40
  go_wp2_with (go_at_call 75; fail)
  refine (unhide HP).mono ?_
  rintro e w1 ⟨rfl, rfl⟩
  go_wp2
  go_ret2
  exact ⟨Bx.of (Below.refl _ _), Or.inl ⟨_, rfl, LvAt.nil _ _⟩⟩

end Go.Proofs.YtkpmbbeidcpclaaDoor

namespace Go.Proofs.YtkpmbbeidcpclaaDoor
open Go.RowKit

/-- A list and an error's number as an answer, or the read's own error. -/
def PairF (x : Ids) (ps : List Bs) (E : Int) (np : Nat) (w : World) (e : Ending) (w' : World) : Prop :=
  Bx x.K w w' ∧ ((∃ a c, e = .returned (.tuple #[.slice a np c, .int .i64 E]) ∧ LvAt w.heap.size w' (.slice a np c) ps) ∨ (x.fl ≠ 0 ∧ e = .returned (.tuple #[.slice none 0 0, .int .i64 x.er])))
theorem pairF_of {x : Ids} {ps : List Bs} {E : Int} {np : Nat} {w w' : World} {e : Ending} (hn : ps.length = np) (h : PrfF x w ps E e w') : PairF x ps E np w e w' := by
  obtain ⟨b, h⟩ := h
  refine ⟨b, ?_⟩
  rcases h with ⟨v, rfl, l⟩ | h
  · obtain ⟨a, c, rfl, _, _⟩ := l.pat
    rw [hn] at l ⊢
    exact Or.inl ⟨a, c, rfl, l⟩
  · exact Or.inr h

theorem prove_alike (i : Int) {N : Nat} {ls : List Bs} (hN : N ≤ 1000) (hls : ls.length = N) (h32 : All32 ls) :
    ∃ ps E np, (E = 0 ∨ E = 6) ∧ ps.length = np ∧ np ≤ 1000 ∧ All32 ps ∧ (∀ wx F, Lg wx F N ls → Calls Tryd.prog 15 #[.pointer (some ⟨F, 0, none⟩), .int .i64 i, .int .i64 (N : Int)] wx (PairOk ps E np wx)) ∧
      (∀ wx x, RdG x wx → x.lv = ls → x.n = N → Calls Tryd.prog 39 #[.int .i64 i, .int .i64 (N : Int), rfV x] wx (PairF x ps E np wx)) := by
  have hl : ls.take N = ls := List.take_of_length_le (by omega)
  cases hb : recB i (N : Int) with
  | true =>
    obtain ⟨i', M', rfl, hMM, h1, h2, h3⟩ := rec_in hb
    obtain rfl : N = M' := by omega
    refine ⟨pathP 1000 i' ls, 0, _, Or.inl rfl, rfl, pathP_len _ _ _, pathP_32 _ _ _ h32, fun wx F hg => (logProve_in hg (Nat.le_refl _) h3).mono fun e w' h => pair_of_proof rfl (by rw [hl] at h; exact h), fun wx x hr e1 e2 => (proveF_in (m := N) (i := i') hr (by omega) (by omega) h3).mono fun e w' h => pairF_of rfl (by rw [e1, hl] at h; exact h)⟩
  | false =>
    exact ⟨[], 6, 0, Or.inr rfl, rfl, by omega, (fun x hx => by cases hx), fun wx F hg => (logProve_out hg (Or.inr hb)).mono fun e w' h => pair_of_out h, fun wx x _ _ _ => (proveF_out hb).mono fun e w' h => pairF_of rfl h⟩

theorem tree_alike (i : Int) {N : Nat} {ls : List Bs} (hN : N ≤ 1000) (hls : ls.length = N) (h32 : All32 ls) :
    ∃ ps E np, (E = 0 ∨ E = 6) ∧ ps.length = np ∧ np ≤ 1000 ∧ All32 ps ∧ (∀ wx F, Lg wx F N ls → Calls Tryd.prog 16 #[.pointer (some ⟨F, 0, none⟩), .int .i64 i, .int .i64 (N : Int)] wx (PairOk ps E np wx)) ∧
      (∀ wx x, RdG x wx → x.lv = ls → x.n = N → Calls Tryd.prog 40 #[.int .i64 i, .int .i64 (N : Int), rfV x] wx (PairF x ps E np wx)) := by
  have hl : ls.take N = ls := List.take_of_length_le (by omega)
  cases hb : partB i (N : Int) with
  | true =>
    obtain ⟨i', M', rfl, hMM, h2, h3⟩ := part_in hb
    obtain rfl : N = M' := by omega
    have hlen : (if i' = 0 then [] else subP 1000 i' ls true).length ≤ 1000 := by
      split
      · exact Nat.zero_le _
      · exact subP_len _ _ _ _
    have h32' : All32 (if i' = 0 then [] else subP 1000 i' ls true) := by
      split
      · exact fun x hx => by cases hx
      · exact subP_32 _ _ _ _ h32
    exact ⟨_, 0, _, Or.inl rfl, rfl, hlen, h32', fun wx F hg => (logTree_in hg (Nat.le_refl _) h3).mono fun e w' h => pair_of_proof rfl (by rw [hl] at h; exact h), fun wx x hr e1 e2 => (treeF_in (m := N) (i := i') hr (by omega) (by omega) h3).mono fun e w' h => pairF_of rfl (by rw [e1, hl] at h; exact h)⟩
  | false =>
    exact ⟨[], 6, 0, Or.inr rfl, rfl, by omega, (fun x hx => by cases hx), fun wx F hg => (logTree_out hg (Or.inr hb)).mono fun e w' h => pair_of_out h, fun wx x _ _ _ => (treeF_out hb).mono fun e w' h => pairF_of rfl h⟩

/-- What comes of a read of one's own and a call with it: the log's own answer, or the read's error. -/
def OwnP (ps : List Bs) (E : Int) (np : Nat) (fl er : Int) (w : World) (e : Ending) (w' : World) : Prop :=
  Below w.heap.size w w' ∧ ((∃ a c, e = .returned (.tuple #[.slice a np c, .int .i64 E]) ∧ LvAt w.heap.size w' (.slice a np c) ps) ∨ (fl ≠ 0 ∧ e = .returned (.tuple #[.slice none 0 0, .int .i64 er])))
theorem ownP_of {x : Ids} {ps : List Bs} {E fl er : Int} {np : Nat} {w0 w w' : World} {e : Ending} (h : PairF x ps E np w e w') (b : Below w0.heap.size w0 w) (hk : w0.heap.size ≤ x.K) (h1 : x.fl = fl) (h2 : x.er = er) : OwnP ps E np fl er w0 e w' := by
  obtain ⟨bx, h⟩ := h
  refine ⟨b.trans (bx.low hk b.size), ?_⟩
  rcases h with ⟨a, c, rfl, l⟩ | ⟨hf, rfl⟩
  · exact Or.inl ⟨a, c, rfl, LvAt.less b.size l⟩
  · exact Or.inr ⟨by rw [← h1]; exact hf, by rw [h2]⟩
def OwnR (b : Bs) (fl er : Int) (w : World) (e : Ending) (w' : World) : Prop :=
  Below w.heap.size w w' ∧ ((∃ a q, e = .returned (.tuple #[.slice a 32 q, .int .i64 0]) ∧ b.length = 32 ∧ OwnB w.heap.size w' (.slice a 32 q) b) ∨ (fl ≠ 0 ∧ e = .returned (.tuple #[.slice none 0 0, .int .i64 er])))
theorem ownR_of {x : Ids} {b : Bs} {fl er : Int} {w0 w w' : World} {e : Ending} (h : RootF x w b e w') (hb : Below w0.heap.size w0 w) (hk : w0.heap.size ≤ x.K) (h1 : x.fl = fl) (h2 : x.er = er) : OwnR b fl er w0 e w' := by
  obtain ⟨bx, h⟩ := h
  refine ⟨hb.trans (bx.low hk hb.size), ?_⟩
  rcases h with ⟨a, q, rfl, h32, o⟩ | ⟨hf, rfl⟩
  · exact Or.inl ⟨a, q, rfl, h32, OwnB.less hb.size o⟩
  · exact Or.inr ⟨by rw [← h1]; exact hf, by rw [h2]⟩
end Go.Proofs.YtkpmbbeidcpclaaDoor
