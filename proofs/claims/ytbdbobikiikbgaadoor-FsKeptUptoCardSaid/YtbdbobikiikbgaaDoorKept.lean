/-
  The contract of FsKept: it answers true, and nothing that was there has turned.
-/
import Derived.Test.YtbdbobikiikbgaaDoorThree
import Derived.Test.YtbdbobikiikbgaaDoorKeptS
namespace Go.Proofs.YtbdbobikiikbgaaDoor
open Go.RowKit Go.WideMaps Go.Maps Go.Sort

theorem FilesAt.cap {w : World} {b n c : Nat} {a : Option Addr} {fl : List (List UInt8 × List UInt8)} (h : FilesAt w b (.slice a n c) fl) (hn : n = fl.length) : n ≤ c := by
  obtain ⟨vs, _, h2, _⟩ := h
  rcases h2.2 with ⟨e1, e2⟩ | ⟨_, _, _, e1, _, _, e2, e3, _⟩
  · omega
  · simp at e1; omega

theorem bytes_front {w : World} {a : Option Addr} {l : List UInt8} {m : Nat} (h : Bytes w a l.length l) (hm : m ≤ l.length) : Bytes w a m (l.take m) := by
  refine ⟨by simp; omega, fun e => by have := h.nil e; omega, fun ad ha i hi => ?_⟩
  rw [h.cell ad ha i (by omega)]
  have : (l.take m).getD i 0 = l.getD i 0 := by simp [List.getD, hi]
  rw [this]

/-- How two lists of files stand to one another, place by place. -/
def Leaves (nl sl : List (List UInt8 × List UInt8)) (e : Int) : Prop :=
  ∀ (i : Nat) (x y : List UInt8 × List UInt8), nl[i]? = some x → sl[i]? = some y → x.1 = y.1 ∧ y.2.length ≤ x.2.length ∧ (x.2.length : Int) - (y.2.length : Int) ≤ max e 0 ∧ x.2.take y.2.length = y.2

theorem leaves_get {w : World} {b1 b2 : Nat} {a1 a2 : Option Addr} {c1 c2 L : Nat} {nl sl : List (List UInt8 × List UInt8)} {e : Int} (h1 : FilesAt w b1 (.slice a1 L c1) nl) (h2 : FilesAt w b2 (.slice a2 L c2) sl) (hL1 : L = nl.length) (hL2 : L = sl.length)
    (hs : ∀ x ∈ nl, x.2.length ≤ 1048576) (hl : Leaves nl sl e) (k : Nat) (hk : k < L) :
    ∃ (g1 g2 xl yl e1 e2 : Nat) (d1 d2 : Option Addr) (nm : ByteArray), a1 = some ⟨g1, 0, none⟩ ∧ a2 = some ⟨g2, 0, none⟩ ∧ yl ≤ xl ∧ xl ≤ 1048576 ∧ (xl : Int) - yl ≤ max e 0 ∧ xl ≤ e1 ∧ (d1 = none → e1 = 0 ∨ xl = 0) ∧
      w.cell? ⟨g1, k * 2, none⟩ = some (.string nm) ∧ w.cell? ⟨g1, k * 2 + 1, none⟩ = some (.slice d1 xl e1) ∧ w.cell? ⟨g2, k * 2, none⟩ = some (.string nm) ∧ w.cell? ⟨g2, k * 2 + 1, none⟩ = some (.slice d2 yl e2) ∧
      ∀ nq, Calls Tryd.prog 22 #[.slice d1 yl e1, .slice d2 yl e2] (w.drewN nq) fun en w' => en = .returned (.bool true) ∧ ∃ m, w' = (w.drewN nq).drewN m := by
  obtain ⟨x, hx⟩ : ∃ x, nl[k]? = some x := ⟨nl[k]'(by omega), by simp⟩
  obtain ⟨y, hy⟩ : ∃ y, sl[k]? = some y := ⟨sl[k]'(by omega), by simp⟩
  obtain ⟨r1, r2, r3, r4⟩ := hl k x y hx hy
  obtain ⟨g1, d1, e1, p1, p2, p3, p4, p5⟩ := h1.get k x hx
  obtain ⟨g2, d2, e2, q1, q2, q3, q4, q5⟩ := h2.get k y hy
  have hxl := hs x (List.mem_of_getElem? hx)
  rw [← r1] at q2
  refine ⟨g1, g2, x.2.length, y.2.length, e1, e2, d1, d2, ⟨x.1.toArray⟩, p1, q1, r2, hxl, r3, p5, fun e => Or.inr (p4.nil e), p2, p3, q2, q3, fun nq => ?_⟩
  have b1 := bytes_front p4 r2
  rw [r4] at b1
  have := sameBytes_any (w := w.drewN nq) (c1 := e1) (c2 := e2) (⟨b1.len, b1.nil, b1.cell⟩ : Bytes (w.drewN nq) d1 y.2.length y.2) (⟨q4.len, q4.nil, q4.cell⟩ : Bytes (w.drewN nq) d2 y.2.length y.2) (by omega) (by omega) q5
  simpa using this

set_option maxRecDepth 100000 in
set_option maxHeartbeats 4000000 in
theorem kept_any (q : Int) (a : Option Addr) (len c : Nat) (ops : List AOp) (nm by_ ag : Int) (w : World) (hg : ∃ m, w.cell? ⟨0, 0, none⟩ = some (.int .i64 m)) (hlen : len = ops.length) (hc : len ≤ c) (hm : len ≤ 9223372036854775807) (hops : OpsAt w a ops) (hsum : (ops.map fun o => o.b.length).sum ≤ 1048576) :
    Calls Tryd.prog 4 #[.int .i64 q, .slice a len c, .int .i64 nm, .int .i64 by_, .int .i64 ag] w fun e w' => e = .returned (.bool true) ∧ Below w.heap.size w w' := by
  have HF := hide (first_any w hg)
  have HO := hide hops
  have HS := hide hsum
  have HL := hide hlen
  have HOB : Hid (∀ W, Below w.heap.size w W → OpsAt W a ops) := fun W hb i o ho => by
    obtain ⟨B, x, e, q⟩ := hops i o ho
    exact ⟨B, x, e, q.below hb⟩
  have HNEW : Hid (∀ W, Below w.heap.size w W → ∃ m, W.cell? ⟨0, 0, none⟩ = some (.int .i64 m)) := by
    intro W hb
    obtain ⟨m, hm⟩ := hg
    exact ⟨m, (hb.cell (lt_of_cell hm)).trans hm⟩
  clear hg hops hsum hlen
  go_enter Tryd.func4, Tryd.ntmps4
  go_wp2_with (go_at_call 9; refine (unhide HF).mono ?_; rintro e w1 ⟨rfl, hB1⟩)
  refine (few_any (unhide HL) hc hm (unhide HOB _ hB1)).mono ?_
  rintro e w3 ⟨⟨r, rfl, hr⟩, nq, hw3⟩
  have hB3 : Below w.heap.size w w3 := by rw [hw3]; exact ⟨hB1.os, hB1.tape, hB1.output, hB1.size, hB1.block⟩
  have HB3 := hide hB3
  clear hB1 hw3 hB3
  cases r with
  | false =>
    clear hr
    go_wp2
    go_ret
    exact ⟨rfl, unhide HB3⟩
  | true =>
    have h300 := hr rfl
    clear hr
    have hsum' := unhide HS
    have HMA := hide (made_any q a len c ops w3 (unhide HNEW _ (unhide HB3)) (unhide HL) hc (by omega) (unhide HOB _ (unhide HB3)) (by omega))
    have ok0 := made_ok q ops (by omega) (unhide HO).nle len (by have := unhide HL; omega)
    have okB : OK (madeS q ops len) len (ops.map fun o => o.b.length).sum := ok0.mono (Nat.le_refl _) (sumB_le ops len)
    obtain ⟨b0, hb0⟩ : ∃ b0, b0 = (ops.map fun o => o.b.length).sum := ⟨_, rfl⟩
    rw [← hb0] at okB hsum'
    obtain ⟨s, hs⟩ : ∃ s, s = madeS q ops len := ⟨_, rfl⟩
    rw [← hs] at okB HMA
    have hb1 : b0 ≤ 1048576 := hsum'
    have ok1 := okB.crash hb1 nm by_
    have ok2 := okB.crash hb1 0 0
    have e1 := crash_data s nm by_
    have e2 := crash_none s
    have e3 := crash_again s nm by_ ag ag
    have e4 := kept_len (s := s) (n := nm)
    have e5 := kept_get (s := s) (n := nm)
    have hdn := (crashS_rest s nm by_).2.2
    obtain ⟨s1, hs1⟩ : ∃ s1, s1 = crashS s nm by_ := ⟨_, rfl⟩
    obtain ⟨s2, hs2⟩ : ∃ s2, s2 = crashS s 0 0 := ⟨_, rfl⟩
    have e4' : nm ≤ 0 → (fileL s1 s1.names (fun f => f.data)).length = (fileL s s.durable (fun f => f.data.take f.dur)).length := fun hn => by rw [hs1]; exact e4 hn by_
    have e5' : nm ≤ 0 → Leaves (fileL s1 s1.names (fun f => f.data)) (fileL s s.durable (fun f => f.data.take f.dur)) by_ := fun hn i x y => by rw [hs1]; exact e5 hn by_ i x y
    have HC1 : Hid (∀ (K : Nat → Prop) (W : World) (F1 F2 : Nat) (s' : AS), Two K W F1 F2 s s' → Calls Tryd.prog 13 #[.pointer (some ⟨F1, 0, none⟩), .int .i64 nm, .int .i64 by_] W fun en w' => en = .returned (.tuple #[]) ∧ Two K w' F1 F2 s1 s' ∧ Keep K W w') := fun K W F1 F2 s' h => by rw [hs1]; exact crash_two h okB (by omega) hb1 nm by_
    have HC2 : Hid (∀ (K : Nat → Prop) (W : World) (F1 F2 : Nat) (s' : AS), Two K W F1 F2 s s' → Calls Tryd.prog 13 #[.pointer (some ⟨F1, 0, none⟩), .int .i64 0, .int .i64 0] W fun en w' => en = .returned (.tuple #[]) ∧ Two K w' F1 F2 s2 s' ∧ Keep K W w') := fun K W F1 F2 s' h => by rw [hs2]; exact crash_two h okB (by omega) hb1 0 0
    rw [← hs1] at ok1 e1 e3 hdn
    rw [← hs2] at ok2 e2
    have ok3 := ok1.crash hb1 ag ag
    obtain ⟨sl, hsl⟩ : ∃ sl, sl = fileL s s.durable (fun f => f.data.take f.dur) := ⟨_, rfl⟩
    obtain ⟨nl, hnl⟩ : ∃ nl, nl = fileL s1 s1.names (fun f => f.data) := ⟨_, rfl⟩
    rw [← hsl] at e2 e4' e5'
    rw [← hnl] at e1 e3 e4' e5'
    have HSL := hide hsl.symm
    have HNL := hide hnl.symm
    have HDL := hide e1.symm
    have HGL := hide e2
    have HML := hide e3
    have HSLE := hide (show ∀ y ∈ sl, y.2.length ≤ 140737488355328 by rw [hsl]; exact fileL_le okB hb1 _ _ (fun f => by simp; omega))
    have HNLE := hide (show ∀ y ∈ nl, y.2.length ≤ 140737488355328 by rw [hnl]; exact fileL_le ok1 hb1 _ _ (fun _ => Nat.le_refl _))
    have HNL2 : Hid (∀ y ∈ nl, y.2.length ≤ 1048576) := by
      intro y hy
      rw [hnl] at hy
      unfold fileL at hy
      obtain ⟨nn, _, rfl⟩ := List.mem_map.1 hy
      show (match s1.files (num s1.names ⟨nn.toArray⟩) with | some f => f.data | none => []).length ≤ _
      cases hf : s1.files (num s1.names ⟨nn.toArray⟩) with
      | none => simp
      | some f => have := ok1.fl _ f hf; show f.data.length ≤ _; omega
    have HE4 := hide e4'
    have HE5 := hide e5'
    have HOK := hide okB
    have HOK1 := hide ok1
    have HOK2 := hide ok2
    have HOK3 := hide ok3
    have HDN := hide hdn
    clear ok0 okB ok1 ok2 ok3 hsum' hb0 hs e1 e2 e3 e4 e5 e4' e5' hs1 hs2 hsl hnl hdn
    go_wp2_with fail
    refine (unhide HMA).mono ?_
    rintro e w4 ⟨F1, rfl, hM4⟩
    go_wp2_with fail
    refine (copy_two hM4.one (unhide HOK) (by omega) hb1).mono ?_
    rintro e w5 ⟨F2, rfl, hT5, hB5⟩
    have hb5 : Below w3.heap.size w3 w5 := hM4.below.trans (hB5.mono hM4.below.size)
    clear hM4 hB5
    go_wp2_with fail
    refine (durable_two hT5 (unhide HOK) (by omega) hb1 (unhide HSL)).mono ?_
    rintro e w6 ⟨sa, sc, rfl, hS6, hB6⟩
    have hT6 := (hT5.below hB6).1
    have hb6 : Below w3.heap.size w3 w6 := hb5.trans (hB6.mono hb5.size)
    clear hT5 hb5 hB6
    go_wp2_with fail
    refine (unhide HC1 _ _ _ _ _ hT6).mono ?_
    rintro e w7 ⟨rfl, hT7, hK7⟩
    clear hT6
    go_wp2_with fail
    refine (unhide HC2 _ _ _ _ _ hT7.swap).mono ?_
    rintro e w8 ⟨rfl, hT8', hK8⟩
    have hT8 := hT8'.swap
    have hS8 := hS6.keep (hK7.trans hK8) (fun b h1 h2 => Or.inr ⟨h1, h2⟩)
    have hb8 : Below w3.heap.size w3 w8 := ((Keep.of_below hb6 (fun _ h => h)).trans ((hK7.trans hK8).mono (fun b hb => Or.inl hb))).below
    clear hT7 hT8' hS6 hb6 hK7 hK8
    go_wp2_with fail
    refine (files_two hT8 (unhide HOK1) (by omega) hb1 (unhide HNL)).mono ?_
    rintro e w9 ⟨na, nc, rfl, hN9, hB9⟩
    have hT9 := (hT8.below hB9).1
    go_wp2_with fail
    refine (durable_two hT9 (unhide HOK1) (by omega) hb1 (unhide HDL)).mono ?_
    rintro e w10 ⟨fa10, fc10, rfl, hF10, hB10⟩
    have hT10 := (hT9.below hB10).1
    have hb810 : Below w8.heap.size w8 w10 := hB9.trans (hB10.mono hB9.size)
    go_wp2_with fail
    refine (sameFiles_same rfl (hN9.below hB10) hF10 (unhide HNLE)).mono ?_
    rintro e w11 ⟨rfl, nq1, hw11⟩
    have hB11 : Below w10.heap.size w10 w11 := by rw [hw11]; exact bel_drewN (Below.refl _ _) nq1
    have hT11 := (hT10.below hB11).1
    have hb811 : Below w8.heap.size w8 w11 := hb810.trans (hB11.mono hb810.size)
    have hN11 := (hN9.below hB10).below hB11
    clear hw11 hT9 hT10 hF10 hN9
    go_wp2_with fail
    refine (files_two hT11.swap (unhide HOK2) (by omega) hb1 (unhide HGL)).mono ?_
    rintro e w12 ⟨fa12, fc12, rfl, hF12, hB12⟩
    have hb812 : Below w8.heap.size w8 w12 := hb811.trans (hB12.mono hb811.size)
    go_wp2_with fail
    refine (sameFiles_same rfl hF12 (hS8.below hb812) (unhide HSLE)).mono ?_
    rintro e w13 ⟨rfl, nq2, hw13⟩
    have hB13 : Below w12.heap.size w12 w13 := by rw [hw13]; exact bel_drewN (Below.refl _ _) nq2
    have hb813 : Below w8.heap.size w8 w13 := hb812.trans (hB13.mono hb812.size)
    have hT13 := (hT8.below hb813).1
    have hN13 := (hN11.below hB12).below hB13
    have hS13 := hS8.below hb813
    have hb13 : Below w3.heap.size w3 w13 := hb8.trans (hb813.mono hb8.size)
    clear hw13 hT8 hT11 hF12 hN11 hS8 hB9 hB10 hB11 hB12 hB13 hb810 hb811 hb812 hb813 hb8
    go_wp2_with fail
    refine (down_two hT13).mono ?_
    rintro e w13 ⟨rfl, rfl⟩
    rw [unhide HDN]
    by_cases hn : nm ≤ 0
    · have hLE := unhide HE4 hn
      have hlv := unhide HE5 hn
      have HGET := hide (fun k hk => leaves_get hN13 (hLE ▸ hS13) rfl hLE (unhide HNL2) hlv k hk)
      have hcN := hN13.cap rfl
      have hmN := hN13.bytes_lt
      unfold maxLen at hmN
      have HLE := hide hLE
      have HT13 := hide hT13
      have HN13 := hide hN13
      have Hb13 := hide hb13
      obtain ⟨L, hL⟩ : ∃ L, L = nl.length := ⟨_, rfl⟩
      rw [← hLE, ← hL]
      rw [← hLE] at hS13
      rw [← hL] at hcN hmN HGET
      have hcS : L ≤ sc := by rw [hL]; exact hS13.cap hLE
      have hmx : L ≤ 9223372036854775807 := by omega
      have HLL := hide hL
      clear hLE hlv hT13 hN13 hb13 hS13 hL
      go_wp2_with fail
      go_loopw [19] (fun i wr => ∃ k nr : Nat, k ≤ L ∧ i = .int .i64 k ∧ wr = w13.drewN nr) (fun i _ => L - (intOf i).toNat)
      case atStart => exact ⟨0, 0, Nat.zero_le _, rfl, rfl⟩
      case round =>
        obtain ⟨k, nr, hk, rfl, hwr⟩ := hrel
        have HWR := hide hwr
        by_cases hlt : k < L
        · obtain ⟨g1, g2, xl, yl, x1, x2, d1, d2, nam, rfl, rfl, v1, v2, v3, v4, v5, k1, k2, k3, k4, hcall⟩ := unhide HGET k hlt
          have HC : Hid (∀ nq, Calls Tryd.prog 22 #[.slice d1 yl x1, .slice d2 yl x2] (wr.drewN nq) fun e w' => e = .returned (.bool true) ∧ ∃ m, w' = (wr.drewN nq).drewN m) := by
            intro nq
            rw [hwr, World.drewN_drewN]; exact hcall _
          have m1 : wr.cell? ⟨g1, k * 2, none⟩ = some (.string nam) := by rw [hwr]; exact k1
          have m2 : wr.cell? ⟨g1, k * 2 + 1, none⟩ = some (.slice d1 xl x1) := by rw [hwr]; exact k2
          have m3 : wr.cell? ⟨g2, k * 2, none⟩ = some (.string nam) := by rw [hwr]; exact k3
          have m4 : wr.cell? ⟨g2, k * 2 + 1, none⟩ = some (.slice d2 yl x2) := by rw [hwr]; exact k4
          have u1 : (yl : Int) ≤ (xl : Int) := by omega
          have u2 : (xl : Int) ≤ 1048576 := by omega
          have u3 : (yl : Int) ≤ (x1 : Int) := by omega
          have cb1 : decide ((xl : Int) < (yl : Int)) = false := decide_eq_false (by omega)
          have cb2 : decide (max by_ 0 < (xl : Int) - (yl : Int)) = false := decide_eq_false (by omega)
          have cbn : decide (xl < yl) = false := decide_eq_false (by omega)
          have hwp : IntKind.i64.wrap ((xl : Int) - (yl : Int)) = (xl : Int) - (yl : Int) := IntWalk.i64_in _ ⟨by omega, by omega⟩
          have cb3 : decide (max by_ 0 < IntKind.i64.wrap ((xl : Int) - (yl : Int))) = false := by rw [hwp]; exact cb2
          have cor : (decide (xl < yl) || decide (max by_ 0 < IntKind.i64.wrap ((xl : Int) - (yl : Int)))) = false := by rw [cbn, cb3]; rfl
          clear hwp
          clear hcall k1 k2 k3 k4 hwr v5
          go_wp2
          go_quiet ((go_at_call 22; exact Calls.quiet_of (unhide HC _)))
          go_wp2
          go_roundw
          case rel => exact ⟨k + 1, nr + nq, by omega, by go_num, by rw [unhide HWR, World.drewN_drewN]⟩
          case measure => simp [intOf]; omega
        · have hkn : k = L := by omega
          subst hkn
          have hTt := (unhide HT13).drewN nr
          have hNt := (unhide HN13).below (bel_drewN (Below.refl _ _) nr)
          have hbt := bel_drewN (unhide Hb13) nr
          rw [← hwr] at hTt hNt hbt
          rw [← unhide HLL] at hNt
          have HSZ : Hid (wr.heap.size = w13.heap.size) := by rw [hwr]; rfl
          clear hwr
          go_wp2_with fail
          refine (crash_two hTt (unhide HOK1) (by omega) hb1 ag ag).mono ?_
          rintro e w14 ⟨rfl, hT14, hK14⟩
          have hN14 := hNt.keep hK14 (fun b h1 h2 => Or.inr ⟨h1, by have := unhide HSZ; omega⟩)
          have hb14 : Below w3.heap.size w3 w14 := ((Keep.of_below hbt (fun _ h => h)).trans (hK14.mono (fun b hb => Or.inl (Or.inl hb)))).below
          clear hTt hNt hK14 hbt
          go_wp2_with fail
          refine (files_two hT14 (unhide HOK3) (by omega) hb1 (unhide HML)).mono ?_
          rintro e w15 ⟨fa15, fc15, rfl, hF15, hB15⟩
          rw [← unhide HLL] at hF15 ⊢
          have hb15 : Below w3.heap.size w3 w15 := hb14.trans (hB15.mono hb14.size)
          go_wp2_with fail
          refine (sameFiles_same (unhide HLL) hF15 (hN14.below hB15) (unhide HNLE)).mono ?_
          rintro e w16 ⟨rfl, nq5, hw16⟩
          have HBE : Hid (Below w.heap.size w w16) := by
            rw [hw16]
            exact (unhide HB3).trans ((bel_drewN hb15 nq5).mono (unhide HB3).size)
          clear hw16 hT14 hN14 hF15 hB15 hb14 hb15
          go_wp2_with fail
          go_ret
          exact ⟨rfl, unhide HBE⟩
    · have hn' : ¬ (nm ≤ 0) := hn
      have hTt := hT13
      have hNt := hN13
      have hbt := hb13
      clear hT13 hN13 hb13 hS13
      go_wp2_with fail
      refine (crash_two hTt (unhide HOK1) (by omega) hb1 ag ag).mono ?_
      rintro e w14 ⟨rfl, hT14, hK14⟩
      have hN14 := hNt.keep hK14 (fun b h1 h2 => Or.inr ⟨h1, h2⟩)
      have hb14 : Below w3.heap.size w3 w14 := ((Keep.of_below hbt (fun _ h => h)).trans (hK14.mono (fun b hb => Or.inl (Or.inl hb)))).below
      clear hTt hNt hK14 hbt
      go_wp2_with fail
      refine (files_two hT14 (unhide HOK3) (by omega) hb1 (unhide HML)).mono ?_
      rintro e w15 ⟨fa15, fc15, rfl, hF15, hB15⟩
      have hb15 : Below w3.heap.size w3 w15 := hb14.trans (hB15.mono hb14.size)
      go_wp2_with fail
      refine (sameFiles_same rfl hF15 (hN14.below hB15) (unhide HNLE)).mono ?_
      rintro e w16 ⟨rfl, nq5, hw16⟩
      have HBE : Hid (Below w.heap.size w w16) := by
        rw [hw16]
        exact (unhide HB3).trans ((bel_drewN hb15 nq5).mono (unhide HB3).size)
      clear hw16 hT14 hN14 hF15 hB15 hb14 hb15
      go_wp2_with fail
      go_ret
      exact ⟨rfl, unhide HBE⟩

end Go.Proofs.YtbdbobikiikbgaaDoor
