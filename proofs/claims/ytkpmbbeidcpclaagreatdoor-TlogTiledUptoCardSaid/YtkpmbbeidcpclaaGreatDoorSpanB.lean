/-
  The hash of a span, read from a log.
-/
import Derived.Test.YtkpmbbeidcpclaaGreatDoorSpanA
namespace Go.Proofs.YtkpmbbeidcpclaaGreatDoor
open Go.RowKit

theorem and_i64 (a b : Nat) (ha : a < 1073741824) (hb : b < 1073741824) : bits .and .i64 (a : Int) (b : Int) = ((a &&& b : Nat) : Int) := by
  have hx : a &&& b < 2 ^ 33 := Nat.and_lt_two_pow _ (by omega)
  have h1 : (BitVec.ofInt 64 (a : Int)).toNat = a := by
    rw [BitVec.ofInt_natCast, BitVec.toNat_ofNat]; exact Nat.mod_eq_of_lt (by omega)
  have h2 : (BitVec.ofInt 64 (b : Int)).toNat = b := by
    rw [BitVec.ofInt_natCast, BitVec.toNat_ofNat]; exact Nat.mod_eq_of_lt (by omega)
  show IntKind.i64.wrap ((BitVec.ofInt 64 (a : Int) &&& BitVec.ofInt 64 (b : Int)).toNat : Int) = _
  rw [BitVec.toNat_and, h1, h2, IntKind.wrap_i64]
  omega

/-- A number is a power of two, or lies between two of them: the look at its bits tells. -/
theorem pow_or {n : Nat} (h1 : 1 ≤ n) (h2 : n ≤ 1048576) : (∃ v, v ≤ 20 ∧ 2 ^ v = n ∧ n &&& (n - 1) = 0) ∨ (2 ≤ n ∧ n < 2 * half n ∧ n &&& (n - 1) ≠ 0) := by
  have hand : ∀ v, 2 ^ v &&& (2 ^ v - 1) = 0 := fun v => by rw [Nat.and_two_pow_sub_one_eq_mod, Nat.mod_self]
  by_cases hn : n = 1
  · exact Or.inl ⟨0, by omega, by rw [hn], by rw [hn]; rfl⟩
  · obtain ⟨g1, g2, g3, g4⟩ := half_is (n := n) (by omega) h2
    by_cases he : n = 2 * half n
    · left
      refine ⟨Lib.bitLen (n - 1), by omega, ?_, ?_⟩
      · unfold half at he
        have : (2 : Nat) ^ (Lib.bitLen (n - 1)) = 2 * 2 ^ (Lib.bitLen (n - 1) - 1) := by
          rw [← Nat.pow_succ', Nat.succ_eq_add_one, Nat.sub_add_cancel g4]
        omega
      · have e2 : n = 2 ^ (Lib.bitLen (n - 1) - 1 + 1) := by
          unfold half at he
          rw [Nat.pow_succ]; omega
        have := hand (Lib.bitLen (n - 1) - 1 + 1)
        rw [← e2] at this
        exact this
    · right
      refine ⟨by omega, by omega, fun h0 => ?_⟩
      have hb : ∀ m, half n ≤ m → m < 2 * half n → m.testBit (Lib.bitLen (n - 1) - 1) = true := fun m hm1 hm2 => by
        rw [Nat.testBit_eq_decide_div_mod_eq]
        have : m / 2 ^ (Lib.bitLen (n - 1) - 1) = 1 := by
          unfold half at hm1 hm2
          apply Nat.div_eq_of_lt_le <;> omega
        rw [this]; rfl
      have t1 := hb n (by omega) (by omega)
      have t2 := hb (n - 1) (by omega) (by omega)
      have t3 : (n &&& (n - 1)).testBit (Lib.bitLen (n - 1) - 1) = true := by rw [Nat.testBit_and, t1, t2]; rfl
      rw [h0] at t3
      simp at t3

/-- A function that reads a log and copies. -/
structure Rd (w : World) (R F n : Nat) (lv : List Bs) : Prop where
  cell : w.cell? ⟨R, 0, none⟩ = some (.func (.func 25) #[.pointer (some ⟨F, 0, none⟩)] #[])
  log : ∃ base hs, LogAt base w F n hs ∧ Inv lv hs
  len : lv.length = n
  few : n ≤ 100000
  tz : TzAt w
theorem Rd.low {w w' : World} {R F n : Nat} {lv : List Bs} (h : Rd w R F n lv) (b : Below w.heap.size w w') : Rd w' R F n lv := by
  obtain ⟨h1, ⟨base, hs, hl, hi⟩, h3, h4, h5⟩ := h
  exact ⟨(b.cell (lt_of_cell h1)).trans h1, ⟨base, hs, hl.low b, hi⟩, h3, h4, h5.low b⟩

/-- What a hash is answered as, with no error. -/
def HashOk (w : World) (b : Bs) (e : Ending) (w' : World) : Prop := ∃ a c, e = .returned (.tuple #[.slice a 32 c, .int .i64 0]) ∧ b.length = 32 ∧ OwnB w.heap.size w' (.slice a 32 c) b ∧ Below w.heap.size w w'

theorem fn_nil {p : Value} {w : World} : (binOp BinOp.eql 135 (.func (.func 25) #[p] #[]) .nilFunc).run Tryz.prog w = .ok (.bool false) w := by kernel_rfl

set_option maxRecDepth 100000 in
set_option maxHeartbeats 1000000 in
theorem read_any {w : World} {R F n v j : Nat} {lv : List Bs} (h : Rd w R F n lv) (hv : v ≤ 20) (hj : (j + 1) * 2 ^ v ≤ n) :
    Calls Tryz.prog 125 #[.int .i64 (v : Int), .int .i64 (j : Int), .pointer (some ⟨R, 0, none⟩)] w (HashOk w (treeH v (lv.drop (j * 2 ^ v)))) := by
  obtain ⟨hc, ⟨base, hs, hl, hi⟩, hlen, hfew, _⟩ := h
  have h32 : (treeH v (lv.drop (j * 2 ^ v))).length = 32 := hl.all _ (List.mem_of_getElem? (hi.tree v j (by omega)))
  have HH := hide (logHash_ok hl hi hlen hfew hv hj)
  obtain ⟨T, hT⟩ : ∃ T, treeH v (lv.drop (j * 2 ^ v)) = T := ⟨_, rfl⟩
  rw [hT] at HH h32 ⊢
  have H32 := hide h32
  have hfn := fn_nil (p := .pointer (some ⟨F, 0, none⟩)) (w := w)
  clear hl hi hlen hT h32 hj
  go_enter Tryz.func125, Tryz.ntmps125
  go_wp2_with (go_at_call 25; fail)
  refine (unhide HH).mono ?_
  rintro e w1 ⟨a, c, rfl, o1, b1⟩
  obtain ⟨g1, c1, hve, hb1⟩ := OwnB.adr o1 (unhide H32)
  obtain ⟨rfl, _, rfl⟩ := Value.slice.inj hve
  have HC := hide (clone_any (c := c) (unhide H32) (by omega) hb1)
  have HB := hide b1
  clear o1 b1 hve hb1
  go_wp2_with (go_at_call 63; fail)
  refine (unhide HC).mono ?_
  rintro e w2 ⟨v2, rfl, o2, b2⟩
  obtain ⟨g2, c2, rfl, _⟩ := OwnB.adr o2 (unhide H32)
  have HR : Hid (HashOk w T (.returned (.tuple #[.slice (some ⟨g2, 0, none⟩) 32 c2, .int .i64 0])) w2) := hide ⟨_, c2, rfl, unhide H32, OwnB.less (unhide HB).size o2, low_trans (unhide HB) b2⟩
  clear o2 b2 HC
  go_wp2
  go_ret2
  exact unhide HR

/-- Its first record's number is a multiple of each power of two up to its count. -/
def Al (f n : Nat) : Prop := ∀ u, 2 ^ u ≤ n → f % 2 ^ u = 0
theorem Al.zero (n : Nat) : Al 0 n := fun _ _ => Nat.zero_mod _
theorem Al.left {f n : Nat} (h : Al f n) (h1 : 2 ≤ n) (h2 : n ≤ 1048576) : Al f (half n) := fun u hu => h u (by have := (half_is h1 h2).1; omega)
theorem Al.right {f n : Nat} (h : Al f n) (h1 : 2 ≤ n) (h2 : n ≤ 1048576) : Al (f + half n) (n - half n) := fun u hu => by
  obtain ⟨g1, g2, _, _⟩ := half_is h1 h2
  have hle : 2 ^ u ≤ half n := by omega
  have hd : 2 ^ u ∣ half n := by
    unfold half at hle ⊢
    exact Nat.pow_dvd_pow 2 ((Nat.pow_le_pow_iff_right (by decide)).1 hle)
  exact Nat.mod_eq_zero_of_dvd (Nat.dvd_add (Nat.dvd_of_mod_eq_zero (h u (by omega))) hd)

abbrev rdV (R : Nat) : Value := .func (.func 125) #[] #[.pointer (some ⟨R, 0, none⟩)]

set_option maxRecDepth 100000 in
set_option maxHeartbeats 2000000 in
theorem spanHash_any : ∀ (k : Nat) {w : World} {R F N f n : Nat} {lv : List Bs} (_ : Rd w R F N lv) (_ : 1 ≤ n) (_ : n ≤ k) (_ : f + n ≤ N) (_ : Al f n),
    Calls Tryz.prog 105 #[.agg #[.int .i64 (f : Int), .int .i64 (n : Int)], rdV R] w (HashOk w (mth k ((lv.drop f).take n)))
  | 0, w, R, F, N, f, n, lv, _, h1, hk, _, _ => by omega
  | k + 1, w, R, F, N, f, n, lv, hrd, h1, hk, hN, hal => by
    have hfew := hrd.few
    obtain ⟨W1, hW1⟩ : ∃ W1, w.alloc (.cells #[.int .i64 (f : Int), .int .i64 (n : Int)] 137) = W1 := ⟨_, rfl⟩
    have b1 : Below w.heap.size w W1 := by rw [← hW1]; exact (Below.refl _ _).alloc (Nat.le_refl _) _
    have hblk : Blk W1 w.heap.size #[.int .i64 (f : Int), .int .i64 (n : Int)] 137 := by rw [← hW1]; exact Blk.new _ _ _
    have hc0 : W1.cell? ⟨w.heap.size, 0, none⟩ = some (.int .i64 (f : Int)) := hblk.cell 0
    have hc1 : W1.cell? ⟨w.heap.size, 1, none⟩ = some (.int .i64 (n : Int)) := hblk.cell 1
    have hrd1 := hrd.low b1
    have hand := and_i64 n (n - 1) (by omega) (by omega)
    obtain ⟨n1, hn1⟩ : ∃ n1, n - 1 = n1 := ⟨_, rfl⟩
    have e1 : (n : Int) - 1 = (n1 : Int) := by omega
    rw [hn1] at hand
    have hllen : ((lv.drop f).take n).length = n := by rw [List.length_take, List.length_drop, hrd.len]; omega
    rcases pow_or h1 (by omega) with ⟨v, hv, hp, h0⟩ | ⟨h2, hlt, hne⟩
    · rw [hn1] at h0
      rw [h0] at hand
      have hand' : bits .and .i64 (n : Int) (n1 : Int) = 0 := hand
      have htz := tz_any hv hp hrd1.tz
      have hfm := hal v (by omega)
      obtain ⟨j, hj⟩ : ∃ j, f / 2 ^ v = j := ⟨_, rfl⟩
      have hfj : j * 2 ^ v = f := by rw [← hj]; exact Nat.div_mul_cancel (Nat.dvd_of_mod_eq_zero hfm)
      have hjn : (j + 1) * 2 ^ v ≤ N := by rw [Nat.succ_mul, hfj, hp]; exact hN
      have HRD := hide (read_any hrd1 hv hjn)
      rw [hfj] at HRD
      have hmt : mth (k + 1) ((lv.drop f).take n) = treeH v (lv.drop f) := by
        rw [mth_tree v (k + 1) _ hv (by rw [hllen, hp]) (by omega)]
        conv => rhs; rw [← List.take_append_drop n (lv.drop f)]
        rw [treeH_app v _ _ (by rw [hllen, hp]; exact Nat.le_refl _)]
      rw [hmt]
      have e2 : (f : Int) / 2 ^ v = (j : Int) := by rw [pow_int, ← Int.natCast_ediv, hj]
      have e3 : min v 64 = v := by omega
      have HTZ := hide htz
      have HW := hide hW1
      have HB := hide b1
      clear hand h0 htz hp hfm hj hfj hjn hmt hblk hrd hrd1 hW1 b1 hllen hal hn1
      go_enter Tryz.func105, Tryz.ntmps105
      go_wp2_with (go_at_call 123; fail)
      rw [unhide HW]
      refine (unhide HTZ).mono ?_
      rintro e w2 ⟨rfl, rfl⟩
      go_wp2_with (go_at_call 125; fail)
      refine (unhide HRD).mono ?_
      rintro e w3 ⟨a, c, rfl, h32, o3, b3⟩
      have HR : Hid (HashOk w (treeH v (lv.drop f)) (.returned (.tuple #[.slice a 32 c, .int .i64 0])) w3) := hide ⟨a, c, rfl, h32, OwnB.less (unhide HB).size o3, low_trans (unhide HB) b3⟩
      clear o3 b3 h32
      go_wp2
      go_ret2
      exact unhide HR
    · rw [hn1] at hne
      have hand' : (bits .and .i64 (n : Int) (n1 : Int) == 0) = false := by rw [hand]; simp; exact hne
      obtain ⟨g1, g2, _, _⟩ := half_is h2 (by omega)
      obtain ⟨h, hh⟩ : ∃ h, half n = h := ⟨_, rfl⟩
      have HHV := hide (fun wx => halves_any (f := f) h2 (by omega) (by omega) hh wx)
      have hmt := mth_two (f := k) (l := (lv.drop f).take n) (by omega)
      rw [hllen, hh] at hmt
      have al1 := hal.left h2 (by omega)
      have al2 := hal.right h2 (by omega)
      rw [hh] at al1 al2 g1 g2
      obtain ⟨f2, hf2⟩ : ∃ f2, f + h = f2 := ⟨_, rfl⟩
      obtain ⟨n2, hn2⟩ : ∃ n2, n - h = n2 := ⟨_, rfl⟩
      rw [hf2, hn2] at HHV al2
      have t1 : ((lv.drop f).take n).take h = (lv.drop f).take h := by rw [List.take_take, Nat.min_eq_left (by omega)]
      have t2 : ((lv.drop f).take n).drop h = (lv.drop f2).take n2 := by rw [List.drop_take, List.drop_drop, hf2, hn2]
      rw [t1, t2] at hmt
      have HRD := hide hrd1
      have HAL1 := hide al1
      have HAL2 := hide al2
      have HMT := hide hmt
      have HW := hide hW1
      have HB := hide b1
      have HN2 := hide hn2
      have HF2 := hide hf2
      have k1 : 1 ≤ h := by omega
      have k2 : h ≤ k := by omega
      have k3 : f + h ≤ N := by omega
      have k4 : 1 ≤ n2 := by omega
      have k5 : n2 ≤ k := by omega
      have k6 : f2 + n2 ≤ N := by omega
      clear hand hne hblk hrd hrd1 hW1 b1 hllen hal hn1 hh hmt al1 al2 hf2 hn2 t1 t2
      go_enter Tryz.func105, Tryz.ntmps105
      go_wp2_with (go_at_call 124; fail)
      rw [unhide HW]
      refine (unhide HHV _).mono ?_
      rintro e w3 ⟨rfl, b3⟩
      obtain ⟨W4, hW4⟩ : ∃ W4, (w3.alloc (.cells #[.int .i64 (f : Int), .int .i64 (h : Int)] 137)).alloc (.cells #[.int .i64 (f2 : Int), .int .i64 (n2 : Int)] 137) = W4 := ⟨_, rfl⟩
      have s3 : (w3.alloc (.cells #[.int .i64 (f : Int), .int .i64 (h : Int)] 137)).heap.size = w3.heap.size + 1 := by simp
      have b4 : Below w3.heap.size w3 W4 := by rw [← hW4]; exact ((Below.refl _ _).alloc (Nat.le_refl _) _).alloc (by rw [s3]; omega) _
      have hk8 : Blk W4 (w3.heap.size + 1) #[.int .i64 (f2 : Int), .int .i64 (n2 : Int)] 137 := by
        have := Blk.new (w3.alloc (.cells #[.int .i64 (f : Int), .int .i64 (h : Int)] 137)) #[.int .i64 (f2 : Int), .int .i64 (n2 : Int)] 137
        rw [s3, hW4] at this
        exact this
      have hb4 := low_trans (low_trans (unhide HB) b3) b4
      have HRC := hide (spanHash_any k (((unhide HRD).low b3).low b4) k1 k2 k3 (unhide HAL1))
      have HRD4 := hide (((unhide HRD).low b3).low b4)
      have HB4 := hide hb4
      have HW4 := hide hW4
      have HK8 := hide hk8
      clear b3 b4 hk8 hb4 hW4 s3 HRD HB hc0 hc1
      go_wp2_with (go_at_call 105; fail)
      rw [unhide HW4]
      refine (unhide HRC).mono ?_
      rintro e w5 ⟨a5, c5, rfl, h32, o5, b5⟩
      have hk5 := (unhide HK8).low b5
      have d0 : w5.cell? ⟨w3.heap.size + 1, 0, none⟩ = some (.int .i64 (f2 : Int)) := hk5.cell 0
      have d1 : w5.cell? ⟨w3.heap.size + 1, 1, none⟩ = some (.int .i64 (n2 : Int)) := hk5.cell 1
      have HRC2 := hide (spanHash_any k ((unhide HRD4).low b5) k4 k5 k6 (unhide HAL2))
      have HO5 := hide (And.intro h32 o5)
      have HB5 := hide b5
      clear h32 o5 b5 hk5 HRC HK8
      go_wp2_with (go_at_call 105; fail)
      refine (unhide HRC2).mono ?_
      rintro e w6 ⟨a6, c6, rfl, h32', o6, b6⟩
      obtain ⟨h32, o5⟩ := unhide HO5
      obtain ⟨x5, y5, hv5, hb5⟩ := OwnB.adr (OwnB.low o5 b6) h32
      obtain ⟨x6, y6, hv6, hb6⟩ := OwnB.adr o6 h32'
      obtain ⟨rfl, _, rfl⟩ := Value.slice.inj hv5
      obtain ⟨rfl, _, rfl⟩ := Value.slice.inj hv6
      have HND := hide (node_any (c := c5) (c2 := c6) h32 h32' (by omega) (by omega) hb5 hb6)
      have HB6 := hide (low_trans (low_trans (unhide HB4) (unhide HB5)) b6)
      clear h32 o5 h32' o6 b6 hv5 hv6 hb5 hb6 HO5 HRC2 HB4 HB5 d0 d1
      go_wp2_with (go_at_call 72; fail)
      refine (unhide HND).mono ?_
      rintro e w7 ⟨v7, rfl, o7, b7⟩
      obtain ⟨g7, c7, rfl, _⟩ := OwnB.adr o7 (node_len _ _)
      have HR : Hid (HashOk w (mth (k + 1) ((lv.drop f).take n)) (.returned (.tuple #[.slice (some ⟨g7, 0, none⟩) 32 c7, .int .i64 0])) w7) := hide ⟨_, c7, rfl, by rw [unhide HMT]; exact node_len _ _, by rw [unhide HMT]; exact OwnB.less (unhide HB6).size o7, low_trans (unhide HB6) b7⟩
      clear o7 b7 HND
      go_wp2
      go_ret2
      exact unhide HR

end Go.Proofs.YtkpmbbeidcpclaaGreatDoor
