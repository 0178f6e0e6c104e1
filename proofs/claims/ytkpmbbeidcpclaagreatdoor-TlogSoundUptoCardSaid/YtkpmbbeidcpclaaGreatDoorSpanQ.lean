/-
  A log's proofs, at any numbers.
-/
import Derived.Test.YtkpmbbeidcpclaaGreatDoorHshE
import Derived.Test.YtkpmbbeidcpclaaGreatDoorTz
import Derived.Test.YtkpmbbeidcpclaaGreatDoorCkA
namespace Go.Proofs.YtkpmbbeidcpclaaGreatDoor
open Go.RowKit

theorem size100 : (Tryz.prog.info? 137).map (·.size) = some 2 := by kernel_rfl

set_option maxRecDepth 100000 in
set_option maxHeartbeats 1000000 in
theorem halves_any {f n h : Nat} (h1 : 2 ≤ n) (h2 : n ≤ 1048576) (hf : f ≤ 1048576) (hh : half n = h) (w : World) :
    Calls Tryz.prog 124 #[.agg #[.int .i64 (f : Int), .int .i64 (n : Int)]] w fun e w' => e = .returned (.tuple #[.agg #[.int .i64 (f : Int), .int .i64 (h : Int)], .agg #[.int .i64 ((f + h : Nat) : Int), .int .i64 ((n - h : Nat) : Int)]]) ∧ Below w.heap.size w w' := by
  obtain ⟨g1, g2, _, _⟩ := half_is h1 h2
  have HHF := hide (fun wx => firstHalf_any h1 h2 wx)
  rw [hh] at g1 g2 HHF
  obtain ⟨f2, hf2⟩ : ∃ f2, f + h = f2 := ⟨_, rfl⟩
  obtain ⟨n2, hn2⟩ : ∃ n2, n - h = n2 := ⟨_, rfl⟩
  have e1 : (f : Int) + (h : Int) = (f2 : Int) := by omega
  have e2 : (n : Int) - (h : Int) = (n2 : Int) := by omega
  have hf2b : f2 ≤ 2097152 := by omega
  rw [hf2, hn2]
  clear hf2 hn2 hh
  go_enter Tryz.func124, Tryz.ntmps124
  go_wp2_with (go_at_call 110; fail)
  refine (unhide HHF _).mono ?_
  rintro e w1 ⟨rfl, hw1⟩
  subst hw1
  go_wp2
  go_region
  go_wp2
  have hA := Blk.new (w.alloc (.cells #[.int .i64 (f : Int), .int .i64 (n : Int)] 137)) #[.int .i64 (f : Int), .int .i64 (h : Int)] 137
  have hA2 := hA.alloc (.cells #[.int .i64 (f2 : Int), .int .i64 (n2 : Int)] 137)
  have hB2 := Blk.new ((w.alloc (.cells #[.int .i64 (f : Int), .int .i64 (n : Int)] 137)).alloc (.cells #[.int .i64 (f : Int), .int .i64 (h : Int)] 137)) #[.int .i64 (f2 : Int), .int .i64 (n2 : Int)] 137
  have sA : (w.alloc (.cells #[.int .i64 (f : Int), .int .i64 (n : Int)] 137)).heap.size = w.heap.size + 1 := by simp
  have sB : ((w.alloc (.cells #[.int .i64 (f : Int), .int .i64 (n : Int)] 137)).alloc (.cells #[.int .i64 (f : Int), .int .i64 (h : Int)] 137)).heap.size = w.heap.size + 1 + 1 := by simp
  rw [sA] at hA2
  rw [sB] at hB2
  have hb : Below w.heap.size w (((w.alloc (.cells #[.int .i64 (f : Int), .int .i64 (n : Int)] 137)).alloc (.cells #[.int .i64 (f : Int), .int .i64 (h : Int)] 137)).alloc (.cells #[.int .i64 (f2 : Int), .int .i64 (n2 : Int)] 137)) :=
    (((Below.refl _ _).alloc (Nat.le_refl _) _).alloc (by rw [sA]; omega) _).alloc (by rw [sB]; omega) _
  exact bodyPost_ret (v := .tuple #[.agg #[.int .i64 (f : Int), .int .i64 (h : Int)], .agg #[.int .i64 (f2 : Int), .int .i64 (n2 : Int)]])
    (by
      have l1 := run_loadVar_row (P := Tryz.prog) _ (w.heap.size + 1) 137 137 _ (0, 0) _ hA2.drew Tryz.underlying137 rfl size100
      have l2 := run_loadVar_row (P := Tryz.prog) _ (w.heap.size + 1 + 1) 137 137 _ (0, 0) _ hB2.drew Tryz.underlying137 rfl size100
      simp only [results, Tryz.results124]
      simp [asAddr, l1, l2]) rfl ⟨rfl, hb.drew⟩

end Go.Proofs.YtkpmbbeidcpclaaGreatDoor

namespace Go.Proofs.YtkpmbbeidcpclaaGreatDoor
open Go.RowKit

theorem and_i64 (a b : Nat) (ha : a < 1073741824) (hb : b < 1073741824) : bits .and .i64 (a : Int) (b : Int) = ((a &&& b : Nat) : Int) := by
  have hx : a &&& b < 2 ^ 33 := Nat.and_lt_two_pow _ (by omega)
  have h1 : (BitVec.ofInt 64 (a : Int)).toNat = a := by
    rw [BitVec.ofInt_natCast, BitVec.toNat_ofNat]; exact Nat.mod_eq_of_lt (by omega)
  have h2 : (BitVec.ofInt 64 (b : Int)).toNat = b := by
    rw [BitVec.ofInt_natCast, BitVec.toNat_ofNat]; exact Nat.mod_eq_of_lt (by omega)
  show IntKind.i64.wrap ((BitVec.ofInt 64 (a : Int) &&& BitVec.ofInt 64 (b : Int)).toNat : Int) = _
  rw [BitVec.toNat_and, h1, h2, IntKind.wrap_i64]
  omega

/-- A number is a power of two, or lies between two of them: the look at its bits tells. -/
theorem pow_or {n : Nat} (h1 : 1 ≤ n) (h2 : n ≤ 1048576) : (∃ v, v ≤ 20 ∧ 2 ^ v = n ∧ n &&& (n - 1) = 0) ∨ (2 ≤ n ∧ n < 2 * half n ∧ n &&& (n - 1) ≠ 0) := by
  have hand : ∀ v, 2 ^ v &&& (2 ^ v - 1) = 0 := fun v => by rw [Nat.and_two_pow_sub_one_eq_mod, Nat.mod_self]
  by_cases hn : n = 1
  · exact Or.inl ⟨0, by omega, by rw [hn], by rw [hn]; rfl⟩
  · obtain ⟨g1, g2, g3, g4⟩ := half_is (n := n) (by omega) h2
    by_cases he : n = 2 * half n
    · left
      refine ⟨Lib.bitLen (n - 1), by omega, ?_, ?_⟩
      · unfold half at he
        have : (2 : Nat) ^ (Lib.bitLen (n - 1)) = 2 * 2 ^ (Lib.bitLen (n - 1) - 1) := by
          rw [← Nat.pow_succ', Nat.succ_eq_add_one, Nat.sub_add_cancel g4]
        omega
      · have e2 : n = 2 ^ (Lib.bitLen (n - 1) - 1 + 1) := by
          unfold half at he
          rw [Nat.pow_succ]; omega
        have := hand (Lib.bitLen (n - 1) - 1 + 1)
        rw [← e2] at this
        exact this
    · right
      refine ⟨by omega, by omega, fun h0 => ?_⟩
      have hb : ∀ m, half n ≤ m → m < 2 * half n → m.testBit (Lib.bitLen (n - 1) - 1) = true := fun m hm1 hm2 => by
        rw [Nat.testBit_eq_decide_div_mod_eq]
        have : m / 2 ^ (Lib.bitLen (n - 1) - 1) = 1 := by
          unfold half at hm1 hm2
          apply Nat.div_eq_of_lt_le <;> omega
        rw [this]; rfl
      have t1 := hb n (by omega) (by omega)
      have t2 := hb (n - 1) (by omega) (by omega)
      have t3 : (n &&& (n - 1)).testBit (Lib.bitLen (n - 1) - 1) = true := by rw [Nat.testBit_and, t1, t2]; rfl
      rw [h0] at t3
      simp at t3

/-- A function that reads a log and copies. -/
structure Rd (w : World) (R F n : Nat) (lv : List Bs) : Prop where
  cell : w.cell? ⟨R, 0, none⟩ = some (.func (.func 25) #[.pointer (some ⟨F, 0, none⟩)] #[])
  log : ∃ base hs, LogAt base w F n hs ∧ Inv lv hs
  len : lv.length = n
  few : n ≤ 100000
  tz : TzAt w
theorem Rd.low {w w' : World} {R F n : Nat} {lv : List Bs} (h : Rd w R F n lv) (b : Below w.heap.size w w') : Rd w' R F n lv := by
  obtain ⟨h1, ⟨base, hs, hl, hi⟩, h3, h4, h5⟩ := h
  exact ⟨(b.cell (lt_of_cell h1)).trans h1, ⟨base, hs, hl.low b, hi⟩, h3, h4, h5.low b⟩

/-- What a hash is answered as, with no error. -/
def HashOk (w : World) (b : Bs) (e : Ending) (w' : World) : Prop := ∃ a c, e = .returned (.tuple #[.slice a 32 c, .int .i64 0]) ∧ b.length = 32 ∧ OwnB w.heap.size w' (.slice a 32 c) b ∧ Below w.heap.size w w'

theorem fn_nil {p : Value} {w : World} : (binOp BinOp.eql 135 (.func (.func 25) #[p] #[]) .nilFunc).run Tryz.prog w = .ok (.bool false) w := by kernel_rfl

set_option maxRecDepth 100000 in
set_option maxHeartbeats 1000000 in
theorem read_any {w : World} {R F n v j : Nat} {lv : List Bs} (h : Rd w R F n lv) (hv : v ≤ 20) (hj : (j + 1) * 2 ^ v ≤ n) :
    Calls Tryz.prog 125 #[.int .i64 (v : Int), .int .i64 (j : Int), .pointer (some ⟨R, 0, none⟩)] w (HashOk w (treeH v (lv.drop (j * 2 ^ v)))) := by
  obtain ⟨hc, ⟨base, hs, hl, hi⟩, hlen, hfew, _⟩ := h
  have h32 : (treeH v (lv.drop (j * 2 ^ v))).length = 32 := hl.all _ (List.mem_of_getElem? (hi.tree v j (by omega)))
  have HH := hide (logHash_ok hl hi hlen hfew hv hj)
  obtain ⟨T, hT⟩ : ∃ T, treeH v (lv.drop (j * 2 ^ v)) = T := ⟨_, rfl⟩
  rw [hT] at HH h32 ⊢
  have H32 := hide h32
  have hfn := fn_nil (p := .pointer (some ⟨F, 0, none⟩)) (w := w)
  clear hl hi hlen hT h32 hj
  go_enter Tryz.func125, Tryz.ntmps125
  go_wp2_with (go_at_call 25; fail)
  refine (unhide HH).mono ?_
  rintro e w1 ⟨a, c, rfl, o1, b1⟩
  obtain ⟨g1, c1, hve, hb1⟩ := OwnB.adr o1 (unhide H32)
  obtain ⟨rfl, _, rfl⟩ := Value.slice.inj hve
  have HC := hide (clone_any (c := c) (unhide H32) (by omega) hb1)
  have HB := hide b1
  clear o1 b1 hve hb1
  go_wp2_with (go_at_call 63; fail)
  refine (unhide HC).mono ?_
  rintro e w2 ⟨v2, rfl, o2, b2⟩
  obtain ⟨g2, c2, rfl, _⟩ := OwnB.adr o2 (unhide H32)
  have HR : Hid (HashOk w T (.returned (.tuple #[.slice (some ⟨g2, 0, none⟩) 32 c2, .int .i64 0])) w2) := hide ⟨_, c2, rfl, unhide H32, OwnB.less (unhide HB).size o2, low_trans (unhide HB) b2⟩
  clear o2 b2 HC
  go_wp2
  go_ret2
  exact unhide HR

/-- Its first record's number is a multiple of each power of two up to its count. -/
def Al (f n : Nat) : Prop := ∀ u, 2 ^ u ≤ n → f % 2 ^ u = 0
theorem Al.zero (n : Nat) : Al 0 n := fun _ _ => Nat.zero_mod _
theorem Al.left {f n : Nat} (h : Al f n) (h1 : 2 ≤ n) (h2 : n ≤ 1048576) : Al f (half n) := fun u hu => h u (by have := (half_is h1 h2).1; omega)
theorem Al.right {f n : Nat} (h : Al f n) (h1 : 2 ≤ n) (h2 : n ≤ 1048576) : Al (f + half n) (n - half n) := fun u hu => by
  obtain ⟨g1, g2, _, _⟩ := half_is h1 h2
  have hle : 2 ^ u ≤ half n := by omega
  have hd : 2 ^ u ∣ half n := by
    unfold half at hle ⊢
    exact Nat.pow_dvd_pow 2 ((Nat.pow_le_pow_iff_right (by decide)).1 hle)
  exact Nat.mod_eq_zero_of_dvd (Nat.dvd_add (Nat.dvd_of_mod_eq_zero (h u (by omega))) hd)

abbrev rdV (R : Nat) : Value := .func (.func 125) #[] #[.pointer (some ⟨R, 0, none⟩)]

set_option maxRecDepth 100000 in
set_option maxHeartbeats 2000000 in
theorem spanHash_any : ∀ (k : Nat) {w : World} {R F N f n : Nat} {lv : List Bs} (_ : Rd w R F N lv) (_ : 1 ≤ n) (_ : n ≤ k) (_ : f + n ≤ N) (_ : Al f n),
    Calls Tryz.prog 105 #[.agg #[.int .i64 (f : Int), .int .i64 (n : Int)], rdV R] w (HashOk w (mth k ((lv.drop f).take n)))
  | 0, w, R, F, N, f, n, lv, _, h1, hk, _, _ => by omega
  | k + 1, w, R, F, N, f, n, lv, hrd, h1, hk, hN, hal => by
    have hfew := hrd.few
    obtain ⟨W1, hW1⟩ : ∃ W1, w.alloc (.cells #[.int .i64 (f : Int), .int .i64 (n : Int)] 137) = W1 := ⟨_, rfl⟩
    have b1 : Below w.heap.size w W1 := by rw [← hW1]; exact (Below.refl _ _).alloc (Nat.le_refl _) _
    have hblk : Blk W1 w.heap.size #[.int .i64 (f : Int), .int .i64 (n : Int)] 137 := by rw [← hW1]; exact Blk.new _ _ _
    have hc0 : W1.cell? ⟨w.heap.size, 0, none⟩ = some (.int .i64 (f : Int)) := hblk.cell 0
    have hc1 : W1.cell? ⟨w.heap.size, 1, none⟩ = some (.int .i64 (n : Int)) := hblk.cell 1
    have hrd1 := hrd.low b1
    have hand := and_i64 n (n - 1) (by omega) (by omega)
    obtain ⟨n1, hn1⟩ : ∃ n1, n - 1 = n1 := ⟨_, rfl⟩
    have e1 : (n : Int) - 1 = (n1 : Int) := by omega
    rw [hn1] at hand
    have hllen : ((lv.drop f).take n).length = n := by rw [List.length_take, List.length_drop, hrd.len]; omega
    rcases pow_or h1 (by omega) with ⟨v, hv, hp, h0⟩ | ⟨h2, hlt, hne⟩
    · rw [hn1] at h0
      rw [h0] at hand
      have hand' : bits .and .i64 (n : Int) (n1 : Int) = 0 := hand
      have htz := tz_any hv hp hrd1.tz
      have hfm := hal v (by omega)
      obtain ⟨j, hj⟩ : ∃ j, f / 2 ^ v = j := ⟨_, rfl⟩
      have hfj : j * 2 ^ v = f := by rw [← hj]; exact Nat.div_mul_cancel (Nat.dvd_of_mod_eq_zero hfm)
      have hjn : (j + 1) * 2 ^ v ≤ N := by rw [Nat.succ_mul, hfj, hp]; exact hN
      have HRD := hide (read_any hrd1 hv hjn)
      rw [hfj] at HRD
      have hmt : mth (k + 1) ((lv.drop f).take n) = treeH v (lv.drop f) := by
        rw [mth_tree v (k + 1) _ hv (by rw [hllen, hp]) (by omega)]
        conv => rhs; rw [← List.take_append_drop n (lv.drop f)]
        rw [treeH_app v _ _ (by rw [hllen, hp]; exact Nat.le_refl _)]
      rw [hmt]
      have e2 : (f : Int) / 2 ^ v = (j : Int) := by rw [pow_int, ← Int.natCast_ediv, hj]
      have e3 : min v 64 = v := by omega
      have HTZ := hide htz
      have HW := hide hW1
      have HB := hide b1
      clear hand h0 htz hp hfm hj hfj hjn hmt hblk hrd hrd1 hW1 b1 hllen hal hn1
      go_enter Tryz.func105, Tryz.ntmps105
      go_wp2_with (go_at_call 123; fail)
      rw [unhide HW]
      refine (unhide HTZ).mono ?_
      rintro e w2 ⟨rfl, rfl⟩
      go_wp2_with (go_at_call 125; fail)
      refine (unhide HRD).mono ?_
      rintro e w3 ⟨a, c, rfl, h32, o3, b3⟩
      have HR : Hid (HashOk w (treeH v (lv.drop f)) (.returned (.tuple #[.slice a 32 c, .int .i64 0])) w3) := hide ⟨a, c, rfl, h32, OwnB.less (unhide HB).size o3, low_trans (unhide HB) b3⟩
      clear o3 b3 h32
      go_wp2
      go_ret2
      exact unhide HR
    · rw [hn1] at hne
      have hand' : (bits .and .i64 (n : Int) (n1 : Int) == 0) = false := by rw [hand]; simp; exact hne
      obtain ⟨g1, g2, _, _⟩ := half_is h2 (by omega)
      obtain ⟨h, hh⟩ : ∃ h, half n = h := ⟨_, rfl⟩
      have HHV := hide (fun wx => halves_any (f := f) h2 (by omega) (by omega) hh wx)
      have hmt := mth_two (f := k) (l := (lv.drop f).take n) (by omega)
      rw [hllen, hh] at hmt
      have al1 := hal.left h2 (by omega)
      have al2 := hal.right h2 (by omega)
      rw [hh] at al1 al2 g1 g2
      obtain ⟨f2, hf2⟩ : ∃ f2, f + h = f2 := ⟨_, rfl⟩
      obtain ⟨n2, hn2⟩ : ∃ n2, n - h = n2 := ⟨_, rfl⟩
      rw [hf2, hn2] at HHV al2
      have t1 : ((lv.drop f).take n).take h = (lv.drop f).take h := by rw [List.take_take, Nat.min_eq_left (by omega)]
      have t2 : ((lv.drop f).take n).drop h = (lv.drop f2).take n2 := by rw [List.drop_take, List.drop_drop, hf2, hn2]
      rw [t1, t2] at hmt
      have HRD := hide hrd1
      have HAL1 := hide al1
      have HAL2 := hide al2
      have HMT := hide hmt
      have HW := hide hW1
      have HB := hide b1
      have HN2 := hide hn2
      have HF2 := hide hf2
      have k1 : 1 ≤ h := by omega
      have k2 : h ≤ k := by omega
      have k3 : f + h ≤ N := by omega
      have k4 : 1 ≤ n2 := by omega
      have k5 : n2 ≤ k := by omega
      have k6 : f2 + n2 ≤ N := by omega
      clear hand hne hblk hrd hrd1 hW1 b1 hllen hal hn1 hh hmt al1 al2 hf2 hn2 t1 t2
      go_enter Tryz.func105, Tryz.ntmps105
      go_wp2_with (go_at_call 124; fail)
      rw [unhide HW]
      refine (unhide HHV _).mono ?_
      rintro e w3 ⟨rfl, b3⟩
      obtain ⟨W4, hW4⟩ : ∃ W4, (w3.alloc (.cells #[.int .i64 (f : Int), .int .i64 (h : Int)] 137)).alloc (.cells #[.int .i64 (f2 : Int), .int .i64 (n2 : Int)] 137) = W4 := ⟨_, rfl⟩
      have s3 : (w3.alloc (.cells #[.int .i64 (f : Int), .int .i64 (h : Int)] 137)).heap.size = w3.heap.size + 1 := by simp
      have b4 : Below w3.heap.size w3 W4 := by rw [← hW4]; exact ((Below.refl _ _).alloc (Nat.le_refl _) _).alloc (by rw [s3]; omega) _
      have hk8 : Blk W4 (w3.heap.size + 1) #[.int .i64 (f2 : Int), .int .i64 (n2 : Int)] 137 := by
        have := Blk.new (w3.alloc (.cells #[.int .i64 (f : Int), .int .i64 (h : Int)] 137)) #[.int .i64 (f2 : Int), .int .i64 (n2 : Int)] 137
        rw [s3, hW4] at this
        exact this
      have hb4 := low_trans (low_trans (unhide HB) b3) b4
      have HRC := hide (spanHash_any k (((unhide HRD).low b3).low b4) k1 k2 k3 (unhide HAL1))
      have HRD4 := hide (((unhide HRD).low b3).low b4)
      have HB4 := hide hb4
      have HW4 := hide hW4
      have HK8 := hide hk8
      clear b3 b4 hk8 hb4 hW4 s3 HRD HB hc0 hc1
      go_wp2_with (go_at_call 105; fail)
      rw [unhide HW4]
      refine (unhide HRC).mono ?_
      rintro e w5 ⟨a5, c5, rfl, h32, o5, b5⟩
      have hk5 := (unhide HK8).low b5
      have d0 : w5.cell? ⟨w3.heap.size + 1, 0, none⟩ = some (.int .i64 (f2 : Int)) := hk5.cell 0
      have d1 : w5.cell? ⟨w3.heap.size + 1, 1, none⟩ = some (.int .i64 (n2 : Int)) := hk5.cell 1
      have HRC2 := hide (spanHash_any k ((unhide HRD4).low b5) k4 k5 k6 (unhide HAL2))
      have HO5 := hide (And.intro h32 o5)
      have HB5 := hide b5
      clear h32 o5 b5 hk5 HRC HK8
      go_wp2_with (go_at_call 105; fail)
      refine (unhide HRC2).mono ?_
      rintro e w6 ⟨a6, c6, rfl, h32', o6, b6⟩
      obtain ⟨h32, o5⟩ := unhide HO5
      obtain ⟨x5, y5, hv5, hb5⟩ := OwnB.adr (OwnB.low o5 b6) h32
      obtain ⟨x6, y6, hv6, hb6⟩ := OwnB.adr o6 h32'
      obtain ⟨rfl, _, rfl⟩ := Value.slice.inj hv5
      obtain ⟨rfl, _, rfl⟩ := Value.slice.inj hv6
      have HND := hide (node_any (c := c5) (c2 := c6) h32 h32' (by omega) (by omega) hb5 hb6)
      have HB6 := hide (low_trans (low_trans (unhide HB4) (unhide HB5)) b6)
      clear h32 o5 h32' o6 b6 hv5 hv6 hb5 hb6 HO5 HRC2 HB4 HB5 d0 d1
      go_wp2_with (go_at_call 72; fail)
      refine (unhide HND).mono ?_
      rintro e w7 ⟨v7, rfl, o7, b7⟩
      obtain ⟨g7, c7, rfl, _⟩ := OwnB.adr o7 (node_len _ _)
      have HR : Hid (HashOk w (mth (k + 1) ((lv.drop f).take n)) (.returned (.tuple #[.slice (some ⟨g7, 0, none⟩) 32 c7, .int .i64 0])) w7) := hide ⟨_, c7, rfl, by rw [unhide HMT]; exact node_len _ _, by rw [unhide HMT]; exact OwnB.less (unhide HB6).size o7, low_trans (unhide HB6) b7⟩
      clear o7 b7 HND
      go_wp2
      go_ret2
      exact unhide HR

end Go.Proofs.YtkpmbbeidcpclaaGreatDoor

namespace Go.Proofs.YtkpmbbeidcpclaaGreatDoor
open Go.RowKit

/-- The audit path of the record i of some leaves. -/
def pathP : Nat → Nat → List Bs → List Bs
  | 0, _, _ => []
  | k + 1, i, l => if l.length ≤ 1 then [] else if i < half l.length then pathP k i (l.take (half l.length)) ++ [mth k (l.drop (half l.length))] else pathP k (i - half l.length) (l.drop (half l.length)) ++ [mth k (l.take (half l.length))]
/-- The proof that leaves go on from the first m of them. -/
def subP : Nat → Nat → List Bs → Bool → List Bs
  | 0, _, _, _ => []
  | k + 1, m, l, wh => if m = l.length then (if wh = true then [] else [mth (k + 1) l]) else if m ≤ half l.length then subP k m (l.take (half l.length)) wh ++ [mth k (l.drop (half l.length))] else subP k (m - half l.length) (l.drop (half l.length)) false ++ [mth k (l.take (half l.length))]

theorem pathP_len : ∀ (k i : Nat) (l : List Bs), (pathP k i l).length ≤ k
  | 0, _, _ => Nat.le_refl _
  | k + 1, i, l => by
    unfold pathP
    split
    · exact Nat.zero_le _
    · split
      · have := pathP_len k i (l.take (half l.length)); simp; omega
      · have := pathP_len k (i - half l.length) (l.drop (half l.length)); simp; omega
theorem subP_len : ∀ (k m : Nat) (l : List Bs) (wh : Bool), (subP k m l wh).length ≤ k
  | 0, _, _, _ => Nat.le_refl _
  | k + 1, m, l, wh => by
    unfold subP
    split
    · split
      · exact Nat.zero_le _
      · simp
    · split
      · have := subP_len k m (l.take (half l.length)) wh; simp; omega
      · have := subP_len k (m - half l.length) (l.drop (half l.length)) false; simp; omega

/-- What a proof is answered as, with no error. -/
def ProofOk (base : Nat) (w : World) (ps : List Bs) (e : Ending) (w' : World) : Prop := ∃ v, e = .returned (.tuple #[v, .int .i64 0]) ∧ LvAt base w' v ps ∧ Below base w w'

set_option maxRecDepth 100000 in
set_option maxHeartbeats 1000000 in
theorem behind_any {base : Nat} {w : World} {R F N f n k : Nat} {lv ps : List Bs} {v : Value} (hrd : Rd w R F N lv) (h1 : 1 ≤ n) (hk : n ≤ k) (hN : f + n ≤ N) (hal : Al f n) (hlv : LvAt base w v ps) (hb : base ≤ w.heap.size) (hps : ps.length ≤ 100000) :
    Calls Tryz.prog 126 #[.agg #[.int .i64 (f : Int), .int .i64 (n : Int)], v, .int .i64 0, rdV R] w (ProofOk base w (ps ++ [mth k ((lv.drop f).take n)])) := by
  obtain ⟨W1, hW1⟩ : ∃ W1, w.alloc (.cells #[.int .i64 (f : Int), .int .i64 (n : Int)] 137) = W1 := ⟨_, rfl⟩
  have b1 : Below w.heap.size w W1 := by rw [← hW1]; exact (Below.refl _ _).alloc (Nat.le_refl _) _
  have HSP := hide (spanHash_any k (hrd.low b1) h1 hk hN hal)
  have HLV := hide (hlv.low b1)
  have HB1 := hide b1
  have HW := hide hW1
  obtain ⟨T, hT⟩ : ∃ T, mth k ((lv.drop f).take n) = T := ⟨_, rfl⟩
  rw [hT] at HSP ⊢
  clear hrd hlv b1 hW1 hT hal
  go_enter Tryz.func126, Tryz.ntmps126
  go_wp2_with (go_at_call 105; fail)
  rw [unhide HW]
  refine (unhide HSP).mono ?_
  rintro e w2 ⟨a, c, rfl, h32, o2, b2⟩
  have hb2 : base ≤ w2.heap.size := Nat.le_trans hb (Nat.le_trans (unhide HB1).size b2.size)
  obtain ⟨W3, hW3⟩ : ∃ W3, w2.alloc (.cells #[.slice a 32 c] 32) = W3 := ⟨_, rfl⟩
  obtain ⟨v', w', happ, lv', low', _⟩ := app_leaf ((unhide HLV).low b2) (OwnB.less (Nat.le_trans hb (unhide HB1).size) o2) hb2 (by omega) hW3
  have HR : Hid (ProofOk base w (ps ++ [T]) (.returned (.tuple #[v', .int .i64 0])) w') := hide ⟨v', rfl, lv', ((low_trans (unhide HB1) b2).mono hb).trans low'⟩
  have HW3 := hide hW3
  clear o2 b2 h32 hb2 hW3 lv' low' HSP
  go_wp2_with (at_builtin; rw [unhide HW3]; refine Lib.wpList_append_run _ rfl _ _ _ _ rfl _ _ rfl rfl _ _ happ ?_)
  go_ret2
  exact unhide HR

end Go.Proofs.YtkpmbbeidcpclaaGreatDoor

namespace Go.Proofs.YtkpmbbeidcpclaaGreatDoor
open Go.RowKit

theorem LvAt.less {B C : Nat} {w : World} {v : Value} {ls : List Bs} (hBC : B ≤ C) (h : LvAt C w v ls) : LvAt B w v ls := by
  obtain ⟨us, h1, h2⟩ := h
  refine ⟨us, ⟨h1.1, h1.2.imp id ?_⟩, fun k hk => ?_⟩
  · rintro ⟨g, cap, cur, rfl, hb, hr⟩
    exact ⟨g, cap, cur, rfl, by omega, hr⟩
  · obtain ⟨u, e, o⟩ := h2 k hk
    exact ⟨u, e, OwnB.less hBC o⟩

theorem pathP_two {k i : Nat} {l : List Bs} (h : 2 ≤ l.length) : pathP (k + 1) i l = if i < half l.length then pathP k i (l.take (half l.length)) ++ [mth k (l.drop (half l.length))] else pathP k (i - half l.length) (l.drop (half l.length)) ++ [mth k (l.take (half l.length))] := by
  show (if l.length ≤ 1 then _ else _) = _
  rw [if_neg (by omega)]
theorem subP_ne {k m : Nat} {l : List Bs} {wh : Bool} (h : m ≠ l.length) : subP (k + 1) m l wh = if m ≤ half l.length then subP k m (l.take (half l.length)) wh ++ [mth k (l.drop (half l.length))] else subP k (m - half l.length) (l.drop (half l.length)) false ++ [mth k (l.take (half l.length))] := by
  show (if m = l.length then _ else _) = _
  rw [if_neg h]

set_option maxRecDepth 100000 in
set_option maxHeartbeats 2000000 in
theorem spanPath_any : ∀ (k : Nat) {w : World} {R F N f n i : Nat} {lv : List Bs} (_ : Rd w R F N lv) (_ : 1 ≤ n) (_ : n ≤ k) (_ : k ≤ 100000) (_ : f + n ≤ N) (_ : Al f n) (_ : i < n),
    Calls Tryz.prog 107 #[.agg #[.int .i64 (f : Int), .int .i64 (n : Int)], .int .i64 (i : Int), rdV R] w (ProofOk w.heap.size w (pathP k i ((lv.drop f).take n)))
  | 0, w, R, F, N, f, n, i, lv, _, h1, hk, _, _, _, _ => by omega
  | k + 1, w, R, F, N, f, n, i, lv, hrd, h1, hk, hkb', hN, hal, hin => by
    have hfew := hrd.few
    have hkb : k ≤ 100000 := by omega
    obtain ⟨W1, hW1⟩ : ∃ W1, w.alloc (.cells #[.int .i64 (f : Int), .int .i64 (n : Int)] 137) = W1 := ⟨_, rfl⟩
    have b1 : Below w.heap.size w W1 := by rw [← hW1]; exact (Below.refl _ _).alloc (Nat.le_refl _) _
    have hrd1 := hrd.low b1
    have hllen : ((lv.drop f).take n).length = n := by rw [List.length_take, List.length_drop, hrd.len]; omega
    by_cases hn1 : n = 1
    · subst hn1
      have HR : Hid (ProofOk w.heap.size w (pathP (k + 1) i ((lv.drop f).take 1)) (.returned (.tuple #[.slice none 0 0, .int .i64 0])) W1) := hide ⟨_, rfl, by
        have e : pathP (k + 1) i ((lv.drop f).take 1) = [] := by
          show (if ((lv.drop f).take 1).length ≤ 1 then _ else _) = _
          rw [if_pos (by rw [hllen]; exact Nat.le_refl _)]
        rw [e]; exact LvAt.nil _ _, b1⟩
      have HW := hide hW1
      clear hrd hrd1 b1 hW1 hllen hal
      go_enter Tryz.func107, Tryz.ntmps107
      go_wp2
      rw [show w.alloc (.cells #[.int .i64 (f : Int), .int .i64 1] 137) = W1 from unhide HW]
      go_ret2
      exact unhide HR
    have h2 : 2 ≤ n := by omega
    have hq : ((n : Int) == 1) = false := by simp; omega
    have hmt := pathP_two (k := k) (i := i) (l := (lv.drop f).take n) (by omega)
    obtain ⟨g1, g2, _, _⟩ := half_is h2 (by omega)
    obtain ⟨h, hh⟩ : ∃ h, half n = h := ⟨_, rfl⟩
    have HHV := hide (fun wx => halves_any (f := f) h2 (by omega) (by omega) hh wx)
    rw [hllen, hh] at hmt
    have al1 := hal.left h2 (by omega)
    have al2 := hal.right h2 (by omega)
    rw [hh] at al1 al2 g1 g2
    obtain ⟨f2, hf2⟩ : ∃ f2, f + h = f2 := ⟨_, rfl⟩
    obtain ⟨n2, hn2⟩ : ∃ n2, n - h = n2 := ⟨_, rfl⟩
    rw [hf2, hn2] at HHV al2
    have t1 : ((lv.drop f).take n).take h = (lv.drop f).take h := by rw [List.take_take, Nat.min_eq_left (by omega)]
    have t2 : ((lv.drop f).take n).drop h = (lv.drop f2).take n2 := by rw [List.drop_take, List.drop_drop, hf2, hn2]
    rw [t1, t2] at hmt
    have hblk : Blk W1 w.heap.size #[.int .i64 (f : Int), .int .i64 (n : Int)] 137 := by rw [← hW1]; exact Blk.new _ _ _
    have hc0 : W1.cell? ⟨w.heap.size, 0, none⟩ = some (.int .i64 (f : Int)) := hblk.cell 0
    have hc1 : W1.cell? ⟨w.heap.size, 1, none⟩ = some (.int .i64 (n : Int)) := hblk.cell 1
    have HRD := hide hrd1
    have HAL1 := hide al1
    have HAL2 := hide al2
    have HW := hide hW1
    have HB := hide b1
    have HN2 := hide hn2
    have HF2 := hide hf2
    have k1 : 1 ≤ h := by omega
    have k2 : h ≤ k := by omega
    have k3 : f + h ≤ N := by omega
    have k4 : 1 ≤ n2 := by omega
    have k5 : n2 ≤ k := by omega
    have k6 : f2 + n2 ≤ N := by omega
    have k7 : n2 = n - h := by omega
    clear hblk hrd hrd1 hW1 b1 hllen hal hh al1 al2 hf2 hn2 t1 t2
    by_cases hlt : i < h
    · rw [if_pos hlt] at hmt
      have HMT := hide hmt
      clear hmt k7
      go_enter Tryz.func107, Tryz.ntmps107
      go_wp2_with (go_at_call 124; fail)
      rw [unhide HW]
      refine (unhide HHV _).mono ?_
      rintro e w3 ⟨rfl, b3⟩
      obtain ⟨W4, hW4⟩ : ∃ W4, (w3.alloc (.cells #[.int .i64 (f : Int), .int .i64 (h : Int)] 137)).alloc (.cells #[.int .i64 (f2 : Int), .int .i64 (n2 : Int)] 137) = W4 := ⟨_, rfl⟩
      have s3 : (w3.alloc (.cells #[.int .i64 (f : Int), .int .i64 (h : Int)] 137)).heap.size = w3.heap.size + 1 := by simp
      have b4 : Below w3.heap.size w3 W4 := by rw [← hW4]; exact ((Below.refl _ _).alloc (Nat.le_refl _) _).alloc (by rw [s3]; omega) _
      have hkA : Blk W4 w3.heap.size #[.int .i64 (f : Int), .int .i64 (h : Int)] 137 := by
        rw [← hW4]; exact (Blk.new w3 _ _).alloc _
      have hkB : Blk W4 (w3.heap.size + 1) #[.int .i64 (f2 : Int), .int .i64 (n2 : Int)] 137 := by
        have := Blk.new (w3.alloc (.cells #[.int .i64 (f : Int), .int .i64 (h : Int)] 137)) #[.int .i64 (f2 : Int), .int .i64 (n2 : Int)] 137
        rw [s3, hW4] at this
        exact this
      have hb4 := low_trans (low_trans (unhide HB) b3) b4
      have HRC := hide (spanPath_any k (((unhide HRD).low b3).low b4) k1 k2 hkb k3 (unhide HAL1) hlt)
      have HRD4 := hide (((unhide HRD).low b3).low b4)
      have HB4 := hide hb4
      have HW4 := hide hW4
      have HKA := hide hkA
      have HKB := hide hkB
      clear b3 b4 hkA hkB hb4 hW4 s3 HRD HB hc0 hc1
      go_wp2_with (go_at_call 107; fail)
      rw [unhide HW4]
      refine (unhide HRC).mono ?_
      rintro e w5 ⟨v5, rfl, l5, b5⟩
      have hkx := (unhide HKB).low b5
      have d0 : w5.cell? ⟨w3.heap.size + 1, 0, none⟩ = some (.int .i64 (f2 : Int)) := hkx.cell 0
      have d1 : w5.cell? ⟨w3.heap.size + 1, 1, none⟩ = some (.int .i64 (n2 : Int)) := hkx.cell 1
      have hb5 := low_trans (unhide HB4) b5
      have HBH := hide (behind_any (base := w.heap.size) (k := k) (v := v5) (ps := pathP k i ((lv.drop f).take h)) ((unhide HRD4).low b5) k4 k5 k6 (unhide HAL2) (LvAt.less (unhide HB4).size l5) hb5.size (Nat.le_trans (pathP_len _ _ _) hkb))
      have HB5 := hide hb5
      clear l5 b5 hkx hb5 HRC HKA HKB HRD4 HB4
      go_wp2_with (go_at_call 126; fail)
      refine (unhide HBH).mono ?_
      rintro e w6 ⟨v6, rfl, l6, b6⟩
      have HR : Hid (ProofOk w.heap.size w (pathP (k + 1) i ((lv.drop f).take n)) (.returned (.tuple #[v6, .int .i64 0])) w6) := hide ⟨v6, rfl, by rw [unhide HMT]; exact l6, (unhide HB5).trans b6⟩
      clear l6 b6 HBH d0 d1
      go_wp2
      go_ret2
      exact unhide HR
    · rw [if_neg hlt] at hmt
      obtain ⟨j, hj⟩ : ∃ j, i - h = j := ⟨_, rfl⟩
      have ej : (i : Int) - (h : Int) = (j : Int) := by omega
      rw [hj] at hmt
      have j1 : j < n2 := by omega
      have j2 : j ≤ n2 := by omega
      clear hj
      have HMT := hide hmt
      clear hmt k7
      go_enter Tryz.func107, Tryz.ntmps107
      go_wp2_with (go_at_call 124; fail)
      rw [unhide HW]
      refine (unhide HHV _).mono ?_
      rintro e w3 ⟨rfl, b3⟩
      obtain ⟨W4, hW4⟩ : ∃ W4, (w3.alloc (.cells #[.int .i64 (f : Int), .int .i64 (h : Int)] 137)).alloc (.cells #[.int .i64 (f2 : Int), .int .i64 (n2 : Int)] 137) = W4 := ⟨_, rfl⟩
      have s3 : (w3.alloc (.cells #[.int .i64 (f : Int), .int .i64 (h : Int)] 137)).heap.size = w3.heap.size + 1 := by simp
      have b4 : Below w3.heap.size w3 W4 := by rw [← hW4]; exact ((Below.refl _ _).alloc (Nat.le_refl _) _).alloc (by rw [s3]; omega) _
      have hkA : Blk W4 w3.heap.size #[.int .i64 (f : Int), .int .i64 (h : Int)] 137 := by
        rw [← hW4]; exact (Blk.new w3 _ _).alloc _
      have hkB : Blk W4 (w3.heap.size + 1) #[.int .i64 (f2 : Int), .int .i64 (n2 : Int)] 137 := by
        have := Blk.new (w3.alloc (.cells #[.int .i64 (f : Int), .int .i64 (h : Int)] 137)) #[.int .i64 (f2 : Int), .int .i64 (n2 : Int)] 137
        rw [s3, hW4] at this
        exact this
      have hb4 := low_trans (low_trans (unhide HB) b3) b4
      have HRC := hide (spanPath_any k (((unhide HRD).low b3).low b4) k4 k5 hkb k6 (unhide HAL2) j1)
      have HRD4 := hide (((unhide HRD).low b3).low b4)
      have HB4 := hide hb4
      have HW4 := hide hW4
      have HKA := hide hkA
      have HKB := hide hkB
      clear b3 b4 hkA hkB hb4 hW4 s3 HRD HB hc0 hc1
      go_wp2_with (go_at_call 107; fail)
      rw [unhide HW4]
      refine (unhide HRC).mono ?_
      rintro e w5 ⟨v5, rfl, l5, b5⟩
      have hkx := (unhide HKA).low b5
      have d0 : w5.cell? ⟨w3.heap.size, 0, none⟩ = some (.int .i64 (f : Int)) := hkx.cell 0
      have d1 : w5.cell? ⟨w3.heap.size, 1, none⟩ = some (.int .i64 (h : Int)) := hkx.cell 1
      have hb5 := low_trans (unhide HB4) b5
      have HBH := hide (behind_any (base := w.heap.size) (k := k) (v := v5) (ps := pathP k j ((lv.drop f2).take n2)) ((unhide HRD4).low b5) k1 k2 k3 (unhide HAL1) (LvAt.less (unhide HB4).size l5) hb5.size (Nat.le_trans (pathP_len _ _ _) hkb))
      have HB5 := hide hb5
      clear l5 b5 hkx hb5 HRC HKA HKB HRD4 HB4
      go_wp2_with (go_at_call 126; fail)
      refine (unhide HBH).mono ?_
      rintro e w6 ⟨v6, rfl, l6, b6⟩
      have HR : Hid (ProofOk w.heap.size w (pathP (k + 1) i ((lv.drop f).take n)) (.returned (.tuple #[v6, .int .i64 0])) w6) := hide ⟨v6, rfl, by rw [unhide HMT]; exact l6, (unhide HB5).trans b6⟩
      clear l6 b6 HBH d0 d1
      go_wp2
      go_ret2
      exact unhide HR

set_option maxRecDepth 100000 in
set_option maxHeartbeats 2000000 in
theorem spanGrow_any : ∀ (k : Nat) {w : World} {R F N f n m : Nat} {wh : Bool} {lv : List Bs} (_ : Rd w R F N lv) (_ : 1 ≤ n) (_ : n ≤ k) (_ : k ≤ 100000) (_ : f + n ≤ N) (_ : Al f n) (_ : 1 ≤ m) (_ : m ≤ n),
    Calls Tryz.prog 108 #[.agg #[.int .i64 (f : Int), .int .i64 (n : Int)], .int .i64 (m : Int), .bool wh, rdV R] w (ProofOk w.heap.size w (subP k m ((lv.drop f).take n) wh))
  | 0, w, R, F, N, f, n, m, wh, lv, _, h1, hk, _, _, _, _, _ => by omega
  | k + 1, w, R, F, N, f, n, m, wh, lv, hrd, h1, hk, hkb', hN, hal, hin, hmn => by
    have hfew := hrd.few
    have hkb : k ≤ 100000 := by omega
    obtain ⟨W1, hW1⟩ : ∃ W1, w.alloc (.cells #[.int .i64 (f : Int), .int .i64 (n : Int)] 137) = W1 := ⟨_, rfl⟩
    have b1 : Below w.heap.size w W1 := by rw [← hW1]; exact (Below.refl _ _).alloc (Nat.le_refl _) _
    have hrd1 := hrd.low b1
    have hllen : ((lv.drop f).take n).length = n := by rw [List.length_take, List.length_drop, hrd.len]; omega
    by_cases hmn1 : m = n
    · subst hmn1
      cases wh with
      | true =>
        have HR : Hid (ProofOk w.heap.size w (subP (k + 1) m ((lv.drop f).take m) true) (.returned (.tuple #[.slice none 0 0, .int .i64 0])) W1) := hide ⟨_, rfl, by
          have e : subP (k + 1) m ((lv.drop f).take m) true = [] := by
            show (if m = ((lv.drop f).take m).length then _ else _) = _
            rw [if_pos hllen.symm]; rfl
          rw [e]; exact LvAt.nil _ _, b1⟩
        have HW := hide hW1
        clear hrd hrd1 b1 hW1 hllen hal
        go_enter Tryz.func108, Tryz.ntmps108
        go_wp2
        rw [unhide HW]
        go_ret2
        exact unhide HR
      | false =>
        have HBH := hide (behind_any (base := w.heap.size) (k := k + 1) (v := .slice none 0 0) (ps := []) hrd1 h1 hk hN hal (LvAt.nil _ _) b1.size (by simp))
        have HE : Hid (subP (k + 1) m ((lv.drop f).take m) false = [] ++ [mth (k + 1) ((lv.drop f).take m)]) := hide (by
          show (if m = ((lv.drop f).take m).length then _ else _) = _
          rw [if_pos hllen.symm]; rfl)
        have HB := hide b1
        have HW := hide hW1
        clear hrd hrd1 b1 hW1 hllen hal
        go_enter Tryz.func108, Tryz.ntmps108
        go_wp2_with (go_at_call 126; fail)
        rw [unhide HW]
        refine (unhide HBH).mono ?_
        rintro e w2 ⟨v2, rfl, l2, b2⟩
        have HR : Hid (ProofOk w.heap.size w (subP (k + 1) m ((lv.drop f).take m) false) (.returned (.tuple #[v2, .int .i64 0])) w2) := hide ⟨v2, rfl, by rw [unhide HE]; exact l2, (unhide HB).trans b2⟩
        clear l2 b2 HBH
        go_wp2
        go_ret2
        exact unhide HR
    have h2 : 2 ≤ n := by omega
    have hq : ((m : Int) == (n : Int)) = false := by simp; omega
    have hmt := subP_ne (k := k) (m := m) (wh := wh) (l := (lv.drop f).take n) (by omega)
    obtain ⟨g1, g2, _, _⟩ := half_is h2 (by omega)
    obtain ⟨h, hh⟩ : ∃ h, half n = h := ⟨_, rfl⟩
    have HHV := hide (fun wx => halves_any (f := f) h2 (by omega) (by omega) hh wx)
    rw [hllen, hh] at hmt
    have al1 := hal.left h2 (by omega)
    have al2 := hal.right h2 (by omega)
    rw [hh] at al1 al2 g1 g2
    obtain ⟨f2, hf2⟩ : ∃ f2, f + h = f2 := ⟨_, rfl⟩
    obtain ⟨n2, hn2⟩ : ∃ n2, n - h = n2 := ⟨_, rfl⟩
    rw [hf2, hn2] at HHV al2
    have t1 : ((lv.drop f).take n).take h = (lv.drop f).take h := by rw [List.take_take, Nat.min_eq_left (by omega)]
    have t2 : ((lv.drop f).take n).drop h = (lv.drop f2).take n2 := by rw [List.drop_take, List.drop_drop, hf2, hn2]
    rw [t1, t2] at hmt
    have hblk : Blk W1 w.heap.size #[.int .i64 (f : Int), .int .i64 (n : Int)] 137 := by rw [← hW1]; exact Blk.new _ _ _
    have hc0 : W1.cell? ⟨w.heap.size, 0, none⟩ = some (.int .i64 (f : Int)) := hblk.cell 0
    have hc1 : W1.cell? ⟨w.heap.size, 1, none⟩ = some (.int .i64 (n : Int)) := hblk.cell 1
    have HRD := hide hrd1
    have HAL1 := hide al1
    have HAL2 := hide al2
    have HW := hide hW1
    have HB := hide b1
    have HN2 := hide hn2
    have HF2 := hide hf2
    have k1 : 1 ≤ h := by omega
    have k2 : h ≤ k := by omega
    have k3 : f + h ≤ N := by omega
    have k4 : 1 ≤ n2 := by omega
    have k5 : n2 ≤ k := by omega
    have k6 : f2 + n2 ≤ N := by omega
    have k7 : n2 = n - h := by omega
    clear hblk hrd hrd1 hW1 b1 hllen hal hh al1 al2 hf2 hn2 t1 t2
    by_cases hlt : m ≤ h
    · rw [if_pos hlt] at hmt
      have HMT := hide hmt
      clear hmt k7
      go_enter Tryz.func108, Tryz.ntmps108
      go_wp2_with (go_at_call 124; fail)
      rw [unhide HW]
      refine (unhide HHV _).mono ?_
      rintro e w3 ⟨rfl, b3⟩
      obtain ⟨W4, hW4⟩ : ∃ W4, (w3.alloc (.cells #[.int .i64 (f : Int), .int .i64 (h : Int)] 137)).alloc (.cells #[.int .i64 (f2 : Int), .int .i64 (n2 : Int)] 137) = W4 := ⟨_, rfl⟩
      have s3 : (w3.alloc (.cells #[.int .i64 (f : Int), .int .i64 (h : Int)] 137)).heap.size = w3.heap.size + 1 := by simp
      have b4 : Below w3.heap.size w3 W4 := by rw [← hW4]; exact ((Below.refl _ _).alloc (Nat.le_refl _) _).alloc (by rw [s3]; omega) _
      have hkA : Blk W4 w3.heap.size #[.int .i64 (f : Int), .int .i64 (h : Int)] 137 := by
        rw [← hW4]; exact (Blk.new w3 _ _).alloc _
      have hkB : Blk W4 (w3.heap.size + 1) #[.int .i64 (f2 : Int), .int .i64 (n2 : Int)] 137 := by
        have := Blk.new (w3.alloc (.cells #[.int .i64 (f : Int), .int .i64 (h : Int)] 137)) #[.int .i64 (f2 : Int), .int .i64 (n2 : Int)] 137
        rw [s3, hW4] at this
        exact this
      have hb4 := low_trans (low_trans (unhide HB) b3) b4
      have HRC := hide (spanGrow_any k (wh := wh) (((unhide HRD).low b3).low b4) k1 k2 hkb k3 (unhide HAL1) hin hlt)
      have HRD4 := hide (((unhide HRD).low b3).low b4)
      have HB4 := hide hb4
      have HW4 := hide hW4
      have HKA := hide hkA
      have HKB := hide hkB
      clear b3 b4 hkA hkB hb4 hW4 s3 HRD HB hc0 hc1
      go_wp2_with (go_at_call 108; fail)
      rw [unhide HW4]
      refine (unhide HRC).mono ?_
      rintro e w5 ⟨v5, rfl, l5, b5⟩
      have hkx := (unhide HKB).low b5
      have d0 : w5.cell? ⟨w3.heap.size + 1, 0, none⟩ = some (.int .i64 (f2 : Int)) := hkx.cell 0
      have d1 : w5.cell? ⟨w3.heap.size + 1, 1, none⟩ = some (.int .i64 (n2 : Int)) := hkx.cell 1
      have hb5 := low_trans (unhide HB4) b5
      have HBH := hide (behind_any (base := w.heap.size) (k := k) (v := v5) (ps := subP k m ((lv.drop f).take h) wh) ((unhide HRD4).low b5) k4 k5 k6 (unhide HAL2) (LvAt.less (unhide HB4).size l5) hb5.size (Nat.le_trans (subP_len _ _ _ _) hkb))
      have HB5 := hide hb5
      clear l5 b5 hkx hb5 HRC HKA HKB HRD4 HB4
      go_wp2_with (go_at_call 126; fail)
      refine (unhide HBH).mono ?_
      rintro e w6 ⟨v6, rfl, l6, b6⟩
      have HR : Hid (ProofOk w.heap.size w (subP (k + 1) m ((lv.drop f).take n) wh) (.returned (.tuple #[v6, .int .i64 0])) w6) := hide ⟨v6, rfl, by rw [unhide HMT]; exact l6, (unhide HB5).trans b6⟩
      clear l6 b6 HBH d0 d1
      go_wp2
      go_ret2
      exact unhide HR
    · rw [if_neg hlt] at hmt
      obtain ⟨j, hj⟩ : ∃ j, m - h = j := ⟨_, rfl⟩
      have ej : (m : Int) - (h : Int) = (j : Int) := by omega
      rw [hj] at hmt
      have j1 : 1 ≤ j := by omega
      have j2 : j ≤ n2 := by omega
      clear hj
      have HMT := hide hmt
      clear hmt k7
      go_enter Tryz.func108, Tryz.ntmps108
      go_wp2_with (go_at_call 124; fail)
      rw [unhide HW]
      refine (unhide HHV _).mono ?_
      rintro e w3 ⟨rfl, b3⟩
      obtain ⟨W4, hW4⟩ : ∃ W4, (w3.alloc (.cells #[.int .i64 (f : Int), .int .i64 (h : Int)] 137)).alloc (.cells #[.int .i64 (f2 : Int), .int .i64 (n2 : Int)] 137) = W4 := ⟨_, rfl⟩
      have s3 : (w3.alloc (.cells #[.int .i64 (f : Int), .int .i64 (h : Int)] 137)).heap.size = w3.heap.size + 1 := by simp
      have b4 : Below w3.heap.size w3 W4 := by rw [← hW4]; exact ((Below.refl _ _).alloc (Nat.le_refl _) _).alloc (by rw [s3]; omega) _
      have hkA : Blk W4 w3.heap.size #[.int .i64 (f : Int), .int .i64 (h : Int)] 137 := by
        rw [← hW4]; exact (Blk.new w3 _ _).alloc _
      have hkB : Blk W4 (w3.heap.size + 1) #[.int .i64 (f2 : Int), .int .i64 (n2 : Int)] 137 := by
        have := Blk.new (w3.alloc (.cells #[.int .i64 (f : Int), .int .i64 (h : Int)] 137)) #[.int .i64 (f2 : Int), .int .i64 (n2 : Int)] 137
        rw [s3, hW4] at this
        exact this
      have hb4 := low_trans (low_trans (unhide HB) b3) b4
      have HRC := hide (spanGrow_any k (wh := false) (((unhide HRD).low b3).low b4) k4 k5 hkb k6 (unhide HAL2) j1 j2)
      have HRD4 := hide (((unhide HRD).low b3).low b4)
      have HB4 := hide hb4
      have HW4 := hide hW4
      have HKA := hide hkA
      have HKB := hide hkB
      clear b3 b4 hkA hkB hb4 hW4 s3 HRD HB hc0 hc1
      go_wp2_with (go_at_call 108; fail)
      rw [unhide HW4]
      refine (unhide HRC).mono ?_
      rintro e w5 ⟨v5, rfl, l5, b5⟩
      have hkx := (unhide HKA).low b5
      have d0 : w5.cell? ⟨w3.heap.size, 0, none⟩ = some (.int .i64 (f : Int)) := hkx.cell 0
      have d1 : w5.cell? ⟨w3.heap.size, 1, none⟩ = some (.int .i64 (h : Int)) := hkx.cell 1
      have hb5 := low_trans (unhide HB4) b5
      have HBH := hide (behind_any (base := w.heap.size) (k := k) (v := v5) (ps := subP k j ((lv.drop f2).take n2) false) ((unhide HRD4).low b5) k1 k2 k3 (unhide HAL1) (LvAt.less (unhide HB4).size l5) hb5.size (Nat.le_trans (subP_len _ _ _ _) hkb))
      have HB5 := hide hb5
      clear l5 b5 hkx hb5 HRC HKA HKB HRD4 HB4
      go_wp2_with (go_at_call 126; fail)
      refine (unhide HBH).mono ?_
      rintro e w6 ⟨v6, rfl, l6, b6⟩
      have HR : Hid (ProofOk w.heap.size w (subP (k + 1) m ((lv.drop f).take n) wh) (.returned (.tuple #[v6, .int .i64 0])) w6) := hide ⟨v6, rfl, by rw [unhide HMT]; exact l6, (unhide HB5).trans b6⟩
      clear l6 b6 HBH d0 d1
      go_wp2
      go_ret2
      exact unhide HR

end Go.Proofs.YtkpmbbeidcpclaaGreatDoor

namespace Go.Proofs.YtkpmbbeidcpclaaGreatDoor
open Go.RowKit

/-- A log of so many leaves, somewhere in memory. -/
structure Lg (w : World) (F n : Nat) (lv : List Bs) : Prop where
  log : ∃ base hs, LogAt base w F n hs ∧ Inv lv hs
  len : lv.length = n
  few : n ≤ 1000
  tz : TzAt w
theorem Lg.low {w w' : World} {F n : Nat} {lv : List Bs} (h : Lg w F n lv) (b : Below w.heap.size w w') : Lg w' F n lv := by
  obtain ⟨⟨base, hs, hl, hi⟩, h3, h4, h5⟩ := h
  exact ⟨⟨base, hs, hl.low b, hi⟩, h3, h4, h5.low b⟩
theorem Lg.cell {w : World} {F n : Nat} {lv : List Bs} (h : Lg w F n lv) : w.cell? ⟨F, 0, none⟩ = some (.int .i64 (n : Int)) := by
  obtain ⟨⟨base, hs, hl, _⟩, _⟩ := h
  obtain ⟨x, hF, _⟩ := hl.at_
  exact hF.cell 0

abbrev logV (F : Nat) : Value := .func (.func 25) #[.pointer (some ⟨F, 0, none⟩)] #[]

theorem copying_any {w : World} {F n : Nat} {lv : List Bs} (h : Lg w F n lv) : Calls Tryz.prog 106 #[logV F] w fun e w' => ∃ R, e = .returned (rdV R) ∧ Rd w' R F n lv ∧ Below w.heap.size w w' := by
  have b1 : Below w.heap.size w (w.alloc (.cells #[logV F] 135)) := (Below.refl _ _).alloc (Nat.le_refl _) _
  have h1 := h.low b1
  have HR : Hid (Rd (w.alloc (.cells #[logV F] 135)) w.heap.size F n lv ∧ Below w.heap.size w (w.alloc (.cells #[logV F] 135))) := hide ⟨⟨(Blk.new w #[logV F] 135).cell 0, h1.log, h1.len, by have := h1.few; omega, h1.tz⟩, b1⟩
  clear h b1 h1
  go_enter Tryz.func106, Tryz.ntmps106
  go_wp2
  go_ret
  exact ⟨w.heap.size, rfl, unhide HR⟩

/-- An answer out of range. -/
def OutR (w : World) (e : Ending) (w' : World) : Prop := e = .returned (.tuple #[.slice none 0 0, .int .i64 6]) ∧ Below w.heap.size w w'

set_option maxRecDepth 100000 in
set_option maxHeartbeats 1000000 in
theorem root_in {w : World} {F n m : Nat} {lv : List Bs} (h : Lg w F n lv) (hm : m ≤ n) : Calls Tryz.prog 74 #[.int .i64 (m : Int), logV F] w (HashOk w (mth 1000 (lv.take m))) := by
  have hfew := h.few
  have HSZ := hide (size_any (m : Int) w)
  rw [sizeB_nat (by omega)] at HSZ
  by_cases h0 : m = 0
  · subst h0
    have HS := hide (sha_any (w := w) (a := none) (n := 0) (c := 0) (b := []) rfl (by omega) (by omega) (by omega) (Or.inl rfl) ⟨Or.inl rfl⟩)
    have HE : Hid (mth 1000 (lv.take 0) = shaL []) := hide rfl
    have HSZ' : Hid (Calls Tryz.prog 45 #[.int .i64 0] w fun e w' => e = .returned (.bool true) ∧ w' = w) := HSZ
    clear h HSZ
    go_enter Tryz.func74, Tryz.ntmps74
    go_wp2_with (go_at_call 45; fail)
    refine (unhide HSZ').mono ?_
    rintro e w1 ⟨rfl, rfl⟩
    go_wp2_with (go_at_call 64; fail)
    refine (unhide HS).mono ?_
    rintro e w2 ⟨v2, rfl, o2, b2⟩
    obtain ⟨g2, c2, rfl, _⟩ := OwnB.adr o2 (sha_len _)
    have HR : Hid (HashOk w1 (mth 1000 (lv.take 0)) (.returned (.tuple #[.slice (some ⟨g2, 0, none⟩) 32 c2, .int .i64 0])) w2) := hide ⟨_, c2, rfl, by rw [unhide HE]; exact sha_len _, by rw [unhide HE]; exact o2, b2⟩
    clear o2 b2
    go_wp2
    go_ret2
    exact unhide HR
  · have hq : ((m : Int) == 0) = false := by simp; omega
    have HCP := hide (copying_any h)
    have HSP := hide (fun (wx : World) (R : Nat) (hr : Rd wx R F n lv) => spanHash_any 1000 (f := 0) (n := m) hr (by omega) (by omega) (by omega) (Al.zero _))
    simp only [List.drop_zero] at HSP
    clear h
    go_enter Tryz.func74, Tryz.ntmps74
    go_wp2_with (go_at_call 45; fail)
    refine (unhide HSZ).mono ?_
    rintro e w1 ⟨rfl, rfl⟩
    go_wp2_with (go_at_call 106; fail)
    refine (unhide HCP).mono ?_
    rintro e w2 ⟨R, rfl, hr, b2⟩
    have HX := hide (unhide HSP _ _ hr)
    have HB := hide b2
    clear hr b2 HSP
    go_wp2_with (go_at_call 105; fail)
    refine (unhide HX).mono ?_
    rintro e w3 ⟨a, c, rfl, h32, o3, b3⟩
    have HR : Hid (HashOk w1 (mth 1000 (lv.take m)) (.returned (.tuple #[.slice a 32 c, .int .i64 0])) w3) := hide ⟨a, c, rfl, h32, OwnB.less (unhide HB).size o3, low_trans (unhide HB) b3⟩
    clear h32 o3 b3
    go_wp2
    go_ret2
    exact unhide HR

set_option maxRecDepth 100000 in
set_option maxHeartbeats 1000000 in
theorem logRoot_in {w : World} {F n m : Nat} {lv : List Bs} (h : Lg w F n lv) (hm : m ≤ n) : Calls Tryz.prog 35 #[.pointer (some ⟨F, 0, none⟩), .int .i64 (m : Int)] w (HashOk w (mth 1000 (lv.take m))) := by
  have hc := h.cell
  have hfew := h.few
  have HX := hide (root_in h hm)
  have hq : ¬ ((n : Int) < (m : Int)) := by omega
  have hq2 : decide (n < m) = false := decide_eq_false (by omega)
  clear h
  go_enter Tryz.func35, Tryz.ntmps35
  go_wp2_with (go_at_call 74; fail)
  refine (unhide HX).mono ?_
  rintro e w3 ⟨a, c, rfl, h32, o3, b3⟩
  have HR : Hid (HashOk w (mth 1000 (lv.take m)) (.returned (.tuple #[.slice a 32 c, .int .i64 0])) w3) := hide ⟨a, c, rfl, h32, o3, b3⟩
  clear h32 o3 b3
  go_wp2
  go_ret2
  exact unhide HR

set_option maxRecDepth 100000 in
theorem logRoot_out {w : World} {F n : Nat} {m : Int} {lv : List Bs} (h : Lg w F n lv) (hm : m < 0 ∨ (n : Int) < m) : Calls Tryz.prog 35 #[.pointer (some ⟨F, 0, none⟩), .int .i64 m] w (OutR w) := by
  have hc := h.cell
  have HR : Hid (OutR w (.returned (.tuple #[.slice none 0 0, .int .i64 6])) w) := hide ⟨rfl, Below.refl _ _⟩
  by_cases c1 : (n : Int) < m
  · clear h hm
    go_enter Tryz.func35, Tryz.ntmps35
    go_wp2
    go_ret2
    exact unhide HR
  · have HSZ := hide (size_any m w)
    have hs : sizeB m = false := by unfold sizeB; rw [decide_eq_false (by omega)]; rfl
    rw [hs] at HSZ
    have H37 : Hid (Calls Tryz.prog 74 #[.int .i64 m, logV F] w fun e w' => e = .returned (.tuple #[.slice none 0 0, .int .i64 6]) ∧ w' = w) := hide (by
      clear h hm hs HR hc c1
      go_enter Tryz.func74, Tryz.ntmps74
      go_wp2_with (go_at_call 45; fail)
      refine (unhide HSZ).mono ?_
      rintro e w1 ⟨rfl, rfl⟩
      go_wp2
      go_ret2
      exact ⟨rfl, rfl⟩)
    clear h hm hs
    go_enter Tryz.func35, Tryz.ntmps35
    go_wp2_with (go_at_call 74; fail)
    refine (unhide H37).mono ?_
    rintro e w1 ⟨rfl, rfl⟩
    go_wp2
    go_ret2
    exact unhide HR

end Go.Proofs.YtkpmbbeidcpclaaGreatDoor

namespace Go.Proofs.YtkpmbbeidcpclaaGreatDoor
open Go.RowKit

theorem recB_at {i n : Nat} (h : i < n) (hn : n ≤ 1048576) : recB (i : Int) (n : Int) = true := by
  unfold recB
  rw [sizeB_nat hn, decide_eq_true (by omega), decide_eq_true (by omega)]
  rfl
theorem partB_at {i n : Nat} (h : i ≤ n) (hn : n ≤ 1048576) : partB (i : Int) (n : Int) = true := by
  unfold partB
  rw [sizeB_nat hn, decide_eq_true (by omega), decide_eq_true (by omega)]
  rfl

set_option maxRecDepth 100000 in
set_option maxHeartbeats 1000000 in
theorem logProve_in {w : World} {F n m i : Nat} {lv : List Bs} (h : Lg w F n lv) (hm : m ≤ n) (hi : i < m) : Calls Tryz.prog 36 #[.pointer (some ⟨F, 0, none⟩), .int .i64 (i : Int), .int .i64 (m : Int)] w (ProofOk w.heap.size w (pathP 1000 i (lv.take m))) := by
  have hc := h.cell
  have hfew := h.few
  have HP := hide (isRecord_any (i : Int) (m : Int) w)
  rw [recB_at hi (by omega)] at HP
  have HCP := hide (copying_any h)
  have HSP := hide (fun (wx : World) (R : Nat) (hr : Rd wx R F n lv) => spanPath_any 1000 (f := 0) (n := m) (i := i) hr (by omega) (by omega) (by omega) (by omega) (Al.zero _) hi)
  simp only [List.drop_zero] at HSP
  have H39 : Hid (Calls Tryz.prog 75 #[.int .i64 (i : Int), .int .i64 (m : Int), logV F] w (ProofOk w.heap.size w (pathP 1000 i (lv.take m)))) := hide (by
    clear h hc
    go_enter Tryz.func75, Tryz.ntmps75
    go_wp2_with (go_at_call 77; fail)
    refine (unhide HP).mono ?_
    rintro e w1 ⟨rfl, rfl⟩
    go_wp2_with (go_at_call 106; fail)
    refine (unhide HCP).mono ?_
    rintro e w2 ⟨R, rfl, hr, b2⟩
    have HX := hide (unhide HSP _ _ hr)
    have HB := hide b2
    clear hr b2 HSP
    go_wp2_with (go_at_call 107; fail)
    refine (unhide HX).mono ?_
    rintro e w3 ⟨v3, rfl, l3, b3⟩
    have HR : Hid (ProofOk w1.heap.size w1 (pathP 1000 i (lv.take m)) (.returned (.tuple #[v3, .int .i64 0])) w3) := hide ⟨v3, rfl, LvAt.less (unhide HB).size l3, low_trans (unhide HB) b3⟩
    clear l3 b3
    go_wp2
    go_ret2
    exact unhide HR)
  have hq : ¬ ((n : Int) < (m : Int)) := by omega
  have hq2 : decide (n < m) = false := decide_eq_false (by omega)
  clear h HP HCP HSP
  go_enter Tryz.func36, Tryz.ntmps36
  go_wp2_with (go_at_call 75; fail)
  refine (unhide H39).mono ?_
  rintro e w3 ⟨v3, rfl, l3, b3⟩
  have HR : Hid (ProofOk w.heap.size w (pathP 1000 i (lv.take m)) (.returned (.tuple #[v3, .int .i64 0])) w3) := hide ⟨v3, rfl, l3, b3⟩
  clear l3 b3
  go_wp2
  go_ret2
  exact unhide HR

set_option maxRecDepth 100000 in
theorem logProve_out {w : World} {F n : Nat} {i m : Int} {lv : List Bs} (h : Lg w F n lv) (hm : (n : Int) < m ∨ recB i m = false) : Calls Tryz.prog 36 #[.pointer (some ⟨F, 0, none⟩), .int .i64 i, .int .i64 m] w (OutR w) := by
  have hc := h.cell
  have HR : Hid (OutR w (.returned (.tuple #[.slice none 0 0, .int .i64 6])) w) := hide ⟨rfl, Below.refl _ _⟩
  by_cases c1 : (n : Int) < m
  · clear h hm
    go_enter Tryz.func36, Tryz.ntmps36
    go_wp2
    go_ret2
    exact unhide HR
  · have hb : recB i m = false := hm.resolve_left c1
    have HP := hide (isRecord_any i m w)
    rw [hb] at HP
    have H39 : Hid (Calls Tryz.prog 75 #[.int .i64 i, .int .i64 m, logV F] w fun e w' => e = .returned (.tuple #[.slice none 0 0, .int .i64 6]) ∧ w' = w) := hide (by
      clear h hm hb HR hc c1
      go_enter Tryz.func75, Tryz.ntmps75
      go_wp2_with (go_at_call 77; fail)
      refine (unhide HP).mono ?_
      rintro e w1 ⟨rfl, rfl⟩
      go_wp2
      go_ret2
      exact ⟨rfl, rfl⟩)
    clear h hm hb
    go_enter Tryz.func36, Tryz.ntmps36
    go_wp2_with (go_at_call 75; fail)
    refine (unhide H39).mono ?_
    rintro e w1 ⟨rfl, rfl⟩
    go_wp2
    go_ret2
    exact unhide HR

set_option maxRecDepth 100000 in
set_option maxHeartbeats 1000000 in
theorem logTree_in {w : World} {F n m i : Nat} {lv : List Bs} (h : Lg w F n lv) (hm : m ≤ n) (hi : i ≤ m) : Calls Tryz.prog 37 #[.pointer (some ⟨F, 0, none⟩), .int .i64 (i : Int), .int .i64 (m : Int)] w (ProofOk w.heap.size w (if i = 0 then [] else subP 1000 i (lv.take m) true)) := by
  have hc := h.cell
  have hfew := h.few
  have HP := hide (isPart_any (i : Int) (m : Int) w)
  rw [partB_at hi (by omega)] at HP
  have H40 : Hid (Calls Tryz.prog 76 #[.int .i64 (i : Int), .int .i64 (m : Int), logV F] w (ProofOk w.heap.size w (if i = 0 then [] else subP 1000 i (lv.take m) true))) := hide (by
    by_cases h0 : i = 0
    · subst h0
      have HR : Hid (ProofOk w.heap.size w (if 0 = 0 then [] else subP 1000 0 (lv.take m) true) (.returned (.tuple #[.slice none 0 0, .int .i64 0])) w) := hide ⟨_, rfl, LvAt.nil _ _, Below.refl _ _⟩
      have HP' : Hid (Calls Tryz.prog 81 #[.int .i64 0, .int .i64 (m : Int)] w fun e w' => e = .returned (.bool true) ∧ w' = w) := HP
      clear h hc HP
      go_enter Tryz.func76, Tryz.ntmps76
      go_wp2_with (go_at_call 81; fail)
      refine (unhide HP').mono ?_
      rintro e w1 ⟨rfl, rfl⟩
      go_wp2
      go_ret2
      exact unhide HR
    · have hq0 : ((i : Int) == 0) = false := by simp; omega
      rw [if_neg h0]
      have HCP := hide (copying_any h)
      have HSP := hide (fun (wx : World) (R : Nat) (hr : Rd wx R F n lv) => spanGrow_any 1000 (f := 0) (n := m) (m := i) (wh := true) hr (by omega) (by omega) (by omega) (by omega) (Al.zero _) (by omega) hi)
      simp only [List.drop_zero] at HSP
      clear h hc
      go_enter Tryz.func76, Tryz.ntmps76
      go_wp2_with (go_at_call 81; fail)
      refine (unhide HP).mono ?_
      rintro e w1 ⟨rfl, rfl⟩
      go_wp2_with (go_at_call 106; fail)
      refine (unhide HCP).mono ?_
      rintro e w2 ⟨R, rfl, hr, b2⟩
      have HX := hide (unhide HSP _ _ hr)
      have HB := hide b2
      clear hr b2 HSP
      go_wp2_with (go_at_call 108; fail)
      refine (unhide HX).mono ?_
      rintro e w3 ⟨v3, rfl, l3, b3⟩
      have HR : Hid (ProofOk w1.heap.size w1 (subP 1000 i (lv.take m) true) (.returned (.tuple #[v3, .int .i64 0])) w3) := hide ⟨v3, rfl, LvAt.less (unhide HB).size l3, low_trans (unhide HB) b3⟩
      clear l3 b3
      go_wp2
      go_ret2
      exact unhide HR)
  obtain ⟨T, hT⟩ : ∃ T, (if i = 0 then [] else subP 1000 i (lv.take m) true) = T := ⟨_, rfl⟩
  rw [hT] at H40 ⊢
  have hq : ¬ ((n : Int) < (m : Int)) := by omega
  have hq2 : decide (n < m) = false := decide_eq_false (by omega)
  clear h HP hT
  go_enter Tryz.func37, Tryz.ntmps37
  go_wp2_with (go_at_call 76; fail)
  refine (unhide H40).mono ?_
  rintro e w3 ⟨v3, rfl, l3, b3⟩
  have HR : Hid (ProofOk w.heap.size w T (.returned (.tuple #[v3, .int .i64 0])) w3) := hide ⟨v3, rfl, l3, b3⟩
  clear l3 b3
  go_wp2
  go_ret2
  exact unhide HR

set_option maxRecDepth 100000 in
theorem logTree_out {w : World} {F n : Nat} {i m : Int} {lv : List Bs} (h : Lg w F n lv) (hm : (n : Int) < m ∨ partB i m = false) : Calls Tryz.prog 37 #[.pointer (some ⟨F, 0, none⟩), .int .i64 i, .int .i64 m] w (OutR w) := by
  have hc := h.cell
  have HR : Hid (OutR w (.returned (.tuple #[.slice none 0 0, .int .i64 6])) w) := hide ⟨rfl, Below.refl _ _⟩
  by_cases c1 : (n : Int) < m
  · clear h hm
    go_enter Tryz.func37, Tryz.ntmps37
    go_wp2
    go_ret2
    exact unhide HR
  · have hb : partB i m = false := hm.resolve_left c1
    have HP := hide (isPart_any i m w)
    rw [hb] at HP
    have H40 : Hid (Calls Tryz.prog 76 #[.int .i64 i, .int .i64 m, logV F] w fun e w' => e = .returned (.tuple #[.slice none 0 0, .int .i64 6]) ∧ w' = w) := hide (by
      clear h hm hb HR hc c1
      go_enter Tryz.func76, Tryz.ntmps76
      go_wp2_with (go_at_call 81; fail)
      refine (unhide HP).mono ?_
      rintro e w1 ⟨rfl, rfl⟩
      go_wp2
      go_ret2
      exact ⟨rfl, rfl⟩)
    clear h hm hb
    go_enter Tryz.func37, Tryz.ntmps37
    go_wp2_with (go_at_call 76; fail)
    refine (unhide H40).mono ?_
    rintro e w1 ⟨rfl, rfl⟩
    go_wp2
    go_ret2
    exact unhide HR

end Go.Proofs.YtkpmbbeidcpclaaGreatDoor
