/-
  The state behind one more block.
-/
import Derived.Test.YtkablmjkffdloaaGreatDoorSch
namespace Go.Proofs.YtkablmjkffdloaaGreatDoor
open Go.RowKit

abbrev stC (s : St) : Array Value := #[.int .u32 (s.a.toNat : Int), .int .u32 (s.b.toNat : Int), .int .u32 (s.c.toNat : Int), .int .u32 (s.d.toNat : Int), .int .u32 (s.e.toNat : Int), .int .u32 (s.f.toNat : Int), .int .u32 (s.g.toNat : Int), .int .u32 (s.h.toNat : Int)]
abbrev zero8 : Array Value := #[.int .u32 0, .int .u32 0, .int .u32 0, .int .u32 0, .int .u32 0, .int .u32 0, .int .u32 0, .int .u32 0]

/-- While a block is mixed in. -/
structure MxR (w wr : World) (kb : Nat) (sc KA WA : Array Value) : Prop where
  low : Below w.heap.size w wr
  st : Blk wr w.heap.size sc 121
  kk : Blk wr (w.heap.size + 1) KA 123
  res : Blk wr (w.heap.size + 1 + 1) zero8 121
  ww : Blk wr kb WA 123
  far : w.heap.size + 3 ≤ kb

theorem MxR.drewN {w wr : World} {kb : Nat} {sc KA WA : Array Value} (h : MxR w wr kb sc KA WA) (n : Nat) : MxR w (wr.drewN n) kb sc KA WA := ⟨⟨h.low.os, h.low.tape, h.low.output, h.low.size, h.low.block⟩, h.st, h.kk, h.res, h.ww, h.far⟩

/-- The state, its first words added to. -/
def mixS (s t : St) : Nat → St
  | 0 => ⟨s.a, s.b, s.c, s.d, s.e, s.f, s.g, s.h⟩
  | 1 => ⟨s.a + t.a, s.b, s.c, s.d, s.e, s.f, s.g, s.h⟩
  | 2 => ⟨s.a + t.a, s.b + t.b, s.c, s.d, s.e, s.f, s.g, s.h⟩
  | 3 => ⟨s.a + t.a, s.b + t.b, s.c + t.c, s.d, s.e, s.f, s.g, s.h⟩
  | 4 => ⟨s.a + t.a, s.b + t.b, s.c + t.c, s.d + t.d, s.e, s.f, s.g, s.h⟩
  | 5 => ⟨s.a + t.a, s.b + t.b, s.c + t.c, s.d + t.d, s.e + t.e, s.f, s.g, s.h⟩
  | 6 => ⟨s.a + t.a, s.b + t.b, s.c + t.c, s.d + t.d, s.e + t.e, s.f + t.f, s.g, s.h⟩
  | 7 => ⟨s.a + t.a, s.b + t.b, s.c + t.c, s.d + t.d, s.e + t.e, s.f + t.f, s.g + t.g, s.h⟩
  | _ => ⟨s.a + t.a, s.b + t.b, s.c + t.c, s.d + t.d, s.e + t.e, s.f + t.f, s.g + t.g, s.h + t.h⟩

theorem MxR.put {w wr : World} {kb : Nat} {sc KA WA : Array Value} (h : MxR w wr kb sc KA WA) (k : Nat) (v : Value) : MxR w (wr.setCell ⟨w.heap.size, k, none⟩ v) kb (sc.setIfInBounds k v) KA WA := by
  have hf := h.far
  exact ⟨h.low.setCell (p := ⟨w.heap.size, k, none⟩) (Nat.le_refl _) v, h.st.set k v, h.kk.other (by simp) v, h.res.other (by show w.heap.size + 1 + 1 ≠ w.heap.size; omega) v, h.ww.other (by show kb ≠ w.heap.size; omega) v, hf⟩

theorem len39 : 39 < Tryz.prog.types.size := by decide +kernel
theorem size39 : (Tryz.prog.types[39]'len39).size = 1 := by kernel_rfl

theorem rnds_cons (s : St) (k x : UInt32) (ks ws : List UInt32) : rnds s (k :: ks) (x :: ws) = rnds (rnd s k x) ks ws := rfl

theorem te_eq (e : UInt32) : bits .xor .u32 (bits .xor .u32 ((rotr e 6).toNat : Int) ((rotr e 11).toNat : Int)) ((rotr e 25).toNat : Int) = (((rotr e 6 ^^^ rotr e 11) ^^^ rotr e 25).toNat : Int) := by rw [bx, bx]
theorem sum7 (a b c d e f g : UInt32) : (((a.toNat : Int) + (b.toNat : Int) + (c.toNat : Int) + (d.toNat : Int) + (e.toNat : Int) + (f.toNat : Int)) % 4294967296 + (g.toNat : Int)) % 4294967296 = (((((((a + b) + c) + d) + e) + f) + g).toNat : Int) := by
  rw [UInt32.toNat_add, UInt32.toNat_add, UInt32.toNat_add, UInt32.toNat_add, UInt32.toNat_add, UInt32.toNat_add]
  omega
theorem sum6 (z a b c d e : UInt32) : ((z.toNat : Int) + ((a.toNat : Int) + (b.toNat : Int) + (c.toNat : Int) + (d.toNat : Int) + (e.toNat : Int)) % 4294967296) % 4294967296 = ((z + ((((a + b) + c) + d) + e)).toNat : Int) := by
  rw [UInt32.toNat_add, UInt32.toNat_add, UInt32.toNat_add, UInt32.toNat_add, UInt32.toNat_add]
  omega
theorem ta_eq (a : UInt32) : bits .xor .u32 (bits .xor .u32 ((rotr a 2).toNat : Int) ((rotr a 13).toNat : Int)) ((rotr a 22).toNat : Int) = (((rotr a 2 ^^^ rotr a 13) ^^^ rotr a 22).toNat : Int) := by rw [bx, bx]
theorem ch_eq (e f g : UInt32) : bits .xor .u32 (bits .and .u32 (e.toNat : Int) (f.toNat : Int)) (bits .and .u32 (bits .xor .u32 IntKind.u32.max (e.toNat : Int)) (g.toNat : Int)) = (((e &&& f) ^^^ (~~~ e &&& g)).toNat : Int) := by
  rw [show bits .xor .u32 IntKind.u32.max (e.toNat : Int) = ((~~~ e).toNat : Int) from bnot e, ban, ban, bx]
theorem ma_eq (a b c : UInt32) : bits .xor .u32 (bits .xor .u32 (bits .and .u32 (a.toNat : Int) (b.toNat : Int)) (bits .and .u32 (a.toNat : Int) (c.toNat : Int))) (bits .and .u32 (b.toNat : Int) (c.toNat : Int)) = ((((a &&& b) ^^^ (a &&& c)) ^^^ (b &&& c)).toNat : Int) := by rw [ban, ban, ban, bx, bx]

set_option maxRecDepth 100000 in
set_option maxHeartbeats 2000000 in
theorem mix_is {w : World} {B O c : Nat} {xs : Bs} {s : St} {ks ws : List UInt32} (hkl : ks.length = 64) (hsw : sched xs = ws) (hn : xs.length = 64) (hc : 64 ≤ c) (hc2 : c ≤ 9223372036854775807) (h : ∀ k (hk : k < xs.length), w.cell? ⟨B, O + k, none⟩ = some (.int .u8 (xs[k].toNat : Int))) :
    Calls Tryz.prog 85 #[.agg (stC s), .slice (some ⟨B, O, none⟩) 64 c, .agg (wArr ks)] w fun e w' => e = .returned (.agg (stC (addS s (rnds s ks ws)))) ∧ Below w.heap.size w w' := by
  obtain ⟨KA, hKA⟩ : ∃ KA, wArr ks = KA := ⟨_, rfl⟩
  obtain ⟨WA, hWA⟩ : ∃ WA, wArr ws = WA := ⟨_, rfl⟩
  rw [hKA]
  have hsl : ws.length = 64 := by rw [← hsw]; unfold sched; rw [growW_length, words_length, hn]
  have HKA := hide hKA
  have HWA := hide hWA
  have HSL := hide hsl
  have HKL := hide hkl
  have hks : KA.size = 64 := by rw [← hKA]; exact wArr_size (by rw [hkl]; exact Nat.le_refl _)
  have hws : WA.size = 64 := by rw [← hWA]; exact wArr_size (by rw [hsl]; exact Nat.le_refl _)
  obtain ⟨W0, hW0⟩ : ∃ W0, ((w.alloc (.cells (stC s) 121)).alloc (.cells KA 123)).alloc (.cells zero8 121) = W0 := ⟨_, rfl⟩
  have b0 : Below w.heap.size w W0 := by rw [← hW0]; exact (((Below.refl _ _).alloc (Nat.le_refl _) _).alloc (by simp) _).alloc (by simp; omega) _
  have s0 : W0.heap.size = w.heap.size + 3 := by rw [← hW0]; simp
  have r0 : Blk W0 w.heap.size (stC s) 121 := by rw [← hW0]; exact ((Blk.new w _ _).alloc _).alloc _
  have r1 : Blk W0 (w.heap.size + 1) KA 123 := by
    rw [← hW0]
    have := Blk.new (w.alloc (.cells (stC s) 121)) KA 123
    rw [show (w.alloc (.cells (stC s) 121)).heap.size = w.heap.size + 1 by simp] at this
    exact this.alloc _
  have r2 : Blk W0 (w.heap.size + 1 + 1) zero8 121 := by
    rw [← hW0]
    have := Blk.new ((w.alloc (.cells (stC s) 121)).alloc (.cells KA 123)) zero8 121
    rw [show ((w.alloc (.cells (stC s) 121)).alloc (.cells KA 123)).heap.size = w.heap.size + 1 + 1 by simp] at this
    exact this
  have HS := hide (sch_any hn hc hc2 (fun k hk => (b0.cell (lt_of_cell (h k hk))).trans (h k hk)))
  rw [hsw] at HS
  have hwf : (ws.map (fun x => Value.int .u32 (x.toNat : Int))).toArray = WA := by rw [← hWA, wArr_full hsl]; rfl
  rw [hwf] at HS
  have hinf : (Tryz.prog.info? 123).map (·.size) = some WA.size := by rw [hws]; kernel_rfl
  have hone : WA.all (·.oneCell') = true := by
    rw [← hwf]
    simp [Value.oneCell']
  have HF : Hid (∀ w1, Below W0.heap.size W0 w1 → MxR w ((w1.alloc (.cells zero64 123)).setRow w1.heap.size WA) w1.heap.size (stC s) KA WA) := by
    intro w1 hb
    have hl := hb.size
    rw [s0] at hl
    have al : ∀ {b : Nat} {cs : Array Value} {t : TypeId}, Blk W0 b cs t → Blk ((w1.alloc (.cells zero64 123)).setRow w1.heap.size WA) b cs t := fun {b cs t} hb0 => by
      have e := hb0.lt
      rw [s0] at e
      exact (setRow_other _ _ _ _ (by omega)).trans ((hb0.low hb).alloc _)
    exact ⟨low_setRow ((low_trans b0 hb).alloc (by omega) _) (by omega) _, al r0, al r1, al r2, setRow_heap _ _ _ _ _ _ (Blk.new w1 zero64 123), by omega⟩
  have HW0 := hide hW0
  clear hKA hWA hsl hkl hsw hW0 b0 s0 r0 r1 r2 hn h hwf
  go_enter Tryz.func85, Tryz.ntmps85
  go_wp2_with (go_at_call 142; fail)
  rw [unhide HW0]
  refine (unhide HS).mono ?_
  rintro e w1 ⟨rfl, b1⟩
  have hm := unhide HF w1 b1
  obtain ⟨W1, hW1⟩ : ∃ W1, (w1.alloc (.cells zero64 123)).setRow w1.heap.size WA = W1 := ⟨_, rfl⟩
  rw [hW1] at hm
  have hnew : (w1.alloc (.cells zero64 123)).heap[w1.heap.size]? = some (.cells zero64 123 (0, 0)) := Blk.new w1 zero64 123
  have HM := hide hm
  clear b1 HF HS hm
  have HW1 := hide hW1
  clear hW1
  go_wp2_with (refine wpList_store_row rfl 123 _ _ rfl w1.heap.size WA rfl rfl 123 zero64 hnew hinf (by rw [hws]; rfl) hone ?_; rw [unhide HW1])
  clear hnew hinf hone HW1
  have p0 : W1.cell? ⟨w.heap.size, 0, none⟩ = some (.int .u32 (s.a.toNat : Int)) := (unhide HM).st.cell 0
  have p1 : W1.cell? ⟨w.heap.size, 1, none⟩ = some (.int .u32 (s.b.toNat : Int)) := (unhide HM).st.cell 1
  have p2 : W1.cell? ⟨w.heap.size, 2, none⟩ = some (.int .u32 (s.c.toNat : Int)) := (unhide HM).st.cell 2
  have p3 : W1.cell? ⟨w.heap.size, 3, none⟩ = some (.int .u32 (s.d.toNat : Int)) := (unhide HM).st.cell 3
  have p4 : W1.cell? ⟨w.heap.size, 4, none⟩ = some (.int .u32 (s.e.toNat : Int)) := (unhide HM).st.cell 4
  have p5 : W1.cell? ⟨w.heap.size, 5, none⟩ = some (.int .u32 (s.f.toNat : Int)) := (unhide HM).st.cell 5
  have p6 : W1.cell? ⟨w.heap.size, 6, none⟩ = some (.int .u32 (s.g.toNat : Int)) := (unhide HM).st.cell 6
  have p7 : W1.cell? ⟨w.heap.size, 7, none⟩ = some (.int .u32 (s.h.toNat : Int)) := (unhide HM).st.cell 7
  go_quiet (fail)
  clear p0 p1 p2 p3 p4 p5 p6 p7
  go_wp2
  go_loopw [8, 9, 10, 11, 12, 13, 14, 15, 16, 17, 18, 19, 20, 21, 42] (fun v8 v9 v10 v11 v12 v13 v14 v15 _ _ _ _ _ _ v42 wr => ∃ (i n : Nat) (t : St), i ≤ 64 ∧ v42 = .int .i64 i ∧ v8 = .int .u32 (t.a.toNat : Int) ∧ v9 = .int .u32 (t.b.toNat : Int) ∧ v10 = .int .u32 (t.c.toNat : Int) ∧ v11 = .int .u32 (t.d.toNat : Int) ∧ v12 = .int .u32 (t.e.toNat : Int) ∧ v13 = .int .u32 (t.f.toNat : Int) ∧ v14 = .int .u32 (t.g.toNat : Int) ∧ v15 = .int .u32 (t.h.toNat : Int) ∧ rnds t (ks.drop i) (ws.drop i) = rnds s ks ws ∧ wr = W1.drewN n) (fun _ _ _ _ _ _ _ _ _ _ _ _ _ _ v42 _ => 64 - (intOf v42).toNat)
  case atStart => exact ⟨0, _, s, Nat.zero_le _, rfl, rfl, rfl, rfl, rfl, rfl, rfl, rfl, rfl, rfl, rfl⟩
  case round =>
    rename World => wr
    obtain ⟨i, n, t, hi, rfl, rfl, rfl, rfl, rfl, rfl, rfl, rfl, rfl, hrn, hwr⟩ := hrel
    have HRN := hide hrn
    have HWR := hide hwr
    have hmr : MxR w wr w1.heap.size (stC s) KA WA := by rw [hwr]; exact (unhide HM).drewN n
    have HMR := hide hmr
    by_cases hlt : i < 64
    · have hik : i < ks.length := by rw [unhide HKL]; exact hlt
      have hiw : i < ws.length := by rw [unhide HSL]; exact hlt
      have q1 : wr.cell? ⟨w.heap.size + 1, i, none⟩ = some (.int .u32 (ks[i].toNat : Int)) := by rw [hmr.kk.cell, ← unhide HKA]; exact wArr_get hik
      have q2 : wr.cell? ⟨w1.heap.size, i, none⟩ = some (.int .u32 (ws[i].toNat : Int)) := by rw [hmr.ww.cell, ← unhide HWA]; exact wArr_get hiw
      have HN : Hid (rnds t (ks.drop i) (ws.drop i) = rnds (rnd t ks[i] ws[i]) (ks.drop (i + 1)) (ws.drop (i + 1))) := hide (by rw [List.drop_eq_getElem_cons hik, List.drop_eq_getElem_cons hiw, rnds_cons])
      obtain ⟨k, hk⟩ : ∃ k, ks[i] = k := ⟨_, rfl⟩
      obtain ⟨x, hx⟩ : ∃ x, ws[i] = x := ⟨_, rfl⟩
      rw [hk, hx] at HN
      rw [hk] at q1
      rw [hx] at q2
      obtain ⟨a, b, cc, d, e, f, g, hh⟩ := t
      have z1 := te_eq e
      have z2 := ch_eq e f g
      have z3 := ta_eq a
      have z4 := ma_eq a b cc
      obtain ⟨te, hte⟩ : ∃ te, (rotr e 6 ^^^ rotr e 11) ^^^ rotr e 25 = te := ⟨_, rfl⟩
      obtain ⟨ch, hch⟩ : ∃ ch, (e &&& f) ^^^ (~~~ e &&& g) = ch := ⟨_, rfl⟩
      obtain ⟨ta, hta⟩ : ∃ ta, (rotr a 2 ^^^ rotr a 13) ^^^ rotr a 22 = ta := ⟨_, rfl⟩
      obtain ⟨ma, hma⟩ : ∃ ma, ((a &&& b) ^^^ (a &&& cc)) ^^^ (b &&& cc) = ma := ⟨_, rfl⟩
      have HRD : Hid (rnd ⟨a, b, cc, d, e, f, g, hh⟩ k x = ⟨(((((hh + te) + ch) + k) + x) + ta) + ma, a, b, cc, d + ((((hh + te) + ch) + k) + x), e, f, g⟩) := hide (by rw [← hte, ← hch, ← hta, ← hma]; rfl)
      rw [hte] at z1
      rw [hch] at z2
      rw [hta] at z3
      rw [hma] at z4
      have i64 : (i : Int) < 64 := by omega
      clear hik hiw hk hx hte hch hta hma hmr hrn hwr
      simp only
      go_wp2_with (go_at_call 143; fail)
      refine (rot6 e _).mono ?_
      rintro _ w9 ⟨rfl, hw⟩
      rw [hw]; clear hw w9
      go_wp2_with (go_at_call 143; fail)
      refine (rot11 e _).mono ?_
      rintro _ w9 ⟨rfl, hw⟩
      rw [hw]; clear hw w9
      go_wp2_with (go_at_call 143; fail)
      refine (rot25 e _).mono ?_
      rintro _ w9 ⟨rfl, hw⟩
      rw [hw]; clear hw w9
      go_wp2
      go_quiet (fail)
      go_wp2_with (go_at_call 143; fail)
      refine (rot2 a _).mono ?_
      rintro _ w9 ⟨rfl, hw⟩
      rw [hw]; clear hw w9
      go_wp2_with (go_at_call 143; fail)
      refine (rot13 a _).mono ?_
      rintro _ w9 ⟨rfl, hw⟩
      rw [hw]; clear hw w9
      go_wp2_with (go_at_call 143; fail)
      refine (rot22 a _).mono ?_
      rintro _ w9 ⟨rfl, hw⟩
      rw [hw]; clear hw w9
      go_wp2
      go_roundw
      case rel => exact ⟨i + 1, n + nq, rnd ⟨a, b, cc, d, e, f, g, hh⟩ k x, hlt, by simp, by rw [unhide HRD, sum7], by rw [unhide HRD], by rw [unhide HRD], by rw [unhide HRD], by rw [unhide HRD, sum6], by rw [unhide HRD], by rw [unhide HRD], by rw [unhide HRD], by rw [← unhide HN]; exact unhide HRN, by rw [unhide HWR, World.drewN_drewN]⟩
      case measure => simp [intOf]; omega
    · have hi64 : i = 64 := by omega
      subst hi64
      have hT : t = rnds s ks ws := by
        rw [← hrn, List.drop_of_length_le (by rw [unhide HKL]; exact Nat.le_refl _), List.drop_of_length_le (by rw [unhide HSL]; exact Nat.le_refl _)]
        rfl
      have HT := hide hT
      obtain ⟨a, b, cc, d, e, f, g, hh⟩ := t
      obtain ⟨a', b', c', d', e', f', g', h'⟩ := s
      rw [show ((64 : Nat) : Int) = (64 : Int) from rfl]
      clear hrn hwr hT HRN HWR hmr hlt hi
      simp only
      go_wp2
      go_loopw [22, 23, 117] (fun _ _ v117 wq => ∃ j : Nat, j ≤ 8 ∧ v117 = .int .i64 j ∧ MxR w wq w1.heap.size (stC (mixS ⟨a', b', c', d', e', f', g', h'⟩ ⟨a, b, cc, d, e, f, g, hh⟩ j)) KA WA) (fun _ _ v117 _ => 8 - (intOf v117).toNat)
      case atStart => exact ⟨0, Nat.zero_le _, rfl, unhide HMR⟩
      case round =>
        rename World => wq
        clear HMR
        obtain ⟨j, hj, rfl, hm⟩ := hrel
        have HQ := hide hm
        by_cases hlt : j < 8
        · have hj8 : j = 0 ∨ j = 1 ∨ j = 2 ∨ j = 3 ∨ j = 4 ∨ j = 5 ∨ j = 6 ∨ j = 7 := by omega
          rcases hj8 with rfl | rfl | rfl | rfl | rfl | rfl | rfl | rfl
          · have c0 : wq.cell? ⟨w.heap.size, 0, none⟩ = some (.int .u32 (a'.toNat : Int)) := hm.st.cell 0
            have f0 := hm.st.free 0
            have HP : Hid (MxR w (wq.setCell ⟨w.heap.size, 0, none⟩ (.int .u32 (((a'.toNat : Int) + (a.toNat : Int)) % 4294967296))) w1.heap.size (stC (mixS ⟨a', b', c', d', e', f', g', h'⟩ ⟨a, b, cc, d, e, f, g, hh⟩ 1)) KA WA) := hide (by rw [madd]; exact hm.put 0 _)
            rw [show ((0 : Nat) : Int) = (0 : Int) from rfl]
            clear hm HQ hj hlt
            go_wp2
            rename_i hK
            refine hK _ _ ?_
            clear hK
            simp only [size39, Nat.mul_one, show Int.toNat 0 = 0 from rfl, List.getElem_toArray, List.getElem_cons_zero]
            go_wp2
            go_roundw
            case rel => exact ⟨1, by omega, rfl, unhide HP⟩
            case measure => simp [intOf]
          · have c0 : wq.cell? ⟨w.heap.size, 1, none⟩ = some (.int .u32 (b'.toNat : Int)) := hm.st.cell 1
            have f0 := hm.st.free 1
            have HP : Hid (MxR w (wq.setCell ⟨w.heap.size, 1, none⟩ (.int .u32 (((b'.toNat : Int) + (b.toNat : Int)) % 4294967296))) w1.heap.size (stC (mixS ⟨a', b', c', d', e', f', g', h'⟩ ⟨a, b, cc, d, e, f, g, hh⟩ 2)) KA WA) := hide (by rw [madd]; exact hm.put 1 _)
            rw [show ((1 : Nat) : Int) = (1 : Int) from rfl]
            clear hm HQ hj hlt
            go_wp2
            rename_i hK
            refine hK _ _ ?_
            clear hK
            simp only [size39, Nat.mul_one, show Int.toNat 1 = 1 from rfl, List.getElem_toArray, List.getElem_cons_zero, List.getElem_cons_succ]
            go_wp2
            go_roundw
            case rel => exact ⟨2, by omega, rfl, unhide HP⟩
            case measure => simp [intOf]
          · have c0 : wq.cell? ⟨w.heap.size, 2, none⟩ = some (.int .u32 (c'.toNat : Int)) := hm.st.cell 2
            have f0 := hm.st.free 2
            have HP : Hid (MxR w (wq.setCell ⟨w.heap.size, 2, none⟩ (.int .u32 (((c'.toNat : Int) + (cc.toNat : Int)) % 4294967296))) w1.heap.size (stC (mixS ⟨a', b', c', d', e', f', g', h'⟩ ⟨a, b, cc, d, e, f, g, hh⟩ 3)) KA WA) := hide (by rw [madd]; exact hm.put 2 _)
            rw [show ((2 : Nat) : Int) = (2 : Int) from rfl]
            clear hm HQ hj hlt
            go_wp2
            rename_i hK
            refine hK _ _ ?_
            clear hK
            simp only [size39, Nat.mul_one, show Int.toNat 2 = 2 from rfl, List.getElem_toArray, List.getElem_cons_zero, List.getElem_cons_succ]
            go_wp2
            go_roundw
            case rel => exact ⟨3, by omega, rfl, unhide HP⟩
            case measure => simp [intOf]
          · have c0 : wq.cell? ⟨w.heap.size, 3, none⟩ = some (.int .u32 (d'.toNat : Int)) := hm.st.cell 3
            have f0 := hm.st.free 3
            have HP : Hid (MxR w (wq.setCell ⟨w.heap.size, 3, none⟩ (.int .u32 (((d'.toNat : Int) + (d.toNat : Int)) % 4294967296))) w1.heap.size (stC (mixS ⟨a', b', c', d', e', f', g', h'⟩ ⟨a, b, cc, d, e, f, g, hh⟩ 4)) KA WA) := hide (by rw [madd]; exact hm.put 3 _)
            rw [show ((3 : Nat) : Int) = (3 : Int) from rfl]
            clear hm HQ hj hlt
            go_wp2
            rename_i hK
            refine hK _ _ ?_
            clear hK
            simp only [size39, Nat.mul_one, show Int.toNat 3 = 3 from rfl, List.getElem_toArray, List.getElem_cons_zero, List.getElem_cons_succ]
            go_wp2
            go_roundw
            case rel => exact ⟨4, by omega, rfl, unhide HP⟩
            case measure => simp [intOf]
          · have c0 : wq.cell? ⟨w.heap.size, 4, none⟩ = some (.int .u32 (e'.toNat : Int)) := hm.st.cell 4
            have f0 := hm.st.free 4
            have HP : Hid (MxR w (wq.setCell ⟨w.heap.size, 4, none⟩ (.int .u32 (((e'.toNat : Int) + (e.toNat : Int)) % 4294967296))) w1.heap.size (stC (mixS ⟨a', b', c', d', e', f', g', h'⟩ ⟨a, b, cc, d, e, f, g, hh⟩ 5)) KA WA) := hide (by rw [madd]; exact hm.put 4 _)
            rw [show ((4 : Nat) : Int) = (4 : Int) from rfl]
            clear hm HQ hj hlt
            go_wp2
            rename_i hK
            refine hK _ _ ?_
            clear hK
            simp only [size39, Nat.mul_one, show Int.toNat 4 = 4 from rfl, List.getElem_toArray, List.getElem_cons_zero, List.getElem_cons_succ]
            go_wp2
            go_roundw
            case rel => exact ⟨5, by omega, rfl, unhide HP⟩
            case measure => simp [intOf]
          · have c0 : wq.cell? ⟨w.heap.size, 5, none⟩ = some (.int .u32 (f'.toNat : Int)) := hm.st.cell 5
            have f0 := hm.st.free 5
            have HP : Hid (MxR w (wq.setCell ⟨w.heap.size, 5, none⟩ (.int .u32 (((f'.toNat : Int) + (f.toNat : Int)) % 4294967296))) w1.heap.size (stC (mixS ⟨a', b', c', d', e', f', g', h'⟩ ⟨a, b, cc, d, e, f, g, hh⟩ 6)) KA WA) := hide (by rw [madd]; exact hm.put 5 _)
            rw [show ((5 : Nat) : Int) = (5 : Int) from rfl]
            clear hm HQ hj hlt
            go_wp2
            rename_i hK
            refine hK _ _ ?_
            clear hK
            simp only [size39, Nat.mul_one, show Int.toNat 5 = 5 from rfl, List.getElem_toArray, List.getElem_cons_zero, List.getElem_cons_succ]
            go_wp2
            go_roundw
            case rel => exact ⟨6, by omega, rfl, unhide HP⟩
            case measure => simp [intOf]
          · have c0 : wq.cell? ⟨w.heap.size, 6, none⟩ = some (.int .u32 (g'.toNat : Int)) := hm.st.cell 6
            have f0 := hm.st.free 6
            have HP : Hid (MxR w (wq.setCell ⟨w.heap.size, 6, none⟩ (.int .u32 (((g'.toNat : Int) + (g.toNat : Int)) % 4294967296))) w1.heap.size (stC (mixS ⟨a', b', c', d', e', f', g', h'⟩ ⟨a, b, cc, d, e, f, g, hh⟩ 7)) KA WA) := hide (by rw [madd]; exact hm.put 6 _)
            rw [show ((6 : Nat) : Int) = (6 : Int) from rfl]
            clear hm HQ hj hlt
            go_wp2
            rename_i hK
            refine hK _ _ ?_
            clear hK
            simp only [size39, Nat.mul_one, show Int.toNat 6 = 6 from rfl, List.getElem_toArray, List.getElem_cons_zero, List.getElem_cons_succ]
            go_wp2
            go_roundw
            case rel => exact ⟨7, by omega, rfl, unhide HP⟩
            case measure => simp [intOf]
          · have c0 : wq.cell? ⟨w.heap.size, 7, none⟩ = some (.int .u32 (h'.toNat : Int)) := hm.st.cell 7
            have f0 := hm.st.free 7
            have HP : Hid (MxR w (wq.setCell ⟨w.heap.size, 7, none⟩ (.int .u32 (((h'.toNat : Int) + (hh.toNat : Int)) % 4294967296))) w1.heap.size (stC (mixS ⟨a', b', c', d', e', f', g', h'⟩ ⟨a, b, cc, d, e, f, g, hh⟩ 8)) KA WA) := hide (by rw [madd]; exact hm.put 7 _)
            rw [show ((7 : Nat) : Int) = (7 : Int) from rfl]
            clear hm HQ hj hlt
            go_wp2
            rename_i hK
            refine hK _ _ ?_
            clear hK
            simp only [size39, Nat.mul_one, show Int.toNat 7 = 7 from rfl, List.getElem_toArray, List.getElem_cons_zero, List.getElem_cons_succ]
            go_wp2
            go_roundw
            case rel => exact ⟨8, by omega, rfl, unhide HP⟩
            case measure => simp [intOf]
        · have hj8 : j = 8 := by omega
          subst hj8
          rw [show ((8 : Nat) : Int) = (8 : Int) from rfl]
          obtain ⟨RA, hRA⟩ : ∃ RA, stC (mixS ⟨a', b', c', d', e', f', g', h'⟩ ⟨a, b, cc, d, e, f, g, hh⟩ 8) = RA := ⟨_, rfl⟩
          have hst : wq.heap[w.heap.size]? = some (.cells RA 121 (0, 0)) := by rw [← hRA]; exact hm.st
          have hre : wq.heap[w.heap.size + 1 + 1]? = some (.cells zero8 121 (0, 0)) := hm.res
          have hinf2 : (Tryz.prog.info? 121).map (·.size) = some RA.size := by rw [← hRA]; kernel_rfl
          have hone2 : RA.all (·.oneCell') = true := by rw [← hRA]; simp [Value.oneCell']
          have hsz2 : zero8.size = RA.size := by rw [← hRA]; rfl
          have HZ : Hid (RA = stC (addS ⟨a', b', c', d', e', f', g', h'⟩ (rnds ⟨a', b', c', d', e', f', g', h'⟩ ks ws)) ∧ Below w.heap.size w (wq.setRow (w.heap.size + 1 + 1) RA) ∧ (wq.setRow (w.heap.size + 1 + 1) RA).heap[w.heap.size + 1 + 1]? = some (.cells RA 121 (0, 0))) := hide ⟨by rw [← hRA, ← unhide HT]; rfl, low_setRow hm.low (by omega) _, setRow_heap _ _ _ _ _ _ hre⟩
          clear hm HQ hj hlt hRA HT
          go_wp2_with (first | (refine wpList_load_row rfl 121 _ rfl w.heap.size rfl 121 RA (0, 0) _ hst Tryz.underlying121 rfl hinf2 ?_) | (refine wpList_store_row rfl 121 _ _ rfl (w.heap.size + 1 + 1) RA rfl rfl 121 zero8 hre hinf2 hsz2 hone2 ?_))
          exact bodyPost_ret (v := .agg RA) (results_cell_row Tryz.results85 _ _ (w.heap.size + 1 + 1) 121 RA (0, 0) _ rfl (unhide HZ).2.2 Tryz.underlying121 rfl hinf2) rfl ⟨by rw [(unhide HZ).1], (unhide HZ).2.1⟩

theorem mix_any {w : World} {B O c : Nat} {xs : Bs} {s : St} (hn : xs.length = 64) (hc : 64 ≤ c) (hc2 : c ≤ 9223372036854775807) (h : ∀ k (hk : k < xs.length), w.cell? ⟨B, O + k, none⟩ = some (.int .u8 (xs[k].toNat : Int))) :
    Calls Tryz.prog 85 #[.agg (stC s), .slice (some ⟨B, O, none⟩) 64 c, .agg (wArr kL)] w fun e w' => e = .returned (.agg (stC (mix s xs))) ∧ Below w.heap.size w w' :=
  mix_is rfl rfl hn hc hc2 h

end Go.Proofs.YtkablmjkffdloaaGreatDoor
