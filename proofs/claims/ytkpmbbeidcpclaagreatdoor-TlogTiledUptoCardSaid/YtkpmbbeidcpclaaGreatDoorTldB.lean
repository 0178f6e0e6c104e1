/-
  A tile's bytes, as a log has them.
-/
import Derived.Test.YtkpmbbeidcpclaaGreatDoorTldA
import Derived.Test.YtkpmbbeidcpclaaGreatDoorPath
import Derived.Test.YtkpmbbeidcpclaaGreatDoorLogQ
import Derived.Room.Make
import Derived.Deep.RegionHeld3
namespace Go.Proofs.YtkpmbbeidcpclaaGreatDoor
open Go.RowKit

/-- The hashes of whole trees of level s, from the f-th on, one behind the other. -/
def tbL (lv : List Bs) (s f : Nat) : Nat → Bs
  | 0 => []
  | i + 1 => tbL lv s f i ++ treeH s (lv.drop ((f + i) * 2 ^ s))
theorem tbL_len {lv : List Bs} {s f : Nat} : ∀ i, (∀ j, j < i → (treeH s (lv.drop ((f + j) * 2 ^ s))).length = 32) → (tbL lv s f i).length = 32 * i
  | 0, _ => rfl
  | i + 1, h => by
    have ih := tbL_len i (fun j hj => h j (by omega))
    show (tbL lv s f i ++ _).length = _
    rw [List.length_append, ih, h i (by omega)]
    omega

theorem GrB.low2 {w0 w w' : World} {v v' : Value} (h : GrB w w' v v') (b : Below w0.heap.size w0 w) (hv : ∀ g, v.ownBlock = some g → w0.heap.size ≤ g) : Below w0.heap.size w0 w' := by
  refine b.trans ⟨h.os, h.tape, h.output, h.size, fun k hk => h.block k (Nat.lt_of_lt_of_le hk b.size) (fun e => ?_)⟩
  have := hv k e.symm
  omega

set_option maxRecDepth 100000 in
set_option maxHeartbeats 2000000 in
theorem bytes_log {base : Nat} {w : World} {F n H L N W p s a f c : Nat} {lv hs : List Bs} (hL : LogAt base w F n hs) (hI : Inv lv hs) (hlv : lv.length = n) (hn : n ≤ 1000) (h1 : 1 ≤ H) (h8 : H ≤ 8) (hp : 2 ^ H = p) (hW : 1 ≤ W) (hWp : W ≤ p) (hs' : H * L = s) (hs20 : s ≤ 20) (ha : n / 2 ^ s = a) (hf : N * p = f) (hfa : f + W ≤ a) (hc : a / p = c) (hNc : N ≤ c) :
    Calls Tryz.prog 12 #[.pointer (some ⟨F, 0, none⟩), tileV H L N W] w fun e w' => ∃ v, e = .returned (.tuple #[v, .int .i64 0]) ∧ OwnB w.heap.size w' v (tbL lv s f W) ∧ Below w.heap.size w w' := by
  have HW0 := hide (fun wx => isWithin_good (n := n) h1 h8 hp hW hWp hs' hs20 (by omega) ha hf hfa hc hNc wx)
  obtain ⟨W1, hW1⟩ : ∃ W1, w.alloc (.cells #[.int .i64 (H : Int), .int .i64 (L : Int), .int .i64 (N : Int), .int .i64 (W : Int)] 31) = W1 := ⟨_, rfl⟩
  have b1 : Below w.heap.size w W1 := by rw [← hW1]; exact (Below.refl _ _).alloc (Nat.le_refl _) _
  have hblk : Blk W1 w.heap.size #[.int .i64 (H : Int), .int .i64 (L : Int), .int .i64 (N : Int), .int .i64 (W : Int)] 31 := by rw [← hW1]; exact Blk.new _ _ _
  have hc0 : w.cell? ⟨F, 0, none⟩ = some (.int .i64 (n : Int)) := by
    obtain ⟨x, hF, _⟩ := hL.at_
    exact hF.cell 0
  have HL := hide hL
  have HI := hide hI
  have HLV := hide hlv
  have HB1 := hide b1
  have HBK := hide hblk
  have HW1 := hide hW1
  have t0 : W1.cell? ⟨w.heap.size, 0, none⟩ = some (.int .i64 (H : Int)) := hblk.cell 0
  have t1 : W1.cell? ⟨w.heap.size, 1, none⟩ = some (.int .i64 (L : Int)) := hblk.cell 1
  have t2 : W1.cell? ⟨w.heap.size, 2, none⟩ = some (.int .i64 (N : Int)) := hblk.cell 2
  have t3 : W1.cell? ⟨w.heap.size, 3, none⟩ = some (.int .i64 (W : Int)) := hblk.cell 3
  have f0 : W1.cell? ⟨F, 0, none⟩ = some (.int .i64 (n : Int)) := (b1.cell (lt_of_cell hc0)).trans hc0
  obtain ⟨bt, hbt⟩ : ∃ bt, w.heap.size = bt := ⟨_, rfl⟩
  rw [hbt] at t0 t1 t2 t3
  have HBT := hide hbt
  clear hbt
  have HCJ : Hid (∀ wx, Below W1.heap.size W1 wx → (wx.cell? ⟨bt, 0, none⟩ = some (.int .i64 (H : Int)) ∧ wx.cell? ⟨bt, 1, none⟩ = some (.int .i64 (L : Int)) ∧ wx.cell? ⟨bt, 2, none⟩ = some (.int .i64 (N : Int)) ∧ wx.cell? ⟨bt, 3, none⟩ = some (.int .i64 (W : Int)) ∧ wx.cell? ⟨F, 0, none⟩ = some (.int .i64 (n : Int)) ∧ Below W1.heap.size W1 wx)) := hide (fun wx b => ⟨(b.cell (lt_of_cell t0)).trans t0, (b.cell (lt_of_cell t1)).trans t1, (b.cell (lt_of_cell t2)).trans t2, (b.cell (lt_of_cell t3)).trans t3, (b.cell (lt_of_cell f0)).trans f0, b⟩)
  have HIN : Hid (∀ wx, (wx.cell? ⟨bt, 0, none⟩ = some (.int .i64 (H : Int)) ∧ wx.cell? ⟨bt, 1, none⟩ = some (.int .i64 (L : Int)) ∧ wx.cell? ⟨bt, 2, none⟩ = some (.int .i64 (N : Int)) ∧ wx.cell? ⟨bt, 3, none⟩ = some (.int .i64 (W : Int)) ∧ wx.cell? ⟨F, 0, none⟩ = some (.int .i64 (n : Int)) ∧ Below W1.heap.size W1 wx) → Calls Tryz.prog 50 #[.agg #[.int .i64 (H : Int), .int .i64 (L : Int), .int .i64 (N : Int), .int .i64 (W : Int)], .int .i64 (n : Int)] wx fun e w' => e = .returned (.bool true) ∧ (w'.cell? ⟨bt, 0, none⟩ = some (.int .i64 (H : Int)) ∧ w'.cell? ⟨bt, 1, none⟩ = some (.int .i64 (L : Int)) ∧ w'.cell? ⟨bt, 2, none⟩ = some (.int .i64 (N : Int)) ∧ w'.cell? ⟨bt, 3, none⟩ = some (.int .i64 (W : Int)) ∧ w'.cell? ⟨F, 0, none⟩ = some (.int .i64 (n : Int)) ∧ Below W1.heap.size W1 w')) := hide (fun wx hx => by
    refine (unhide HW0 wx).mono ?_
    rintro e w' ⟨rfl, k, os, hw⟩
    exact ⟨rfl, unhide HCJ _ (low_trans hx.2.2.2.2.2 (Gr.low ⟨k, os, hw⟩))⟩)
  have HDR : Hid (∀ wx, (wx.cell? ⟨bt, 0, none⟩ = some (.int .i64 (H : Int)) ∧ wx.cell? ⟨bt, 1, none⟩ = some (.int .i64 (L : Int)) ∧ wx.cell? ⟨bt, 2, none⟩ = some (.int .i64 (N : Int)) ∧ wx.cell? ⟨bt, 3, none⟩ = some (.int .i64 (W : Int)) ∧ wx.cell? ⟨F, 0, none⟩ = some (.int .i64 (n : Int)) ∧ Below W1.heap.size W1 wx) → (wx.drew.cell? ⟨bt, 0, none⟩ = some (.int .i64 (H : Int)) ∧ wx.drew.cell? ⟨bt, 1, none⟩ = some (.int .i64 (L : Int)) ∧ wx.drew.cell? ⟨bt, 2, none⟩ = some (.int .i64 (N : Int)) ∧ wx.drew.cell? ⟨bt, 3, none⟩ = some (.int .i64 (W : Int)) ∧ wx.drew.cell? ⟨F, 0, none⟩ = some (.int .i64 (n : Int)) ∧ Below W1.heap.size W1 wx.drew)) := hide (fun wx hx => unhide HCJ _ hx.2.2.2.2.2.drew)
  have hB0 : Below W1.heap.size W1 W1 := Below.refl _ _
  have hJ0 := unhide HCJ _ hB0
  have hWb : W ≤ 256 := by
    have : 2 ^ H ≤ 2 ^ 8 := Nat.pow_le_pow_right (by decide) h8
    omega
  clear hL hI hlv b1 hblk hW1 hc0 hB0 t0 t1 t2 t3 f0
  unfold tileV at HW0 ⊢
  go_enter Tryz.func12, Tryz.ntmps12
  go_wp2
  rw [unhide HW1, unhide HBT]
  go_region_held3 (fun wx => wx.cell? ⟨bt, 0, none⟩ = some (.int .i64 (H : Int)) ∧ wx.cell? ⟨bt, 1, none⟩ = some (.int .i64 (L : Int)) ∧ wx.cell? ⟨bt, 2, none⟩ = some (.int .i64 (N : Int)) ∧ wx.cell? ⟨bt, 3, none⟩ = some (.int .i64 (W : Int)) ∧ wx.cell? ⟨F, 0, none⟩ = some (.int .i64 (n : Int)) ∧ Below W1.heap.size W1 wx)
    (first | assumption | exact unhide HDR _ (by assumption) | go_keep)
    ((go_at_call 50; refine (unhide HIN _ (by assumption)).mono ?_; rintro e w2 ⟨rfl, hS2⟩))
  obtain ⟨d0, d1, d2, d3, dF, bw2⟩ := hS2
  have HB2 := hide bw2
  obtain ⟨c32, hc32⟩ : ∃ c32, 32 * W = c32 := ⟨_, rfl⟩
  have e32 : (32 : Int) * (W : Int) = (c32 : Int) := by omega
  have hc32b : c32 ≤ 8192 := by omega
  obtain ⟨i0, hi, hz0, hz1, hz2⟩ := info_parts info5
  have hD3 := hide d3
  clear hc32 hJ0 d0 d1 d2 dF bw2
  go_wp2_with (at_make; refine wpList_make_own _ rfl _ _ 32 rfl w2.heap.size 5 i0 (.int .u8 0) 1 Tryz.underlying32 hi hz0 hz1 _ _ _ c32 rfl rfl rfl (by rw [hz2]; omega) (by unfold maxLen; omega) (Nat.le_refl _) ?_; intro w3 hown3 hgrow3; have HO3 : Hid (OwnB w2.heap.size w3 (.slice (some ⟨w2.heap.size, 0, none⟩) 0 c32) []) := hide hown3; have HB3 : Hid (Below w2.heap.size w2 w3) := hide (low_grownN hgrow3); have d3' := ((unhide HB3).cell (lt_of_cell (unhide hD3))).trans (unhide hD3); clear hown3 hgrow3)
  clear d3 d3'
  have e1 : (H : Int) * (L : Int) = (s : Int) := by rw [← hs']; push_cast; rfl
  have e4 : (N : Int) * 2 ^ H = (f : Int) := by rw [pow_int, hp, ← hf]; push_cast; rfl
  have ha1 : a ≤ 1000 := by rw [← ha]; exact Nat.le_trans (Nat.div_le_self _ _) hn
  have ha2 : a * 2 ^ s ≤ n := by rw [← ha]; exact Nat.div_mul_le_self _ _
  have HA2 := hide ha2
  have hf2 : f ≤ 1000 := by omega
  clear hp hf hs' ha hc hNc ha2
  go_loopw [6, 7, 21] (fun v6 _ v21 wr => ∃ i : Nat, i ≤ W ∧ v21 = .int .i64 (i : Int) ∧ OwnB w2.heap.size wr v6 (tbL lv s f i) ∧ Below w2.heap.size w2 wr) (fun _ _ v21 _ => W - (intOf v21).toNat)
  case atStart => exact ⟨0, Nat.zero_le _, rfl, unhide HO3, unhide HB3⟩
  case round =>
    rename World => wr
    obtain ⟨i, hiW, rfl, ho, hb⟩ := hrel
    clear HO3 HB3
    by_cases hlt : i < W
    · have hbW := low_trans (unhide HB2) hb
      have hLr : LogAt base wr F n hs := ((unhide HL).low (unhide HB1)).low hbW
      have hj : (f + i + 1) * 2 ^ s ≤ n := Nat.le_trans (Nat.mul_le_mul_right _ (by omega)) (unhide HA2)
      have hpos : 1 ≤ (f + i + 1) * 2 ^ s := Nat.mul_pos (by omega) (Nat.two_pow_pos s)
      have htree := (unhide HI).tree s (f + i) (by rw [unhide HLV]; exact hj)
      have hst := stored_le (n := n) (by omega)
      have h32 : (treeH s (lv.drop ((f + i) * 2 ^ s))).length = 32 := hLr.all _ (List.mem_of_getElem? htree)
      have hAT := at_any (w := wr.drew) (v := s) (k := f + i) (p := (f + i + 1) * 2 ^ s) (q := (f + i + 1) * 2 ^ s - 1) (hLr.low (Below.refl _ _).drew) hs20 rfl (by omega) (by omega) rfl htree (by rw [(unhide HI).len, unhide HLV]; omega)
      have htb : tbL lv s f (i + 1) = tbL lv s f i ++ treeH s (lv.drop ((f + i) * 2 ^ s)) := rfl
      obtain ⟨T, hT⟩ : ∃ T, treeH s (lv.drop ((f + i) * 2 ^ s)) = T := ⟨_, rfl⟩
      obtain ⟨fi, hfi⟩ : ∃ fi, f + i = fi := ⟨_, rfl⟩
      have e5 : (f : Int) + (i : Int) = (fi : Int) := by omega
      have hfi2 : fi ≤ 2000 := by omega
      have ws : IntKind.i64.wrap (s : Int) = (s : Int) := wrapI s (by omega)
      have wf : IntKind.i64.wrap (f : Int) = (f : Int) := wrapI f (by omega)
      have wfi : IntKind.i64.wrap (fi : Int) = (fi : Int) := wrapI fi (by omega)
      rw [hT] at h32 hAT htb
      rw [hfi] at hAT
      have hll : (tbL lv s f i).length ≤ 1000000 := by
        rw [tbL_len i (fun j hj2 => by
          have ht2 := (unhide HI).tree s (f + j) (by rw [unhide HLV]; exact Nat.le_trans (Nat.mul_le_mul_right _ (by omega)) (unhide HA2))
          exact hLr.all _ (List.mem_of_getElem? ht2))]
        omega
      have HAT : Hid (Calls Tryz.prog 51 #[.pointer (some ⟨F, 0, none⟩), .int .i64 (s : Int), .int .i64 (fi : Int)] wr.drew fun e w' => ∃ G O, e = .returned (.slice (some ⟨G, O, none⟩) 32 32) ∧ Hid (BAt w' (some ⟨G, O, none⟩) T ∧ Below w2.heap.size w2 w' ∧ OwnB w2.heap.size w' u6 (tbL lv s f i)) ∧ (w'.cell? ⟨bt, 0, none⟩ = some (.int .i64 (H : Int)) ∧ w'.cell? ⟨bt, 1, none⟩ = some (.int .i64 (L : Int)) ∧ w'.cell? ⟨bt, 2, none⟩ = some (.int .i64 (N : Int)) ∧ w'.cell? ⟨bt, 3, none⟩ = some (.int .i64 (W : Int)) ∧ w'.cell? ⟨F, 0, none⟩ = some (.int .i64 (n : Int)) ∧ Below W1.heap.size W1 w')) := hide (by
        refine hAT.mono ?_
        rintro e w' ⟨G, O, rfl, hbt, _, q, hw⟩
        have bd : Below wr.heap.size wr w' := by rw [hw]; exact lowN (Below.refl _ _).drew _
        exact ⟨G, O, rfl, hide ⟨hbt.low (by rw [hw]; exact lowN (Below.refl _ _) _), low_trans hb bd, OwnB.low ho bd⟩, unhide HCJ _ (low_trans hbW bd)⟩)
      have HAP : Hid (∀ w' G O, Hid (BAt w' (some ⟨G, O, none⟩) T ∧ Below w2.heap.size w2 w' ∧ OwnB w2.heap.size w' u6 (tbL lv s f i)) → ∃ v4 w4, (Builtin.append_ #[32, 32] 32 #[u6, .slice (some ⟨G, O, none⟩) 32 32]).run Tryz.prog w' = .ok v4 w4 ∧ Hid (OwnB w2.heap.size w4 v4 (tbL lv s f (i + 1)) ∧ Below w2.heap.size w2 w4) ∧ (w4.cell? ⟨bt, 0, none⟩ = some (.int .i64 (H : Int)) ∧ w4.cell? ⟨bt, 1, none⟩ = some (.int .i64 (L : Int)) ∧ w4.cell? ⟨bt, 2, none⟩ = some (.int .i64 (N : Int)) ∧ w4.cell? ⟨bt, 3, none⟩ = some (.int .i64 (W : Int)) ∧ w4.cell? ⟨F, 0, none⟩ = some (.int .i64 (n : Int)) ∧ Below W1.heap.size W1 w4)) := hide (fun w' G O hx => by
        obtain ⟨x1, x2, x3⟩ := unhide hx
        obtain ⟨v4, w4, y1, y2, y3⟩ := app_bytes (a := ⟨G, O, none⟩) (c := 32) x3 x2.size h32 (fun k hk => by
          rcases x1.els with e | ⟨G', O', ea, he⟩
          · rw [e] at hk; simp at hk
          · cases ea
            rw [WideShapes.add_plain]
            exact he k hk) (by omega)
        have bl4 := GrB.low2 y3 x2 (OwnB.base x3)
        exact ⟨v4, w4, y1, hide ⟨by rw [htb]; exact y2, bl4⟩, unhide HCJ _ (low_trans (unhide HB2) bl4)⟩)
      have hJ := unhide HCJ _ hbW
      have HDRr : Hid (wr.drew.cell? ⟨bt, 0, none⟩ = some (.int .i64 (H : Int)) ∧ wr.drew.cell? ⟨bt, 1, none⟩ = some (.int .i64 (L : Int)) ∧ wr.drew.cell? ⟨bt, 2, none⟩ = some (.int .i64 (N : Int)) ∧ wr.drew.cell? ⟨bt, 3, none⟩ = some (.int .i64 (W : Int)) ∧ wr.drew.cell? ⟨F, 0, none⟩ = some (.int .i64 (n : Int)) ∧ Below W1.heap.size W1 wr.drew) := hide (unhide HDR _ hJ)
      clear ho hb hbW hLr hj hpos htree hst h32 hAT htb hT hfi hll
      go_wp2
      go_region_held3 (fun wx => wx.cell? ⟨bt, 0, none⟩ = some (.int .i64 (H : Int)) ∧ wx.cell? ⟨bt, 1, none⟩ = some (.int .i64 (L : Int)) ∧ wx.cell? ⟨bt, 2, none⟩ = some (.int .i64 (N : Int)) ∧ wx.cell? ⟨bt, 3, none⟩ = some (.int .i64 (W : Int)) ∧ wx.cell? ⟨F, 0, none⟩ = some (.int .i64 (n : Int)) ∧ Below W1.heap.size W1 wx)
        (first | assumption | exact unhide HDRr | exact unhide HDR _ (by assumption) | go_keep)
        ((first | (go_at_call 51; refine (unhide HAT).mono ?_; rintro e w4 ⟨G4, O4, rfl, hv4, hS4⟩) | (revert hv4; intro hv4; obtain ⟨v5, w5, happ5, hv5, hS5⟩ := unhide HAP _ _ _ hv4; refine Lib.wp_append_run _ (.tmp 24) (.tmp 38) 32 32 (by rfl) u6 (.slice (some ⟨G4, O4, none⟩) 32 32) (by kernel_rfl) (by kernel_rfl) v5 w5 happ5 ?_)))
      have HV5 := hv5
      clear hv5 hv4 happ5
      go_wp2
      go_roundw
      case rel => exact ⟨i + 1, hlt, by push_cast; rfl, (unhide HV5).1, (unhide HV5).2⟩
      case measure => simp [intOf]; omega
    · have hie : i = W := by omega
      have HR : Hid (OwnB w.heap.size wr u6 (tbL lv s f W) ∧ Below w.heap.size w wr) := hide ⟨OwnB.less (Nat.le_trans (unhide HB1).size (unhide HB2).size) (by rw [← hie]; exact ho), low_trans (unhide HB1) (low_trans (unhide HB2) hb)⟩
      have hii : ¬ ((i : Int) < (W : Int)) := by omega
      clear ho hb hie
      go_wp2
      go_ret2
      exact ⟨u6, rfl, unhide HR⟩
end Go.Proofs.YtkpmbbeidcpclaaGreatDoor
