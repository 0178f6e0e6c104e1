/-
  The sum of files, the program's: where the bytes of an empty file lie anywhere.
-/
import Derived.Test.YtkablmjkffdloaaGreatDoorSumA
import Derived.Test.YtkablmjkffdloaaGreatDoorShaE
namespace Go.Proofs.YtkablmjkffdloaaGreatDoor
open Go.RowKit Go.Sort Go.Shelf

/-- Where the files' bytes lie. -/
structure DatG (w : World) (xs : List Fl) (dat : Fl → Bs) : Prop where
  len : ∀ x ∈ xs, (dat x).length = x.n
  few : ∀ x ∈ xs, x.n ≤ 1048576
  cap : ∀ x ∈ xs, x.n ≤ x.c
  capm : ∀ x ∈ xs, x.c ≤ 9223372036854775807
  form : ∀ x ∈ xs, x.a = none ∨ (∃ B O, x.a = some ⟨B, O, none⟩) ∨ ∃ y, x.a = some y ∧ x.n = 0 ∧ x.c = 0
  at_ : ∀ x ∈ xs, BAt w x.a (dat x)
  nm : ∀ x ∈ xs, x.nm.length ≤ 100000
theorem DatG.low {w w' : World} {xs : List Fl} {dat : Fl → Bs} (h : DatG w xs dat) (b : Below w.heap.size w w') : DatG w' xs dat := ⟨h.len, h.few, h.cap, h.capm, h.form, fun x hx => (h.at_ x hx).low b, h.nm⟩
theorem DatG.perm {w : World} {xs ys : List Fl} {dat : Fl → Bs} (h : DatG w xs dat) (p : ys.Perm xs) : DatG w ys dat :=
  ⟨fun x hx => h.len x (p.mem_iff.1 hx), fun x hx => h.few x (p.mem_iff.1 hx), fun x hx => h.cap x (p.mem_iff.1 hx), fun x hx => h.capm x (p.mem_iff.1 hx), fun x hx => h.form x (p.mem_iff.1 hx), fun x hx => h.at_ x (p.mem_iff.1 hx), fun x hx => h.nm x (p.mem_iff.1 hx)⟩


theorem shaF_any {w : World} {a : Option Addr} {n c : Nat} {b : Bs} (hn : b.length = n) (hN : n ≤ 1152921504606846976) (hc : n ≤ c) (hc2 : c ≤ 9223372036854775807) (hp : a = none ∨ (∃ B O, a = some ⟨B, O, none⟩) ∨ ∃ y, a = some y ∧ n = 0 ∧ c = 0) (h : BAt w a b) :
    Calls Tryz.prog 27 #[.slice a n c] w fun e w' => ∃ v, e = .returned v ∧ OwnB w.heap.size w' v (shaL b) ∧ Below w.heap.size w w' := by
  rcases hp with rfl | ⟨B, O, rfl⟩ | ⟨x, rfl, z1, z2⟩
  · exact sha_any hn hN hc hc2 (Or.inl rfl) h
  · exact sha_any hn hN hc hc2 (Or.inr ⟨B, O, rfl⟩) h
  · exact sha_zero hn z1 (by omega) hN hc hc2 h
theorem linesG_len {w : World} {dat : Fl → Bs} {ys : List Fl} (h : DatG w ys dat) : ∀ i, i ≤ ys.length → (linesF dat (ys.take i)).length ≤ i * 100067
  | 0, _ => by simp [linesF]
  | i + 1, hi => by
    have ih := linesG_len h i (by omega)
    have := h.nm ys[i] (List.getElem_mem (by omega))
    rw [linesF_snoc (by omega), List.length_append, lineF_len]
    omega

set_option maxRecDepth 100000 in
set_option maxHeartbeats 2000000 in
theorem sumG_any {w : World} {a : Option Addr} {n c : Nat} {xs : List Fl} {dat : Fl → Bs} (hx : xs.length = n) (hform : (a = none ∧ n = 0 ∧ c = 0) ∨ ∃ B O, a = some ⟨B, O, none⟩) (h : FAt w a xs) (hn : n ≤ 1000) (hc : n ≤ c) (hd : DatG w xs dat) :
    Calls Tryz.prog 91 #[.slice a n c] w fun e w' => ∃ ys, ys.Perm xs ∧ Rising ys ∧ e = .returned (.string (ba (sumF dat ys))) ∧ Below w.heap.size w w' := by
  have HFB := hide (Lib.fresh_isBuilder 119 5 w)
  have b0 : Below w.heap.size w (w.alloc (.cells #[.pointer none, .slice none 0 0] 119)) := (Below.refl _ _).alloc (Nat.le_refl _) _
  have hsz1 : w.heap.size + 1 = (w.alloc (.cells #[.pointer none, .slice none 0 0] 119)).heap.size := by simp
  obtain ⟨W1, hW1⟩ : ∃ W1, w.alloc (.cells #[.pointer none, .slice none 0 0] 119) = W1 := ⟨_, rfl⟩
  rw [hW1] at HFB b0 hsz1
  have HBN := hide (byName_any hx hform (h.low b0) (by omega) hc)
  have HD := hide hd
  have HB0 := hide b0
  have HW1 := hide hW1
  have HX := hide hx
  clear h hform hx hd hW1 b0
  go_enter Tryz.func91, Tryz.ntmps91
  go_wp2_with (go_at_call 72; fail)
  rw [unhide HW1]
  refine (unhide HBN).mono ?_
  rintro e w1 ⟨v1, ys, rfl, hp, hri, hrow, b1⟩
  have hlen : ys.length = n := by rw [hp.length_eq]; exact unhide HX
  obtain ⟨ra, rc, rfl, hrc, hrb⟩ := FRow.rowB hrow
  have HGB : Hid (∀ g, ra = some ⟨g, 0, none⟩ → w.heap.size + 1 ≤ g) := hide (fun g e => by
    rcases hrow.2 with ⟨e2, _⟩ | ⟨g2, _, _, e2, hB2, _⟩
    · rw [(Value.slice.inj e2).1] at e; cases e
    · rw [(Value.slice.inj e2).1] at e
      cases e
      omega)
  have HFB1 := hide (build_low (unhide HFB) b1)
  have HB1 := hide (low_trans (unhide HB0) b1)
  have HDY := hide ((unhide HD).perm hp)
  have HPR := hide (And.intro hp hri)
  have HRB := hide hrb
  have HLN := hide hlen
  rw [hlen] at hrc ⊢
  clear hp hri hrow b1 hrb hlen HBN HD HFB HB0 HW1
  go_wp2
  go_loopw [5, 9] (fun _ v9 wr => ∃ i : Nat, i ≤ n ∧ v9 = .int .i64 (i : Int) ∧ Lib.IsBuilder 119 5 w.heap.size w.heap.size (Lib.byteCells (linesF dat (ys.take i))) wr ∧ (ys = [] ∨ ∃ g cur, ra = some ⟨g, 0, none⟩ ∧ wr.heap[g]? = some (.cells cur 56 (0, 0)) ∧ ∀ j, j < ys.length * 2 → cur[j]? = (flsV ys)[j]?) ∧ Below w.heap.size w wr) (fun _ v9 _ => n - (intOf v9).toNat)
  case atStart => exact ⟨0, Nat.zero_le _, rfl, unhide HFB1, unhide HRB, unhide HB1⟩
  case round =>
    rename World => wr
    obtain ⟨i, hin, rfl, hbd, hrb, hbw⟩ := hrel
    clear HFB1
    by_cases hlt : i < n
    · have hil : i < ys.length := by rw [unhide HLN]; exact hlt
      obtain ⟨x, hx⟩ : ∃ x, ys[i] = x := ⟨_, rfl⟩
      have hmem : x ∈ ys := by rw [← hx]; exact List.getElem_mem hil
      have hDY := (unhide HDY).low hbw
      obtain ⟨RB, cur, hra, hblk, hcur⟩ : ∃ g cur, ra = some ⟨g, 0, none⟩ ∧ wr.heap[g]? = some (.cells cur 56 (0, 0)) ∧ ∀ j, j < ys.length * 2 → cur[j]? = (flsV ys)[j]? := by
        rcases hrb with e | h
        · rw [e] at hil; simp at hil
        · exact h
      have hRBg := unhide HGB RB hra
      subst hra
      have g0 := flsV_get ys (i * 2) (by omega)
      have g1 := flsV_get ys (i * 2 + 1) (by omega)
      have hx2 : ys.toArray[i]! = x := by rw [getElem!_pos ys.toArray i (by simpa using hil)]; simpa using hx
      rw [show i * 2 / 2 = i by omega, show i * 2 % 2 = 0 by omega, hx2] at g0
      rw [show (i * 2 + 1) / 2 = i by omega, show (i * 2 + 1) % 2 = 1 by omega, hx2] at g1
      have k0 : wr.cell? ⟨RB, i * 2, none⟩ = some (.string (ba x.nm)) := by rw [Lib.cell_of_heap hblk, hcur _ (by omega)]; exact g0
      have k1 : wr.cell? ⟨RB, i * 2 + 1, none⟩ = some (.slice x.a x.n x.c) := by rw [Lib.cell_of_heap hblk, hcur _ (by omega)]; exact g1
      have hsn := linesF_snoc (dat := dat) hil
      rw [hx] at hsn
      have hll := linesG_len (unhide HDY) i (by omega)
      have d1 := hDY.len x hmem
      have d2 := hDY.few x hmem
      have d3 := hDY.cap x hmem
      have d4 := hDY.capm x hmem
      have d5 := hDY.form x hmem
      have d6 := hDY.at_ x hmem
      have d7 := hDY.nm x hmem
      obtain ⟨d, hd⟩ : ∃ d, dat x = d := ⟨_, rfl⟩
      rw [hd] at d1 d6 hsn
      obtain ⟨xn, xa, xl, xc⟩ := x
      simp only at k0 k1 d1 d2 d3 d4 d5 d6 d7 hsn
      obtain ⟨LS, hLS⟩ : ∃ LS, linesF dat (ys.take i) = LS := ⟨_, rfl⟩
      rw [hLS] at hsn hll hbd
      obtain ⟨W4, hW4⟩ : ∃ W4, wr.alloc (.cells #[.string (ba xn), .slice xa xl xc] 56) = W4 := ⟨_, rfl⟩
      have b4 : Below wr.heap.size wr W4 := by rw [← hW4]; exact (Below.refl _ _).alloc (Nat.le_refl _) _
      have q4 : Blk W4 wr.heap.size #[.string (ba xn), .slice xa xl xc] 56 := by rw [← hW4]; exact Blk.new _ _ _
      have hszbf : w.heap.size < wr.heap.size := by have := (Array.getElem?_eq_some_iff.1 hblk).1; omega
      obtain ⟨bf, hbf⟩ : ∃ bf, wr.heap.size = bf := ⟨_, rfl⟩
      rw [hbf] at q4
      have f0 : W4.cell? ⟨bf, 0, none⟩ = some (.string (ba xn)) := q4.cell 0
      have f1 : W4.cell? ⟨bf, 1, none⟩ = some (.slice xa xl xc) := q4.cell 1
      have HSC : Hid (∀ wx, Below W4.heap.size W4 wx → (wx.cell? ⟨bf, 0, none⟩ = some (.string (ba xn)) ∧ wx.cell? ⟨bf, 1, none⟩ = some (.slice xa xl xc))) := hide (fun wx b => ⟨(b.cell (lt_of_cell f0)).trans f0, (b.cell (lt_of_cell f1)).trans f1⟩)
      have bd4 := build_low hbd b4
      have HSHA : Hid (Calls Tryz.prog 27 #[.slice xa xl xc] W4.drew fun e w' => ∃ g cc, e = .returned (.slice (some ⟨g, 0, none⟩) 32 cc) ∧ Hid (BAt w' (some ⟨g, 0, none⟩) (shaL d) ∧ (Below W4.heap.size W4 w' ∧ Lib.IsBuilder 119 5 w.heap.size w.heap.size (Lib.byteCells LS) w')) ∧ (w'.cell? ⟨bf, 0, none⟩ = some (.string (ba xn)) ∧ w'.cell? ⟨bf, 1, none⟩ = some (.slice xa xl xc))) := hide (by
        refine (shaF_any (w := W4.drew) d1 (by omega) d3 d4 d5 ((d6.low b4).low (Below.refl _ _).drew)).mono ?_
        rintro e w' ⟨v, rfl, o, b⟩
        have bb : Below W4.heap.size W4 w' := (Below.refl _ _).drew.trans b
        obtain ⟨g, cc, rfl, hat, _⟩ := OwnB.adr o (shaL_len d)
        exact ⟨g, cc, rfl, hide ⟨hat, bb, build_low bd4 bb⟩, unhide HSC _ bb⟩)
      obtain ⟨HX2, hHX⟩ : ∃ HX2, hexL (shaL d) = HX2 := ⟨_, rfl⟩
      have hHXl : HX2.length = 64 := by rw [← hHX, hexL_len, shaL_len]
      have HHEX : Hid (∀ wx g cc, Hid (BAt wx (some ⟨g, 0, none⟩) (shaL d) ∧ (Below W4.heap.size W4 wx ∧ Lib.IsBuilder 119 5 w.heap.size w.heap.size (Lib.byteCells LS) wx)) → Calls Tryz.prog 31 #[.slice (some ⟨g, 0, none⟩) 32 cc] wx fun e w' => e = .returned (.string (ba HX2)) ∧ Hid (Below W4.heap.size W4 w' ∧ Lib.IsBuilder 119 5 w.heap.size w.heap.size (Lib.byteCells LS) w') ∧ (w'.cell? ⟨bf, 0, none⟩ = some (.string (ba xn)) ∧ w'.cell? ⟨bf, 1, none⟩ = some (.slice xa xl xc))) := hide (fun wx g cc hh => by
        obtain ⟨h1, h2, h3⟩ := unhide hh
        refine (hex_any (c := cc) (shaL_len d) (by omega) h1).mono ?_
        rintro e w' ⟨rfl, b⟩
        have bb := low_trans h2 b
        exact ⟨by rw [hHX]; rfl, hide ⟨bb, build_low h3 b⟩, unhide HSC _ bb⟩)
      obtain ⟨LN, hLN⟩ : ∃ LN, lineF xn d = LN := ⟨_, rfl⟩
      have hLNl : LN.length = xn.length + 67 := by rw [← hLN]; exact lineF_len _ _
      have c1 : ba HX2 ++ (⟨#[32, 32]⟩ : ByteArray) = ba (HX2 ++ [32, 32]) := cat _ [32, 32]
      obtain ⟨X2, hX2⟩ : ∃ X2, HX2 ++ [32, 32] = X2 := ⟨_, rfl⟩
      rw [hX2] at c1
      have c2 : ba X2 ++ ba xn = ba (X2 ++ xn) := cat _ _
      obtain ⟨X3, hX3⟩ : ∃ X3, X2 ++ xn = X3 := ⟨_, rfl⟩
      rw [hX3] at c2
      have c3 : ba X3 ++ (⟨#[10]⟩ : ByteArray) = ba LN := by
        have := cat X3 [10]
        rw [← hLN]
        unfold lineF
        rw [hHX, ← show X3 ++ [10] = HX2 ++ (32 :: 32 :: (xn ++ [10])) by rw [← hX3, ← hX2]; simp]
        exact this
      obtain ⟨nl, hnl⟩ : ∃ nl, xn.length = nl := ⟨_, rfl⟩
      have y1 : (ba HX2).size = 64 := by rw [ba_size]; exact hHXl
      have y2 : (ba X2).size = 66 := by rw [ba_size, ← hX2, List.length_append, hHXl]; rfl
      have y3 : (ba xn).size = nl := by rw [ba_size]; exact hnl
      have y4 : (ba X3).size = 66 + nl := by rw [ba_size, ← hX3, List.length_append, ← ba_size X2, y2, hnl]
      have y5 : (ba LN).size = nl + 67 := by rw [ba_size, hLNl, hnl]
      have n1 : ¬ (9223372036854775807 < 64 + 2) := by omega
      have n2 : ¬ (9223372036854775807 < 66 + nl) := by omega
      have n3 : ¬ (9223372036854775807 < 66 + nl + 1) := by omega
      rw [hLN] at hsn
      have HWS : Hid (∀ wx, Hid (Below W4.heap.size W4 wx ∧ Lib.IsBuilder 119 5 w.heap.size w.heap.size (Lib.byteCells LS) wx) → Calls Tryz.prog 108 #[.pointer (some ⟨w.heap.size, 0, none⟩), .string (ba LN)] wx fun e w' => e = .returned (.tuple #[.int .i64 ((nl + 67 : Nat) : Int), .nilIface]) ∧ Hid (Lib.IsBuilder 119 5 w.heap.size w.heap.size (Lib.byteCells (linesF dat (ys.take (i + 1)))) w' ∧ w'.heap[RB]? = some (.cells cur 56 (0, 0)) ∧ Below w.heap.size w w') ∧ (w'.cell? ⟨bf, 0, none⟩ = some (.string (ba xn)) ∧ w'.cell? ⟨bf, 1, none⟩ = some (.slice xa xl xc))) := hide (fun wx hh => by
        obtain ⟨h2, h3⟩ := unhide hh
        have hwx : Below wr.heap.size wr wx := low_trans b4 h2
        have hsz : w.heap.size ≤ wx.heap.size := Nat.le_trans hbw.size hwx.size
        have hRBl : RB < wr.heap.size := (Array.getElem?_eq_some_iff.1 hblk).1
        have hRBx : wx.heap[RB]? = some (.cells cur 56 (0, 0)) := (hwx.block RB hRBl).trans hblk
        have hbfx : wx.heap[bf]? = some (.cells #[.string (ba xn), .slice xa xl xc] 56 (0, 0)) := (h2.block bf q4.lt).trans q4
        refine (writeString_k w.heap.size w.heap.size (Lib.byteCells LS) (ba LN) wx h3 (by rw [Lib.byteCells_length, y5]; omega) hsz).mono ?_
        rintro e w' ⟨rfl, bd, b, kp⟩
        have hRB' : w'.heap[RB]? = some (.cells cur 56 (0, 0)) := (kp RB (Array.getElem?_eq_some_iff.1 hRBx).1 (by omega) (fun cs fr e => by rw [hRBx] at e; simp at e)).trans hRBx
        have hbf' : w'.heap[bf]? = some (.cells #[.string (ba xn), .slice xa xl xc] 56 (0, 0)) := (kp bf (Array.getElem?_eq_some_iff.1 hbfx).1 (by omega) (fun cs fr e => by rw [hbfx] at e; simp at e)).trans hbfx
        refine ⟨by rw [y5], hide ⟨?_, hRB', hbw.trans ((hwx.mono hbw.size).trans b)⟩, Lib.cell_of_heap hbf' 0, Lib.cell_of_heap hbf' 1⟩
        have e2 : Lib.byteCells LS ++ Lib.strCells (ba LN) = Lib.byteCells (linesF dat (ys.take (i + 1))) := by rw [hsn, Lib.byteCells_append]; rfl
        rw [e2] at bd
        exact Or.inr bd)
      have hS4 := unhide HSC _ (Below.refl _ _)
      have HW4 := hide hW4
      have HBF := hide hbf
      have HCU := hide hcur
      have hnl2 : nl ≤ 100000 := by rw [← hnl]; exact d7
      clear hbd hrb hbw hil hx hmem hDY hRBg hblk hcur g0 g1 hx2 hsn hll d1 d2 d3 d4 d5 d6 d7 hd hLS hW4 b4 q4 hbf f0 f1 bd4 hHX hHXl hLN hLNl hX2 hX3 hnl hszbf
      go_wp2
      rw [unhide HW4, unhide HBF]
      go_region_held3 (fun wx => (wx.cell? ⟨bf, 0, none⟩ = some (.string (ba xn)) ∧ wx.cell? ⟨bf, 1, none⟩ = some (.slice xa xl xc)))
        (first | assumption | exact hS4 | go_keep)
        ((first | (go_at_call 27; refine (unhide HSHA).mono ?_; rintro e w5 ⟨g5, c5, rfl, hv5, hS5⟩) | (go_at_call 31; revert hv5; intro hv5; refine (unhide HHEX _ _ _ hv5).mono ?_; rintro e w6 ⟨rfl, hv6, hS6⟩) | (go_at_call 108; revert hv6; intro hv6; refine (unhide HWS _ hv6).mono ?_; rintro e w7 ⟨rfl, hv7, hS7⟩)))
      have HV7 := hv7
      clear hv7 hv6 hv5
      go_wp2
      go_roundw
      case rel => exact ⟨i + 1, hlt, by push_cast; rfl, (unhide HV7).1, Or.inr ⟨RB, cur, rfl, (unhide HV7).2.1, unhide HCU⟩, (unhide HV7).2.2⟩
      case measure => simp [intOf]; omega
    · have hie : i = n := by omega
      subst hie
      rw [List.take_of_length_le (by rw [unhide HLN]; exact Nat.le_refl _)] at hbd
      have hll := linesG_len (unhide HDY) i (by rw [unhide HLN]; exact Nat.le_refl _)
      rw [List.take_of_length_le (by rw [unhide HLN]; exact Nat.le_refl _)] at hll
      have HST := hide (Tryz.Builder_String_any _ _ _ wr hbd hbw.size)
      obtain ⟨LS, hLS⟩ : ∃ LS, linesF dat ys = LS := ⟨_, rfl⟩
      rw [hLS] at HST hll
      have HLS := hide hLS
      have HBW := hide hbw
      clear hbd hbw hrb hLS
      go_wp2_with (go_at_call 81; fail)
      refine (unhide HST).mono ?_
      rintro e w2 ⟨rfl, hb2⟩
      obtain ⟨cap, w3, hcv, hat3, hc3, hm3, hb3⟩ := conv_str w2 LS (by omega)
      have HB3 := hide (((unhide HBW).trans hb2).trans (hb3.mono (Nat.le_trans (unhide HBW).size hb2.size)))
      have HSH := hide (sha_any (c := cap) rfl (by omega) hc3 (by unfold maxLen at hm3; omega) (Or.inr ⟨_, _, rfl⟩) hat3)
      have hcv2 : (convert 9 23 (.string ⟨LS.toArray⟩)).run Tryz.prog w2 = .ok (.slice (some ⟨w2.heap.size, 0, none⟩) LS.length cap) w3 := hcv
      clear hb2 hat3 hb3 hcv hc3 hm3
      go_wp2_with (go_at_call 27; fail)
      refine (unhide HSH).mono ?_
      rintro e w4 ⟨v4, rfl, o4, b4⟩
      obtain ⟨g4, c4, rfl, hat4, hc4, _⟩ := OwnB.adr o4 (shaL_len LS)
      have HB4 := hide ((unhide HB3).trans (b4.mono (unhide HB3).size))
      have HB6 := hide (base64_any (c := c4) (shaL_len LS) (by omega) hc4 hat4)
      obtain ⟨T, hT⟩ : ∃ T, b64 (shaL LS) = T := ⟨_, rfl⟩
      rw [hT] at HB6
      have hTl : T.length ≤ 44 := by rw [← hT]; exact b64_len 11 _ (by rw [shaL_len]; omega)
      have ct : (⟨#[104, 49, 58]⟩ : ByteArray) ++ ba T = ba (sumF dat ys) := by
        have := cat [104, 49, 58] T
        unfold sumF
        rw [unhide HLS, hT]
        exact this
      obtain ⟨tl, htl⟩ : ∃ tl, T.length = tl := ⟨_, rfl⟩
      have y1 : (ba T).size = tl := by rw [ba_size]; exact htl
      have n1 : ¬ (9223372036854775807 < 3 + tl) := by omega
      have ct2 : (⟨#[104, 49, 58]⟩ : ByteArray) ++ (⟨T.toArray⟩ : ByteArray) = ba (sumF dat ys) := ct
      have y2 : (⟨T.toArray⟩ : ByteArray).size = tl := y1
      clear o4 b4 hat4 hT htl
      go_wp2_with (go_at_call 25; fail)
      refine (unhide HB6).mono ?_
      rintro e w5 ⟨rfl, b5⟩
      have HB5 := hide ((unhide HB4).trans (b5.mono (unhide HB4).size))
      clear b5
      go_wp2
      go_ret
      exact ⟨ys, (unhide HPR).1, (unhide HPR).2, rfl, unhide HB5⟩
end Go.Proofs.YtkablmjkffdloaaGreatDoor
