/-
  Whether files have the same names and hashes: the law's loops.
-/
import Derived.Test.YtkablmjkffdloaaGreatDoorTelP
import Derived.BigRegion
import Derived.Deep.RegionHeld3
namespace Go.Proofs.YtkablmjkffdloaaGreatDoor
open Go.RowKit

def OnEx9 (n : Nat) (Post : Act → World → Prop) : Exit → Act → World → Prop
  | .exit m, a, w => m = n ∧ Post a w
  | _, _, _ => False
theorem onEx9_out {Q : Exit → Act → World → Prop} {n : Nat} : ∀ e a w, OnEx9 n (fun a w => Q (.exit n) a w) e a w → Q e a w := by
  intro e a w h
  cases e with
  | exit m => obtain ⟨rfl, h⟩ := h; exact h
  | _ => exact h.elim
theorem useEx9 {P : Program} {c : Code} {Q : Exit → Act → World → Prop} {a : Act} {w : World} (n : Nat) (h : Code.wp P c (OnEx9 n (fun a w => Q (.exit n) a w)) a w) : Code.wp P c Q a w := Code.wp_mono onEx9_out h
/-- The loops of a body, the outer ones ahead of those within them. -/
def loops9 : Code → List Code
  | .loop c => c :: loops9 c
  | .seq a b => loops9 a ++ loops9 b
  | .block _ c => loops9 c
  | .scope c => loops9 c
  | .cond _ a b => loops9 a ++ loops9 b
  | _ => []
noncomputable def loop9a : Code := ((Tryz.f9.body.map loops9).getD []).getD 0 .skip
noncomputable def loop9b : Code := ((Tryz.f9.body.map loops9).getD []).getD 1 .skip
theorem four9 {p1 p2 p3 p4 : Addr} {p q r s : Value} {w6 w w' : World} (h : (w.cell? p1 = some p ∧ w.cell? p2 = some q) ∧ (w.cell? p3 = some r ∧ w.cell? p4 = some s) ∧ Below w6.heap.size w6 w) (b : Below w.heap.size w w') : (w'.cell? p1 = some p ∧ w'.cell? p2 = some q) ∧ (w'.cell? p3 = some r ∧ w'.cell? p4 = some s) ∧ Below w6.heap.size w6 w' :=
  ⟨⟨(b.cell (lt_of_cell h.1.1)).trans h.1.1, (b.cell (lt_of_cell h.1.2)).trans h.1.2⟩, ⟨(b.cell (lt_of_cell h.2.1.1)).trans h.2.1.1, (b.cell (lt_of_cell h.2.1.2)).trans h.2.1.2⟩, low_trans h.2.2 b⟩
/-- Some file has a file's name and hash. -/
def Mat (ys : List Fl) (dx dy : Fl → Bs) (x : Fl) : Prop := ∃ y ∈ ys, y.nm = x.nm ∧ shaL (dy y) = shaL (dx x)

set_option maxRecDepth 1000000 in
set_option maxHeartbeats 8000000 in
theorem found_any {c2 c3 c4 c5 c6 c7 c8 c9 c10 c11 c12 c13 c17 c18 c19 c20 c21 c22 c23 c24 c25 c26 c27 c28 c29 c30 c31 c32 c33 c34 c35 c36 c37 c38 c39 c40 c41 c42 c43 c44 c45 c46 c47 c48 c49 c50 c51 c52 c53 c54 c55 c56 c57 c58 c59 c60 c61 c62 c63 c64 c65 c66 c67 c68 c69 c70 c71 c72 c73 c74 c75 c76 c77 c78 c79 c80 c81 c82 c83 c84 c85 c86 c87 c88 c89 c90 c91 c92 c93 c94 c95 c96 c97 c98 c99 c100 c101 c102 c103 c104 c105 c106 c107 c108 c109 c110 c111 c112 c113 c114 c115 c116 c117 c118 c119 c120 c121 c122 c123 c124 c125 c126 c127 c128 c129 c130 c131 c132 c133 c134 c135 c136 c137 c138 c139 c140 c141 c142 c143 c144 c145 c146 c147 c148 c149 c150 c151 c152 c153 c154 c155 c156 c157 c158 c159 : Value} {a b : Option Addr} {n c m d i : Nat} {xs ys : List Fl} {dx dy : Fl → Bs} {w0 wa : World} {Post : Act → World → Prop} (hx : xs.length = n) (hy : ys.length = m) (hm : m ≤ 1000) (hi : i < n) (hX : FAt w0 a xs) (hY : FAt w0 b ys) (hDX : DatG w0 xs dx) (hDY : DatG w0 ys dy) (hb0 : Below w0.heap.size w0 wa)
    (hexit : ∀ (fd : Bool) d16 d80 d81 d82 d83 d84 d85 d86 d87 d88 d89 d90 d91 d92 d93 d94 d95 d96 d97 d98 d99 d100 d101 d102 d103 d104 d105 d106 d107 d108 d109 d110 d111 d112 d113 d114 w', (fd = true → ∀ (h : i < xs.length), Mat ys dx dy xs[i]) → Below w0.heap.size w0 w' → Post ⟨(List.toArray ((.slice a n c) :: (.slice b m d) :: c2 :: c3 :: c4 :: c5 :: c6 :: c7 :: c8 :: c9 :: c10 :: c11 :: c12 :: c13 :: (.int .i64 (i : Int)) :: (.bool fd) :: d16 :: c17 :: c18 :: c19 :: c20 :: c21 :: c22 :: c23 :: c24 :: c25 :: c26 :: c27 :: c28 :: c29 :: c30 :: c31 :: c32 :: c33 :: c34 :: c35 :: c36 :: c37 :: c38 :: c39 :: c40 :: c41 :: c42 :: c43 :: c44 :: c45 :: c46 :: c47 :: c48 :: c49 :: c50 :: c51 :: c52 :: c53 :: c54 :: c55 :: c56 :: c57 :: c58 :: c59 :: c60 :: c61 :: c62 :: c63 :: c64 :: c65 :: c66 :: c67 :: c68 :: c69 :: c70 :: c71 :: c72 :: c73 :: c74 :: c75 :: c76 :: c77 :: c78 :: c79 :: d80 :: d81 :: d82 :: d83 :: d84 :: d85 :: d86 :: d87 :: d88 :: d89 :: d90 :: d91 :: d92 :: d93 :: d94 :: d95 :: d96 :: d97 :: d98 :: d99 :: d100 :: d101 :: d102 :: d103 :: d104 :: d105 :: d106 :: d107 :: d108 :: d109 :: d110 :: d111 :: d112 :: d113 :: d114 :: c115 :: c116 :: c117 :: c118 :: c119 :: c120 :: c121 :: c122 :: c123 :: c124 :: c125 :: c126 :: c127 :: c128 :: c129 :: c130 :: c131 :: c132 :: c133 :: c134 :: c135 :: c136 :: c137 :: c138 :: c139 :: c140 :: c141 :: c142 :: c143 :: c144 :: c145 :: c146 :: c147 :: c148 :: c149 :: c150 :: c151 :: c152 :: c153 :: c154 :: c155 :: c156 :: c157 :: c158 :: c159 :: [])), []⟩ w') :
    Code.wp Tryz.prog (Code.loop loop9b) (OnEx9 2 Post) ⟨(List.toArray ((.slice a n c) :: (.slice b m d) :: c2 :: c3 :: c4 :: c5 :: c6 :: c7 :: c8 :: c9 :: c10 :: c11 :: c12 :: c13 :: (.int .i64 (i : Int)) :: (.bool false) :: (.int .i64 0) :: c17 :: c18 :: c19 :: c20 :: c21 :: c22 :: c23 :: c24 :: c25 :: c26 :: c27 :: c28 :: c29 :: c30 :: c31 :: c32 :: c33 :: c34 :: c35 :: c36 :: c37 :: c38 :: c39 :: c40 :: c41 :: c42 :: c43 :: c44 :: c45 :: c46 :: c47 :: c48 :: c49 :: c50 :: c51 :: c52 :: c53 :: c54 :: c55 :: c56 :: c57 :: c58 :: c59 :: c60 :: c61 :: c62 :: c63 :: c64 :: c65 :: c66 :: c67 :: c68 :: c69 :: c70 :: c71 :: c72 :: c73 :: c74 :: c75 :: c76 :: c77 :: c78 :: c79 :: c80 :: c81 :: c82 :: c83 :: c84 :: c85 :: c86 :: c87 :: c88 :: c89 :: c90 :: c91 :: c92 :: c93 :: c94 :: c95 :: c96 :: c97 :: c98 :: c99 :: c100 :: c101 :: c102 :: c103 :: c104 :: c105 :: c106 :: c107 :: c108 :: c109 :: c110 :: c111 :: c112 :: c113 :: c114 :: c115 :: c116 :: c117 :: c118 :: c119 :: c120 :: c121 :: c122 :: c123 :: c124 :: c125 :: c126 :: c127 :: c128 :: c129 :: c130 :: c131 :: c132 :: c133 :: c134 :: c135 :: c136 :: c137 :: c138 :: c139 :: c140 :: c141 :: c142 :: c143 :: c144 :: c145 :: c146 :: c147 :: c148 :: c149 :: c150 :: c151 :: c152 :: c153 :: c154 :: c155 :: c156 :: c157 :: c158 :: c159 :: [])), []⟩ wa := by
  have HE := hide hexit
  have HXN := hide hx
  have HYN := hide hy
  have HX := hide hX
  have HY := hide hY
  have HDX := hide hDX
  have HDY := hide hDY
  have HB0 := hide hb0
  clear hexit hx hy hX hY hDX hDY hb0
  conv => arg 2; arg 1; whnf
  go_loopw [15, 16] (fun v15 v16 wr => ∃ (j : Nat) (fd : Bool), j ≤ m ∧ v16 = .int .i64 (j : Int) ∧ v15 = .bool fd ∧ Hid (fd = true → ∀ (h : i < xs.length), Mat ys dx dy xs[i]) ∧ Below w0.heap.size w0 wr) (fun _ v16 _ => m - (intOf v16).toNat)
  case atStart => exact ⟨0, false, Nat.zero_le _, rfl, rfl, hide (fun h => by cases h), unhide HB0⟩
  case round =>
    rename World => wr
    obtain ⟨j, fd, hj, rfl, rfl, hf, hbw⟩ := hrel
    by_cases hlt : j < m
    · have hlt' : (j : Int) < (m : Int) := by omega
      have hil : i < xs.length := by rw [unhide HXN]; exact hi
      have hjl : j < ys.length := by rw [unhide HYN]; exact hlt
      have hi' : (i : Int) < (n : Int) := by omega
      cases fd with
      | true =>
        have HF := hide (unhide hf rfl)
        have HBW := hide hbw
        clear hbw hf
        go_wp2
        go_quiet (fail)
        go_wp2
        go_roundw
        case rel => exact ⟨j + 1, true, hlt, by push_cast; rfl, rfl, hide (fun _ => unhide HF), by first | exact (unhide HBW).drewN _ | (have hh := unhide HBW; exact ⟨hh.os, hh.tape, hh.output, hh.size, hh.block⟩)⟩
        case measure => simp [intOf]; omega
      | false =>
        obtain ⟨B, O, rfl, g0, g1⟩ := ((unhide HX).low hbw).get hil
        obtain ⟨B2, O2, rfl, h0, h1⟩ := ((unhide HY).low hbw).get hjl
        have dX := (unhide HDX).low hbw
        have dY := (unhide HDY).low hbw
        have mx : xs[i] ∈ xs := List.getElem_mem hil
        have my : ys[j] ∈ ys := List.getElem_mem hjl
        have x1 := dX.len _ mx
        have x2 := dX.few _ mx
        have x3 := dX.cap _ mx
        have x4 := dX.capm _ mx
        have x5 := dX.form _ mx
        have x6 := dX.at_ _ mx
        have y1 := dY.len _ my
        have y2 := dY.few _ my
        have y3 := dY.cap _ my
        have y4 := dY.capm _ my
        have y5 := dY.form _ my
        have y6 := dY.at_ _ my
        have HMA : Hid (ys[j].nm = xs[i].nm → shaL (dy ys[j]) = shaL (dx xs[i]) → ∀ (h : i < xs.length), Mat ys dx dy xs[i]) := hide (fun e1 e2 h => ⟨ys[j], my, e1, e2⟩)
        obtain ⟨x, hxx⟩ : ∃ x, xs[i] = x := ⟨_, rfl⟩
        obtain ⟨y, hyy⟩ : ∃ y, ys[j] = y := ⟨_, rfl⟩
        rw [hxx] at g0 g1 x1 x2 x3 x4 x5 x6 HMA
        rw [hyy] at h0 h1 y1 y2 y3 y4 y5 y6 HMA
        obtain ⟨X, hXX⟩ : ∃ X, dx x = X := ⟨_, rfl⟩
        obtain ⟨Y, hYY⟩ : ∃ Y, dy y = Y := ⟨_, rfl⟩
        rw [hXX] at x1 x6 HMA
        rw [hYY] at y1 y6 HMA
        obtain ⟨nx, xa, xn, xc⟩ := x
        obtain ⟨nm, ya, yn, yc⟩ := y
        simp only at g0 g1 x1 x2 x3 x4 x5 x6 h0 h1 y1 y2 y3 y4 y5 y6
        have HBW := hide hbw
        by_cases hname : nm = nx
        · subst hname
          obtain ⟨SX, hSX⟩ : ∃ SX, shaL X = SX := ⟨_, rfl⟩
          obtain ⟨SY, hSY⟩ : ∃ SY, shaL Y = SY := ⟨_, rfl⟩
          have hSXl : SX.length = 32 := by rw [← hSX]; exact shaL_len _
          have hSYl : SY.length = 32 := by rw [← hSY]; exact shaL_len _
          rw [hSX, hSY] at HMA
          obtain ⟨ff, hff⟩ : ∃ ff, decide (SY = SX) = ff := ⟨_, rfl⟩
          have hS : ((wr.cell? ⟨B2, O2 + j * 2, none⟩ = some (.string (ba nm)) ∧ wr.cell? ⟨B2, O2 + j * 2 + 1, none⟩ = some (.slice ya yn yc)) ∧ (wr.cell? ⟨B, O + i * 2, none⟩ = some (.string (ba nm)) ∧ wr.cell? ⟨B, O + i * 2 + 1, none⟩ = some (.slice xa xn xc)) ∧ Below wr.heap.size wr wr) := ⟨⟨h0, h1⟩, ⟨g0, g1⟩, Below.refl _ _⟩
          have hSd := four9 hS (Below.refl _ _).drew
          have HA : Hid (∀ wx, ((wx.cell? ⟨B2, O2 + j * 2, none⟩ = some (.string (ba nm)) ∧ wx.cell? ⟨B2, O2 + j * 2 + 1, none⟩ = some (.slice ya yn yc)) ∧ (wx.cell? ⟨B, O + i * 2, none⟩ = some (.string (ba nm)) ∧ wx.cell? ⟨B, O + i * 2 + 1, none⟩ = some (.slice xa xn xc)) ∧ Below wr.heap.size wr wx) → Calls Tryz.prog 27 #[.slice ya yn yc] wx fun e w' => ∃ g cap, e = .returned (.slice (some ⟨g, 0, none⟩) 32 cap) ∧ Hid (BAt w' (some ⟨g, 0, none⟩) SY) ∧ ((w'.cell? ⟨B2, O2 + j * 2, none⟩ = some (.string (ba nm)) ∧ w'.cell? ⟨B2, O2 + j * 2 + 1, none⟩ = some (.slice ya yn yc)) ∧ (w'.cell? ⟨B, O + i * 2, none⟩ = some (.string (ba nm)) ∧ w'.cell? ⟨B, O + i * 2 + 1, none⟩ = some (.slice xa xn xc)) ∧ Below wr.heap.size wr w')) := hide (fun wx hx => by
            refine (shaF_any y1 (by omega) y3 y4 y5 (y6.low hx.2.2)).mono ?_
            rintro e w' ⟨v, rfl, o, b⟩
            rw [hSY] at o
            obtain ⟨g, cap, rfl, hat, -, -⟩ := OwnB.adr o hSYl
            exact ⟨g, cap, rfl, hide hat, four9 hx b⟩)
          have HA2 : Hid (∀ wx gx, ((wx.cell? ⟨B2, O2 + j * 2, none⟩ = some (.string (ba nm)) ∧ wx.cell? ⟨B2, O2 + j * 2 + 1, none⟩ = some (.slice ya yn yc)) ∧ (wx.cell? ⟨B, O + i * 2, none⟩ = some (.string (ba nm)) ∧ wx.cell? ⟨B, O + i * 2 + 1, none⟩ = some (.slice xa xn xc)) ∧ Below wr.heap.size wr wx) → Hid (BAt wx (some ⟨gx, 0, none⟩) SX) → Calls Tryz.prog 27 #[.slice ya yn yc] wx fun e w' => ∃ g cap, e = .returned (.slice (some ⟨g, 0, none⟩) 32 cap) ∧ Hid (BAt w' (some ⟨g, 0, none⟩) SY) ∧ Hid (BAt w' (some ⟨gx, 0, none⟩) SX) ∧ ((w'.cell? ⟨B2, O2 + j * 2, none⟩ = some (.string (ba nm)) ∧ w'.cell? ⟨B2, O2 + j * 2 + 1, none⟩ = some (.slice ya yn yc)) ∧ (w'.cell? ⟨B, O + i * 2, none⟩ = some (.string (ba nm)) ∧ w'.cell? ⟨B, O + i * 2 + 1, none⟩ = some (.slice xa xn xc)) ∧ Below wr.heap.size wr w')) := hide (fun wx gx hx hv => by
            refine (shaF_any y1 (by omega) y3 y4 y5 (y6.low hx.2.2)).mono ?_
            rintro e w' ⟨v, rfl, o, b⟩
            rw [hSY] at o
            obtain ⟨g, cap, rfl, hat, -, -⟩ := OwnB.adr o hSYl
            exact ⟨g, cap, rfl, hide hat, hide ((unhide hv).low b), four9 hx b⟩)
          have HB : Hid (∀ wx, ((wx.cell? ⟨B2, O2 + j * 2, none⟩ = some (.string (ba nm)) ∧ wx.cell? ⟨B2, O2 + j * 2 + 1, none⟩ = some (.slice ya yn yc)) ∧ (wx.cell? ⟨B, O + i * 2, none⟩ = some (.string (ba nm)) ∧ wx.cell? ⟨B, O + i * 2 + 1, none⟩ = some (.slice xa xn xc)) ∧ Below wr.heap.size wr wx) → Calls Tryz.prog 27 #[.slice xa xn xc] wx fun e w' => ∃ g cap, e = .returned (.slice (some ⟨g, 0, none⟩) 32 cap) ∧ Hid (BAt w' (some ⟨g, 0, none⟩) SX) ∧ ((w'.cell? ⟨B2, O2 + j * 2, none⟩ = some (.string (ba nm)) ∧ w'.cell? ⟨B2, O2 + j * 2 + 1, none⟩ = some (.slice ya yn yc)) ∧ (w'.cell? ⟨B, O + i * 2, none⟩ = some (.string (ba nm)) ∧ w'.cell? ⟨B, O + i * 2 + 1, none⟩ = some (.slice xa xn xc)) ∧ Below wr.heap.size wr w')) := hide (fun wx hx => by
            refine (shaF_any x1 (by omega) x3 x4 x5 (x6.low hx.2.2)).mono ?_
            rintro e w' ⟨v, rfl, o, b⟩
            rw [hSX] at o
            obtain ⟨g, cap, rfl, hat, -, -⟩ := OwnB.adr o hSXl
            exact ⟨g, cap, rfl, hide hat, four9 hx b⟩)
          have HB2 : Hid (∀ wx gx, ((wx.cell? ⟨B2, O2 + j * 2, none⟩ = some (.string (ba nm)) ∧ wx.cell? ⟨B2, O2 + j * 2 + 1, none⟩ = some (.slice ya yn yc)) ∧ (wx.cell? ⟨B, O + i * 2, none⟩ = some (.string (ba nm)) ∧ wx.cell? ⟨B, O + i * 2 + 1, none⟩ = some (.slice xa xn xc)) ∧ Below wr.heap.size wr wx) → Hid (BAt wx (some ⟨gx, 0, none⟩) SY) → Calls Tryz.prog 27 #[.slice xa xn xc] wx fun e w' => ∃ g cap, e = .returned (.slice (some ⟨g, 0, none⟩) 32 cap) ∧ Hid (BAt w' (some ⟨g, 0, none⟩) SX) ∧ Hid (BAt w' (some ⟨gx, 0, none⟩) SY) ∧ ((w'.cell? ⟨B2, O2 + j * 2, none⟩ = some (.string (ba nm)) ∧ w'.cell? ⟨B2, O2 + j * 2 + 1, none⟩ = some (.slice ya yn yc)) ∧ (w'.cell? ⟨B, O + i * 2, none⟩ = some (.string (ba nm)) ∧ w'.cell? ⟨B, O + i * 2 + 1, none⟩ = some (.slice xa xn xc)) ∧ Below wr.heap.size wr w')) := hide (fun wx gx hx hv => by
            refine (shaF_any x1 (by omega) x3 x4 x5 (x6.low hx.2.2)).mono ?_
            rintro e w' ⟨v, rfl, o, b⟩
            rw [hSX] at o
            obtain ⟨g, cap, rfl, hat, -, -⟩ := OwnB.adr o hSXl
            exact ⟨g, cap, rfl, hide hat, hide ((unhide hv).low b), four9 hx b⟩)
          have H23 : Hid (∀ wx g1 c1 g2 c2, ((wx.cell? ⟨B2, O2 + j * 2, none⟩ = some (.string (ba nm)) ∧ wx.cell? ⟨B2, O2 + j * 2 + 1, none⟩ = some (.slice ya yn yc)) ∧ (wx.cell? ⟨B, O + i * 2, none⟩ = some (.string (ba nm)) ∧ wx.cell? ⟨B, O + i * 2 + 1, none⟩ = some (.slice xa xn xc)) ∧ Below wr.heap.size wr wx) → Hid (BAt wx (some ⟨g1, 0, none⟩) SY) → Hid (BAt wx (some ⟨g2, 0, none⟩) SX) → Calls Tryz.prog 23 #[.slice (some ⟨g1, 0, none⟩) 32 c1, .slice (some ⟨g2, 0, none⟩) 32 c2] wx fun e w' => e = .returned (.bool ff) ∧ ((w'.cell? ⟨B2, O2 + j * 2, none⟩ = some (.string (ba nm)) ∧ w'.cell? ⟨B2, O2 + j * 2 + 1, none⟩ = some (.slice ya yn yc)) ∧ (w'.cell? ⟨B, O + i * 2, none⟩ = some (.string (ba nm)) ∧ w'.cell? ⟨B, O + i * 2 + 1, none⟩ = some (.slice xa xn xc)) ∧ Below wr.heap.size wr w')) := hide (fun wx g1 c1 g2 c2 hx hv hu => by
            have kk := sameBytes_any (w := wx) (c := c1) (c2 := c2) hSYl hSXl (by omega) (by omega) (unhide hv) (unhide hu)
            rw [hff] at kk
            refine kk.mono ?_
            rintro e w' ⟨rfl, q, hw⟩
            exact ⟨rfl, four9 hx (by rw [hw]; exact low_q _)⟩)
          have hq : ((ba nm).toList == (ba nm).toList) = true := by simp
          have HFF := hide hff
          clear hff hSX hSY hSXl hSYl x1 x2 x3 x4 x5 x6 y1 y2 y3 y4 y5 y6 dX dY mx my hxx hyy hXX hYY hbw hf
          go_wp2
          go_region_held3 (fun wx => ((wx.cell? ⟨B2, O2 + j * 2, none⟩ = some (.string (ba nm)) ∧ wx.cell? ⟨B2, O2 + j * 2 + 1, none⟩ = some (.slice ya yn yc)) ∧ (wx.cell? ⟨B, O + i * 2, none⟩ = some (.string (ba nm)) ∧ wx.cell? ⟨B, O + i * 2 + 1, none⟩ = some (.slice xa xn xc)) ∧ Below wr.heap.size wr wx))
            (first | assumption | exact hS | exact hSd)
            (first
              | (go_at_call_of 27 (Value.slice ya yn yc); first
                  | (revert hvX; intro hvX; refine (unhide HA2 _ _ (by assumption) hvX).mono ?_; rintro e w9 ⟨g9, c9, rfl, hvY, hvX, hS9⟩)
                  | (refine (unhide HA _ (by assumption)).mono ?_; rintro e w9 ⟨g9, c9, rfl, hvY, hS9⟩))
              | (go_at_call_of 27 (Value.slice xa xn xc); first
                  | (revert hvY; intro hvY; refine (unhide HB2 _ _ (by assumption) hvY).mono ?_; rintro e w9 ⟨g8, c8, rfl, hvX, hvY, hS9⟩)
                  | (refine (unhide HB _ (by assumption)).mono ?_; rintro e w9 ⟨g8, c8, rfl, hvX, hS9⟩))
              | (go_at_call 23; revert hvX hvY; intro hvX hvY; refine (unhide H23 _ _ _ _ _ (by assumption) hvY hvX).mono ?_; rintro e w9 ⟨rfl, hS9⟩))
          all_goals
            have HB9 : Hid (Below w0.heap.size w0 w9) := hide (low_trans (unhide HBW) hS9.2.2)
            have HF : Hid (ff = true → ∀ (h : i < xs.length), Mat ys dx dy xs[i]) := hide (fun h => unhide HMA (by first | trivial | rfl) (of_decide_eq_true (by rw [unhide HFF]; exact h)))
            clear hS hSd hS9 hvX hvY g0 g1 h0 h1
            go_wp2
            go_roundw
            case rel => exact ⟨j + 1, ff, hlt, by push_cast; rfl, rfl, HF, unhide HB9⟩
            case measure => simp [intOf]; omega
        · have hq : ((ba nm).toList == (ba nx).toList) = false := by rw [Lib.toList_data (ba nx), ba_data, str_eq]; exact decide_eq_false hname
          clear x1 x2 x3 x4 x5 x6 y1 y2 y3 y4 y5 y6 dX dY mx my hxx hyy hXX hYY hbw hf
          go_wp2
          go_quiet (fail)
          go_wp2
          go_roundw
          case rel => exact ⟨j + 1, false, hlt, by push_cast; rfl, rfl, hide (fun h => by cases h), by first | exact (unhide HBW).drewN _ | (have hh := unhide HBW; exact ⟨hh.os, hh.tape, hh.output, hh.size, hh.block⟩)⟩
          case measure => simp [intOf]; omega
    · have hje : j = m := by omega
      subst hje
      have HF := hide (unhide HE fd)
      have HG := hide (unhide hf)
      have HBW := hide hbw
      clear hbw hf
      go_wp2
      exact ⟨rfl, unhide HF _ _ _ _ _ _ _ _ _ _ _ _ _ _ _ _ _ _ _ _ _ _ _ _ _ _ _ _ _ _ _ _ _ _ _ _ wr (unhide HG) (unhide HBW)⟩

set_option maxRecDepth 1000000 in
set_option maxHeartbeats 8000000 in
theorem match_any {c2 c3 c4 c5 c6 c7 c8 c9 c10 c11 c12 c15 c16 c17 c18 c19 c20 c21 c22 c23 c24 c25 c26 c27 c28 c29 c30 c31 c32 c33 c34 c35 c36 c37 c38 c39 c40 c41 c42 c43 c44 c45 c46 c47 c48 c49 c50 c51 c52 c53 c54 c55 c56 c57 c58 c59 c60 c61 c62 c63 c64 c65 c66 c67 c68 c69 c70 c71 c72 c73 c74 c75 c76 c77 c78 c79 c80 c81 c82 c83 c84 c85 c86 c87 c88 c89 c90 c91 c92 c93 c94 c95 c96 c97 c98 c99 c100 c101 c102 c103 c104 c105 c106 c107 c108 c109 c110 c111 c112 c113 c114 c115 c116 c117 c118 c119 c120 c121 c122 c123 c124 c125 c126 c127 c128 c129 c130 c131 c132 c133 c134 c135 c136 c137 c138 c139 c140 c141 c142 c143 c144 c145 c146 c147 c148 c149 c150 c151 c152 c153 c154 c155 c156 c157 c158 c159 : Value} {s0 : Bool} {a b : Option Addr} {n c m d : Nat} {xs ys : List Fl} {dx dy : Fl → Bs} {w0 wa : World} {Post : Act → World → Prop} (hx : xs.length = n) (hy : ys.length = m) (hn : n ≤ 1000) (hm : m ≤ 1000) (hX : FAt w0 a xs) (hY : FAt w0 b ys) (hDX : DatG w0 xs dx) (hDY : DatG w0 ys dy) (hb0 : Below w0.heap.size w0 wa)
    (hexit : ∀ (s : Bool) d14 d15 d16 d71 d72 d73 d74 d75 d76 d77 d78 d79 d80 d81 d82 d83 d84 d85 d86 d87 d88 d89 d90 d91 d92 d93 d94 d95 d96 d97 d98 d99 d100 d101 d102 d103 d104 d105 d106 d107 d108 d109 d110 d111 d112 d113 d114 d115 w', (s = true → s0 = true ∧ ∀ x ∈ xs, Mat ys dx dy x) → Below w0.heap.size w0 w' → Post ⟨(List.toArray ((.slice a n c) :: (.slice b m d) :: c2 :: c3 :: c4 :: c5 :: c6 :: c7 :: c8 :: c9 :: c10 :: c11 :: c12 :: (.bool s) :: d14 :: d15 :: d16 :: c17 :: c18 :: c19 :: c20 :: c21 :: c22 :: c23 :: c24 :: c25 :: c26 :: c27 :: c28 :: c29 :: c30 :: c31 :: c32 :: c33 :: c34 :: c35 :: c36 :: c37 :: c38 :: c39 :: c40 :: c41 :: c42 :: c43 :: c44 :: c45 :: c46 :: c47 :: c48 :: c49 :: c50 :: c51 :: c52 :: c53 :: c54 :: c55 :: c56 :: c57 :: c58 :: c59 :: c60 :: c61 :: c62 :: c63 :: c64 :: c65 :: c66 :: c67 :: c68 :: c69 :: c70 :: d71 :: d72 :: d73 :: d74 :: d75 :: d76 :: d77 :: d78 :: d79 :: d80 :: d81 :: d82 :: d83 :: d84 :: d85 :: d86 :: d87 :: d88 :: d89 :: d90 :: d91 :: d92 :: d93 :: d94 :: d95 :: d96 :: d97 :: d98 :: d99 :: d100 :: d101 :: d102 :: d103 :: d104 :: d105 :: d106 :: d107 :: d108 :: d109 :: d110 :: d111 :: d112 :: d113 :: d114 :: d115 :: c116 :: c117 :: c118 :: c119 :: c120 :: c121 :: c122 :: c123 :: c124 :: c125 :: c126 :: c127 :: c128 :: c129 :: c130 :: c131 :: c132 :: c133 :: c134 :: c135 :: c136 :: c137 :: c138 :: c139 :: c140 :: c141 :: c142 :: c143 :: c144 :: c145 :: c146 :: c147 :: c148 :: c149 :: c150 :: c151 :: c152 :: c153 :: c154 :: c155 :: c156 :: c157 :: c158 :: c159 :: [])), []⟩ w') :
    Code.wp Tryz.prog (Code.loop loop9a) (OnEx9 0 Post) ⟨(List.toArray ((.slice a n c) :: (.slice b m d) :: c2 :: c3 :: c4 :: c5 :: c6 :: c7 :: c8 :: c9 :: c10 :: c11 :: c12 :: (.bool s0) :: (.int .i64 0) :: c15 :: c16 :: c17 :: c18 :: c19 :: c20 :: c21 :: c22 :: c23 :: c24 :: c25 :: c26 :: c27 :: c28 :: c29 :: c30 :: c31 :: c32 :: c33 :: c34 :: c35 :: c36 :: c37 :: c38 :: c39 :: c40 :: c41 :: c42 :: c43 :: c44 :: c45 :: c46 :: c47 :: c48 :: c49 :: c50 :: c51 :: c52 :: c53 :: c54 :: c55 :: c56 :: c57 :: c58 :: c59 :: c60 :: c61 :: c62 :: c63 :: c64 :: c65 :: c66 :: c67 :: c68 :: c69 :: c70 :: c71 :: c72 :: c73 :: c74 :: c75 :: c76 :: c77 :: c78 :: c79 :: c80 :: c81 :: c82 :: c83 :: c84 :: c85 :: c86 :: c87 :: c88 :: c89 :: c90 :: c91 :: c92 :: c93 :: c94 :: c95 :: c96 :: c97 :: c98 :: c99 :: c100 :: c101 :: c102 :: c103 :: c104 :: c105 :: c106 :: c107 :: c108 :: c109 :: c110 :: c111 :: c112 :: c113 :: c114 :: c115 :: c116 :: c117 :: c118 :: c119 :: c120 :: c121 :: c122 :: c123 :: c124 :: c125 :: c126 :: c127 :: c128 :: c129 :: c130 :: c131 :: c132 :: c133 :: c134 :: c135 :: c136 :: c137 :: c138 :: c139 :: c140 :: c141 :: c142 :: c143 :: c144 :: c145 :: c146 :: c147 :: c148 :: c149 :: c150 :: c151 :: c152 :: c153 :: c154 :: c155 :: c156 :: c157 :: c158 :: c159 :: [])), []⟩ wa := by
  have HE := hide hexit
  have HXN := hide hx
  have HYN := hide hy
  have HX := hide hX
  have HY := hide hY
  have HDX := hide hDX
  have HDY := hide hDY
  have HB0 := hide hb0
  clear hexit hx hy hX hY hDX hDY hb0
  conv => arg 2; arg 1; whnf
  go_loopw [13, 14, 15, 16] (fun v13 v14 _ _ wr => ∃ (i : Nat) (s : Bool), i ≤ n ∧ v14 = .int .i64 (i : Int) ∧ v13 = .bool s ∧ Hid (s = true → s0 = true ∧ ∀ (k : Nat), k < i → ∀ (h : k < xs.length), Mat ys dx dy xs[k]) ∧ Below w0.heap.size w0 wr) (fun _ v14 _ _ _ => n - (intOf v14).toNat)
  case atStart => exact ⟨0, s0, Nat.zero_le _, rfl, rfl, hide (fun h => ⟨h, fun k hk => by omega⟩), unhide HB0⟩
  case round =>
    rename World => wr
    obtain ⟨i, s, hi, rfl, rfl, hf, hbw⟩ := hrel
    have HBW := hide hbw
    have HFI := hide (unhide hf)
    clear hbw hf
    by_cases hlt : i < n
    · have hlt' : (i : Int) < (n : Int) := by omega
      cases s with
      | false =>
        have HF := hide (unhide HE false)
        go_wp2
        exact ⟨rfl, unhide HF _ _ _ _ _ _ _ _ _ _ _ _ _ _ _ _ _ _ _ _ _ _ _ _ _ _ _ _ _ _ _ _ _ _ _ _ _ _ _ _ _ _ _ _ _ _ _ _ wr (fun h => by cases h) (unhide HBW)⟩
      | true =>
        go_wp2
        refine useEx9 2 (found_any (w0 := w0) (unhide HXN) (unhide HYN) hm hlt (unhide HX) (unhide HY) (unhide HDX) (unhide HDY) (unhide HBW) ?_)
        intro fd d16 d80 d81 d82 d83 d84 d85 d86 d87 d88 d89 d90 d91 d92 d93 d94 d95 d96 d97 d98 d99 d100 d101 d102 d103 d104 d105 d106 d107 d108 d109 d110 d111 d112 d113 d114 w2 hfd hb2
        have HF : Hid (fd = true → s0 = true ∧ ∀ (k : Nat), k < i + 1 → ∀ (h : k < xs.length), Mat ys dx dy xs[k]) := hide (fun h => ⟨(unhide HFI (by first | trivial | rfl)).1, fun k hk hkl => by
          by_cases hki : k = i
          · subst hki; exact hfd h hkl
          · exact (unhide HFI (by first | trivial | rfl)).2 k (by omega) hkl⟩)
        have HB2 := hide hb2
        clear hfd hb2
        go_wp2
        go_roundw
        case rel => exact ⟨i + 1, fd, hlt, by push_cast; rfl, rfl, HF, unhide HB2⟩
        case measure => simp [intOf]; omega
    · have hie : i = n := by omega
      subst hie
      have hlt' : ¬ (i : Int) < (i : Int) := by omega
      have HF := hide (unhide HE s)
      have HG : Hid (s = true → s0 = true ∧ ∀ x ∈ xs, Mat ys dx dy x) := hide (fun h => ⟨(unhide HFI h).1, fun x hx => by
        obtain ⟨k, hk, rfl⟩ := List.getElem_of_mem hx
        exact (unhide HFI h).2 k (by rw [unhide HXN] at hk; exact hk) hk⟩)
      go_wp2
      exact ⟨rfl, unhide HF _ _ _ _ _ _ _ _ _ _ _ _ _ _ _ _ _ _ _ _ _ _ _ _ _ _ _ _ _ _ _ _ _ _ _ _ _ _ _ _ _ _ _ _ _ _ _ _ wr (unhide HG) (unhide HBW)⟩
end Go.Proofs.YtkablmjkffdloaaGreatDoor
