/-
  What tells files apart: the law's walk.
-/
import Derived.Test.YtkablmjkffdloaaGreatDoorFlsC
import Derived.BigRegion
import Derived.Deep.RegionHeld3
import Derived.Test.YtkablmjkffdloaaGreatDoorFst
namespace Go.Proofs.YtkablmjkffdloaaGreatDoor
open Go.RowKit

theorem nmE_nodup : ∀ (l seen : List Bs), nmE seen l = 0 → l.Nodup ∧ ∀ x ∈ l, lowL x ∉ seen
  | [], _, _ => ⟨List.nodup_nil, by simp⟩
  | x :: r, seen, h => by
    simp only [nmE] at h
    split at h
    · cases h
    · split at h
      · cases h
      · rename_i h2
        obtain ⟨h3, h4⟩ := nmE_nodup r _ h
        refine ⟨List.nodup_cons.2 ⟨fun hm => (h4 x hm) (by simp), h3⟩, fun y hy => ?_⟩
        rcases List.mem_cons.1 hy with rfl | hy
        · exact h2
        · exact fun hm => h4 y hy (by simp [hm])

/-- A file's name and its bytes' hash. -/
abbrev Kh := Bs × Bs
def Stp (l : List Kh) : Prop := l.Pairwise fun a b => Lib.compareBytes a.1 b.1 < 0
theorem stp_sub : ∀ (l m : List Kh), Stp l → Stp m → (∀ x ∈ l, x ∈ m) → l.length ≤ m.length
  | [], _, _, _, _ => Nat.zero_le _
  | a :: l, [], _, _, h => by have := h a (by simp); cases this
  | a :: l, b :: m, hl, hm, h => by
    have hl' := List.pairwise_cons.1 hl
    have hm' := List.pairwise_cons.1 hm
    have self : ∀ z : Bs, ¬ Lib.compareBytes z z < 0 := fun z => by rw [orders_bytes.self]; omega
    by_cases hab : a = b
    · subst hab
      have := stp_sub l m hl'.2 hm'.2 (fun x hx => by
        rcases List.mem_cons.1 (h x (by simp [hx])) with rfl | h1
        · exact absurd (hl'.1 x hx) (self _)
        · exact h1)
      simp
      omega
    · have ha : a ∈ m := by
        rcases List.mem_cons.1 (h a (by simp)) with h1 | h1
        · exact absurd h1 hab
        · exact h1
      have hba := hm'.1 a ha
      have := stp_sub (a :: l) m hl hm'.2 (fun x hx => by
        rcases List.mem_cons.1 (h x hx) with rfl | h1
        · exfalso
          rcases List.mem_cons.1 hx with h2 | h2
          · exact hab h2.symm
          · exact self _ (orders_bytes.lt _ _ _ hba (hl'.1 x h2))
        · exact h1)
      simp at this ⊢
      omega
theorem stp_eq : ∀ (l m : List Kh), Stp l → Stp m → (∀ x ∈ l, x ∈ m) → l.length = m.length → l = m
  | [], [], _, _, _, _ => rfl
  | [], _ :: _, _, _, _, h => by simp at h
  | _ :: _, [], _, _, _, h => by simp at h
  | a :: l, b :: m, hl, hm, h, hlen => by
    have hl' := List.pairwise_cons.1 hl
    have hm' := List.pairwise_cons.1 hm
    have self : ∀ z : Bs, ¬ Lib.compareBytes z z < 0 := fun z => by rw [orders_bytes.self]; omega
    by_cases hab : a = b
    · subst hab
      rw [stp_eq l m hl'.2 hm'.2 (fun x hx => by
        rcases List.mem_cons.1 (h x (by simp [hx])) with rfl | h1
        · exact absurd (hl'.1 x hx) (self _)
        · exact h1) (by simpa using hlen)]
    · exfalso
      have ha : a ∈ m := by
        rcases List.mem_cons.1 (h a (by simp)) with h1 | h1
        · exact absurd h1 hab
        · exact h1
      have hba := hm'.1 a ha
      have := stp_sub (a :: l) m hl hm'.2 (fun x hx => by
        rcases List.mem_cons.1 (h x hx) with rfl | h1
        · exfalso
          rcases List.mem_cons.1 hx with h2 | h2
          · exact hab h2.symm
          · exact self _ (orders_bytes.lt _ _ _ hba (hl'.1 x h2))
        · exact h1)
      simp at this hlen
      omega
def khF (dat : Fl → Bs) (x : Fl) : Kh := (x.nm, shaL (dat x))
theorem rising_stp {l : List Fl} {dat : Fl → Bs} (hr : Rising l) (hn : (l.map Fl.nm).Nodup) : Stp (l.map (khF dat)) := by
  unfold Stp
  rw [List.pairwise_iff_getElem]
  intro i j hi hj hij
  simp at hi hj
  have h1 := hr i j hi hj hij
  have h2 := List.pairwise_iff_getElem.1 hn i j (by simpa using hi) (by simpa using hj) hij
  simp only [List.getElem_map] at h2 ⊢
  unfold cmpN at h1
  have t := orders_bytes.turn l[i].nm l[j].nm
  have h3 : Lib.compareBytes l[i].nm l[j].nm ≠ 0 := fun e => h2 ((orders_bytes.eq _ _).1 e)
  show Lib.compareBytes l[i].nm l[j].nm < 0
  omega
theorem lines_kh (dat : Fl → Bs) (l : List Fl) : linesF dat l = (l.map (khF dat)).flatMap fun p => hexL p.2 ++ (32 :: 32 :: (p.1 ++ [10])) := by
  unfold linesF
  rw [List.flatMap_map]
  rfl
theorem sums_same {xs ys xs' ys' : List Fl} {dx dy : Fl → Bs} (hx : nmE [] (xs.map Fl.nm) = 0) (hy : nmE [] (ys.map Fl.nm) = 0) (hp : xs'.Perm xs) (hq : ys'.Perm ys) (rx : Rising xs') (ry : Rising ys') (hl : xs.length = ys.length) (hm : ∀ x ∈ xs, ∃ y ∈ ys, y.nm = x.nm ∧ shaL (dy y) = shaL (dx x)) : sumF dx xs' = sumF dy ys' := by
  have nx : (xs'.map Fl.nm).Nodup := (hp.map Fl.nm).nodup_iff.2 (nmE_nodup _ _ hx).1
  have ny : (ys'.map Fl.nm).Nodup := (hq.map Fl.nm).nodup_iff.2 (nmE_nodup _ _ hy).1
  have e := stp_eq _ _ (rising_stp (dat := dx) rx nx) (rising_stp (dat := dy) ry ny) (fun p hp2 => by
    obtain ⟨x, hx2, rfl⟩ := List.mem_map.1 hp2
    obtain ⟨y, hy2, e1, e2⟩ := hm x (hp.mem_iff.1 hx2)
    exact List.mem_map.2 ⟨y, hq.mem_iff.2 hy2, by unfold khF; rw [e1, e2]⟩) (by rw [List.length_map, List.length_map, hp.length_eq, hq.length_eq, hl])
  unfold sumF
  rw [lines_kh, lines_kh, e]
end Go.Proofs.YtkablmjkffdloaaGreatDoor

namespace Go.Proofs.YtkablmjkffdloaaGreatDoor
open Go.RowKit

def OnEx9 (n : Nat) (Post : Act → World → Prop) : Exit → Act → World → Prop
  | .exit m, a, w => m = n ∧ Post a w
  | _, _, _ => False
theorem onEx9_out {Q : Exit → Act → World → Prop} {n : Nat} : ∀ e a w, OnEx9 n (fun a w => Q (.exit n) a w) e a w → Q e a w := by
  intro e a w h
  cases e with
  | exit m => obtain ⟨rfl, h⟩ := h; exact h
  | _ => exact h.elim
theorem useEx9 {P : Program} {c : Code} {Q : Exit → Act → World → Prop} {a : Act} {w : World} (n : Nat) (h : Code.wp P c (OnEx9 n (fun a w => Q (.exit n) a w)) a w) : Code.wp P c Q a w := Code.wp_mono onEx9_out h
/-- The loops of a body, the outer ones ahead of those within them. -/
def loops9 : Code → List Code
  | .loop c => c :: loops9 c
  | .seq a b => loops9 a ++ loops9 b
  | .block _ c => loops9 c
  | .scope c => loops9 c
  | .cond _ a b => loops9 a ++ loops9 b
  | _ => []
noncomputable def loop9a : Code := ((Tryz.f9.body.map loops9).getD []).getD 0 .skip
noncomputable def loop9b : Code := ((Tryz.f9.body.map loops9).getD []).getD 1 .skip
theorem four9 {p1 p2 p3 p4 : Addr} {p q r s : Value} {w6 w w' : World} (h : (w.cell? p1 = some p ∧ w.cell? p2 = some q) ∧ (w.cell? p3 = some r ∧ w.cell? p4 = some s) ∧ Below w6.heap.size w6 w) (b : Below w.heap.size w w') : (w'.cell? p1 = some p ∧ w'.cell? p2 = some q) ∧ (w'.cell? p3 = some r ∧ w'.cell? p4 = some s) ∧ Below w6.heap.size w6 w' :=
  ⟨⟨(b.cell (lt_of_cell h.1.1)).trans h.1.1, (b.cell (lt_of_cell h.1.2)).trans h.1.2⟩, ⟨(b.cell (lt_of_cell h.2.1.1)).trans h.2.1.1, (b.cell (lt_of_cell h.2.1.2)).trans h.2.1.2⟩, low_trans h.2.2 b⟩
/-- Some file has a file's name and hash. -/
def Mat (ys : List Fl) (dx dy : Fl → Bs) (x : Fl) : Prop := ∃ y ∈ ys, y.nm = x.nm ∧ shaL (dy y) = shaL (dx x)

set_option maxRecDepth 1000000 in
set_option maxHeartbeats 8000000 in
theorem found_any {c2 c3 c4 c5 c6 c7 c8 c9 c10 c11 c12 c13 c17 c18 c19 c20 c21 c22 c23 c24 c25 c26 c27 c28 c29 c30 c31 c32 c33 c34 c35 c36 c37 c38 c39 c40 c41 c42 c43 c44 c45 c46 c47 c48 c49 c50 c51 c52 c53 c54 c55 c56 c57 c58 c59 c60 c61 c62 c63 c64 c65 c66 c67 c68 c69 c70 c71 c72 c73 c74 c75 c76 c77 c78 c79 c80 c81 c82 c83 c84 c85 c86 c87 c88 c89 c90 c91 c92 c93 c94 c95 c96 c97 c98 c99 c100 c101 c102 c103 c104 c105 c106 c107 c108 c109 c110 c111 c112 c113 c114 c115 c116 c117 c118 c119 c120 c121 c122 c123 c124 c125 c126 c127 c128 c129 c130 c131 c132 c133 c134 c135 c136 c137 c138 c139 c140 c141 c142 c143 c144 c145 c146 c147 c148 c149 c150 c151 c152 c153 c154 c155 c156 c157 c158 c159 : Value} {a b : Option Addr} {n c m d i : Nat} {xs ys : List Fl} {dx dy : Fl → Bs} {w0 wa : World} {Post : Act → World → Prop} (hx : xs.length = n) (hy : ys.length = m) (hm : m ≤ 1000) (hi : i < n) (hX : FAt w0 a xs) (hY : FAt w0 b ys) (hDX : DatG w0 xs dx) (hDY : DatG w0 ys dy) (hb0 : Below w0.heap.size w0 wa)
    (hexit : ∀ (fd : Bool) d16 d80 d81 d82 d83 d84 d85 d86 d87 d88 d89 d90 d91 d92 d93 d94 d95 d96 d97 d98 d99 d100 d101 d102 d103 d104 d105 d106 d107 d108 d109 d110 d111 d112 d113 d114 w', (fd = true → ∀ (h : i < xs.length), Mat ys dx dy xs[i]) → Below w0.heap.size w0 w' → Post ⟨(List.toArray ((.slice a n c) :: (.slice b m d) :: c2 :: c3 :: c4 :: c5 :: c6 :: c7 :: c8 :: c9 :: c10 :: c11 :: c12 :: c13 :: (.int .i64 (i : Int)) :: (.bool fd) :: d16 :: c17 :: c18 :: c19 :: c20 :: c21 :: c22 :: c23 :: c24 :: c25 :: c26 :: c27 :: c28 :: c29 :: c30 :: c31 :: c32 :: c33 :: c34 :: c35 :: c36 :: c37 :: c38 :: c39 :: c40 :: c41 :: c42 :: c43 :: c44 :: c45 :: c46 :: c47 :: c48 :: c49 :: c50 :: c51 :: c52 :: c53 :: c54 :: c55 :: c56 :: c57 :: c58 :: c59 :: c60 :: c61 :: c62 :: c63 :: c64 :: c65 :: c66 :: c67 :: c68 :: c69 :: c70 :: c71 :: c72 :: c73 :: c74 :: c75 :: c76 :: c77 :: c78 :: c79 :: d80 :: d81 :: d82 :: d83 :: d84 :: d85 :: d86 :: d87 :: d88 :: d89 :: d90 :: d91 :: d92 :: d93 :: d94 :: d95 :: d96 :: d97 :: d98 :: d99 :: d100 :: d101 :: d102 :: d103 :: d104 :: d105 :: d106 :: d107 :: d108 :: d109 :: d110 :: d111 :: d112 :: d113 :: d114 :: c115 :: c116 :: c117 :: c118 :: c119 :: c120 :: c121 :: c122 :: c123 :: c124 :: c125 :: c126 :: c127 :: c128 :: c129 :: c130 :: c131 :: c132 :: c133 :: c134 :: c135 :: c136 :: c137 :: c138 :: c139 :: c140 :: c141 :: c142 :: c143 :: c144 :: c145 :: c146 :: c147 :: c148 :: c149 :: c150 :: c151 :: c152 :: c153 :: c154 :: c155 :: c156 :: c157 :: c158 :: c159 :: [])), []⟩ w') :
    Code.wp Tryz.prog (Code.loop loop9b) (OnEx9 2 Post) ⟨(List.toArray ((.slice a n c) :: (.slice b m d) :: c2 :: c3 :: c4 :: c5 :: c6 :: c7 :: c8 :: c9 :: c10 :: c11 :: c12 :: c13 :: (.int .i64 (i : Int)) :: (.bool false) :: (.int .i64 0) :: c17 :: c18 :: c19 :: c20 :: c21 :: c22 :: c23 :: c24 :: c25 :: c26 :: c27 :: c28 :: c29 :: c30 :: c31 :: c32 :: c33 :: c34 :: c35 :: c36 :: c37 :: c38 :: c39 :: c40 :: c41 :: c42 :: c43 :: c44 :: c45 :: c46 :: c47 :: c48 :: c49 :: c50 :: c51 :: c52 :: c53 :: c54 :: c55 :: c56 :: c57 :: c58 :: c59 :: c60 :: c61 :: c62 :: c63 :: c64 :: c65 :: c66 :: c67 :: c68 :: c69 :: c70 :: c71 :: c72 :: c73 :: c74 :: c75 :: c76 :: c77 :: c78 :: c79 :: c80 :: c81 :: c82 :: c83 :: c84 :: c85 :: c86 :: c87 :: c88 :: c89 :: c90 :: c91 :: c92 :: c93 :: c94 :: c95 :: c96 :: c97 :: c98 :: c99 :: c100 :: c101 :: c102 :: c103 :: c104 :: c105 :: c106 :: c107 :: c108 :: c109 :: c110 :: c111 :: c112 :: c113 :: c114 :: c115 :: c116 :: c117 :: c118 :: c119 :: c120 :: c121 :: c122 :: c123 :: c124 :: c125 :: c126 :: c127 :: c128 :: c129 :: c130 :: c131 :: c132 :: c133 :: c134 :: c135 :: c136 :: c137 :: c138 :: c139 :: c140 :: c141 :: c142 :: c143 :: c144 :: c145 :: c146 :: c147 :: c148 :: c149 :: c150 :: c151 :: c152 :: c153 :: c154 :: c155 :: c156 :: c157 :: c158 :: c159 :: [])), []⟩ wa := by
  have HE := hide hexit
  have HXN := hide hx
  have HYN := hide hy
  have HX := hide hX
  have HY := hide hY
  have HDX := hide hDX
  have HDY := hide hDY
  have HB0 := hide hb0
  clear hexit hx hy hX hY hDX hDY hb0
  conv => arg 2; arg 1; whnf
  go_loopw [15, 16] (fun v15 v16 wr => ∃ (j : Nat) (fd : Bool), j ≤ m ∧ v16 = .int .i64 (j : Int) ∧ v15 = .bool fd ∧ Hid (fd = true → ∀ (h : i < xs.length), Mat ys dx dy xs[i]) ∧ Below w0.heap.size w0 wr) (fun _ v16 _ => m - (intOf v16).toNat)
  case atStart => exact ⟨0, false, Nat.zero_le _, rfl, rfl, hide (fun h => by cases h), unhide HB0⟩
  case round =>
    rename World => wr
    obtain ⟨j, fd, hj, rfl, rfl, hf, hbw⟩ := hrel
    by_cases hlt : j < m
    · have hlt' : (j : Int) < (m : Int) := by omega
      have hil : i < xs.length := by rw [unhide HXN]; exact hi
      have hjl : j < ys.length := by rw [unhide HYN]; exact hlt
      have hi' : (i : Int) < (n : Int) := by omega
      cases fd with
      | true =>
        have HF := hide (unhide hf rfl)
        have HBW := hide hbw
        clear hbw hf
        go_wp2
        go_quiet (fail)
        go_wp2
        go_roundw
        case rel => exact ⟨j + 1, true, hlt, by push_cast; rfl, rfl, hide (fun _ => unhide HF), by first | exact (unhide HBW).drewN _ | (have hh := unhide HBW; exact ⟨hh.os, hh.tape, hh.output, hh.size, hh.block⟩)⟩
        case measure => simp [intOf]; omega
      | false =>
        obtain ⟨B, O, rfl, g0, g1⟩ := ((unhide HX).low hbw).get hil
        obtain ⟨B2, O2, rfl, h0, h1⟩ := ((unhide HY).low hbw).get hjl
        have dX := (unhide HDX).low hbw
        have dY := (unhide HDY).low hbw
        have mx : xs[i] ∈ xs := List.getElem_mem hil
        have my : ys[j] ∈ ys := List.getElem_mem hjl
        have x1 := dX.len _ mx
        have x2 := dX.few _ mx
        have x3 := dX.cap _ mx
        have x4 := dX.capm _ mx
        have x5 := dX.form _ mx
        have x6 := dX.at_ _ mx
        have y1 := dY.len _ my
        have y2 := dY.few _ my
        have y3 := dY.cap _ my
        have y4 := dY.capm _ my
        have y5 := dY.form _ my
        have y6 := dY.at_ _ my
        have HMA : Hid (ys[j].nm = xs[i].nm → shaL (dy ys[j]) = shaL (dx xs[i]) → ∀ (h : i < xs.length), Mat ys dx dy xs[i]) := hide (fun e1 e2 h => ⟨ys[j], my, e1, e2⟩)
        obtain ⟨x, hxx⟩ : ∃ x, xs[i] = x := ⟨_, rfl⟩
        obtain ⟨y, hyy⟩ : ∃ y, ys[j] = y := ⟨_, rfl⟩
        rw [hxx] at g0 g1 x1 x2 x3 x4 x5 x6 HMA
        rw [hyy] at h0 h1 y1 y2 y3 y4 y5 y6 HMA
        obtain ⟨X, hXX⟩ : ∃ X, dx x = X := ⟨_, rfl⟩
        obtain ⟨Y, hYY⟩ : ∃ Y, dy y = Y := ⟨_, rfl⟩
        rw [hXX] at x1 x6 HMA
        rw [hYY] at y1 y6 HMA
        obtain ⟨nx, xa, xn, xc⟩ := x
        obtain ⟨nm, ya, yn, yc⟩ := y
        simp only at g0 g1 x1 x2 x3 x4 x5 x6 h0 h1 y1 y2 y3 y4 y5 y6
        have HBW := hide hbw
        by_cases hname : nm = nx
        · subst hname
          obtain ⟨SX, hSX⟩ : ∃ SX, shaL X = SX := ⟨_, rfl⟩
          obtain ⟨SY, hSY⟩ : ∃ SY, shaL Y = SY := ⟨_, rfl⟩
          have hSXl : SX.length = 32 := by rw [← hSX]; exact shaL_len _
          have hSYl : SY.length = 32 := by rw [← hSY]; exact shaL_len _
          rw [hSX, hSY] at HMA
          obtain ⟨ff, hff⟩ : ∃ ff, decide (SY = SX) = ff := ⟨_, rfl⟩
          have hS : ((wr.cell? ⟨B2, O2 + j * 2, none⟩ = some (.string (ba nm)) ∧ wr.cell? ⟨B2, O2 + j * 2 + 1, none⟩ = some (.slice ya yn yc)) ∧ (wr.cell? ⟨B, O + i * 2, none⟩ = some (.string (ba nm)) ∧ wr.cell? ⟨B, O + i * 2 + 1, none⟩ = some (.slice xa xn xc)) ∧ Below wr.heap.size wr wr) := ⟨⟨h0, h1⟩, ⟨g0, g1⟩, Below.refl _ _⟩
          have hSd := four9 hS (Below.refl _ _).drew
          have HA : Hid (∀ wx, ((wx.cell? ⟨B2, O2 + j * 2, none⟩ = some (.string (ba nm)) ∧ wx.cell? ⟨B2, O2 + j * 2 + 1, none⟩ = some (.slice ya yn yc)) ∧ (wx.cell? ⟨B, O + i * 2, none⟩ = some (.string (ba nm)) ∧ wx.cell? ⟨B, O + i * 2 + 1, none⟩ = some (.slice xa xn xc)) ∧ Below wr.heap.size wr wx) → Calls Tryz.prog 27 #[.slice ya yn yc] wx fun e w' => ∃ g cap, e = .returned (.slice (some ⟨g, 0, none⟩) 32 cap) ∧ Hid (BAt w' (some ⟨g, 0, none⟩) SY) ∧ ((w'.cell? ⟨B2, O2 + j * 2, none⟩ = some (.string (ba nm)) ∧ w'.cell? ⟨B2, O2 + j * 2 + 1, none⟩ = some (.slice ya yn yc)) ∧ (w'.cell? ⟨B, O + i * 2, none⟩ = some (.string (ba nm)) ∧ w'.cell? ⟨B, O + i * 2 + 1, none⟩ = some (.slice xa xn xc)) ∧ Below wr.heap.size wr w')) := hide (fun wx hx => by
            refine (shaF_any y1 (by omega) y3 y4 y5 (y6.low hx.2.2)).mono ?_
            rintro e w' ⟨v, rfl, o, b⟩
            rw [hSY] at o
            obtain ⟨g, cap, rfl, hat, -, -⟩ := OwnB.adr o hSYl
            exact ⟨g, cap, rfl, hide hat, four9 hx b⟩)
          have HA2 : Hid (∀ wx gx, ((wx.cell? ⟨B2, O2 + j * 2, none⟩ = some (.string (ba nm)) ∧ wx.cell? ⟨B2, O2 + j * 2 + 1, none⟩ = some (.slice ya yn yc)) ∧ (wx.cell? ⟨B, O + i * 2, none⟩ = some (.string (ba nm)) ∧ wx.cell? ⟨B, O + i * 2 + 1, none⟩ = some (.slice xa xn xc)) ∧ Below wr.heap.size wr wx) → Hid (BAt wx (some ⟨gx, 0, none⟩) SX) → Calls Tryz.prog 27 #[.slice ya yn yc] wx fun e w' => ∃ g cap, e = .returned (.slice (some ⟨g, 0, none⟩) 32 cap) ∧ Hid (BAt w' (some ⟨g, 0, none⟩) SY) ∧ Hid (BAt w' (some ⟨gx, 0, none⟩) SX) ∧ ((w'.cell? ⟨B2, O2 + j * 2, none⟩ = some (.string (ba nm)) ∧ w'.cell? ⟨B2, O2 + j * 2 + 1, none⟩ = some (.slice ya yn yc)) ∧ (w'.cell? ⟨B, O + i * 2, none⟩ = some (.string (ba nm)) ∧ w'.cell? ⟨B, O + i * 2 + 1, none⟩ = some (.slice xa xn xc)) ∧ Below wr.heap.size wr w')) := hide (fun wx gx hx hv => by
            refine (shaF_any y1 (by omega) y3 y4 y5 (y6.low hx.2.2)).mono ?_
            rintro e w' ⟨v, rfl, o, b⟩
            rw [hSY] at o
            obtain ⟨g, cap, rfl, hat, -, -⟩ := OwnB.adr o hSYl
            exact ⟨g, cap, rfl, hide hat, hide ((unhide hv).low b), four9 hx b⟩)
          have HB : Hid (∀ wx, ((wx.cell? ⟨B2, O2 + j * 2, none⟩ = some (.string (ba nm)) ∧ wx.cell? ⟨B2, O2 + j * 2 + 1, none⟩ = some (.slice ya yn yc)) ∧ (wx.cell? ⟨B, O + i * 2, none⟩ = some (.string (ba nm)) ∧ wx.cell? ⟨B, O + i * 2 + 1, none⟩ = some (.slice xa xn xc)) ∧ Below wr.heap.size wr wx) → Calls Tryz.prog 27 #[.slice xa xn xc] wx fun e w' => ∃ g cap, e = .returned (.slice (some ⟨g, 0, none⟩) 32 cap) ∧ Hid (BAt w' (some ⟨g, 0, none⟩) SX) ∧ ((w'.cell? ⟨B2, O2 + j * 2, none⟩ = some (.string (ba nm)) ∧ w'.cell? ⟨B2, O2 + j * 2 + 1, none⟩ = some (.slice ya yn yc)) ∧ (w'.cell? ⟨B, O + i * 2, none⟩ = some (.string (ba nm)) ∧ w'.cell? ⟨B, O + i * 2 + 1, none⟩ = some (.slice xa xn xc)) ∧ Below wr.heap.size wr w')) := hide (fun wx hx => by
            refine (shaF_any x1 (by omega) x3 x4 x5 (x6.low hx.2.2)).mono ?_
            rintro e w' ⟨v, rfl, o, b⟩
            rw [hSX] at o
            obtain ⟨g, cap, rfl, hat, -, -⟩ := OwnB.adr o hSXl
            exact ⟨g, cap, rfl, hide hat, four9 hx b⟩)
          have HB2 : Hid (∀ wx gx, ((wx.cell? ⟨B2, O2 + j * 2, none⟩ = some (.string (ba nm)) ∧ wx.cell? ⟨B2, O2 + j * 2 + 1, none⟩ = some (.slice ya yn yc)) ∧ (wx.cell? ⟨B, O + i * 2, none⟩ = some (.string (ba nm)) ∧ wx.cell? ⟨B, O + i * 2 + 1, none⟩ = some (.slice xa xn xc)) ∧ Below wr.heap.size wr wx) → Hid (BAt wx (some ⟨gx, 0, none⟩) SY) → Calls Tryz.prog 27 #[.slice xa xn xc] wx fun e w' => ∃ g cap, e = .returned (.slice (some ⟨g, 0, none⟩) 32 cap) ∧ Hid (BAt w' (some ⟨g, 0, none⟩) SX) ∧ Hid (BAt w' (some ⟨gx, 0, none⟩) SY) ∧ ((w'.cell? ⟨B2, O2 + j * 2, none⟩ = some (.string (ba nm)) ∧ w'.cell? ⟨B2, O2 + j * 2 + 1, none⟩ = some (.slice ya yn yc)) ∧ (w'.cell? ⟨B, O + i * 2, none⟩ = some (.string (ba nm)) ∧ w'.cell? ⟨B, O + i * 2 + 1, none⟩ = some (.slice xa xn xc)) ∧ Below wr.heap.size wr w')) := hide (fun wx gx hx hv => by
            refine (shaF_any x1 (by omega) x3 x4 x5 (x6.low hx.2.2)).mono ?_
            rintro e w' ⟨v, rfl, o, b⟩
            rw [hSX] at o
            obtain ⟨g, cap, rfl, hat, -, -⟩ := OwnB.adr o hSXl
            exact ⟨g, cap, rfl, hide hat, hide ((unhide hv).low b), four9 hx b⟩)
          have H23 : Hid (∀ wx g1 c1 g2 c2, ((wx.cell? ⟨B2, O2 + j * 2, none⟩ = some (.string (ba nm)) ∧ wx.cell? ⟨B2, O2 + j * 2 + 1, none⟩ = some (.slice ya yn yc)) ∧ (wx.cell? ⟨B, O + i * 2, none⟩ = some (.string (ba nm)) ∧ wx.cell? ⟨B, O + i * 2 + 1, none⟩ = some (.slice xa xn xc)) ∧ Below wr.heap.size wr wx) → Hid (BAt wx (some ⟨g1, 0, none⟩) SY) → Hid (BAt wx (some ⟨g2, 0, none⟩) SX) → Calls Tryz.prog 23 #[.slice (some ⟨g1, 0, none⟩) 32 c1, .slice (some ⟨g2, 0, none⟩) 32 c2] wx fun e w' => e = .returned (.bool ff) ∧ ((w'.cell? ⟨B2, O2 + j * 2, none⟩ = some (.string (ba nm)) ∧ w'.cell? ⟨B2, O2 + j * 2 + 1, none⟩ = some (.slice ya yn yc)) ∧ (w'.cell? ⟨B, O + i * 2, none⟩ = some (.string (ba nm)) ∧ w'.cell? ⟨B, O + i * 2 + 1, none⟩ = some (.slice xa xn xc)) ∧ Below wr.heap.size wr w')) := hide (fun wx g1 c1 g2 c2 hx hv hu => by
            have kk := sameBytes_any (w := wx) (c := c1) (c2 := c2) hSYl hSXl (by omega) (by omega) (unhide hv) (unhide hu)
            rw [hff] at kk
            refine kk.mono ?_
            rintro e w' ⟨rfl, q, hw⟩
            exact ⟨rfl, four9 hx (by rw [hw]; exact low_q _)⟩)
          have hq : ((ba nm).toList == (ba nm).toList) = true := by simp
          have HFF := hide hff
          clear hff hSX hSY hSXl hSYl x1 x2 x3 x4 x5 x6 y1 y2 y3 y4 y5 y6 dX dY mx my hxx hyy hXX hYY hbw hf
          go_wp2
          go_region_held3 (fun wx => ((wx.cell? ⟨B2, O2 + j * 2, none⟩ = some (.string (ba nm)) ∧ wx.cell? ⟨B2, O2 + j * 2 + 1, none⟩ = some (.slice ya yn yc)) ∧ (wx.cell? ⟨B, O + i * 2, none⟩ = some (.string (ba nm)) ∧ wx.cell? ⟨B, O + i * 2 + 1, none⟩ = some (.slice xa xn xc)) ∧ Below wr.heap.size wr wx))
            (first | assumption | exact hS | exact hSd)
            (first
              | (go_at_call_of 27 (Value.slice ya yn yc); first
                  | (revert hvX; intro hvX; refine (unhide HA2 _ _ (by assumption) hvX).mono ?_; rintro e w9 ⟨g9, c9, rfl, hvY, hvX, hS9⟩)
                  | (refine (unhide HA _ (by assumption)).mono ?_; rintro e w9 ⟨g9, c9, rfl, hvY, hS9⟩))
              | (go_at_call_of 27 (Value.slice xa xn xc); first
                  | (revert hvY; intro hvY; refine (unhide HB2 _ _ (by assumption) hvY).mono ?_; rintro e w9 ⟨g8, c8, rfl, hvX, hvY, hS9⟩)
                  | (refine (unhide HB _ (by assumption)).mono ?_; rintro e w9 ⟨g8, c8, rfl, hvX, hS9⟩))
              | (go_at_call 23; revert hvX hvY; intro hvX hvY; refine (unhide H23 _ _ _ _ _ (by assumption) hvY hvX).mono ?_; rintro e w9 ⟨rfl, hS9⟩))
          all_goals
            have HB9 : Hid (Below w0.heap.size w0 w9) := hide (low_trans (unhide HBW) hS9.2.2)
            have HF : Hid (ff = true → ∀ (h : i < xs.length), Mat ys dx dy xs[i]) := hide (fun h => unhide HMA (by first | trivial | rfl) (of_decide_eq_true (by rw [unhide HFF]; exact h)))
            clear hS hSd hS9 hvX hvY g0 g1 h0 h1
            go_wp2
            go_roundw
            case rel => exact ⟨j + 1, ff, hlt, by push_cast; rfl, rfl, HF, unhide HB9⟩
            case measure => simp [intOf]; omega
        · have hq : ((ba nm).toList == (ba nx).toList) = false := by rw [Lib.toList_data (ba nx), ba_data, str_eq]; exact decide_eq_false hname
          clear x1 x2 x3 x4 x5 x6 y1 y2 y3 y4 y5 y6 dX dY mx my hxx hyy hXX hYY hbw hf
          go_wp2
          go_quiet (fail)
          go_wp2
          go_roundw
          case rel => exact ⟨j + 1, false, hlt, by push_cast; rfl, rfl, hide (fun h => by cases h), by first | exact (unhide HBW).drewN _ | (have hh := unhide HBW; exact ⟨hh.os, hh.tape, hh.output, hh.size, hh.block⟩)⟩
          case measure => simp [intOf]; omega
    · have hje : j = m := by omega
      subst hje
      have HF := hide (unhide HE fd)
      have HG := hide (unhide hf)
      have HBW := hide hbw
      clear hbw hf
      go_wp2
      exact ⟨rfl, unhide HF _ _ _ _ _ _ _ _ _ _ _ _ _ _ _ _ _ _ _ _ _ _ _ _ _ _ _ _ _ _ _ _ _ _ _ _ wr (unhide HG) (unhide HBW)⟩

set_option maxRecDepth 1000000 in
set_option maxHeartbeats 8000000 in
theorem match_any {c2 c3 c4 c5 c6 c7 c8 c9 c10 c11 c12 c15 c16 c17 c18 c19 c20 c21 c22 c23 c24 c25 c26 c27 c28 c29 c30 c31 c32 c33 c34 c35 c36 c37 c38 c39 c40 c41 c42 c43 c44 c45 c46 c47 c48 c49 c50 c51 c52 c53 c54 c55 c56 c57 c58 c59 c60 c61 c62 c63 c64 c65 c66 c67 c68 c69 c70 c71 c72 c73 c74 c75 c76 c77 c78 c79 c80 c81 c82 c83 c84 c85 c86 c87 c88 c89 c90 c91 c92 c93 c94 c95 c96 c97 c98 c99 c100 c101 c102 c103 c104 c105 c106 c107 c108 c109 c110 c111 c112 c113 c114 c115 c116 c117 c118 c119 c120 c121 c122 c123 c124 c125 c126 c127 c128 c129 c130 c131 c132 c133 c134 c135 c136 c137 c138 c139 c140 c141 c142 c143 c144 c145 c146 c147 c148 c149 c150 c151 c152 c153 c154 c155 c156 c157 c158 c159 : Value} {s0 : Bool} {a b : Option Addr} {n c m d : Nat} {xs ys : List Fl} {dx dy : Fl → Bs} {w0 wa : World} {Post : Act → World → Prop} (hx : xs.length = n) (hy : ys.length = m) (hn : n ≤ 1000) (hm : m ≤ 1000) (hX : FAt w0 a xs) (hY : FAt w0 b ys) (hDX : DatG w0 xs dx) (hDY : DatG w0 ys dy) (hb0 : Below w0.heap.size w0 wa)
    (hexit : ∀ (s : Bool) d14 d15 d16 d71 d72 d73 d74 d75 d76 d77 d78 d79 d80 d81 d82 d83 d84 d85 d86 d87 d88 d89 d90 d91 d92 d93 d94 d95 d96 d97 d98 d99 d100 d101 d102 d103 d104 d105 d106 d107 d108 d109 d110 d111 d112 d113 d114 d115 w', (s = true → s0 = true ∧ ∀ x ∈ xs, Mat ys dx dy x) → Below w0.heap.size w0 w' → Post ⟨(List.toArray ((.slice a n c) :: (.slice b m d) :: c2 :: c3 :: c4 :: c5 :: c6 :: c7 :: c8 :: c9 :: c10 :: c11 :: c12 :: (.bool s) :: d14 :: d15 :: d16 :: c17 :: c18 :: c19 :: c20 :: c21 :: c22 :: c23 :: c24 :: c25 :: c26 :: c27 :: c28 :: c29 :: c30 :: c31 :: c32 :: c33 :: c34 :: c35 :: c36 :: c37 :: c38 :: c39 :: c40 :: c41 :: c42 :: c43 :: c44 :: c45 :: c46 :: c47 :: c48 :: c49 :: c50 :: c51 :: c52 :: c53 :: c54 :: c55 :: c56 :: c57 :: c58 :: c59 :: c60 :: c61 :: c62 :: c63 :: c64 :: c65 :: c66 :: c67 :: c68 :: c69 :: c70 :: d71 :: d72 :: d73 :: d74 :: d75 :: d76 :: d77 :: d78 :: d79 :: d80 :: d81 :: d82 :: d83 :: d84 :: d85 :: d86 :: d87 :: d88 :: d89 :: d90 :: d91 :: d92 :: d93 :: d94 :: d95 :: d96 :: d97 :: d98 :: d99 :: d100 :: d101 :: d102 :: d103 :: d104 :: d105 :: d106 :: d107 :: d108 :: d109 :: d110 :: d111 :: d112 :: d113 :: d114 :: d115 :: c116 :: c117 :: c118 :: c119 :: c120 :: c121 :: c122 :: c123 :: c124 :: c125 :: c126 :: c127 :: c128 :: c129 :: c130 :: c131 :: c132 :: c133 :: c134 :: c135 :: c136 :: c137 :: c138 :: c139 :: c140 :: c141 :: c142 :: c143 :: c144 :: c145 :: c146 :: c147 :: c148 :: c149 :: c150 :: c151 :: c152 :: c153 :: c154 :: c155 :: c156 :: c157 :: c158 :: c159 :: [])), []⟩ w') :
    Code.wp Tryz.prog (Code.loop loop9a) (OnEx9 0 Post) ⟨(List.toArray ((.slice a n c) :: (.slice b m d) :: c2 :: c3 :: c4 :: c5 :: c6 :: c7 :: c8 :: c9 :: c10 :: c11 :: c12 :: (.bool s0) :: (.int .i64 0) :: c15 :: c16 :: c17 :: c18 :: c19 :: c20 :: c21 :: c22 :: c23 :: c24 :: c25 :: c26 :: c27 :: c28 :: c29 :: c30 :: c31 :: c32 :: c33 :: c34 :: c35 :: c36 :: c37 :: c38 :: c39 :: c40 :: c41 :: c42 :: c43 :: c44 :: c45 :: c46 :: c47 :: c48 :: c49 :: c50 :: c51 :: c52 :: c53 :: c54 :: c55 :: c56 :: c57 :: c58 :: c59 :: c60 :: c61 :: c62 :: c63 :: c64 :: c65 :: c66 :: c67 :: c68 :: c69 :: c70 :: c71 :: c72 :: c73 :: c74 :: c75 :: c76 :: c77 :: c78 :: c79 :: c80 :: c81 :: c82 :: c83 :: c84 :: c85 :: c86 :: c87 :: c88 :: c89 :: c90 :: c91 :: c92 :: c93 :: c94 :: c95 :: c96 :: c97 :: c98 :: c99 :: c100 :: c101 :: c102 :: c103 :: c104 :: c105 :: c106 :: c107 :: c108 :: c109 :: c110 :: c111 :: c112 :: c113 :: c114 :: c115 :: c116 :: c117 :: c118 :: c119 :: c120 :: c121 :: c122 :: c123 :: c124 :: c125 :: c126 :: c127 :: c128 :: c129 :: c130 :: c131 :: c132 :: c133 :: c134 :: c135 :: c136 :: c137 :: c138 :: c139 :: c140 :: c141 :: c142 :: c143 :: c144 :: c145 :: c146 :: c147 :: c148 :: c149 :: c150 :: c151 :: c152 :: c153 :: c154 :: c155 :: c156 :: c157 :: c158 :: c159 :: [])), []⟩ wa := by
  have HE := hide hexit
  have HXN := hide hx
  have HYN := hide hy
  have HX := hide hX
  have HY := hide hY
  have HDX := hide hDX
  have HDY := hide hDY
  have HB0 := hide hb0
  clear hexit hx hy hX hY hDX hDY hb0
  conv => arg 2; arg 1; whnf
  go_loopw [13, 14, 15, 16] (fun v13 v14 _ _ wr => ∃ (i : Nat) (s : Bool), i ≤ n ∧ v14 = .int .i64 (i : Int) ∧ v13 = .bool s ∧ Hid (s = true → s0 = true ∧ ∀ (k : Nat), k < i → ∀ (h : k < xs.length), Mat ys dx dy xs[k]) ∧ Below w0.heap.size w0 wr) (fun _ v14 _ _ _ => n - (intOf v14).toNat)
  case atStart => exact ⟨0, s0, Nat.zero_le _, rfl, rfl, hide (fun h => ⟨h, fun k hk => by omega⟩), unhide HB0⟩
  case round =>
    rename World => wr
    obtain ⟨i, s, hi, rfl, rfl, hf, hbw⟩ := hrel
    have HBW := hide hbw
    have HFI := hide (unhide hf)
    clear hbw hf
    by_cases hlt : i < n
    · have hlt' : (i : Int) < (n : Int) := by omega
      cases s with
      | false =>
        have HF := hide (unhide HE false)
        go_wp2
        exact ⟨rfl, unhide HF _ _ _ _ _ _ _ _ _ _ _ _ _ _ _ _ _ _ _ _ _ _ _ _ _ _ _ _ _ _ _ _ _ _ _ _ _ _ _ _ _ _ _ _ _ _ _ _ wr (fun h => by cases h) (unhide HBW)⟩
      | true =>
        go_wp2
        refine useEx9 2 (found_any (w0 := w0) (unhide HXN) (unhide HYN) hm hlt (unhide HX) (unhide HY) (unhide HDX) (unhide HDY) (unhide HBW) ?_)
        intro fd d16 d80 d81 d82 d83 d84 d85 d86 d87 d88 d89 d90 d91 d92 d93 d94 d95 d96 d97 d98 d99 d100 d101 d102 d103 d104 d105 d106 d107 d108 d109 d110 d111 d112 d113 d114 w2 hfd hb2
        have HF : Hid (fd = true → s0 = true ∧ ∀ (k : Nat), k < i + 1 → ∀ (h : k < xs.length), Mat ys dx dy xs[k]) := hide (fun h => ⟨(unhide HFI (by first | trivial | rfl)).1, fun k hk hkl => by
          by_cases hki : k = i
          · subst hki; exact hfd h hkl
          · exact (unhide HFI (by first | trivial | rfl)).2 k (by omega) hkl⟩)
        have HB2 := hide hb2
        clear hfd hb2
        go_wp2
        go_roundw
        case rel => exact ⟨i + 1, fd, hlt, by push_cast; rfl, rfl, HF, unhide HB2⟩
        case measure => simp [intOf]; omega
    · have hie : i = n := by omega
      subst hie
      have hlt' : ¬ (i : Int) < (i : Int) := by omega
      have HF := hide (unhide HE s)
      have HG : Hid (s = true → s0 = true ∧ ∀ x ∈ xs, Mat ys dx dy x) := hide (fun h => ⟨(unhide HFI h).1, fun x hx => by
        obtain ⟨k, hk, rfl⟩ := List.getElem_of_mem hx
        exact (unhide HFI h).2 k (by rw [unhide HXN] at hk; exact hk) hk⟩)
      go_wp2
      exact ⟨rfl, unhide HF _ _ _ _ _ _ _ _ _ _ _ _ _ _ _ _ _ _ _ _ _ _ _ _ _ _ _ _ _ _ _ _ _ _ _ _ _ _ _ _ _ _ _ _ _ _ _ _ wr (unhide HG) (unhide HBW)⟩
end Go.Proofs.YtkablmjkffdloaaGreatDoor

namespace Go.Proofs.YtkablmjkffdloaaGreatDoor
open Go.RowKit

/-- Files as they come in. -/
structure DatW (w : World) (xs : List Fl) (dat : Fl → Bs) : Prop where
  len : ∀ x ∈ xs, (dat x).length = x.n
  cap : ∀ x ∈ xs, x.n ≤ x.c
  capm : ∀ x ∈ xs, x.c ≤ 9223372036854775807
  form : ∀ x ∈ xs, x.a = none ∨ (∃ B O, x.a = some ⟨B, O, none⟩) ∨ ∃ y, x.a = some y ∧ x.n = 0 ∧ x.c = 0
  at_ : ∀ x ∈ xs, BAt w x.a (dat x)
theorem DatW.small {w : World} {xs : List Fl} {dat : Fl → Bs} (h : DatW w xs dat) (hs : ∀ x ∈ xs, x.n ≤ 4000 ∧ x.nm.length ≤ 4000) : DatG w xs dat :=
  ⟨h.len, fun x hx => by have := (hs x hx).1; omega, h.cap, h.capm, h.form, h.at_, fun x hx => by have := (hs x hx).2; omega⟩
theorem DatG.one2 {w : World} {xs : List Fl} {dat : Fl → Bs} (h : DatG w xs dat) : ∀ d ∈ xs.map dat, d.length ≤ 1073741824 := fun d hd => by
  obtain ⟨x, hx, rfl⟩ := List.mem_map.1 hd
  have := h.few x hx
  have := h.len x hx
  omega
/-- A sum as the law needs it. -/
def H1R (dat : Fl → Bs) (xs : List Fl) (e : Ending) : Prop := ∃ (S : Bs) (E : Int), e = .returned (.tuple #[.string (ba S), .int .i64 E]) ∧ (E = 0 → nmE [] (xs.map Fl.nm) = 0 ∧ ∃ zs, zs.Perm xs ∧ Rising zs ∧ S = sumF dat zs)
theorem H1Said.r {dat : Fl → Bs} {xs : List Fl} {e : Ending} (h : H1Said dat xs e) : H1R dat xs e := by
  rcases h with ⟨h0, ys, hp, hr, rfl⟩ | ⟨h0, rfl⟩
  · exact ⟨_, 0, rfl, fun _ => ⟨h0, ys, hp, hr, rfl⟩⟩
  · exact ⟨[], _, rfl, fun h => absurd h h0⟩

set_option maxRecDepth 100000 in
set_option maxHeartbeats 8000000 in
theorem tells_law {w : World} {a b : Option Addr} {n c m d : Nat} {xs ys : List Fl} {dx dy : Fl → Bs} {p v : Bs} (hg : Ml w) (hx : xs.length = n) (hy : ys.length = m) (hn : n ≤ 9223372036854775807) (hm : m ≤ 9223372036854775807) (hc : n ≤ c) (hd : m ≤ d) (ha : (a = none ∧ n = 0 ∧ c = 0) ∨ ∃ B O, a = some ⟨B, O, none⟩) (hb : (b = none ∧ m = 0 ∧ d = 0) ∨ ∃ B O, b = some ⟨B, O, none⟩) (hX : FAt w a xs) (hY : FAt w b ys) (hDX : DatW w xs dx) (hDY : DatW w ys dy) :
    Calls Tryz.prog 9 #[.slice a n c, .slice b m d, .agg #[.string (ba p), .string (ba v)]] w fun e w' => e = .returned (.bool true) ∧ Below w.heap.size w w' := by
  obtain ⟨S, hS⟩ : ∃ S, w.heap.size = S := ⟨_, rfl⟩
  obtain ⟨W1, hW1⟩ : ∃ W1, w.alloc (.cells #[.string (ba p), .string (ba v)] 45) = W1 := ⟨_, rfl⟩
  have b1 : Below w.heap.size w W1 := by rw [← hW1]; exact lowAA (Below.refl _ _) _
  have q1 : Blk W1 S #[.string (ba p), .string (ba v)] 45 := by rw [← hW1, ← hS]; exact Blk.new _ _ _
  have HG := hide hg
  have HXN := hide hx
  have HYN := hide hy
  have HA := hide ha
  have HB := hide hb
  have HX := hide hX
  have HY := hide hY
  have HDX := hide hDX
  have HDY := hide hDY
  have HB1 := hide b1
  have HQ1 := hide q1
  have HW1 := hide hW1
  have HS := hide hS
  obtain ⟨pl, hpl⟩ : ∃ pl, p.length = pl := ⟨_, rfl⟩
  obtain ⟨vl, hvl⟩ : ∃ vl, v.length = vl := ⟨_, rfl⟩
  have hsp : (ba p).size = pl := by rw [ba_size]; exact hpl
  have hsv : (ba v).size = vl := by rw [ba_size]; exact hvl
  have HPL := hide hpl
  have HVL := hide hvl
  clear hg hx hy ha hb hX hY hDX hDY b1 q1 hW1 hS hpl hvl
  go_enter Tryz.func9, Tryz.ntmps9
  go_wp2_with (go_at_call 16; fail)
  rw [unhide HW1, unhide HS]
  refine (first_any W1).mono ?_
  rintro e w2 ⟨rfl, b2⟩
  have HB2 := hide (low_trans (unhide HB1) b2)
  have HQ2 := hide ((unhide HQ1).low b2)
  clear b2
  have K1 := hide (fewF_any (c := c) (unhide HXN) hn ((unhide HX).low (unhide HB2)))
  have K2 := hide (fewF_any (c := d) (unhide HYN) hm ((unhide HY).low (unhide HB2)))
  go_wp2_with (go_at_call 17; fail)
  refine (unhide K1).mono ?_
  rintro e wn ⟨⟨f1, rfl, hf1⟩, hwn⟩
  rw [hwn]
  clear hwn wn K1
  have HF1 := hide hf1
  clear hf1
  cases f1 with
  | false =>
    have HZ : Hid (Below w.heap.size w w2) := hide (unhide HB2)
    go_wp2
    go_ret
    exact ⟨rfl, unhide HZ⟩
  | true =>
    go_wp2_with (go_at_call 17; fail)
    refine (unhide K2).mono ?_
    rintro e wn ⟨⟨f2, rfl, hf2⟩, hwn⟩
    rw [hwn]
    clear hwn wn K2
    have HF2 := hide hf2
    clear hf2
    have HZ : Hid (Below w.heap.size w w2) := hide (unhide HB2)
    have x0 := (unhide HQ2).cell 0
    have x1 := (unhide HQ2).cell 1
    cases f2 with
    | false =>
      go_wp2
      go_ret
      exact ⟨rfl, unhide HZ⟩
    | true =>
      by_cases g1 : 110 < n
      · have a1 : (110 : Int) < (n : Int) := by omega
        go_wp2
        go_ret
        exact ⟨rfl, unhide HZ⟩
      have a1 : ¬ (110 : Int) < (n : Int) := by omega
      by_cases g2 : 110 < m
      · have a2 : (110 : Int) < (m : Int) := by omega
        go_wp2
        go_ret
        exact ⟨rfl, unhide HZ⟩
      have a2 : ¬ (110 : Int) < (m : Int) := by omega
      by_cases g3 : 200 < pl
      · have a3 : (200 : Int) < (pl : Int) := by omega
        go_wp2
        go_ret
        exact ⟨rfl, unhide HZ⟩
      have a3 : ¬ (200 : Int) < (pl : Int) := by omega
      by_cases g4 : 200 < vl
      · have a4 : (200 : Int) < (vl : Int) := by omega
        go_wp2
        go_ret
        exact ⟨rfl, unhide HZ⟩
      have a4 : ¬ (200 : Int) < (vl : Int) := by omega
      have hsx := unhide HF1 (by first | trivial | rfl)
      have hsy := unhide HF2 (by first | trivial | rfl)
      have HGX := hide ((unhide HDX).small hsx)
      have HGY := hide ((unhide HDY).small hsy)
      have HSX := hide hsx
      clear hsx hsy
      have K3 := hide (h1_any ((unhide HG).low (unhide HB2)) (unhide HXN) (unhide HA) ((unhide HX).low (unhide HB2)) (by omega) hc ((unhide HGX).low (unhide HB2)))
      go_wp2_with (go_at_call 40; fail)
      refine (unhide K3).mono ?_
      rintro e w3 ⟨hs1, b3⟩
      obtain ⟨S1, E1, rfl, hr1⟩ := H1Said.r hs1
      have HR1 := hide hr1
      have HB3 := hide (low_trans (unhide HB2) b3)
      have HQ3 := hide ((unhide HQ2).low b3)
      clear hs1 hr1 b3 K3 x0 x1
      have K4 := hide (h1_any ((unhide HG).low (unhide HB3)) (unhide HYN) (unhide HB) ((unhide HY).low (unhide HB3)) (by omega) hd ((unhide HGY).low (unhide HB3)))
      go_wp2_with (go_at_call 40; fail)
      refine (unhide K4).mono ?_
      rintro e w4 ⟨hs2, b4⟩
      obtain ⟨S2, E2, rfl, hr2⟩ := H1Said.r hs2
      have HR2 := hide hr2
      have HB4 := hide (low_trans (unhide HB3) b4)
      have HQ4 := hide ((unhide HQ3).low b4)
      clear hs2 hr2 b4 K4
      obtain ⟨s0, hs0⟩ : ∃ s0, ((n : Int) == (m : Int)) = s0 := ⟨_, rfl⟩
      have HS0 := hide hs0
      go_wp2
      refine useEx9 0 (match_any (w0 := w4) (s0 := s0) (unhide HXN) (unhide HYN) (by omega) (by omega) ((unhide HX).low (unhide HB4)) ((unhide HY).low (unhide HB4)) ((unhide HGX).low (unhide HB4)) ((unhide HGY).low (unhide HB4)) (Below.refl _ _) ?_)
      intro s d14 d15 d16 d71 d72 d73 d74 d75 d76 d77 d78 d79 d80 d81 d82 d83 d84 d85 d86 d87 d88 d89 d90 d91 d92 d93 d94 d95 d96 d97 d98 d99 d100 d101 d102 d103 d104 d105 d106 d107 d108 d109 d110 d111 d112 d113 d114 d115 w5 hs5 hb5
      have HB5 := hide (low_trans (unhide HB4) hb5)
      have HQ5 := hide ((unhide HQ4).low hb5)
      obtain ⟨t1, ht1⟩ : ∃ t, (E1 == 0) = t := ⟨_, rfl⟩
      obtain ⟨t2, ht2⟩ : ∃ t, (E2 == 0) = t := ⟨_, rfl⟩
      have HSUM : Hid (t1 = true → t2 = true → s = true → ((ba S1).toList != (ba S2).toList) = false) := hide (fun h1 h2 h3 => by
        have e1 : E1 = 0 := by rw [h1] at ht1; simpa using ht1
        have e2 : E2 = 0 := by rw [h2] at ht2; simpa using ht2
        obtain ⟨z1, zs1, zp1, zr1, rfl⟩ := unhide HR1 e1
        obtain ⟨z2, zs2, zp2, zr2, rfl⟩ := unhide HR2 e2
        obtain ⟨h4, h5⟩ := hs5 h3
        have hnm : n = m := by
          have h6 := unhide HS0
          rw [h4] at h6
          have : (n : Int) = (m : Int) := by simpa using h6
          omega
        have := sums_same (dx := dx) (dy := dy) z1 z2 zp1 zp2 zr1 zr2 (by rw [unhide HXN, unhide HYN]; exact hnm) h5
        rw [this]
        simp)
      clear hs5 hb5
      have HTAIL : Hid (∀ r ∈ xs.map Fl.nm, r.length ≤ 1000000) := hide (fun r hr => by
        obtain ⟨x, hx, rfl⟩ := List.mem_map.1 hr
        have := (unhide HSX x hx).2
        omega)
      have hxl : ∀ x ∈ xs, (x.a = none ∨ (∃ B O, x.a = some ⟨B, O, none⟩) ∨ ∃ y, x.a = some y ∧ x.n = 0 ∧ x.c = 0) ∧ x.n ≤ 1073741824 := fun x hx => ⟨(unhide HGX).form x hx, by have := (unhide HSX x hx).1; omega⟩
      have HXL := hide hxl
      clear hxl
      have KA : Hid (∀ wx, (wx.cell? ⟨S, 0, none⟩ = some (.string (ba p)) ∧ wx.cell? ⟨S, 1, none⟩ = some (.string (ba v)) ∧ Below w5.heap.size w5 wx) → Calls Tryz.prog 44 #[.slice a n c, .agg #[.string (ba p), .string (ba v)]] wx fun e w' => ∃ A zs, e = .returned (.slice (some ⟨A, 0, none⟩) n n) ∧ Hid (zs.map Fl.nm = (xs.map Fl.nm).map (fun x => preL p v ++ x) ∧ FAt w' (some ⟨A, 0, none⟩) zs ∧ DAt w' zs (xs.map dx) ∧ ∀ y ∈ zs, y.a = none ∨ ∃ B O, y.a = some ⟨B, O, none⟩) ∧ (w'.cell? ⟨S, 0, none⟩ = some (.string (ba p)) ∧ w'.cell? ⟨S, 1, none⟩ = some (.string (ba v)) ∧ Below w5.heap.size w5 w')) := hide (fun wx hx => by
        have hb := low_trans (unhide HB5) hx.2.2
        refine (add_any (ds := xs.map dx) (by have := unhide HPL; omega) (by have := unhide HVL; omega) (unhide HXN) (by omega) ((unhide HX).low hb) (((unhide HGX).low hb).one) (unhide HXL) (fun x hx => by have := (unhide HSX x hx).2; omega)).mono ?_
        rintro e w' ⟨A, zs, rfl, h1, h2, h3, h4, b⟩
        exact ⟨A, zs, rfl, hide ⟨h1, h2, h3, h4⟩, (b.cell (lt_of_cell hx.1)).trans hx.1, (b.cell (lt_of_cell hx.2.1)).trans hx.2.1, low_trans hx.2.2 b⟩)
      have KS : Hid ((∀ x ∈ xs, x.nm ≠ []) → ∀ wx A zs, (wx.cell? ⟨S, 0, none⟩ = some (.string (ba p)) ∧ wx.cell? ⟨S, 1, none⟩ = some (.string (ba v)) ∧ Below w5.heap.size w5 wx) → Hid (zs.map Fl.nm = (xs.map Fl.nm).map (fun x => preL p v ++ x) ∧ FAt wx (some ⟨A, 0, none⟩) zs ∧ DAt wx zs (xs.map dx) ∧ ∀ y ∈ zs, y.a = none ∨ ∃ B O, y.a = some ⟨B, O, none⟩) → Calls Tryz.prog 42 #[.slice (some ⟨A, 0, none⟩) n n, .agg #[.string (ba p), .string (ba v)]] wx fun e w' => ∃ A2 zs2, e = .returned (.tuple #[.slice (some ⟨A2, 0, none⟩) n n, .int .i64 0]) ∧ Hid (zs2.map Fl.nm = xs.map Fl.nm ∧ FAt w' (some ⟨A2, 0, none⟩) zs2 ∧ DAt w' zs2 (xs.map dx)) ∧ (w'.cell? ⟨S, 0, none⟩ = some (.string (ba p)) ∧ w'.cell? ⟨S, 1, none⟩ = some (.string (ba v)) ∧ Below w5.heap.size w5 w')) := hide (fun hne wx A zs hx hv => by
        obtain ⟨h1, h2, h3, h4⟩ := unhide hv
        have hzl : zs.length = n := by rw [two_nm h1, unhide HXN]
        refine (strip_any (rs := xs.map Fl.nm) (ds := xs.map dx) (by have := unhide HPL; omega) (by have := unhide HVL; omega) hzl (by omega) h2 h3 (fun y hy => ⟨?_, ?_⟩) h1 (fun r hr => ⟨?_, unhide HTAIL r hr⟩)).mono ?_
        · rcases h4 y hy with h | h
          · exact Or.inl h
          · exact Or.inr (Or.inl h)
        · obtain ⟨k, hk, rfl⟩ := List.getElem_of_mem hy
          have hkd : k < (xs.map dx).length := by rw [List.length_map, unhide HXN]; omega
          have h5 := (h3.one k hk hkd).1
          have h6 := DatG.one2 (unhide HGX) _ (List.getElem_mem hkd)
          omega
        · obtain ⟨x, hx2, rfl⟩ := List.mem_map.1 hr
          exact hne x hx2
        · rintro e w' ⟨A2, zs2, rfl, g1, g2, g3, b⟩
          exact ⟨A2, zs2, rfl, hide ⟨g1, g2, g3⟩, (b.cell (lt_of_cell hx.1)).trans hx.1, (b.cell (lt_of_cell hx.2.1)).trans hx.2.1, low_trans hx.2.2 b⟩)
      have KF : Hid (∀ wx A2 zs2, Below w5.heap.size w5 wx → (zs2.map Fl.nm = xs.map Fl.nm ∧ FAt wx (some ⟨A2, 0, none⟩) zs2 ∧ DAt wx zs2 (xs.map dx)) → Calls Tryz.prog 21 #[.slice (some ⟨A2, 0, none⟩) n n, .slice a n c] wx fun e w' => e = .returned (.bool true) ∧ Below wx.heap.size wx w') := hide (fun wx A2 zs2 hb hv => by
        have hb2 := low_trans (unhide HB5) hb
        refine (sameFiles_any (c := n) (c2 := c) (by rw [← unhide HXN]; have := congrArg List.length hv.1; simpa using this) (unhide HXN) (by omega) (DatG.one2 (unhide HGX)) hv.1 hv.2.1 ((unhide HX).low hb2) hv.2.2 (((unhide HGX).low hb2).one)).mono ?_
        rintro e w' ⟨rfl, q, hw⟩
        exact ⟨rfl, by rw [hw]; exact low_q _⟩)
      have hcase : (t1 = false ∨ (t1 = true ∧ t2 = false)) ∨ ((t1 = true ∧ t2 = true ∧ s = false) ∨ (t1 = true ∧ t2 = true ∧ s = true)) := by
        cases t1 <;> cases t2 <;> cases s <;> simp
      have HC := hide hcase
      clear hcase
      rcases unhide HC with (rfl | ⟨rfl, rfl⟩) | (⟨rfl, rfl, rfl⟩ | ⟨rfl, rfl, rfl⟩)
      · clear HSUM HC
        go_wp2_with (go_at_call 19; refine (errno_any _ _).mono ?_; rintro e wn ⟨rfl, hwn⟩; rw [hwn]; clear hwn wn)
        go_loopw [17] (fun v17 wr => ∃ k : Nat, k ≤ n ∧ v17 = .int .i64 (k : Int) ∧ wr = w5 ∧ Hid (∀ j (_ : j < k) (hx : j < xs.length), xs[j].nm ≠ [])) (fun v17 _ => n - (intOf v17).toNat)
        case atStart => exact ⟨0, Nat.zero_le _, rfl, rfl, hide (fun j h => by omega)⟩
        case round =>
          obtain ⟨k, hk, rfl, hwr, hne⟩ := hrel
          rw [hwr]
          clear hwr
          by_cases hlt : k < n
          · have hkx : k < xs.length := by rw [unhide HXN]; exact hlt
            have hlt' : (k : Int) < (n : Int) := by omega
            obtain ⟨B, O, rfl, y0, y1⟩ := ((unhide HX).low (unhide HB5)).get hkx
            by_cases h0 : xs[k].nm = []
            · have i0 : ((ba xs[k].nm).toList == []) = true := by rw [str_eq]; exact decide_eq_true h0
              clear h0 hne y1
              go_wp2
              go_ret
              exact ⟨rfl, unhide HB5⟩
            · have i0 : ((ba xs[k].nm).toList == []) = false := by rw [str_eq]; exact decide_eq_false h0
              have HNE : Hid (∀ j (_ : j < k + 1) (hx : j < xs.length), xs[j].nm ≠ []) := hide (fun j h1 h2 => by
                by_cases e : j = k
                · subst e; exact h0
                · exact unhide hne j (by omega) h2)
              clear h0 hne y1
              go_wp2
              go_roundw
              case rel => exact ⟨k + 1, hlt, by push_cast; rfl, by first | trivial | rfl, HNE⟩
              case measure => simp [intOf]; omega
          · have hke : k = n := by omega
            subst hke
            have hall : ∀ x ∈ xs, x.nm ≠ [] := fun x hx => by
              obtain ⟨j, hj, rfl⟩ := List.getElem_of_mem hx
              exact unhide hne j (by rw [unhide HXN] at hj; exact hj) hj
            have KS2 := hide (unhide KS hall)
            have hS : (w5.cell? ⟨S, 0, none⟩ = some (.string (ba p)) ∧ w5.cell? ⟨S, 1, none⟩ = some (.string (ba v)) ∧ Below w5.heap.size w5 w5) := ⟨(unhide HQ5).cell 0, (unhide HQ5).cell 1, Below.refl _ _⟩
            clear hne hall
            go_wp2
            go_region_held3 (fun wx => (wx.cell? ⟨S, 0, none⟩ = some (.string (ba p)) ∧ wx.cell? ⟨S, 1, none⟩ = some (.string (ba v)) ∧ Below w5.heap.size w5 wx))
              (first | assumption | exact hS | exact ⟨hS.1, hS.2.1, hS.2.2.drew⟩)
              (first
                | (go_at_call 44; refine (unhide KA _ (by assumption)).mono ?_; rintro e w9 ⟨A9, z9, rfl, hv9, hS9⟩)
                | (go_at_call 42; revert hv9; intro hv9; refine (unhide KS2 _ _ _ (by assumption) hv9).mono ?_; rintro e w9 ⟨A8, z8, rfl, hv8, hS9⟩))
            all_goals
              have KF2 := hide (unhide KF w9 A8 z8 hS9.2.2 (unhide hv8))
              have HB9 := hide (low_trans (unhide HB5) hS9.2.2)
              clear hv9 hv8 hS9 hS
              go_wp2_with (first | (go_at_call 19; refine (errno_any _ _).mono ?_; rintro e wn ⟨rfl, hwn⟩; rw [hwn]; clear hwn wn) | (go_at_call 21; fail))
              refine (unhide KF2).mono ?_
              rintro e w10 ⟨rfl, b10⟩
              have HBX := hide (low_trans (unhide HB9) b10)
              go_wp2
              go_ret
              exact ⟨rfl, unhide HBX⟩
      · clear HSUM HC
        go_wp2_with (go_at_call 19; refine (errno_any _ _).mono ?_; rintro e wn ⟨rfl, hwn⟩; rw [hwn]; clear hwn wn)
        go_loopw [17] (fun v17 wr => ∃ k : Nat, k ≤ n ∧ v17 = .int .i64 (k : Int) ∧ wr = w5 ∧ Hid (∀ j (_ : j < k) (hx : j < xs.length), xs[j].nm ≠ [])) (fun v17 _ => n - (intOf v17).toNat)
        case atStart => exact ⟨0, Nat.zero_le _, rfl, rfl, hide (fun j h => by omega)⟩
        case round =>
          obtain ⟨k, hk, rfl, hwr, hne⟩ := hrel
          rw [hwr]
          clear hwr
          by_cases hlt : k < n
          · have hkx : k < xs.length := by rw [unhide HXN]; exact hlt
            have hlt' : (k : Int) < (n : Int) := by omega
            obtain ⟨B, O, rfl, y0, y1⟩ := ((unhide HX).low (unhide HB5)).get hkx
            by_cases h0 : xs[k].nm = []
            · have i0 : ((ba xs[k].nm).toList == []) = true := by rw [str_eq]; exact decide_eq_true h0
              clear h0 hne y1
              go_wp2
              go_ret
              exact ⟨rfl, unhide HB5⟩
            · have i0 : ((ba xs[k].nm).toList == []) = false := by rw [str_eq]; exact decide_eq_false h0
              have HNE : Hid (∀ j (_ : j < k + 1) (hx : j < xs.length), xs[j].nm ≠ []) := hide (fun j h1 h2 => by
                by_cases e : j = k
                · subst e; exact h0
                · exact unhide hne j (by omega) h2)
              clear h0 hne y1
              go_wp2
              go_roundw
              case rel => exact ⟨k + 1, hlt, by push_cast; rfl, by first | trivial | rfl, HNE⟩
              case measure => simp [intOf]; omega
          · have hke : k = n := by omega
            subst hke
            have hall : ∀ x ∈ xs, x.nm ≠ [] := fun x hx => by
              obtain ⟨j, hj, rfl⟩ := List.getElem_of_mem hx
              exact unhide hne j (by rw [unhide HXN] at hj; exact hj) hj
            have KS2 := hide (unhide KS hall)
            have hS : (w5.cell? ⟨S, 0, none⟩ = some (.string (ba p)) ∧ w5.cell? ⟨S, 1, none⟩ = some (.string (ba v)) ∧ Below w5.heap.size w5 w5) := ⟨(unhide HQ5).cell 0, (unhide HQ5).cell 1, Below.refl _ _⟩
            clear hne hall
            go_wp2
            go_region_held3 (fun wx => (wx.cell? ⟨S, 0, none⟩ = some (.string (ba p)) ∧ wx.cell? ⟨S, 1, none⟩ = some (.string (ba v)) ∧ Below w5.heap.size w5 wx))
              (first | assumption | exact hS | exact ⟨hS.1, hS.2.1, hS.2.2.drew⟩)
              (first
                | (go_at_call 44; refine (unhide KA _ (by assumption)).mono ?_; rintro e w9 ⟨A9, z9, rfl, hv9, hS9⟩)
                | (go_at_call 42; revert hv9; intro hv9; refine (unhide KS2 _ _ _ (by assumption) hv9).mono ?_; rintro e w9 ⟨A8, z8, rfl, hv8, hS9⟩))
            all_goals
              have KF2 := hide (unhide KF w9 A8 z8 hS9.2.2 (unhide hv8))
              have HB9 := hide (low_trans (unhide HB5) hS9.2.2)
              clear hv9 hv8 hS9 hS
              go_wp2_with (first | (go_at_call 19; refine (errno_any _ _).mono ?_; rintro e wn ⟨rfl, hwn⟩; rw [hwn]; clear hwn wn) | (go_at_call 21; fail))
              refine (unhide KF2).mono ?_
              rintro e w10 ⟨rfl, b10⟩
              have HBX := hide (low_trans (unhide HB9) b10)
              go_wp2
              go_ret
              exact ⟨rfl, unhide HBX⟩
      · clear HSUM HC
        go_wp2_with (go_at_call 19; refine (errno_any _ _).mono ?_; rintro e wn ⟨rfl, hwn⟩; rw [hwn]; clear hwn wn)
        go_loopw [17] (fun v17 wr => ∃ k : Nat, k ≤ n ∧ v17 = .int .i64 (k : Int) ∧ wr = w5 ∧ Hid (∀ j (_ : j < k) (hx : j < xs.length), xs[j].nm ≠ [])) (fun v17 _ => n - (intOf v17).toNat)
        case atStart => exact ⟨0, Nat.zero_le _, rfl, rfl, hide (fun j h => by omega)⟩
        case round =>
          obtain ⟨k, hk, rfl, hwr, hne⟩ := hrel
          rw [hwr]
          clear hwr
          by_cases hlt : k < n
          · have hkx : k < xs.length := by rw [unhide HXN]; exact hlt
            have hlt' : (k : Int) < (n : Int) := by omega
            obtain ⟨B, O, rfl, y0, y1⟩ := ((unhide HX).low (unhide HB5)).get hkx
            by_cases h0 : xs[k].nm = []
            · have i0 : ((ba xs[k].nm).toList == []) = true := by rw [str_eq]; exact decide_eq_true h0
              clear h0 hne y1
              go_wp2
              go_ret
              exact ⟨rfl, unhide HB5⟩
            · have i0 : ((ba xs[k].nm).toList == []) = false := by rw [str_eq]; exact decide_eq_false h0
              have HNE : Hid (∀ j (_ : j < k + 1) (hx : j < xs.length), xs[j].nm ≠ []) := hide (fun j h1 h2 => by
                by_cases e : j = k
                · subst e; exact h0
                · exact unhide hne j (by omega) h2)
              clear h0 hne y1
              go_wp2
              go_roundw
              case rel => exact ⟨k + 1, hlt, by push_cast; rfl, by first | trivial | rfl, HNE⟩
              case measure => simp [intOf]; omega
          · have hke : k = n := by omega
            subst hke
            have hall : ∀ x ∈ xs, x.nm ≠ [] := fun x hx => by
              obtain ⟨j, hj, rfl⟩ := List.getElem_of_mem hx
              exact unhide hne j (by rw [unhide HXN] at hj; exact hj) hj
            have KS2 := hide (unhide KS hall)
            have hS : (w5.cell? ⟨S, 0, none⟩ = some (.string (ba p)) ∧ w5.cell? ⟨S, 1, none⟩ = some (.string (ba v)) ∧ Below w5.heap.size w5 w5) := ⟨(unhide HQ5).cell 0, (unhide HQ5).cell 1, Below.refl _ _⟩
            clear hne hall
            go_wp2
            go_region_held3 (fun wx => (wx.cell? ⟨S, 0, none⟩ = some (.string (ba p)) ∧ wx.cell? ⟨S, 1, none⟩ = some (.string (ba v)) ∧ Below w5.heap.size w5 wx))
              (first | assumption | exact hS | exact ⟨hS.1, hS.2.1, hS.2.2.drew⟩)
              (first
                | (go_at_call 44; refine (unhide KA _ (by assumption)).mono ?_; rintro e w9 ⟨A9, z9, rfl, hv9, hS9⟩)
                | (go_at_call 42; revert hv9; intro hv9; refine (unhide KS2 _ _ _ (by assumption) hv9).mono ?_; rintro e w9 ⟨A8, z8, rfl, hv8, hS9⟩))
            all_goals
              have KF2 := hide (unhide KF w9 A8 z8 hS9.2.2 (unhide hv8))
              have HB9 := hide (low_trans (unhide HB5) hS9.2.2)
              clear hv9 hv8 hS9 hS
              go_wp2_with (first | (go_at_call 19; refine (errno_any _ _).mono ?_; rintro e wn ⟨rfl, hwn⟩; rw [hwn]; clear hwn wn) | (go_at_call 21; fail))
              refine (unhide KF2).mono ?_
              rintro e w10 ⟨rfl, b10⟩
              have HBX := hide (low_trans (unhide HB9) b10)
              go_wp2
              go_ret
              exact ⟨rfl, unhide HBX⟩
      · have hss := unhide HSUM (by first | trivial | rfl) (by first | trivial | rfl) (by first | trivial | rfl)
        have hs2 : ((ba S1).toList == (ba S2).toList) = true := by simpa using hss
        clear HSUM HC
        go_wp2_with (go_at_call 19; refine (errno_any _ _).mono ?_; rintro e wn ⟨rfl, hwn⟩; rw [hwn]; clear hwn wn)
        go_loopw [17] (fun v17 wr => ∃ k : Nat, k ≤ n ∧ v17 = .int .i64 (k : Int) ∧ wr = w5 ∧ Hid (∀ j (_ : j < k) (hx : j < xs.length), xs[j].nm ≠ [])) (fun v17 _ => n - (intOf v17).toNat)
        case atStart => exact ⟨0, Nat.zero_le _, rfl, rfl, hide (fun j h => by omega)⟩
        case round =>
          obtain ⟨k, hk, rfl, hwr, hne⟩ := hrel
          rw [hwr]
          clear hwr
          by_cases hlt : k < n
          · have hkx : k < xs.length := by rw [unhide HXN]; exact hlt
            have hlt' : (k : Int) < (n : Int) := by omega
            obtain ⟨B, O, rfl, y0, y1⟩ := ((unhide HX).low (unhide HB5)).get hkx
            by_cases h0 : xs[k].nm = []
            · have i0 : ((ba xs[k].nm).toList == []) = true := by rw [str_eq]; exact decide_eq_true h0
              clear h0 hne y1
              go_wp2
              go_ret
              exact ⟨rfl, unhide HB5⟩
            · have i0 : ((ba xs[k].nm).toList == []) = false := by rw [str_eq]; exact decide_eq_false h0
              have HNE : Hid (∀ j (_ : j < k + 1) (hx : j < xs.length), xs[j].nm ≠ []) := hide (fun j h1 h2 => by
                by_cases e : j = k
                · subst e; exact h0
                · exact unhide hne j (by omega) h2)
              clear h0 hne y1
              go_wp2
              go_roundw
              case rel => exact ⟨k + 1, hlt, by push_cast; rfl, by first | trivial | rfl, HNE⟩
              case measure => simp [intOf]; omega
          · have hke : k = n := by omega
            subst hke
            have hall : ∀ x ∈ xs, x.nm ≠ [] := fun x hx => by
              obtain ⟨j, hj, rfl⟩ := List.getElem_of_mem hx
              exact unhide hne j (by rw [unhide HXN] at hj; exact hj) hj
            have KS2 := hide (unhide KS hall)
            have hS : (w5.cell? ⟨S, 0, none⟩ = some (.string (ba p)) ∧ w5.cell? ⟨S, 1, none⟩ = some (.string (ba v)) ∧ Below w5.heap.size w5 w5) := ⟨(unhide HQ5).cell 0, (unhide HQ5).cell 1, Below.refl _ _⟩
            clear hne hall
            go_wp2
            go_region_held3 (fun wx => (wx.cell? ⟨S, 0, none⟩ = some (.string (ba p)) ∧ wx.cell? ⟨S, 1, none⟩ = some (.string (ba v)) ∧ Below w5.heap.size w5 wx))
              (first | assumption | exact hS | exact ⟨hS.1, hS.2.1, hS.2.2.drew⟩)
              (first
                | (go_at_call 44; refine (unhide KA _ (by assumption)).mono ?_; rintro e w9 ⟨A9, z9, rfl, hv9, hS9⟩)
                | (go_at_call 42; revert hv9; intro hv9; refine (unhide KS2 _ _ _ (by assumption) hv9).mono ?_; rintro e w9 ⟨A8, z8, rfl, hv8, hS9⟩))
            all_goals
              have KF2 := hide (unhide KF w9 A8 z8 hS9.2.2 (unhide hv8))
              have HB9 := hide (low_trans (unhide HB5) hS9.2.2)
              clear hv9 hv8 hS9 hS
              go_wp2_with (first | (go_at_call 19; refine (errno_any _ _).mono ?_; rintro e wn ⟨rfl, hwn⟩; rw [hwn]; clear hwn wn) | (go_at_call 21; fail))
              refine (unhide KF2).mono ?_
              rintro e w10 ⟨rfl, b10⟩
              have HBX := hide (low_trans (unhide HB9) b10)
              go_wp2
              go_ret
              exact ⟨rfl, unhide HBX⟩
end Go.Proofs.YtkablmjkffdloaaGreatDoor
