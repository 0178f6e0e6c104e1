/-
  Files under other names, in memory of their own: each file's bytes are a row of our own.
-/
import Derived.Test.YtkablmjkffdloaaGreatDoorFlsB
import Derived.Test.YtkablmjkffdloaaGreatDoorUnpX
import Derived.Test.YtkablmjkffdloaaGreatDoorArcQ
import Derived.Test.YtkablmjkffdloaaGreatDoorPckA
import Derived.Test.YtkablmjkffdloaaGreatDoorTelY
import Derived.Test.YtkablmjkffdloaaGreatDoorFlsC
import Derived.Test.YtkablmjkffdloaaGreatDoorByX
namespace Go.Proofs.YtkablmjkffdloaaGreatDoor
open Go.RowKit

theorem cloneO_any {w : World} {a : Option Addr} {n c : Nat} {b : Bs} (hn : b.length = n) (hN : n ≤ 1073741824) (hf : a = none ∨ (∃ B O, a = some ⟨B, O, none⟩) ∨ ∃ y, a = some y ∧ n = 0 ∧ c = 0) (h : BAt w a b) :
    Calls Tryz.prog 134 #[.slice a n c] w fun e w' => ∃ a' c', e = .returned (.slice a' n c') ∧ OwnB w.heap.size w' (.slice a' n c') b ∧ Below w.heap.size w w' := by
  rcases hf with rfl | hf
  · have hb : b = [] := by
      rcases h.els with h0 | ⟨B, O, e, _⟩
      · exact h0
      · cases e
    subst hb
    simp at hn
    subst hn
    refine (Tryz.bytes_Clone_nil 0 c w).mono ?_
    rintro e w' ⟨rfl, rfl⟩
    exact ⟨none, 0, rfl, World.ownsRow_nil _ _ _ _, Below.refl _ _⟩
  · obtain ⟨A, rfl, hA⟩ : ∃ A : Addr, a = some A ∧ ((∃ B O, A = ⟨B, O, none⟩) ∨ n = 0) := by
      rcases hf with ⟨B, O, rfl⟩ | ⟨y, rfl, h0, _⟩
      · exact ⟨_, rfl, Or.inl ⟨B, O, rfl⟩⟩
      · exact ⟨y, rfl, Or.inr h0⟩
    refine (Tryz.bytes_Clone_at A n c (b.map fun x => (x.toNat : Int)) w (by rw [List.length_map]; exact hn) (by omega) (fun i hi => ?_)).mono ?_
    · have hil : i < b.length := by omega
      obtain ⟨B', O', e, h1⟩ := h.at hil
      obtain rfl := Option.some.inj e
      rw [WideShapes.add_plain, h1]
      simp [hil]
    · rintro e w' ⟨v', rfl, ho, -, hb⟩
      have ho2 : OwnB w.heap.size w' v' b := by
        unfold OwnB
        rw [List.map_map] at ho
        rw [hn]
        exact ho
      obtain ⟨a', c', hv, -, -, -⟩ := OwnB.at ho2
      rw [hn] at hv
      subst hv
      exact ⟨a', c', rfl, ho2, hb⟩
/-- Each file's bytes are a row of our own, none of them at block G. -/
structure OAll (base G : Nat) (w : World) (ys : List Fl) (ds : List Bs) : Prop where
  len : ds.length = ys.length
  one : ∀ k (h1 : k < ys.length) (h2 : k < ds.length), ds[k].length = ys[k].n ∧ OwnB base w (.slice ys[k].a ys[k].n ys[k].c) ds[k] ∧ (Value.slice ys[k].a ys[k].n ys[k].c).ownBlock ≠ some G
  ap : ∀ j k (hj : j < ys.length) (hk : k < ys.length), j < k → ∀ g, (Value.slice ys[k].a ys[k].n ys[k].c).ownBlock = some g → (Value.slice ys[j].a ys[j].n ys[j].c).ownBlock ≠ some g
theorem OAll.low {base G : Nat} {w w' : World} {ys : List Fl} {ds : List Bs} (h : OAll base G w ys ds) (b : Below w.heap.size w w') : OAll base G w' ys ds := ⟨h.len, fun k h1 h2 => ⟨(h.one k h1 h2).1, OwnB.low (h.one k h1 h2).2.1 b, (h.one k h1 h2).2.2⟩, h.ap⟩
theorem OwnB.but {base G : Nat} {w w' : World} {v : Value} {l : Bs} (h : OwnB base w v l) (hne : v.ownBlock ≠ some G) (hb : ButM G w w') : OwnB base w' v l :=
  OwnB.keep h fun g hg => hb.block g (OwnB.lt h g hg) (fun e => hne (by rw [hg, e]))
theorem OAll.dat {base G : Nat} {w : World} {ys : List Fl} {ds : List Bs} (h : OAll base G w ys ds) : DAt w ys ds := ⟨h.len, fun k h1 h2 => by
  obtain ⟨e, o, -⟩ := h.one k h1 h2
  refine ⟨e, ?_⟩
  obtain ⟨a', c', hv, hat, -, -⟩ := OwnB.at o
  injection hv with q1 q2 q3
  rw [q1]
  exact hat⟩

set_option maxRecDepth 100000 in
set_option maxHeartbeats 8000000 in
theorem renamed77 {w : World} {a : Option Addr} {n c : Nat} {xs : List Fl} {ds : List Bs} {R : Bs → Bs} (hx : xs.length = n) (hn : n ≤ 1000) (h : FAt w a xs) (hd : DAt w xs ds) (hf : ∀ x ∈ xs, (x.a = none ∨ (∃ B O, x.a = some ⟨B, O, none⟩) ∨ ∃ y, x.a = some y ∧ x.n = 0 ∧ x.c = 0) ∧ x.n ≤ 1073741824)
    (hR : ∀ W, Below w.heap.size w W → ∀ x ∈ xs, Calls Tryz.prog 77 #[.string (ba x.nm)] W fun e w' => e = .returned (.string (ba (R x.nm))) ∧ w' = W) :
    Calls Tryz.prog 76 #[.slice a n c, .func (.func 77) #[] #[]] w fun e w' => ∃ A ys, e = .returned (.slice (some ⟨A, 0, none⟩) n n) ∧ ys.map Fl.nm = (xs.map Fl.nm).map R ∧ FRow w.heap.size w' (.slice (some ⟨A, 0, none⟩) n n) ys ∧ OAll w.heap.size A w' ys ds ∧ Below w.heap.size w w' := by
  obtain ⟨G, hG⟩ : ∃ G, w.heap.size = G := ⟨_, rfl⟩
  obtain ⟨i0, hi0, hz0, hz1, hz2⟩ := info56p
  have hmk := run_make (P := Tryz.prog) w 22 56 i0 _ Tryz.underlying22 hi0 hz0 .i64 .i64 (n : Int) (n : Int) (by omega) (Int.le_refl _) (by rw [hz2]; omega) (by omega)
  simp only [Int.toNat_natCast] at hmk
  obtain ⟨cs0, hcs0⟩ : ∃ cs, madeCells (Value.agg #[.string ⟨#[]⟩, .slice none 0 0]).cells (n * i0.size) = cs := ⟨_, rfl⟩
  have hcz : cs0.size = n * 2 := by rw [← hcs0, size_madeCells, hz1]
  rw [hcs0] at hmk
  obtain ⟨W1, hW1⟩ : ∃ W1, w.alloc (.cells cs0 56) = W1 := ⟨_, rfl⟩
  rw [hW1, hG] at hmk
  have b1 : Below w.heap.size w W1 := by rw [← hW1]; exact lowAA (Below.refl _ _) _
  have q1 : Blk W1 G cs0 56 := by rw [← hW1, ← hG]; exact Blk.new _ _ _
  have HX := hide hx
  have HA := hide h
  have HD := hide hd
  have HFo := hide hf
  have HR := hide hR
  have HB1 := hide b1
  have HQ1 := hide q1
  have HG := hide hG
  have HCZ := hide hcz
  clear hx h hd hf hR hi0 hz0 hz1 hz2 hcs0 hcz hW1 b1 q1 hG
  go_enter Tryz.func76, Tryz.ntmps76
  go_wp2
  go_loopw [6, 7, 13] (fun _ _ v13 wr => ∃ (k : Nat) (cs : Array Value) (ys : List Fl), k ≤ n ∧ v13 = .int .i64 (k : Int) ∧ Blk wr G cs 56 ∧ cs.size = n * 2 ∧ ys.length = k ∧ Hid (cs.toList.take (k * 2) = flsV ys) ∧ Hid (ys.map Fl.nm = ((xs.take k).map Fl.nm).map R) ∧ Hid (OAll w.heap.size G wr ys (ds.take k)) ∧ Below w.heap.size w wr) (fun _ _ v13 _ => n - (intOf v13).toNat)
  case atStart => exact ⟨0, cs0, [], Nat.zero_le _, rfl, unhide HQ1, unhide HCZ, rfl, hide (by simp [flsV]), hide (by simp), hide ⟨by simp, (fun k h => by simp at h), (fun j k h => by simp at h)⟩, unhide HB1⟩
  case round =>
    rename World => wr
    obtain ⟨k, cs, ys, hk, rfl, hq, hcs, hyl, htake, hnm, hda, hbw⟩ := hrel
    by_cases hlt : k < n
    · have hkx : k < xs.length := by rw [unhide HX]; exact hlt
      have hkd : k < ds.length := by rw [(unhide HD).len]; exact hkx
      have hlt' : (k : Int) < (n : Int) := by omega
      obtain ⟨B, O, rfl, g0, g1⟩ := ((unhide HA).low hbw).get hkx
      obtain ⟨l1, t0⟩ := (unhide HD).one k hkx hkd
      have hff := unhide HFo _ (List.getElem_mem hkx)
      have hmem : xs[k] ∈ xs := List.getElem_mem hkx
      have htk := take_sn hkx
      have htd := take_sn hkd
      obtain ⟨x, hxx⟩ : ∃ x, xs[k] = x := ⟨_, rfl⟩
      obtain ⟨d, hdd⟩ : ∃ d, ds[k] = d := ⟨_, rfl⟩
      rw [hxx] at g0 g1 l1 t0 hff hmem htk
      rw [hdd] at l1 t0 htd
      obtain ⟨nm, xa, xn, xc⟩ := x
      simp only at g0 g1 l1 t0 hff
      obtain ⟨y, hy⟩ : ∃ y, R nm = y := ⟨_, rfl⟩
      obtain ⟨S, hS0⟩ : ∃ S, wr.heap.size = S := ⟨_, rfl⟩
      obtain ⟨W2, hW2⟩ : ∃ W2, wr.alloc (.cells #[.string (ba nm), .slice xa xn xc] 56) = W2 := ⟨_, rfl⟩
      have b2 : Below wr.heap.size wr W2 := by rw [← hW2]; exact lowAA (Below.refl _ _) _
      have q2 : Blk W2 S #[.string (ba nm), .slice xa xn xc] 56 := by rw [← hW2, ← hS0]; exact Blk.new _ _ _
      have q3 := hq.low b2
      have HBW := hide hbw
      have HB2 := hide (low_trans hbw b2)
      have hSG : S ≠ G := by have := hq.lt; omega
      have H1 : Hid (∀ wx, ((wx.cell? ⟨S, 0, none⟩ = some (.string (ba nm)) ∧ wx.cell? ⟨S, 1, none⟩ = some (.slice xa xn xc)) ∧ (wx.frozen? ⟨G, k * 2, none⟩ = false ∧ wx.frozen? ⟨G, k * 2 + 1, none⟩ = false) ∧ RenS W2 G k cs wx) → Calls Tryz.prog 77 #[.string (ba nm)] wx fun e w' => e = .returned (.string (ba y)) ∧ ((w'.cell? ⟨S, 0, none⟩ = some (.string (ba nm)) ∧ w'.cell? ⟨S, 1, none⟩ = some (.slice xa xn xc)) ∧ (w'.frozen? ⟨G, k * 2, none⟩ = false ∧ w'.frozen? ⟨G, k * 2 + 1, none⟩ = false) ∧ RenS W2 G k cs w')) := hide (fun wx hw => by
        have kk := unhide HR wx (hw.2.2.1.low (unhide HB2) (unhide HB2).size (by rw [unhide HG]; exact Nat.le_refl _)) _ hmem
        simp only at kk
        rw [hy] at kk
        refine kk.mono ?_
        rintro e w' ⟨rfl, rfl⟩
        exact ⟨rfl, hw⟩)
      have H2 : Hid (∀ wx, ((wx.cell? ⟨S, 0, none⟩ = some (.string (ba nm)) ∧ wx.cell? ⟨S, 1, none⟩ = some (.slice xa xn xc)) ∧ (wx.frozen? ⟨G, k * 2, none⟩ = false ∧ wx.frozen? ⟨G, k * 2 + 1, none⟩ = false) ∧ RenS W2 G k cs wx) → Calls Tryz.prog 134 #[.slice xa xn xc] wx fun e w' => ∃ a' c', e = .returned (.slice a' xn c') ∧ Hid (OwnB W2.heap.size w' (.slice a' xn c') d) ∧ ((w'.cell? ⟨S, 0, none⟩ = some (.string (ba nm)) ∧ w'.cell? ⟨S, 1, none⟩ = some (.slice xa xn xc)) ∧ (w'.frozen? ⟨G, k * 2, none⟩ = false ∧ w'.frozen? ⟨G, k * 2 + 1, none⟩ = false) ∧ RenS W2 G k cs w')) := hide (fun wx hw => by
        refine (cloneO_any l1 hff.2 hff.1 (t0.low (hw.2.2.1.low (unhide HB2) (unhide HB2).size (by rw [unhide HG]; exact Nat.le_refl _)))).mono ?_
        rintro e w' ⟨a', c', rfl, hat, b⟩
        exact ⟨a', c', rfl, hide (OwnB.less hw.2.2.1.size hat), ren_low hw b⟩)
      have hS : ((W2.cell? ⟨S, 0, none⟩ = some (.string (ba nm)) ∧ W2.cell? ⟨S, 1, none⟩ = some (.slice xa xn xc)) ∧ (W2.frozen? ⟨G, k * 2, none⟩ = false ∧ W2.frozen? ⟨G, k * 2 + 1, none⟩ = false) ∧ RenS W2 G k cs W2) := ⟨⟨q2.cell 0, q2.cell 1⟩, ⟨q3.free _, q3.free _⟩, ButM.of (Below.refl _ _), cs, q3, rfl, fun _ _ _ => rfl⟩
      obtain ⟨vf0, hvf0⟩ := ren_cell (W2 := W2) (G := G) (k := k) (i := k * 2) hcs (by omega)
      obtain ⟨vf1, hvf1⟩ := ren_cell (W2 := W2) (G := G) (k := k) (i := k * 2 + 1) hcs (by omega)
      have HQ2 := hide q2
      have HY := hide hy
      have HDD := hide hdd
      have HL1 := hide l1
      have HB2w := hide b2
      have HQ3 := hide q3
      have HW2 := hide hW2
      have HS0 := hide hS0
      clear hq hxx hdd hy hS0 hW2 b2 q2 q3 hbw l1 t0 hff hmem
      go_wp2
      rw [unhide HW2, unhide HS0]
      clear g0 g1
      go_region_held3 (fun wx => ((wx.cell? ⟨S, 0, none⟩ = some (.string (ba nm)) ∧ wx.cell? ⟨S, 1, none⟩ = some (.slice xa xn xc)) ∧ (wx.frozen? ⟨G, k * 2, none⟩ = false ∧ wx.frozen? ⟨G, k * 2 + 1, none⟩ = false) ∧ RenS W2 G k cs wx))
        (first | assumption | exact hS | exact ren_low hS (Below.refl _ _).drew | exact ren_put hSG (by assumption))
        (first
          | (go_at_call 77; revert hv9; intro hv9; refine (unhide H1 _ (by assumption)).mono ?_; rintro e w9 ⟨rfl, hS9⟩)
          | (go_at_call 77; refine (unhide H1 _ (by assumption)).mono ?_; rintro e w9 ⟨rfl, hS9⟩)
          | (go_at_call 134; refine (unhide H2 _ (by assumption)).mono ?_; rintro e w9 ⟨a9, c9, rfl, hv9, hS9⟩))
      all_goals
        obtain ⟨-, -, hR9⟩ := hS9
        have hat9 := unhide hv9
        have hP9 := hR9.put (a := .string (ba y)) (b := .slice a9 xn c9)
        obtain ⟨hbm, cs', hq9, hs9, hj9⟩ := hR9
        have hGW : G < W2.heap.size := (unhide HQ3).lt
        have HQZ := hide ((hq9.set (k * 2) (.string (ba y))).set (k * 2 + 1) (.slice a9 xn c9))
        have HSZ : Hid (((cs'.setIfInBounds (k * 2) (.string (ba y))).setIfInBounds (k * 2 + 1) (.slice a9 xn c9)).size = n * 2) := hide (by simp; omega)
        have HTZ := hide (fls_put (x := ⟨y, a9, xn, c9⟩) hlt hcs hs9 hj9 hyl (unhide htake))
        have HLZ : Hid ((ys ++ [(⟨y, a9, xn, c9⟩ : Fl)]).length = k + 1) := hide (by simp [hyl])
        have HNZ : Hid ((ys ++ [(⟨y, a9, xn, c9⟩ : Fl)]).map Fl.nm = ((xs.take (k + 1)).map Fl.nm).map R) := hide (by
          rw [htk, List.map_append, List.map_append, List.map_append, unhide hnm]
          simp [unhide HY])
        have HDZ : Hid (OAll w.heap.size G ((w9.setCell ⟨G, k * 2, none⟩ (.string (ba y))).setCell ⟨G, k * 2 + 1, none⟩ (.slice a9 xn c9)) (ys ++ [⟨y, a9, xn, c9⟩]) (ds.take (k + 1))) := hide (by
          have hd0 := unhide hda
          have hlt2 : (ds.take k).length = k := by rw [List.length_take]; omega
          have hap : ∀ j q (hj : j < (ys ++ [(⟨y, a9, xn, c9⟩ : Fl)]).length) (hq : q < (ys ++ [(⟨y, a9, xn, c9⟩ : Fl)]).length), j < q → ∀ g, (Value.slice (ys ++ [(⟨y, a9, xn, c9⟩ : Fl)])[q].a (ys ++ [(⟨y, a9, xn, c9⟩ : Fl)])[q].n (ys ++ [(⟨y, a9, xn, c9⟩ : Fl)])[q].c).ownBlock = some g → (Value.slice (ys ++ [(⟨y, a9, xn, c9⟩ : Fl)])[j].a (ys ++ [(⟨y, a9, xn, c9⟩ : Fl)])[j].n (ys ++ [(⟨y, a9, xn, c9⟩ : Fl)])[j].c).ownBlock ≠ some g := fun j q hj hq hjq g hg => by
            have hj2 : j < ys.length := by rw [List.length_append] at hq; simp at hq; omega
            have e1 : (ys ++ [(⟨y, a9, xn, c9⟩ : Fl)])[j] = ys[j]'hj2 := List.getElem_append_left hj2
            rw [e1]
            by_cases hq2 : q < ys.length
            · have e2 : (ys ++ [(⟨y, a9, xn, c9⟩ : Fl)])[q] = ys[q]'hq2 := List.getElem_append_left hq2
              rw [e2] at hg
              exact hd0.ap j q hj2 hq2 hjq g hg
            · have e2 : (ys ++ [(⟨y, a9, xn, c9⟩ : Fl)])[q] = ⟨y, a9, xn, c9⟩ := by
                rw [List.getElem_append_right (by omega)]
                simp
              rw [e2] at hg
              intro e
              have g1 := OwnB.base hat9 g hg
              have g2 := OwnB.lt (hd0.one j hj2 (by omega)).2.1 g e
              have g3 := (unhide HB2w).size
              omega
          refine ⟨by rw [htd, List.length_append, List.length_append, hlt2, hyl]; rfl, fun j h1 h2 => ?_, hap⟩
          have hbb : ButM G w9 ((w9.setCell ⟨G, k * 2, none⟩ (.string (ba y))).setCell ⟨G, k * 2 + 1, none⟩ (.slice a9 xn c9)) := ButM.trans but_put but_put
          by_cases hjk : j < k
          · have e1 : (ys ++ [(⟨y, a9, xn, c9⟩ : Fl)])[j] = ys[j]'(by omega) := List.getElem_append_left (by omega)
            have e2 : (ds.take (k + 1))[j] = (ds.take k)[j]'(by omega) := by rw [List.getElem_take, List.getElem_take]
            obtain ⟨l9, t9, n9⟩ := hd0.one j (by omega) (by omega)
            rw [e1, e2]
            exact ⟨l9, ((OwnB.low t9 (unhide HB2w)).but n9 hbm).but n9 hbb, n9⟩
          · have hje : j = k := by rw [List.length_append] at h1; simp at h1; omega
            subst hje
            have e1 : (ys ++ [(⟨y, a9, xn, c9⟩ : Fl)])[j] = ⟨y, a9, xn, c9⟩ := by rw [List.getElem_append_right (by omega)]; simp
            have e2 : (ds.take (j + 1))[j] = d := by rw [List.getElem_take]; exact unhide HDD
            have n9 : (Value.slice a9 xn c9).ownBlock ≠ some G := fun e => by
              have := OwnB.base hat9 G e
              omega
            rw [e1, e2]
            exact ⟨unhide HL1, OwnB.less (unhide HB2).size (hat9.but n9 hbb), n9⟩)
        have HBZ := hide (hP9.1.low (unhide HB2) (unhide HB2).size (by rw [unhide HG]; exact Nat.le_refl _))
        clear hv9 hat9 hP9 hbm hq9 hs9 hj9 hvf0 hvf1 hS
        go_wp2
        go_roundw
        case rel => exact ⟨k + 1, _, ys ++ [⟨y, a9, xn, c9⟩], hlt, by push_cast; rfl, unhide HQZ, unhide HSZ, unhide HLZ, HTZ, HNZ, HDZ, unhide HBZ⟩
        case measure => simp [intOf]; omega
    · have hke : k = n := by omega
      subst hke
      have HZ := hide (And.intro hq hbw)
      have hyl2 := hyl
      have HN : Hid (ys.map Fl.nm = (xs.map Fl.nm).map R) := hide (by
        have h1 := unhide hnm
        rw [List.take_of_length_le (by rw [unhide HX]; exact Nat.le_refl _)] at h1
        exact h1)
      have HDD : Hid (OAll w.heap.size G wr ys ds) := hide (by
        have h1 := unhide hda
        rw [List.take_of_length_le (by rw [(unhide HD).len, unhide HX]; exact Nat.le_refl _)] at h1
        exact h1)
      have HT := hide (unhide htake)
      have HC := hide hcs
      have HY := hide hyl
      clear hq hbw hnm hda htake hcs hyl hyl2
      go_wp2
      go_ret
      refine ⟨G, ys, rfl, unhide HN, ?_, unhide HDD, (unhide HZ).2⟩
      have hyk := unhide HY
      have h1 := unhide HT
      unfold FRow
      refine ⟨flsV_length ys, Or.inr ⟨G, k, cs, by rw [hyk], by rw [unhide HG]; exact Nat.le_refl _, (unhide HZ).1, by omega, by unfold maxLen; omega, unhide HC, ?_⟩⟩
      rw [hyk]
      exact h1
end Go.Proofs.YtkablmjkffdloaaGreatDoor

namespace Go.Proofs.YtkablmjkffdloaaGreatDoor
open Go.RowKit

theorem getN_leN (x : Nat) : ∀ i, getN (leN i x) = x % 2 ^ (8 * i)
  | 0 => by simp [leN, getN, Nat.mod_one]
  | i + 1 => by
    show getN (leN i x ++ [UInt8.ofNat (x / 2 ^ (8 * i) % 256)]) = _
    rw [getN_snoc, getN_leN x i, leN_len]
    have e : (UInt8.ofNat (x / 2 ^ (8 * i) % 256)).toNat = x / 2 ^ (8 * i) % 256 := by simp
    rw [e, show 8 * (i + 1) = 8 * i + 8 by omega, Nat.pow_add, Nat.mod_mul, show (256 : Nat) ^ i = 2 ^ (8 * i) by rw [show (256 : Nat) = 2 ^ 8 from rfl, ← Nat.pow_mul]]
    rw [Nat.mul_comm (2 ^ (8 * i))]
theorem getN_leN4 {x : Nat} (h : x < 4294967296) : getN (leN 4 x) = x := by rw [getN_leN]; exact Nat.mod_eq_of_lt h
theorem getN_leN2 {x : Nat} (h : x < 65536) : getN (leN 2 x) = x := by rw [getN_leN]; exact Nat.mod_eq_of_lt h

def ndOk (p : Nd) : Prop := p.1.length < 65536 ∧ p.2.length < 4294967296
def sfP (p : Nd) : Sf := ⟨p.1, p.2, (crcL p.2).toNat⟩
theorem headL_parts (p : Nd) (T : Bs) : ∃ A : Bs, A.length = 14 ∧ headL p ++ T = A ++ (leN 4 (crcL p.2).toNat ++ (leN 4 p.2.length ++ (leN 4 p.2.length ++ (leN 2 p.1.length ++ (leN 2 0 ++ (p.1 ++ (p.2 ++ T))))))) ∧ A.take 4 = [80, 75, 3, 4] := by
  refine ⟨[80, 75, 3, 4] ++ leAll 2 [20, 0, 0, 0, 33], by rw [List.length_append, leAll_len]; rfl, ?_, rfl⟩
  unfold headL descL
  have e3 : ∀ a b c : Nat, leAll 4 [a, b, c] = leN 4 a ++ (leN 4 b ++ leN 4 c) := fun a b c => by unfold leAll; simp
  have e2 : ∀ a b : Nat, leAll 2 [a, b] = leN 2 a ++ leN 2 b := fun a b => by unfold leAll; simp
  rw [e3, e2]
  simp only [List.append_assoc]
theorem drop_len {A B : Bs} {n : Nat} (h : A.length = n) : (A ++ B).drop n = B := List.drop_left' h
theorem take_len {A B : Bs} {n : Nat} (h : A.length = n) : (A ++ B).take n = A := List.take_left' h
theorem head_reads {p : Nd} (hp : ndOk p) (T : Bs) : (headL p ++ T).take 4 = [80, 75, 3, 4] ∧ 30 + p.1.length + p.2.length ≤ (headL p ++ T).length ∧ nmN (headL p ++ T) = p.1.length ∧ daN (headL p ++ T) = p.2.length ∧ sfOf (headL p ++ T) = sfP p ∧ restOf (headL p ++ T) = T := by
  obtain ⟨A, hA, e, h4⟩ := headL_parts p T
  have hlen := headL_len p
  have l4 : ∀ x, (leN 4 x).length = 4 := fun x => leN_len x 4
  have l2 : ∀ x, (leN 2 x).length = 2 := fun x => leN_len x 2
  have d14 : (headL p ++ T).drop 14 = leN 4 (crcL p.2).toNat ++ (leN 4 p.2.length ++ (leN 4 p.2.length ++ (leN 2 p.1.length ++ (leN 2 0 ++ (p.1 ++ (p.2 ++ T)))))) := by rw [e]; exact drop_len hA
  have d18 : (headL p ++ T).drop 18 = leN 4 p.2.length ++ (leN 4 p.2.length ++ (leN 2 p.1.length ++ (leN 2 0 ++ (p.1 ++ (p.2 ++ T))))) := by
    rw [show 18 = 14 + 4 from rfl, ← List.drop_drop, d14]; exact drop_len (l4 _)
  have d22 : (headL p ++ T).drop 22 = leN 4 p.2.length ++ (leN 2 p.1.length ++ (leN 2 0 ++ (p.1 ++ (p.2 ++ T)))) := by
    rw [show 22 = 18 + 4 from rfl, ← List.drop_drop, d18]; exact drop_len (l4 _)
  have d26 : (headL p ++ T).drop 26 = leN 2 p.1.length ++ (leN 2 0 ++ (p.1 ++ (p.2 ++ T))) := by
    rw [show 26 = 22 + 4 from rfl, ← List.drop_drop, d22]; exact drop_len (l4 _)
  have d28 : (headL p ++ T).drop 28 = leN 2 0 ++ (p.1 ++ (p.2 ++ T)) := by
    rw [show 28 = 26 + 2 from rfl, ← List.drop_drop, d26]; exact drop_len (l2 _)
  have d30 : (headL p ++ T).drop 30 = p.1 ++ (p.2 ++ T) := by
    rw [show 30 = 28 + 2 from rfl, ← List.drop_drop, d28]; exact drop_len (l2 _)
  have hn : nmN (headL p ++ T) = p.1.length := by unfold nmN; rw [d26, take_len (l2 _), getN_leN2 hp.1]
  have hd : daN (headL p ++ T) = p.2.length := by unfold daN; rw [d18, take_len (l4 _), getN_leN4 hp.2]
  have hc : crN (headL p ++ T) = (crcL p.2).toNat := by unfold crN; rw [d14, take_len (l4 _), getN_leN4 (u32_lt _)]
  refine ⟨?_, by rw [List.length_append, hlen]; omega, hn, hd, ?_, ?_⟩
  · rw [e, List.take_append_of_le_length (by omega)]; exact h4
  · unfold sfOf sfP
    rw [hn, hd, hc, d30, take_len rfl, drop_len rfl, take_len rfl]
  · unfold restOf
    rw [hn, hd, d30, drop_len rfl, drop_len rfl]
theorem heads_back : ∀ (l : List Nd) (T : Bs), (∀ p ∈ l, ndOk p) → ¬ T.take 4 = [80, 75, 3, 4] → headsR (headsL l ++ T) = some (l.map sfP)
  | [], T, _, hT => by
    rw [show headsL [] ++ T = T from rfl, headsR_no hT]
    rfl
  | p :: l, T, h, hT => by
    have e : headsL (p :: l) ++ T = headL p ++ (headsL l ++ T) := by
      unfold headsL
      rw [List.flatMap_cons, List.append_assoc]
    obtain ⟨h1, h2, h3, h4, h5, h6⟩ := head_reads (h p (by simp)) (headsL l ++ T)
    rw [e, headsR_next h1 (by omega) (by rw [h3, h4]; omega), h5, h6, heads_back l T (fun q hq => h q (by simp [hq])) hT]
    rfl
theorem arc_back {l : List Nd} (h : ∀ p ∈ l, ndOk p) : headsR (arcL l) = some (l.map sfP) := by
  unfold arcL
  rw [List.append_assoc]
  refine heads_back l _ h ?_
  cases l with
  | nil => decide
  | cons p r =>
    intro e
    have h2 := congrArg (fun x : Bs => x.drop 2 |>.take 1) e
    simp [entsL, entryL] at h2
end Go.Proofs.YtkablmjkffdloaaGreatDoor

namespace Go.Proofs.YtkablmjkffdloaaGreatDoor
open Go.RowKit

def sfN (s : Sf) : Nd := (s.nm, s.d)
theorem chk_nm : ∀ (l : List Sf) (seen : List Bs), chkE seen l = 0 → nmE seen (l.map Sf.nm) = 0 ∧ ∀ s ∈ l, nameF s.nm = true
  | [], _, _ => ⟨rfl, by simp⟩
  | s :: r, seen, h => by
    simp only [chkE] at h
    split at h
    · cases h
    · rename_i h1
      split at h
      · cases h
      · rename_i h2
        split at h
        · cases h
        · obtain ⟨h3, h4⟩ := chk_nm r _ h
          refine ⟨by simp only [List.map_cons, nmE, if_neg h1, if_neg h2]; exact h3, fun x hx => ?_⟩
          rcases List.mem_cons.1 hx with rfl | hx
          · simpa using h1
          · exact h4 x hx
theorem bat_uniq {w : World} {a : Option Addr} {d d' : Bs} (h : BAt w a d) (h' : BAt w a d') (hl : d.length = d'.length) : d = d' := by
  apply List.ext_getElem hl
  intro i h1 h2
  obtain ⟨B, O, e, k1⟩ := h.at h1
  obtain ⟨B', O', e', k2⟩ := h'.at h2
  rw [e] at e'
  cases e'
  rw [k1] at k2
  simp at k2
  exact UInt8.toNat_inj.1 (by omega)
noncomputable def datW (w : World) (x : Fl) : Bs := Classical.epsilon fun d => d.length = x.n ∧ BAt w x.a d
theorem datW_is {w : World} {x : Fl} {d : Bs} (h1 : d.length = x.n) (h2 : BAt w x.a d) : datW w x = d := by
  have h : ∃ d, d.length = x.n ∧ BAt w x.a d := ⟨d, h1, h2⟩
  have h3 := Classical.epsilon_spec h
  exact bat_uniq h3.2 h2 (h3.1.trans h1.symm)
theorem datW_sd {w : World} {acc : List Sd} (h : SdsOk w acc) {s : Sd} (hs : s ∈ acc) : datW w (sdFl s) = s.d := datW_is rfl (h s hs).2.2.2
theorem dats {w : World} {acc : List Sd} (h : SdsOk w acc) : (acc.map sdFl).map (ndF (datW w)) = (acc.map sdF).map sfN := by
  rw [List.map_map, List.map_map]
  apply List.map_congr_left
  intro s hs
  show (s.nm, datW w (sdFl s)) = (s.nm, s.d)
  rw [datW_sd h hs]
theorem dat_g {w : World} {acc : List Sd} (h : SdsOk w acc) (hl : ∀ x ∈ acc, x.d.length ≤ 1048576) (hnm : ∀ x ∈ acc, x.nm.length ≤ 100000) : DatG w (acc.map sdFl) (datW w) := by
  refine ⟨fun x hx => ?_, fun x hx => ?_, fun x hx => ?_, fun x hx => ?_, fun x hx => ?_, fun x hx => ?_, fun x hx => ?_⟩ <;> obtain ⟨s, hs, rfl⟩ := List.mem_map.1 hx
  · rw [datW_sd h hs]; rfl
  · exact hl s hs
  · exact (h s hs).1
  · exact (h s hs).2.1
  · exact (h s hs).2.2.1.imp id Or.inl
  · rw [datW_sd h hs]; exact (h s hs).2.2.2
  · exact hnm s hs
/-- Strictly rising names. -/
theorem stp_of {l : List Fl} {g : Fl → Bs} (hr : Rising l) (hn : (l.map Fl.nm).Nodup) : Stp (l.map fun x => (x.nm, g x)) := by
  unfold Stp
  rw [List.pairwise_iff_getElem]
  intro i j hi hj hij
  simp at hi hj
  have h1 := hr i j hi hj hij
  have h2 := List.pairwise_iff_getElem.1 hn i j (by simpa using hi) (by simpa using hj) hij
  simp only [List.getElem_map] at h2 ⊢
  unfold cmpN at h1
  have t := orders_bytes.turn l[i].nm l[j].nm
  have h3 : Lib.compareBytes l[i].nm l[j].nm ≠ 0 := fun e => h2 ((orders_bytes.eq _ _).1 e)
  show Lib.compareBytes l[i].nm l[j].nm < 0
  omega
theorem stp_perm {l m : List Nd} (h1 : Stp l) (h2 : Stp m) (hp : l.Perm m) : l = m := stp_eq l m h1 h2 (fun _ hx => hp.mem_iff.1 hx) hp.length_eq
/-- These files' archive is b. -/
def Packs (L : List Sf) (b : Bs) : Prop := ∃ zs : List Nd, zs.Perm (L.map sfN) ∧ Stp zs ∧ arcL zs = b ∧ 22 + sizesL zs ≤ 1048576
/-- What is answered to bytes as an archive: the error. -/
def UnpS (b : Bs) (E : Int) : Prop :=
  (1048576 < b.length ∧ E = 13) ∨ (b.length ≤ 1048576 ∧ headsR b = none ∧ E = 17) ∨
  ∃ L, b.length ≤ 1048576 ∧ headsR b = some L ∧ ((100 < L.length ∧ E = 14) ∨ (L.length ≤ 100 ∧ ((chkE [] L ≠ 0 ∧ E = chkE [] L) ∨ (chkE [] L = 0 ∧ ((¬ Packs L b ∧ E = 15) ∨ (Packs L b ∧ E = 0))))))
/-- Files and their bytes. -/
def FdAt (w : World) (a : Option Addr) (l : List Nd) : Prop := ∃ ys : List Fl, ys.map Fl.nm = l.map Prod.fst ∧ FAt w a ys ∧ DAt w ys (l.map Prod.snd)
/-- Files and their bytes, all of them of our own. -/
def FdOwn (base : Nat) (w : World) (A : Nat) (l : List Nd) : Prop := ∃ ys : List Fl, ys.map Fl.nm = l.map Prod.fst ∧ FRow base w (.slice (some ⟨A, 0, none⟩) l.length l.length) ys ∧ OAll base A w ys (l.map Prod.snd)
theorem FdOwn.len {l : List Nd} {ys : List Fl} (h : ys.map Fl.nm = l.map Prod.fst) : ys.length = l.length := by
  have := congrArg List.length h
  simpa using this
theorem FdOwn.fat {base A n c : Nat} {w : World} {ys : List Fl} (h : FRow base w (.slice (some ⟨A, 0, none⟩) n c) ys) : FAt w (some ⟨A, 0, none⟩) ys := by
  obtain ⟨a, c', e, h1, _⟩ := FRow.at h
  injection e with q1 q2 q3
  rw [q1]
  exact h1
theorem FdOwn.at {base A : Nat} {w : World} {l : List Nd} (h : FdOwn base w A l) : FdAt w (some ⟨A, 0, none⟩) l := by
  obtain ⟨ys, h1, h2, h3⟩ := h
  exact ⟨ys, h1, FdOwn.fat h2, h3.dat⟩
theorem FdOwn.datg {base A : Nat} {w : World} {l : List Nd} (h : FdOwn base w A l) (hl : ∀ p ∈ l, p.2.length ≤ 1048576) (hn : ∀ p ∈ l, p.1.length ≤ 100000) : ∃ ys dat, ys.length = l.length ∧ FAt w (some ⟨A, 0, none⟩) ys ∧ DatG w ys dat ∧ ys.map (ndF dat) = l := by
  obtain ⟨ys, h1, h2, h3⟩ := h
  have hlen := FdOwn.len h1
  have one : ∀ k (hk : k < ys.length) (hk2 : k < l.length), ys[k].nm = l[k].1 ∧ l[k].2.length = ys[k].n ∧ OwnB base w (.slice ys[k].a ys[k].n ys[k].c) l[k].2 := fun k hk hk2 => by
    have h4 : (ys.map Fl.nm)[k]? = (l.map Prod.fst)[k]? := by rw [h1]
    simp [hk, hk2] at h4
    obtain ⟨e, o, -⟩ := h3.one k hk (by rw [List.length_map]; exact hk2)
    rw [List.getElem_map] at e o
    exact ⟨h4, e, o⟩
  have each : ∀ y ∈ ys, ∃ p ∈ l, y.nm = p.1 ∧ p.2.length = y.n ∧ OwnB base w (.slice y.a y.n y.c) p.2 := fun y hy => by
    obtain ⟨k, hk, rfl⟩ := List.getElem_of_mem hy
    exact ⟨l[k]'(by omega), List.getElem_mem _, one k hk (by omega)⟩
  have at_ : ∀ {y : Fl} {d : Bs}, OwnB base w (.slice y.a y.n y.c) d → BAt w y.a d ∧ d.length ≤ y.c ∧ y.c ≤ maxLen ∧ (y.a = none ∨ ∃ B O, y.a = some ⟨B, O, none⟩) := fun {y d} o => by
    obtain ⟨a', c', hv, hat, h5, h6⟩ := OwnB.at o
    injection hv with q1 q2 q3
    refine ⟨by rw [q1]; exact hat, by rw [q3]; exact h5, by rw [q3]; exact h6, ?_⟩
    rcases o.2 with ⟨e, _⟩ | ⟨g, cap, cur, e, _⟩
    · injection e with e1 _ _
      exact Or.inl e1
    · injection e with e1 _ _
      exact Or.inr ⟨_, _, e1⟩
  have is : ∀ {y : Fl} {d : Bs}, d.length = y.n → OwnB base w (.slice y.a y.n y.c) d → datW w y = d := fun {y d} e o => datW_is e (at_ o).1
  refine ⟨ys, datW w, hlen, FdOwn.fat h2, ⟨fun y hy => ?_, fun y hy => ?_, fun y hy => ?_, fun y hy => ?_, fun y hy => ?_, fun y hy => ?_, fun y hy => ?_⟩, ?_⟩
  · obtain ⟨p, hp, e1, e2, o⟩ := each y hy
    rw [is e2 o]; exact e2
  · obtain ⟨p, hp, e1, e2, o⟩ := each y hy
    rw [← e2]; exact hl p hp
  · obtain ⟨p, hp, e1, e2, o⟩ := each y hy
    rw [← e2]; exact (at_ o).2.1
  · obtain ⟨p, hp, e1, e2, o⟩ := each y hy
    have := (at_ o).2.2.1
    unfold maxLen at this
    omega
  · obtain ⟨p, hp, e1, e2, o⟩ := each y hy
    exact (at_ o).2.2.2.imp id Or.inl
  · obtain ⟨p, hp, e1, e2, o⟩ := each y hy
    rw [is e2 o]; exact (at_ o).1
  · obtain ⟨p, hp, e1, e2, o⟩ := each y hy
    rw [e1]; exact hn p hp
  · refine List.ext_getElem (by rw [List.length_map]; exact hlen) (fun k g1 g2 => ?_)
    rw [List.length_map] at g1
    obtain ⟨e1, e2, o⟩ := one k g1 g2
    rw [List.getElem_map]
    show (ys[k].nm, datW w ys[k]) = l[k]
    rw [is e2 o, e1]
def UnpR (base : Nat) (b : Bs) (e : Ending) (w' : World) : Prop := ∃ E, UnpS b E ∧ ((E ≠ 0 ∧ e = .returned (.tuple #[.slice none 0 0, .int .i64 E])) ∨ (E = 0 ∧ ∃ A L, headsR b = some L ∧ e = .returned (.tuple #[.slice (some ⟨A, 0, none⟩) L.length L.length, .int .i64 0]) ∧ FdOwn base w' A (L.map sfN)))
theorem own_any (x : Bs) (W : World) : Calls Tryz.prog 77 #[.string (ba x)] W fun e w' => e = .returned (.string (ba x)) ∧ w' = W := by
  go_enter Tryz.func77, Tryz.ntmps77
  go_wp2
  go_ret
  exact ⟨rfl, rfl⟩

set_option maxRecDepth 100000 in
set_option maxHeartbeats 4000000 in
theorem unpack_long {w : World} {a : Option Addr} {n c : Nat} {b : Bs} (hn : b.length = n) (h : 1048576 < n) : Calls Tryz.prog 20 #[.slice a n c] w fun e w' => UnpR w.heap.size b e w' ∧ w' = w := by
  have h1 : (1048576 : Int) < (n : Int) := by omega
  have HF : Hid (UnpS b 13) := hide (Or.inl ⟨by omega, rfl⟩)
  go_enter Tryz.func20, Tryz.ntmps20
  go_wp2
  go_ret2
  exact ⟨⟨13, unhide HF, Or.inl ⟨by decide, rfl⟩⟩, rfl⟩

/-- What Pack says of files that were read, as the last look needs it. -/
theorem packs_no {L : List Sf} {b : Bs} {xs ys : List Fl} {dat : Fl → Bs} (hd : xs.map (ndF dat) = L.map sfN) (hn : nmE [] (L.map Sf.nm) = 0) (hp : ys.Perm xs) (hr : Rising ys) (hne : arcL (ys.map (ndF dat)) ≠ b) : ¬ Packs L b := by
  rintro ⟨zs, h1, h2, h3, h4⟩
  have e : xs.map Fl.nm = L.map Sf.nm := by
    have := congrArg (List.map Prod.fst) hd
    rw [List.map_map, List.map_map] at this
    exact this
  have hnd : (ys.map Fl.nm).Nodup := ((hp.map Fl.nm).nodup_iff).2 (by rw [e]; exact (nmE_nodup _ _ hn).1)
  have hs : Stp (ys.map (ndF dat)) := stp_of hr hnd
  have hpe : (ys.map (ndF dat)).Perm zs := ((hp.map (ndF dat)).trans (by rw [hd])).trans h1.symm
  exact hne (by rw [stp_perm hs h2 hpe]; exact h3)
theorem packs_yes {L : List Sf} {b : Bs} {xs ys : List Fl} {dat : Fl → Bs} (hd : xs.map (ndF dat) = L.map sfN) (hn : nmE [] (L.map Sf.nm) = 0) (hp : ys.Perm xs) (hr : Rising ys) (hs : 22 + sizesL (xs.map (ndF dat)) ≤ 1048576) (he : arcL (ys.map (ndF dat)) = b) : Packs L b := by
  have e : xs.map Fl.nm = L.map Sf.nm := by
    have := congrArg (List.map Prod.fst) hd
    rw [List.map_map, List.map_map] at this
    exact this
  have hnd : (ys.map Fl.nm).Nodup := ((hp.map Fl.nm).nodup_iff).2 (by rw [e]; exact (nmE_nodup _ _ hn).1)
  exact ⟨ys.map (ndF dat), (hp.map (ndF dat)).trans (by rw [hd]), stp_of hr hnd, he, by rw [sizes_perm (hp.map (ndF dat))]; exact hs⟩
theorem packs_long {L : List Sf} {b : Bs} {xs : List Fl} {dat : Fl → Bs} (hd : xs.map (ndF dat) = L.map sfN) (hs : 1048576 < 22 + sizesL (xs.map (ndF dat))) : ¬ Packs L b := by
  rintro ⟨zs, h1, _, _, h4⟩
  rw [sizes_perm h1, ← hd] at h4
  omega

set_option maxRecDepth 100000 in
set_option maxHeartbeats 4000000 in
theorem unpack_any {w : World} {a : Option Addr} {n c : Nat} {b : Bs} (hg : Ml w) (hn : b.length = n) (hc : n ≤ c) (hcm : c ≤ 9223372036854775807) (hf : a = none ∨ ∃ B O, a = some ⟨B, O, none⟩) (h : BAt w a b) :
    Calls Tryz.prog 20 #[.slice a n c] w fun e w' => UnpR w.heap.size b e w' ∧ Below w.heap.size w w' := by
  by_cases hN : 1048576 < n
  · refine (unpack_long hn hN).mono ?_
    rintro e w' ⟨h1, rfl⟩
    exact ⟨h1, Below.refl _ _⟩
  have h1 : ¬ (1048576 : Int) < (n : Int) := by omega
  have KR := hide (readHeads_any hn (by omega) hc hcm hf h)
  have HG := hide hg
  have HN := hide hn
  have HBL : Hid (b.length ≤ 1048576) := hide (by omega)
  have HA := hide h
  clear hg hn h hf hcm
  go_enter Tryz.func20, Tryz.ntmps20
  go_wp2_with (go_at_call 73; fail)
  refine (unhide KR).mono ?_
  rintro e w1 ⟨hrh, b1⟩
  have HB1 := hide b1
  clear KR
  rcases hrh with ⟨hno, rfl⟩ | ⟨v, acc, hsome, rfl, hown, hsd, hdl⟩
  · have HF : Hid (UnpS b 17) := hide (Or.inr (Or.inl ⟨unhide HBL, hno, rfl⟩))
    clear b1 hno
    go_wp2
    go_ret2
    exact ⟨⟨17, unhide HF, Or.inl ⟨by decide, rfl⟩⟩, unhide HB1⟩
  obtain ⟨ra, rc, rfl, hrow⟩ := DOwn.at hown
  obtain ⟨L, hL⟩ : ∃ L, acc.map sdF = L := ⟨_, rfl⟩
  obtain ⟨k, hk⟩ : ∃ k, acc.length = k := ⟨_, rfl⟩
  have hLk : L.length = k := by rw [← hL, List.length_map]; exact hk
  rw [hL] at hsome
  rw [hk]
  have HSM := hide hsome
  have HLK := hide hLk
  have HL := hide hL
  have HK := hide hk
  have HSD := hide (hsd.low b1)
  have HROW := hide hrow
  have HDL : Hid (∀ x ∈ acc, x.d.length ≤ 1048576) := hide (fun x hx => Nat.le_trans (hdl x hx) (unhide HBL))
  clear hsome hLk hL hk hsd hrow hdl hown b1
  by_cases hk100 : 100 < k
  · have i1 : (100 : Int) < (k : Int) := by omega
    have HF : Hid (UnpS b 14) := hide (Or.inr (Or.inr ⟨L, unhide HBL, unhide HSM, Or.inl ⟨by rw [unhide HLK]; exact hk100, rfl⟩⟩))
    go_wp2
    go_ret2
    exact ⟨⟨14, unhide HF, Or.inl ⟨by decide, rfl⟩⟩, unhide HB1⟩
  have i1 : ¬ (100 : Int) < (k : Int) := by omega
  have KC := hide (checked_any (c := rc) ((unhide HG).low (unhide HB1)) (unhide HK) (by omega) (unhide HDL) (unhide HSD) (unhide HROW))
  go_wp2_with (go_at_call 74; fail)
  refine (unhide KC).mono ?_
  rintro e w2 ⟨hck, b2⟩
  have HB2 := hide (low_trans (unhide HB1) b2)
  have HB12 := hide b2
  clear KC b2
  unfold ChkR at hck
  rw [unhide HL] at hck
  rcases hck with ⟨hne, rfl⟩ | ⟨h0, v, rfl, hfr⟩
  · have hE : (chkE [] L != 0) = true := by simp [hne]
    have HF : Hid (UnpS b (chkE [] L) ∧ chkE [] L ≠ 0) := hide ⟨Or.inr (Or.inr ⟨L, unhide HBL, unhide HSM, Or.inr ⟨by rw [unhide HLK]; omega, Or.inl ⟨hne, rfl⟩⟩⟩), hne⟩
    obtain ⟨E, hEE⟩ : ∃ E, chkE [] L = E := ⟨_, rfl⟩
    rw [hEE] at hE HF
    rw [hEE]
    clear hEE hne
    go_wp2
    go_ret2
    exact ⟨⟨E, (unhide HF).1, Or.inl ⟨(unhide HF).2, rfl⟩⟩, unhide HB2⟩
  obtain ⟨hn0, hnames⟩ := chk_nm L [] h0
  obtain ⟨fa, fc, rfl, hfat, hfc⟩ := FRow.at hfr
  have hfform : (fa = none ∧ k = 0 ∧ fc = 0) ∨ ∃ B O, fa = some ⟨B, O, none⟩ := by
    rcases hfr.2 with ⟨e, e0⟩ | ⟨g, cap, cur, e, _⟩
    · injection e with q1 q2 q3
      rw [List.length_map, unhide HK] at e0
      exact Or.inl ⟨q1, e0, q3⟩
    · injection e with q1 q2 q3
      exact Or.inr ⟨_, _, q1⟩
  have hxl : (acc.map sdFl).length = k := by rw [List.length_map]; exact unhide HK
  rw [hxl] at hfc
  rw [hxl]
  have hsd2 := (unhide HSD).low (unhide HB12)
  have hdats := dats hsd2
  rw [unhide HL] at hdats
  have hnl : ∀ x ∈ acc, x.nm.length ≤ 100000 := fun x hx => by
    have : sdF x ∈ L := by rw [← unhide HL]; exact List.mem_map_of_mem hx
    have := name_len (hnames _ this)
    show (sdF x).nm.length ≤ 100000
    omega
  have hdg := dat_g hsd2 (unhide HDL) hnl
  have hnm : (acc.map sdFl).map Fl.nm = L.map Sf.nm := by rw [← unhide HL, List.map_map, List.map_map]; rfl
  have KP := hide (pack_any (w := w2) ((unhide HG).low (unhide HB2)) hxl (by omega) hfform hfc hfat hdg)
  obtain ⟨dat, hdat⟩ : ∃ dat, datW w2 = dat := ⟨_, rfl⟩
  rw [hdat] at hdats hdg KP
  have HX : Hid ((acc.map sdFl).length = k ∧ FAt w2 fa (acc.map sdFl) ∧ DatG w2 (acc.map sdFl) dat ∧ (acc.map sdFl).map (ndF dat) = L.map sfN ∧ nmE [] (L.map Sf.nm) = 0 ∧ (acc.map sdFl).map Fl.nm = L.map Sf.nm ∧ chkE [] L = 0) := hide ⟨hxl, hfat, hdg, hdats, hn0, hnm, h0⟩
  obtain ⟨xs, hxs⟩ : ∃ xs, acc.map sdFl = xs := ⟨_, rfl⟩
  rw [hxs] at HX KP
  clear hn0 hnames hfat hfform hxl hsd2 hdats hnl hdg hnm hdat h0 hfr hfc hxs
  go_wp2_with (go_at_call 18; fail)
  refine (unhide KP).mono ?_
  rintro e w3 ⟨hps, b3⟩
  have HB3 := hide (low_trans (unhide HB2) b3)
  have HB23 := hide b3
  clear KP b3
  obtain ⟨hxl, hfat, hdg, hdats, hn0, hnm, h0⟩ := unhide HX
  rcases hps with ⟨hbad, -⟩ | ⟨-, hlong, rfl⟩ | ⟨-, hsz, v, ys, rfl, hperm, hris, hov⟩
  · rw [hnm] at hbad
    exact absurd hn0 hbad
  · have HF : Hid (UnpS b 15) := hide (Or.inr (Or.inr ⟨L, unhide HBL, unhide HSM, Or.inr ⟨by rw [unhide HLK]; omega, Or.inr ⟨h0, Or.inl ⟨packs_long hdats hlong, rfl⟩⟩⟩⟩))
    clear hlong hxl hfat hdg hdats hn0 hnm h0
    go_wp2
    go_ret2
    exact ⟨⟨15, unhide HF, Or.inl ⟨by decide, rfl⟩⟩, unhide HB3⟩
  · obtain ⟨va, vc, rfl, hvat, -, -⟩ := OwnB.at hov
    obtain ⟨Z, hZ⟩ : ∃ Z, arcL (ys.map (ndF dat)) = Z := ⟨_, rfl⟩
    rw [hZ] at hvat
    rw [hZ]
    obtain ⟨zl, hzl⟩ : ∃ zl, Z.length = zl := ⟨_, rfl⟩
    rw [hzl]
    obtain ⟨same, hsame⟩ : ∃ s, decide (Z = b) = s := ⟨_, rfl⟩
    have KE := hide (u_equal_any (w := w3) (c := vc) (c2 := c) hzl (unhide HN) hvat ((unhide HA).low (unhide HB3)))
    rw [hsame] at KE
    cases same with
    | false =>
      have HF : Hid (UnpS b 15) := hide (Or.inr (Or.inr ⟨L, unhide HBL, unhide HSM, Or.inr ⟨by rw [unhide HLK]; omega, Or.inr ⟨h0, Or.inl ⟨packs_no hdats hn0 hperm hris (by rw [hZ]; exact of_decide_eq_false hsame), rfl⟩⟩⟩⟩))
      clear hsz hperm hris hov hvat hZ hzl hsame hxl hfat hdg hdats hn0 hnm h0
      go_wp2_with (go_at_call 75; refine (unhide KE).mono ?_; rintro e wn ⟨rfl, hwn⟩; rw [hwn]; clear hwn wn)
      go_ret2
      exact ⟨⟨15, unhide HF, Or.inl ⟨by decide, rfl⟩⟩, unhide HB3⟩
    | true =>
      have HF : Hid (UnpS b 0) := hide (Or.inr (Or.inr ⟨L, unhide HBL, unhide HSM, Or.inr ⟨by rw [unhide HLK]; omega, Or.inr ⟨h0, Or.inr ⟨packs_yes hdats hn0 hperm hris hsz (by rw [hZ]; exact of_decide_eq_true hsame), rfl⟩⟩⟩⟩))
      have KN := hide (renamed77 (c := fc) (w := w3) (R := fun x => x) hxl (by omega) (hfat.low (unhide HB23)) ((hdg.low (unhide HB23)).one) (fun x hx => ⟨hdg.form x hx, by have := hdg.few x hx; omega⟩) (fun W _ x _ => own_any x.nm W))
      have HNM := hide (And.intro hnm hdats)
      clear hsz hperm hris hov hvat hZ hzl hsame hxl hfat hdg hdats hn0 hnm h0 HX
      go_wp2_with (first | (go_at_call 75; refine (unhide KE).mono ?_; rintro e wn ⟨rfl, hwn⟩; rw [hwn]; clear hwn wn) | (go_at_call 76; fail))
      refine (unhide KN).mono ?_
      rintro e w4 ⟨A, zs, rfl, hznm, hzat, hzd, b4⟩
      have HB4 := hide (low_trans (unhide HB3) b4)
      have hszs := (unhide HB3).size
      have HFD : Hid (FdOwn w.heap.size w4 A (L.map sfN)) := hide ⟨zs, by
        rw [hznm, List.map_id', (unhide HNM).1, List.map_map]; rfl, by
        rw [List.length_map, unhide HLK]
        refine ⟨hzat.1, hzat.2.imp id ?_⟩
        rintro ⟨g, cap, cur, e1, e2, e3⟩
        exact ⟨g, cap, cur, e1, Nat.le_trans hszs e2, e3⟩, by
        have e : xs.map dat = (L.map sfN).map Prod.snd := by rw [← (unhide HNM).2, List.map_map]; rfl
        rw [← e]
        exact ⟨hzd.len, fun k h1 h2 => ⟨(hzd.one k h1 h2).1, OwnB.less hszs (hzd.one k h1 h2).2.1, (hzd.one k h1 h2).2.2⟩, hzd.ap⟩⟩
      clear hznm hzat hzd b4 KN KE hszs
      go_wp2
      go_ret2
      exact ⟨⟨0, unhide HF, Or.inr ⟨rfl, A, L, unhide HSM, by rw [unhide HLK]; rfl, unhide HFD⟩⟩, unhide HB4⟩
end Go.Proofs.YtkablmjkffdloaaGreatDoor

namespace Go.Proofs.YtkablmjkffdloaaGreatDoor
open Go.RowKit

set_option maxRecDepth 100000 in
set_option maxHeartbeats 8000000 in
theorem renamedO97 {w : World} {a : Option Addr} {n c pb : Nat} {xs : List Fl} {ds : List Bs} {R : Bs → Bs} (hx : xs.length = n) (hn : n ≤ 1000) (h : FAt w a xs) (hd : DAt w xs ds) (hf : ∀ x ∈ xs, (x.a = none ∨ (∃ B O, x.a = some ⟨B, O, none⟩) ∨ ∃ y, x.a = some y ∧ x.n = 0 ∧ x.c = 0) ∧ x.n ≤ 1073741824)
    (hR : ∀ W, Below w.heap.size w W → ∀ x ∈ xs, Calls Tryz.prog 97 #[.string (ba x.nm), .pointer (some ⟨pb, 0, none⟩)] W fun e w' => e = .returned (.string (ba (R x.nm))) ∧ w' = W) :
    Calls Tryz.prog 76 #[.slice a n c, .func (.func 97) #[] #[.pointer (some ⟨pb, 0, none⟩)]] w fun e w' => ∃ A ys, e = .returned (.slice (some ⟨A, 0, none⟩) n n) ∧ ys.map Fl.nm = (xs.map Fl.nm).map R ∧ FRow w.heap.size w' (.slice (some ⟨A, 0, none⟩) n n) ys ∧ OAll w.heap.size A w' ys ds ∧ Below w.heap.size w w' := by
  obtain ⟨G, hG⟩ : ∃ G, w.heap.size = G := ⟨_, rfl⟩
  obtain ⟨i0, hi0, hz0, hz1, hz2⟩ := info56p
  have hmk := run_make (P := Tryz.prog) w 22 56 i0 _ Tryz.underlying22 hi0 hz0 .i64 .i64 (n : Int) (n : Int) (by omega) (Int.le_refl _) (by rw [hz2]; omega) (by omega)
  simp only [Int.toNat_natCast] at hmk
  obtain ⟨cs0, hcs0⟩ : ∃ cs, madeCells (Value.agg #[.string ⟨#[]⟩, .slice none 0 0]).cells (n * i0.size) = cs := ⟨_, rfl⟩
  have hcz : cs0.size = n * 2 := by rw [← hcs0, size_madeCells, hz1]
  rw [hcs0] at hmk
  obtain ⟨W1, hW1⟩ : ∃ W1, w.alloc (.cells cs0 56) = W1 := ⟨_, rfl⟩
  rw [hW1, hG] at hmk
  have b1 : Below w.heap.size w W1 := by rw [← hW1]; exact lowAA (Below.refl _ _) _
  have q1 : Blk W1 G cs0 56 := by rw [← hW1, ← hG]; exact Blk.new _ _ _
  have HX := hide hx
  have HA := hide h
  have HD := hide hd
  have HFo := hide hf
  have HR := hide hR
  have HB1 := hide b1
  have HQ1 := hide q1
  have HG := hide hG
  have HCZ := hide hcz
  clear hx h hd hf hR hi0 hz0 hz1 hz2 hcs0 hcz hW1 b1 q1 hG
  go_enter Tryz.func76, Tryz.ntmps76
  go_wp2
  go_loopw [6, 7, 13] (fun _ _ v13 wr => ∃ (k : Nat) (cs : Array Value) (ys : List Fl), k ≤ n ∧ v13 = .int .i64 (k : Int) ∧ Blk wr G cs 56 ∧ cs.size = n * 2 ∧ ys.length = k ∧ Hid (cs.toList.take (k * 2) = flsV ys) ∧ Hid (ys.map Fl.nm = ((xs.take k).map Fl.nm).map R) ∧ Hid (OAll w.heap.size G wr ys (ds.take k)) ∧ Below w.heap.size w wr) (fun _ _ v13 _ => n - (intOf v13).toNat)
  case atStart => exact ⟨0, cs0, [], Nat.zero_le _, rfl, unhide HQ1, unhide HCZ, rfl, hide (by simp [flsV]), hide (by simp), hide ⟨by simp, (fun k h => by simp at h), (fun j k h => by simp at h)⟩, unhide HB1⟩
  case round =>
    rename World => wr
    obtain ⟨k, cs, ys, hk, rfl, hq, hcs, hyl, htake, hnm, hda, hbw⟩ := hrel
    by_cases hlt : k < n
    · have hkx : k < xs.length := by rw [unhide HX]; exact hlt
      have hkd : k < ds.length := by rw [(unhide HD).len]; exact hkx
      have hlt' : (k : Int) < (n : Int) := by omega
      obtain ⟨B, O, rfl, g0, g1⟩ := ((unhide HA).low hbw).get hkx
      obtain ⟨l1, t0⟩ := (unhide HD).one k hkx hkd
      have hff := unhide HFo _ (List.getElem_mem hkx)
      have hmem : xs[k] ∈ xs := List.getElem_mem hkx
      have htk := take_sn hkx
      have htd := take_sn hkd
      obtain ⟨x, hxx⟩ : ∃ x, xs[k] = x := ⟨_, rfl⟩
      obtain ⟨d, hdd⟩ : ∃ d, ds[k] = d := ⟨_, rfl⟩
      rw [hxx] at g0 g1 l1 t0 hff hmem htk
      rw [hdd] at l1 t0 htd
      obtain ⟨nm, xa, xn, xc⟩ := x
      simp only at g0 g1 l1 t0 hff
      obtain ⟨y, hy⟩ : ∃ y, R nm = y := ⟨_, rfl⟩
      obtain ⟨S, hS0⟩ : ∃ S, wr.heap.size = S := ⟨_, rfl⟩
      obtain ⟨W2, hW2⟩ : ∃ W2, wr.alloc (.cells #[.string (ba nm), .slice xa xn xc] 56) = W2 := ⟨_, rfl⟩
      have b2 : Below wr.heap.size wr W2 := by rw [← hW2]; exact lowAA (Below.refl _ _) _
      have q2 : Blk W2 S #[.string (ba nm), .slice xa xn xc] 56 := by rw [← hW2, ← hS0]; exact Blk.new _ _ _
      have q3 := hq.low b2
      have HBW := hide hbw
      have HB2 := hide (low_trans hbw b2)
      have hSG : S ≠ G := by have := hq.lt; omega
      have H1 : Hid (∀ wx, ((wx.cell? ⟨S, 0, none⟩ = some (.string (ba nm)) ∧ wx.cell? ⟨S, 1, none⟩ = some (.slice xa xn xc)) ∧ (wx.frozen? ⟨G, k * 2, none⟩ = false ∧ wx.frozen? ⟨G, k * 2 + 1, none⟩ = false) ∧ RenS W2 G k cs wx) → Calls Tryz.prog 97 #[.string (ba nm), .pointer (some ⟨pb, 0, none⟩)] wx fun e w' => e = .returned (.string (ba y)) ∧ ((w'.cell? ⟨S, 0, none⟩ = some (.string (ba nm)) ∧ w'.cell? ⟨S, 1, none⟩ = some (.slice xa xn xc)) ∧ (w'.frozen? ⟨G, k * 2, none⟩ = false ∧ w'.frozen? ⟨G, k * 2 + 1, none⟩ = false) ∧ RenS W2 G k cs w')) := hide (fun wx hw => by
        have kk := unhide HR wx (hw.2.2.1.low (unhide HB2) (unhide HB2).size (by rw [unhide HG]; exact Nat.le_refl _)) _ hmem
        simp only at kk
        rw [hy] at kk
        refine kk.mono ?_
        rintro e w' ⟨rfl, rfl⟩
        exact ⟨rfl, hw⟩)
      have H2 : Hid (∀ wx, ((wx.cell? ⟨S, 0, none⟩ = some (.string (ba nm)) ∧ wx.cell? ⟨S, 1, none⟩ = some (.slice xa xn xc)) ∧ (wx.frozen? ⟨G, k * 2, none⟩ = false ∧ wx.frozen? ⟨G, k * 2 + 1, none⟩ = false) ∧ RenS W2 G k cs wx) → Calls Tryz.prog 134 #[.slice xa xn xc] wx fun e w' => ∃ a' c', e = .returned (.slice a' xn c') ∧ Hid (OwnB W2.heap.size w' (.slice a' xn c') d) ∧ ((w'.cell? ⟨S, 0, none⟩ = some (.string (ba nm)) ∧ w'.cell? ⟨S, 1, none⟩ = some (.slice xa xn xc)) ∧ (w'.frozen? ⟨G, k * 2, none⟩ = false ∧ w'.frozen? ⟨G, k * 2 + 1, none⟩ = false) ∧ RenS W2 G k cs w')) := hide (fun wx hw => by
        refine (cloneO_any l1 hff.2 hff.1 (t0.low (hw.2.2.1.low (unhide HB2) (unhide HB2).size (by rw [unhide HG]; exact Nat.le_refl _)))).mono ?_
        rintro e w' ⟨a', c', rfl, hat, b⟩
        exact ⟨a', c', rfl, hide (OwnB.less hw.2.2.1.size hat), ren_low hw b⟩)
      have hS : ((W2.cell? ⟨S, 0, none⟩ = some (.string (ba nm)) ∧ W2.cell? ⟨S, 1, none⟩ = some (.slice xa xn xc)) ∧ (W2.frozen? ⟨G, k * 2, none⟩ = false ∧ W2.frozen? ⟨G, k * 2 + 1, none⟩ = false) ∧ RenS W2 G k cs W2) := ⟨⟨q2.cell 0, q2.cell 1⟩, ⟨q3.free _, q3.free _⟩, ButM.of (Below.refl _ _), cs, q3, rfl, fun _ _ _ => rfl⟩
      obtain ⟨vf0, hvf0⟩ := ren_cell (W2 := W2) (G := G) (k := k) (i := k * 2) hcs (by omega)
      obtain ⟨vf1, hvf1⟩ := ren_cell (W2 := W2) (G := G) (k := k) (i := k * 2 + 1) hcs (by omega)
      have HQ2 := hide q2
      have HY := hide hy
      have HDD := hide hdd
      have HL1 := hide l1
      have HB2w := hide b2
      have HQ3 := hide q3
      have HW2 := hide hW2
      have HS0 := hide hS0
      clear hq hxx hdd hy hS0 hW2 b2 q2 q3 hbw l1 t0 hff hmem
      go_wp2
      rw [unhide HW2, unhide HS0]
      clear g0 g1
      go_region_held3 (fun wx => ((wx.cell? ⟨S, 0, none⟩ = some (.string (ba nm)) ∧ wx.cell? ⟨S, 1, none⟩ = some (.slice xa xn xc)) ∧ (wx.frozen? ⟨G, k * 2, none⟩ = false ∧ wx.frozen? ⟨G, k * 2 + 1, none⟩ = false) ∧ RenS W2 G k cs wx))
        (first | assumption | exact hS | exact ren_low hS (Below.refl _ _).drew | exact ren_put hSG (by assumption))
        (first
          | (go_at_call 97; revert hv9; intro hv9; refine (unhide H1 _ (by assumption)).mono ?_; rintro e w9 ⟨rfl, hS9⟩)
          | (go_at_call 97; refine (unhide H1 _ (by assumption)).mono ?_; rintro e w9 ⟨rfl, hS9⟩)
          | (go_at_call 134; refine (unhide H2 _ (by assumption)).mono ?_; rintro e w9 ⟨a9, c9, rfl, hv9, hS9⟩))
      all_goals
        obtain ⟨-, -, hR9⟩ := hS9
        have hat9 := unhide hv9
        have hP9 := hR9.put (a := .string (ba y)) (b := .slice a9 xn c9)
        obtain ⟨hbm, cs', hq9, hs9, hj9⟩ := hR9
        have hGW : G < W2.heap.size := (unhide HQ3).lt
        have HQZ := hide ((hq9.set (k * 2) (.string (ba y))).set (k * 2 + 1) (.slice a9 xn c9))
        have HSZ : Hid (((cs'.setIfInBounds (k * 2) (.string (ba y))).setIfInBounds (k * 2 + 1) (.slice a9 xn c9)).size = n * 2) := hide (by simp; omega)
        have HTZ := hide (fls_put (x := ⟨y, a9, xn, c9⟩) hlt hcs hs9 hj9 hyl (unhide htake))
        have HLZ : Hid ((ys ++ [(⟨y, a9, xn, c9⟩ : Fl)]).length = k + 1) := hide (by simp [hyl])
        have HNZ : Hid ((ys ++ [(⟨y, a9, xn, c9⟩ : Fl)]).map Fl.nm = ((xs.take (k + 1)).map Fl.nm).map R) := hide (by
          rw [htk, List.map_append, List.map_append, List.map_append, unhide hnm]
          simp [unhide HY])
        have HDZ : Hid (OAll w.heap.size G ((w9.setCell ⟨G, k * 2, none⟩ (.string (ba y))).setCell ⟨G, k * 2 + 1, none⟩ (.slice a9 xn c9)) (ys ++ [⟨y, a9, xn, c9⟩]) (ds.take (k + 1))) := hide (by
          have hd0 := unhide hda
          have hlt2 : (ds.take k).length = k := by rw [List.length_take]; omega
          have hap : ∀ j q (hj : j < (ys ++ [(⟨y, a9, xn, c9⟩ : Fl)]).length) (hq : q < (ys ++ [(⟨y, a9, xn, c9⟩ : Fl)]).length), j < q → ∀ g, (Value.slice (ys ++ [(⟨y, a9, xn, c9⟩ : Fl)])[q].a (ys ++ [(⟨y, a9, xn, c9⟩ : Fl)])[q].n (ys ++ [(⟨y, a9, xn, c9⟩ : Fl)])[q].c).ownBlock = some g → (Value.slice (ys ++ [(⟨y, a9, xn, c9⟩ : Fl)])[j].a (ys ++ [(⟨y, a9, xn, c9⟩ : Fl)])[j].n (ys ++ [(⟨y, a9, xn, c9⟩ : Fl)])[j].c).ownBlock ≠ some g := fun j q hj hq hjq g hg => by
            have hj2 : j < ys.length := by rw [List.length_append] at hq; simp at hq; omega
            have e1 : (ys ++ [(⟨y, a9, xn, c9⟩ : Fl)])[j] = ys[j]'hj2 := List.getElem_append_left hj2
            rw [e1]
            by_cases hq2 : q < ys.length
            · have e2 : (ys ++ [(⟨y, a9, xn, c9⟩ : Fl)])[q] = ys[q]'hq2 := List.getElem_append_left hq2
              rw [e2] at hg
              exact hd0.ap j q hj2 hq2 hjq g hg
            · have e2 : (ys ++ [(⟨y, a9, xn, c9⟩ : Fl)])[q] = ⟨y, a9, xn, c9⟩ := by
                rw [List.getElem_append_right (by omega)]
                simp
              rw [e2] at hg
              intro e
              have g1 := OwnB.base hat9 g hg
              have g2 := OwnB.lt (hd0.one j hj2 (by omega)).2.1 g e
              have g3 := (unhide HB2w).size
              omega
          refine ⟨by rw [htd, List.length_append, List.length_append, hlt2, hyl]; rfl, fun j h1 h2 => ?_, hap⟩
          have hbb : ButM G w9 ((w9.setCell ⟨G, k * 2, none⟩ (.string (ba y))).setCell ⟨G, k * 2 + 1, none⟩ (.slice a9 xn c9)) := ButM.trans but_put but_put
          by_cases hjk : j < k
          · have e1 : (ys ++ [(⟨y, a9, xn, c9⟩ : Fl)])[j] = ys[j]'(by omega) := List.getElem_append_left (by omega)
            have e2 : (ds.take (k + 1))[j] = (ds.take k)[j]'(by omega) := by rw [List.getElem_take, List.getElem_take]
            obtain ⟨l9, t9, n9⟩ := hd0.one j (by omega) (by omega)
            rw [e1, e2]
            exact ⟨l9, ((OwnB.low t9 (unhide HB2w)).but n9 hbm).but n9 hbb, n9⟩
          · have hje : j = k := by rw [List.length_append] at h1; simp at h1; omega
            subst hje
            have e1 : (ys ++ [(⟨y, a9, xn, c9⟩ : Fl)])[j] = ⟨y, a9, xn, c9⟩ := by rw [List.getElem_append_right (by omega)]; simp
            have e2 : (ds.take (j + 1))[j] = d := by rw [List.getElem_take]; exact unhide HDD
            have n9 : (Value.slice a9 xn c9).ownBlock ≠ some G := fun e => by
              have := OwnB.base hat9 G e
              omega
            rw [e1, e2]
            exact ⟨unhide HL1, OwnB.less (unhide HB2).size (hat9.but n9 hbb), n9⟩)
        have HBZ := hide (hP9.1.low (unhide HB2) (unhide HB2).size (by rw [unhide HG]; exact Nat.le_refl _))
        clear hv9 hat9 hP9 hbm hq9 hs9 hj9 hvf0 hvf1 hS
        go_wp2
        go_roundw
        case rel => exact ⟨k + 1, _, ys ++ [⟨y, a9, xn, c9⟩], hlt, by push_cast; rfl, unhide HQZ, unhide HSZ, unhide HLZ, HTZ, HNZ, HDZ, unhide HBZ⟩
        case measure => simp [intOf]; omega
    · have hke : k = n := by omega
      subst hke
      have HZ := hide (And.intro hq hbw)
      have hyl2 := hyl
      have HN : Hid (ys.map Fl.nm = (xs.map Fl.nm).map R) := hide (by
        have h1 := unhide hnm
        rw [List.take_of_length_le (by rw [unhide HX]; exact Nat.le_refl _)] at h1
        exact h1)
      have HDD : Hid (OAll w.heap.size G wr ys ds) := hide (by
        have h1 := unhide hda
        rw [List.take_of_length_le (by rw [(unhide HD).len, unhide HX]; exact Nat.le_refl _)] at h1
        exact h1)
      have HT := hide (unhide htake)
      have HC := hide hcs
      have HY := hide hyl
      clear hq hbw hnm hda htake hcs hyl hyl2
      go_wp2
      go_ret
      refine ⟨G, ys, rfl, unhide HN, ?_, unhide HDD, (unhide HZ).2⟩
      have hyk := unhide HY
      have h1 := unhide HT
      unfold FRow
      refine ⟨flsV_length ys, Or.inr ⟨G, k, cs, by rw [hyk], by rw [unhide HG]; exact Nat.le_refl _, (unhide HZ).1, by omega, by unfold maxLen; omega, unhide HC, ?_⟩⟩
      rw [hyk]
      exact h1
set_option maxRecDepth 100000 in
set_option maxHeartbeats 8000000 in
theorem renamedO96 {w : World} {a : Option Addr} {n c pb : Nat} {xs : List Fl} {ds : List Bs} {R : Bs → Bs} (hx : xs.length = n) (hn : n ≤ 1000) (h : FAt w a xs) (hd : DAt w xs ds) (hf : ∀ x ∈ xs, (x.a = none ∨ (∃ B O, x.a = some ⟨B, O, none⟩) ∨ ∃ y, x.a = some y ∧ x.n = 0 ∧ x.c = 0) ∧ x.n ≤ 1073741824)
    (hR : ∀ W, Below w.heap.size w W → ∀ x ∈ xs, Calls Tryz.prog 96 #[.string (ba x.nm), .pointer (some ⟨pb, 0, none⟩)] W fun e w' => e = .returned (.string (ba (R x.nm))) ∧ w' = W) :
    Calls Tryz.prog 76 #[.slice a n c, .func (.func 96) #[] #[.pointer (some ⟨pb, 0, none⟩)]] w fun e w' => ∃ A ys, e = .returned (.slice (some ⟨A, 0, none⟩) n n) ∧ ys.map Fl.nm = (xs.map Fl.nm).map R ∧ FRow w.heap.size w' (.slice (some ⟨A, 0, none⟩) n n) ys ∧ OAll w.heap.size A w' ys ds ∧ Below w.heap.size w w' := by
  obtain ⟨G, hG⟩ : ∃ G, w.heap.size = G := ⟨_, rfl⟩
  obtain ⟨i0, hi0, hz0, hz1, hz2⟩ := info56p
  have hmk := run_make (P := Tryz.prog) w 22 56 i0 _ Tryz.underlying22 hi0 hz0 .i64 .i64 (n : Int) (n : Int) (by omega) (Int.le_refl _) (by rw [hz2]; omega) (by omega)
  simp only [Int.toNat_natCast] at hmk
  obtain ⟨cs0, hcs0⟩ : ∃ cs, madeCells (Value.agg #[.string ⟨#[]⟩, .slice none 0 0]).cells (n * i0.size) = cs := ⟨_, rfl⟩
  have hcz : cs0.size = n * 2 := by rw [← hcs0, size_madeCells, hz1]
  rw [hcs0] at hmk
  obtain ⟨W1, hW1⟩ : ∃ W1, w.alloc (.cells cs0 56) = W1 := ⟨_, rfl⟩
  rw [hW1, hG] at hmk
  have b1 : Below w.heap.size w W1 := by rw [← hW1]; exact lowAA (Below.refl _ _) _
  have q1 : Blk W1 G cs0 56 := by rw [← hW1, ← hG]; exact Blk.new _ _ _
  have HX := hide hx
  have HA := hide h
  have HD := hide hd
  have HFo := hide hf
  have HR := hide hR
  have HB1 := hide b1
  have HQ1 := hide q1
  have HG := hide hG
  have HCZ := hide hcz
  clear hx h hd hf hR hi0 hz0 hz1 hz2 hcs0 hcz hW1 b1 q1 hG
  go_enter Tryz.func76, Tryz.ntmps76
  go_wp2
  go_loopw [6, 7, 13] (fun _ _ v13 wr => ∃ (k : Nat) (cs : Array Value) (ys : List Fl), k ≤ n ∧ v13 = .int .i64 (k : Int) ∧ Blk wr G cs 56 ∧ cs.size = n * 2 ∧ ys.length = k ∧ Hid (cs.toList.take (k * 2) = flsV ys) ∧ Hid (ys.map Fl.nm = ((xs.take k).map Fl.nm).map R) ∧ Hid (OAll w.heap.size G wr ys (ds.take k)) ∧ Below w.heap.size w wr) (fun _ _ v13 _ => n - (intOf v13).toNat)
  case atStart => exact ⟨0, cs0, [], Nat.zero_le _, rfl, unhide HQ1, unhide HCZ, rfl, hide (by simp [flsV]), hide (by simp), hide ⟨by simp, (fun k h => by simp at h), (fun j k h => by simp at h)⟩, unhide HB1⟩
  case round =>
    rename World => wr
    obtain ⟨k, cs, ys, hk, rfl, hq, hcs, hyl, htake, hnm, hda, hbw⟩ := hrel
    by_cases hlt : k < n
    · have hkx : k < xs.length := by rw [unhide HX]; exact hlt
      have hkd : k < ds.length := by rw [(unhide HD).len]; exact hkx
      have hlt' : (k : Int) < (n : Int) := by omega
      obtain ⟨B, O, rfl, g0, g1⟩ := ((unhide HA).low hbw).get hkx
      obtain ⟨l1, t0⟩ := (unhide HD).one k hkx hkd
      have hff := unhide HFo _ (List.getElem_mem hkx)
      have hmem : xs[k] ∈ xs := List.getElem_mem hkx
      have htk := take_sn hkx
      have htd := take_sn hkd
      obtain ⟨x, hxx⟩ : ∃ x, xs[k] = x := ⟨_, rfl⟩
      obtain ⟨d, hdd⟩ : ∃ d, ds[k] = d := ⟨_, rfl⟩
      rw [hxx] at g0 g1 l1 t0 hff hmem htk
      rw [hdd] at l1 t0 htd
      obtain ⟨nm, xa, xn, xc⟩ := x
      simp only at g0 g1 l1 t0 hff
      obtain ⟨y, hy⟩ : ∃ y, R nm = y := ⟨_, rfl⟩
      obtain ⟨S, hS0⟩ : ∃ S, wr.heap.size = S := ⟨_, rfl⟩
      obtain ⟨W2, hW2⟩ : ∃ W2, wr.alloc (.cells #[.string (ba nm), .slice xa xn xc] 56) = W2 := ⟨_, rfl⟩
      have b2 : Below wr.heap.size wr W2 := by rw [← hW2]; exact lowAA (Below.refl _ _) _
      have q2 : Blk W2 S #[.string (ba nm), .slice xa xn xc] 56 := by rw [← hW2, ← hS0]; exact Blk.new _ _ _
      have q3 := hq.low b2
      have HBW := hide hbw
      have HB2 := hide (low_trans hbw b2)
      have hSG : S ≠ G := by have := hq.lt; omega
      have H1 : Hid (∀ wx, ((wx.cell? ⟨S, 0, none⟩ = some (.string (ba nm)) ∧ wx.cell? ⟨S, 1, none⟩ = some (.slice xa xn xc)) ∧ (wx.frozen? ⟨G, k * 2, none⟩ = false ∧ wx.frozen? ⟨G, k * 2 + 1, none⟩ = false) ∧ RenS W2 G k cs wx) → Calls Tryz.prog 96 #[.string (ba nm), .pointer (some ⟨pb, 0, none⟩)] wx fun e w' => e = .returned (.string (ba y)) ∧ ((w'.cell? ⟨S, 0, none⟩ = some (.string (ba nm)) ∧ w'.cell? ⟨S, 1, none⟩ = some (.slice xa xn xc)) ∧ (w'.frozen? ⟨G, k * 2, none⟩ = false ∧ w'.frozen? ⟨G, k * 2 + 1, none⟩ = false) ∧ RenS W2 G k cs w')) := hide (fun wx hw => by
        have kk := unhide HR wx (hw.2.2.1.low (unhide HB2) (unhide HB2).size (by rw [unhide HG]; exact Nat.le_refl _)) _ hmem
        simp only at kk
        rw [hy] at kk
        refine kk.mono ?_
        rintro e w' ⟨rfl, rfl⟩
        exact ⟨rfl, hw⟩)
      have H2 : Hid (∀ wx, ((wx.cell? ⟨S, 0, none⟩ = some (.string (ba nm)) ∧ wx.cell? ⟨S, 1, none⟩ = some (.slice xa xn xc)) ∧ (wx.frozen? ⟨G, k * 2, none⟩ = false ∧ wx.frozen? ⟨G, k * 2 + 1, none⟩ = false) ∧ RenS W2 G k cs wx) → Calls Tryz.prog 134 #[.slice xa xn xc] wx fun e w' => ∃ a' c', e = .returned (.slice a' xn c') ∧ Hid (OwnB W2.heap.size w' (.slice a' xn c') d) ∧ ((w'.cell? ⟨S, 0, none⟩ = some (.string (ba nm)) ∧ w'.cell? ⟨S, 1, none⟩ = some (.slice xa xn xc)) ∧ (w'.frozen? ⟨G, k * 2, none⟩ = false ∧ w'.frozen? ⟨G, k * 2 + 1, none⟩ = false) ∧ RenS W2 G k cs w')) := hide (fun wx hw => by
        refine (cloneO_any l1 hff.2 hff.1 (t0.low (hw.2.2.1.low (unhide HB2) (unhide HB2).size (by rw [unhide HG]; exact Nat.le_refl _)))).mono ?_
        rintro e w' ⟨a', c', rfl, hat, b⟩
        exact ⟨a', c', rfl, hide (OwnB.less hw.2.2.1.size hat), ren_low hw b⟩)
      have hS : ((W2.cell? ⟨S, 0, none⟩ = some (.string (ba nm)) ∧ W2.cell? ⟨S, 1, none⟩ = some (.slice xa xn xc)) ∧ (W2.frozen? ⟨G, k * 2, none⟩ = false ∧ W2.frozen? ⟨G, k * 2 + 1, none⟩ = false) ∧ RenS W2 G k cs W2) := ⟨⟨q2.cell 0, q2.cell 1⟩, ⟨q3.free _, q3.free _⟩, ButM.of (Below.refl _ _), cs, q3, rfl, fun _ _ _ => rfl⟩
      obtain ⟨vf0, hvf0⟩ := ren_cell (W2 := W2) (G := G) (k := k) (i := k * 2) hcs (by omega)
      obtain ⟨vf1, hvf1⟩ := ren_cell (W2 := W2) (G := G) (k := k) (i := k * 2 + 1) hcs (by omega)
      have HQ2 := hide q2
      have HY := hide hy
      have HDD := hide hdd
      have HL1 := hide l1
      have HB2w := hide b2
      have HQ3 := hide q3
      have HW2 := hide hW2
      have HS0 := hide hS0
      clear hq hxx hdd hy hS0 hW2 b2 q2 q3 hbw l1 t0 hff hmem
      go_wp2
      rw [unhide HW2, unhide HS0]
      clear g0 g1
      go_region_held3 (fun wx => ((wx.cell? ⟨S, 0, none⟩ = some (.string (ba nm)) ∧ wx.cell? ⟨S, 1, none⟩ = some (.slice xa xn xc)) ∧ (wx.frozen? ⟨G, k * 2, none⟩ = false ∧ wx.frozen? ⟨G, k * 2 + 1, none⟩ = false) ∧ RenS W2 G k cs wx))
        (first | assumption | exact hS | exact ren_low hS (Below.refl _ _).drew | exact ren_put hSG (by assumption))
        (first
          | (go_at_call 96; revert hv9; intro hv9; refine (unhide H1 _ (by assumption)).mono ?_; rintro e w9 ⟨rfl, hS9⟩)
          | (go_at_call 96; refine (unhide H1 _ (by assumption)).mono ?_; rintro e w9 ⟨rfl, hS9⟩)
          | (go_at_call 134; refine (unhide H2 _ (by assumption)).mono ?_; rintro e w9 ⟨a9, c9, rfl, hv9, hS9⟩))
      all_goals
        obtain ⟨-, -, hR9⟩ := hS9
        have hat9 := unhide hv9
        have hP9 := hR9.put (a := .string (ba y)) (b := .slice a9 xn c9)
        obtain ⟨hbm, cs', hq9, hs9, hj9⟩ := hR9
        have hGW : G < W2.heap.size := (unhide HQ3).lt
        have HQZ := hide ((hq9.set (k * 2) (.string (ba y))).set (k * 2 + 1) (.slice a9 xn c9))
        have HSZ : Hid (((cs'.setIfInBounds (k * 2) (.string (ba y))).setIfInBounds (k * 2 + 1) (.slice a9 xn c9)).size = n * 2) := hide (by simp; omega)
        have HTZ := hide (fls_put (x := ⟨y, a9, xn, c9⟩) hlt hcs hs9 hj9 hyl (unhide htake))
        have HLZ : Hid ((ys ++ [(⟨y, a9, xn, c9⟩ : Fl)]).length = k + 1) := hide (by simp [hyl])
        have HNZ : Hid ((ys ++ [(⟨y, a9, xn, c9⟩ : Fl)]).map Fl.nm = ((xs.take (k + 1)).map Fl.nm).map R) := hide (by
          rw [htk, List.map_append, List.map_append, List.map_append, unhide hnm]
          simp [unhide HY])
        have HDZ : Hid (OAll w.heap.size G ((w9.setCell ⟨G, k * 2, none⟩ (.string (ba y))).setCell ⟨G, k * 2 + 1, none⟩ (.slice a9 xn c9)) (ys ++ [⟨y, a9, xn, c9⟩]) (ds.take (k + 1))) := hide (by
          have hd0 := unhide hda
          have hlt2 : (ds.take k).length = k := by rw [List.length_take]; omega
          have hap : ∀ j q (hj : j < (ys ++ [(⟨y, a9, xn, c9⟩ : Fl)]).length) (hq : q < (ys ++ [(⟨y, a9, xn, c9⟩ : Fl)]).length), j < q → ∀ g, (Value.slice (ys ++ [(⟨y, a9, xn, c9⟩ : Fl)])[q].a (ys ++ [(⟨y, a9, xn, c9⟩ : Fl)])[q].n (ys ++ [(⟨y, a9, xn, c9⟩ : Fl)])[q].c).ownBlock = some g → (Value.slice (ys ++ [(⟨y, a9, xn, c9⟩ : Fl)])[j].a (ys ++ [(⟨y, a9, xn, c9⟩ : Fl)])[j].n (ys ++ [(⟨y, a9, xn, c9⟩ : Fl)])[j].c).ownBlock ≠ some g := fun j q hj hq hjq g hg => by
            have hj2 : j < ys.length := by rw [List.length_append] at hq; simp at hq; omega
            have e1 : (ys ++ [(⟨y, a9, xn, c9⟩ : Fl)])[j] = ys[j]'hj2 := List.getElem_append_left hj2
            rw [e1]
            by_cases hq2 : q < ys.length
            · have e2 : (ys ++ [(⟨y, a9, xn, c9⟩ : Fl)])[q] = ys[q]'hq2 := List.getElem_append_left hq2
              rw [e2] at hg
              exact hd0.ap j q hj2 hq2 hjq g hg
            · have e2 : (ys ++ [(⟨y, a9, xn, c9⟩ : Fl)])[q] = ⟨y, a9, xn, c9⟩ := by
                rw [List.getElem_append_right (by omega)]
                simp
              rw [e2] at hg
              intro e
              have g1 := OwnB.base hat9 g hg
              have g2 := OwnB.lt (hd0.one j hj2 (by omega)).2.1 g e
              have g3 := (unhide HB2w).size
              omega
          refine ⟨by rw [htd, List.length_append, List.length_append, hlt2, hyl]; rfl, fun j h1 h2 => ?_, hap⟩
          have hbb : ButM G w9 ((w9.setCell ⟨G, k * 2, none⟩ (.string (ba y))).setCell ⟨G, k * 2 + 1, none⟩ (.slice a9 xn c9)) := ButM.trans but_put but_put
          by_cases hjk : j < k
          · have e1 : (ys ++ [(⟨y, a9, xn, c9⟩ : Fl)])[j] = ys[j]'(by omega) := List.getElem_append_left (by omega)
            have e2 : (ds.take (k + 1))[j] = (ds.take k)[j]'(by omega) := by rw [List.getElem_take, List.getElem_take]
            obtain ⟨l9, t9, n9⟩ := hd0.one j (by omega) (by omega)
            rw [e1, e2]
            exact ⟨l9, ((OwnB.low t9 (unhide HB2w)).but n9 hbm).but n9 hbb, n9⟩
          · have hje : j = k := by rw [List.length_append] at h1; simp at h1; omega
            subst hje
            have e1 : (ys ++ [(⟨y, a9, xn, c9⟩ : Fl)])[j] = ⟨y, a9, xn, c9⟩ := by rw [List.getElem_append_right (by omega)]; simp
            have e2 : (ds.take (j + 1))[j] = d := by rw [List.getElem_take]; exact unhide HDD
            have n9 : (Value.slice a9 xn c9).ownBlock ≠ some G := fun e => by
              have := OwnB.base hat9 G e
              omega
            rw [e1, e2]
            exact ⟨unhide HL1, OwnB.less (unhide HB2).size (hat9.but n9 hbb), n9⟩)
        have HBZ := hide (hP9.1.low (unhide HB2) (unhide HB2).size (by rw [unhide HG]; exact Nat.le_refl _))
        clear hv9 hat9 hP9 hbm hq9 hs9 hj9 hvf0 hvf1 hS
        go_wp2
        go_roundw
        case rel => exact ⟨k + 1, _, ys ++ [⟨y, a9, xn, c9⟩], hlt, by push_cast; rfl, unhide HQZ, unhide HSZ, unhide HLZ, HTZ, HNZ, HDZ, unhide HBZ⟩
        case measure => simp [intOf]; omega
    · have hke : k = n := by omega
      subst hke
      have HZ := hide (And.intro hq hbw)
      have hyl2 := hyl
      have HN : Hid (ys.map Fl.nm = (xs.map Fl.nm).map R) := hide (by
        have h1 := unhide hnm
        rw [List.take_of_length_le (by rw [unhide HX]; exact Nat.le_refl _)] at h1
        exact h1)
      have HDD : Hid (OAll w.heap.size G wr ys ds) := hide (by
        have h1 := unhide hda
        rw [List.take_of_length_le (by rw [(unhide HD).len, unhide HX]; exact Nat.le_refl _)] at h1
        exact h1)
      have HT := hide (unhide htake)
      have HC := hide hcs
      have HY := hide hyl
      clear hq hbw hnm hda htake hcs hyl hyl2
      go_wp2
      go_ret
      refine ⟨G, ys, rfl, unhide HN, ?_, unhide HDD, (unhide HZ).2⟩
      have hyk := unhide HY
      have h1 := unhide HT
      unfold FRow
      refine ⟨flsV_length ys, Or.inr ⟨G, k, cs, by rw [hyk], by rw [unhide HG]; exact Nat.le_refl _, (unhide HZ).1, by omega, by unfold maxLen; omega, unhide HC, ?_⟩⟩
      rw [hyk]
      exact h1
theorem OAll.less {B C G : Nat} {w : World} {ys : List Fl} {ds : List Bs} (hBC : B ≤ C) (h : OAll C G w ys ds) : OAll B G w ys ds := ⟨h.len, fun k h1 h2 => ⟨(h.one k h1 h2).1, OwnB.less hBC (h.one k h1 h2).2.1, (h.one k h1 h2).2.2⟩, h.ap⟩
set_option maxRecDepth 100000 in
set_option maxHeartbeats 4000000 in
theorem addO_any {w : World} {a : Option Addr} {n c : Nat} {xs : List Fl} {ds : List Bs} {p v : Bs} (hp : p.length ≤ 1000000) (hv : v.length ≤ 1000000) (hx : xs.length = n) (hn : n ≤ 1000) (h : FAt w a xs) (hd : DAt w xs ds) (hf : ∀ x ∈ xs, (x.a = none ∨ (∃ B O, x.a = some ⟨B, O, none⟩) ∨ ∃ y, x.a = some y ∧ x.n = 0 ∧ x.c = 0) ∧ x.n ≤ 1073741824) (hnm : ∀ x ∈ xs, x.nm.length ≤ 4000000) :
    Calls Tryz.prog 44 #[.slice a n c, .agg #[.string (ba p), .string (ba v)]] w fun e w' => ∃ A ys, e = .returned (.slice (some ⟨A, 0, none⟩) n n) ∧ ys.map Fl.nm = (xs.map Fl.nm).map (fun x => preL p v ++ x) ∧ FRow w.heap.size w' (.slice (some ⟨A, 0, none⟩) n n) ys ∧ OAll w.heap.size A w' ys ds ∧ Below w.heap.size w w' := by
  obtain ⟨P, hP⟩ : ∃ P, preL p v = P := ⟨_, rfl⟩
  have hPl : P.length ≤ 4000000 := by rw [← hP, preL_len]; omega
  have KP := hide (fun W => prefix_any hp hv W)
  rw [hP] at KP ⊢
  obtain ⟨S, hS⟩ : ∃ S, w.heap.size = S := ⟨_, rfl⟩
  obtain ⟨W1, hW1⟩ : ∃ W1, w.alloc (.cells #[.string (ba p), .string (ba v)] 45) = W1 := ⟨_, rfl⟩
  have b1 : Below w.heap.size w W1 := by rw [← hW1]; exact lowAA (Below.refl _ _) _
  have q1 : Blk W1 S #[.string (ba p), .string (ba v)] 45 := by rw [← hW1, ← hS]; exact Blk.new _ _ _
  have x0 := q1.cell 0
  have x1 := q1.cell 1
  rw [← hW1, ← hS] at x0 x1
  have HB1 := hide b1
  have HW1 := hide hW1
  have HX := hide hx
  have HA := hide h
  have HD := hide hd
  have HF := hide hf
  have HNM := hide hnm
  have HPL := hide hPl
  clear hP hPl hS hW1 b1 q1 hx h hd hf hnm hp hv
  go_enter Tryz.func44, Tryz.ntmps44
  go_wp2_with (go_at_call 46; fail)
  rw [unhide HW1]
  refine (unhide KP _).mono ?_
  rintro e w2 ⟨rfl, b2⟩
  clear x0 x1
  obtain ⟨K, hK⟩ : ∃ K, w2.heap.size = K := ⟨_, rfl⟩
  obtain ⟨W3, hW3⟩ : ∃ W3, w2.alloc (.cells #[.string (ba P)] 9) = W3 := ⟨_, rfl⟩
  have b3 : Below w2.heap.size w2 W3 := by rw [← hW3]; exact lowAA (Below.refl _ _) _
  have q3 : Blk W3 K #[.string (ba P)] 9 := by rw [← hW3, ← hK]; exact Blk.new _ _ _
  have hb := low_trans (unhide HB1) (low_trans b2 b3)
  have KR := hide (renamedO97 (w := W3) (c := c) (pb := K) (R := fun x => P ++ x) (unhide HX) hn ((unhide HA).low hb) ((unhide HD).low hb) (unhide HF) (fun W hW x hx => addName_any (unhide HPL) (unhide HNM x hx) ((q3.low hW).cell 0)))
  have HB := hide hb
  have HW3 := hide hW3
  have HK := hide hK
  clear b2 b3 q3 hb hW3 hK
  go_wp2_with (go_at_call 76; fail)
  rw [unhide HW3, unhide HK]
  refine (unhide KR).mono ?_
  rintro e w4 ⟨A, ys, rfl, h1, h2, h3, b4⟩
  have HZ := hide (low_trans (unhide HB) b4)
  have H1 := hide h1
  have hbs := (unhide HB).size
  have H2 := hide (FRow.less hbs h2)
  have H3 := hide (OAll.less hbs h3)
  clear h1 h2 h3 b4
  go_wp2
  go_ret
  exact ⟨A, ys, rfl, unhide H1, unhide H2, unhide H3, unhide HZ⟩
end Go.Proofs.YtkablmjkffdloaaGreatDoor
