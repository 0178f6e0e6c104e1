/-
  Files of an archive, under their own names, in memory of their own: each file's bytes are a row of our own.
-/
import Derived.Test.YtkablmjkffdloaaGreatDoorFlsB
import Derived.Test.YtkablmjkffdloaaGreatDoorUnpX
namespace Go.Proofs.YtkablmjkffdloaaGreatDoor
open Go.RowKit

theorem cloneO_any {w : World} {a : Option Addr} {n c : Nat} {b : Bs} (hn : b.length = n) (hN : n ≤ 1073741824) (hf : a = none ∨ (∃ B O, a = some ⟨B, O, none⟩) ∨ ∃ y, a = some y ∧ n = 0 ∧ c = 0) (h : BAt w a b) :
    Calls Tryz.prog 134 #[.slice a n c] w fun e w' => ∃ a' c', e = .returned (.slice a' n c') ∧ OwnB w.heap.size w' (.slice a' n c') b ∧ Below w.heap.size w w' := by
  rcases hf with rfl | hf
  · have hb : b = [] := by
      rcases h.els with h0 | ⟨B, O, e, _⟩
      · exact h0
      · cases e
    subst hb
    simp at hn
    subst hn
    refine (Tryz.bytes_Clone_nil 0 c w).mono ?_
    rintro e w' ⟨rfl, rfl⟩
    exact ⟨none, 0, rfl, World.ownsRow_nil _ _ _ _, Below.refl _ _⟩
  · obtain ⟨A, rfl, hA⟩ : ∃ A : Addr, a = some A ∧ ((∃ B O, A = ⟨B, O, none⟩) ∨ n = 0) := by
      rcases hf with ⟨B, O, rfl⟩ | ⟨y, rfl, h0, _⟩
      · exact ⟨_, rfl, Or.inl ⟨B, O, rfl⟩⟩
      · exact ⟨y, rfl, Or.inr h0⟩
    refine (Tryz.bytes_Clone_at A n c (b.map fun x => (x.toNat : Int)) w (by rw [List.length_map]; exact hn) (by omega) (fun i hi => ?_)).mono ?_
    · have hil : i < b.length := by omega
      obtain ⟨B', O', e, h1⟩ := h.at hil
      obtain rfl := Option.some.inj e
      rw [WideShapes.add_plain, h1]
      simp [hil]
    · rintro e w' ⟨v', rfl, ho, -, hb⟩
      have ho2 : OwnB w.heap.size w' v' b := by
        unfold OwnB
        rw [List.map_map] at ho
        rw [hn]
        exact ho
      obtain ⟨a', c', hv, -, -, -⟩ := OwnB.at ho2
      rw [hn] at hv
      subst hv
      exact ⟨a', c', rfl, ho2, hb⟩
/-- Each file's bytes are a row of our own, none of them at block G. -/
structure OAll (base G : Nat) (w : World) (ys : List Fl) (ds : List Bs) : Prop where
  len : ds.length = ys.length
  one : ∀ k (h1 : k < ys.length) (h2 : k < ds.length), ds[k].length = ys[k].n ∧ OwnB base w (.slice ys[k].a ys[k].n ys[k].c) ds[k] ∧ (Value.slice ys[k].a ys[k].n ys[k].c).ownBlock ≠ some G
  ap : ∀ j k (hj : j < ys.length) (hk : k < ys.length), j < k → ∀ g, (Value.slice ys[k].a ys[k].n ys[k].c).ownBlock = some g → (Value.slice ys[j].a ys[j].n ys[j].c).ownBlock ≠ some g
theorem OAll.low {base G : Nat} {w w' : World} {ys : List Fl} {ds : List Bs} (h : OAll base G w ys ds) (b : Below w.heap.size w w') : OAll base G w' ys ds := ⟨h.len, fun k h1 h2 => ⟨(h.one k h1 h2).1, OwnB.low (h.one k h1 h2).2.1 b, (h.one k h1 h2).2.2⟩, h.ap⟩
theorem OwnB.but {base G : Nat} {w w' : World} {v : Value} {l : Bs} (h : OwnB base w v l) (hne : v.ownBlock ≠ some G) (hb : ButM G w w') : OwnB base w' v l :=
  OwnB.keep h fun g hg => hb.block g (OwnB.lt h g hg) (fun e => hne (by rw [hg, e]))
theorem OAll.dat {base G : Nat} {w : World} {ys : List Fl} {ds : List Bs} (h : OAll base G w ys ds) : DAt w ys ds := ⟨h.len, fun k h1 h2 => by
  obtain ⟨e, o, -⟩ := h.one k h1 h2
  refine ⟨e, ?_⟩
  obtain ⟨a', c', hv, hat, -, -⟩ := OwnB.at o
  injection hv with q1 q2 q3
  rw [q1]
  exact hat⟩

set_option maxRecDepth 100000 in
set_option maxHeartbeats 8000000 in
theorem renamed77 {w : World} {a : Option Addr} {n c : Nat} {xs : List Fl} {ds : List Bs} {R : Bs → Bs} (hx : xs.length = n) (hn : n ≤ 1000) (h : FAt w a xs) (hd : DAt w xs ds) (hf : ∀ x ∈ xs, (x.a = none ∨ (∃ B O, x.a = some ⟨B, O, none⟩) ∨ ∃ y, x.a = some y ∧ x.n = 0 ∧ x.c = 0) ∧ x.n ≤ 1073741824)
    (hR : ∀ W, Below w.heap.size w W → ∀ x ∈ xs, Calls Tryz.prog 77 #[.string (ba x.nm)] W fun e w' => e = .returned (.string (ba (R x.nm))) ∧ w' = W) :
    Calls Tryz.prog 76 #[.slice a n c, .func (.func 77) #[] #[]] w fun e w' => ∃ A ys, e = .returned (.slice (some ⟨A, 0, none⟩) n n) ∧ ys.map Fl.nm = (xs.map Fl.nm).map R ∧ FRow w.heap.size w' (.slice (some ⟨A, 0, none⟩) n n) ys ∧ OAll w.heap.size A w' ys ds ∧ Below w.heap.size w w' := by
  obtain ⟨G, hG⟩ : ∃ G, w.heap.size = G := ⟨_, rfl⟩
  obtain ⟨i0, hi0, hz0, hz1, hz2⟩ := info56p
  have hmk := run_make (P := Tryz.prog) w 22 56 i0 _ Tryz.underlying22 hi0 hz0 .i64 .i64 (n : Int) (n : Int) (by omega) (Int.le_refl _) (by rw [hz2]; omega) (by omega)
  simp only [Int.toNat_natCast] at hmk
  obtain ⟨cs0, hcs0⟩ : ∃ cs, madeCells (Value.agg #[.string ⟨#[]⟩, .slice none 0 0]).cells (n * i0.size) = cs := ⟨_, rfl⟩
  have hcz : cs0.size = n * 2 := by rw [← hcs0, size_madeCells, hz1]
  rw [hcs0] at hmk
  obtain ⟨W1, hW1⟩ : ∃ W1, w.alloc (.cells cs0 56) = W1 := ⟨_, rfl⟩
  rw [hW1, hG] at hmk
  have b1 : Below w.heap.size w W1 := by rw [← hW1]; exact lowAA (Below.refl _ _) _
  have q1 : Blk W1 G cs0 56 := by rw [← hW1, ← hG]; exact Blk.new _ _ _
  have HX := hide hx
  have HA := hide h
  have HD := hide hd
  have HFo := hide hf
  have HR := hide hR
  have HB1 := hide b1
  have HQ1 := hide q1
  have HG := hide hG
  have HCZ := hide hcz
  clear hx h hd hf hR hi0 hz0 hz1 hz2 hcs0 hcz hW1 b1 q1 hG
  go_enter Tryz.func76, Tryz.ntmps76
  go_wp2
  go_loopw [6, 7, 13] (fun _ _ v13 wr => ∃ (k : Nat) (cs : Array Value) (ys : List Fl), k ≤ n ∧ v13 = .int .i64 (k : Int) ∧ Blk wr G cs 56 ∧ cs.size = n * 2 ∧ ys.length = k ∧ Hid (cs.toList.take (k * 2) = flsV ys) ∧ Hid (ys.map Fl.nm = ((xs.take k).map Fl.nm).map R) ∧ Hid (OAll w.heap.size G wr ys (ds.take k)) ∧ Below w.heap.size w wr) (fun _ _ v13 _ => n - (intOf v13).toNat)
  case atStart => exact ⟨0, cs0, [], Nat.zero_le _, rfl, unhide HQ1, unhide HCZ, rfl, hide (by simp [flsV]), hide (by simp), hide ⟨by simp, (fun k h => by simp at h), (fun j k h => by simp at h)⟩, unhide HB1⟩
  case round =>
    rename World => wr
    obtain ⟨k, cs, ys, hk, rfl, hq, hcs, hyl, htake, hnm, hda, hbw⟩ := hrel
    by_cases hlt : k < n
    · have hkx : k < xs.length := by rw [unhide HX]; exact hlt
      have hkd : k < ds.length := by rw [(unhide HD).len]; exact hkx
      have hlt' : (k : Int) < (n : Int) := by omega
      obtain ⟨B, O, rfl, g0, g1⟩ := ((unhide HA).low hbw).get hkx
      obtain ⟨l1, t0⟩ := (unhide HD).one k hkx hkd
      have hff := unhide HFo _ (List.getElem_mem hkx)
      have hmem : xs[k] ∈ xs := List.getElem_mem hkx
      have htk := take_sn hkx
      have htd := take_sn hkd
      obtain ⟨x, hxx⟩ : ∃ x, xs[k] = x := ⟨_, rfl⟩
      obtain ⟨d, hdd⟩ : ∃ d, ds[k] = d := ⟨_, rfl⟩
      rw [hxx] at g0 g1 l1 t0 hff hmem htk
      rw [hdd] at l1 t0 htd
      obtain ⟨nm, xa, xn, xc⟩ := x
      simp only at g0 g1 l1 t0 hff
      obtain ⟨y, hy⟩ : ∃ y, R nm = y := ⟨_, rfl⟩
      obtain ⟨S, hS0⟩ : ∃ S, wr.heap.size = S := ⟨_, rfl⟩
      obtain ⟨W2, hW2⟩ : ∃ W2, wr.alloc (.cells #[.string (ba nm), .slice xa xn xc] 56) = W2 := ⟨_, rfl⟩
      have b2 : Below wr.heap.size wr W2 := by rw [← hW2]; exact lowAA (Below.refl _ _) _
      have q2 : Blk W2 S #[.string (ba nm), .slice xa xn xc] 56 := by rw [← hW2, ← hS0]; exact Blk.new _ _ _
      have q3 := hq.low b2
      have HBW := hide hbw
      have HB2 := hide (low_trans hbw b2)
      have hSG : S ≠ G := by have := hq.lt; omega
      have H1 : Hid (∀ wx, ((wx.cell? ⟨S, 0, none⟩ = some (.string (ba nm)) ∧ wx.cell? ⟨S, 1, none⟩ = some (.slice xa xn xc)) ∧ (wx.frozen? ⟨G, k * 2, none⟩ = false ∧ wx.frozen? ⟨G, k * 2 + 1, none⟩ = false) ∧ RenS W2 G k cs wx) → Calls Tryz.prog 77 #[.string (ba nm)] wx fun e w' => e = .returned (.string (ba y)) ∧ ((w'.cell? ⟨S, 0, none⟩ = some (.string (ba nm)) ∧ w'.cell? ⟨S, 1, none⟩ = some (.slice xa xn xc)) ∧ (w'.frozen? ⟨G, k * 2, none⟩ = false ∧ w'.frozen? ⟨G, k * 2 + 1, none⟩ = false) ∧ RenS W2 G k cs w')) := hide (fun wx hw => by
        have kk := unhide HR wx (hw.2.2.1.low (unhide HB2) (unhide HB2).size (by rw [unhide HG]; exact Nat.le_refl _)) _ hmem
        simp only at kk
        rw [hy] at kk
        refine kk.mono ?_
        rintro e w' ⟨rfl, rfl⟩
        exact ⟨rfl, hw⟩)
      have H2 : Hid (∀ wx, ((wx.cell? ⟨S, 0, none⟩ = some (.string (ba nm)) ∧ wx.cell? ⟨S, 1, none⟩ = some (.slice xa xn xc)) ∧ (wx.frozen? ⟨G, k * 2, none⟩ = false ∧ wx.frozen? ⟨G, k * 2 + 1, none⟩ = false) ∧ RenS W2 G k cs wx) → Calls Tryz.prog 134 #[.slice xa xn xc] wx fun e w' => ∃ a' c', e = .returned (.slice a' xn c') ∧ Hid (OwnB W2.heap.size w' (.slice a' xn c') d) ∧ ((w'.cell? ⟨S, 0, none⟩ = some (.string (ba nm)) ∧ w'.cell? ⟨S, 1, none⟩ = some (.slice xa xn xc)) ∧ (w'.frozen? ⟨G, k * 2, none⟩ = false ∧ w'.frozen? ⟨G, k * 2 + 1, none⟩ = false) ∧ RenS W2 G k cs w')) := hide (fun wx hw => by
        refine (cloneO_any l1 hff.2 hff.1 (t0.low (hw.2.2.1.low (unhide HB2) (unhide HB2).size (by rw [unhide HG]; exact Nat.le_refl _)))).mono ?_
        rintro e w' ⟨a', c', rfl, hat, b⟩
        exact ⟨a', c', rfl, hide (OwnB.less hw.2.2.1.size hat), ren_low hw b⟩)
      have hS : ((W2.cell? ⟨S, 0, none⟩ = some (.string (ba nm)) ∧ W2.cell? ⟨S, 1, none⟩ = some (.slice xa xn xc)) ∧ (W2.frozen? ⟨G, k * 2, none⟩ = false ∧ W2.frozen? ⟨G, k * 2 + 1, none⟩ = false) ∧ RenS W2 G k cs W2) := ⟨⟨q2.cell 0, q2.cell 1⟩, ⟨q3.free _, q3.free _⟩, ButM.of (Below.refl _ _), cs, q3, rfl, fun _ _ _ => rfl⟩
      obtain ⟨vf0, hvf0⟩ := ren_cell (W2 := W2) (G := G) (k := k) (i := k * 2) hcs (by omega)
      obtain ⟨vf1, hvf1⟩ := ren_cell (W2 := W2) (G := G) (k := k) (i := k * 2 + 1) hcs (by omega)
      have HQ2 := hide q2
      have HY := hide hy
      have HDD := hide hdd
      have HL1 := hide l1
      have HB2w := hide b2
      have HQ3 := hide q3
      have HW2 := hide hW2
      have HS0 := hide hS0
      clear hq hxx hdd hy hS0 hW2 b2 q2 q3 hbw l1 t0 hff hmem
      go_wp2
      rw [unhide HW2, unhide HS0]
      clear g0 g1
      go_region_held3 (fun wx => ((wx.cell? ⟨S, 0, none⟩ = some (.string (ba nm)) ∧ wx.cell? ⟨S, 1, none⟩ = some (.slice xa xn xc)) ∧ (wx.frozen? ⟨G, k * 2, none⟩ = false ∧ wx.frozen? ⟨G, k * 2 + 1, none⟩ = false) ∧ RenS W2 G k cs wx))
        (first | assumption | exact hS | exact ren_low hS (Below.refl _ _).drew | exact ren_put hSG (by assumption))
        (first
          | (go_at_call 77; revert hv9; intro hv9; refine (unhide H1 _ (by assumption)).mono ?_; rintro e w9 ⟨rfl, hS9⟩)
          | (go_at_call 77; refine (unhide H1 _ (by assumption)).mono ?_; rintro e w9 ⟨rfl, hS9⟩)
          | (go_at_call 134; refine (unhide H2 _ (by assumption)).mono ?_; rintro e w9 ⟨a9, c9, rfl, hv9, hS9⟩))
      all_goals
        obtain ⟨-, -, hR9⟩ := hS9
        have hat9 := unhide hv9
        have hP9 := hR9.put (a := .string (ba y)) (b := .slice a9 xn c9)
        obtain ⟨hbm, cs', hq9, hs9, hj9⟩ := hR9
        have hGW : G < W2.heap.size := (unhide HQ3).lt
        have HQZ := hide ((hq9.set (k * 2) (.string (ba y))).set (k * 2 + 1) (.slice a9 xn c9))
        have HSZ : Hid (((cs'.setIfInBounds (k * 2) (.string (ba y))).setIfInBounds (k * 2 + 1) (.slice a9 xn c9)).size = n * 2) := hide (by simp; omega)
        have HTZ := hide (fls_put (x := ⟨y, a9, xn, c9⟩) hlt hcs hs9 hj9 hyl (unhide htake))
        have HLZ : Hid ((ys ++ [(⟨y, a9, xn, c9⟩ : Fl)]).length = k + 1) := hide (by simp [hyl])
        have HNZ : Hid ((ys ++ [(⟨y, a9, xn, c9⟩ : Fl)]).map Fl.nm = ((xs.take (k + 1)).map Fl.nm).map R) := hide (by
          rw [htk, List.map_append, List.map_append, List.map_append, unhide hnm]
          simp [unhide HY])
        have HDZ : Hid (OAll w.heap.size G ((w9.setCell ⟨G, k * 2, none⟩ (.string (ba y))).setCell ⟨G, k * 2 + 1, none⟩ (.slice a9 xn c9)) (ys ++ [⟨y, a9, xn, c9⟩]) (ds.take (k + 1))) := hide (by
          have hd0 := unhide hda
          have hlt2 : (ds.take k).length = k := by rw [List.length_take]; omega
          have hap : ∀ j q (hj : j < (ys ++ [(⟨y, a9, xn, c9⟩ : Fl)]).length) (hq : q < (ys ++ [(⟨y, a9, xn, c9⟩ : Fl)]).length), j < q → ∀ g, (Value.slice (ys ++ [(⟨y, a9, xn, c9⟩ : Fl)])[q].a (ys ++ [(⟨y, a9, xn, c9⟩ : Fl)])[q].n (ys ++ [(⟨y, a9, xn, c9⟩ : Fl)])[q].c).ownBlock = some g → (Value.slice (ys ++ [(⟨y, a9, xn, c9⟩ : Fl)])[j].a (ys ++ [(⟨y, a9, xn, c9⟩ : Fl)])[j].n (ys ++ [(⟨y, a9, xn, c9⟩ : Fl)])[j].c).ownBlock ≠ some g := fun j q hj hq hjq g hg => by
            have hj2 : j < ys.length := by rw [List.length_append] at hq; simp at hq; omega
            have e1 : (ys ++ [(⟨y, a9, xn, c9⟩ : Fl)])[j] = ys[j]'hj2 := List.getElem_append_left hj2
            rw [e1]
            by_cases hq2 : q < ys.length
            · have e2 : (ys ++ [(⟨y, a9, xn, c9⟩ : Fl)])[q] = ys[q]'hq2 := List.getElem_append_left hq2
              rw [e2] at hg
              exact hd0.ap j q hj2 hq2 hjq g hg
            · have e2 : (ys ++ [(⟨y, a9, xn, c9⟩ : Fl)])[q] = ⟨y, a9, xn, c9⟩ := by
                rw [List.getElem_append_right (by omega)]
                simp
              rw [e2] at hg
              intro e
              have g1 := OwnB.base hat9 g hg
              have g2 := OwnB.lt (hd0.one j hj2 (by omega)).2.1 g e
              have g3 := (unhide HB2w).size
              omega
          refine ⟨by rw [htd, List.length_append, List.length_append, hlt2, hyl]; rfl, fun j h1 h2 => ?_, hap⟩
          have hbb : ButM G w9 ((w9.setCell ⟨G, k * 2, none⟩ (.string (ba y))).setCell ⟨G, k * 2 + 1, none⟩ (.slice a9 xn c9)) := ButM.trans but_put but_put
          by_cases hjk : j < k
          · have e1 : (ys ++ [(⟨y, a9, xn, c9⟩ : Fl)])[j] = ys[j]'(by omega) := List.getElem_append_left (by omega)
            have e2 : (ds.take (k + 1))[j] = (ds.take k)[j]'(by omega) := by rw [List.getElem_take, List.getElem_take]
            obtain ⟨l9, t9, n9⟩ := hd0.one j (by omega) (by omega)
            rw [e1, e2]
            exact ⟨l9, ((OwnB.low t9 (unhide HB2w)).but n9 hbm).but n9 hbb, n9⟩
          · have hje : j = k := by rw [List.length_append] at h1; simp at h1; omega
            subst hje
            have e1 : (ys ++ [(⟨y, a9, xn, c9⟩ : Fl)])[j] = ⟨y, a9, xn, c9⟩ := by rw [List.getElem_append_right (by omega)]; simp
            have e2 : (ds.take (j + 1))[j] = d := by rw [List.getElem_take]; exact unhide HDD
            have n9 : (Value.slice a9 xn c9).ownBlock ≠ some G := fun e => by
              have := OwnB.base hat9 G e
              omega
            rw [e1, e2]
            exact ⟨unhide HL1, OwnB.less (unhide HB2).size (hat9.but n9 hbb), n9⟩)
        have HBZ := hide (hP9.1.low (unhide HB2) (unhide HB2).size (by rw [unhide HG]; exact Nat.le_refl _))
        clear hv9 hat9 hP9 hbm hq9 hs9 hj9 hvf0 hvf1 hS
        go_wp2
        go_roundw
        case rel => exact ⟨k + 1, _, ys ++ [⟨y, a9, xn, c9⟩], hlt, by push_cast; rfl, unhide HQZ, unhide HSZ, unhide HLZ, HTZ, HNZ, HDZ, unhide HBZ⟩
        case measure => simp [intOf]; omega
    · have hke : k = n := by omega
      subst hke
      have HZ := hide (And.intro hq hbw)
      have hyl2 := hyl
      have HN : Hid (ys.map Fl.nm = (xs.map Fl.nm).map R) := hide (by
        have h1 := unhide hnm
        rw [List.take_of_length_le (by rw [unhide HX]; exact Nat.le_refl _)] at h1
        exact h1)
      have HDD : Hid (OAll w.heap.size G wr ys ds) := hide (by
        have h1 := unhide hda
        rw [List.take_of_length_le (by rw [(unhide HD).len, unhide HX]; exact Nat.le_refl _)] at h1
        exact h1)
      have HT := hide (unhide htake)
      have HC := hide hcs
      have HY := hide hyl
      clear hq hbw hnm hda htake hcs hyl hyl2
      go_wp2
      go_ret
      refine ⟨G, ys, rfl, unhide HN, ?_, unhide HDD, (unhide HZ).2⟩
      have hyk := unhide HY
      have h1 := unhide HT
      unfold FRow
      refine ⟨flsV_length ys, Or.inr ⟨G, k, cs, by rw [hyk], by rw [unhide HG]; exact Nat.le_refl _, (unhide HZ).1, by omega, by unfold maxLen; omega, unhide HC, ?_⟩⟩
      rw [hyk]
      exact h1
end Go.Proofs.YtkablmjkffdloaaGreatDoor
