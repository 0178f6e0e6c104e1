/-
  Files under other names, in memory of their own: renamed at the closures of Strip, Add, Unpack; Prefix.
-/
import Derived.Test.YtkablmjkffdloaaGreatDoorFlsA
import Derived.Laws.MakeOwn
import Derived.Deep.RegionHeld3
namespace Go.Proofs.YtkablmjkffdloaaGreatDoor
open Go.RowKit

theorem cloneF_any {w : World} {a : Option Addr} {n c : Nat} {b : Bs} (hn : b.length = n) (hN : n ≤ 1073741824) (hf : a = none ∨ (∃ B O, a = some ⟨B, O, none⟩) ∨ ∃ y, a = some y ∧ n = 0 ∧ c = 0) (h : BAt w a b) :
    Calls Tryz.prog 134 #[.slice a n c] w fun e w' => ∃ a' c', e = .returned (.slice a' n c') ∧ BAt w' a' b ∧ (∀ B O, a' = some ⟨B, O, none⟩ → w.heap.size ≤ B) ∧ (a' = none ∨ ∃ B O, a' = some ⟨B, O, none⟩) ∧ Below w.heap.size w w' := by
  rcases hf with rfl | hf
  · have hb : b = [] := by
      rcases h.els with h0 | ⟨B, O, e, _⟩
      · exact h0
      · cases e
    subst hb
    simp at hn
    subst hn
    refine (Tryz.bytes_Clone_nil 0 c w).mono ?_
    rintro e w' ⟨rfl, rfl⟩
    exact ⟨none, 0, rfl, ⟨Or.inl rfl⟩, fun B O e => (by cases e), Or.inl rfl, Below.refl _ _⟩
  · obtain ⟨A, rfl, hA⟩ : ∃ A : Addr, a = some A ∧ ((∃ B O, A = ⟨B, O, none⟩) ∨ n = 0) := by
      rcases hf with ⟨B, O, rfl⟩ | ⟨y, rfl, h0, _⟩
      · exact ⟨_, rfl, Or.inl ⟨B, O, rfl⟩⟩
      · exact ⟨y, rfl, Or.inr h0⟩
    refine (Tryz.bytes_Clone_at A n c (b.map fun x => (x.toNat : Int)) w (by rw [List.length_map]; exact hn) (by omega) (fun i hi => ?_)).mono ?_
    · have hil : i < b.length := by omega
      obtain ⟨B', O', e, h1⟩ := h.at hil
      obtain rfl := Option.some.inj e
      rw [WideShapes.add_plain, h1]
      simp [hil]
    · rintro e w' ⟨v', rfl, ho, -, hb⟩
      have ho2 : OwnB w.heap.size w' v' b := by
        unfold OwnB
        rw [List.map_map] at ho
        rw [hn]
        exact ho
      have hbase := OwnB.base ho2
      have hform : ∀ a n c, v' = .slice a n c → a = none ∨ ∃ B O, a = some ⟨B, O, none⟩ := fun a n c e => by
        rcases ho2.2 with ⟨e2, _⟩ | ⟨g, cap, cur, e2, _⟩
        · rw [e] at e2; cases e2; exact Or.inl rfl
        · rw [e] at e2; cases e2; exact Or.inr ⟨g, 0, rfl⟩
      obtain ⟨a', c', rfl, hat, -, -⟩ := OwnB.at ho2
      refine ⟨a', c', by rw [hn], hat, fun B O e => ?_, hform _ _ _ rfl, hb⟩
      subst e
      exact hbase B rfl
theorem info56p : ∃ i, Tryz.prog.info? 56 = some i ∧ i.zero = some (.agg #[.string ⟨#[]⟩, .slice none 0 0]) ∧ i.size = 2 ∧ i.bytes = 40 := info_parts info56
/-- A module's prefix. -/
def preL (p v : Bs) : Bs := p ++ [64] ++ v ++ [47]
theorem preL_len (p v : Bs) : (preL p v).length = p.length + v.length + 2 := by unfold preL; simp; omega
theorem prefix_any {p v : Bs} (hp : p.length ≤ 1000000) (hv : v.length ≤ 1000000) (w : World) : Calls Tryz.prog 46 #[.agg #[.string (ba p), .string (ba v)]] w fun e w' => e = .returned (.string (ba (preL p v))) ∧ Below w.heap.size w w' := by
  obtain ⟨x1, hx1⟩ : ∃ x, p ++ [64] = x := ⟨_, rfl⟩
  obtain ⟨x2, hx2⟩ : ∃ x, x1 ++ v = x := ⟨_, rfl⟩
  obtain ⟨x3, hx3⟩ : ∃ x, x2 ++ [47] = x := ⟨_, rfl⟩
  have e1 : ba p ++ (⟨#[64]⟩ : ByteArray) = ba x1 := by rw [← hx1]; exact cat _ [64]
  have e2 : ba x1 ++ ba v = ba x2 := by rw [← hx2]; exact cat _ _
  have e3 : ba x2 ++ (⟨#[47]⟩ : ByteArray) = ba x3 := by rw [← hx3]; exact cat _ [47]
  obtain ⟨z0, hz0⟩ : ∃ z, (ba p).size = z := ⟨_, rfl⟩
  obtain ⟨z1, hz1⟩ : ∃ z, (ba x1).size = z := ⟨_, rfl⟩
  obtain ⟨z2, hz2⟩ : ∃ z, (ba v).size = z := ⟨_, rfl⟩
  obtain ⟨z3, hz3⟩ : ∃ z, (ba x2).size = z := ⟨_, rfl⟩
  have n0 : ¬ 9223372036854775807 < z0 + 1 := by rw [← hz0, ba_size]; omega
  have n1 : ¬ 9223372036854775807 < z1 + z2 := by rw [← hz1, ← hz2, ba_size, ba_size, ← hx1, List.length_append]; simp; omega
  have n2 : ¬ 9223372036854775807 < z3 + 1 := by rw [← hz3, ba_size, ← hx2, ← hx1]; simp; omega
  have HF : Hid (preL p v = x3) := hide (by rw [← hx3, ← hx2, ← hx1]; rfl)
  obtain ⟨A, hA⟩ : ∃ A, w.heap.size = A := ⟨_, rfl⟩
  obtain ⟨W1, hW1⟩ : ∃ W1, w.alloc (.cells #[.string (ba p), .string (ba v)] 45) = W1 := ⟨_, rfl⟩
  have b1 : Below w.heap.size w W1 := by rw [← hW1]; exact lowAA (Below.refl _ _) _
  have q1 : Blk W1 A #[.string (ba p), .string (ba v)] 45 := by rw [← hW1, ← hA]; exact Blk.new _ _ _
  have k0 := q1.cell 0
  have k1 := q1.cell 1
  have HB : Hid (Below A w W1) := hide (by rw [← hA]; exact b1)
  have HW := hide hW1
  have HA := hide hA
  clear hx1 hx2 hx3 b1 q1 hW1 hA hp hv
  go_enter Tryz.func46, Tryz.ntmps46
  go_wp2
  rw [unhide HW, unhide HA]
  go_wp2
  go_ret
  exact ⟨by rw [unhide HF]; rfl, unhide HB⟩


/-- All but a row is as it was, and of the row all but two cells. -/
def RenS (W2 : World) (G k : Nat) (cs : Array Value) (wx : World) : Prop := ButM G W2 wx ∧ ∃ cs', Blk wx G cs' 56 ∧ cs'.size = cs.size ∧ ∀ j, j ≠ k * 2 → j ≠ k * 2 + 1 → cs'[j]? = cs[j]?
theorem RenS.low {W2 wx wy : World} {G k : Nat} {cs : Array Value} (h : RenS W2 G k cs wx) (b : Below wx.heap.size wx wy) : RenS W2 G k cs wy := by
  obtain ⟨h1, cs', h2, h3⟩ := h
  exact ⟨h1.trans (ButM.of b), cs', h2.low b, h3⟩
theorem RenS.put {W2 wx : World} {G k : Nat} {cs : Array Value} {a b : Value} (h : RenS W2 G k cs wx) : RenS W2 G k cs ((wx.setCell ⟨G, k * 2, none⟩ a).setCell ⟨G, k * 2 + 1, none⟩ b) := by
  obtain ⟨h1, cs', h2, h3, h4⟩ := h
  refine ⟨⟨h1.os, h1.tape, h1.output, by simpa using h1.size, fun j hj hne => ?_⟩, _, (h2.set _ a).set _ b, by simpa using h3, fun j hj1 hj2 => ?_⟩
  · rw [Below.heap_setCell _ _ _ _ hne, Below.heap_setCell _ _ _ _ hne]
    exact h1.block j hj hne
  · rw [Array.getElem?_setIfInBounds_ne (fun e => hj2 e.symm), Array.getElem?_setIfInBounds_ne (fun e => hj1 e.symm)]
    exact h4 j hj1 hj2
theorem ren_cell {W2 : World} {G k i n : Nat} {cs : Array Value} (hcs : cs.size = n) (hi : i < n) : ∃ vf : World → Value, ∀ wx, RenS W2 G k cs wx → wx.cell? ⟨G, i, none⟩ = some (vf wx) := by
  refine ⟨fun wx => (wx.cell? ⟨G, i, none⟩).getD undef, fun wx h => ?_⟩
  obtain ⟨_, cs', h2, h3, _⟩ := h
  have e : wx.cell? ⟨G, i, none⟩ = some (cs'[i]'(by omega)) := by rw [h2.cell i, Array.getElem?_eq_getElem (by omega)]
  show wx.cell? ⟨G, i, none⟩ = some ((wx.cell? ⟨G, i, none⟩).getD undef)
  rw [e]
  rfl
theorem BAt.but {w w' : World} {a : Option Addr} {xs : Bs} {G : Nat} (h : BAt w a xs) (hne : ∀ B O, a = some ⟨B, O, none⟩ → B ≠ G) (hb : ButM G w w') : BAt w' a xs := by
  rcases h.els with h0 | ⟨B, O, ha, he⟩
  · exact ⟨Or.inl h0⟩
  · exact ⟨Or.inr ⟨B, O, ha, fun k hk => hb.cell (hne B O ha) (he k hk)⟩⟩
theorem but_put {w : World} {G i : Nat} {v : Value} : ButM G w (w.setCell ⟨G, i, none⟩ v) := ⟨rfl, rfl, rfl, by simp, fun j _ hne => Below.heap_setCell _ _ _ _ hne⟩
theorem fls_put {cs cs' : Array Value} {ys : List Fl} {k n : Nat} {x : Fl} (hk : k < n) (hcs : cs.size = n * 2) (hs : cs'.size = cs.size) (hj : ∀ j, j ≠ k * 2 → j ≠ k * 2 + 1 → cs'[j]? = cs[j]?) (hyl : ys.length = k) (ht : cs.toList.take (k * 2) = flsV ys) :
    ((cs'.setIfInBounds (k * 2) (.string (ba x.nm))).setIfInBounds (k * 2 + 1) (.slice x.a x.n x.c)).toList.take ((k + 1) * 2) = flsV (ys ++ [x]) := by
  obtain ⟨c2, hc2⟩ : ∃ c2, (cs'.setIfInBounds (k * 2) (.string (ba x.nm))).setIfInBounds (k * 2 + 1) (.slice x.a x.n x.c) = c2 := ⟨_, rfl⟩
  have hsz : c2.size = n * 2 := by rw [← hc2]; simp; omega
  have g : ∀ j, c2[j]? = if j = k * 2 + 1 then some (.slice x.a x.n x.c) else if j = k * 2 then some (.string (ba x.nm)) else cs[j]? := fun j => by
    rw [← hc2]
    by_cases h1 : j = k * 2 + 1
    · subst h1
      rw [if_pos rfl, Array.getElem?_setIfInBounds_self_of_lt (by simp; omega)]
    · rw [if_neg h1, Array.getElem?_setIfInBounds_ne (fun e => h1 e.symm)]
      by_cases h2 : j = k * 2
      · subst h2
        rw [if_pos rfl, Array.getElem?_setIfInBounds_self_of_lt (by omega)]
      · rw [if_neg h2, Array.getElem?_setIfInBounds_ne (fun e => h2 e.symm), hj j h2 h1]
  rw [hc2, flsV_append, ← ht]
  apply List.ext_getElem?
  intro j
  have e1 : c2.toList[j]? = c2[j]? := by simp
  have e2 : cs.toList[j]? = cs[j]? := by simp
  have hl : (cs.toList.take (k * 2)).length = k * 2 := by rw [List.length_take]; simp; omega
  by_cases hj1 : j < (k + 1) * 2
  · rw [List.getElem?_take_of_lt hj1, e1, g]
    by_cases hj2 : j < k * 2
    · rw [List.getElem?_append_left (by omega), List.getElem?_take_of_lt hj2, e2, if_neg (by omega), if_neg (by omega)]
    · rw [List.getElem?_append_right (by omega), hl]
      by_cases h1 : j = k * 2 + 1
      · subst h1
        rw [if_pos rfl, show k * 2 + 1 - k * 2 = 1 by omega]
        rfl
      · have h2 : j = k * 2 := by omega
        subst h2
        rw [if_neg (by omega), if_pos rfl, Nat.sub_self]
        rfl
  · rw [List.getElem?_eq_none (by rw [List.length_take]; omega), List.getElem?_eq_none (by rw [List.length_append, hl]; simp [flsV]; omega)]
theorem ren_low {W2 wx wy : World} {S G k : Nat} {cs : Array Value} {a b : Value} (h : (wx.cell? ⟨S, 0, none⟩ = some a ∧ wx.cell? ⟨S, 1, none⟩ = some b) ∧ (wx.frozen? ⟨G, k * 2, none⟩ = false ∧ wx.frozen? ⟨G, k * 2 + 1, none⟩ = false) ∧ RenS W2 G k cs wx) (hb : Below wx.heap.size wx wy) : (wy.cell? ⟨S, 0, none⟩ = some a ∧ wy.cell? ⟨S, 1, none⟩ = some b) ∧ (wy.frozen? ⟨G, k * 2, none⟩ = false ∧ wy.frozen? ⟨G, k * 2 + 1, none⟩ = false) ∧ RenS W2 G k cs wy := by
  have h2 := h.2.2.low hb
  obtain ⟨_, cs', h3, _⟩ := id h2
  exact ⟨⟨(hb.cell (lt_of_cell h.1.1)).trans h.1.1, (hb.cell (lt_of_cell h.1.2)).trans h.1.2⟩, ⟨h3.free _, h3.free _⟩, h2⟩
theorem cell_far {w : World} {p q k j : Nat} {v : Value} (hne : p ≠ q) : (w.setCell ⟨q, j, none⟩ v).cell? ⟨p, k, none⟩ = w.cell? ⟨p, k, none⟩ := by
  unfold World.cell?
  have := Below.heap_setCell w ⟨q, j, none⟩ v p hne
  simp only [this]
theorem ren_put {W2 wx : World} {S G k : Nat} {cs : Array Value} {a b c d : Value} (hne : S ≠ G) (h : (wx.cell? ⟨S, 0, none⟩ = some a ∧ wx.cell? ⟨S, 1, none⟩ = some b) ∧ (wx.frozen? ⟨G, k * 2, none⟩ = false ∧ wx.frozen? ⟨G, k * 2 + 1, none⟩ = false) ∧ RenS W2 G k cs wx) : (((wx.setCell ⟨G, k * 2, none⟩ c).setCell ⟨G, k * 2 + 1, none⟩ d).cell? ⟨S, 0, none⟩ = some a ∧ ((wx.setCell ⟨G, k * 2, none⟩ c).setCell ⟨G, k * 2 + 1, none⟩ d).cell? ⟨S, 1, none⟩ = some b) ∧ (((wx.setCell ⟨G, k * 2, none⟩ c).setCell ⟨G, k * 2 + 1, none⟩ d).frozen? ⟨G, k * 2, none⟩ = false ∧ ((wx.setCell ⟨G, k * 2, none⟩ c).setCell ⟨G, k * 2 + 1, none⟩ d).frozen? ⟨G, k * 2 + 1, none⟩ = false) ∧ RenS W2 G k cs ((wx.setCell ⟨G, k * 2, none⟩ c).setCell ⟨G, k * 2 + 1, none⟩ d) := by
  have h2 := h.2.2.put (a := c) (b := d)
  obtain ⟨_, cs', h3, _⟩ := id h2
  exact ⟨⟨by rw [cell_far hne, cell_far hne]; exact h.1.1, by rw [cell_far hne, cell_far hne]; exact h.1.2⟩, ⟨h3.free _, h3.free _⟩, h2⟩
set_option maxRecDepth 100000 in
set_option maxHeartbeats 8000000 in
theorem renamed97 {w : World} {a : Option Addr} {n c pb : Nat} {xs : List Fl} {ds : List Bs} {R : Bs → Bs} (hx : xs.length = n) (hn : n ≤ 1000) (h : FAt w a xs) (hd : DAt w xs ds) (hf : ∀ x ∈ xs, (x.a = none ∨ (∃ B O, x.a = some ⟨B, O, none⟩) ∨ ∃ y, x.a = some y ∧ x.n = 0 ∧ x.c = 0) ∧ x.n ≤ 1073741824)
    (hR : ∀ W, Below w.heap.size w W → ∀ x ∈ xs, Calls Tryz.prog 97 #[.string (ba x.nm), .pointer (some ⟨pb, 0, none⟩)] W fun e w' => e = .returned (.string (ba (R x.nm))) ∧ w' = W) :
    Calls Tryz.prog 76 #[.slice a n c, .func (.func 97) #[] #[.pointer (some ⟨pb, 0, none⟩)]] w fun e w' => ∃ A ys, e = .returned (.slice (some ⟨A, 0, none⟩) n n) ∧ ys.map Fl.nm = (xs.map Fl.nm).map R ∧ FAt w' (some ⟨A, 0, none⟩) ys ∧ DAt w' ys ds ∧ (∀ y ∈ ys, y.a = none ∨ ∃ B O, y.a = some ⟨B, O, none⟩) ∧ Below w.heap.size w w' := by
  obtain ⟨G, hG⟩ : ∃ G, w.heap.size = G := ⟨_, rfl⟩
  obtain ⟨i0, hi0, hz0, hz1, hz2⟩ := info56p
  have hmk := run_make (P := Tryz.prog) w 22 56 i0 _ Tryz.underlying22 hi0 hz0 .i64 .i64 (n : Int) (n : Int) (by omega) (Int.le_refl _) (by rw [hz2]; omega) (by omega)
  simp only [Int.toNat_natCast] at hmk
  obtain ⟨cs0, hcs0⟩ : ∃ cs, madeCells (Value.agg #[.string ⟨#[]⟩, .slice none 0 0]).cells (n * i0.size) = cs := ⟨_, rfl⟩
  have hcz : cs0.size = n * 2 := by rw [← hcs0, size_madeCells, hz1]
  rw [hcs0] at hmk
  obtain ⟨W1, hW1⟩ : ∃ W1, w.alloc (.cells cs0 56) = W1 := ⟨_, rfl⟩
  rw [hW1, hG] at hmk
  have b1 : Below w.heap.size w W1 := by rw [← hW1]; exact lowAA (Below.refl _ _) _
  have q1 : Blk W1 G cs0 56 := by rw [← hW1, ← hG]; exact Blk.new _ _ _
  have HX := hide hx
  have HA := hide h
  have HD := hide hd
  have HFo := hide hf
  have HR := hide hR
  have HB1 := hide b1
  have HQ1 := hide q1
  have HG := hide hG
  have HCZ := hide hcz
  clear hx h hd hf hR hi0 hz0 hz1 hz2 hcs0 hcz hW1 b1 q1 hG
  go_enter Tryz.func76, Tryz.ntmps76
  go_wp2
  go_loopw [6, 7, 13] (fun _ _ v13 wr => ∃ (k : Nat) (cs : Array Value) (ys : List Fl), k ≤ n ∧ v13 = .int .i64 (k : Int) ∧ Blk wr G cs 56 ∧ cs.size = n * 2 ∧ ys.length = k ∧ Hid (cs.toList.take (k * 2) = flsV ys) ∧ Hid (ys.map Fl.nm = ((xs.take k).map Fl.nm).map R) ∧ Hid (DAt wr ys (ds.take k)) ∧ Hid ((∀ y ∈ ys, ∀ B O, y.a = some ⟨B, O, none⟩ → B ≠ G) ∧ ∀ y ∈ ys, y.a = none ∨ ∃ B O, y.a = some ⟨B, O, none⟩) ∧ Below w.heap.size w wr) (fun _ _ v13 _ => n - (intOf v13).toNat)
  case atStart => exact ⟨0, cs0, [], Nat.zero_le _, rfl, unhide HQ1, unhide HCZ, rfl, hide (by simp [flsV]), hide (by simp), hide ⟨by simp, fun k h => by simp at h⟩, hide ⟨by simp, by simp⟩, unhide HB1⟩
  case round =>
    rename World => wr
    obtain ⟨k, cs, ys, hk, rfl, hq, hcs, hyl, htake, hnm, hda, hne, hbw⟩ := hrel
    by_cases hlt : k < n
    · have hkx : k < xs.length := by rw [unhide HX]; exact hlt
      have hkd : k < ds.length := by rw [(unhide HD).len]; exact hkx
      have hlt' : (k : Int) < (n : Int) := by omega
      obtain ⟨B, O, rfl, g0, g1⟩ := ((unhide HA).low hbw).get hkx
      obtain ⟨l1, t0⟩ := (unhide HD).one k hkx hkd
      have hff := unhide HFo _ (List.getElem_mem hkx)
      have hmem : xs[k] ∈ xs := List.getElem_mem hkx
      have htk := take_sn hkx
      have htd := take_sn hkd
      obtain ⟨x, hxx⟩ : ∃ x, xs[k] = x := ⟨_, rfl⟩
      obtain ⟨d, hdd⟩ : ∃ d, ds[k] = d := ⟨_, rfl⟩
      rw [hxx] at g0 g1 l1 t0 hff hmem htk
      rw [hdd] at l1 t0 htd
      obtain ⟨nm, xa, xn, xc⟩ := x
      simp only at g0 g1 l1 t0 hff
      obtain ⟨y, hy⟩ : ∃ y, R nm = y := ⟨_, rfl⟩
      obtain ⟨S, hS0⟩ : ∃ S, wr.heap.size = S := ⟨_, rfl⟩
      obtain ⟨W2, hW2⟩ : ∃ W2, wr.alloc (.cells #[.string (ba nm), .slice xa xn xc] 56) = W2 := ⟨_, rfl⟩
      have b2 : Below wr.heap.size wr W2 := by rw [← hW2]; exact lowAA (Below.refl _ _) _
      have q2 : Blk W2 S #[.string (ba nm), .slice xa xn xc] 56 := by rw [← hW2, ← hS0]; exact Blk.new _ _ _
      have q3 := hq.low b2
      have HBW := hide hbw
      have HB2 := hide (low_trans hbw b2)
      have hSG : S ≠ G := by have := hq.lt; omega
      have H1 : Hid (∀ wx, ((wx.cell? ⟨S, 0, none⟩ = some (.string (ba nm)) ∧ wx.cell? ⟨S, 1, none⟩ = some (.slice xa xn xc)) ∧ (wx.frozen? ⟨G, k * 2, none⟩ = false ∧ wx.frozen? ⟨G, k * 2 + 1, none⟩ = false) ∧ RenS W2 G k cs wx) → Calls Tryz.prog 97 #[.string (ba nm), .pointer (some ⟨pb, 0, none⟩)] wx fun e w' => e = .returned (.string (ba y)) ∧ ((w'.cell? ⟨S, 0, none⟩ = some (.string (ba nm)) ∧ w'.cell? ⟨S, 1, none⟩ = some (.slice xa xn xc)) ∧ (w'.frozen? ⟨G, k * 2, none⟩ = false ∧ w'.frozen? ⟨G, k * 2 + 1, none⟩ = false) ∧ RenS W2 G k cs w')) := hide (fun wx hw => by
        have kk := unhide HR wx (hw.2.2.1.low (unhide HB2) (unhide HB2).size (by rw [unhide HG]; exact Nat.le_refl _)) _ hmem
        simp only at kk
        rw [hy] at kk
        refine kk.mono ?_
        rintro e w' ⟨rfl, rfl⟩
        exact ⟨rfl, hw⟩)
      have H2 : Hid (∀ wx, ((wx.cell? ⟨S, 0, none⟩ = some (.string (ba nm)) ∧ wx.cell? ⟨S, 1, none⟩ = some (.slice xa xn xc)) ∧ (wx.frozen? ⟨G, k * 2, none⟩ = false ∧ wx.frozen? ⟨G, k * 2 + 1, none⟩ = false) ∧ RenS W2 G k cs wx) → Calls Tryz.prog 134 #[.slice xa xn xc] wx fun e w' => ∃ a' c', e = .returned (.slice a' xn c') ∧ Hid (BAt w' a' d ∧ (∀ B O, a' = some ⟨B, O, none⟩ → W2.heap.size ≤ B) ∧ (a' = none ∨ ∃ B O, a' = some ⟨B, O, none⟩)) ∧ ((w'.cell? ⟨S, 0, none⟩ = some (.string (ba nm)) ∧ w'.cell? ⟨S, 1, none⟩ = some (.slice xa xn xc)) ∧ (w'.frozen? ⟨G, k * 2, none⟩ = false ∧ w'.frozen? ⟨G, k * 2 + 1, none⟩ = false) ∧ RenS W2 G k cs w')) := hide (fun wx hw => by
        refine (cloneF_any l1 hff.2 hff.1 (t0.low (hw.2.2.1.low (unhide HB2) (unhide HB2).size (by rw [unhide HG]; exact Nat.le_refl _)))).mono ?_
        rintro e w' ⟨a', c', rfl, hat, hge, hfo, b⟩
        exact ⟨a', c', rfl, hide ⟨hat, fun B O e => Nat.le_trans hw.2.2.1.size (hge B O e), hfo⟩, ren_low hw b⟩)
      have hS : ((W2.cell? ⟨S, 0, none⟩ = some (.string (ba nm)) ∧ W2.cell? ⟨S, 1, none⟩ = some (.slice xa xn xc)) ∧ (W2.frozen? ⟨G, k * 2, none⟩ = false ∧ W2.frozen? ⟨G, k * 2 + 1, none⟩ = false) ∧ RenS W2 G k cs W2) := ⟨⟨q2.cell 0, q2.cell 1⟩, ⟨q3.free _, q3.free _⟩, ButM.of (Below.refl _ _), cs, q3, rfl, fun _ _ _ => rfl⟩
      obtain ⟨vf0, hvf0⟩ := ren_cell (W2 := W2) (G := G) (k := k) (i := k * 2) hcs (by omega)
      obtain ⟨vf1, hvf1⟩ := ren_cell (W2 := W2) (G := G) (k := k) (i := k * 2 + 1) hcs (by omega)
      have HQ2 := hide q2
      have HY := hide hy
      have HDD := hide hdd
      have HL1 := hide l1
      have HB2w := hide b2
      have HQ3 := hide q3
      have HW2 := hide hW2
      have HS0 := hide hS0
      clear hq hxx hdd hy hS0 hW2 b2 q2 q3 hbw l1 t0 hff hmem
      go_wp2
      rw [unhide HW2, unhide HS0]
      clear g0 g1
      go_region_held3 (fun wx => ((wx.cell? ⟨S, 0, none⟩ = some (.string (ba nm)) ∧ wx.cell? ⟨S, 1, none⟩ = some (.slice xa xn xc)) ∧ (wx.frozen? ⟨G, k * 2, none⟩ = false ∧ wx.frozen? ⟨G, k * 2 + 1, none⟩ = false) ∧ RenS W2 G k cs wx))
        (first | assumption | exact hS | exact ren_low hS (Below.refl _ _).drew | exact ren_put hSG (by assumption))
        (first
          | (go_at_call 97; revert hv9; intro hv9; refine (unhide H1 _ (by assumption)).mono ?_; rintro e w9 ⟨rfl, hS9⟩)
          | (go_at_call 97; refine (unhide H1 _ (by assumption)).mono ?_; rintro e w9 ⟨rfl, hS9⟩)
          | (go_at_call 134; refine (unhide H2 _ (by assumption)).mono ?_; rintro e w9 ⟨a9, c9, rfl, hv9, hS9⟩))
      all_goals
        obtain ⟨-, -, hR9⟩ := hS9
        obtain ⟨hat9, hge9, hfo9⟩ := unhide hv9
        have hP9 := hR9.put (a := .string (ba y)) (b := .slice a9 xn c9)
        obtain ⟨hbm, cs', hq9, hs9, hj9⟩ := hR9
        have hGW : G < W2.heap.size := (unhide HQ3).lt
        have HQZ := hide ((hq9.set (k * 2) (.string (ba y))).set (k * 2 + 1) (.slice a9 xn c9))
        have HSZ : Hid (((cs'.setIfInBounds (k * 2) (.string (ba y))).setIfInBounds (k * 2 + 1) (.slice a9 xn c9)).size = n * 2) := hide (by simp; omega)
        have HTZ := hide (fls_put (x := ⟨y, a9, xn, c9⟩) hlt hcs hs9 hj9 hyl (unhide htake))
        have HLZ : Hid ((ys ++ [(⟨y, a9, xn, c9⟩ : Fl)]).length = k + 1) := hide (by simp [hyl])
        have HNZ : Hid ((ys ++ [(⟨y, a9, xn, c9⟩ : Fl)]).map Fl.nm = ((xs.take (k + 1)).map Fl.nm).map R) := hide (by
          rw [htk, List.map_append, List.map_append, List.map_append, unhide hnm]
          simp [unhide HY])
        have HEZ : Hid ((∀ z ∈ ys ++ [(⟨y, a9, xn, c9⟩ : Fl)], ∀ B O, z.a = some ⟨B, O, none⟩ → B ≠ G) ∧ ∀ z ∈ ys ++ [(⟨y, a9, xn, c9⟩ : Fl)], z.a = none ∨ ∃ B O, z.a = some ⟨B, O, none⟩) := hide ⟨fun z hz B O e => by
          rcases List.mem_append.1 hz with h | h
          · exact (unhide hne).1 z h B O e
          · simp at h
            subst h
            have := hge9 B O e
            omega, fun z hz => by
          rcases List.mem_append.1 hz with h | h
          · exact (unhide hne).2 z h
          · simp at h
            subst h
            exact hfo9⟩
        have HDZ : Hid (DAt ((w9.setCell ⟨G, k * 2, none⟩ (.string (ba y))).setCell ⟨G, k * 2 + 1, none⟩ (.slice a9 xn c9)) (ys ++ [⟨y, a9, xn, c9⟩]) (ds.take (k + 1))) := hide (by
          have hd0 := unhide hda
          have hlt2 : (ds.take k).length = k := by rw [List.length_take]; omega
          refine ⟨by rw [htd, List.length_append, List.length_append, hlt2, hyl]; rfl, fun j h1 h2 => ?_⟩
          have hbb : ButM G w9 ((w9.setCell ⟨G, k * 2, none⟩ (.string (ba y))).setCell ⟨G, k * 2 + 1, none⟩ (.slice a9 xn c9)) := ButM.trans but_put but_put
          by_cases hjk : j < k
          · have e1 : (ys ++ [(⟨y, a9, xn, c9⟩ : Fl)])[j] = ys[j]'(by omega) := List.getElem_append_left (by omega)
            have e2 : (ds.take (k + 1))[j] = (ds.take k)[j]'(by omega) := by rw [List.getElem_take, List.getElem_take]
            obtain ⟨l9, t9⟩ := hd0.one j (by omega) (by omega)
            rw [e1, e2]
            have hn9 := (unhide hne).1 _ (List.getElem_mem (show j < ys.length by omega))
            exact ⟨l9, ((t9.low (unhide HB2w)).but hn9 hbm).but hn9 hbb⟩
          · have hje : j = k := by rw [List.length_append] at h1; simp at h1; omega
            subst hje
            have e1 : (ys ++ [(⟨y, a9, xn, c9⟩ : Fl)])[j] = ⟨y, a9, xn, c9⟩ := by rw [List.getElem_append_right (by omega)]; simp
            have e2 : (ds.take (j + 1))[j] = d := by rw [List.getElem_take]; exact unhide HDD
            rw [e1, e2]
            exact ⟨unhide HL1, hat9.but (fun B O e => by have := hge9 B O e; omega) hbb⟩)
        have HBZ := hide (hP9.1.low (unhide HB2) (unhide HB2).size (by rw [unhide HG]; exact Nat.le_refl _))
        clear hv9 hat9 hge9 hfo9 hP9 hbm hq9 hs9 hj9 hvf0 hvf1 hS
        go_wp2
        go_roundw
        case rel => exact ⟨k + 1, _, ys ++ [⟨y, a9, xn, c9⟩], hlt, by push_cast; rfl, unhide HQZ, unhide HSZ, unhide HLZ, HTZ, HNZ, HDZ, HEZ, unhide HBZ⟩
        case measure => simp [intOf]; omega
    · have hke : k = n := by omega
      subst hke
      have HZ := hide (And.intro hq hbw)
      have hyl2 := hyl
      have HN : Hid (ys.map Fl.nm = (xs.map Fl.nm).map R) := hide (by
        have h1 := unhide hnm
        rw [List.take_of_length_le (by rw [unhide HX]; exact Nat.le_refl _)] at h1
        exact h1)
      have HDD : Hid (DAt wr ys ds) := hide (by
        have h1 := unhide hda
        rw [List.take_of_length_le (by rw [(unhide HD).len, unhide HX]; exact Nat.le_refl _)] at h1
        exact h1)
      have HT := hide (unhide htake)
      have HC := hide hcs
      have HY := hide hyl
      have HFF := hide (unhide hne).2
      clear hq hbw hnm hda htake hne hcs hyl hyl2
      go_wp2
      go_ret
      refine ⟨G, ys, rfl, unhide HN, ⟨Or.inr ⟨G, 0, rfl, fun j u hu => ?_⟩⟩, unhide HDD, unhide HFF, (unhide HZ).2⟩
      have hj : j < ys.length * 2 := by
        have := (List.getElem?_eq_some_iff.1 hu).1
        rwa [flsV_length] at this
      have h1 := unhide HT
      have h2 : cs.toList[j]? = (flsV ys)[j]? := by rw [← h1, List.getElem?_take_of_lt (by rw [unhide HY] at hj; exact hj)]
      rw [Nat.zero_add, (unhide HZ).1.cell j, ← hu, ← h2]
      simp
end Go.Proofs.YtkablmjkffdloaaGreatDoor
