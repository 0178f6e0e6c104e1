/-
  A module's prefix laid ahead of files' names, and taken off; the program's.
-/
import Derived.Test.YtkablmjkffdloaaGreatDoorFlsB
namespace Go.Proofs.YtkablmjkffdloaaGreatDoor
open Go.RowKit

theorem addName_any {w : World} {pb : Nat} {P x : Bs} (hP : P.length ≤ 4000000) (hx : x.length ≤ 4000000) (h : w.cell? ⟨pb, 0, none⟩ = some (.string (ba P))) : Calls Tryz.prog 97 #[.string (ba x), .pointer (some ⟨pb, 0, none⟩)] w fun e w' => e = .returned (.string (ba (P ++ x))) ∧ w' = w := by
  have e1 := cat P x
  obtain ⟨z, hz⟩ : ∃ z, P ++ x = z := ⟨_, rfl⟩
  rw [hz] at e1 ⊢
  obtain ⟨z0, hz0⟩ : ∃ z, (ba P).size = z := ⟨_, rfl⟩
  obtain ⟨z1, hz1⟩ : ∃ z, (ba x).size = z := ⟨_, rfl⟩
  have n0 : ¬ 9223372036854775807 < z0 + z1 := by rw [← hz0, ← hz1, ba_size, ba_size]; omega
  clear hz hP hx
  go_enter Tryz.func97, Tryz.ntmps97
  go_wp2
  go_ret
  exact ⟨rfl, rfl⟩
theorem stripName_any {w : World} {pb : Nat} {P x : Bs} (hx : x.length ≤ 4000000) (h : w.cell? ⟨pb, 0, none⟩ = some (.string (ba P))) : Calls Tryz.prog 96 #[.string (ba (P ++ x)), .pointer (some ⟨pb, 0, none⟩)] w fun e w' => e = .returned (.string (ba x)) ∧ w' = w := by
  obtain ⟨z, hz⟩ : ∃ z, P ++ x = z := ⟨_, rfl⟩
  rw [hz]
  obtain ⟨m, hm⟩ : ∃ m, P.length = m := ⟨_, rfl⟩
  obtain ⟨n, hn⟩ : ∃ n, z.length = n := ⟨_, rfl⟩
  have z0 : (ba P).size = m := by rw [ba_size]; exact hm
  have z1 : (ba z).size = n := by rw [ba_size]; exact hn
  have hmn : m ≤ n := by rw [← hm, ← hn, ← hz, List.length_append]; omega
  have hmn' : (m : Int) ≤ (n : Int) := by omega
  have x1 : (ba z).extract m n = ba x := by
    rw [sub_of, ← hm, ← hz, List.drop_left, List.take_of_length_le]
    rw [← hn, ← hz, List.length_append]
    omega
  clear hz hm hn hx
  go_enter Tryz.func96, Tryz.ntmps96
  go_wp2
  go_ret
  exact ⟨rfl, rfl⟩

set_option maxRecDepth 100000 in
set_option maxHeartbeats 8000000 in
theorem renamed96 {w : World} {a : Option Addr} {n c pb : Nat} {xs : List Fl} {ds : List Bs} {R : Bs → Bs} (hx : xs.length = n) (hn : n ≤ 1000) (h : FAt w a xs) (hd : DAt w xs ds) (hf : ∀ x ∈ xs, (x.a = none ∨ (∃ B O, x.a = some ⟨B, O, none⟩) ∨ ∃ y, x.a = some y ∧ x.n = 0 ∧ x.c = 0) ∧ x.n ≤ 1073741824)
    (hR : ∀ W, Below w.heap.size w W → ∀ x ∈ xs, Calls Tryz.prog 96 #[.string (ba x.nm), .pointer (some ⟨pb, 0, none⟩)] W fun e w' => e = .returned (.string (ba (R x.nm))) ∧ w' = W) :
    Calls Tryz.prog 76 #[.slice a n c, .func (.func 96) #[] #[.pointer (some ⟨pb, 0, none⟩)]] w fun e w' => ∃ A ys, e = .returned (.slice (some ⟨A, 0, none⟩) n n) ∧ ys.map Fl.nm = (xs.map Fl.nm).map R ∧ FAt w' (some ⟨A, 0, none⟩) ys ∧ DAt w' ys ds ∧ (∀ y ∈ ys, y.a = none ∨ ∃ B O, y.a = some ⟨B, O, none⟩) ∧ Below w.heap.size w w' := by
  obtain ⟨G, hG⟩ : ∃ G, w.heap.size = G := ⟨_, rfl⟩
  obtain ⟨i0, hi0, hz0, hz1, hz2⟩ := info56p
  have hmk := run_make (P := Tryz.prog) w 22 56 i0 _ Tryz.underlying22 hi0 hz0 .i64 .i64 (n : Int) (n : Int) (by omega) (Int.le_refl _) (by rw [hz2]; omega) (by omega)
  simp only [Int.toNat_natCast] at hmk
  obtain ⟨cs0, hcs0⟩ : ∃ cs, madeCells (Value.agg #[.string ⟨#[]⟩, .slice none 0 0]).cells (n * i0.size) = cs := ⟨_, rfl⟩
  have hcz : cs0.size = n * 2 := by rw [← hcs0, size_madeCells, hz1]
  rw [hcs0] at hmk
  obtain ⟨W1, hW1⟩ : ∃ W1, w.alloc (.cells cs0 56) = W1 := ⟨_, rfl⟩
  rw [hW1, hG] at hmk
  have b1 : Below w.heap.size w W1 := by rw [← hW1]; exact lowAA (Below.refl _ _) _
  have q1 : Blk W1 G cs0 56 := by rw [← hW1, ← hG]; exact Blk.new _ _ _
  have HX := hide hx
  have HA := hide h
  have HD := hide hd
  have HFo := hide hf
  have HR := hide hR
  have HB1 := hide b1
  have HQ1 := hide q1
  have HG := hide hG
  have HCZ := hide hcz
  clear hx h hd hf hR hi0 hz0 hz1 hz2 hcs0 hcz hW1 b1 q1 hG
  go_enter Tryz.func76, Tryz.ntmps76
  go_wp2
  go_loopw [6, 7, 13] (fun _ _ v13 wr => ∃ (k : Nat) (cs : Array Value) (ys : List Fl), k ≤ n ∧ v13 = .int .i64 (k : Int) ∧ Blk wr G cs 56 ∧ cs.size = n * 2 ∧ ys.length = k ∧ Hid (cs.toList.take (k * 2) = flsV ys) ∧ Hid (ys.map Fl.nm = ((xs.take k).map Fl.nm).map R) ∧ Hid (DAt wr ys (ds.take k)) ∧ Hid ((∀ y ∈ ys, ∀ B O, y.a = some ⟨B, O, none⟩ → B ≠ G) ∧ ∀ y ∈ ys, y.a = none ∨ ∃ B O, y.a = some ⟨B, O, none⟩) ∧ Below w.heap.size w wr) (fun _ _ v13 _ => n - (intOf v13).toNat)
  case atStart => exact ⟨0, cs0, [], Nat.zero_le _, rfl, unhide HQ1, unhide HCZ, rfl, hide (by simp [flsV]), hide (by simp), hide ⟨by simp, fun k h => by simp at h⟩, hide ⟨by simp, by simp⟩, unhide HB1⟩
  case round =>
    rename World => wr
    obtain ⟨k, cs, ys, hk, rfl, hq, hcs, hyl, htake, hnm, hda, hne, hbw⟩ := hrel
    by_cases hlt : k < n
    · have hkx : k < xs.length := by rw [unhide HX]; exact hlt
      have hkd : k < ds.length := by rw [(unhide HD).len]; exact hkx
      have hlt' : (k : Int) < (n : Int) := by omega
      obtain ⟨B, O, rfl, g0, g1⟩ := ((unhide HA).low hbw).get hkx
      obtain ⟨l1, t0⟩ := (unhide HD).one k hkx hkd
      have hff := unhide HFo _ (List.getElem_mem hkx)
      have hmem : xs[k] ∈ xs := List.getElem_mem hkx
      have htk := take_sn hkx
      have htd := take_sn hkd
      obtain ⟨x, hxx⟩ : ∃ x, xs[k] = x := ⟨_, rfl⟩
      obtain ⟨d, hdd⟩ : ∃ d, ds[k] = d := ⟨_, rfl⟩
      rw [hxx] at g0 g1 l1 t0 hff hmem htk
      rw [hdd] at l1 t0 htd
      obtain ⟨nm, xa, xn, xc⟩ := x
      simp only at g0 g1 l1 t0 hff
      obtain ⟨y, hy⟩ : ∃ y, R nm = y := ⟨_, rfl⟩
      obtain ⟨S, hS0⟩ : ∃ S, wr.heap.size = S := ⟨_, rfl⟩
      obtain ⟨W2, hW2⟩ : ∃ W2, wr.alloc (.cells #[.string (ba nm), .slice xa xn xc] 56) = W2 := ⟨_, rfl⟩
      have b2 : Below wr.heap.size wr W2 := by rw [← hW2]; exact lowAA (Below.refl _ _) _
      have q2 : Blk W2 S #[.string (ba nm), .slice xa xn xc] 56 := by rw [← hW2, ← hS0]; exact Blk.new _ _ _
      have q3 := hq.low b2
      have HBW := hide hbw
      have HB2 := hide (low_trans hbw b2)
      have hSG : S ≠ G := by have := hq.lt; omega
      have H1 : Hid (∀ wx, ((wx.cell? ⟨S, 0, none⟩ = some (.string (ba nm)) ∧ wx.cell? ⟨S, 1, none⟩ = some (.slice xa xn xc)) ∧ (wx.frozen? ⟨G, k * 2, none⟩ = false ∧ wx.frozen? ⟨G, k * 2 + 1, none⟩ = false) ∧ RenS W2 G k cs wx) → Calls Tryz.prog 96 #[.string (ba nm), .pointer (some ⟨pb, 0, none⟩)] wx fun e w' => e = .returned (.string (ba y)) ∧ ((w'.cell? ⟨S, 0, none⟩ = some (.string (ba nm)) ∧ w'.cell? ⟨S, 1, none⟩ = some (.slice xa xn xc)) ∧ (w'.frozen? ⟨G, k * 2, none⟩ = false ∧ w'.frozen? ⟨G, k * 2 + 1, none⟩ = false) ∧ RenS W2 G k cs w')) := hide (fun wx hw => by
        have kk := unhide HR wx (hw.2.2.1.low (unhide HB2) (unhide HB2).size (by rw [unhide HG]; exact Nat.le_refl _)) _ hmem
        simp only at kk
        rw [hy] at kk
        refine kk.mono ?_
        rintro e w' ⟨rfl, rfl⟩
        exact ⟨rfl, hw⟩)
      have H2 : Hid (∀ wx, ((wx.cell? ⟨S, 0, none⟩ = some (.string (ba nm)) ∧ wx.cell? ⟨S, 1, none⟩ = some (.slice xa xn xc)) ∧ (wx.frozen? ⟨G, k * 2, none⟩ = false ∧ wx.frozen? ⟨G, k * 2 + 1, none⟩ = false) ∧ RenS W2 G k cs wx) → Calls Tryz.prog 134 #[.slice xa xn xc] wx fun e w' => ∃ a' c', e = .returned (.slice a' xn c') ∧ Hid (BAt w' a' d ∧ (∀ B O, a' = some ⟨B, O, none⟩ → W2.heap.size ≤ B) ∧ (a' = none ∨ ∃ B O, a' = some ⟨B, O, none⟩)) ∧ ((w'.cell? ⟨S, 0, none⟩ = some (.string (ba nm)) ∧ w'.cell? ⟨S, 1, none⟩ = some (.slice xa xn xc)) ∧ (w'.frozen? ⟨G, k * 2, none⟩ = false ∧ w'.frozen? ⟨G, k * 2 + 1, none⟩ = false) ∧ RenS W2 G k cs w')) := hide (fun wx hw => by
        refine (cloneF_any l1 hff.2 hff.1 (t0.low (hw.2.2.1.low (unhide HB2) (unhide HB2).size (by rw [unhide HG]; exact Nat.le_refl _)))).mono ?_
        rintro e w' ⟨a', c', rfl, hat, hge, hfo, b⟩
        exact ⟨a', c', rfl, hide ⟨hat, fun B O e => Nat.le_trans hw.2.2.1.size (hge B O e), hfo⟩, ren_low hw b⟩)
      have hS : ((W2.cell? ⟨S, 0, none⟩ = some (.string (ba nm)) ∧ W2.cell? ⟨S, 1, none⟩ = some (.slice xa xn xc)) ∧ (W2.frozen? ⟨G, k * 2, none⟩ = false ∧ W2.frozen? ⟨G, k * 2 + 1, none⟩ = false) ∧ RenS W2 G k cs W2) := ⟨⟨q2.cell 0, q2.cell 1⟩, ⟨q3.free _, q3.free _⟩, ButM.of (Below.refl _ _), cs, q3, rfl, fun _ _ _ => rfl⟩
      obtain ⟨vf0, hvf0⟩ := ren_cell (W2 := W2) (G := G) (k := k) (i := k * 2) hcs (by omega)
      obtain ⟨vf1, hvf1⟩ := ren_cell (W2 := W2) (G := G) (k := k) (i := k * 2 + 1) hcs (by omega)
      have HQ2 := hide q2
      have HY := hide hy
      have HDD := hide hdd
      have HL1 := hide l1
      have HB2w := hide b2
      have HQ3 := hide q3
      have HW2 := hide hW2
      have HS0 := hide hS0
      clear hq hxx hdd hy hS0 hW2 b2 q2 q3 hbw l1 t0 hff hmem
      go_wp2
      rw [unhide HW2, unhide HS0]
      clear g0 g1
      go_region_held3 (fun wx => ((wx.cell? ⟨S, 0, none⟩ = some (.string (ba nm)) ∧ wx.cell? ⟨S, 1, none⟩ = some (.slice xa xn xc)) ∧ (wx.frozen? ⟨G, k * 2, none⟩ = false ∧ wx.frozen? ⟨G, k * 2 + 1, none⟩ = false) ∧ RenS W2 G k cs wx))
        (first | assumption | exact hS | exact ren_low hS (Below.refl _ _).drew | exact ren_put hSG (by assumption))
        (first
          | (go_at_call 96; revert hv9; intro hv9; refine (unhide H1 _ (by assumption)).mono ?_; rintro e w9 ⟨rfl, hS9⟩)
          | (go_at_call 96; refine (unhide H1 _ (by assumption)).mono ?_; rintro e w9 ⟨rfl, hS9⟩)
          | (go_at_call 134; refine (unhide H2 _ (by assumption)).mono ?_; rintro e w9 ⟨a9, c9, rfl, hv9, hS9⟩))
      all_goals
        obtain ⟨-, -, hR9⟩ := hS9
        obtain ⟨hat9, hge9, hfo9⟩ := unhide hv9
        have hP9 := hR9.put (a := .string (ba y)) (b := .slice a9 xn c9)
        obtain ⟨hbm, cs', hq9, hs9, hj9⟩ := hR9
        have hGW : G < W2.heap.size := (unhide HQ3).lt
        have HQZ := hide ((hq9.set (k * 2) (.string (ba y))).set (k * 2 + 1) (.slice a9 xn c9))
        have HSZ : Hid (((cs'.setIfInBounds (k * 2) (.string (ba y))).setIfInBounds (k * 2 + 1) (.slice a9 xn c9)).size = n * 2) := hide (by simp; omega)
        have HTZ := hide (fls_put (x := ⟨y, a9, xn, c9⟩) hlt hcs hs9 hj9 hyl (unhide htake))
        have HLZ : Hid ((ys ++ [(⟨y, a9, xn, c9⟩ : Fl)]).length = k + 1) := hide (by simp [hyl])
        have HNZ : Hid ((ys ++ [(⟨y, a9, xn, c9⟩ : Fl)]).map Fl.nm = ((xs.take (k + 1)).map Fl.nm).map R) := hide (by
          rw [htk, List.map_append, List.map_append, List.map_append, unhide hnm]
          simp [unhide HY])
        have HEZ : Hid ((∀ z ∈ ys ++ [(⟨y, a9, xn, c9⟩ : Fl)], ∀ B O, z.a = some ⟨B, O, none⟩ → B ≠ G) ∧ ∀ z ∈ ys ++ [(⟨y, a9, xn, c9⟩ : Fl)], z.a = none ∨ ∃ B O, z.a = some ⟨B, O, none⟩) := hide ⟨fun z hz B O e => by
          rcases List.mem_append.1 hz with h | h
          · exact (unhide hne).1 z h B O e
          · simp at h
            subst h
            have := hge9 B O e
            omega, fun z hz => by
          rcases List.mem_append.1 hz with h | h
          · exact (unhide hne).2 z h
          · simp at h
            subst h
            exact hfo9⟩
        have HDZ : Hid (DAt ((w9.setCell ⟨G, k * 2, none⟩ (.string (ba y))).setCell ⟨G, k * 2 + 1, none⟩ (.slice a9 xn c9)) (ys ++ [⟨y, a9, xn, c9⟩]) (ds.take (k + 1))) := hide (by
          have hd0 := unhide hda
          have hlt2 : (ds.take k).length = k := by rw [List.length_take]; omega
          refine ⟨by rw [htd, List.length_append, List.length_append, hlt2, hyl]; rfl, fun j h1 h2 => ?_⟩
          have hbb : ButM G w9 ((w9.setCell ⟨G, k * 2, none⟩ (.string (ba y))).setCell ⟨G, k * 2 + 1, none⟩ (.slice a9 xn c9)) := ButM.trans but_put but_put
          by_cases hjk : j < k
          · have e1 : (ys ++ [(⟨y, a9, xn, c9⟩ : Fl)])[j] = ys[j]'(by omega) := List.getElem_append_left (by omega)
            have e2 : (ds.take (k + 1))[j] = (ds.take k)[j]'(by omega) := by rw [List.getElem_take, List.getElem_take]
            obtain ⟨l9, t9⟩ := hd0.one j (by omega) (by omega)
            rw [e1, e2]
            have hn9 := (unhide hne).1 _ (List.getElem_mem (show j < ys.length by omega))
            exact ⟨l9, ((t9.low (unhide HB2w)).but hn9 hbm).but hn9 hbb⟩
          · have hje : j = k := by rw [List.length_append] at h1; simp at h1; omega
            subst hje
            have e1 : (ys ++ [(⟨y, a9, xn, c9⟩ : Fl)])[j] = ⟨y, a9, xn, c9⟩ := by rw [List.getElem_append_right (by omega)]; simp
            have e2 : (ds.take (j + 1))[j] = d := by rw [List.getElem_take]; exact unhide HDD
            rw [e1, e2]
            exact ⟨unhide HL1, hat9.but (fun B O e => by have := hge9 B O e; omega) hbb⟩)
        have HBZ := hide (hP9.1.low (unhide HB2) (unhide HB2).size (by rw [unhide HG]; exact Nat.le_refl _))
        clear hv9 hat9 hge9 hfo9 hP9 hbm hq9 hs9 hj9 hvf0 hvf1 hS
        go_wp2
        go_roundw
        case rel => exact ⟨k + 1, _, ys ++ [⟨y, a9, xn, c9⟩], hlt, by push_cast; rfl, unhide HQZ, unhide HSZ, unhide HLZ, HTZ, HNZ, HDZ, HEZ, unhide HBZ⟩
        case measure => simp [intOf]; omega
    · have hke : k = n := by omega
      subst hke
      have HZ := hide (And.intro hq hbw)
      have hyl2 := hyl
      have HN : Hid (ys.map Fl.nm = (xs.map Fl.nm).map R) := hide (by
        have h1 := unhide hnm
        rw [List.take_of_length_le (by rw [unhide HX]; exact Nat.le_refl _)] at h1
        exact h1)
      have HDD : Hid (DAt wr ys ds) := hide (by
        have h1 := unhide hda
        rw [List.take_of_length_le (by rw [(unhide HD).len, unhide HX]; exact Nat.le_refl _)] at h1
        exact h1)
      have HT := hide (unhide htake)
      have HC := hide hcs
      have HY := hide hyl
      have HFF := hide (unhide hne).2
      clear hq hbw hnm hda htake hne hcs hyl hyl2
      go_wp2
      go_ret
      refine ⟨G, ys, rfl, unhide HN, ⟨Or.inr ⟨G, 0, rfl, fun j u hu => ?_⟩⟩, unhide HDD, unhide HFF, (unhide HZ).2⟩
      have hj : j < ys.length * 2 := by
        have := (List.getElem?_eq_some_iff.1 hu).1
        rwa [flsV_length] at this
      have h1 := unhide HT
      have h2 : cs.toList[j]? = (flsV ys)[j]? := by rw [← h1, List.getElem?_take_of_lt (by rw [unhide HY] at hj; exact hj)]
      rw [Nat.zero_add, (unhide HZ).1.cell j, ← hu, ← h2]
      simp

theorem two_nm {xs ys : List Fl} {f : Bs → Bs} (h : ys.map Fl.nm = (xs.map Fl.nm).map f) : ys.length = xs.length := by
  have := congrArg List.length h
  simpa using this

set_option maxRecDepth 100000 in
set_option maxHeartbeats 4000000 in
theorem add_any {w : World} {a : Option Addr} {n c : Nat} {xs : List Fl} {ds : List Bs} {p v : Bs} (hp : p.length ≤ 1000000) (hv : v.length ≤ 1000000) (hx : xs.length = n) (hn : n ≤ 1000) (h : FAt w a xs) (hd : DAt w xs ds) (hf : ∀ x ∈ xs, (x.a = none ∨ (∃ B O, x.a = some ⟨B, O, none⟩) ∨ ∃ y, x.a = some y ∧ x.n = 0 ∧ x.c = 0) ∧ x.n ≤ 1073741824) (hnm : ∀ x ∈ xs, x.nm.length ≤ 4000000) :
    Calls Tryz.prog 44 #[.slice a n c, .agg #[.string (ba p), .string (ba v)]] w fun e w' => ∃ A ys, e = .returned (.slice (some ⟨A, 0, none⟩) n n) ∧ ys.map Fl.nm = (xs.map Fl.nm).map (fun x => preL p v ++ x) ∧ FAt w' (some ⟨A, 0, none⟩) ys ∧ DAt w' ys ds ∧ (∀ y ∈ ys, y.a = none ∨ ∃ B O, y.a = some ⟨B, O, none⟩) ∧ Below w.heap.size w w' := by
  obtain ⟨P, hP⟩ : ∃ P, preL p v = P := ⟨_, rfl⟩
  have hPl : P.length ≤ 4000000 := by rw [← hP, preL_len]; omega
  have KP := hide (fun W => prefix_any hp hv W)
  rw [hP] at KP ⊢
  obtain ⟨S, hS⟩ : ∃ S, w.heap.size = S := ⟨_, rfl⟩
  obtain ⟨W1, hW1⟩ : ∃ W1, w.alloc (.cells #[.string (ba p), .string (ba v)] 45) = W1 := ⟨_, rfl⟩
  have b1 : Below w.heap.size w W1 := by rw [← hW1]; exact lowAA (Below.refl _ _) _
  have q1 : Blk W1 S #[.string (ba p), .string (ba v)] 45 := by rw [← hW1, ← hS]; exact Blk.new _ _ _
  have x0 := q1.cell 0
  have x1 := q1.cell 1
  rw [← hW1, ← hS] at x0 x1
  have HB1 := hide b1
  have HW1 := hide hW1
  have HX := hide hx
  have HA := hide h
  have HD := hide hd
  have HF := hide hf
  have HNM := hide hnm
  have HPL := hide hPl
  clear hP hPl hS hW1 b1 q1 hx h hd hf hnm hp hv
  go_enter Tryz.func44, Tryz.ntmps44
  go_wp2_with (go_at_call 46; fail)
  rw [unhide HW1]
  refine (unhide KP _).mono ?_
  rintro e w2 ⟨rfl, b2⟩
  clear x0 x1
  obtain ⟨K, hK⟩ : ∃ K, w2.heap.size = K := ⟨_, rfl⟩
  obtain ⟨W3, hW3⟩ : ∃ W3, w2.alloc (.cells #[.string (ba P)] 9) = W3 := ⟨_, rfl⟩
  have b3 : Below w2.heap.size w2 W3 := by rw [← hW3]; exact lowAA (Below.refl _ _) _
  have q3 : Blk W3 K #[.string (ba P)] 9 := by rw [← hW3, ← hK]; exact Blk.new _ _ _
  have hb := low_trans (unhide HB1) (low_trans b2 b3)
  have KR := hide (renamed97 (w := W3) (c := c) (pb := K) (R := fun x => P ++ x) (unhide HX) hn ((unhide HA).low hb) ((unhide HD).low hb) (unhide HF) (fun W hW x hx => addName_any (unhide HPL) (unhide HNM x hx) ((q3.low hW).cell 0)))
  have HB := hide hb
  have HW3 := hide hW3
  have HK := hide hK
  clear b2 b3 q3 hb hW3 hK
  go_wp2_with (go_at_call 76; fail)
  rw [unhide HW3, unhide HK]
  refine (unhide KR).mono ?_
  rintro e w4 ⟨A, ys, rfl, h1, h2, h3, h4, b4⟩
  have HZ := hide (low_trans (unhide HB) b4)
  have H1 := hide h1
  have H2 := hide h2
  have H3 := hide h3
  have H4 := hide h4
  clear h1 h2 h3 h4 b4
  go_wp2
  go_ret
  exact ⟨A, ys, rfl, unhide H1, unhide H2, unhide H3, unhide H4, unhide HZ⟩

set_option maxRecDepth 100000 in
set_option maxHeartbeats 4000000 in
theorem strip_any {w : World} {a : Option Addr} {n c : Nat} {xs : List Fl} {rs : List Bs} {ds : List Bs} {p v : Bs} (hp : p.length ≤ 1000000) (hv : v.length ≤ 1000000) (hx : xs.length = n) (hn : n ≤ 1000) (h : FAt w a xs) (hd : DAt w xs ds) (hf : ∀ x ∈ xs, (x.a = none ∨ (∃ B O, x.a = some ⟨B, O, none⟩) ∨ ∃ y, x.a = some y ∧ x.n = 0 ∧ x.c = 0) ∧ x.n ≤ 1073741824) (hnm : xs.map Fl.nm = rs.map (fun x => preL p v ++ x)) (hr : ∀ r ∈ rs, r ≠ [] ∧ r.length ≤ 1000000) :
    Calls Tryz.prog 42 #[.slice a n c, .agg #[.string (ba p), .string (ba v)]] w fun e w' => ∃ A ys, e = .returned (.tuple #[.slice (some ⟨A, 0, none⟩) n n, .int .i64 0]) ∧ ys.map Fl.nm = rs ∧ FAt w' (some ⟨A, 0, none⟩) ys ∧ DAt w' ys ds ∧ Below w.heap.size w w' := by
  obtain ⟨P, hP⟩ : ∃ P, preL p v = P := ⟨_, rfl⟩
  have hPl : P.length ≤ 4000000 := by rw [← hP, preL_len]; omega
  have KP := hide (fun W => prefix_any hp hv W)
  rw [hP] at KP hnm
  obtain ⟨S, hS⟩ : ∃ S, w.heap.size = S := ⟨_, rfl⟩
  obtain ⟨W1, hW1⟩ : ∃ W1, w.alloc (.cells #[.string (ba p), .string (ba v)] 45) = W1 := ⟨_, rfl⟩
  have b1 : Below w.heap.size w W1 := by rw [← hW1]; exact lowAA (Below.refl _ _) _
  have q1 : Blk W1 S #[.string (ba p), .string (ba v)] 45 := by rw [← hW1, ← hS]; exact Blk.new _ _ _
  have x0 := q1.cell 0
  have x1 := q1.cell 1
  rw [← hW1, ← hS] at x0 x1
  have hrl : rs.length = n := by
    have h1 := congrArg List.length hnm
    simp at h1
    omega
  have HB1 := hide b1
  have HW1 := hide hW1
  have HX := hide hx
  have HA := hide h
  have HD := hide hd
  have HF := hide hf
  have HNM := hide hnm
  have HPL := hide hPl
  have HRS := hide hr
  have HRL := hide hrl
  clear hP hPl hS hW1 b1 q1 hx h hd hf hnm hp hv hr hrl
  go_enter Tryz.func42, Tryz.ntmps42
  go_wp2_with (go_at_call 46; fail)
  rw [unhide HW1]
  refine (unhide KP _).mono ?_
  rintro e w2 ⟨rfl, b2⟩
  clear x0 x1
  obtain ⟨K, hK⟩ : ∃ K, w2.heap.size = K := ⟨_, rfl⟩
  obtain ⟨W3, hW3⟩ : ∃ W3, w2.alloc (.cells #[.string (ba P)] 9) = W3 := ⟨_, rfl⟩
  have b3 : Below w2.heap.size w2 W3 := by rw [← hW3]; exact lowAA (Below.refl _ _) _
  have q3 : Blk W3 K #[.string (ba P)] 9 := by rw [← hW3, ← hK]; exact Blk.new _ _ _
  have hb := low_trans (unhide HB1) (low_trans b2 b3)
  have HB := hide hb
  have HW3 := hide hW3
  have HK := hide hK
  have HQ3 := hide q3
  clear b2 b3 q3 hb hW3 hK
  go_wp2
  rw [unhide HW3, unhide HK]
  go_loopw [8, 9, 10, 15] (fun _ _ _ v15 wr => ∃ k : Nat, k ≤ n ∧ v15 = .int .i64 (k : Int) ∧ Below W3.heap.size W3 wr) (fun _ _ _ v15 _ => n - (intOf v15).toNat)
  case atStart => exact ⟨0, Nat.zero_le _, rfl, Below.refl _ _⟩
  case round =>
    rename World => wr
    obtain ⟨k, hk, rfl, hbw⟩ := hrel
    have hbz := low_trans (unhide HB) hbw
    by_cases hlt : k < n
    · have hkx : k < xs.length := by rw [unhide HX]; exact hlt
      have hkr : k < rs.length := by rw [unhide HRL]; exact hlt
      have hlt' : (k : Int) < (n : Int) := by omega
      obtain ⟨B, O, rfl, g0, g1⟩ := ((unhide HA).low hbz).get hkx
      have hne : xs[k].nm = P ++ rs[k] := by
        have h1 : (xs.map Fl.nm)[k]? = (rs.map fun x => P ++ x)[k]? := by rw [unhide HNM]
        simp [hkx, hkr] at h1
        exact h1
      have hrr := unhide HRS _ (List.getElem_mem hkr)
      obtain ⟨x, hxx⟩ : ∃ x, xs[k] = x := ⟨_, rfl⟩
      obtain ⟨r, hr2⟩ : ∃ r, rs[k] = r := ⟨_, rfl⟩
      rw [hr2] at hne hrr
      rw [hxx] at g0 g1 hne
      obtain ⟨nm, xa, xn, xc⟩ := x
      simp only at g0 g1 hne
      subst hne
      have KC : Hid (∀ W : World, Calls Tryz.prog 95 #[.string (ba (P ++ r)), .string (ba P)] W fun e w' => e = .returned (.tuple #[.string (ba r), .bool true]) ∧ w' = W) := hide (fun W => by
        have kk := Tryz.strings_CutPrefix (ba (P ++ r)) (ba P) W
        rw [ba_data, ba_data] at kk
        have e1 : Lib.hasPrefix (P ++ r) P = true := by unfold Lib.hasPrefix; rw [List.isPrefixOf_iff_prefix]; exact ⟨r, rfl⟩
        have e2 : Lib.trimPrefix (P ++ r) P = r := by unfold Lib.trimPrefix; rw [if_pos e1, List.drop_left]
        rw [e1, e2] at kk
        exact kk)
      have hr0 : ((ba r).toList == []) = false := by rw [str_eq]; exact decide_eq_false hrr.1
      obtain ⟨X, hX⟩ : ∃ X, ba (P ++ r) = X := ⟨_, rfl⟩
      rw [hX] at g0 KC
      have hkp : wr.cell? ⟨K, 0, none⟩ = some (.string (ba P)) := ((unhide HQ3).low hbw).cell 0
      obtain ⟨F, hF⟩ : ∃ F, wr.heap.size = F := ⟨_, rfl⟩
      obtain ⟨W4, hW4⟩ : ∃ W4, wr.alloc (.cells #[.string X, .slice xa xn xc] 56) = W4 := ⟨_, rfl⟩
      have b4 : Below wr.heap.size wr W4 := by rw [← hW4]; exact lowAA (Below.refl _ _) _
      have q4 : Blk W4 F #[.string X, .slice xa xn xc] 56 := by rw [← hW4, ← hF]; exact Blk.new _ _ _
      have y0 : W4.cell? ⟨F, 0, none⟩ = some (.string X) := q4.cell 0
      have y1 : W4.cell? ⟨K, 0, none⟩ = some (.string (ba P)) := (b4.cell (lt_of_cell hkp)).trans hkp
      rw [← hW4, ← hF] at y0
      rw [← hW4] at y1
      have HBZ := hide (low_trans hbw b4)
      have HW4 := hide hW4
      clear hxx hr2 hrr hX hF hW4 b4 q4 hbw hbz hkp
      go_wp2_with (go_at_call 95; fail)
      rw [unhide HW4]
      refine (unhide KC _).mono ?_
      rintro e wn ⟨rfl, hwn⟩
      rw [hwn]
      clear hwn wn
      go_wp2
      go_roundw
      case rel => exact ⟨k + 1, hlt, by push_cast; rfl, unhide HBZ⟩
      case measure => simp [intOf]; omega
    · have hke : k = n := by omega
      subst hke
      have KR : Hid (Calls Tryz.prog 76 #[.slice a k c, .func (.func 96) #[] #[.pointer (some ⟨K, 0, none⟩)]] wr fun e w' => ∃ A ys, e = .returned (.slice (some ⟨A, 0, none⟩) k k) ∧ ys.map Fl.nm = (xs.map Fl.nm).map (fun x => x.drop P.length) ∧ FAt w' (some ⟨A, 0, none⟩) ys ∧ DAt w' ys ds ∧ (∀ y ∈ ys, y.a = none ∨ ∃ B O, y.a = some ⟨B, O, none⟩) ∧ Below wr.heap.size wr w') := hide (renamed96 (w := wr) (pb := K) (R := fun x => x.drop P.length) (unhide HX) hn ((unhide HA).low hbz) ((unhide HD).low hbz) (unhide HF) (fun W hW x hx => by
        obtain ⟨r, hr, e⟩ : ∃ r ∈ rs, x.nm = P ++ r := by
          have : x.nm ∈ xs.map Fl.nm := List.mem_map_of_mem hx
          rw [unhide HNM] at this
          obtain ⟨r, h1, h2⟩ := List.mem_map.1 this
          exact ⟨r, h1, h2.symm⟩
        rw [e, List.drop_left]
        exact stripName_any (by have := (unhide HRS r hr).2; omega) ((((unhide HQ3).low hbw).low hW).cell 0)))
      have HBZ := hide hbz
      have HNF : Hid ((xs.map Fl.nm).map (fun x => x.drop P.length) = rs) := hide (by
        rw [unhide HNM, List.map_map]
        conv => rhs; rw [← List.map_id rs]
        apply List.map_congr_left
        intro r _
        simp)
      clear hbw hbz
      go_wp2_with (go_at_call 76; fail)
      refine (unhide KR).mono ?_
      rintro e w4 ⟨A, ys, rfl, h1, h2, h3, -, b4⟩
      rw [unhide HNF] at h1
      have HZ := hide (low_trans (unhide HBZ) b4)
      have H1 := hide h1
      have H2 := hide h2
      have H3 := hide h3
      clear h1 h2 h3 b4
      go_wp2
      go_ret2
      exact ⟨A, ys, rfl, unhide H1, unhide H2, unhide H3, unhide HZ⟩
end Go.Proofs.YtkablmjkffdloaaGreatDoor
