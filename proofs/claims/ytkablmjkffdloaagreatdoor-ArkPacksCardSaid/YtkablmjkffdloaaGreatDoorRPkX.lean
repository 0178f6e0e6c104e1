/-
  The reference's packing of files: any files.
-/
import Derived.Test.YtkablmjkffdloaaGreatDoorRNmX
import Derived.Test.YtkablmjkffdloaaGreatDoorRefQ
import Derived.Test.YtkablmjkffdloaaGreatDoorRCrc
import Derived.Test.YtkablmjkffdloaaGreatDoorArcQ
import Derived.Test.YtkablmjkffdloaaGreatDoorFlsA
import Derived.Deep.RegionHeld3
import Derived.Test.YtkablmjkffdloaaGreatDoorByX
import Derived.Test.YtkablmjkffdloaaGreatDoorPckA
namespace Go.Proofs.YtkablmjkffdloaaGreatDoor
open Go.RowKit

theorem numsI_at {W : World} {N : Nat} {ns : List Nat} {cs : Array Value} (h : Blk W N cs 3) (hc : cs = (ns.map fun x : Nat => Value.int .i64 (x : Int)).toArray) : ∀ j (hj : j < ns.length), W.cell? ⟨N, j, none⟩ = some (.int .i64 ((ns[j] : Nat) : Int)) := fun j hj => by
  rw [h.cell j, hc]
  simp [hj]
theorem app_lit {B n : Nat} {w W1 : World} {v : Value} {l m : Bs} {C : Array Value} (hC : C = (m.map byteV).toArray) (hn : m.length = n) (ho : OwnB B w v l) (hB : B ≤ w.heap.size) (hl : l.length + n ≤ 4294967296) (hW : w.alloc (.cells C 5) = W1) :
    ∃ v' w', (Builtin.append_ #[23, 23] 23 #[v, .slice (some ⟨w.heap.size, 0, none⟩) n n]).run Tryz.prog W1 = .ok v' w' ∧ OwnB B w' v' (l ++ m) ∧ GrB w w' v v' := by
  have hb : Below w.heap.size w W1 := by rw [← hW]; exact lowB (Below.refl _ _) _
  have hblk : Blk W1 w.heap.size C 5 := by rw [← hW]; exact Blk.new _ _ _
  obtain ⟨v', w', h1, h2, h3⟩ := app_bytes (a := ⟨w.heap.size, 0, none⟩) (c := n) (ho.low hb) (Nat.le_trans hB hb.size) hn (fun k hk => by
    rw [WideShapes.add_plain, Nat.zero_add, hblk.cell k, hC]
    simp [hk]) hl
  have ha : GrB w W1 v v := by rw [← hW]; exact GrB.alloc _ _ _
  exact ⟨v', w', h1, h2, ha.trans h3⟩
/-- Two rows of bytes that grow, seen from the world at the entry. -/
structure BS (w0 w : World) (hv ev : Value) (H E : Bs) : Prop where
  h : OwnB w0.heap.size w hv H
  e : OwnB w0.heap.size w ev E
  ne : ∀ k, hv.ownBlock = some k → ev.ownBlock = some k → False
  low : Below w0.heap.size w0 w
theorem BS.step {w0 w w' : World} {hv ev : Value} {H E : Bs} (h : BS w0 w hv ev H E) (b : Below w.heap.size w w') : BS w0 w' hv ev H E := ⟨h.h.low b, h.e.low b, h.ne, low_trans h.low b⟩
theorem BS.growH {w0 w w' : World} {hv hv' ev : Value} {H H' E : Bs} (h : BS w0 w hv ev H E) (g : GrB w w' hv hv') (o : OwnB w0.heap.size w' hv' H') : BS w0 w' hv' ev H' E where
  h := o
  e := h.e.keep fun k hk => g.block k (own_lt h.e k hk) (fun e => h.ne k e.symm hk)
  ne := fun k h1 h2 => by
    rcases g.own with e | ⟨q, e, hq⟩
    · rw [e] at h1; exact h.ne k h1 h2
    · rw [e] at h1
      have := own_lt h.e k h2
      have : q = k := Option.some.inj h1
      omega
  low := h.low.trans (g.low h.low.size (fun q hq => OwnB.base h.h q hq))
theorem BS.growE {w0 w w' : World} {hv ev ev' : Value} {H E E' : Bs} (h : BS w0 w hv ev H E) (g : GrB w w' ev ev') (o : OwnB w0.heap.size w' ev' E') : BS w0 w' hv ev' H E' where
  e := o
  h := h.h.keep fun k hk => g.block k (own_lt h.h k hk) (fun e => h.ne k hk e.symm)
  ne := fun k h1 h2 => by
    rcases g.own with e | ⟨q, e, hq⟩
    · rw [e] at h2; exact h.ne k h1 h2
    · rw [e] at h2
      have := own_lt h.h k h1
      have : q = k := Option.some.inj h2
      omega
  low := h.low.trans (g.low h.low.size (fun q hq => OwnB.base h.e q hq))
theorem head_is (H nm d : Bs) : (((((((H ++ [80, 75, 3, 4]) ++ leAll 2 [20, 0, 0, 0, 33]) ++ leN 4 (crcL d).toNat) ++ leN 4 d.length) ++ leN 4 d.length) ++ leAll 2 [nm.length, 0]) ++ nm) ++ d = H ++ headL (nm, d) := by
  unfold headL descL
  have e3 : ∀ a b c : Nat, leAll 4 [a, b, c] = leN 4 a ++ (leN 4 b ++ leN 4 c) := fun a b c => by unfold leAll; simp
  rw [e3]
  simp only [List.append_assoc]
theorem entry_is (E nm d : Bs) (at0 : Nat) : ((((((((E ++ [80, 75, 1, 2]) ++ leAll 2 [20, 20, 0, 0, 0, 33]) ++ leN 4 (crcL d).toNat) ++ leN 4 d.length) ++ leN 4 d.length) ++ leAll 2 [nm.length, 0, 0, 0, 0]) ++ leN 4 0) ++ leN 4 at0) ++ nm = E ++ entryL at0 (nm, d) := by
  unfold entryL descL
  have e3 : ∀ a b c : Nat, leAll 4 [a, b, c] = leN 4 a ++ (leN 4 b ++ leN 4 c) := fun a b c => by unfold leAll; simp
  have e2 : ∀ a b : Nat, leAll 4 [a, b] = leN 4 a ++ leN 4 b := fun a b => by unfold leAll; simp
  have e6 : leAll 2 [20, 20, 0, 0, 0, 33] = leAll 2 [20] ++ leAll 2 [20, 0, 0, 0, 33] := rfl
  have e5 : ∀ k : Nat, leAll 2 [k, 0, 0, 0, 0] = leAll 2 [k, 0] ++ leAll 2 [0, 0, 0] := fun k => by unfold leAll; simp
  rw [e3, e2, e6, e5]
  simp only [List.append_assoc]
theorem end_is (X : Bs) (k e h : Nat) : ((((X ++ [80, 75, 5, 6]) ++ leAll 2 [0, 0, k, k]) ++ leN 4 e) ++ leN 4 h) ++ leAll 2 [0] = X ++ endL k e h := by
  unfold endL
  have e2 : ∀ a b : Nat, leAll 4 [a, b] = leN 4 a ++ leN 4 b := fun a b => by unfold leAll; simp
  rw [e2]
  simp only [List.append_assoc]

set_option maxRecDepth 100000 in
set_option maxHeartbeats 8000000 in
theorem refArc_any {w : World} {a : Option Addr} {n c : Nat} {xs : List Fl} {dat : Fl → Bs} (hx : xs.length = n) (hn : n ≤ 1000) (h : FAt w a xs) (hd : DatG w xs dat) (hsz : sizesL (xs.map (ndF dat)) ≤ 1000000000) :
    Calls Tryz.prog 94 #[.slice a n c] w fun e w' => ∃ v, e = .returned v ∧ OwnB w.heap.size w' v (arcL (xs.map (ndF dat))) ∧ Below w.heap.size w w' := by
  obtain ⟨L, hL⟩ : ∃ L, xs.map (ndF dat) = L := ⟨_, rfl⟩
  have hLl : L.length = n := by rw [← hL, List.length_map]; exact hx
  rw [hL] at hsz ⊢
  have HX := hide hx
  have HA := hide h
  have HD := hide hd
  have HLX := hide hL
  have HLL := hide hLl
  have HSZ := hide hsz
  clear hx h hd hL hLl hsz
  go_enter Tryz.func94, Tryz.ntmps94
  go_wp2
  go_loopw [3, 4, 5, 6, 7, 8] (fun v3 v4 v5 _ _ _ wr => ∃ i : Nat, i ≤ n ∧ v5 = .int .i64 (i : Int) ∧ BS w wr v3 v4 (headsL (L.take i)) (entsL 0 (L.take i))) (fun _ _ v5 _ _ _ _ => n - (intOf v5).toNat)
  case atStart => exact ⟨0, Nat.zero_le _, rfl, ⟨World.ownsRow_nil _ _ _ _, World.ownsRow_nil _ _ _ _, (fun k h _ => by cases h), Below.refl _ _⟩⟩
  case round =>
    rename World => wr
    obtain ⟨i, hi, rfl, hS⟩ := hrel
    by_cases hlt : i < n
    · have hil : i < xs.length := by rw [unhide HX]; exact hlt
      have hlt' : (i : Int) < (n : Int) := by omega
      obtain ⟨B, O, rfl, -, -⟩ := ((unhide HA).low hS.low).get hil
      have hcells : ∀ wx, Below w.heap.size w wx → wx.cell? ⟨B, O + i * 2, none⟩ = some (.string (ba xs[i].nm)) ∧ wx.cell? ⟨B, O + i * 2 + 1, none⟩ = some (.slice xs[i].a xs[i].n xs[i].c) := fun wx hb => by
        obtain ⟨B2, O2, e2, z0, z1⟩ := ((unhide HA).low hb).get hil
        cases e2
        exact ⟨z0, z1⟩
      have mx : xs[i] ∈ xs := List.getElem_mem hil
      have x1 := (unhide HD).len _ mx
      have x2 := (unhide HD).few _ mx
      have x6 := (unhide HD).at_ _ mx
      have x7 := (unhide HD).nm _ mx
      have hil2 : i < L.length := by rw [unhide HLL]; exact hlt
      have hLi : L[i] = (xs[i].nm, dat xs[i]) := by
        have h1 : L[i]? = some (ndF dat xs[i]) := by rw [← unhide HLX]; simp [hil]
        rw [List.getElem?_eq_getElem hil2] at h1
        exact Option.some.inj h1
      have htk : L.take (i + 1) = L.take i ++ [L[i]] := take_sn hil2
      rw [hLi] at htk
      obtain ⟨d, hdd⟩ : ∃ d, dat xs[i] = d := ⟨_, rfl⟩
      rw [hdd] at x1 x6 htk
      obtain ⟨x, hxx⟩ : ∃ x, xs[i] = x := ⟨_, rfl⟩
      rw [hxx] at hcells x1 x2 x6 x7 htk
      obtain ⟨nm, xa, xn, xc⟩ := x
      simp only at hcells x1 x2 x6 x7 htk
      obtain ⟨k, hk⟩ : ∃ k, nm.length = k := ⟨_, rfl⟩
      have hsk : (ba nm).size = k := by rw [ba_size]; exact hk
      rw [hk] at x7
      obtain ⟨CK, hCK⟩ : ∃ CK, (crcL d).toNat = CK := ⟨_, rfl⟩
      have hCKb : CK < 4294967296 := by rw [← hCK]; exact u32_lt _
      obtain ⟨H0, hH0⟩ : ∃ H, headsL (L.take i) = H := ⟨_, rfl⟩
      obtain ⟨E0, hE0⟩ : ∃ E, entsL 0 (L.take i) = E := ⟨_, rfl⟩
      obtain ⟨at0, hat0⟩ : ∃ m, H0.length = m := ⟨_, rfl⟩
      have hbd : H0.length ≤ 1300000000 ∧ E0.length ≤ 1300000000 := by
        have h1 := sizes_take L i
        have h2 := parts_len (L.take i) 0
        have h3 := unhide HSZ
        rw [hH0, hE0] at h2
        omega
      have hat0b : at0 ≤ 1300000000 := by omega
      rw [hH0, hE0] at hS
      have HHN : Hid (headsL (L.take (i + 1)) = H0 ++ headL (nm, d)) := hide (by rw [htk, headsL_snoc, hH0])
      have HEN : Hid (entsL 0 (L.take (i + 1)) = E0 ++ entryL at0 (nm, d)) := hide (by rw [htk, entsL_snoc, hE0, hH0, Nat.zero_add, hat0])
      have KC : Hid (∀ W, Below w.heap.size w W → Calls Tryz.prog 30 #[.slice xa xn xc] W fun e w' => e = .returned (.int .u32 (CK : Int)) ∧ w' = W) := hide (fun W hW => by
        have kk := refCrc_any (c := xc) x1 (by omega) (x6.low hW)
        rw [hCK] at kk
        exact kk)
      obtain ⟨ha, hc, hv3, -, -, -⟩ := OwnB.at hS.h
      rw [hat0] at hv3
      subst hv3
      have HCELL := hide hcells
      have X1 := hide x1
      have X6 := hide x6
      have HKK := hide hk
      have HCK := hide hCK
      have HAT := hide hat0
      have HBH : Hid (H0.length ≤ 1300000000) := hide hbd.1
      have HBE : Hid (E0.length ≤ 1300000000) := hide hbd.2
      obtain ⟨c0, c1⟩ := hcells wr hS.low
      have HS0 := hide hS
      have KC0 := hide (unhide KC wr hS.low)
      clear hcells mx x1 x6 hil2 hLi htk hdd hxx hk hCK hH0 hE0 hat0 hbd hS hil
      go_wp2_with (go_at_call 30; fail)
      refine (unhide KC0).mono ?_
      rintro e wn ⟨rfl, hwn⟩
      rw [hwn]
      clear hwn wn KC KC0
      obtain ⟨W1, hW1⟩ : ∃ W, wr.alloc (.cells #[.int .u8 80, .int .u8 75, .int .u8 3, .int .u8 4] 5) = W := ⟨_, rfl⟩
      obtain ⟨v1, w1, happ, o1, g1⟩ := app_lit (m := [80, 75, 3, 4]) (n := 4) rfl rfl (unhide HS0).h (unhide HS0).low.size (by have := unhide HBH; omega) hW1
      obtain ⟨H1, hH1⟩ : ∃ x, H0 ++ [80, 75, 3, 4] = x := ⟨_, rfl⟩
      rw [hH1] at o1
      have HS1 := hide ((unhide HS0).growH g1 o1)
      have HBH1 : Hid (H1.length ≤ 1300000004) := hide (by rw [← hH1, List.length_append, show ([80, 75, 3, 4] : Bs).length = 4 from rfl]; have := unhide HBH; omega)
      have HQH1 := hide hH1
      have HW1 := hide hW1
      clear hW1 o1 g1 hH1
      go_wp2_with (at_builtin; rw [unhide HW1]; refine Lib.wpList_append_run _ rfl (.tmp 31) (.tmp 32) 23 23 rfl _ _ rfl rfl _ _ happ ?_; clear happ)
      obtain ⟨W2, hW2⟩ : ∃ W, w1.alloc (.cells #[.int .i64 20, .int .i64 0, .int .i64 0, .int .i64 0, .int .i64 33] 3) = W := ⟨_, rfl⟩
      have b2 : Below w1.heap.size w1 W2 := by rw [← hW2]; exact lowB (Below.refl _ _) _
      have k2 : Blk W2 w1.heap.size #[.int .i64 20, .int .i64 0, .int .i64 0, .int .i64 0, .int .i64 33] 3 := by rw [← hW2]; exact Blk.new _ _ _
      have HT2 := hide ((unhide HS1).step b2)
      have KP := hide (puts_any (N := w1.heap.size) (q := 5) (kc := 5) (ns := [20, 0, 0, 0, 33]) (unhide HT2).h (unhide HT2).low.size rfl (numsI_at k2 rfl) (k2.type (by decide)) (fun x hx => by simp at hx; omega) (by decide) (by have := unhide HBH1; omega))
      have HW2 := hide hW2
      clear hW2 b2 k2
      go_wp2_with (go_at_call 147; fail)
      rw [unhide HW2]
      refine (unhide KP).mono ?_
      rintro e w2 ⟨v2, rfl, o2, g2⟩
      obtain ⟨H2, hH2⟩ : ∃ x, H1 ++ leAll 2 [20, 0, 0, 0, 33] = x := ⟨_, rfl⟩
      rw [hH2] at o2
      have HS2 := hide ((unhide HT2).growH g2 o2)
      have HBH2 : Hid (H2.length ≤ 1300000014) := hide (by rw [← hH2, List.length_append, leAll_len, show ([20, 0, 0, 0, 33] : List Nat).length = 5 from rfl]; have := unhide HBH1; omega)
      have HQH2 := hide hH2
      clear o2 g2 hH2 KP
      have KP := hide (put_any (x := CK) (sz := 4) (unhide HS2).h (unhide HS2).low.size (by omega) (by decide) (by have := unhide HBH2; omega))
      go_wp2_with (go_at_call 148; fail)
      refine (unhide KP).mono ?_
      rintro e w3 ⟨v3, rfl, o3, g3⟩
      obtain ⟨H3, hH3⟩ : ∃ x, H2 ++ leN 4 CK = x := ⟨_, rfl⟩
      rw [hH3] at o3
      have HS3 := hide ((unhide HS2).growH g3 o3)
      have HBH3 : Hid (H3.length ≤ 1300000018) := hide (by rw [← hH3, List.length_append, leN_len]; have := unhide HBH2; omega)
      have HQH3 := hide hH3
      clear o3 g3 hH3 KP
      have KP := hide (put_any (x := xn) (sz := 4) (unhide HS3).h (unhide HS3).low.size (by omega) (by decide) (by have := unhide HBH3; omega))
      go_wp2_with (go_at_call 148; fail)
      refine (unhide KP).mono ?_
      rintro e w4 ⟨v4, rfl, o4, g4⟩
      obtain ⟨H4, hH4⟩ : ∃ x, H3 ++ leN 4 xn = x := ⟨_, rfl⟩
      rw [hH4] at o4
      have HS4 := hide ((unhide HS3).growH g4 o4)
      have HBH4 : Hid (H4.length ≤ 1300000022) := hide (by rw [← hH4, List.length_append, leN_len]; have := unhide HBH3; omega)
      have HQH4 := hide hH4
      clear o4 g4 hH4 KP
      have KP := hide (put_any (x := xn) (sz := 4) (unhide HS4).h (unhide HS4).low.size (by omega) (by decide) (by have := unhide HBH4; omega))
      go_wp2_with (go_at_call 148; fail)
      refine (unhide KP).mono ?_
      rintro e w5 ⟨v5, rfl, o5, g5⟩
      obtain ⟨H5, hH5⟩ : ∃ x, H4 ++ leN 4 xn = x := ⟨_, rfl⟩
      rw [hH5] at o5
      have HS5 := hide ((unhide HS4).growH g5 o5)
      have HBH5 : Hid (H5.length ≤ 1300000026) := hide (by rw [← hH5, List.length_append, leN_len]; have := unhide HBH4; omega)
      have HQH5 := hide hH5
      clear o5 g5 hH5 KP
      clear c0 c1
      obtain ⟨c0, c1⟩ := unhide HCELL w5 (unhide HS5).low
      obtain ⟨W6, hW6⟩ : ∃ W, w5.alloc (.cells #[.int .i64 (k : Int), .int .i64 0] 3) = W := ⟨_, rfl⟩
      have b6 : Below w5.heap.size w5 W6 := by rw [← hW6]; exact lowB (Below.refl _ _) _
      have k6 : Blk W6 w5.heap.size #[.int .i64 (k : Int), .int .i64 0] 3 := by rw [← hW6]; exact Blk.new _ _ _
      have HT6 := hide ((unhide HS5).step b6)
      have KP := hide (puts_any (N := w5.heap.size) (q := 2) (kc := 2) (ns := [k, 0]) (unhide HT6).h (unhide HT6).low.size rfl (numsI_at k6 rfl) (k6.type (by decide)) (fun x hx => by simp at hx; omega) (by decide) (by have := unhide HBH5; omega))
      have HW6 := hide hW6
      clear hW6 b6 k6
      go_wp2_with (go_at_call 147; fail)
      rw [unhide HW6]
      refine (unhide KP).mono ?_
      rintro e w6 ⟨v6, rfl, o6, g6⟩
      obtain ⟨H6, hH6⟩ : ∃ x, H5 ++ leAll 2 [k, 0] = x := ⟨_, rfl⟩
      rw [hH6] at o6
      have HS6 := hide ((unhide HT6).growH g6 o6)
      have HBH6 : Hid (H6.length ≤ 1300000030) := hide (by rw [← hH6, List.length_append, leAll_len, show ([k, 0] : List Nat).length = 2 from rfl]; have := unhide HBH5; omega)
      have HQH6 := hide hH6
      clear o6 g6 hH6 KP
      clear c0 c1
      obtain ⟨c0, c1⟩ := unhide HCELL w6 (unhide HS6).low
      have hbd7 : Below w6.heap.size w6 w6.drew := (Below.refl _ _).drew
      have HSd := hide ((unhide HS6).step hbd7)
      obtain ⟨v7, w7, happ1, o7, g7⟩ := app_strF (w := w6.drew) (r := nm) (unhide HSd).h (unhide HSd).low.size (by rw [unhide HKK]; have := unhide HBH6; omega)
      obtain ⟨H7, hH7⟩ : ∃ x, H6 ++ nm = x := ⟨_, rfl⟩
      rw [hH7] at o7
      have HS7 := hide ((unhide HSd).growH g7 o7)
      have HBH7 : Hid (H7.length ≤ 1300100030) := hide (by rw [← hH7, List.length_append, unhide HKK]; have := unhide HBH6; omega)
      have HQH7 := hide hH7
      obtain ⟨v8, w8, happ2, o8, g8⟩ := app_bytesF (w := w7) (m := d) (a := xa) (n := xn) (c := xc) (unhide HS7).h (unhide HS7).low.size (unhide X1) ((unhide X6).low (unhide HS7).low) (by have := unhide HBH7; omega)
      obtain ⟨H8, hH8⟩ : ∃ x, H7 ++ d = x := ⟨_, rfl⟩
      rw [hH8] at o8
      have HS8 := hide ((unhide HS7).growH g8 o8)
      have HBH8 : Hid (H8.length ≤ 1301148606) := hide (by rw [← hH8, List.length_append, unhide X1]; have := unhide HBH7; omega)
      have HQH8 := hide hH8
      have hcw : ∀ wx, Below w.heap.size w wx → wx.cell? ⟨B, O + i * 2, none⟩ = some (.string (ba nm)) ∧ wx.cell? ⟨B, O + i * 2 + 1, none⟩ = some (.slice xa xn xc) := unhide HCELL
      have hS12 := hcw w6 (unhide HS6).low
      have hS12a := hcw w7 (unhide HS7).low
      have hS12b := hcw w6.drew (unhide HSd).low
      have hS12e := hcw w7.drew (low_trans (unhide HS7).low ((Below.refl _ _).drew))
      have hS12c := hcw w8 (unhide HS8).low
      have hS12d := hcw w8.drew (low_trans (unhide HS8).low ((Below.refl _ _).drew))
      clear o7 g7 hH7 o8 g8 hH8 hbd7 hcw c0 c1
      go_wp2
      go_region_held3 (fun wx => wx.cell? ⟨B, O + i * 2, none⟩ = some (.string (ba nm)) ∧ wx.cell? ⟨B, O + i * 2 + 1, none⟩ = some (.slice xa xn xc))
        (first | assumption | exact hS12 | exact hS12a | exact hS12b | exact hS12c | exact hS12d | exact hS12e)
        (first
          | (refine Lib.wp_append_run _ (.tmp 53) (.tmp 58) 23 9 (by rfl) v6 (.string (ba nm)) (by kernel_rfl) (by kernel_rfl) v7 w7 happ1 ?_)
          | (refine Lib.wp_append_run _ (.tmp 59) (.tmp 64) 23 23 (by rfl) v7 (.slice xa xn xc) (by kernel_rfl) (by kernel_rfl) v8 w8 happ2 ?_))
      clear happ1 happ2 hS12 hS12a hS12b hS12c hS12d hS12e
      obtain ⟨W9, hW9⟩ : ∃ W, w8.alloc (.cells #[.int .u8 80, .int .u8 75, .int .u8 1, .int .u8 2] 5) = W := ⟨_, rfl⟩
      obtain ⟨v9, w9, happ, o9, g9⟩ := app_lit (m := [80, 75, 1, 2]) (n := 4) rfl rfl (unhide HS8).e (unhide HS8).low.size (by have := unhide HBE; omega) hW9
      obtain ⟨E9, hE9⟩ : ∃ x, E0 ++ [80, 75, 1, 2] = x := ⟨_, rfl⟩
      rw [hE9] at o9
      have HS9 := hide ((unhide HS8).growE g9 o9)
      have HBE9 : Hid (E9.length ≤ 1300000004) := hide (by rw [← hE9, List.length_append, show ([80, 75, 1, 2] : Bs).length = 4 from rfl]; have := unhide HBE; omega)
      have HQE9 := hide hE9
      have HW9 := hide hW9
      clear hW9 o9 g9 hE9
      go_wp2_with (at_builtin; rw [unhide HW9]; refine Lib.wpList_append_run _ rfl (.tmp 66) (.tmp 67) 23 23 rfl _ _ rfl rfl _ _ happ ?_; clear happ)
      obtain ⟨W10, hW10⟩ : ∃ W, w9.alloc (.cells #[.int .i64 20, .int .i64 20, .int .i64 0, .int .i64 0, .int .i64 0, .int .i64 33] 3) = W := ⟨_, rfl⟩
      have b10 : Below w9.heap.size w9 W10 := by rw [← hW10]; exact lowB (Below.refl _ _) _
      have k10 : Blk W10 w9.heap.size #[.int .i64 20, .int .i64 20, .int .i64 0, .int .i64 0, .int .i64 0, .int .i64 33] 3 := by rw [← hW10]; exact Blk.new _ _ _
      have HT10 := hide ((unhide HS9).step b10)
      have KP := hide (puts_any (N := w9.heap.size) (q := 6) (kc := 6) (ns := [20, 20, 0, 0, 0, 33]) (unhide HT10).e (unhide HT10).low.size rfl (numsI_at k10 rfl) (k10.type (by decide)) (fun x hx => by simp at hx; omega) (by decide) (by have := unhide HBE9; omega))
      have HW10 := hide hW10
      clear hW10 b10 k10
      go_wp2_with (go_at_call 147; fail)
      rw [unhide HW10]
      refine (unhide KP).mono ?_
      rintro e w10 ⟨v10, rfl, o10, g10⟩
      obtain ⟨E10, hE10⟩ : ∃ x, E9 ++ leAll 2 [20, 20, 0, 0, 0, 33] = x := ⟨_, rfl⟩
      rw [hE10] at o10
      have HS10 := hide ((unhide HT10).growE g10 o10)
      have HBE10 : Hid (E10.length ≤ 1300000016) := hide (by rw [← hE10, List.length_append, leAll_len, show ([20, 20, 0, 0, 0, 33] : List Nat).length = 6 from rfl]; have := unhide HBE9; omega)
      have HQE10 := hide hE10
      clear o10 g10 hE10 KP
      have KP := hide (put_any (x := CK) (sz := 4) (unhide HS10).e (unhide HS10).low.size (by omega) (by decide) (by have := unhide HBE10; omega))
      go_wp2_with (go_at_call 148; fail)
      refine (unhide KP).mono ?_
      rintro e w11 ⟨v11, rfl, o11, g11⟩
      obtain ⟨E11, hE11⟩ : ∃ x, E10 ++ leN 4 CK = x := ⟨_, rfl⟩
      rw [hE11] at o11
      have HS11 := hide ((unhide HS10).growE g11 o11)
      have HBE11 : Hid (E11.length ≤ 1300000020) := hide (by rw [← hE11, List.length_append, leN_len]; have := unhide HBE10; omega)
      have HQE11 := hide hE11
      clear o11 g11 hE11 KP
      have KP := hide (put_any (x := xn) (sz := 4) (unhide HS11).e (unhide HS11).low.size (by omega) (by decide) (by have := unhide HBE11; omega))
      go_wp2_with (go_at_call 148; fail)
      refine (unhide KP).mono ?_
      rintro e w12 ⟨v12, rfl, o12, g12⟩
      obtain ⟨E12, hE12⟩ : ∃ x, E11 ++ leN 4 xn = x := ⟨_, rfl⟩
      rw [hE12] at o12
      have HS12 := hide ((unhide HS11).growE g12 o12)
      have HBE12 : Hid (E12.length ≤ 1300000024) := hide (by rw [← hE12, List.length_append, leN_len]; have := unhide HBE11; omega)
      have HQE12 := hide hE12
      clear o12 g12 hE12 KP
      have KP := hide (put_any (x := xn) (sz := 4) (unhide HS12).e (unhide HS12).low.size (by omega) (by decide) (by have := unhide HBE12; omega))
      go_wp2_with (go_at_call 148; fail)
      refine (unhide KP).mono ?_
      rintro e w13 ⟨v13, rfl, o13, g13⟩
      obtain ⟨E13, hE13⟩ : ∃ x, E12 ++ leN 4 xn = x := ⟨_, rfl⟩
      rw [hE13] at o13
      have HS13 := hide ((unhide HS12).growE g13 o13)
      have HBE13 : Hid (E13.length ≤ 1300000028) := hide (by rw [← hE13, List.length_append, leN_len]; have := unhide HBE12; omega)
      have HQE13 := hide hE13
      clear o13 g13 hE13 KP
      obtain ⟨c0, c1⟩ := unhide HCELL w13 (unhide HS13).low
      obtain ⟨W14, hW14⟩ : ∃ W, w13.alloc (.cells #[.int .i64 (k : Int), .int .i64 0, .int .i64 0, .int .i64 0, .int .i64 0] 3) = W := ⟨_, rfl⟩
      have b14 : Below w13.heap.size w13 W14 := by rw [← hW14]; exact lowB (Below.refl _ _) _
      have k14 : Blk W14 w13.heap.size #[.int .i64 (k : Int), .int .i64 0, .int .i64 0, .int .i64 0, .int .i64 0] 3 := by rw [← hW14]; exact Blk.new _ _ _
      have HT14 := hide ((unhide HS13).step b14)
      have KP := hide (puts_any (N := w13.heap.size) (q := 5) (kc := 5) (ns := [k, 0, 0, 0, 0]) (unhide HT14).e (unhide HT14).low.size rfl (numsI_at k14 rfl) (k14.type (by decide)) (fun x hx => by simp at hx; omega) (by decide) (by have := unhide HBE13; omega))
      have HW14 := hide hW14
      clear hW14 b14 k14
      go_wp2_with (go_at_call 147; fail)
      rw [unhide HW14]
      refine (unhide KP).mono ?_
      rintro e w14 ⟨v14, rfl, o14, g14⟩
      obtain ⟨E14, hE14⟩ : ∃ x, E13 ++ leAll 2 [k, 0, 0, 0, 0] = x := ⟨_, rfl⟩
      rw [hE14] at o14
      have HS14 := hide ((unhide HT14).growE g14 o14)
      have HBE14 : Hid (E14.length ≤ 1300000038) := hide (by rw [← hE14, List.length_append, leAll_len, show ([k, 0, 0, 0, 0] : List Nat).length = 5 from rfl]; have := unhide HBE13; omega)
      have HQE14 := hide hE14
      clear o14 g14 hE14 KP
      clear c0 c1
      have KP := hide (put_any (x := 0) (sz := 4) (unhide HS14).e (unhide HS14).low.size (by omega) (by decide) (by have := unhide HBE14; omega))
      go_wp2_with (go_at_call 148; fail)
      refine (unhide KP).mono ?_
      rintro e w15 ⟨v15, rfl, o15, g15⟩
      obtain ⟨E15, hE15⟩ : ∃ x, E14 ++ leN 4 0 = x := ⟨_, rfl⟩
      rw [hE15] at o15
      have HS15 := hide ((unhide HS14).growE g15 o15)
      have HBE15 : Hid (E15.length ≤ 1300000042) := hide (by rw [← hE15, List.length_append, leN_len]; have := unhide HBE14; omega)
      have HQE15 := hide hE15
      clear o15 g15 hE15 KP
      have KP := hide (put_any (x := at0) (sz := 4) (unhide HS15).e (unhide HS15).low.size (by omega) (by decide) (by have := unhide HBE15; omega))
      go_wp2_with (go_at_call 148; fail)
      refine (unhide KP).mono ?_
      rintro e w16 ⟨v16, rfl, o16, g16⟩
      obtain ⟨E16, hE16⟩ : ∃ x, E15 ++ leN 4 at0 = x := ⟨_, rfl⟩
      rw [hE16] at o16
      have HS16 := hide ((unhide HS15).growE g16 o16)
      have HBE16 : Hid (E16.length ≤ 1300000046) := hide (by rw [← hE16, List.length_append, leN_len]; have := unhide HBE15; omega)
      have HQE16 := hide hE16
      clear o16 g16 hE16 KP
      obtain ⟨c0, c1⟩ := unhide HCELL w16 (unhide HS16).low
      obtain ⟨v17, w17, happ, o17, g17⟩ := app_strF (r := nm) (unhide HS16).e (unhide HS16).low.size (by rw [unhide HKK]; have := unhide HBE16; omega)
      obtain ⟨E17, hE17⟩ : ∃ x, E16 ++ nm = x := ⟨_, rfl⟩
      rw [hE17] at o17
      have HS17 := hide ((unhide HS16).growE g17 o17)
      have HBE17 : Hid (E17.length ≤ 1300100046) := hide (by rw [← hE17, List.length_append, unhide HKK]; have := unhide HBE16; omega)
      have HQE17 := hide hE17
      clear o17 g17 hE17
      go_wp2_with (at_builtin; refine Lib.wpList_append_run _ rfl (.tmp 92) (.tmp 97) 23 9 rfl _ (.string (ba nm)) rfl rfl _ _ happ ?_; clear happ)
      have HHF : Hid (H8 = headsL (L.take (i + 1))) := hide (by
        rw [unhide HHN, ← head_is, unhide HCK, unhide X1, unhide HKK]
        rw [unhide HQH1, unhide HQH2, unhide HQH3, unhide HQH4, unhide HQH5, unhide HQH6, unhide HQH7, unhide HQH8])
      have HEF : Hid (E17 = entsL 0 (L.take (i + 1))) := hide (by
        rw [unhide HEN, ← entry_is, unhide HCK, unhide X1, unhide HKK]
        rw [unhide HQE9, unhide HQE10, unhide HQE11, unhide HQE12, unhide HQE13, unhide HQE14, unhide HQE15, unhide HQE16, unhide HQE17])
      clear c0 c1
      go_roundw
      case rel => exact ⟨i + 1, hlt, by push_cast; rfl, by rw [← unhide HHF, ← unhide HEF]; exact unhide HS17⟩
      case measure => simp [intOf]; omega
    · have hie : i = n := by omega
      subst hie
      rw [List.take_of_length_le (by rw [unhide HLL]; exact Nat.le_refl _)] at hS
      obtain ⟨H, hH⟩ : ∃ H, headsL L = H := ⟨_, rfl⟩
      obtain ⟨E, hE⟩ : ∃ E, entsL 0 L = E := ⟨_, rfl⟩
      have hbd : H.length ≤ 1073741824 ∧ H.length + E.length ≤ 1300000000 := by
        have h2 := parts_len L 0
        have h3 := unhide HSZ
        rw [hH, hE] at h2
        omega
      rw [hH, hE] at hS
      obtain ⟨ha, hc, hv3, hhat, -, -⟩ := OwnB.at hS.h
      obtain ⟨ea, ec, hv4, heat, -, -⟩ := OwnB.at hS.e
      obtain ⟨hl, hhl⟩ : ∃ m, H.length = m := ⟨_, rfl⟩
      obtain ⟨el, hel⟩ : ∃ m, E.length = m := ⟨_, rfl⟩
      rw [hhl] at hv3
      rw [hel] at hv4
      subst hv3
      subst hv4
      have KB := hide (bytes_any (w := wr) (c := hc) hhl (by omega) hhat)
      have HH := hide hH
      have HE := hide hE
      have HHL := hide hhl
      have HEL := hide hel
      have HEA := hide heat
      have HBW := hide hS.low
      have hbd2 : hl + el ≤ 1300000000 := by omega
      clear hS hhat heat hH hE hhl hel hbd
      go_wp2_with (go_at_call 82; fail)
      refine (unhide KB).mono ?_
      rintro e w1 ⟨v1, rfl, o1, b1⟩
      have HB1 := hide (low_trans (unhide HBW) b1)
      have o1b : OwnB w.heap.size w1 v1 H := OwnB.less (unhide HBW).size o1
      obtain ⟨v2, w2, happ2, o2, g2⟩ := app_bytesF (m := E) (a := ea) (n := el) (c := ec) o1b (unhide HB1).size (unhide HEL) ((unhide HEA).low b1) (by rw [unhide HHL]; omega)
      obtain ⟨X2, hX2⟩ : ∃ x, H ++ E = x := ⟨_, rfl⟩
      rw [hX2] at o2
      have HL2 : Hid (X2.length ≤ 1300000000) := hide (by rw [← hX2, List.length_append, unhide HHL, unhide HEL]; omega)
      have HX2 := hide hX2
      have HB2 := hide ((unhide HB1).trans (g2.low (unhide HB1).size (fun q hq => OwnB.base o1b q hq)))
      have HO2 := hide o2
      clear o1 b1 o1b o2 g2 hX2 KB
      obtain ⟨W3, hW3⟩ : ∃ W, w2.alloc (.cells #[.int .u8 80, .int .u8 75, .int .u8 5, .int .u8 6] 5) = W := ⟨_, rfl⟩
      obtain ⟨v3, w3, happ3, o3, g3⟩ := app_lit (m := [80, 75, 5, 6]) (n := 4) rfl rfl (unhide HO2) (unhide HB2).size (by have := unhide HL2; omega) hW3
      obtain ⟨X3, hX3⟩ : ∃ x, X2 ++ [80, 75, 5, 6] = x := ⟨_, rfl⟩
      rw [hX3] at o3
      have HL3 : Hid (X3.length ≤ 1300000004) := hide (by rw [← hX3, List.length_append, show ([80, 75, 5, 6] : Bs).length = 4 from rfl]; have := unhide HL2; omega)
      have HX3 := hide hX3
      have HB3 := hide ((unhide HB2).trans (g3.low (unhide HB2).size (fun q hq => OwnB.base (unhide HO2) q hq)))
      have HO3 := hide o3
      have HW3 := hide hW3
      clear hW3 o3 g3 hX3
      go_wp2_with (at_builtin; first
        | (refine Lib.wpList_append_run _ rfl (.tmp 100) (.tmp 101) 23 23 rfl v1 (.slice ea el ec) rfl rfl v2 w2 happ2 ?_)
        | (rw [unhide HW3]; refine Lib.wpList_append_run _ rfl (.tmp 103) (.tmp 104) 23 23 rfl v2 _ rfl rfl v3 w3 happ3 ?_))
      clear happ2 happ3
      obtain ⟨W4, hW4⟩ : ∃ W, w3.alloc (.cells #[.int .i64 0, .int .i64 0, .int .i64 (i : Int), .int .i64 (i : Int)] 3) = W := ⟨_, rfl⟩
      have b4 : Below w3.heap.size w3 W4 := by rw [← hW4]; exact lowB (Below.refl _ _) _
      have k4 : Blk W4 w3.heap.size #[.int .i64 0, .int .i64 0, .int .i64 (i : Int), .int .i64 (i : Int)] 3 := by rw [← hW4]; exact Blk.new _ _ _
      have HT4 := hide (OwnB.low (unhide HO3) b4)
      have HU4 := hide (low_trans (unhide HB3) b4)
      have KP := hide (puts_any (N := w3.heap.size) (q := 4) (kc := 4) (ns := [0, 0, i, i]) (unhide HT4) (unhide HU4).size rfl (numsI_at k4 rfl) (k4.type (by decide)) (fun x hx => by simp at hx; omega) (by decide) (by have := unhide HL3; omega))
      have HW4 := hide hW4
      clear hW4 b4 k4
      go_wp2_with (go_at_call 147; fail)
      rw [unhide HW4]
      refine (unhide KP).mono ?_
      rintro e w4 ⟨v4, rfl, o4, g4⟩
      obtain ⟨X4, hX4⟩ : ∃ x, X3 ++ leAll 2 [0, 0, i, i] = x := ⟨_, rfl⟩
      rw [hX4] at o4
      have HL4 : Hid (X4.length ≤ 1300000012) := hide (by rw [← hX4, List.length_append, leAll_len, show ([0, 0, i, i] : List Nat).length = 4 from rfl]; have := unhide HL3; omega)
      have HX4 := hide hX4
      have HB4 := hide ((unhide HU4).trans (g4.low (unhide HU4).size (fun q hq => OwnB.base (unhide HT4) q hq)))
      have HO4 := hide o4
      clear o4 g4 hX4 KP
      have KP := hide (put_any (x := el) (sz := 4) (unhide HO4) (unhide HB4).size (by omega) (by decide) (by have := unhide HL4; omega))
      go_wp2_with (go_at_call 148; fail)
      refine (unhide KP).mono ?_
      rintro e w5 ⟨v5, rfl, o5, g5⟩
      obtain ⟨X5, hX5⟩ : ∃ x, X4 ++ leN 4 el = x := ⟨_, rfl⟩
      rw [hX5] at o5
      have HL5 : Hid (X5.length ≤ 1300000016) := hide (by rw [← hX5, List.length_append, leN_len]; have := unhide HL4; omega)
      have HX5 := hide hX5
      have HB5 := hide ((unhide HB4).trans (g5.low (unhide HB4).size (fun q hq => OwnB.base (unhide HO4) q hq)))
      have HO5 := hide o5
      clear o5 g5 hX5 KP
      have KP := hide (put_any (x := hl) (sz := 4) (unhide HO5) (unhide HB5).size (by omega) (by decide) (by have := unhide HL5; omega))
      go_wp2_with (go_at_call 148; fail)
      refine (unhide KP).mono ?_
      rintro e w6 ⟨v6, rfl, o6, g6⟩
      obtain ⟨X6, hX6⟩ : ∃ x, X5 ++ leN 4 hl = x := ⟨_, rfl⟩
      rw [hX6] at o6
      have HL6 : Hid (X6.length ≤ 1300000020) := hide (by rw [← hX6, List.length_append, leN_len]; have := unhide HL5; omega)
      have HX6 := hide hX6
      have HB6 := hide ((unhide HB5).trans (g6.low (unhide HB5).size (fun q hq => OwnB.base (unhide HO5) q hq)))
      have HO6 := hide o6
      clear o6 g6 hX6 KP
      obtain ⟨W7, hW7⟩ : ∃ W, w6.alloc (.cells #[.int .i64 0] 3) = W := ⟨_, rfl⟩
      have b7 : Below w6.heap.size w6 W7 := by rw [← hW7]; exact lowB (Below.refl _ _) _
      have k7 : Blk W7 w6.heap.size #[.int .i64 0] 3 := by rw [← hW7]; exact Blk.new _ _ _
      have HT7 := hide (OwnB.low (unhide HO6) b7)
      have HU7 := hide (low_trans (unhide HB6) b7)
      have KP := hide (puts_any (N := w6.heap.size) (q := 1) (kc := 1) (ns := [0]) (unhide HT7) (unhide HU7).size rfl (numsI_at k7 rfl) (k7.type (by decide)) (fun x hx => by simp at hx; omega) (by decide) (by have := unhide HL6; omega))
      have HW7 := hide hW7
      clear hW7 b7 k7
      go_wp2_with (go_at_call 147; fail)
      rw [unhide HW7]
      refine (unhide KP).mono ?_
      rintro e w7 ⟨v7, rfl, o7, g7⟩
      obtain ⟨X7, hX7⟩ : ∃ x, X6 ++ leAll 2 [0] = x := ⟨_, rfl⟩
      rw [hX7] at o7
      have HL7 : Hid (X7.length ≤ 1300000022) := hide (by rw [← hX7, List.length_append, leAll_len, show ([0] : List Nat).length = 1 from rfl]; have := unhide HL6; omega)
      have HX7 := hide hX7
      have HB7 := hide ((unhide HU7).trans (g7.low (unhide HU7).size (fun q hq => OwnB.base (unhide HT7) q hq)))
      have HO7 := hide o7
      clear o7 g7 hX7 KP
      have HFIN : Hid (X7 = arcL L) := hide (by
        unfold arcL
        rw [unhide HLL, unhide HH, unhide HE, unhide HHL, unhide HEL, unhide HX2, ← end_is]
        rw [unhide HX3, unhide HX4, unhide HX5, unhide HX6, unhide HX7])
      go_wp2
      go_ret
      exact ⟨_, rfl, by rw [← unhide HFIN]; exact unhide HO7, unhide HB7⟩
end Go.Proofs.YtkablmjkffdloaaGreatDoor

namespace Go.Proofs.YtkablmjkffdloaaGreatDoor
open Go.RowKit

set_option maxRecDepth 100000 in
set_option maxHeartbeats 8000000 in
theorem refPack_any {w : World} {a : Option Addr} {n c : Nat} {xs : List Fl} {dat : Fl → Bs} (hx : xs.length = n) (hN : n ≤ 1000) (h : FAt w a xs) (hd : DatG w xs dat) :
    Calls Tryz.prog 39 #[.slice a n c] w fun e w' => ((100 < n ∧ e = .returned (.tuple #[.slice none 0 0, .int .i64 14])) ∨ (n ≤ 100 ∧ PackS w.heap.size dat xs e w')) ∧ Below w.heap.size w w' := by
  have HX := hide hx
  have HA := hide h
  have HD := hide hd
  by_cases h100 : 100 < n
  · have h100' : (100 : Int) < (n : Int) := by omega
    clear hx h hd
    go_enter Tryz.func39, Tryz.ntmps39
    go_wp2
    go_ret2
    exact ⟨Or.inl ⟨h100, rfl⟩, Below.refl _ _⟩
  have h100' : ¬ (100 : Int) < (n : Int) := by omega
  have hn : n ≤ 100 := by omega
  have KN := hide (refNames_any (c := c) hx (by omega) (fun x hx => by have := hd.nm x hx; omega) h)
  obtain ⟨N, hNN⟩ : ∃ N, nmE [] (xs.map Fl.nm) = N := ⟨_, rfl⟩
  rw [hNN] at KN
  have HNN := hide hNN
  clear hx h hd hNN
  go_enter Tryz.func39, Tryz.ntmps39
  go_wp2_with (go_at_call 93; fail)
  refine (unhide KN).mono ?_
  rintro e w2 ⟨rfl, b2⟩
  have HB2 := hide b2
  clear b2 KN
  by_cases hNz : N = 0
  case neg =>
    have z1 : (N != 0) = true := by simpa using hNz
    have HF : Hid (nmE [] (xs.map Fl.nm) ≠ 0 ∧ nmE [] (xs.map Fl.nm) = N) := hide ⟨by rw [unhide HNN]; exact hNz, unhide HNN⟩
    go_wp2
    go_ret2
    exact ⟨Or.inr ⟨hn, Or.inl ⟨(unhide HF).1, by rw [(unhide HF).2]; rfl⟩⟩, unhide HB2⟩
  subst hNz
  have KB := hide (refByName_any (w := w2) (c := c) (unhide HX) (by omega) ((unhide HA).low (unhide HB2)))
  go_wp2_with (go_at_call 22; fail)
  refine (unhide KB).mono ?_
  rintro e w3 ⟨v3, ys, rfl, hr3, hp3, hi3, b3⟩
  have HB3 := hide (low_trans (unhide HB2) b3)
  obtain ⟨a3, c3, rfl, hat3, -⟩ := FRow.at hr3
  have hyn : ys.length = n := by rw [hp3.length_eq]; exact unhide HX
  rw [hyn]
  have HAT3 := hide hat3
  have HYN := hide hyn
  have HDY := hide (((unhide HD).low (unhide HB3)).perm hp3)
  have HP3 := hide (And.intro hp3 hi3)
  clear hr3 hp3 hi3 b3 hat3 hyn KB
  obtain ⟨LL, hLL⟩ : ∃ LL, ys.map (ndF dat) = LL := ⟨_, rfl⟩
  have hLn : LL.length = n := by rw [← hLL, List.length_map]; exact unhide HYN
  have HLL := hide hLL
  have HLN := hide hLn
  have HSB : Hid (sizesL LL ≤ 1300000000) := hide (by rw [← hLL]; exact sizes_bound (unhide HYN) (by omega) (unhide HDY))
  clear hLL hLn
  go_wp2
  go_loopw [6, 7] (fun v6 v7 wr => ∃ i t : Nat, i ≤ n ∧ v7 = .int .i64 (i : Int) ∧ v6 = .int .i64 (t : Int) ∧ Hid (t = 22 + sizesL (LL.take i)) ∧ Hid (Below w3.heap.size w3 wr)) (fun _ v7 _ => n - (intOf v7).toNat)
  case atStart => exact ⟨0, 22, Nat.zero_le _, rfl, rfl, hide (by simp [sizesL]), hide (Below.refl _ _)⟩
  case round =>
    rename World => wr
    obtain ⟨i, t, hi, rfl, rfl, ht, hbw⟩ := hrel
    have htb : t ≤ 1400000000 := by
      have h1 := unhide ht
      have h2 := sizes_take LL i
      have h3 := unhide HSB
      omega
    by_cases hlt : i < n
    · have hlt' : (i : Int) < (n : Int) := by omega
      have hiy : i < ys.length := by rw [unhide HYN]; exact hlt
      have hiL : i < LL.length := by rw [unhide HLN]; exact hlt
      have hLi : LL[i] = (ys[i].nm, dat ys[i]) := by
        have h1 : LL[i]? = some (ndF dat ys[i]) := by rw [← unhide HLL]; simp [hiy]
        rw [List.getElem?_eq_getElem hiL] at h1
        exact Option.some.inj h1
      have hcells : ∀ wx, Below w3.heap.size w3 wx → ∃ B O, a3 = some ⟨B, O, none⟩ ∧ wx.cell? ⟨B, O + i * 2, none⟩ = some (.string (ba ys[i].nm)) ∧ wx.cell? ⟨B, O + i * 2 + 1, none⟩ = some (.slice ys[i].a ys[i].n ys[i].c) := fun wx hb => ((unhide HAT3).low hb).get hiy
      obtain ⟨B, O, rfl, c0, c1⟩ := hcells wr (unhide hbw)
      have s0 : wr.drew.cell? ⟨B, O + i * 2, none⟩ = some (.string (ba ys[i].nm)) ∧ wr.drew.cell? ⟨B, O + i * 2 + 1, none⟩ = some (.slice ys[i].a ys[i].n ys[i].c) := by
        obtain ⟨B', O', e, z0, z1⟩ := hcells wr.drew (unhide hbw).drew
        cases e
        exact ⟨z0, z1⟩
      have hmem := List.getElem_mem hiy
      have x1 := (unhide HDY).len _ hmem
      have x2 := (unhide HDY).few _ hmem
      have x7 := (unhide HDY).nm _ hmem
      have htk : sizesL (LL.take (i + 1)) = sizesL (LL.take i) + (76 + 2 * ys[i].nm.length + ys[i].n) := by
        rw [take_sn hiL, sizes_app, hLi, ← x1]
        rfl
      obtain ⟨x, hxx⟩ : ∃ x, ys[i] = x := ⟨_, rfl⟩
      rw [hxx] at c0 c1 s0 x2 x7 htk
      obtain ⟨nm, xa, xn, xc⟩ := x
      simp only at c0 c1 s0 x2 x7 htk
      obtain ⟨k, hk⟩ : ∃ k, nm.length = k := ⟨_, rfl⟩
      have hsk : (ba nm).size = k := by rw [ba_size]; exact hk
      rw [hk] at x7 htk
      obtain ⟨t1, ht1⟩ : ∃ x, t + 76 = x := ⟨_, rfl⟩
      obtain ⟨t2, ht2⟩ : ∃ x, 2 * k = x := ⟨_, rfl⟩
      obtain ⟨t3, ht3⟩ : ∃ x, t1 + t2 = x := ⟨_, rfl⟩
      obtain ⟨t4, ht4⟩ : ∃ x, t3 + xn = x := ⟨_, rfl⟩
      have e1 : (t : Int) + 76 = (t1 : Int) := by omega
      have e2 : 2 * (k : Int) = (t2 : Int) := by omega
      have e3 : (t1 : Int) + (t2 : Int) = (t3 : Int) := by omega
      have e4 : (t3 : Int) + (xn : Int) = (t4 : Int) := by omega
      have w1 : IntKind.i64.wrap ((t : Int) + 76) = (t1 : Int) := by rw [e1]; simp [IntKind.wrap, IntKind.bits, IntKind.signed]; omega
      have w2' : IntKind.i64.wrap (2 * (k : Int)) = (t2 : Int) := by rw [e2]; simp [IntKind.wrap, IntKind.bits, IntKind.signed]; omega
      have w3' : IntKind.i64.wrap ((t1 : Int) + (t2 : Int)) = (t3 : Int) := by rw [e3]; simp [IntKind.wrap, IntKind.bits, IntKind.signed]; omega
      have w4' : IntKind.i64.wrap ((t3 : Int) + (xn : Int)) = (t4 : Int) := by rw [e4]; simp [IntKind.wrap, IntKind.bits, IntKind.signed]; omega
      have q1 : IntKind.i64.wrap (t1 : Int) = (t1 : Int) := by simp [IntKind.wrap, IntKind.bits, IntKind.signed]; omega
      have q2 : IntKind.i64.wrap (t2 : Int) = (t2 : Int) := by simp [IntKind.wrap, IntKind.bits, IntKind.signed]; omega
      have q3 : IntKind.i64.wrap (t3 : Int) = (t3 : Int) := by simp [IntKind.wrap, IntKind.bits, IntKind.signed]; omega
      have q4 : IntKind.i64.wrap (t4 : Int) = (t4 : Int) := by simp [IntKind.wrap, IntKind.bits, IntKind.signed]; omega
      have hxn : ¬ (1048576 : Int) < (xn : Int) := by omega
      have HT4 : Hid (t4 = 22 + sizesL (LL.take (i + 1))) := hide (by have := unhide ht; omega)
      have hS : wr.cell? ⟨B, O + i * 2, none⟩ = some (.string (ba nm)) ∧ wr.cell? ⟨B, O + i * 2 + 1, none⟩ = some (.slice xa xn xc) := ⟨c0, c1⟩
      have HBD := hide (unhide hbw).drew
      clear hcells hmem x1 hxx hLi hiL htk ht1 ht2 ht3 ht4 ht hk
      go_wp2
      go_region_held3 (fun wx => wx.cell? ⟨B, O + i * 2, none⟩ = some (.string (ba nm)) ∧ wx.cell? ⟨B, O + i * 2 + 1, none⟩ = some (.slice xa xn xc))
        (first | assumption | exact hS | exact s0)
        (fail)
      go_wp2
      go_roundw
      case rel => exact ⟨i + 1, t4, hlt, by push_cast; rfl, rfl, HT4, HBD⟩
      case measure => simp [intOf]; omega
    · have hie : i = n := by omega
      subst hie
      have hTT : t = 22 + sizesL LL := by
        rw [unhide ht, List.take_of_length_le (by rw [unhide HLN]; exact Nat.le_refl _)]
      have hsz : sizesL (xs.map (ndF dat)) = sizesL LL := by rw [← unhide HLL]; exact (sizes_perm ((unhide HP3).1.map _)).symm
      by_cases hbig : 1048576 < t
      · have hbig' : (1048576 : Int) < (t : Int) := by omega
        have HF : Hid (PackS w.heap.size dat xs (.returned (.tuple #[.slice none 0 0, .int .i64 13])) wr) := hide (Or.inr (Or.inl ⟨unhide HNN, by rw [hsz]; omega, rfl⟩))
        have HZ := hide (low_trans (unhide HB3) (unhide hbw))
        clear hTT hsz ht hbw
        go_wp2
        go_ret2
        exact ⟨Or.inr ⟨hn, unhide HF⟩, unhide HZ⟩
      · have hbig' : ¬ (1048576 : Int) < (t : Int) := by omega
        have HF : Hid (22 + sizesL (xs.map (ndF dat)) ≤ 1048576) := hide (by rw [hsz]; omega)
        have KA := hide (refArc_any (w := wr) (c := c3) (dat := dat) (unhide HYN) (by omega) ((unhide HAT3).low (unhide hbw)) ((unhide HDY).low (unhide hbw)) (by rw [unhide HLL]; omega))
        have HZ := hide (low_trans (unhide HB3) (unhide hbw))
        clear hTT hsz ht hbw
        go_wp2_with (go_at_call 94; fail)
        refine (unhide KA).mono ?_
        rintro e w5 ⟨v5, rfl, ho5, b5⟩
        have HO5 := hide (ownB_mono ho5 (unhide HZ).size)
        have HZ5 := hide (low_trans (unhide HZ) b5)
        clear ho5 b5 KA
        go_wp2
        go_ret2
        exact ⟨Or.inr ⟨hn, Or.inr (Or.inr ⟨unhide HNN, unhide HF, v5, ys, rfl, (unhide HP3).1, (unhide HP3).2, unhide HO5⟩)⟩, unhide HZ5⟩
end Go.Proofs.YtkablmjkffdloaaGreatDoor
