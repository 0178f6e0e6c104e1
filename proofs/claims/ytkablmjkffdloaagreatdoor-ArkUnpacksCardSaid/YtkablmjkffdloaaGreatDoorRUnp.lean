/-
  The reference's reading of an archive: any bytes.
-/
import Derived.Test.YtkablmjkffdloaaGreatDoorRUnA
import Derived.Test.YtkablmjkffdloaaGreatDoorRArc
import Derived.Test.YtkablmjkffdloaaGreatDoorRNmX
import Derived.Test.YtkablmjkffdloaaGreatDoorByX
import Derived.Test.YtkablmjkffdloaaGreatDoorSameB
import Derived.Deep.RegionHeld3
namespace Go.Proofs.YtkablmjkffdloaaGreatDoor
open Go.RowKit

/-- What the reference answers to bytes as an archive. -/
def UnpQ (b : Bs) (e : Ending) (w' : World) : Prop := ∃ E, UnpS b E ∧ ((E ≠ 0 ∧ e = .returned (.tuple #[.slice none 0 0, .int .i64 E])) ∨ (E = 0 ∧ ∃ a c L, headsR b = some L ∧ e = .returned (.tuple #[.slice a L.length c, .int .i64 0]) ∧ FdAt w' a (L.map sfN)))

set_option maxRecDepth 100000 in
set_option maxHeartbeats 16000000 in
theorem refUnpack_any {w : World} {a : Option Addr} {n c : Nat} {b : Bs} (hn : b.length = n) (hN : n ≤ 20000) (hc : n ≤ c) (hcm : c ≤ 9223372036854775807) (hf : a = none ∨ ∃ B O, a = some ⟨B, O, none⟩) (h : BAt w a b) :
    Calls Tryz.prog 50 #[.slice a n c] w fun e w' => UnpQ b e w' ∧ Below w.heap.size w w' := by
  have HN := hide hn
  have HA := hide h
  have HF := hide hf
  clear hn h hf
  go_enter Tryz.func50, Tryz.ntmps50
  go_wp2
  go_loopw [4, 5, 6, 7, 8] (fun v4 v5 v6 _ _ wr => ∃ (m : Nat) (xs : List Fl) (L : List Sf), m ≤ n ∧ v6 = .int .i64 (m : Int) ∧ 30 * L.length ≤ m ∧ Hid (sizesL (L.map sfN) ≤ 3 * m) ∧ Hid (headsR b = (headsR (b.drop m)).map fun q => L ++ q) ∧ Hid (RU w wr v4 v5 xs L (L.map Sf.crc))) (fun _ _ v6 _ _ _ => n - (intOf v6).toNat)
  case atStart => exact ⟨0, [], [], Nat.zero_le _, rfl, Nat.le_refl _, hide (by simp [sizesL]), hide (by rw [List.drop_zero]; cases headsR b <;> simp), hide ⟨World.ownsRow_nil _ _ _ _, World.ownsRow_nil _ _ _ _, rfl, (fun k h => by simp at h), (fun g hg => by cases hg), Below.refl _ _⟩⟩
  case round =>
    rename World => wr
    obtain ⟨m, xs, L, hm, rfl, h30m, hsz, hhd, hru⟩ := hrel
    have HA0 := HA
    have hml : (m : Int) ≤ (n : Int) := by omega
    by_cases h4 : m + 4 ≤ n
    · have h4' : (m : Int) + 4 ≤ (n : Int) := by omega
      have g4 : m + 4 ≤ b.length := by rw [unhide HN]; exact h4
      obtain ⟨B, O, ha, -⟩ := (unhide HA).at (by omega : m < b.length)
      subst ha
      have hcell : ∀ (wx : World) (j : Nat) (hj : j < b.length), Below w.heap.size w wx → wx.cell? ⟨B, O + j, none⟩ = some (.int .u8 (b[j].toNat : Int)) := fun wx j hj hb => by
        obtain ⟨B', O', e, z⟩ := ((unhide HA).low hb).at hj
        cases e
        exact z
      obtain ⟨m1, hm1⟩ : ∃ x, m + 1 = x := ⟨_, rfl⟩
      obtain ⟨m2, hm2⟩ : ∃ x, m + 2 = x := ⟨_, rfl⟩
      obtain ⟨m3, hm3⟩ : ∃ x, m + 3 = x := ⟨_, rfl⟩
      have e1 : (m : Int) + 1 = (m1 : Int) := by omega
      have e2 : (m : Int) + 2 = (m2 : Int) := by omega
      have e3 : (m : Int) + 3 = (m3 : Int) := by omega
      have l0 : (m : Int) < (n : Int) := by omega
      have l1 : (m1 : Int) < (n : Int) := by omega
      have l2 : (m2 : Int) < (n : Int) := by omega
      have l3 : (m3 : Int) < (n : Int) := by omega
      have hmk := mark_is g4
      simp only [hm1, hm2, hm3] at hmk
      have k0 := hcell wr m (by omega) (unhide hru).low
      have k1 := hcell wr m1 (by omega) (unhide hru).low
      have k2 := hcell wr m2 (by omega) (unhide hru).low
      have k3 := hcell wr m3 (by omega) (unhide hru).low
      obtain ⟨c0, hc0⟩ : ∃ x, b[m]'(by omega) = x := ⟨_, rfl⟩
      obtain ⟨c1, hc1⟩ : ∃ x, b[m1]'(by omega) = x := ⟨_, rfl⟩
      obtain ⟨c2, hc2⟩ : ∃ x, b[m2]'(by omega) = x := ⟨_, rfl⟩
      obtain ⟨c3, hc3⟩ : ∃ x, b[m3]'(by omega) = x := ⟨_, rfl⟩
      rw [hc0, hc1, hc2, hc3] at hmk
      rw [hc0] at k0
      rw [hc1] at k1
      rw [hc2] at k2
      rw [hc3] at k3
      have HMK := hide hmk
      clear hmk hc0 hc1 hc2 hc3 hcell g4
      by_cases d0 : c0 = 80
      · have u0 : ((c0.toNat : Int) == 80) = true := by rw [d0]; rfl
        by_cases d1 : c1 = 75
        · have u1 : ((c1.toNat : Int) == 75) = true := by rw [d1]; rfl
          by_cases d2 : c2 = 3
          · have u2 : ((c2.toNat : Int) == 3) = true := by rw [d2]; rfl
            by_cases d3 : c3 = 4
            · have u3 : ((c3.toNat : Int) == 4) = true := by rw [d3]; rfl
              have HYES : Hid ((b.drop m).take 4 = [80, 75, 3, 4]) := hide (by rw [unhide HMK, d0, d1, d2, d3])
              subst d0
              subst d1
              subst d2
              subst d3
              clear HMK hm1 hm2 hm3
              obtain ⟨r, hr⟩ : ∃ r, b.drop m = r := ⟨_, rfl⟩
              have hrl : r.length = n - m := by rw [← hr, List.length_drop, unhide HN]
              rw [hr] at HYES hhd
              obtain ⟨n1, hn1⟩ : ∃ x, n - m = x := ⟨_, rfl⟩
              rw [hn1] at hrl
              have eN : (n : Int) - (m : Int) = (n1 : Int) := by omega
              by_cases h30 : n1 < 30
              · have h30' : (n1 : Int) < 30 := by omega
                have HZ : Hid (UnpS b 17) := hide (Or.inr (Or.inl ⟨by rw [unhide HN]; omega, by rw [unhide hhd, headsR_cut (unhide HYES) (by rw [hrl]; exact h30)]; rfl, rfl⟩))
                have HLOW := hide (unhide hru).low
                clear hhd hru HYES hr
                go_wp2
                go_ret2
                exact ⟨⟨17, unhide HZ, Or.inl ⟨by decide, rfl⟩⟩, unhide HLOW⟩
              have h30' : ¬ (n1 : Int) < 30 := by omega
              obtain ⟨CR, hCR⟩ : ∃ x, crN r = x := ⟨_, rfl⟩
              obtain ⟨DA, hDA⟩ : ∃ x, daN r = x := ⟨_, rfl⟩
              obtain ⟨NM, hNM⟩ : ∃ x, nmN r = x := ⟨_, rfl⟩
              have dd : ∀ k, r.drop k = b.drop (m + k) := fun k => by rw [← hr, List.drop_drop]
              have bCR : CR < 4294967296 := by
                rw [← hCR]
                have := getN_lt ((r.drop 14).take 4)
                rw [List.length_take, List.length_drop, Nat.min_eq_left (by omega)] at this
                exact this
              have bDA : DA < 4294967296 := by
                rw [← hDA]
                have := getN_lt ((r.drop 18).take 4)
                rw [List.length_take, List.length_drop, Nat.min_eq_left (by omega)] at this
                exact this
              have bNM : NM < 65536 := by
                rw [← hNM]
                have := getN_lt ((r.drop 26).take 2)
                rw [List.length_take, List.length_drop, Nat.min_eq_left (by omega)] at this
                exact this
              obtain ⟨p14, hp14⟩ : ∃ x, m + 14 = x := ⟨_, rfl⟩
              obtain ⟨p18, hp18⟩ : ∃ x, m + 18 = x := ⟨_, rfl⟩
              obtain ⟨p26, hp26⟩ : ∃ x, m + 26 = x := ⟨_, rfl⟩
              have e14 : (m : Int) + 14 = (p14 : Int) := by omega
              have e18 : (m : Int) + 18 = (p18 : Int) := by omega
              have e26 : (m : Int) + 26 = (p26 : Int) := by omega
              have K18 : Hid (∀ W, Below w.heap.size w W → Calls Tryz.prog 101 #[.slice (some ⟨B, O, none⟩) n c, .int .i64 (p18 : Int), .int .i64 4] W fun e w' => e = .returned (.int .i64 (DA : Int)) ∧ w' = W) := hide (fun W hW => by
                have kk := get_any2 (c := c) (at0 := p18) (sz := 4) (unhide HN) (by omega) (by omega) (by omega) ((unhide HA0).low hW)
                have e : getN ((b.drop p18).take 4) = DA := by rw [← hDA, ← hp18, ← dd]; rfl
                rw [e] at kk
                exact kk)
              have K26 : Hid (∀ W, Below w.heap.size w W → Calls Tryz.prog 101 #[.slice (some ⟨B, O, none⟩) n c, .int .i64 (p26 : Int), .int .i64 2] W fun e w' => e = .returned (.int .i64 (NM : Int)) ∧ w' = W) := hide (fun W hW => by
                have kk := get_any2 (c := c) (at0 := p26) (sz := 2) (unhide HN) (by omega) (by omega) (by omega) ((unhide HA0).low hW)
                have e : getN ((b.drop p26).take 2) = NM := by rw [← hNM, ← hp26, ← dd]; rfl
                rw [e] at kk
                exact kk)
              have K14 : Hid (∀ W, Below w.heap.size w W → Calls Tryz.prog 101 #[.slice (some ⟨B, O, none⟩) n c, .int .i64 (p14 : Int), .int .i64 4] W fun e w' => e = .returned (.int .i64 (CR : Int)) ∧ w' = W) := hide (fun W hW => by
                have kk := get_any2 (c := c) (at0 := p14) (sz := 4) (unhide HN) (by omega) (by omega) (by omega) ((unhide HA0).low hW)
                have e : getN ((b.drop p14).take 4) = CR := by rw [← hCR, ← hp14, ← dd]; rfl
                rw [e] at kk
                exact kk)
              have HLOW := hide (unhide hru).low
              obtain ⟨n2, hn2⟩ : ∃ x, n1 - 30 = x := ⟨_, rfl⟩
              have eN2 : (n1 : Int) - 30 = (n2 : Int) := by omega
              obtain ⟨S, hS⟩ : ∃ S, NM + DA = S := ⟨_, rfl⟩
              have eS : (DA : Int) + (NM : Int) = (S : Int) := by omega
              have HNX : Hid (n2 < S → headsR r = none) := hide (fun hlt => headsR_short (unhide HYES) (by omega) (by rw [hrl, hNM, hDA]; omega))
              have HNY : Hid (¬ n2 < S → headsR r = (headsR (restOf r)).map fun l => sfOf r :: l) := hide (fun hlt => headsR_next (unhide HYES) (by omega) (by rw [hrl, hNM, hDA]; omega))
              have HEQ := hide (And.intro hCR (And.intro hDA hNM))
              have HDD := hide dd
              have K18w := hide (unhide K18 _ (unhide HLOW))
              have K26w := hide (unhide K26 _ (unhide HLOW))
              clear hCR hDA hNM dd hr hp18 hp26 hp14 K18 K26 HYES
              go_wp2_with (go_at_call 101; fail)
              refine (unhide K18w).mono ?_
              rintro e wn ⟨rfl, hwn⟩
              rw [hwn]
              clear hwn wn
              go_wp2_with (go_at_call 101; fail)
              refine (unhide K26w).mono ?_
              rintro e wn ⟨rfl, hwn⟩
              rw [hwn]
              clear hwn wn
              clear K18w K26w k0 k1 k2 k3 u0 u1 u2 u3
              by_cases hs : n2 < S
              · have hs' : (n2 : Int) < (S : Int) := by omega
                have HZ : Hid (UnpS b 17) := hide (Or.inr (Or.inl ⟨by rw [unhide HN]; omega, by rw [unhide hhd, unhide HNX hs]; rfl, rfl⟩))
                clear hhd hru HNX HNY
                go_wp2
                go_ret2
                exact ⟨⟨17, unhide HZ, Or.inl ⟨by decide, rfl⟩⟩, unhide HLOW⟩
              have hs' : ¬ (n2 : Int) < (S : Int) := by omega
              obtain ⟨p, hp⟩ : ∃ x, m + 30 = x := ⟨_, rfl⟩
              obtain ⟨q, hq⟩ : ∃ x, p + NM = x := ⟨_, rfl⟩
              obtain ⟨t, ht⟩ : ∃ x, q + DA = x := ⟨_, rfl⟩
              have ep : (m : Int) + 30 = (p : Int) := by omega
              have eq : (p : Int) + (NM : Int) = (q : Int) := by omega
              have et : (q : Int) + (DA : Int) = (t : Int) := by omega
              have htn : t ≤ n := by omega
              have wp1 : IntKind.i64.wrap ((m : Int) + 30) = (p : Int) := by rw [ep]; simp [IntKind.wrap, IntKind.bits, IntKind.signed]; omega
              have wp2 : IntKind.i64.wrap ((p : Int) + (NM : Int)) = (q : Int) := by rw [eq]; simp [IntKind.wrap, IntKind.bits, IntKind.signed]; omega
              have wq1 : IntKind.i64.wrap (p : Int) = (p : Int) := by simp [IntKind.wrap, IntKind.bits, IntKind.signed]; omega
              have wq2 : IntKind.i64.wrap (q : Int) = (q : Int) := by simp [IntKind.wrap, IntKind.bits, IntKind.signed]; omega
              have wq3 : IntKind.i64.wrap (t : Int) = (t : Int) := by simp [IntKind.wrap, IntKind.bits, IntKind.signed]; omega
              have wp3 : IntKind.i64.wrap ((q : Int) + (DA : Int)) = (t : Int) := by rw [et]; simp [IntKind.wrap, IntKind.bits, IntKind.signed]; omega
              obtain ⟨a1, ha1⟩ : ∃ x, cutA (some ⟨B, O, none⟩) c p = x := ⟨_, rfl⟩
              obtain ⟨a2, ha2⟩ : ∃ x, cutA (some ⟨B, O, none⟩) c q = x := ⟨_, rfl⟩
              obtain ⟨c1, hc1⟩ : ∃ x, c - p = x := ⟨_, rfl⟩
              obtain ⟨c2, hc2⟩ : ∃ x, c - q = x := ⟨_, rfl⟩
              have s1 : ∀ W, (Instr.slice 23 (.slice (some ⟨B, O, none⟩) n c) (some (.int .i64 (p : Int))) (some (.int .i64 (q : Int))) none).run Tryz.prog W = .ok (.slice a1 NM c1) W := fun W => by
                rw [← ha1, ← hc1, show NM = q - p by omega]; exact slice_in (l := p) (m := q) (by omega) (by omega) W
              have s2 : ∀ W, (Instr.slice 23 (.slice (some ⟨B, O, none⟩) n c) (some (.int .i64 (q : Int))) (some (.int .i64 (t : Int))) none).run Tryz.prog W = .ok (.slice a2 DA c2) W := fun W => by
                rw [← ha2, ← hc2, show DA = t - q by omega]; exact slice_in (l := q) (m := t) (by omega) (by omega) W
              obtain ⟨nm, hnm⟩ : ∃ x, (b.drop p).take NM = x := ⟨_, rfl⟩
              obtain ⟨d, hd⟩ : ∃ x, (b.drop q).take DA = x := ⟨_, rfl⟩
              have hnml : nm.length = NM := by rw [← hnm, List.length_take, List.length_drop, unhide HN]; omega
              have hdl : d.length = DA := by rw [← hd, List.length_take, List.length_drop, unhide HN]; omega
              have h1a : BAt w a1 nm := by rw [← ha1, ← hnm]; exact (cut_at (unhide HN) hc (unhide HA0)).take2 NM
              have h2a : BAt w a2 d := by rw [← ha2, ← hd]; exact (cut_at (unhide HN) hc (unhide HA0)).take2 DA
              have h1f : a1 = none ∨ ∃ B O, a1 = some ⟨B, O, none⟩ := by rw [← ha1]; exact cut_form (unhide HF)
              have hlow2 : ∀ W, Below wr.heap.size wr W → Below w.heap.size w W := fun W hW => low_trans (unhide HLOW) hW
              have cv3 : ∀ W, Below w.heap.size w W → (convert 23 9 (.slice a1 NM c1)).run Tryz.prog W = .ok (.string (ba nm)) W := fun W hW => conv_bytes hnml h1f (h1a.low hW)
              have HSF : Hid (sfOf r = ⟨nm, d, CR⟩ ∧ restOf r = b.drop t) := hide (by
                obtain ⟨q1, q2, q3⟩ := unhide HEQ
                have d1 := unhide HDD 30
                rw [hp] at d1
                have d2 : (b.drop p).drop NM = b.drop q := by rw [List.drop_drop, hq]
                have d3 : (b.drop q).drop DA = b.drop t := by rw [List.drop_drop, ht]
                unfold sfOf restOf
                rw [q1, q2, q3, d1, d2, d3, hnm, hd]
                exact ⟨rfl, rfl⟩)
              have HHD : Hid (headsR b = (headsR (b.drop t)).map fun q => (L ++ [⟨nm, d, CR⟩]) ++ q) := hide (by
                rw [unhide hhd, unhide HNY hs, (unhide HSF).1, (unhide HSF).2]
                cases headsR (b.drop t) <;> simp)
              have HSZ2 : Hid (sizesL ((L ++ [(⟨nm, d, CR⟩ : Sf)]).map sfN) ≤ 3 * t) := hide (by
                rw [List.map_append, sizes_app]
                have h1 := unhide hsz
                have h2 : sizesL ([(⟨nm, d, CR⟩ : Sf)].map sfN) = 76 + 2 * nm.length + d.length := rfl
                rw [h2]
                omega)
              have hxl : xs.length = L.length := (unhide hru).len
              have HC : Hid (∀ wx, Below wr.heap.size wr wx → Calls Tryz.prog 82 #[.slice a2 DA c2] wx fun e w' => ∃ a8 c8, e = .returned (.slice a8 DA c8) ∧ Hid (OwnB wr.heap.size w' (.slice a8 DA c8) d ∧ Below wr.heap.size wr w') ∧ Below w.heap.size w w') := hide (fun wx hb => by
                refine (bytes_any (c := c2) hdl (by omega) (h2a.low (hlow2 wx hb))).mono ?_
                rintro e w' ⟨v, rfl, ho, hb2⟩
                obtain ⟨a8, c8, rfl, -, -, -⟩ := OwnB.at ho
                rw [hdl] at ho ⊢
                exact ⟨a8, c8, rfl, hide ⟨OwnB.less hb.size ho, low_trans hb hb2⟩, hlow2 _ (low_trans hb hb2)⟩)
              have HAP : Hid (∀ w8 W a8 c8, Hid (OwnB wr.heap.size w8 (.slice a8 DA c8) d ∧ Below wr.heap.size wr w8) → w8.alloc (.cells #[.string (ba nm), .slice a8 DA c8] 56) = W → ∃ v' w', (Builtin.append_ #[22, 22] 22 #[u4, .slice (some ⟨w8.heap.size, 0, none⟩) 1 1]).run Tryz.prog W = .ok v' w' ∧ Hid (RU w w' v' u5 (xs ++ [⟨nm, a8, DA, c8⟩]) (L ++ [⟨nm, d, CR⟩]) (L.map Sf.crc)) ∧ Below w.heap.size w w') := hide (fun w8 W a8 c8 ho hW => by
                obtain ⟨v', w', g1, g2⟩ := (unhide hru).file (x := ⟨nm, a8, DA, c8⟩) (s := ⟨nm, d, CR⟩) (by omega) (unhide ho).2 rfl hdl (unhide ho).1 hW
                exact ⟨v', w', g1, hide g2, g2.low⟩)
              have hSq : Below wr.heap.size wr wr.drew := (Below.refl _ _).drew
              have hSr : Below w.heap.size w wr := unhide HLOW
              have hSrd : Below w.heap.size w wr.drew := low_trans hSr hSq
              have HLL := hide hxl
              have HNL := hide (And.intro hnml hdl)
              have K14w : Hid (∀ W, Below w.heap.size w W → Calls Tryz.prog 101 #[.slice (some ⟨B, O, none⟩) n c, .int .i64 (p14 : Int), .int .i64 4] W fun e w' => e = .returned (.int .i64 (CR : Int)) ∧ w' = W) := K14
              clear hhd HNX HNY HEQ HDD HSF hsz hnm hd hnml hdl h1a h2a h1f ha1 ha2 hc1 hc2 hxl hlow2 hru K14
              go_wp2
              go_region_held3 (fun wx => Below w.heap.size w wx)
                (first | assumption | exact hSr | exact hSrd | exact lowB (by assumption) _)
                (first
                  | (go_at_call 82; refine (unhide HC _ hSq).mono ?_; rintro e w8 ⟨a8, c8, rfl, hv8, hS8⟩)
                  | (revert hv8; intro hv8; obtain ⟨v9, w9, happ9, hv9, hS9⟩ := unhide HAP _ _ _ _ hv8 rfl; refine Lib.wp_append_run _ (.tmp 73) (.tmp 97) 22 22 (by rfl) u4 (.slice (some ⟨w8.heap.size, 0, none⟩) 1 1) (by kernel_rfl) (by kernel_rfl) v9 w9 happ9 ?_))
              have HR9 := hv9
              clear hv9 hv8 hS8 hS9 happ9 hSq hSr hSrd cv3 s1 s2 HC HAP
              obtain ⟨W10, hW10⟩ : ∃ W, w9.alloc (.cells #[.int .i64 (CR : Int)] 3) = W := ⟨_, rfl⟩
              obtain ⟨v10, w10, happ, hr10⟩ := (unhide HR9).sum (x := CR) (by rw [List.length_map]; omega) hW10
              have K14x := hide (unhide K14w w9 (unhide HR9).low)
              have HW10 := hide hW10
              have HR10 : Hid (RU w w10 v9 v10 (xs ++ [⟨nm, a8, DA, c8⟩]) (L ++ [⟨nm, d, CR⟩]) ((L ++ [(⟨nm, d, CR⟩ : Sf)]).map Sf.crc)) := hide (by rw [List.map_append]; exact hr10)
              clear hW10 hr10 K14w HR9
              go_wp2_with (go_at_call 101; fail)
              refine (unhide K14x).mono ?_
              rintro e wn ⟨rfl, hwn⟩
              rw [hwn]
              clear hwn wn
              go_wp2_with (at_builtin; rw [unhide HW10]; refine Lib.wpList_append_run _ rfl (.tmp 99) (.tmp 104) 140 140 rfl _ _ rfl rfl _ _ happ ?_; clear happ)
              go_roundw
              case rel => exact ⟨t, xs ++ [⟨nm, a8, DA, c8⟩], L ++ [⟨nm, d, CR⟩], htn, rfl, by rw [List.length_append]; simp; omega, HSZ2, HHD, HR10⟩
              case measure => simp [intOf]; omega
            · have u3 : ((c3.toNat : Int) == 4) = false := by
                have : c3.toNat ≠ 4 := fun e => d3 (UInt8.toNat_inj.1 e)
                simp
                omega
              have HNO : Hid (¬ (b.drop m).take 4 = [80, 75, 3, 4]) := hide (by
                rw [unhide HMK]
                intro e
                simp only [List.cons.injEq] at e
                exact d3 (by simp [e]))
              clear HMK
              have HL : Hid (headsR b = some L) := hide (by rw [unhide hhd, headsR_no (unhide HNO)]; simp)
              obtain ⟨k, hk⟩ : ∃ k, L.length = k := ⟨_, rfl⟩
              have hxk : xs.length = k := by rw [(unhide hru).len]; exact hk
              have hsl : (L.map Sf.crc).length = k := by rw [List.length_map]; exact hk
              obtain ⟨a4, c4, e4, hat4, hc4⟩ := FRow.at (unhide hru).l
              obtain ⟨a5, c5, e5, hat5⟩ := IRow.at (unhide hru).s
              rw [hxk] at e4 hc4
              rw [hsl] at e5
              subst e4
              subst e5
              have hk667 : k ≤ 667 := by omega
              have HK := hide hk
              have HXK := hide hxk
              have HAT4 := hide hat4
              have HAT5 := hide hat5
              have HLOW := hide (unhide hru).low
              have HBN : Hid (∀ s ∈ L, s.d.length ≤ 60000 ∧ s.nm.length ≤ 60000) := hide (fun s hs => by
                have q1 := sizes_mem (List.mem_map_of_mem (f := sfN) hs)
                have q2 := sizes_name (List.mem_map_of_mem (f := sfN) hs)
                have q3 := unhide hsz
                unfold sfN at q1 q2
                simp only at q1 q2
                constructor
                · have : s.d.length ≤ sizesL (L.map sfN) := q1
                  omega
                · have : s.nm.length ≤ sizesL (L.map sfN) := q2
                  omega)
              have HDG := hide ((unhide hru).datg (fun s hs => by have := (unhide HBN s hs).1; omega) (fun s hs => by have := (unhide HBN s hs).2; omega))
              have HNMS := hide (unhide hru).nm
              have HSZ : Hid (sizesL (L.map sfN) ≤ 60000) := hide (by have := unhide hsz; omega)
              clear hk hxk hsl hat4 hat5 hhd HNO hru hsz HA HF
              by_cases h100 : 100 < k
              · have h100' : (100 : Int) < (k : Int) := by omega
                have HZ : Hid (UnpS b 14) := hide (Or.inr (Or.inr ⟨L, by rw [unhide HN]; omega, unhide HL, Or.inl ⟨by rw [unhide HK]; exact h100, rfl⟩⟩))
                go_wp2
                go_ret2
                exact ⟨⟨14, unhide HZ, Or.inl ⟨by decide, rfl⟩⟩, unhide HLOW⟩
              have h100' : ¬ (100 : Int) < (k : Int) := by omega
              have HUNP : Hid (∀ E, ((chkE [] L ≠ 0 ∧ E = chkE [] L) ∨ (chkE [] L = 0 ∧ ((¬ Packs L b ∧ E = 15) ∨ (Packs L b ∧ E = 0)))) → UnpS b E) := hide (fun E hE => Or.inr (Or.inr ⟨L, by rw [unhide HN]; omega, unhide HL, Or.inr ⟨by rw [unhide HK]; omega, hE⟩⟩))
              go_wp2
              go_loopw [9, 10] (fun v9 _ wk => ∃ i : Nat, i ≤ k ∧ v9 = .int .i64 (i : Int) ∧ Hid (chkE [] (L.take i) = 0) ∧ Hid (Below wr.heap.size wr wk)) (fun v9 _ _ => k - (intOf v9).toNat)
              case atStart => exact ⟨0, Nat.zero_le _, rfl, hide rfl, hide (Below.refl _ _)⟩
              case round =>
                rename World => wk
                obtain ⟨i, hi, rfl, hch, hbk⟩ := hrel
                by_cases hlt : i < k
                · have hlt' : (i : Int) < (k : Int) := by omega
                  have hiL : i < L.length := by rw [unhide HK]; exact hlt
                  have hiX : i < xs.length := by rw [unhide HXK]; exact hlt
                  obtain ⟨i1, hi1⟩ : ∃ i1, i + 1 = i1 := ⟨_, rfl⟩
                  have e1 : (i : Int) + 1 = (i1 : Int) := by omega
                  have s22 : ∀ W, (Instr.slice 22 (.slice a4 k c4) none (some (.int .i64 (i1 : Int))) none).run Tryz.prog W = .ok (.slice a4 i1 c4) W := fun W => slice22_to (by omega) hc4 W
                  obtain ⟨N, hNN⟩ : ∃ N, nmE [] ((L.map Sf.nm).take i1) = N := ⟨_, rfl⟩
                  have KN := hide (refNames_any (w := wk) (a := a4) (n := i1) (c := c4) (xs := xs.take i1) (by rw [List.length_take, unhide HXK]; omega) (by omega) (fun x hx => by
                    have hx2 := List.mem_of_mem_take hx
                    have hx3 : x.nm ∈ xs.map Fl.nm := List.mem_map_of_mem hx2
                    rw [unhide HNMS] at hx3
                    obtain ⟨s, hs, e⟩ := List.mem_map.1 hx3
                    have := (unhide HBN s hs).2
                    rw [← e]
                    omega) (((unhide HAT4).low (unhide hbk)).take i1))
                  rw [List.map_take, unhide HNMS, hNN] at KN
                  obtain ⟨q1, q2, q3⟩ := next_name hiL (unhide hch)
                  rw [hi1, hNN] at q1
                  rw [hi1] at q2 q3
                  have HQ1 := hide q1
                  have HQ2 := hide q2
                  have HQ3 := hide q3
                  clear q1 q2 q3 hNN hch
                  go_wp2_with (go_at_call 93; fail)
                  refine (unhide KN).mono ?_
                  rintro e w2 ⟨rfl, b2⟩
                  have HB2 := hide (low_trans (unhide hbk) b2)
                  clear b2 KN hbk s22
                  by_cases hNz : N = 0
                  · subst hNz
                    obtain ⟨hu, hv⟩ : (chkE [] L = if (crcL L[i].d).toNat ≠ L[i].crc then 16 else chkE (lowL L[i].nm :: lowsR (L.take i) []) (L.drop i1)) ∧ (chkE [] (L.take i1) = if (crcL L[i].d).toNat ≠ L[i].crc then 16 else 0) := ⟨by rw [unhide HQ2]; exact one_sum (unhide HQ1).symm, by rw [unhide HQ3, one_sum (unhide HQ1).symm]; rfl⟩
                    obtain ⟨B4, O4, rfl, -, -⟩ := ((unhide HAT4).low (unhide HB2)).get hiX
                    obtain ⟨g5, rfl, -⟩ := unhide HAT5 i (by rw [List.length_map]; exact hiL)
                    have hdat : BAt wr xs[i].a L[i].d ∧ L[i].d.length = xs[i].n := by
                      have h1 := (unhide HDG).1.at_ xs[i] (List.getElem_mem hiX)
                      have h3 := (unhide HDG).1.len xs[i] (List.getElem_mem hiX)
                      have h2 : (xs.map (ndF (datW wr)))[i]? = (L.map sfN)[i]? := by rw [(unhide HDG).2]
                      simp [hiX, hiL, ndF, sfN] at h2
                      rw [h2.2] at h1 h3
                      exact ⟨h1, h3⟩
                    have hdl := (unhide HBN _ (List.getElem_mem hiL)).1
                    have hcells : ∀ wx, Below wr.heap.size wr wx → wx.cell? ⟨B4, O4 + i * 2 + 1, none⟩ = some (.slice xs[i].a xs[i].n xs[i].c) ∧ wx.cell? ⟨g5, i, none⟩ = some (.int .i64 ((L[i].crc : Nat) : Int)) := fun wx hb => by
                      obtain ⟨B, O, e, -, z1⟩ := ((unhide HAT4).low hb).get hiX
                      cases e
                      obtain ⟨g, e2, z2⟩ := unhide HAT5 i (by rw [List.length_map]; exact hiL)
                      cases e2
                      have z3 := (hb.cell (lt_of_cell z2)).trans z2
                      rw [List.getElem_map, Nat.zero_add] at z3
                      exact ⟨z1, z3⟩
                    obtain ⟨x, hxx⟩ : ∃ x, xs[i] = x := ⟨_, rfl⟩
                    obtain ⟨s, hss⟩ : ∃ s, L[i] = s := ⟨_, rfl⟩
                    rw [hxx] at hdat hcells
                    rw [hss] at hdat hcells hdl hu hv
                    obtain ⟨xnm, xa, xn, xc⟩ := x
                    obtain ⟨snm, sd, scr⟩ := s
                    simp only at hdat hcells hdl hu hv
                    obtain ⟨CK, hCK⟩ : ∃ CK, (crcL sd).toNat = CK := ⟨_, rfl⟩
                    have hCKb : CK < 4294967296 := by rw [← hCK]; exact u32_lt _
                    rw [hCK] at hu hv
                    have HC : Hid (∀ wx, Below wr.heap.size wr wx → Calls Tryz.prog 30 #[.slice xa xn xc] wx fun e w' => e = .returned (.int .u32 (CK : Int)) ∧ w' = wx) := hide (fun wx hb => by
                      have kk := refCrc_any (c := xc) hdat.2 (by omega) (hdat.1.low hb)
                      rw [hCK] at kk
                      exact kk)
                    have HC2 := hide (fun wx (hS : wx.cell? ⟨B4, O4 + i * 2 + 1, none⟩ = some (.slice xa xn xc) ∧ wx.cell? ⟨g5, i, none⟩ = some (.int .i64 ((scr : Nat) : Int)) ∧ Below wr.heap.size wr wx) => unhide HC wx hS.2.2)
                    have hS : w2.cell? ⟨B4, O4 + i * 2 + 1, none⟩ = some (.slice xa xn xc) ∧ w2.cell? ⟨g5, i, none⟩ = some (.int .i64 ((scr : Nat) : Int)) ∧ Below wr.heap.size wr w2 := ⟨(hcells _ (unhide HB2)).1, (hcells _ (unhide HB2)).2, unhide HB2⟩
                    have hSd : w2.drew.cell? ⟨B4, O4 + i * 2 + 1, none⟩ = some (.slice xa xn xc) ∧ w2.drew.cell? ⟨g5, i, none⟩ = some (.int .i64 ((scr : Nat) : Int)) ∧ Below wr.heap.size wr w2.drew := ⟨(hcells _ (unhide HB2).drew).1, (hcells _ (unhide HB2).drew).2, (unhide HB2).drew⟩
                    have w1 : IntKind.i64.wrap (CK : Int) = (CK : Int) := by simp [IntKind.wrap, IntKind.bits, IntKind.signed]; omega
                    have HU := hide hu
                    have HV := hide hv
                    clear hu hv hdat hcells hxx hss hCK hdl HC HQ1 HQ2 HQ3
                    go_wp2
                    go_region_held3 (fun wx => wx.cell? ⟨B4, O4 + i * 2 + 1, none⟩ = some (.slice xa xn xc) ∧ wx.cell? ⟨g5, i, none⟩ = some (.int .i64 ((scr : Nat) : Int)) ∧ Below wr.heap.size wr wx)
                      (first | assumption | exact hS | exact hSd)
                      (first | (go_at_call 30; refine (unhide HC2 _ (by assumption)).mono ?_; rintro e w9 ⟨rfl, rfl⟩))
                    have HB9 := hide hSd.2.2
                    clear hS hSd HC2
                    by_cases hcr : CK = scr
                    · subst hcr
                      have z1 : ((CK : Int) != (CK : Int)) = false := by simp
                      have HV2 : Hid (chkE [] (L.take i1) = 0) := hide (by rw [unhide HV, if_neg (by simp)])
                      go_wp2
                      go_roundw
                      case rel => exact ⟨i1, by omega, rfl, HV2, HB9⟩
                      case measure => simp [intOf]; omega
                    · have z1 : ((CK : Int) != (scr : Int)) = true := by simp; omega
                      have HU2 : Hid (chkE [] L = 16) := hide (by rw [unhide HU, if_pos hcr])
                      have HZ := hide (unhide HUNP 16 (Or.inl ⟨by rw [unhide HU2]; decide, (unhide HU2).symm⟩))
                      go_wp2
                      go_ret2
                      exact ⟨⟨16, unhide HZ, Or.inl ⟨by decide, rfl⟩⟩, low_trans (unhide HLOW) (unhide HB9)⟩
                  · have z1 : (N != 0) = true := by simpa using hNz
                    have HU2 : Hid (chkE [] L = N) := hide (by
                      have h1 := unhide HQ1
                      have h2 : nmE (lowsR (L.take i) []) [L[i].nm] ≠ 0 := by rw [← h1]; exact hNz
                      rw [unhide HQ2, one_name h2, ← h1])
                    have HZ := hide (unhide HUNP N (Or.inl ⟨by rw [unhide HU2]; exact hNz, (unhide HU2).symm⟩))
                    clear HQ1 HQ2 HQ3
                    go_wp2
                    go_ret2
                    exact ⟨⟨N, unhide HZ, Or.inl ⟨hNz, rfl⟩⟩, low_trans (unhide HLOW) (unhide HB2)⟩
                · have hik : i = k := by omega
                  subst hik
                  have HCH : Hid (chkE [] L = 0) := hide (by
                    have h1 := unhide hch
                    rw [List.take_of_length_le (by rw [unhide HK]; exact Nat.le_refl _)] at h1
                    exact h1)
                  have KB := hide (refByName_any (w := wk) (c := c4) (unhide HXK) (by omega) ((unhide HAT4).low (unhide hbk)))
                  clear hch
                  go_wp2_with (go_at_call 22; fail)
                  refine (unhide KB).mono ?_
                  rintro e w2 ⟨v2, ys, rfl, hr2, hp2, hi2, b2⟩
                  obtain ⟨a2, c2, rfl, hat2, -⟩ := FRow.at hr2
                  have hyk : ys.length = i := by rw [hp2.length_eq]; exact unhide HXK
                  rw [hyk]
                  have hdy := ((unhide HDG).1.low (low_trans (unhide hbk) b2)).perm hp2
                  have hsy : sizesL (ys.map (ndF (datW wr))) ≤ 60000 := by
                    rw [sizes_perm (hp2.map _), (unhide HDG).2]
                    exact unhide HSZ
                  have KA := hide (refArc_any (c := c2) hyk (by omega) hat2 hdy (by omega))
                  have HP2 := hide (And.intro hp2 hi2)
                  have HAT2 := hide hat2
                  have HYK := hide hyk
                  have HDY := hide hdy
                  have HSY := hide hsy
                  have HB2 := hide (low_trans (unhide HLOW) (low_trans (unhide hbk) b2))
                  clear hr2 hp2 hi2 b2 hat2 hyk hdy hsy KB hbk
                  go_wp2_with (go_at_call 94; fail)
                  refine (unhide KA).mono ?_
                  rintro e w3 ⟨v3, rfl, ho3, b3⟩
                  obtain ⟨Z, hZ⟩ : ∃ Z, arcL (ys.map (ndF (datW wr))) = Z := ⟨_, rfl⟩
                  rw [hZ] at ho3
                  obtain ⟨a3, c3, rfl, hat3, -, -⟩ := OwnB.at ho3
                  obtain ⟨z, hz⟩ : ∃ z, Z.length = z := ⟨_, rfl⟩
                  rw [hz]
                  have hzb : z ≤ 100000 := by
                    have := unhide HSY
                    rw [← hz, ← hZ, arc_len]
                    omega
                  have HB3 := hide (low_trans (unhide HB2) b3)
                  have KS := hide (sameBytes_any (w := w3) (c := c3) (c2 := c) hz (unhide HN) (by omega) (by omega) hat3 ((unhide HA0).low (unhide HB3)))
                  obtain ⟨sm, hsm⟩ : ∃ sm, decide (Z = b) = sm := ⟨_, rfl⟩
                  rw [hsm] at KS
                  have HZZ := hide hZ
                  have HSM := hide hsm
                  have HAT3 := hide ((unhide HAT2).low b3)
                  have HDY3 := hide ((unhide HDY).low b3)
                  clear hZ ho3 hat3 hz b3 hsm KA
                  go_wp2_with (go_at_call 23; fail)
                  refine (unhide KS).mono ?_
                  rintro e w4 ⟨rfl, q, hw4⟩
                  have b4 : Below w3.heap.size w3 w4 := by rw [hw4]; exact low_q _
                  have HB4 := hide (low_trans (unhide HB3) b4)
                  have HAT4b := hide ((unhide HAT3).low b4)
                  have HDY4 := hide ((unhide HDY3).low b4)
                  clear b4 hw4 KS
                  cases sm with
                  | false =>
                    have HZ := hide (unhide HUNP 15 (Or.inr ⟨unhide HCH, Or.inl ⟨packs_no (unhide HDG).2 (chk_nm _ _ (unhide HCH)).1 (unhide HP2).1 (unhide HP2).2 (by rw [unhide HZZ]; exact of_decide_eq_false (unhide HSM)), rfl⟩⟩))
                    go_wp2
                    go_ret2
                    exact ⟨⟨15, unhide HZ, Or.inl ⟨by decide, rfl⟩⟩, unhide HB4⟩
                  | true =>
                    have hzeq : arcL (ys.map (ndF (datW wr))) = b := (unhide HZZ).trans (of_decide_eq_true (unhide HSM))
                    have HZ := hide (unhide HUNP 0 (Or.inr ⟨unhide HCH, Or.inr ⟨packs_yes (unhide HDG).2 (chk_nm _ _ (unhide HCH)).1 (unhide HP2).1 (unhide HP2).2 (by rw [(unhide HDG).2]; have := unhide HSZ; omega) hzeq, rfl⟩⟩))
                    have HLZ : Hid (L.map sfN = ys.map (ndF (datW wr))) := hide (packs_back (unhide HL) hzeq (fun p hp => by
                      have hp2 := (((unhide HP2).1.map (ndF (datW wr))).mem_iff.1 hp)
                      rw [(unhide HDG).2] at hp2
                      have h1 := sizes_mem hp2
                      have h2 := sizes_name hp2
                      have h3 := unhide HSZ
                      unfold ndOk
                      omega))
                    have HFD : Hid (FdAt w4 a2 (L.map sfN)) := hide (by rw [unhide HLZ]; exact fd_of (unhide HAT4b) (unhide HDY4))
                    clear hzeq
                    go_wp2
                    go_ret2
                    exact ⟨⟨0, unhide HZ, Or.inr ⟨rfl, a2, c2, L, unhide HL, by rw [unhide HK]; rfl, unhide HFD⟩⟩, unhide HB4⟩
          · have u2 : ((c2.toNat : Int) == 3) = false := by
              have : c2.toNat ≠ 3 := fun e => d2 (UInt8.toNat_inj.1 e)
              simp
              omega
            have HNO : Hid (¬ (b.drop m).take 4 = [80, 75, 3, 4]) := hide (by
              rw [unhide HMK]
              intro e
              simp only [List.cons.injEq] at e
              exact d2 (by simp [e]))
            clear HMK
            have HL : Hid (headsR b = some L) := hide (by rw [unhide hhd, headsR_no (unhide HNO)]; simp)
            obtain ⟨k, hk⟩ : ∃ k, L.length = k := ⟨_, rfl⟩
            have hxk : xs.length = k := by rw [(unhide hru).len]; exact hk
            have hsl : (L.map Sf.crc).length = k := by rw [List.length_map]; exact hk
            obtain ⟨a4, c4, e4, hat4, hc4⟩ := FRow.at (unhide hru).l
            obtain ⟨a5, c5, e5, hat5⟩ := IRow.at (unhide hru).s
            rw [hxk] at e4 hc4
            rw [hsl] at e5
            subst e4
            subst e5
            have hk667 : k ≤ 667 := by omega
            have HK := hide hk
            have HXK := hide hxk
            have HAT4 := hide hat4
            have HAT5 := hide hat5
            have HLOW := hide (unhide hru).low
            have HBN : Hid (∀ s ∈ L, s.d.length ≤ 60000 ∧ s.nm.length ≤ 60000) := hide (fun s hs => by
              have q1 := sizes_mem (List.mem_map_of_mem (f := sfN) hs)
              have q2 := sizes_name (List.mem_map_of_mem (f := sfN) hs)
              have q3 := unhide hsz
              unfold sfN at q1 q2
              simp only at q1 q2
              constructor
              · have : s.d.length ≤ sizesL (L.map sfN) := q1
                omega
              · have : s.nm.length ≤ sizesL (L.map sfN) := q2
                omega)
            have HDG := hide ((unhide hru).datg (fun s hs => by have := (unhide HBN s hs).1; omega) (fun s hs => by have := (unhide HBN s hs).2; omega))
            have HNMS := hide (unhide hru).nm
            have HSZ : Hid (sizesL (L.map sfN) ≤ 60000) := hide (by have := unhide hsz; omega)
            clear hk hxk hsl hat4 hat5 hhd HNO hru hsz HA HF
            by_cases h100 : 100 < k
            · have h100' : (100 : Int) < (k : Int) := by omega
              have HZ : Hid (UnpS b 14) := hide (Or.inr (Or.inr ⟨L, by rw [unhide HN]; omega, unhide HL, Or.inl ⟨by rw [unhide HK]; exact h100, rfl⟩⟩))
              go_wp2
              go_ret2
              exact ⟨⟨14, unhide HZ, Or.inl ⟨by decide, rfl⟩⟩, unhide HLOW⟩
            have h100' : ¬ (100 : Int) < (k : Int) := by omega
            have HUNP : Hid (∀ E, ((chkE [] L ≠ 0 ∧ E = chkE [] L) ∨ (chkE [] L = 0 ∧ ((¬ Packs L b ∧ E = 15) ∨ (Packs L b ∧ E = 0)))) → UnpS b E) := hide (fun E hE => Or.inr (Or.inr ⟨L, by rw [unhide HN]; omega, unhide HL, Or.inr ⟨by rw [unhide HK]; omega, hE⟩⟩))
            go_wp2
            go_loopw [9, 10] (fun v9 _ wk => ∃ i : Nat, i ≤ k ∧ v9 = .int .i64 (i : Int) ∧ Hid (chkE [] (L.take i) = 0) ∧ Hid (Below wr.heap.size wr wk)) (fun v9 _ _ => k - (intOf v9).toNat)
            case atStart => exact ⟨0, Nat.zero_le _, rfl, hide rfl, hide (Below.refl _ _)⟩
            case round =>
              rename World => wk
              obtain ⟨i, hi, rfl, hch, hbk⟩ := hrel
              by_cases hlt : i < k
              · have hlt' : (i : Int) < (k : Int) := by omega
                have hiL : i < L.length := by rw [unhide HK]; exact hlt
                have hiX : i < xs.length := by rw [unhide HXK]; exact hlt
                obtain ⟨i1, hi1⟩ : ∃ i1, i + 1 = i1 := ⟨_, rfl⟩
                have e1 : (i : Int) + 1 = (i1 : Int) := by omega
                have s22 : ∀ W, (Instr.slice 22 (.slice a4 k c4) none (some (.int .i64 (i1 : Int))) none).run Tryz.prog W = .ok (.slice a4 i1 c4) W := fun W => slice22_to (by omega) hc4 W
                obtain ⟨N, hNN⟩ : ∃ N, nmE [] ((L.map Sf.nm).take i1) = N := ⟨_, rfl⟩
                have KN := hide (refNames_any (w := wk) (a := a4) (n := i1) (c := c4) (xs := xs.take i1) (by rw [List.length_take, unhide HXK]; omega) (by omega) (fun x hx => by
                  have hx2 := List.mem_of_mem_take hx
                  have hx3 : x.nm ∈ xs.map Fl.nm := List.mem_map_of_mem hx2
                  rw [unhide HNMS] at hx3
                  obtain ⟨s, hs, e⟩ := List.mem_map.1 hx3
                  have := (unhide HBN s hs).2
                  rw [← e]
                  omega) (((unhide HAT4).low (unhide hbk)).take i1))
                rw [List.map_take, unhide HNMS, hNN] at KN
                obtain ⟨q1, q2, q3⟩ := next_name hiL (unhide hch)
                rw [hi1, hNN] at q1
                rw [hi1] at q2 q3
                have HQ1 := hide q1
                have HQ2 := hide q2
                have HQ3 := hide q3
                clear q1 q2 q3 hNN hch
                go_wp2_with (go_at_call 93; fail)
                refine (unhide KN).mono ?_
                rintro e w2 ⟨rfl, b2⟩
                have HB2 := hide (low_trans (unhide hbk) b2)
                clear b2 KN hbk s22
                by_cases hNz : N = 0
                · subst hNz
                  obtain ⟨hu, hv⟩ : (chkE [] L = if (crcL L[i].d).toNat ≠ L[i].crc then 16 else chkE (lowL L[i].nm :: lowsR (L.take i) []) (L.drop i1)) ∧ (chkE [] (L.take i1) = if (crcL L[i].d).toNat ≠ L[i].crc then 16 else 0) := ⟨by rw [unhide HQ2]; exact one_sum (unhide HQ1).symm, by rw [unhide HQ3, one_sum (unhide HQ1).symm]; rfl⟩
                  obtain ⟨B4, O4, rfl, -, -⟩ := ((unhide HAT4).low (unhide HB2)).get hiX
                  obtain ⟨g5, rfl, -⟩ := unhide HAT5 i (by rw [List.length_map]; exact hiL)
                  have hdat : BAt wr xs[i].a L[i].d ∧ L[i].d.length = xs[i].n := by
                    have h1 := (unhide HDG).1.at_ xs[i] (List.getElem_mem hiX)
                    have h3 := (unhide HDG).1.len xs[i] (List.getElem_mem hiX)
                    have h2 : (xs.map (ndF (datW wr)))[i]? = (L.map sfN)[i]? := by rw [(unhide HDG).2]
                    simp [hiX, hiL, ndF, sfN] at h2
                    rw [h2.2] at h1 h3
                    exact ⟨h1, h3⟩
                  have hdl := (unhide HBN _ (List.getElem_mem hiL)).1
                  have hcells : ∀ wx, Below wr.heap.size wr wx → wx.cell? ⟨B4, O4 + i * 2 + 1, none⟩ = some (.slice xs[i].a xs[i].n xs[i].c) ∧ wx.cell? ⟨g5, i, none⟩ = some (.int .i64 ((L[i].crc : Nat) : Int)) := fun wx hb => by
                    obtain ⟨B, O, e, -, z1⟩ := ((unhide HAT4).low hb).get hiX
                    cases e
                    obtain ⟨g, e2, z2⟩ := unhide HAT5 i (by rw [List.length_map]; exact hiL)
                    cases e2
                    have z3 := (hb.cell (lt_of_cell z2)).trans z2
                    rw [List.getElem_map, Nat.zero_add] at z3
                    exact ⟨z1, z3⟩
                  obtain ⟨x, hxx⟩ : ∃ x, xs[i] = x := ⟨_, rfl⟩
                  obtain ⟨s, hss⟩ : ∃ s, L[i] = s := ⟨_, rfl⟩
                  rw [hxx] at hdat hcells
                  rw [hss] at hdat hcells hdl hu hv
                  obtain ⟨xnm, xa, xn, xc⟩ := x
                  obtain ⟨snm, sd, scr⟩ := s
                  simp only at hdat hcells hdl hu hv
                  obtain ⟨CK, hCK⟩ : ∃ CK, (crcL sd).toNat = CK := ⟨_, rfl⟩
                  have hCKb : CK < 4294967296 := by rw [← hCK]; exact u32_lt _
                  rw [hCK] at hu hv
                  have HC : Hid (∀ wx, Below wr.heap.size wr wx → Calls Tryz.prog 30 #[.slice xa xn xc] wx fun e w' => e = .returned (.int .u32 (CK : Int)) ∧ w' = wx) := hide (fun wx hb => by
                    have kk := refCrc_any (c := xc) hdat.2 (by omega) (hdat.1.low hb)
                    rw [hCK] at kk
                    exact kk)
                  have HC2 := hide (fun wx (hS : wx.cell? ⟨B4, O4 + i * 2 + 1, none⟩ = some (.slice xa xn xc) ∧ wx.cell? ⟨g5, i, none⟩ = some (.int .i64 ((scr : Nat) : Int)) ∧ Below wr.heap.size wr wx) => unhide HC wx hS.2.2)
                  have hS : w2.cell? ⟨B4, O4 + i * 2 + 1, none⟩ = some (.slice xa xn xc) ∧ w2.cell? ⟨g5, i, none⟩ = some (.int .i64 ((scr : Nat) : Int)) ∧ Below wr.heap.size wr w2 := ⟨(hcells _ (unhide HB2)).1, (hcells _ (unhide HB2)).2, unhide HB2⟩
                  have hSd : w2.drew.cell? ⟨B4, O4 + i * 2 + 1, none⟩ = some (.slice xa xn xc) ∧ w2.drew.cell? ⟨g5, i, none⟩ = some (.int .i64 ((scr : Nat) : Int)) ∧ Below wr.heap.size wr w2.drew := ⟨(hcells _ (unhide HB2).drew).1, (hcells _ (unhide HB2).drew).2, (unhide HB2).drew⟩
                  have w1 : IntKind.i64.wrap (CK : Int) = (CK : Int) := by simp [IntKind.wrap, IntKind.bits, IntKind.signed]; omega
                  have HU := hide hu
                  have HV := hide hv
                  clear hu hv hdat hcells hxx hss hCK hdl HC HQ1 HQ2 HQ3
                  go_wp2
                  go_region_held3 (fun wx => wx.cell? ⟨B4, O4 + i * 2 + 1, none⟩ = some (.slice xa xn xc) ∧ wx.cell? ⟨g5, i, none⟩ = some (.int .i64 ((scr : Nat) : Int)) ∧ Below wr.heap.size wr wx)
                    (first | assumption | exact hS | exact hSd)
                    (first | (go_at_call 30; refine (unhide HC2 _ (by assumption)).mono ?_; rintro e w9 ⟨rfl, rfl⟩))
                  have HB9 := hide hSd.2.2
                  clear hS hSd HC2
                  by_cases hcr : CK = scr
                  · subst hcr
                    have z1 : ((CK : Int) != (CK : Int)) = false := by simp
                    have HV2 : Hid (chkE [] (L.take i1) = 0) := hide (by rw [unhide HV, if_neg (by simp)])
                    go_wp2
                    go_roundw
                    case rel => exact ⟨i1, by omega, rfl, HV2, HB9⟩
                    case measure => simp [intOf]; omega
                  · have z1 : ((CK : Int) != (scr : Int)) = true := by simp; omega
                    have HU2 : Hid (chkE [] L = 16) := hide (by rw [unhide HU, if_pos hcr])
                    have HZ := hide (unhide HUNP 16 (Or.inl ⟨by rw [unhide HU2]; decide, (unhide HU2).symm⟩))
                    go_wp2
                    go_ret2
                    exact ⟨⟨16, unhide HZ, Or.inl ⟨by decide, rfl⟩⟩, low_trans (unhide HLOW) (unhide HB9)⟩
                · have z1 : (N != 0) = true := by simpa using hNz
                  have HU2 : Hid (chkE [] L = N) := hide (by
                    have h1 := unhide HQ1
                    have h2 : nmE (lowsR (L.take i) []) [L[i].nm] ≠ 0 := by rw [← h1]; exact hNz
                    rw [unhide HQ2, one_name h2, ← h1])
                  have HZ := hide (unhide HUNP N (Or.inl ⟨by rw [unhide HU2]; exact hNz, (unhide HU2).symm⟩))
                  clear HQ1 HQ2 HQ3
                  go_wp2
                  go_ret2
                  exact ⟨⟨N, unhide HZ, Or.inl ⟨hNz, rfl⟩⟩, low_trans (unhide HLOW) (unhide HB2)⟩
              · have hik : i = k := by omega
                subst hik
                have HCH : Hid (chkE [] L = 0) := hide (by
                  have h1 := unhide hch
                  rw [List.take_of_length_le (by rw [unhide HK]; exact Nat.le_refl _)] at h1
                  exact h1)
                have KB := hide (refByName_any (w := wk) (c := c4) (unhide HXK) (by omega) ((unhide HAT4).low (unhide hbk)))
                clear hch
                go_wp2_with (go_at_call 22; fail)
                refine (unhide KB).mono ?_
                rintro e w2 ⟨v2, ys, rfl, hr2, hp2, hi2, b2⟩
                obtain ⟨a2, c2, rfl, hat2, -⟩ := FRow.at hr2
                have hyk : ys.length = i := by rw [hp2.length_eq]; exact unhide HXK
                rw [hyk]
                have hdy := ((unhide HDG).1.low (low_trans (unhide hbk) b2)).perm hp2
                have hsy : sizesL (ys.map (ndF (datW wr))) ≤ 60000 := by
                  rw [sizes_perm (hp2.map _), (unhide HDG).2]
                  exact unhide HSZ
                have KA := hide (refArc_any (c := c2) hyk (by omega) hat2 hdy (by omega))
                have HP2 := hide (And.intro hp2 hi2)
                have HAT2 := hide hat2
                have HYK := hide hyk
                have HDY := hide hdy
                have HSY := hide hsy
                have HB2 := hide (low_trans (unhide HLOW) (low_trans (unhide hbk) b2))
                clear hr2 hp2 hi2 b2 hat2 hyk hdy hsy KB hbk
                go_wp2_with (go_at_call 94; fail)
                refine (unhide KA).mono ?_
                rintro e w3 ⟨v3, rfl, ho3, b3⟩
                obtain ⟨Z, hZ⟩ : ∃ Z, arcL (ys.map (ndF (datW wr))) = Z := ⟨_, rfl⟩
                rw [hZ] at ho3
                obtain ⟨a3, c3, rfl, hat3, -, -⟩ := OwnB.at ho3
                obtain ⟨z, hz⟩ : ∃ z, Z.length = z := ⟨_, rfl⟩
                rw [hz]
                have hzb : z ≤ 100000 := by
                  have := unhide HSY
                  rw [← hz, ← hZ, arc_len]
                  omega
                have HB3 := hide (low_trans (unhide HB2) b3)
                have KS := hide (sameBytes_any (w := w3) (c := c3) (c2 := c) hz (unhide HN) (by omega) (by omega) hat3 ((unhide HA0).low (unhide HB3)))
                obtain ⟨sm, hsm⟩ : ∃ sm, decide (Z = b) = sm := ⟨_, rfl⟩
                rw [hsm] at KS
                have HZZ := hide hZ
                have HSM := hide hsm
                have HAT3 := hide ((unhide HAT2).low b3)
                have HDY3 := hide ((unhide HDY).low b3)
                clear hZ ho3 hat3 hz b3 hsm KA
                go_wp2_with (go_at_call 23; fail)
                refine (unhide KS).mono ?_
                rintro e w4 ⟨rfl, q, hw4⟩
                have b4 : Below w3.heap.size w3 w4 := by rw [hw4]; exact low_q _
                have HB4 := hide (low_trans (unhide HB3) b4)
                have HAT4b := hide ((unhide HAT3).low b4)
                have HDY4 := hide ((unhide HDY3).low b4)
                clear b4 hw4 KS
                cases sm with
                | false =>
                  have HZ := hide (unhide HUNP 15 (Or.inr ⟨unhide HCH, Or.inl ⟨packs_no (unhide HDG).2 (chk_nm _ _ (unhide HCH)).1 (unhide HP2).1 (unhide HP2).2 (by rw [unhide HZZ]; exact of_decide_eq_false (unhide HSM)), rfl⟩⟩))
                  go_wp2
                  go_ret2
                  exact ⟨⟨15, unhide HZ, Or.inl ⟨by decide, rfl⟩⟩, unhide HB4⟩
                | true =>
                  have hzeq : arcL (ys.map (ndF (datW wr))) = b := (unhide HZZ).trans (of_decide_eq_true (unhide HSM))
                  have HZ := hide (unhide HUNP 0 (Or.inr ⟨unhide HCH, Or.inr ⟨packs_yes (unhide HDG).2 (chk_nm _ _ (unhide HCH)).1 (unhide HP2).1 (unhide HP2).2 (by rw [(unhide HDG).2]; have := unhide HSZ; omega) hzeq, rfl⟩⟩))
                  have HLZ : Hid (L.map sfN = ys.map (ndF (datW wr))) := hide (packs_back (unhide HL) hzeq (fun p hp => by
                    have hp2 := (((unhide HP2).1.map (ndF (datW wr))).mem_iff.1 hp)
                    rw [(unhide HDG).2] at hp2
                    have h1 := sizes_mem hp2
                    have h2 := sizes_name hp2
                    have h3 := unhide HSZ
                    unfold ndOk
                    omega))
                  have HFD : Hid (FdAt w4 a2 (L.map sfN)) := hide (by rw [unhide HLZ]; exact fd_of (unhide HAT4b) (unhide HDY4))
                  clear hzeq
                  go_wp2
                  go_ret2
                  exact ⟨⟨0, unhide HZ, Or.inr ⟨rfl, a2, c2, L, unhide HL, by rw [unhide HK]; rfl, unhide HFD⟩⟩, unhide HB4⟩
        · have u1 : ((c1.toNat : Int) == 75) = false := by
            have : c1.toNat ≠ 75 := fun e => d1 (UInt8.toNat_inj.1 e)
            simp
            omega
          have HNO : Hid (¬ (b.drop m).take 4 = [80, 75, 3, 4]) := hide (by
            rw [unhide HMK]
            intro e
            simp only [List.cons.injEq] at e
            exact d1 (by simp [e]))
          clear HMK
          have HL : Hid (headsR b = some L) := hide (by rw [unhide hhd, headsR_no (unhide HNO)]; simp)
          obtain ⟨k, hk⟩ : ∃ k, L.length = k := ⟨_, rfl⟩
          have hxk : xs.length = k := by rw [(unhide hru).len]; exact hk
          have hsl : (L.map Sf.crc).length = k := by rw [List.length_map]; exact hk
          obtain ⟨a4, c4, e4, hat4, hc4⟩ := FRow.at (unhide hru).l
          obtain ⟨a5, c5, e5, hat5⟩ := IRow.at (unhide hru).s
          rw [hxk] at e4 hc4
          rw [hsl] at e5
          subst e4
          subst e5
          have hk667 : k ≤ 667 := by omega
          have HK := hide hk
          have HXK := hide hxk
          have HAT4 := hide hat4
          have HAT5 := hide hat5
          have HLOW := hide (unhide hru).low
          have HBN : Hid (∀ s ∈ L, s.d.length ≤ 60000 ∧ s.nm.length ≤ 60000) := hide (fun s hs => by
            have q1 := sizes_mem (List.mem_map_of_mem (f := sfN) hs)
            have q2 := sizes_name (List.mem_map_of_mem (f := sfN) hs)
            have q3 := unhide hsz
            unfold sfN at q1 q2
            simp only at q1 q2
            constructor
            · have : s.d.length ≤ sizesL (L.map sfN) := q1
              omega
            · have : s.nm.length ≤ sizesL (L.map sfN) := q2
              omega)
          have HDG := hide ((unhide hru).datg (fun s hs => by have := (unhide HBN s hs).1; omega) (fun s hs => by have := (unhide HBN s hs).2; omega))
          have HNMS := hide (unhide hru).nm
          have HSZ : Hid (sizesL (L.map sfN) ≤ 60000) := hide (by have := unhide hsz; omega)
          clear hk hxk hsl hat4 hat5 hhd HNO hru hsz HA HF
          by_cases h100 : 100 < k
          · have h100' : (100 : Int) < (k : Int) := by omega
            have HZ : Hid (UnpS b 14) := hide (Or.inr (Or.inr ⟨L, by rw [unhide HN]; omega, unhide HL, Or.inl ⟨by rw [unhide HK]; exact h100, rfl⟩⟩))
            go_wp2
            go_ret2
            exact ⟨⟨14, unhide HZ, Or.inl ⟨by decide, rfl⟩⟩, unhide HLOW⟩
          have h100' : ¬ (100 : Int) < (k : Int) := by omega
          have HUNP : Hid (∀ E, ((chkE [] L ≠ 0 ∧ E = chkE [] L) ∨ (chkE [] L = 0 ∧ ((¬ Packs L b ∧ E = 15) ∨ (Packs L b ∧ E = 0)))) → UnpS b E) := hide (fun E hE => Or.inr (Or.inr ⟨L, by rw [unhide HN]; omega, unhide HL, Or.inr ⟨by rw [unhide HK]; omega, hE⟩⟩))
          go_wp2
          go_loopw [9, 10] (fun v9 _ wk => ∃ i : Nat, i ≤ k ∧ v9 = .int .i64 (i : Int) ∧ Hid (chkE [] (L.take i) = 0) ∧ Hid (Below wr.heap.size wr wk)) (fun v9 _ _ => k - (intOf v9).toNat)
          case atStart => exact ⟨0, Nat.zero_le _, rfl, hide rfl, hide (Below.refl _ _)⟩
          case round =>
            rename World => wk
            obtain ⟨i, hi, rfl, hch, hbk⟩ := hrel
            by_cases hlt : i < k
            · have hlt' : (i : Int) < (k : Int) := by omega
              have hiL : i < L.length := by rw [unhide HK]; exact hlt
              have hiX : i < xs.length := by rw [unhide HXK]; exact hlt
              obtain ⟨i1, hi1⟩ : ∃ i1, i + 1 = i1 := ⟨_, rfl⟩
              have e1 : (i : Int) + 1 = (i1 : Int) := by omega
              have s22 : ∀ W, (Instr.slice 22 (.slice a4 k c4) none (some (.int .i64 (i1 : Int))) none).run Tryz.prog W = .ok (.slice a4 i1 c4) W := fun W => slice22_to (by omega) hc4 W
              obtain ⟨N, hNN⟩ : ∃ N, nmE [] ((L.map Sf.nm).take i1) = N := ⟨_, rfl⟩
              have KN := hide (refNames_any (w := wk) (a := a4) (n := i1) (c := c4) (xs := xs.take i1) (by rw [List.length_take, unhide HXK]; omega) (by omega) (fun x hx => by
                have hx2 := List.mem_of_mem_take hx
                have hx3 : x.nm ∈ xs.map Fl.nm := List.mem_map_of_mem hx2
                rw [unhide HNMS] at hx3
                obtain ⟨s, hs, e⟩ := List.mem_map.1 hx3
                have := (unhide HBN s hs).2
                rw [← e]
                omega) (((unhide HAT4).low (unhide hbk)).take i1))
              rw [List.map_take, unhide HNMS, hNN] at KN
              obtain ⟨q1, q2, q3⟩ := next_name hiL (unhide hch)
              rw [hi1, hNN] at q1
              rw [hi1] at q2 q3
              have HQ1 := hide q1
              have HQ2 := hide q2
              have HQ3 := hide q3
              clear q1 q2 q3 hNN hch
              go_wp2_with (go_at_call 93; fail)
              refine (unhide KN).mono ?_
              rintro e w2 ⟨rfl, b2⟩
              have HB2 := hide (low_trans (unhide hbk) b2)
              clear b2 KN hbk s22
              by_cases hNz : N = 0
              · subst hNz
                obtain ⟨hu, hv⟩ : (chkE [] L = if (crcL L[i].d).toNat ≠ L[i].crc then 16 else chkE (lowL L[i].nm :: lowsR (L.take i) []) (L.drop i1)) ∧ (chkE [] (L.take i1) = if (crcL L[i].d).toNat ≠ L[i].crc then 16 else 0) := ⟨by rw [unhide HQ2]; exact one_sum (unhide HQ1).symm, by rw [unhide HQ3, one_sum (unhide HQ1).symm]; rfl⟩
                obtain ⟨B4, O4, rfl, -, -⟩ := ((unhide HAT4).low (unhide HB2)).get hiX
                obtain ⟨g5, rfl, -⟩ := unhide HAT5 i (by rw [List.length_map]; exact hiL)
                have hdat : BAt wr xs[i].a L[i].d ∧ L[i].d.length = xs[i].n := by
                  have h1 := (unhide HDG).1.at_ xs[i] (List.getElem_mem hiX)
                  have h3 := (unhide HDG).1.len xs[i] (List.getElem_mem hiX)
                  have h2 : (xs.map (ndF (datW wr)))[i]? = (L.map sfN)[i]? := by rw [(unhide HDG).2]
                  simp [hiX, hiL, ndF, sfN] at h2
                  rw [h2.2] at h1 h3
                  exact ⟨h1, h3⟩
                have hdl := (unhide HBN _ (List.getElem_mem hiL)).1
                have hcells : ∀ wx, Below wr.heap.size wr wx → wx.cell? ⟨B4, O4 + i * 2 + 1, none⟩ = some (.slice xs[i].a xs[i].n xs[i].c) ∧ wx.cell? ⟨g5, i, none⟩ = some (.int .i64 ((L[i].crc : Nat) : Int)) := fun wx hb => by
                  obtain ⟨B, O, e, -, z1⟩ := ((unhide HAT4).low hb).get hiX
                  cases e
                  obtain ⟨g, e2, z2⟩ := unhide HAT5 i (by rw [List.length_map]; exact hiL)
                  cases e2
                  have z3 := (hb.cell (lt_of_cell z2)).trans z2
                  rw [List.getElem_map, Nat.zero_add] at z3
                  exact ⟨z1, z3⟩
                obtain ⟨x, hxx⟩ : ∃ x, xs[i] = x := ⟨_, rfl⟩
                obtain ⟨s, hss⟩ : ∃ s, L[i] = s := ⟨_, rfl⟩
                rw [hxx] at hdat hcells
                rw [hss] at hdat hcells hdl hu hv
                obtain ⟨xnm, xa, xn, xc⟩ := x
                obtain ⟨snm, sd, scr⟩ := s
                simp only at hdat hcells hdl hu hv
                obtain ⟨CK, hCK⟩ : ∃ CK, (crcL sd).toNat = CK := ⟨_, rfl⟩
                have hCKb : CK < 4294967296 := by rw [← hCK]; exact u32_lt _
                rw [hCK] at hu hv
                have HC : Hid (∀ wx, Below wr.heap.size wr wx → Calls Tryz.prog 30 #[.slice xa xn xc] wx fun e w' => e = .returned (.int .u32 (CK : Int)) ∧ w' = wx) := hide (fun wx hb => by
                  have kk := refCrc_any (c := xc) hdat.2 (by omega) (hdat.1.low hb)
                  rw [hCK] at kk
                  exact kk)
                have HC2 := hide (fun wx (hS : wx.cell? ⟨B4, O4 + i * 2 + 1, none⟩ = some (.slice xa xn xc) ∧ wx.cell? ⟨g5, i, none⟩ = some (.int .i64 ((scr : Nat) : Int)) ∧ Below wr.heap.size wr wx) => unhide HC wx hS.2.2)
                have hS : w2.cell? ⟨B4, O4 + i * 2 + 1, none⟩ = some (.slice xa xn xc) ∧ w2.cell? ⟨g5, i, none⟩ = some (.int .i64 ((scr : Nat) : Int)) ∧ Below wr.heap.size wr w2 := ⟨(hcells _ (unhide HB2)).1, (hcells _ (unhide HB2)).2, unhide HB2⟩
                have hSd : w2.drew.cell? ⟨B4, O4 + i * 2 + 1, none⟩ = some (.slice xa xn xc) ∧ w2.drew.cell? ⟨g5, i, none⟩ = some (.int .i64 ((scr : Nat) : Int)) ∧ Below wr.heap.size wr w2.drew := ⟨(hcells _ (unhide HB2).drew).1, (hcells _ (unhide HB2).drew).2, (unhide HB2).drew⟩
                have w1 : IntKind.i64.wrap (CK : Int) = (CK : Int) := by simp [IntKind.wrap, IntKind.bits, IntKind.signed]; omega
                have HU := hide hu
                have HV := hide hv
                clear hu hv hdat hcells hxx hss hCK hdl HC HQ1 HQ2 HQ3
                go_wp2
                go_region_held3 (fun wx => wx.cell? ⟨B4, O4 + i * 2 + 1, none⟩ = some (.slice xa xn xc) ∧ wx.cell? ⟨g5, i, none⟩ = some (.int .i64 ((scr : Nat) : Int)) ∧ Below wr.heap.size wr wx)
                  (first | assumption | exact hS | exact hSd)
                  (first | (go_at_call 30; refine (unhide HC2 _ (by assumption)).mono ?_; rintro e w9 ⟨rfl, rfl⟩))
                have HB9 := hide hSd.2.2
                clear hS hSd HC2
                by_cases hcr : CK = scr
                · subst hcr
                  have z1 : ((CK : Int) != (CK : Int)) = false := by simp
                  have HV2 : Hid (chkE [] (L.take i1) = 0) := hide (by rw [unhide HV, if_neg (by simp)])
                  go_wp2
                  go_roundw
                  case rel => exact ⟨i1, by omega, rfl, HV2, HB9⟩
                  case measure => simp [intOf]; omega
                · have z1 : ((CK : Int) != (scr : Int)) = true := by simp; omega
                  have HU2 : Hid (chkE [] L = 16) := hide (by rw [unhide HU, if_pos hcr])
                  have HZ := hide (unhide HUNP 16 (Or.inl ⟨by rw [unhide HU2]; decide, (unhide HU2).symm⟩))
                  go_wp2
                  go_ret2
                  exact ⟨⟨16, unhide HZ, Or.inl ⟨by decide, rfl⟩⟩, low_trans (unhide HLOW) (unhide HB9)⟩
              · have z1 : (N != 0) = true := by simpa using hNz
                have HU2 : Hid (chkE [] L = N) := hide (by
                  have h1 := unhide HQ1
                  have h2 : nmE (lowsR (L.take i) []) [L[i].nm] ≠ 0 := by rw [← h1]; exact hNz
                  rw [unhide HQ2, one_name h2, ← h1])
                have HZ := hide (unhide HUNP N (Or.inl ⟨by rw [unhide HU2]; exact hNz, (unhide HU2).symm⟩))
                clear HQ1 HQ2 HQ3
                go_wp2
                go_ret2
                exact ⟨⟨N, unhide HZ, Or.inl ⟨hNz, rfl⟩⟩, low_trans (unhide HLOW) (unhide HB2)⟩
            · have hik : i = k := by omega
              subst hik
              have HCH : Hid (chkE [] L = 0) := hide (by
                have h1 := unhide hch
                rw [List.take_of_length_le (by rw [unhide HK]; exact Nat.le_refl _)] at h1
                exact h1)
              have KB := hide (refByName_any (w := wk) (c := c4) (unhide HXK) (by omega) ((unhide HAT4).low (unhide hbk)))
              clear hch
              go_wp2_with (go_at_call 22; fail)
              refine (unhide KB).mono ?_
              rintro e w2 ⟨v2, ys, rfl, hr2, hp2, hi2, b2⟩
              obtain ⟨a2, c2, rfl, hat2, -⟩ := FRow.at hr2
              have hyk : ys.length = i := by rw [hp2.length_eq]; exact unhide HXK
              rw [hyk]
              have hdy := ((unhide HDG).1.low (low_trans (unhide hbk) b2)).perm hp2
              have hsy : sizesL (ys.map (ndF (datW wr))) ≤ 60000 := by
                rw [sizes_perm (hp2.map _), (unhide HDG).2]
                exact unhide HSZ
              have KA := hide (refArc_any (c := c2) hyk (by omega) hat2 hdy (by omega))
              have HP2 := hide (And.intro hp2 hi2)
              have HAT2 := hide hat2
              have HYK := hide hyk
              have HDY := hide hdy
              have HSY := hide hsy
              have HB2 := hide (low_trans (unhide HLOW) (low_trans (unhide hbk) b2))
              clear hr2 hp2 hi2 b2 hat2 hyk hdy hsy KB hbk
              go_wp2_with (go_at_call 94; fail)
              refine (unhide KA).mono ?_
              rintro e w3 ⟨v3, rfl, ho3, b3⟩
              obtain ⟨Z, hZ⟩ : ∃ Z, arcL (ys.map (ndF (datW wr))) = Z := ⟨_, rfl⟩
              rw [hZ] at ho3
              obtain ⟨a3, c3, rfl, hat3, -, -⟩ := OwnB.at ho3
              obtain ⟨z, hz⟩ : ∃ z, Z.length = z := ⟨_, rfl⟩
              rw [hz]
              have hzb : z ≤ 100000 := by
                have := unhide HSY
                rw [← hz, ← hZ, arc_len]
                omega
              have HB3 := hide (low_trans (unhide HB2) b3)
              have KS := hide (sameBytes_any (w := w3) (c := c3) (c2 := c) hz (unhide HN) (by omega) (by omega) hat3 ((unhide HA0).low (unhide HB3)))
              obtain ⟨sm, hsm⟩ : ∃ sm, decide (Z = b) = sm := ⟨_, rfl⟩
              rw [hsm] at KS
              have HZZ := hide hZ
              have HSM := hide hsm
              have HAT3 := hide ((unhide HAT2).low b3)
              have HDY3 := hide ((unhide HDY).low b3)
              clear hZ ho3 hat3 hz b3 hsm KA
              go_wp2_with (go_at_call 23; fail)
              refine (unhide KS).mono ?_
              rintro e w4 ⟨rfl, q, hw4⟩
              have b4 : Below w3.heap.size w3 w4 := by rw [hw4]; exact low_q _
              have HB4 := hide (low_trans (unhide HB3) b4)
              have HAT4b := hide ((unhide HAT3).low b4)
              have HDY4 := hide ((unhide HDY3).low b4)
              clear b4 hw4 KS
              cases sm with
              | false =>
                have HZ := hide (unhide HUNP 15 (Or.inr ⟨unhide HCH, Or.inl ⟨packs_no (unhide HDG).2 (chk_nm _ _ (unhide HCH)).1 (unhide HP2).1 (unhide HP2).2 (by rw [unhide HZZ]; exact of_decide_eq_false (unhide HSM)), rfl⟩⟩))
                go_wp2
                go_ret2
                exact ⟨⟨15, unhide HZ, Or.inl ⟨by decide, rfl⟩⟩, unhide HB4⟩
              | true =>
                have hzeq : arcL (ys.map (ndF (datW wr))) = b := (unhide HZZ).trans (of_decide_eq_true (unhide HSM))
                have HZ := hide (unhide HUNP 0 (Or.inr ⟨unhide HCH, Or.inr ⟨packs_yes (unhide HDG).2 (chk_nm _ _ (unhide HCH)).1 (unhide HP2).1 (unhide HP2).2 (by rw [(unhide HDG).2]; have := unhide HSZ; omega) hzeq, rfl⟩⟩))
                have HLZ : Hid (L.map sfN = ys.map (ndF (datW wr))) := hide (packs_back (unhide HL) hzeq (fun p hp => by
                  have hp2 := (((unhide HP2).1.map (ndF (datW wr))).mem_iff.1 hp)
                  rw [(unhide HDG).2] at hp2
                  have h1 := sizes_mem hp2
                  have h2 := sizes_name hp2
                  have h3 := unhide HSZ
                  unfold ndOk
                  omega))
                have HFD : Hid (FdAt w4 a2 (L.map sfN)) := hide (by rw [unhide HLZ]; exact fd_of (unhide HAT4b) (unhide HDY4))
                clear hzeq
                go_wp2
                go_ret2
                exact ⟨⟨0, unhide HZ, Or.inr ⟨rfl, a2, c2, L, unhide HL, by rw [unhide HK]; rfl, unhide HFD⟩⟩, unhide HB4⟩
      · have u0 : ((c0.toNat : Int) == 80) = false := by
          have : c0.toNat ≠ 80 := fun e => d0 (UInt8.toNat_inj.1 e)
          simp
          omega
        have HNO : Hid (¬ (b.drop m).take 4 = [80, 75, 3, 4]) := hide (by
          rw [unhide HMK]
          intro e
          simp only [List.cons.injEq] at e
          exact d0 (by simp [e]))
        clear HMK
        have HL : Hid (headsR b = some L) := hide (by rw [unhide hhd, headsR_no (unhide HNO)]; simp)
        obtain ⟨k, hk⟩ : ∃ k, L.length = k := ⟨_, rfl⟩
        have hxk : xs.length = k := by rw [(unhide hru).len]; exact hk
        have hsl : (L.map Sf.crc).length = k := by rw [List.length_map]; exact hk
        obtain ⟨a4, c4, e4, hat4, hc4⟩ := FRow.at (unhide hru).l
        obtain ⟨a5, c5, e5, hat5⟩ := IRow.at (unhide hru).s
        rw [hxk] at e4 hc4
        rw [hsl] at e5
        subst e4
        subst e5
        have hk667 : k ≤ 667 := by omega
        have HK := hide hk
        have HXK := hide hxk
        have HAT4 := hide hat4
        have HAT5 := hide hat5
        have HLOW := hide (unhide hru).low
        have HBN : Hid (∀ s ∈ L, s.d.length ≤ 60000 ∧ s.nm.length ≤ 60000) := hide (fun s hs => by
          have q1 := sizes_mem (List.mem_map_of_mem (f := sfN) hs)
          have q2 := sizes_name (List.mem_map_of_mem (f := sfN) hs)
          have q3 := unhide hsz
          unfold sfN at q1 q2
          simp only at q1 q2
          constructor
          · have : s.d.length ≤ sizesL (L.map sfN) := q1
            omega
          · have : s.nm.length ≤ sizesL (L.map sfN) := q2
            omega)
        have HDG := hide ((unhide hru).datg (fun s hs => by have := (unhide HBN s hs).1; omega) (fun s hs => by have := (unhide HBN s hs).2; omega))
        have HNMS := hide (unhide hru).nm
        have HSZ : Hid (sizesL (L.map sfN) ≤ 60000) := hide (by have := unhide hsz; omega)
        clear hk hxk hsl hat4 hat5 hhd HNO hru hsz HA HF
        by_cases h100 : 100 < k
        · have h100' : (100 : Int) < (k : Int) := by omega
          have HZ : Hid (UnpS b 14) := hide (Or.inr (Or.inr ⟨L, by rw [unhide HN]; omega, unhide HL, Or.inl ⟨by rw [unhide HK]; exact h100, rfl⟩⟩))
          go_wp2
          go_ret2
          exact ⟨⟨14, unhide HZ, Or.inl ⟨by decide, rfl⟩⟩, unhide HLOW⟩
        have h100' : ¬ (100 : Int) < (k : Int) := by omega
        have HUNP : Hid (∀ E, ((chkE [] L ≠ 0 ∧ E = chkE [] L) ∨ (chkE [] L = 0 ∧ ((¬ Packs L b ∧ E = 15) ∨ (Packs L b ∧ E = 0)))) → UnpS b E) := hide (fun E hE => Or.inr (Or.inr ⟨L, by rw [unhide HN]; omega, unhide HL, Or.inr ⟨by rw [unhide HK]; omega, hE⟩⟩))
        go_wp2
        go_loopw [9, 10] (fun v9 _ wk => ∃ i : Nat, i ≤ k ∧ v9 = .int .i64 (i : Int) ∧ Hid (chkE [] (L.take i) = 0) ∧ Hid (Below wr.heap.size wr wk)) (fun v9 _ _ => k - (intOf v9).toNat)
        case atStart => exact ⟨0, Nat.zero_le _, rfl, hide rfl, hide (Below.refl _ _)⟩
        case round =>
          rename World => wk
          obtain ⟨i, hi, rfl, hch, hbk⟩ := hrel
          by_cases hlt : i < k
          · have hlt' : (i : Int) < (k : Int) := by omega
            have hiL : i < L.length := by rw [unhide HK]; exact hlt
            have hiX : i < xs.length := by rw [unhide HXK]; exact hlt
            obtain ⟨i1, hi1⟩ : ∃ i1, i + 1 = i1 := ⟨_, rfl⟩
            have e1 : (i : Int) + 1 = (i1 : Int) := by omega
            have s22 : ∀ W, (Instr.slice 22 (.slice a4 k c4) none (some (.int .i64 (i1 : Int))) none).run Tryz.prog W = .ok (.slice a4 i1 c4) W := fun W => slice22_to (by omega) hc4 W
            obtain ⟨N, hNN⟩ : ∃ N, nmE [] ((L.map Sf.nm).take i1) = N := ⟨_, rfl⟩
            have KN := hide (refNames_any (w := wk) (a := a4) (n := i1) (c := c4) (xs := xs.take i1) (by rw [List.length_take, unhide HXK]; omega) (by omega) (fun x hx => by
              have hx2 := List.mem_of_mem_take hx
              have hx3 : x.nm ∈ xs.map Fl.nm := List.mem_map_of_mem hx2
              rw [unhide HNMS] at hx3
              obtain ⟨s, hs, e⟩ := List.mem_map.1 hx3
              have := (unhide HBN s hs).2
              rw [← e]
              omega) (((unhide HAT4).low (unhide hbk)).take i1))
            rw [List.map_take, unhide HNMS, hNN] at KN
            obtain ⟨q1, q2, q3⟩ := next_name hiL (unhide hch)
            rw [hi1, hNN] at q1
            rw [hi1] at q2 q3
            have HQ1 := hide q1
            have HQ2 := hide q2
            have HQ3 := hide q3
            clear q1 q2 q3 hNN hch
            go_wp2_with (go_at_call 93; fail)
            refine (unhide KN).mono ?_
            rintro e w2 ⟨rfl, b2⟩
            have HB2 := hide (low_trans (unhide hbk) b2)
            clear b2 KN hbk s22
            by_cases hNz : N = 0
            · subst hNz
              obtain ⟨hu, hv⟩ : (chkE [] L = if (crcL L[i].d).toNat ≠ L[i].crc then 16 else chkE (lowL L[i].nm :: lowsR (L.take i) []) (L.drop i1)) ∧ (chkE [] (L.take i1) = if (crcL L[i].d).toNat ≠ L[i].crc then 16 else 0) := ⟨by rw [unhide HQ2]; exact one_sum (unhide HQ1).symm, by rw [unhide HQ3, one_sum (unhide HQ1).symm]; rfl⟩
              obtain ⟨B4, O4, rfl, -, -⟩ := ((unhide HAT4).low (unhide HB2)).get hiX
              obtain ⟨g5, rfl, -⟩ := unhide HAT5 i (by rw [List.length_map]; exact hiL)
              have hdat : BAt wr xs[i].a L[i].d ∧ L[i].d.length = xs[i].n := by
                have h1 := (unhide HDG).1.at_ xs[i] (List.getElem_mem hiX)
                have h3 := (unhide HDG).1.len xs[i] (List.getElem_mem hiX)
                have h2 : (xs.map (ndF (datW wr)))[i]? = (L.map sfN)[i]? := by rw [(unhide HDG).2]
                simp [hiX, hiL, ndF, sfN] at h2
                rw [h2.2] at h1 h3
                exact ⟨h1, h3⟩
              have hdl := (unhide HBN _ (List.getElem_mem hiL)).1
              have hcells : ∀ wx, Below wr.heap.size wr wx → wx.cell? ⟨B4, O4 + i * 2 + 1, none⟩ = some (.slice xs[i].a xs[i].n xs[i].c) ∧ wx.cell? ⟨g5, i, none⟩ = some (.int .i64 ((L[i].crc : Nat) : Int)) := fun wx hb => by
                obtain ⟨B, O, e, -, z1⟩ := ((unhide HAT4).low hb).get hiX
                cases e
                obtain ⟨g, e2, z2⟩ := unhide HAT5 i (by rw [List.length_map]; exact hiL)
                cases e2
                have z3 := (hb.cell (lt_of_cell z2)).trans z2
                rw [List.getElem_map, Nat.zero_add] at z3
                exact ⟨z1, z3⟩
              obtain ⟨x, hxx⟩ : ∃ x, xs[i] = x := ⟨_, rfl⟩
              obtain ⟨s, hss⟩ : ∃ s, L[i] = s := ⟨_, rfl⟩
              rw [hxx] at hdat hcells
              rw [hss] at hdat hcells hdl hu hv
              obtain ⟨xnm, xa, xn, xc⟩ := x
              obtain ⟨snm, sd, scr⟩ := s
              simp only at hdat hcells hdl hu hv
              obtain ⟨CK, hCK⟩ : ∃ CK, (crcL sd).toNat = CK := ⟨_, rfl⟩
              have hCKb : CK < 4294967296 := by rw [← hCK]; exact u32_lt _
              rw [hCK] at hu hv
              have HC : Hid (∀ wx, Below wr.heap.size wr wx → Calls Tryz.prog 30 #[.slice xa xn xc] wx fun e w' => e = .returned (.int .u32 (CK : Int)) ∧ w' = wx) := hide (fun wx hb => by
                have kk := refCrc_any (c := xc) hdat.2 (by omega) (hdat.1.low hb)
                rw [hCK] at kk
                exact kk)
              have HC2 := hide (fun wx (hS : wx.cell? ⟨B4, O4 + i * 2 + 1, none⟩ = some (.slice xa xn xc) ∧ wx.cell? ⟨g5, i, none⟩ = some (.int .i64 ((scr : Nat) : Int)) ∧ Below wr.heap.size wr wx) => unhide HC wx hS.2.2)
              have hS : w2.cell? ⟨B4, O4 + i * 2 + 1, none⟩ = some (.slice xa xn xc) ∧ w2.cell? ⟨g5, i, none⟩ = some (.int .i64 ((scr : Nat) : Int)) ∧ Below wr.heap.size wr w2 := ⟨(hcells _ (unhide HB2)).1, (hcells _ (unhide HB2)).2, unhide HB2⟩
              have hSd : w2.drew.cell? ⟨B4, O4 + i * 2 + 1, none⟩ = some (.slice xa xn xc) ∧ w2.drew.cell? ⟨g5, i, none⟩ = some (.int .i64 ((scr : Nat) : Int)) ∧ Below wr.heap.size wr w2.drew := ⟨(hcells _ (unhide HB2).drew).1, (hcells _ (unhide HB2).drew).2, (unhide HB2).drew⟩
              have w1 : IntKind.i64.wrap (CK : Int) = (CK : Int) := by simp [IntKind.wrap, IntKind.bits, IntKind.signed]; omega
              have HU := hide hu
              have HV := hide hv
              clear hu hv hdat hcells hxx hss hCK hdl HC HQ1 HQ2 HQ3
              go_wp2
              go_region_held3 (fun wx => wx.cell? ⟨B4, O4 + i * 2 + 1, none⟩ = some (.slice xa xn xc) ∧ wx.cell? ⟨g5, i, none⟩ = some (.int .i64 ((scr : Nat) : Int)) ∧ Below wr.heap.size wr wx)
                (first | assumption | exact hS | exact hSd)
                (first | (go_at_call 30; refine (unhide HC2 _ (by assumption)).mono ?_; rintro e w9 ⟨rfl, rfl⟩))
              have HB9 := hide hSd.2.2
              clear hS hSd HC2
              by_cases hcr : CK = scr
              · subst hcr
                have z1 : ((CK : Int) != (CK : Int)) = false := by simp
                have HV2 : Hid (chkE [] (L.take i1) = 0) := hide (by rw [unhide HV, if_neg (by simp)])
                go_wp2
                go_roundw
                case rel => exact ⟨i1, by omega, rfl, HV2, HB9⟩
                case measure => simp [intOf]; omega
              · have z1 : ((CK : Int) != (scr : Int)) = true := by simp; omega
                have HU2 : Hid (chkE [] L = 16) := hide (by rw [unhide HU, if_pos hcr])
                have HZ := hide (unhide HUNP 16 (Or.inl ⟨by rw [unhide HU2]; decide, (unhide HU2).symm⟩))
                go_wp2
                go_ret2
                exact ⟨⟨16, unhide HZ, Or.inl ⟨by decide, rfl⟩⟩, low_trans (unhide HLOW) (unhide HB9)⟩
            · have z1 : (N != 0) = true := by simpa using hNz
              have HU2 : Hid (chkE [] L = N) := hide (by
                have h1 := unhide HQ1
                have h2 : nmE (lowsR (L.take i) []) [L[i].nm] ≠ 0 := by rw [← h1]; exact hNz
                rw [unhide HQ2, one_name h2, ← h1])
              have HZ := hide (unhide HUNP N (Or.inl ⟨by rw [unhide HU2]; exact hNz, (unhide HU2).symm⟩))
              clear HQ1 HQ2 HQ3
              go_wp2
              go_ret2
              exact ⟨⟨N, unhide HZ, Or.inl ⟨hNz, rfl⟩⟩, low_trans (unhide HLOW) (unhide HB2)⟩
          · have hik : i = k := by omega
            subst hik
            have HCH : Hid (chkE [] L = 0) := hide (by
              have h1 := unhide hch
              rw [List.take_of_length_le (by rw [unhide HK]; exact Nat.le_refl _)] at h1
              exact h1)
            have KB := hide (refByName_any (w := wk) (c := c4) (unhide HXK) (by omega) ((unhide HAT4).low (unhide hbk)))
            clear hch
            go_wp2_with (go_at_call 22; fail)
            refine (unhide KB).mono ?_
            rintro e w2 ⟨v2, ys, rfl, hr2, hp2, hi2, b2⟩
            obtain ⟨a2, c2, rfl, hat2, -⟩ := FRow.at hr2
            have hyk : ys.length = i := by rw [hp2.length_eq]; exact unhide HXK
            rw [hyk]
            have hdy := ((unhide HDG).1.low (low_trans (unhide hbk) b2)).perm hp2
            have hsy : sizesL (ys.map (ndF (datW wr))) ≤ 60000 := by
              rw [sizes_perm (hp2.map _), (unhide HDG).2]
              exact unhide HSZ
            have KA := hide (refArc_any (c := c2) hyk (by omega) hat2 hdy (by omega))
            have HP2 := hide (And.intro hp2 hi2)
            have HAT2 := hide hat2
            have HYK := hide hyk
            have HDY := hide hdy
            have HSY := hide hsy
            have HB2 := hide (low_trans (unhide HLOW) (low_trans (unhide hbk) b2))
            clear hr2 hp2 hi2 b2 hat2 hyk hdy hsy KB hbk
            go_wp2_with (go_at_call 94; fail)
            refine (unhide KA).mono ?_
            rintro e w3 ⟨v3, rfl, ho3, b3⟩
            obtain ⟨Z, hZ⟩ : ∃ Z, arcL (ys.map (ndF (datW wr))) = Z := ⟨_, rfl⟩
            rw [hZ] at ho3
            obtain ⟨a3, c3, rfl, hat3, -, -⟩ := OwnB.at ho3
            obtain ⟨z, hz⟩ : ∃ z, Z.length = z := ⟨_, rfl⟩
            rw [hz]
            have hzb : z ≤ 100000 := by
              have := unhide HSY
              rw [← hz, ← hZ, arc_len]
              omega
            have HB3 := hide (low_trans (unhide HB2) b3)
            have KS := hide (sameBytes_any (w := w3) (c := c3) (c2 := c) hz (unhide HN) (by omega) (by omega) hat3 ((unhide HA0).low (unhide HB3)))
            obtain ⟨sm, hsm⟩ : ∃ sm, decide (Z = b) = sm := ⟨_, rfl⟩
            rw [hsm] at KS
            have HZZ := hide hZ
            have HSM := hide hsm
            have HAT3 := hide ((unhide HAT2).low b3)
            have HDY3 := hide ((unhide HDY).low b3)
            clear hZ ho3 hat3 hz b3 hsm KA
            go_wp2_with (go_at_call 23; fail)
            refine (unhide KS).mono ?_
            rintro e w4 ⟨rfl, q, hw4⟩
            have b4 : Below w3.heap.size w3 w4 := by rw [hw4]; exact low_q _
            have HB4 := hide (low_trans (unhide HB3) b4)
            have HAT4b := hide ((unhide HAT3).low b4)
            have HDY4 := hide ((unhide HDY3).low b4)
            clear b4 hw4 KS
            cases sm with
            | false =>
              have HZ := hide (unhide HUNP 15 (Or.inr ⟨unhide HCH, Or.inl ⟨packs_no (unhide HDG).2 (chk_nm _ _ (unhide HCH)).1 (unhide HP2).1 (unhide HP2).2 (by rw [unhide HZZ]; exact of_decide_eq_false (unhide HSM)), rfl⟩⟩))
              go_wp2
              go_ret2
              exact ⟨⟨15, unhide HZ, Or.inl ⟨by decide, rfl⟩⟩, unhide HB4⟩
            | true =>
              have hzeq : arcL (ys.map (ndF (datW wr))) = b := (unhide HZZ).trans (of_decide_eq_true (unhide HSM))
              have HZ := hide (unhide HUNP 0 (Or.inr ⟨unhide HCH, Or.inr ⟨packs_yes (unhide HDG).2 (chk_nm _ _ (unhide HCH)).1 (unhide HP2).1 (unhide HP2).2 (by rw [(unhide HDG).2]; have := unhide HSZ; omega) hzeq, rfl⟩⟩))
              have HLZ : Hid (L.map sfN = ys.map (ndF (datW wr))) := hide (packs_back (unhide HL) hzeq (fun p hp => by
                have hp2 := (((unhide HP2).1.map (ndF (datW wr))).mem_iff.1 hp)
                rw [(unhide HDG).2] at hp2
                have h1 := sizes_mem hp2
                have h2 := sizes_name hp2
                have h3 := unhide HSZ
                unfold ndOk
                omega))
              have HFD : Hid (FdAt w4 a2 (L.map sfN)) := hide (by rw [unhide HLZ]; exact fd_of (unhide HAT4b) (unhide HDY4))
              clear hzeq
              go_wp2
              go_ret2
              exact ⟨⟨0, unhide HZ, Or.inr ⟨rfl, a2, c2, L, unhide HL, by rw [unhide HK]; rfl, unhide HFD⟩⟩, unhide HB4⟩
    · have h4' : ¬ (m : Int) + 4 ≤ (n : Int) := by omega
      have HNO : Hid (¬ (b.drop m).take 4 = [80, 75, 3, 4]) := hide (mark_out (by rw [unhide HN]; exact h4))
      have HL : Hid (headsR b = some L) := hide (by rw [unhide hhd, headsR_no (unhide HNO)]; simp)
      obtain ⟨k, hk⟩ : ∃ k, L.length = k := ⟨_, rfl⟩
      have hxk : xs.length = k := by rw [(unhide hru).len]; exact hk
      have hsl : (L.map Sf.crc).length = k := by rw [List.length_map]; exact hk
      obtain ⟨a4, c4, e4, hat4, hc4⟩ := FRow.at (unhide hru).l
      obtain ⟨a5, c5, e5, hat5⟩ := IRow.at (unhide hru).s
      rw [hxk] at e4 hc4
      rw [hsl] at e5
      subst e4
      subst e5
      have hk667 : k ≤ 667 := by omega
      have HK := hide hk
      have HXK := hide hxk
      have HAT4 := hide hat4
      have HAT5 := hide hat5
      have HLOW := hide (unhide hru).low
      have HBN : Hid (∀ s ∈ L, s.d.length ≤ 60000 ∧ s.nm.length ≤ 60000) := hide (fun s hs => by
        have q1 := sizes_mem (List.mem_map_of_mem (f := sfN) hs)
        have q2 := sizes_name (List.mem_map_of_mem (f := sfN) hs)
        have q3 := unhide hsz
        unfold sfN at q1 q2
        simp only at q1 q2
        constructor
        · have : s.d.length ≤ sizesL (L.map sfN) := q1
          omega
        · have : s.nm.length ≤ sizesL (L.map sfN) := q2
          omega)
      have HDG := hide ((unhide hru).datg (fun s hs => by have := (unhide HBN s hs).1; omega) (fun s hs => by have := (unhide HBN s hs).2; omega))
      have HNMS := hide (unhide hru).nm
      have HSZ : Hid (sizesL (L.map sfN) ≤ 60000) := hide (by have := unhide hsz; omega)
      clear hk hxk hsl hat4 hat5 hhd HNO hru hsz HA HF
      by_cases h100 : 100 < k
      · have h100' : (100 : Int) < (k : Int) := by omega
        have HZ : Hid (UnpS b 14) := hide (Or.inr (Or.inr ⟨L, by rw [unhide HN]; omega, unhide HL, Or.inl ⟨by rw [unhide HK]; exact h100, rfl⟩⟩))
        go_wp2
        go_ret2
        exact ⟨⟨14, unhide HZ, Or.inl ⟨by decide, rfl⟩⟩, unhide HLOW⟩
      have h100' : ¬ (100 : Int) < (k : Int) := by omega
      have HUNP : Hid (∀ E, ((chkE [] L ≠ 0 ∧ E = chkE [] L) ∨ (chkE [] L = 0 ∧ ((¬ Packs L b ∧ E = 15) ∨ (Packs L b ∧ E = 0)))) → UnpS b E) := hide (fun E hE => Or.inr (Or.inr ⟨L, by rw [unhide HN]; omega, unhide HL, Or.inr ⟨by rw [unhide HK]; omega, hE⟩⟩))
      go_wp2
      go_loopw [9, 10] (fun v9 _ wk => ∃ i : Nat, i ≤ k ∧ v9 = .int .i64 (i : Int) ∧ Hid (chkE [] (L.take i) = 0) ∧ Hid (Below wr.heap.size wr wk)) (fun v9 _ _ => k - (intOf v9).toNat)
      case atStart => exact ⟨0, Nat.zero_le _, rfl, hide rfl, hide (Below.refl _ _)⟩
      case round =>
        rename World => wk
        obtain ⟨i, hi, rfl, hch, hbk⟩ := hrel
        by_cases hlt : i < k
        · have hlt' : (i : Int) < (k : Int) := by omega
          have hiL : i < L.length := by rw [unhide HK]; exact hlt
          have hiX : i < xs.length := by rw [unhide HXK]; exact hlt
          obtain ⟨i1, hi1⟩ : ∃ i1, i + 1 = i1 := ⟨_, rfl⟩
          have e1 : (i : Int) + 1 = (i1 : Int) := by omega
          have s22 : ∀ W, (Instr.slice 22 (.slice a4 k c4) none (some (.int .i64 (i1 : Int))) none).run Tryz.prog W = .ok (.slice a4 i1 c4) W := fun W => slice22_to (by omega) hc4 W
          obtain ⟨N, hNN⟩ : ∃ N, nmE [] ((L.map Sf.nm).take i1) = N := ⟨_, rfl⟩
          have KN := hide (refNames_any (w := wk) (a := a4) (n := i1) (c := c4) (xs := xs.take i1) (by rw [List.length_take, unhide HXK]; omega) (by omega) (fun x hx => by
            have hx2 := List.mem_of_mem_take hx
            have hx3 : x.nm ∈ xs.map Fl.nm := List.mem_map_of_mem hx2
            rw [unhide HNMS] at hx3
            obtain ⟨s, hs, e⟩ := List.mem_map.1 hx3
            have := (unhide HBN s hs).2
            rw [← e]
            omega) (((unhide HAT4).low (unhide hbk)).take i1))
          rw [List.map_take, unhide HNMS, hNN] at KN
          obtain ⟨q1, q2, q3⟩ := next_name hiL (unhide hch)
          rw [hi1, hNN] at q1
          rw [hi1] at q2 q3
          have HQ1 := hide q1
          have HQ2 := hide q2
          have HQ3 := hide q3
          clear q1 q2 q3 hNN hch
          go_wp2_with (go_at_call 93; fail)
          refine (unhide KN).mono ?_
          rintro e w2 ⟨rfl, b2⟩
          have HB2 := hide (low_trans (unhide hbk) b2)
          clear b2 KN hbk s22
          by_cases hNz : N = 0
          · subst hNz
            obtain ⟨hu, hv⟩ : (chkE [] L = if (crcL L[i].d).toNat ≠ L[i].crc then 16 else chkE (lowL L[i].nm :: lowsR (L.take i) []) (L.drop i1)) ∧ (chkE [] (L.take i1) = if (crcL L[i].d).toNat ≠ L[i].crc then 16 else 0) := ⟨by rw [unhide HQ2]; exact one_sum (unhide HQ1).symm, by rw [unhide HQ3, one_sum (unhide HQ1).symm]; rfl⟩
            obtain ⟨B4, O4, rfl, -, -⟩ := ((unhide HAT4).low (unhide HB2)).get hiX
            obtain ⟨g5, rfl, -⟩ := unhide HAT5 i (by rw [List.length_map]; exact hiL)
            have hdat : BAt wr xs[i].a L[i].d ∧ L[i].d.length = xs[i].n := by
              have h1 := (unhide HDG).1.at_ xs[i] (List.getElem_mem hiX)
              have h3 := (unhide HDG).1.len xs[i] (List.getElem_mem hiX)
              have h2 : (xs.map (ndF (datW wr)))[i]? = (L.map sfN)[i]? := by rw [(unhide HDG).2]
              simp [hiX, hiL, ndF, sfN] at h2
              rw [h2.2] at h1 h3
              exact ⟨h1, h3⟩
            have hdl := (unhide HBN _ (List.getElem_mem hiL)).1
            have hcells : ∀ wx, Below wr.heap.size wr wx → wx.cell? ⟨B4, O4 + i * 2 + 1, none⟩ = some (.slice xs[i].a xs[i].n xs[i].c) ∧ wx.cell? ⟨g5, i, none⟩ = some (.int .i64 ((L[i].crc : Nat) : Int)) := fun wx hb => by
              obtain ⟨B, O, e, -, z1⟩ := ((unhide HAT4).low hb).get hiX
              cases e
              obtain ⟨g, e2, z2⟩ := unhide HAT5 i (by rw [List.length_map]; exact hiL)
              cases e2
              have z3 := (hb.cell (lt_of_cell z2)).trans z2
              rw [List.getElem_map, Nat.zero_add] at z3
              exact ⟨z1, z3⟩
            obtain ⟨x, hxx⟩ : ∃ x, xs[i] = x := ⟨_, rfl⟩
            obtain ⟨s, hss⟩ : ∃ s, L[i] = s := ⟨_, rfl⟩
            rw [hxx] at hdat hcells
            rw [hss] at hdat hcells hdl hu hv
            obtain ⟨xnm, xa, xn, xc⟩ := x
            obtain ⟨snm, sd, scr⟩ := s
            simp only at hdat hcells hdl hu hv
            obtain ⟨CK, hCK⟩ : ∃ CK, (crcL sd).toNat = CK := ⟨_, rfl⟩
            have hCKb : CK < 4294967296 := by rw [← hCK]; exact u32_lt _
            rw [hCK] at hu hv
            have HC : Hid (∀ wx, Below wr.heap.size wr wx → Calls Tryz.prog 30 #[.slice xa xn xc] wx fun e w' => e = .returned (.int .u32 (CK : Int)) ∧ w' = wx) := hide (fun wx hb => by
              have kk := refCrc_any (c := xc) hdat.2 (by omega) (hdat.1.low hb)
              rw [hCK] at kk
              exact kk)
            have HC2 := hide (fun wx (hS : wx.cell? ⟨B4, O4 + i * 2 + 1, none⟩ = some (.slice xa xn xc) ∧ wx.cell? ⟨g5, i, none⟩ = some (.int .i64 ((scr : Nat) : Int)) ∧ Below wr.heap.size wr wx) => unhide HC wx hS.2.2)
            have hS : w2.cell? ⟨B4, O4 + i * 2 + 1, none⟩ = some (.slice xa xn xc) ∧ w2.cell? ⟨g5, i, none⟩ = some (.int .i64 ((scr : Nat) : Int)) ∧ Below wr.heap.size wr w2 := ⟨(hcells _ (unhide HB2)).1, (hcells _ (unhide HB2)).2, unhide HB2⟩
            have hSd : w2.drew.cell? ⟨B4, O4 + i * 2 + 1, none⟩ = some (.slice xa xn xc) ∧ w2.drew.cell? ⟨g5, i, none⟩ = some (.int .i64 ((scr : Nat) : Int)) ∧ Below wr.heap.size wr w2.drew := ⟨(hcells _ (unhide HB2).drew).1, (hcells _ (unhide HB2).drew).2, (unhide HB2).drew⟩
            have w1 : IntKind.i64.wrap (CK : Int) = (CK : Int) := by simp [IntKind.wrap, IntKind.bits, IntKind.signed]; omega
            have HU := hide hu
            have HV := hide hv
            clear hu hv hdat hcells hxx hss hCK hdl HC HQ1 HQ2 HQ3
            go_wp2
            go_region_held3 (fun wx => wx.cell? ⟨B4, O4 + i * 2 + 1, none⟩ = some (.slice xa xn xc) ∧ wx.cell? ⟨g5, i, none⟩ = some (.int .i64 ((scr : Nat) : Int)) ∧ Below wr.heap.size wr wx)
              (first | assumption | exact hS | exact hSd)
              (first | (go_at_call 30; refine (unhide HC2 _ (by assumption)).mono ?_; rintro e w9 ⟨rfl, rfl⟩))
            have HB9 := hide hSd.2.2
            clear hS hSd HC2
            by_cases hcr : CK = scr
            · subst hcr
              have z1 : ((CK : Int) != (CK : Int)) = false := by simp
              have HV2 : Hid (chkE [] (L.take i1) = 0) := hide (by rw [unhide HV, if_neg (by simp)])
              go_wp2
              go_roundw
              case rel => exact ⟨i1, by omega, rfl, HV2, HB9⟩
              case measure => simp [intOf]; omega
            · have z1 : ((CK : Int) != (scr : Int)) = true := by simp; omega
              have HU2 : Hid (chkE [] L = 16) := hide (by rw [unhide HU, if_pos hcr])
              have HZ := hide (unhide HUNP 16 (Or.inl ⟨by rw [unhide HU2]; decide, (unhide HU2).symm⟩))
              go_wp2
              go_ret2
              exact ⟨⟨16, unhide HZ, Or.inl ⟨by decide, rfl⟩⟩, low_trans (unhide HLOW) (unhide HB9)⟩
          · have z1 : (N != 0) = true := by simpa using hNz
            have HU2 : Hid (chkE [] L = N) := hide (by
              have h1 := unhide HQ1
              have h2 : nmE (lowsR (L.take i) []) [L[i].nm] ≠ 0 := by rw [← h1]; exact hNz
              rw [unhide HQ2, one_name h2, ← h1])
            have HZ := hide (unhide HUNP N (Or.inl ⟨by rw [unhide HU2]; exact hNz, (unhide HU2).symm⟩))
            clear HQ1 HQ2 HQ3
            go_wp2
            go_ret2
            exact ⟨⟨N, unhide HZ, Or.inl ⟨hNz, rfl⟩⟩, low_trans (unhide HLOW) (unhide HB2)⟩
        · have hik : i = k := by omega
          subst hik
          have HCH : Hid (chkE [] L = 0) := hide (by
            have h1 := unhide hch
            rw [List.take_of_length_le (by rw [unhide HK]; exact Nat.le_refl _)] at h1
            exact h1)
          have KB := hide (refByName_any (w := wk) (c := c4) (unhide HXK) (by omega) ((unhide HAT4).low (unhide hbk)))
          clear hch
          go_wp2_with (go_at_call 22; fail)
          refine (unhide KB).mono ?_
          rintro e w2 ⟨v2, ys, rfl, hr2, hp2, hi2, b2⟩
          obtain ⟨a2, c2, rfl, hat2, -⟩ := FRow.at hr2
          have hyk : ys.length = i := by rw [hp2.length_eq]; exact unhide HXK
          rw [hyk]
          have hdy := ((unhide HDG).1.low (low_trans (unhide hbk) b2)).perm hp2
          have hsy : sizesL (ys.map (ndF (datW wr))) ≤ 60000 := by
            rw [sizes_perm (hp2.map _), (unhide HDG).2]
            exact unhide HSZ
          have KA := hide (refArc_any (c := c2) hyk (by omega) hat2 hdy (by omega))
          have HP2 := hide (And.intro hp2 hi2)
          have HAT2 := hide hat2
          have HYK := hide hyk
          have HDY := hide hdy
          have HSY := hide hsy
          have HB2 := hide (low_trans (unhide HLOW) (low_trans (unhide hbk) b2))
          clear hr2 hp2 hi2 b2 hat2 hyk hdy hsy KB hbk
          go_wp2_with (go_at_call 94; fail)
          refine (unhide KA).mono ?_
          rintro e w3 ⟨v3, rfl, ho3, b3⟩
          obtain ⟨Z, hZ⟩ : ∃ Z, arcL (ys.map (ndF (datW wr))) = Z := ⟨_, rfl⟩
          rw [hZ] at ho3
          obtain ⟨a3, c3, rfl, hat3, -, -⟩ := OwnB.at ho3
          obtain ⟨z, hz⟩ : ∃ z, Z.length = z := ⟨_, rfl⟩
          rw [hz]
          have hzb : z ≤ 100000 := by
            have := unhide HSY
            rw [← hz, ← hZ, arc_len]
            omega
          have HB3 := hide (low_trans (unhide HB2) b3)
          have KS := hide (sameBytes_any (w := w3) (c := c3) (c2 := c) hz (unhide HN) (by omega) (by omega) hat3 ((unhide HA0).low (unhide HB3)))
          obtain ⟨sm, hsm⟩ : ∃ sm, decide (Z = b) = sm := ⟨_, rfl⟩
          rw [hsm] at KS
          have HZZ := hide hZ
          have HSM := hide hsm
          have HAT3 := hide ((unhide HAT2).low b3)
          have HDY3 := hide ((unhide HDY).low b3)
          clear hZ ho3 hat3 hz b3 hsm KA
          go_wp2_with (go_at_call 23; fail)
          refine (unhide KS).mono ?_
          rintro e w4 ⟨rfl, q, hw4⟩
          have b4 : Below w3.heap.size w3 w4 := by rw [hw4]; exact low_q _
          have HB4 := hide (low_trans (unhide HB3) b4)
          have HAT4b := hide ((unhide HAT3).low b4)
          have HDY4 := hide ((unhide HDY3).low b4)
          clear b4 hw4 KS
          cases sm with
          | false =>
            have HZ := hide (unhide HUNP 15 (Or.inr ⟨unhide HCH, Or.inl ⟨packs_no (unhide HDG).2 (chk_nm _ _ (unhide HCH)).1 (unhide HP2).1 (unhide HP2).2 (by rw [unhide HZZ]; exact of_decide_eq_false (unhide HSM)), rfl⟩⟩))
            go_wp2
            go_ret2
            exact ⟨⟨15, unhide HZ, Or.inl ⟨by decide, rfl⟩⟩, unhide HB4⟩
          | true =>
            have hzeq : arcL (ys.map (ndF (datW wr))) = b := (unhide HZZ).trans (of_decide_eq_true (unhide HSM))
            have HZ := hide (unhide HUNP 0 (Or.inr ⟨unhide HCH, Or.inr ⟨packs_yes (unhide HDG).2 (chk_nm _ _ (unhide HCH)).1 (unhide HP2).1 (unhide HP2).2 (by rw [(unhide HDG).2]; have := unhide HSZ; omega) hzeq, rfl⟩⟩))
            have HLZ : Hid (L.map sfN = ys.map (ndF (datW wr))) := hide (packs_back (unhide HL) hzeq (fun p hp => by
              have hp2 := (((unhide HP2).1.map (ndF (datW wr))).mem_iff.1 hp)
              rw [(unhide HDG).2] at hp2
              have h1 := sizes_mem hp2
              have h2 := sizes_name hp2
              have h3 := unhide HSZ
              unfold ndOk
              omega))
            have HFD : Hid (FdAt w4 a2 (L.map sfN)) := hide (by rw [unhide HLZ]; exact fd_of (unhide HAT4b) (unhide HDY4))
            clear hzeq
            go_wp2
            go_ret2
            exact ⟨⟨0, unhide HZ, Or.inr ⟨rfl, a2, c2, L, unhide HL, by rw [unhide HK]; rfl, unhide HFD⟩⟩, unhide HB4⟩
end Go.Proofs.YtkablmjkffdloaaGreatDoor
