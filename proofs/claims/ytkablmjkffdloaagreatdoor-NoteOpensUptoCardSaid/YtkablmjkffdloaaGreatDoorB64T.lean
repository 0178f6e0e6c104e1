/-
  A text read as base64, the reference's: any text.
-/
import Derived.Test.YtkablmjkffdloaaGreatDoorB64S
namespace Go.Proofs.YtkablmjkffdloaaGreatDoor
open Go.RowKit

/-- The number of so many letters from a place on. -/
def numP (s : Bs) (i : Nat) : Nat → Nat
  | 0 => 0
  | k + 1 => numP s i k * 64 + plc (s.getD (i + k) 0)
theorem numP_lt (s : Bs) (i : Nat) : ∀ k, numP s i k < 64 ^ k
  | 0 => by show (0 : Nat) < 64 ^ 0; decide
  | k + 1 => by
    have h1 := numP_lt s i k
    have h2 := plc_lt (s.getD (i + k) 0)
    show numP s i k * 64 + _ < 64 ^ (k + 1)
    rw [Nat.pow_succ]
    omega
theorem dec_next {s : Bs} {i q : Nat} (hi : i = 4 * q) (hl : i + 4 ≤ s.length) : decG (s.take (i + 4)) = decG (s.take i) ++ dec4 (numP s i 4) := by
  have e : s.take (i + 4) = s.take i ++ (s.drop i).take 4 := by rw [List.take_add]
  rw [e, decG_app q _ _ (by rw [List.length_take]; omega)]
  congr 1
  have h4 : (s.drop i).take 4 = [s.getD i 0, s.getD (i + 1) 0, s.getD (i + 2) 0, s.getD (i + 3) 0] := by
    apply List.ext_getElem
    · simp; omega
    · intro k h1 h2
      have hk : k < 4 := by simpa using h2
      have : k = 0 ∨ k = 1 ∨ k = 2 ∨ k = 3 := by omega
      have hg : ∀ j (hj : j < 4), s.getD (i + j) 0 = s[i + j]'(by omega) := fun j hj => by
        rw [List.getD_eq_getElem?_getD, List.getElem?_eq_getElem (by omega)]; rfl
      rcases this with rfl | rfl | rfl | rfl
      · simpa using (hg 0 (by omega)).symm
      · simpa using (hg 1 (by omega)).symm
      · simpa using (hg 2 (by omega)).symm
      · simpa using (hg 3 (by omega)).symm
  rw [h4]
  show dec4 (num4 _ _ _ _) ++ [] = _
  rw [List.append_nil]
  congr 1
  unfold num4
  show _ = (((0 * 64 + plc (s.getD (i + 0) 0)) * 64 + plc (s.getD (i + 1) 0)) * 64 + plc (s.getD (i + 2) 0)) * 64 + plc (s.getD (i + 3) 0)
  rw [Nat.zero_mul, Nat.zero_add]
  rfl
theorem fills_is {s : Bs} {m : Nat} (hm : s.length = m) (h4 : 2 ≤ m) : fills s = if s.getD (m - 1) 0 = 61 then (if s.getD (m - 2) 0 = 61 then 2 else 1) else 0 := by
  have h1 : s.getLast? = some (s.getD (m - 1) 0) := by
    rw [List.getLast?_eq_getElem?, hm, List.getElem?_eq_getElem (by omega), List.getD_eq_getElem?_getD, List.getElem?_eq_getElem (by omega)]; rfl
  have h2 : s.dropLast.getLast? = some (s.getD (m - 2) 0) := by
    rw [List.getLast?_eq_getElem?, List.length_dropLast, hm, List.getElem?_dropLast, if_pos (by omega), show m - 1 - 1 = m - 2 by omega, List.getElem?_eq_getElem (by omega), List.getD_eq_getElem?_getD, List.getElem?_eq_getElem (by omega)]; rfl
  unfold fills
  rw [h1, h2]
  simp only [Option.some.injEq]
theorem from_odd {s : Bs} (h : s.length % 4 ≠ 0) : fromL s = none := from_not (fun b e => by
  obtain ⟨k, hk⟩ := b64_len4 b
  rw [e] at hk
  omega)
theorem own_front {base : Nat} {w : World} {g n cap k : Nat} {l : Bs} (h : OwnB base w (.slice (some ⟨g, 0, none⟩) n cap) l) (hk : k ≤ l.length) : OwnB base w (.slice (some ⟨g, 0, none⟩) k cap) (l.take k) := by
  rcases h.2 with ⟨e, _⟩ | ⟨g', cap', cur, e, hb, hh, h1, h2, h3, h4⟩
  · cases e
  · obtain ⟨e1, e2, e3⟩ := Value.slice.inj e
    cases e1
    subst e3
    have hlen : (l.take k).length = k := by rw [List.length_take]; omega
    refine ⟨by simp, Or.inr ⟨g, cap, cur, by rw [hlen], hb, hh, by omega, h2, h3, ?_⟩⟩
    rw [hlen, Nat.mul_one, List.map_take, ← h4, Nat.mul_one, List.take_take, Nat.min_eq_left hk]
theorem app_three {B : Nat} {w W1 : World} {v : Value} {l : Bs} {c d e : UInt8} (ho : OwnB B w v l) (hB : B ≤ w.heap.size) (hl : l.length ≤ 2147483648) (hW : w.alloc (.cells #[.int .u8 (c.toNat : Int), .int .u8 (d.toNat : Int), .int .u8 (e.toNat : Int)] 5) = W1) :
    ∃ v' w', (Builtin.append_ #[23, 23] 23 #[v, .slice (some ⟨w.heap.size, 0, none⟩) 3 3]).run Tryz.prog W1 = .ok v' w' ∧ OwnB B w' v' (l ++ [c, d, e]) ∧ GrB w w' v v' := by
  have hb : Below w.heap.size w W1 := by rw [← hW]; exact (Below.refl _ _).alloc (Nat.le_refl _) _
  have hblk : Blk W1 w.heap.size #[.int .u8 (c.toNat : Int), .int .u8 (d.toNat : Int), .int .u8 (e.toNat : Int)] 5 := by rw [← hW]; exact Blk.new _ _ _
  obtain ⟨v', w', h1, h2, h3⟩ := app_bytes (a := ⟨w.heap.size, 0, none⟩) (m := [c, d, e]) (n := 3) (c := 3) (ho.low hb) (Nat.le_trans hB hb.size) rfl (fun k hk => by
    have : k = 0 ∨ k = 1 ∨ k = 2 := by simp at hk; omega
    rcases this with rfl | rfl | rfl
    · exact hblk.cell 0
    · exact hblk.cell 1
    · exact hblk.cell 2) (by omega)
  have ha : GrB w W1 v v := by rw [← hW]; exact GrB.alloc _ _ _
  exact ⟨v', w', h1, h2, ha.trans h3⟩

set_option maxRecDepth 100000 in
set_option maxHeartbeats 1000000 in
theorem refFrom_any {w : World} {s : Bs} (hs : s.length ≤ 1000000) :
    Calls Tryz.prog 37 #[.string ⟨s.toArray⟩] w fun e w' => ∃ v, e = .returned (.tuple #[v, .int .i64 (fromE s)]) ∧ OwnB w.heap.size w' v (fromV s) ∧ Below w.heap.size w w' := by
  obtain ⟨m, hm⟩ : ∃ m, s.length = m := ⟨_, rfl⟩
  obtain ⟨S, hS⟩ : ∃ S : ByteArray, (⟨s.toArray⟩ : ByteArray) = S := ⟨_, rfl⟩
  have hsz : S.size = m := by rw [← hS]; show s.toArray.size = m; simpa using hm
  have HSA : Hid (∀ i (h1 : i < S.size), S[i]'h1 = s.getD i 0) := hide (by
    subst hS
    intro i h1
    have h2 : i < s.length := by simpa [ByteArray.size] using h1
    rw [List.getD_eq_getElem?_getD, List.getElem?_eq_getElem h2]
    rfl)
  have HSE := hide hS
  have HM := hide hm
  obtain ⟨r, hr⟩ : ∃ r, m % 4 = r := ⟨_, rfl⟩
  have er : (m : Int).tmod 4 = (r : Int) := by rw [Int.tmod_eq_emod_of_nonneg (by omega)]; omega
  have er' : (m : Int) % 4 = (r : Int) := by omega
  have hmb : m ≤ 1000000 := by omega
  rw [hS]
  clear hS hm
  by_cases hr0 : r = 0
  · subst hr0
    have er0 : (m : Int).tmod 4 = 0 := er
    have er1 : (m : Int) % 4 = 0 := er'
    clear er er'
    go_enter Tryz.func37, Tryz.ntmps37
    go_wp2
    go_loopw [4, 5, 6, 7] (fun v4 v5 _ _ wr => ∃ i q : Nat, i = 4 * q ∧ i ≤ m ∧ v5 = .int .i64 (i : Int) ∧ OwnB w.heap.size wr v4 (decG (s.take i)) ∧ Below w.heap.size w wr) (fun _ v5 _ _ _ => m - (intOf v5).toNat)
    case atStart => exact ⟨0, 0, rfl, Nat.zero_le _, rfl, World.ownsRow_nil _ _ _ _, Below.refl _ _⟩
    case round =>
      rename World => wr
      obtain ⟨i, q, hiq, him, rfl, ho, hbw⟩ := hrel
      by_cases hlt : i < m
      · have hi4 : i + 4 ≤ m := by omega
        have hnx := dec_next hiq (show i + 4 ≤ s.length by rw [unhide HM]; exact hi4)
        have hdl := decG_len q (s.take i) (by rw [List.length_take, unhide HM]; omega)
        have HNX := hide hnx
        have HO := hide ho
        have HBW := hide hbw
        have HDL := hide hdl
        have HIQ := hide hiq
        clear hnx ho hbw hdl hiq
        go_wp2
        go_loop [6, 7] (fun v6 v7 => ∃ k : Nat, k ≤ 4 ∧ v7 = .int .i64 (k : Int) ∧ v6 = .int .i64 ((numP s i k : Nat) : Int)) (fun _ v7 => 4 - (intOf v7).toNat)
        case atStart => exact ⟨0, Nat.zero_le _, rfl, rfl⟩
        case round =>
          obtain ⟨k, hk, rfl, rfl⟩ := hrel
          have hnl := numP_lt s i k
          have hnb : numP s i k < 16777217 := by
            have : k = 0 ∨ k = 1 ∨ k = 2 ∨ k = 3 ∨ k = 4 := by omega
            rcases this with rfl | rfl | rfl | rfl | rfl <;> simp at hnl <;> omega
          by_cases hk4 : k < 4
          · obtain ⟨j, hj⟩ : ∃ j, i + k = j := ⟨_, rfl⟩
            have ej : (i : Int) + (k : Int) = (j : Int) := by omega
            have hjm : j < m := by omega
            have hjS : j < S.size := by rw [hsz]; exact hjm
            have hx0 := unhide HSA j hjS
            obtain ⟨x, hx⟩ : ∃ x, s.getD j 0 = x := ⟨_, rfl⟩
            rw [hx] at hx0
            have hmx := pl_max x
            obtain ⟨PX, hPX⟩ : ∃ PX, plI x = PX := ⟨_, rfl⟩
            have HPL := hide (fun wx => place_any x wx)
            rw [hPX] at hmx HPL
            have hpc := plc_lt x
            obtain ⟨pc, hpce⟩ : ∃ pc, plc x = pc := ⟨_, rfl⟩
            rw [hpce] at hmx hpc
            obtain ⟨A, hA⟩ : ∃ A, numP s i k = A := ⟨_, rfl⟩
            rw [hA] at hnb ⊢
            obtain ⟨A6, hA6⟩ : ∃ A6, A * 64 = A6 := ⟨_, rfl⟩
            obtain ⟨A7, hA7⟩ : ∃ A7, A6 + pc = A7 := ⟨_, rfl⟩
            have e1 : (A : Int) * 64 = (A6 : Int) := by omega
            have e2 : (A6 : Int) + (pc : Int) = (A7 : Int) := by omega
            have A6b : A6 ≤ 2000000000 := by omega
            have HNE : Hid (numP s i (k + 1) = A7) := hide (by
              show numP s i k * 64 + plc (s.getD (i + k) 0) = _
              rw [hA, hj, hx, hpce]
              omega)
            clear hx hPX hpce hA hA6 hA7 hnl hj
            go_wp2_with (go_at_call 92; refine (unhide HPL _).mono ?_; rintro e wn ⟨rfl, hwn⟩; rw [hwn]; clear hwn wn)
            go_round
            case rel => exact ⟨k + 1, hk4, by push_cast; rfl, by rw [unhide HNE]⟩
            case measure => simp [intOf]; omega
          · have hke : k = 4 := by omega
            subst hke
            clear hnl
            obtain ⟨A, hA⟩ : ∃ A, numP s i 4 = A := ⟨_, rfl⟩
            have hAb : A < 16777216 := by rw [← hA]; have := numP_lt s i 4; simpa using this
            rw [hA] at HNX
            rw [hA]
            obtain ⟨x, hx⟩ : ∃ x : UInt8, UInt8.ofNat (A / 65536) = x := ⟨_, rfl⟩
            obtain ⟨y, hy⟩ : ∃ x : UInt8, UInt8.ofNat (A / 256 % 256) = x := ⟨_, rfl⟩
            obtain ⟨z, hz⟩ : ∃ x : UInt8, UInt8.ofNat (A % 256) = x := ⟨_, rfl⟩
            have xn : x.toNat = A / 65536 := by rw [← hx, UInt8.toNat_ofNat']; omega
            have yn : y.toNat = A / 256 % 256 := by rw [← hy, UInt8.toNat_ofNat']; omega
            have zn : z.toNat = A % 256 := by rw [← hz, UInt8.toNat_ofNat']; omega
            obtain ⟨p, hp⟩ : ∃ p, A / 65536 = p := ⟨_, rfl⟩
            obtain ⟨p2, hp2⟩ : ∃ p, A / 256 = p := ⟨_, rfl⟩
            have f1 : (A : Int) / 65536 = (p : Int) := by omega
            have f2 : (A : Int) / 256 = (p2 : Int) := by omega
            have g1 : IntKind.u8.wrap (p : Int) = (x.toNat : Int) := by rw [IntKind.wrap_u8]; omega
            have g2 : IntKind.u8.wrap (p2 : Int) = (y.toNat : Int) := by rw [IntKind.wrap_u8]; omega
            have g3 : IntKind.u8.wrap (A : Int) = (z.toNat : Int) := by rw [IntKind.wrap_u8]; omega
            have k1 : (p : Int) % 256 = (x.toNat : Int) := by omega
            have k2 : (p2 : Int) % 256 = (y.toNat : Int) := by omega
            have k3 : (A : Int) % 256 = (z.toNat : Int) := by omega
            have hd4 : dec4 A = [x, y, z] := by unfold dec4; rw [hx, hy, hz]
            obtain ⟨W1, hW1⟩ : ∃ W1, wr.alloc (.cells #[.int .u8 (x.toNat : Int), .int .u8 (y.toNat : Int), .int .u8 (z.toNat : Int)] 5) = W1 := ⟨_, rfl⟩
            obtain ⟨v', w', happ, hown, hgr⟩ := app_three (W1 := W1) (unhide HO) (unhide HBW).size (by rw [unhide HDL]; have := unhide HIQ; omega) hW1
            rw [← hd4, ← unhide HNX] at hown
            have HP : Hid (OwnB w.heap.size w' v' (decG (s.take (i + 4))) ∧ Below w.heap.size w w') := hide ⟨hown, (unhide HBW).trans (hgr.low (unhide HBW).size (OwnB.base (unhide HO)))⟩
            have HW1 := hide hW1
            obtain ⟨i4, hi4e⟩ : ∃ i4, i + 4 = i4 := ⟨_, rfl⟩
            have e4 : (i : Int) + 4 = (i4 : Int) := by omega
            rw [hi4e] at HP
            have HIQ2 : Hid (i4 = 4 * (q + 1)) := hide (by have := unhide HIQ; omega)
            have i4m : i4 ≤ m := by omega
            clear hA hx hy hz xn yn zn hp hp2 hd4 hW1 hown hgr hi4e
            go_wp2_with (at_builtin; rw [unhide HW1]; refine Lib.wpList_append_run _ rfl (.tmp 33) (.tmp 42) 23 23 (by rfl) u4 (.slice (some ⟨wr.heap.size, 0, none⟩) 3 3) (by kernel_rfl) (by kernel_rfl) v' w' happ ?_)
            go_roundw
            case rel => exact ⟨i4, q + 1, unhide HIQ2, i4m, rfl, (unhide HP).1, (unhide HP).2⟩
            case measure => simp [intOf]; omega
      · have hie : i = m := by omega
        subst hie
        rw [List.take_of_length_le (by rw [unhide HM]; exact Nat.le_refl _)] at ho
        have hdl := decG_len q s (by rw [unhide HM]; exact hiq)
        have hbn : b64 (unb s) ≠ s → fromL s = none := fun h => by unfold fromL; rw [if_neg h]
        have hul : (unb s).length ≤ 1000000 := by
          have : (unb s).length ≤ (decG s).length := by unfold unb; rw [List.length_take]; omega
          omega
        by_cases hm0 : i = 0
        · subst hm0
          have hs0 : s = [] := List.length_eq_zero_iff.1 (unhide HM)
          have hu0 : unb s = decG s := by rw [hs0]; rfl
          rw [← hu0] at ho
          obtain ⟨oa, oc, rfl, oat, ocap, -⟩ := OwnB.at ho
          have HB6 := hide (refB64_any (n := (unb s).length) (c := oc) rfl (by omega) oat)
          have HOF := hide (And.intro ho hbw)
          clear ho hbw oat ocap hdl hiq hs0 hu0
          go_wp2
          go_loop [4, 8] (fun v4 v8 => v8 = .int .i64 0 ∧ v4 = .slice oa (unb s).length oc) (fun _ _ => 0)
          case atStart => exact ⟨rfl, rfl⟩
          case round =>
            obtain ⟨rfl, rfl⟩ := hrel
            by_cases hb : b64 (unb s) = s
            · have HE : Hid (fromE s = 0 ∧ fromV s = unb s) := hide ⟨by unfold fromE; rw [from_is hb]; rfl, by unfold fromV; rw [from_is hb]; rfl⟩
              rw [hb, unhide HSE] at HB6
              clear hb hbn
              go_wp2_with (go_at_call 33; fail)
              refine (unhide HB6).mono ?_
              rintro e w2 ⟨rfl, b2⟩
              have HR2 := hide (And.intro (OwnB.low (unhide HOF).1 b2) (low_trans (unhide HOF).2 b2))
              clear b2
              go_wp2
              go_ret2
              rw [(unhide HE).1, (unhide HE).2]
              exact ⟨_, rfl, (unhide HR2).1, (unhide HR2).2⟩
            · have HE : Hid (fromE s = 15 ∧ fromV s = []) := hide ⟨by unfold fromE; rw [hbn hb]; rfl, by unfold fromV; rw [hbn hb]; rfl⟩
              obtain ⟨T, hT⟩ : ∃ T : ByteArray, (⟨(b64 (unb s)).toArray⟩ : ByteArray) = T := ⟨_, rfl⟩
              have hTS : (T.toList == S.toList) = false := by
                rw [← hT, ← unhide HSE, ByteArray.toList_mk, ByteArray.toList_mk]
                simpa using hb
              rw [hT] at HB6
              clear hb hbn hT
              go_wp2_with (go_at_call 33; fail)
              refine (unhide HB6).mono ?_
              rintro e w2 ⟨rfl, b2⟩
              have HR2 := hide (low_trans (unhide HOF).2 b2)
              clear b2
              go_wp2
              go_ret2
              rw [(unhide HE).1, (unhide HE).2]
              exact ⟨.slice none 0 0, rfl, World.ownsRow_nil _ _ _ _, unhide HR2⟩
        · have hi4 : 4 ≤ i := by omega
          have hfi := fills_is (unhide HM) (by omega)
          obtain ⟨g, cap, rfl⟩ := own_form ho (by omega)
          obtain ⟨L, hL⟩ : ∃ L, (decG s).length = L := ⟨_, rfl⟩
          rw [hL] at ho hdl ⊢
          obtain ⟨F, hF⟩ : ∃ F, fills s = F := ⟨_, rfl⟩
          have hF2 : F ≤ 2 := by rw [← hF, hfi]; split <;> (try split) <;> omega
          obtain ⟨Z, hZ⟩ : ∃ Z, L - F = Z := ⟨_, rfl⟩
          have hunb : unb s = (decG s).take Z := by unfold unb; rw [hL, hF, hZ]
          have hof := own_front (k := Z) ho (by omega)
          rw [← hunb] at hof
          have hul2 : (unb s).length = Z := by rw [hunb, List.length_take]; omega
          obtain ⟨-, -, -, hcapL⟩ := own_free (k := 0) ho
          obtain ⟨oa, oc, hov, oat, ocap, -⟩ := OwnB.at hof
          obtain ⟨hoa, -, hoc⟩ := Value.slice.inj hov
          rw [← hoa] at oat
          have HB6 := hide (refB64_any (n := Z) (c := cap) hul2 (by omega) oat)
          have HOF := hide (And.intro hof hbw)
          obtain ⟨x1, hx1⟩ : ∃ x, s.getD (i - 1) 0 = x := ⟨_, rfl⟩
          obtain ⟨x2, hx2⟩ : ∃ x, s.getD (i - 2) 0 = x := ⟨_, rfl⟩
          rw [hF, hx1, hx2] at hfi
          obtain ⟨j1, hj1⟩ : ∃ j, i - 1 = j := ⟨_, rfl⟩
          obtain ⟨j2, hj2⟩ : ∃ j, i - 2 = j := ⟨_, rfl⟩
          have hS1 : j1 < S.size := by rw [hsz]; omega
          have hS2 : j2 < S.size := by rw [hsz]; omega
          have d1 := unhide HSA j1 hS1
          have d2 := unhide HSA j2 hS2
          rw [hj1] at hx1
          rw [hj2] at hx2
          rw [hx1] at d1
          rw [hx2] at d2
          have s1 : (i : Int) - 1 = (j1 : Int) := by omega
          have s2 : (j1 : Int) - 1 = (j2 : Int) := by omega
          have s0 : (j1 : Int) - 0 = (j1 : Int) := by omega
          have t1 : j1 < i := by omega
          have t2 : j2 < i := by omega
          have hLb : L ≤ 3000000 := by omega
          have hL3 : 3 ≤ L := by omega
          have x1e : ((x1.toNat : Int) == 61) = decide (x1 = 61) := by
            have : ((61 : UInt8).toNat : Int) = 61 := rfl
            by_cases e : x1 = 61
            · subst e; rfl
            · rw [decide_eq_false e]; simp; intro h; exact e (UInt8.toNat_inj.1 (by show x1.toNat = 61; omega))
          have x2e : ((x2.toNat : Int) == 61) = decide (x2 = 61) := by
            have : ((61 : UInt8).toNat : Int) = 61 := rfl
            by_cases e : x2 = 61
            · subst e; rfl
            · rw [decide_eq_false e]; simp; intro h; exact e (UInt8.toNat_inj.1 (by show x2.toNat = 61; omega))
          have HFI := hide hfi
          clear ho hbw hof oat ocap hov hoa hoc hL hF hunb hx1 hx2 hj1 hj2 hfi hiq hul2
          go_wp2
          go_loop [4, 8] (fun v4 v8 => ∃ k Lk : Nat, k ≤ F ∧ k + Lk = L ∧ v8 = .int .i64 (k : Int) ∧ v4 = .slice (some ⟨g, 0, none⟩) Lk cap) (fun _ v8 => F - (intOf v8).toNat)
          case atStart => exact ⟨0, L, Nat.zero_le _, by omega, rfl, rfl⟩
          case round =>
            obtain ⟨k, Lk, hkF, hkL, rfl, rfl⟩ := hrel
            have hk3 : k = 0 ∨ k = 1 ∨ k = 2 := by omega
            by_cases hlt : k < F
            · obtain ⟨L1, hL1⟩ : ∃ L1, Lk - 1 = L1 := ⟨_, rfl⟩
              have l1 : (Lk : Int) - 1 = (L1 : Int) := by omega
              have l2 : L1 ≤ cap := by omega
              have l3 : Hid (k + 1 + L1 = L) := hide (by omega)
              have l4 : Lk ≤ 3000000 := by omega
              have l5 : L1 ≤ Lk := by omega
              have hfi := unhide HFI
              rcases hk3 with rfl | rfl | rfl
              · have hx61 : x1 = 61 := by
                  apply Classical.byContradiction
                  intro h
                  rw [if_neg h] at hfi
                  omega
                have y1 : ((x1.toNat : Int) == 61) = true := by rw [x1e]; simpa using hx61
                clear hL1 x1e x2e hfi hx61 hkL
                go_wp2
                go_round
                case rel => exact ⟨1, L1, hlt, by have := unhide l3; omega, rfl, rfl⟩
                case measure => simp [intOf]; omega
              · have hx61 : x1 = 61 ∧ x2 = 61 := by
                  by_cases h1 : x1 = 61
                  · rw [if_pos h1] at hfi
                    by_cases h2 : x2 = 61
                    · exact ⟨h1, h2⟩
                    · rw [if_neg h2] at hfi; omega
                  · rw [if_neg h1] at hfi; omega
                have y2 : ((x2.toNat : Int) == 61) = true := by rw [x2e]; simpa using hx61.2
                clear hL1 x1e x2e hfi hx61 hkL
                go_wp2
                go_round
                case rel => exact ⟨2, L1, hlt, by have := unhide l3; omega, rfl, rfl⟩
                case measure => simp [intOf]; omega
              · omega
            · have hkF2 : k = F := by omega
              have hLZ : Lk = Z := by omega
              subst hLZ
              subst hkF2
              have hfi := unhide HFI
              have y1 : k = 0 → ((x1.toNat : Int) == 61) = false := fun e => by
                rw [x1e]
                apply decide_eq_false
                intro h
                rw [if_pos h] at hfi
                split at hfi <;> omega
              have y2 : k = 1 → ((x2.toNat : Int) == 61) = false := fun e => by
                rw [x2e]
                apply decide_eq_false
                intro h
                by_cases h1 : x1 = 61
                · rw [if_pos h1, if_pos h] at hfi; omega
                · rw [if_neg h1] at hfi; omega
              clear hfi x1e x2e HFI hlt hZ hkL hkF
              by_cases hb : b64 (unb s) = s
              · have HE : Hid (fromE s = 0 ∧ fromV s = unb s) := hide ⟨by unfold fromE; rw [from_is hb]; rfl, by unfold fromV; rw [from_is hb]; rfl⟩
                rw [hb, unhide HSE] at HB6
                clear hb hbn
                rcases hk3 with rfl | rfl | rfl
                · have z1 := y1 rfl
                  clear y1 y2
                  go_wp2_with (go_at_call 33; fail)
                  refine (unhide HB6).mono ?_
                  rintro e w2 ⟨rfl, b2⟩
                  have HR2 := hide (And.intro (OwnB.low (unhide HOF).1 b2) (low_trans (unhide HOF).2 b2))
                  clear b2
                  go_wp2
                  go_ret2
                  rw [(unhide HE).1, (unhide HE).2]
                  exact ⟨_, rfl, (unhide HR2).1, (unhide HR2).2⟩
                · have z2 := y2 rfl
                  clear y1 y2
                  go_wp2_with (go_at_call 33; fail)
                  refine (unhide HB6).mono ?_
                  rintro e w2 ⟨rfl, b2⟩
                  have HR2 := hide (And.intro (OwnB.low (unhide HOF).1 b2) (low_trans (unhide HOF).2 b2))
                  clear b2
                  go_wp2
                  go_ret2
                  rw [(unhide HE).1, (unhide HE).2]
                  exact ⟨_, rfl, (unhide HR2).1, (unhide HR2).2⟩
                · clear y1 y2
                  go_wp2_with (go_at_call 33; fail)
                  refine (unhide HB6).mono ?_
                  rintro e w2 ⟨rfl, b2⟩
                  have HR2 := hide (And.intro (OwnB.low (unhide HOF).1 b2) (low_trans (unhide HOF).2 b2))
                  clear b2
                  go_wp2
                  go_ret2
                  rw [(unhide HE).1, (unhide HE).2]
                  exact ⟨_, rfl, (unhide HR2).1, (unhide HR2).2⟩
              · have HE : Hid (fromE s = 15 ∧ fromV s = []) := hide ⟨by unfold fromE; rw [hbn hb]; rfl, by unfold fromV; rw [hbn hb]; rfl⟩
                obtain ⟨T, hT⟩ : ∃ T : ByteArray, (⟨(b64 (unb s)).toArray⟩ : ByteArray) = T := ⟨_, rfl⟩
                have hTS : (T.toList == S.toList) = false := by
                  rw [← hT, ← unhide HSE, ByteArray.toList_mk, ByteArray.toList_mk]
                  simpa using hb
                rw [hT] at HB6
                clear hb hbn hT
                rcases hk3 with rfl | rfl | rfl
                · have z1 := y1 rfl
                  clear y1 y2
                  go_wp2_with (go_at_call 33; fail)
                  refine (unhide HB6).mono ?_
                  rintro e w2 ⟨rfl, b2⟩
                  have HR2 := hide (low_trans (unhide HOF).2 b2)
                  clear b2
                  go_wp2
                  go_ret2
                  rw [(unhide HE).1, (unhide HE).2]
                  exact ⟨.slice none 0 0, rfl, World.ownsRow_nil _ _ _ _, unhide HR2⟩
                · have z2 := y2 rfl
                  clear y1 y2
                  go_wp2_with (go_at_call 33; fail)
                  refine (unhide HB6).mono ?_
                  rintro e w2 ⟨rfl, b2⟩
                  have HR2 := hide (low_trans (unhide HOF).2 b2)
                  clear b2
                  go_wp2
                  go_ret2
                  rw [(unhide HE).1, (unhide HE).2]
                  exact ⟨.slice none 0 0, rfl, World.ownsRow_nil _ _ _ _, unhide HR2⟩
                · clear y1 y2
                  go_wp2_with (go_at_call 33; fail)
                  refine (unhide HB6).mono ?_
                  rintro e w2 ⟨rfl, b2⟩
                  have HR2 := hide (low_trans (unhide HOF).2 b2)
                  clear b2
                  go_wp2
                  go_ret2
                  rw [(unhide HE).1, (unhide HE).2]
                  exact ⟨.slice none 0 0, rfl, World.ownsRow_nil _ _ _ _, unhide HR2⟩
  · have hr0' : ((r : Int) != 0) = true := by simp; omega
    have hq : ¬ (r : Int) = 0 := by omega
    have hn0 := from_odd (s := s) (by rw [unhide HM]; omega)
    have HE : Hid (fromE s = 15 ∧ fromV s = []) := hide ⟨by unfold fromE; rw [hn0]; rfl, by unfold fromV; rw [hn0]; rfl⟩
    clear hn0 hr0 hr
    go_enter Tryz.func37, Tryz.ntmps37
    go_wp2
    go_ret2
    rw [(unhide HE).1, (unhide HE).2]
    exact ⟨.slice none 0 0, rfl, World.ownsRow_nil _ _ _ _, Below.refl _ _⟩
end Go.Proofs.YtkablmjkffdloaaGreatDoor
