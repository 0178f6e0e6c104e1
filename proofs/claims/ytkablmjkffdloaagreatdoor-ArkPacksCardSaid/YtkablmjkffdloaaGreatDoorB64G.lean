/-
  Base64: one to three bytes as four letters; any bytes.
-/
import Derived.Test.YtkablmjkffdloaaGreatDoorBuiQ
import Derived.Test.YtkablmjkffdloaaGreatDoorB64X
import Derived.Test.YtkablmjkffdloaaGreatDoorShaX
namespace Go.Proofs.YtkablmjkffdloaaGreatDoor
open Go.RowKit

/-- The number of the first bytes of a group. -/
def heldN (g : Bs) : Nat → Nat
  | 0 => 0
  | j + 1 => heldN g j + (g.getD j 0).toNat * 2 ^ (16 - 8 * j)
theorem held1 (g : Bs) : heldN g 1 = (g.getD 0 0).toNat * 65536 := by
  show 0 + (g.getD 0 0).toNat * 65536 = _
  rw [Nat.zero_add]
theorem held2 (g : Bs) : heldN g 2 = (g.getD 0 0).toNat * 65536 + (g.getD 1 0).toNat * 256 := by
  show heldN g 1 + (g.getD 1 0).toNat * 256 = _
  rw [held1]
theorem held3 (g : Bs) : heldN g 3 = (g.getD 0 0).toNat * 65536 + (g.getD 1 0).toNat * 256 + (g.getD 2 0).toNat := by
  show heldN g 2 + (g.getD 2 0).toNat * 1 = _
  rw [held2, Nat.mul_one]
theorem held_bound (g : Bs) (j : Nat) (h : j ≤ 3) : ∃ q, heldN g j = 2 ^ (24 - 8 * j) * q ∧ heldN g j < 2 ^ 24 := by
  have h0 := u8_lt (g.getD 0 0)
  have h1 := u8_lt (g.getD 1 0)
  have h2 := u8_lt (g.getD 2 0)
  have e24 : (2 : Nat) ^ 24 = 16777216 := rfl
  have : j = 0 ∨ j = 1 ∨ j = 2 ∨ j = 3 := by omega
  rcases this with rfl | rfl | rfl | rfl
  · exact ⟨0, rfl, Nat.two_pow_pos 24⟩
  · rw [held1, e24]
    exact ⟨(g.getD 0 0).toNat, by rw [show (2 : Nat) ^ (24 - 8 * 1) = 65536 from rfl]; omega, by omega⟩
  · rw [held2, e24]
    exact ⟨(g.getD 0 0).toNat * 256 + (g.getD 1 0).toNat, by rw [show (2 : Nat) ^ (24 - 8 * 2) = 256 from rfl]; omega, by omega⟩
  · rw [held3, e24]
    exact ⟨(g.getD 0 0).toNat * 65536 + (g.getD 1 0).toNat * 256 + (g.getD 2 0).toNat, by rw [show (2 : Nat) ^ (24 - 8 * 3) = 1 from rfl]; omega, by omega⟩
theorem held_or (g : Bs) {j : Nat} (hj : j < 3) : heldN g j ||| (g.getD j 0).toNat * 2 ^ (16 - 8 * j) = heldN g (j + 1) := by
  obtain ⟨q, h1, _⟩ := held_bound g j (by omega)
  have hx := u8_lt (g.getD j 0)
  show _ = heldN g j + _
  rw [h1]
  have hlt : (g.getD j 0).toNat * 2 ^ (16 - 8 * j) < 2 ^ (24 - 8 * j) := by
    rw [show 24 - 8 * j = 8 + (16 - 8 * j) by omega, Nat.pow_add]
    exact Nat.mul_lt_mul_of_pos_right hx (Nat.two_pow_pos _)
  exact (Nat.two_pow_add_eq_or_of_lt hlt q).symm
theorem grp_is {g : Bs} {n : Nat} (hn : g.length = n) (h1 : 1 ≤ n) (h3 : n ≤ 3) : grp g = lets (heldN g n) (n + 1) ++ List.replicate (3 - n) 61 := by
  have z : (0 : UInt8).toNat = 0 := rfl
  match g, hn with
  | [a], hn =>
    simp at hn; subst hn
    have : heldN [a] 1 = num3 a 0 0 := by simp [heldN, num3]
    rw [this]; rfl
  | [a, b], hn =>
    simp at hn; subst hn
    have : heldN [a, b] 2 = num3 a b 0 := by simp [heldN, num3]
    rw [this]; rfl
  | [a, b, c], hn =>
    simp at hn; subst hn
    have : heldN [a, b, c] 3 = num3 a b c := by simp [heldN, num3]
    rw [this]; rfl
  | [], hn => simp at hn; omega
  | a :: b :: c :: d :: r, hn => simp at hn; omega
theorem lets_next {N j : Nat} (hj : j < 4) : lets N (j + 1) = lets N j ++ [letN (N / 2 ^ (18 - 6 * j) % 64)] := by
  have : j = 0 ∨ j = 1 ∨ j = 2 ∨ j = 3 := by omega
  rcases this with rfl | rfl | rfl | rfl <;> simp [lets]
theorem let_at {p : Nat} (h : p < 64) : lettersB[p]'h = letN p := by
  have : ∀ i : Fin 64, lettersB[i.1]'i.2 = letN i.1 := by decide +kernel
  exact this ⟨p, h⟩
theorem cells_snoc (l : Bs) (c : UInt8) : Lib.byteCells l ++ [.int .u8 (c.toNat : Int)] = Lib.byteCells (l ++ [c]) := by simp [Lib.byteCells]

set_option maxRecDepth 100000 in
set_option maxHeartbeats 2000000 in
theorem group_any {B b : Nat} {w : World} {ga : Option Addr} {n c : Nat} {g l : Bs} (hn : g.length = n) (h1 : 1 ≤ n) (h3 : n ≤ 3) (hg : BAt w ga g) (hb : Lib.IsBuilder 119 5 B b (Lib.byteCells l) w) (hl : l.length ≤ 1000000000) (hB : B ≤ w.heap.size) :
    Calls Tryz.prog 80 #[.pointer (some ⟨b, 0, none⟩), .slice ga n c] w fun e w' => e = .returned (.tuple #[]) ∧ Lib.IsBuilder 119 5 B b (Lib.byteCells (l ++ grp g)) w' ∧ Below B w w' := by
  obtain ⟨GB, GO, rfl, hcell⟩ : ∃ GB GO, ga = some ⟨GB, GO, none⟩ ∧ ∀ k (hk : k < g.length), w.cell? ⟨GB, GO + k, none⟩ = some (.int .u8 (g[k].toNat : Int)) := by
    rcases hg.els with e | h
    · rw [e] at hn; simp at hn; omega
    · exact h
  have HG := hide hcell
  have HN := hide hn
  have HBD := hide hb
  have HGR := hide (grp_is hn h1 h3)
  obtain ⟨H, hH⟩ : ∃ H, heldN g n = H := ⟨_, rfl⟩
  have HH := hide hH
  have hH24 : H < 16777216 := by obtain ⟨_, _, h⟩ := held_bound g n h3; rw [hH] at h; simpa using h
  rw [hH] at HGR
  clear hn hcell hb hg hH
  go_enter Tryz.func80, Tryz.ntmps80
  go_wp2
  go_loop [4, 5, 6, 10] (fun v4 _ _ v10 => ∃ j : Nat, j ≤ n ∧ v10 = .int .i64 (j : Int) ∧ v4 = .int .u32 ((heldN g j : Nat) : Int)) (fun _ _ _ v10 => n - (intOf v10).toNat)
  case atStart => exact ⟨0, Nat.zero_le _, rfl, rfl⟩
  case round =>
    obtain ⟨j, hj, rfl, rfl⟩ := hrel
    by_cases hlt : j < n
    · have hjl : j < g.length := by rw [unhide HN]; exact hlt
      have k1 := unhide HG j hjl
      obtain ⟨x, hx⟩ : ∃ x, g[j] = x := ⟨_, rfl⟩
      rw [hx] at k1
      have hgd : g.getD j 0 = x := by rw [List.getD_eq_getElem?_getD, List.getElem?_eq_getElem hjl, hx]; rfl
      have hor := held_or g (j := j) (by omega)
      obtain ⟨q1, _, hb24⟩ := held_bound g j (by omega)
      have hx8 := u8_lt x
      rw [hgd] at hor
      obtain ⟨q, hq⟩ : ∃ q, 8 * j = q := ⟨_, rfl⟩
      obtain ⟨s, hs⟩ : ∃ s, 16 - q = s := ⟨_, rfl⟩
      obtain ⟨A, hA⟩ : ∃ A, heldN g j = A := ⟨_, rfl⟩
      obtain ⟨A2, hA2⟩ : ∃ A2, heldN g (j + 1) = A2 := ⟨_, rfl⟩
      obtain ⟨sh, hsh⟩ : ∃ sh, x.toNat * 2 ^ s = sh := ⟨_, rfl⟩
      rw [hA] at hor hb24
      rw [hA2, hq, hs, hsh] at hor
      have e0 : (8 : Int) * (j : Int) = (q : Int) := by omega
      have e1 : (16 : Int) - (q : Int) = (s : Int) := by omega
      have s16 : s ≤ 16 := by omega
      have hsb : sh < 16777216 := by
        have : 2 ^ s ≤ 2 ^ 16 := Nat.pow_le_pow_right (by decide) s16
        rw [← hsh]
        calc x.toNat * 2 ^ s ≤ x.toNat * 2 ^ 16 := Nat.mul_le_mul_left _ this
          _ < 16777216 := by simp; omega
      have e3 : (x.toNat : Int) * 2 ^ s % 4294967296 = (sh : Int) := by
        rw [pow_int, show (x.toNat : Int) * ((2 ^ s : Nat) : Int) = ((x.toNat * 2 ^ s : Nat) : Int) by push_cast; rfl, hsh]
        omega
      have e4 : bits .or .u32 (A : Int) (sh : Int) = (A2 : Int) := by
        have := u32_or_nat A sh (by simp at hb24; omega) (by omega)
        rw [hor] at this
        exact this
      have hA2e : Hid (heldN g (j + 1) = A2) := hide hA2
      have hAe : Hid (heldN g j = A) := hide hA
      have hA24 : A < 16777216 := by simpa using hb24
      rw [hA]
      clear hx hgd hor hq hs hsh hA hA2 hb24
      go_wp2
      go_round
      case rel => exact ⟨j + 1, hlt, by push_cast; rfl, by rw [unhide hA2e]⟩
      case measure => simp [intOf]; omega
    · have hjn : j = n := by omega
      subst hjn
      rw [unhide HH]
      clear hlt hj
      go_wp2
      go_loopw [7, 27] (fun _ v27 wr => ∃ k : Nat, k ≤ j + 1 ∧ v27 = .int .i64 (k : Int) ∧ Lib.IsBuilder 119 5 B b (Lib.byteCells (l ++ lets H k)) wr ∧ Below B w wr) (fun _ v27 _ => j + 1 - (intOf v27).toNat)
      case atStart => exact ⟨0, Nat.zero_le _, rfl, by simpa [lets] using unhide HBD, Below.refl _ _⟩
      case round =>
        rename World => wr
        obtain ⟨k, hk, rfl, hbd, hbw⟩ := hrel
        by_cases hkl : k < j + 1
        · obtain ⟨q, hq⟩ : ∃ q, 6 * k = q := ⟨_, rfl⟩
          obtain ⟨s, hs⟩ : ∃ s, 18 - q = s := ⟨_, rfl⟩
          have e0 : (6 : Int) * (k : Int) = (q : Int) := by omega
          have e1 : (18 : Int) - (q : Int) = (s : Int) := by omega
          have s18 : s ≤ 18 := by omega
          obtain ⟨y, hy⟩ : ∃ y, H / 2 ^ s = y := ⟨_, rfl⟩
          obtain ⟨p, hp⟩ : ∃ p, y % 64 = p := ⟨_, rfl⟩
          have e2 : (H : Int) / 2 ^ s = (y : Int) := by rw [pow_int, ← Int.natCast_ediv, hy]
          have yb : y ≤ H := by rw [← hy]; exact Nat.div_le_self _ _
          have e3 : bits .and .u32 (y : Int) 63 = (p : Int) := by
            have := u32_and_nat y 63 (by omega) (by decide)
            rw [Nat.and_two_pow_sub_one_eq_mod y 6, show 2 ^ 6 = 64 from rfl, hp] at this
            exact this
          have p64 : p < 64 := by omega
          have p64i : (p : Int) < 64 := by omega
          obtain ⟨z, hz⟩ : ∃ z, letN p = z := ⟨_, rfl⟩
          have dz := (let_at p64).trans hz
          unfold lettersB at dz
          have hnx := lets_next (N := H) (j := k) (by omega)
          rw [hq, hs, hy, hp, hz] at hnx
          have hll : (Lib.byteCells (l ++ lets H k)).length + 1 ≤ 140737488355328 := by
            rw [Lib.byteCells_length, List.length_append]
            have : (lets H k).length ≤ 4 := by unfold lets; rw [List.length_take]; simp; omega
            omega
          have HWB := hide (writeByte_any B b _ (z.toNat : Int) wr hbd hll (Nat.le_trans hB hbw.size))
          rw [cells_snoc, List.append_assoc, ← hnx] at HWB
          have HBW := hide hbw
          have hj4 : j + 1 ≤ 4 := by omega
          clear hbd hbw hll hnx hq hs hy hp hz
          go_wp2_with (go_at_call 140; fail)
          refine (unhide HWB).mono ?_
          rintro e w2 ⟨rfl, hbd2, hb2⟩
          have HB2 := hide (Or.inr hbd2 : Lib.IsBuilder 119 5 B b (Lib.byteCells (l ++ lets H (k + 1))) w2)
          have HBW2 := hide ((unhide HBW).trans hb2)
          clear hbd2 hb2
          go_wp2
          go_roundw
          case rel => exact ⟨k + 1, hkl, by push_cast; rfl, unhide HB2, unhide HBW2⟩
          case measure => simp [intOf]; omega
        · have hke : k = j + 1 := by omega
          subst hke
          obtain ⟨r, hr⟩ : ∃ r, 3 - j = r := ⟨_, rfl⟩
          have e1 : (3 : Int) - (j : Int) = (r : Int) := by omega
          have hr3 : r ≤ 3 := by omega
          have HRP := hide (Tryz.strings_Repeat ⟨#[61]⟩ r wr (by omega) (by have : (⟨#[61]⟩ : ByteArray).size = 1 := rfl; rw [this]; omega))
          have hrep : Lib.repeatL (⟨#[61]⟩ : ByteArray).data.toList r = List.replicate r 61 := by
            have := Lib.repeatL_replicate 61 1 r
            simpa using this
          rw [hrep] at HRP
          rw [hr] at HGR
          have HBW := hide hbw
          have HBD2 := hide hbd
          have hBr : B ≤ wr.heap.size := Nat.le_trans hB hbw.size
          clear hbd hbw hrep hr
          go_wp2_with (first | (go_at_call 141; refine (unhide HRP).mono ?_; rintro e w3 ⟨rfl, b3⟩; have HB3 := hide b3; clear b3) | (go_at_call 108; fail))
          have hbd3 := build_low (unhide HBD2) (unhide HB3)
          have hll : (Lib.byteCells (l ++ lets H (j + 1))).length + (⟨(List.replicate r (61 : UInt8)).toArray⟩ : ByteArray).size ≤ 140737488355328 := by
            rw [Lib.byteCells_length, List.length_append]
            have : (lets H (j + 1)).length ≤ 4 := by unfold lets; rw [List.length_take]; simp; omega
            have h2 : (⟨(List.replicate r (61 : UInt8)).toArray⟩ : ByteArray).size = r := by simp [ByteArray.size]
            rw [h2]
            omega
          have HWS := hide (writeString_any B b _ _ w3 hbd3 hll (Nat.le_trans hBr (unhide HB3).size))
          have hcat : Lib.byteCells (l ++ lets H (j + 1)) ++ Lib.strCells ⟨(List.replicate r (61 : UInt8)).toArray⟩ = Lib.byteCells (l ++ grp g) := by
            rw [Lib.strCells_eq, unhide HGR, ← List.append_assoc, Lib.byteCells_append (l ++ lets H (j + 1))]
          rw [hcat] at HWS
          clear hbd3 hll hcat
          refine (unhide HWS).mono ?_
          rintro e w4 ⟨rfl, hbd4, b4⟩
          have HZ := hide (And.intro (Or.inr hbd4 : Lib.IsBuilder 119 5 B b (Lib.byteCells (l ++ grp g)) w4) (((unhide HBW).trans ((unhide HB3).mono hBr)).trans b4))
          clear hbd4 b4
          go_wp2
          go_end0
          exact ⟨rfl, (unhide HZ).1, (unhide HZ).2⟩
end Go.Proofs.YtkablmjkffdloaaGreatDoor
