/-
  Hex.
-/
import Derived.Test.YtkablmjkffdloaaGreatDoorShaW
import Derived.Deep.RegionWith
import Derived.Laws.IdiomStrings
import Derived.Laws.BitsAllLaws
namespace Go.Proofs.YtkablmjkffdloaaGreatDoor
open Go.RowKit

def digitsB : ByteArray := ⟨#[48, 49, 50, 51, 52, 53, 54, 55, 56, 57, 97, 98, 99, 100, 101, 102]⟩
/-- A digit. -/
def digN (n : Nat) : UInt8 := digitsB.data.toList.getD n 0
def hex2 (c : UInt8) : Bs := [digN (c.toNat / 16), digN (c.toNat % 16)]
/-- Bytes as digits. -/
def hexL (b : Bs) : Bs := b.flatMap hex2

theorem hexL_len : ∀ b : Bs, (hexL b).length = 2 * b.length
  | [] => rfl
  | c :: b => by
    show (hex2 c ++ hexL b).length = _
    rw [List.length_append, hexL_len b]
    simp [hex2]
    omega
theorem hexL_snoc {b : Bs} {j : Nat} (hj : j < b.length) : hexL (b.take j) ++ hex2 b[j] = hexL (b.take (j + 1)) := by
  have e : b.take (j + 1) = b.take j ++ [b[j]] := by simp
  rw [e]
  unfold hexL
  rw [List.flatMap_append]
  simp

/-- append of two bytes, laid into a block of their own. -/
theorem app_two {B : Nat} {w W1 : World} {v : Value} {l : Bs} {c d : UInt8} (ho : OwnB B w v l) (hB : B ≤ w.heap.size) (hl : l.length ≤ 2147483648) (hW : w.alloc (.cells #[.int .u8 (c.toNat : Int), .int .u8 (d.toNat : Int)] 5) = W1) :
    ∃ v' w', (Builtin.append_ #[23, 23] 23 #[v, .slice (some ⟨w.heap.size, 0, none⟩) 2 2]).run Tryz.prog W1 = .ok v' w' ∧ OwnB B w' v' (l ++ [c, d]) ∧ GrB w w' v v' := by
  have hb : Below w.heap.size w W1 := by rw [← hW]; exact (Below.refl _ _).alloc (Nat.le_refl _) _
  have hblk : Blk W1 w.heap.size #[.int .u8 (c.toNat : Int), .int .u8 (d.toNat : Int)] 5 := by rw [← hW]; exact Blk.new _ _ _
  obtain ⟨v', w', h1, h2, h3⟩ := app_bytes (a := ⟨w.heap.size, 0, none⟩) (m := [c, d]) (n := 2) (c := 2) (ho.low hb) (Nat.le_trans hB hb.size) rfl (fun k hk => by
    have : k = 0 ∨ k = 1 := by simp at hk; omega
    rcases this with rfl | rfl
    · exact hblk.cell 0
    · exact hblk.cell 1) (by omega)
  have ha : GrB w W1 v v := by rw [← hW]; exact GrB.alloc _ _ _
  exact ⟨v', w', h1, h2, ha.trans h3⟩

theorem conv_own {B : Nat} {w : World} {v : Value} {l : Bs} (h : OwnB B w v l) : (convert 23 9 v).run Tryz.prog w = .ok (.string ⟨l.toArray⟩) w := by
  obtain ⟨a, c, rfl, hb, _, _⟩ := OwnB.at h
  have h5 : Tryz.prog.underlying 5 = some (.int .u8) := Tryz.underlying5
  have h9 : Tryz.prog.underlying 9 = some .string := Tryz.underlying9
  rcases hb.els with h0 | ⟨B', O, rfl, hc⟩
  · subst h0
    rcases h.2 with ⟨e, _⟩ | ⟨g, cap, cur, e, _⟩
    · cases e
      rw [run_convert_bytes_string w 23 9 5 _ _ _ Tryz.underlying23 h5 h9]
      rfl
    · cases e
      exact run_convert_bytes_back w 23 9 5 _ _ [] Tryz.underlying23 h5 h9 (fun j hj => by simp at hj)
  · exact run_convert_bytes_back w 23 9 5 _ _ l Tryz.underlying23 h5 h9 (fun j hj => by
      have h := hc j hj
      by_cases hj0 : j = 0
      · subst hj0
        exact h
      · simpa [Addr.add, hj0] using h)

theorem dig_at {p : Nat} (h : p < 16) : digitsB[p]'h = digN p := by
  have : ∀ i : Fin 16, digitsB[i.1]'i.2 = digN i.1 := by decide +kernel
  exact this ⟨p, h⟩

set_option maxRecDepth 100000 in
set_option maxHeartbeats 2000000 in
theorem hex_any {w : World} {a : Option Addr} {n c : Nat} {b : Bs} (hn : b.length = n) (hN : n ≤ 1048576) (h : BAt w a b) :
    Calls Tryz.prog 31 #[.slice a n c] w fun e w' => e = .returned (.string ⟨(hexL b).toArray⟩) ∧ Below w.heap.size w w' := by
  obtain ⟨i0, hi, hz0, hz1, hz2⟩ := info_parts info5
  have HN := hide hn
  have H := hide h
  clear hn h
  obtain ⟨m, hm⟩ : ∃ m, 2 * n = m := ⟨_, rfl⟩
  have q1 : (2 : Int) * (n : Int) = (m : Int) := by omega
  have q2 : IntKind.i64.wrap (m : Int) = (m : Int) := by rw [IntKind.wrap_i64]; omega
  have q3 : m ≤ 2097152 := by omega
  clear hm
  go_enter Tryz.func31, Tryz.ntmps31
  go_wp2_with (at_make; refine wpList_make_own _ rfl _ _ 23 rfl w.heap.size 5 i0 (.int .u8 0) 1 Tryz.underlying23 hi hz0 hz1 _ _ _ m rfl rfl rfl (by rw [hz2]; omega) (by unfold maxLen; omega) (Nat.le_refl _) ?_; intro w1 hown hgrow; have HB1 : Hid (Below w.heap.size w w1) := hide (low_grownN hgrow); have HO1 : Hid (OwnB w.heap.size w1 (.slice (some ⟨w.heap.size, 0, none⟩) 0 m) []) := hide hown; clear hown hgrow)
  go_loopw [3, 5, 12] (fun v3 _ v12 wr => ∃ j : Nat, j ≤ n ∧ v12 = .int .i64 (j : Int) ∧ OwnB w.heap.size wr v3 (hexL (b.take j)) ∧ Below w.heap.size w wr) (fun _ _ v12 _ => n - (intOf v12).toNat)
  case atStart => exact ⟨0, Nat.zero_le _, rfl, unhide HO1, unhide HB1⟩
  case round =>
    rename World => wr
    clear HO1 HB1 hi hz0 hz1 hz2
    obtain ⟨j, hj, rfl, ho, hb⟩ := hrel
    by_cases hlt : j < n
    · have hjl : j < b.length := by rw [unhide HN]; exact hlt
      obtain ⟨B, O, rfl, hcell⟩ := ((unhide H).low hb).at hjl
      have hsn := hexL_snoc hjl
      obtain ⟨x, hx⟩ : ∃ x, b[j] = x := ⟨_, rfl⟩
      rw [hx] at hcell hsn
      have hx2 := u8_lt x
      have hlen : (hexL (b.take j)).length ≤ 2147483648 := by rw [hexL_len, List.length_take]; omega
      obtain ⟨p, hp⟩ : ∃ p, x.toNat / 16 = p := ⟨_, rfl⟩
      obtain ⟨q, hq⟩ : ∃ q, x.toNat % 16 = q := ⟨_, rfl⟩
      have p1 : (x.toNat : Int) / 16 = (p : Int) := by omega
      have p2 : bits .and .u8 (x.toNat : Int) 15 = (q : Int) := by
        have := u8_and_nat x.toNat 15 hx2 (by decide)
        rw [Nat.and_two_pow_sub_one_eq_mod x.toNat 4, hq] at this
        exact this
      have p16 : p < 16 := by omega
      have q16 : q < 16 := by omega
      have p16i : (p : Int) < 16 := by omega
      have q16i : (q : Int) < 16 := by omega
      obtain ⟨y, hy⟩ : ∃ y, digN p = y := ⟨_, rfl⟩
      obtain ⟨z, hz⟩ : ∃ z, digN q = z := ⟨_, rfl⟩
      have dy := (dig_at p16).trans hy
      have dz := (dig_at q16).trans hz
      unfold digitsB at dy dz
      obtain ⟨W1, hW1⟩ : ∃ W1, wr.drew.alloc (.cells #[.int .u8 (y.toNat : Int), .int .u8 (z.toNat : Int)] 5) = W1 := ⟨_, rfl⟩
      obtain ⟨v', w', happ, hown, hgr⟩ := app_two (W1 := W1) (w := wr.drew) (ho.low (Below.refl _ _).drew) hb.size hlen hW1
      have hh : hex2 x = [y, z] := by unfold hex2; rw [hp, hq, hy, hz]
      rw [← hh, hsn] at hown
      have HP : Hid (OwnB w.heap.size w' v' (hexL (b.take (j + 1))) ∧ Below w.heap.size w w') := hide ⟨hown, hb.drew.trans (hgr.low hb.size (OwnB.base ho))⟩
      have HW1 := hide hW1
      clear ho hb hown hgr hW1 hsn hx hh hy hz hp hq hlen
      have mixed : Tryz.prog.follows .mixedOrders = true := by kernel_rfl
      go_wp2
      refine wp_region_any mixed ?_
      refine wpAny_take (i := 0) (v := u3) rfl (by kernel_rfl) (by kernel_rfl) (by kernel_rfl) (fun _ _ _ h => h) (Or.inl ⟨rfl, fun _ => rfl⟩) ?_
      refine wpAny_take (i := 1) (v := .int .u8 (x.toNat : Int)) rfl (by kernel_rfl) (by kernel_rfl) (by kernel_rfl) (fun _ _ _ h => h) (Or.inl ⟨rfl, fun _ => rfl⟩) ?_
      refine wpAny_take (i := 2) (v := .int .u8 (p : Int)) rfl (by kernel_rfl) (by kernel_rfl) (by kernel_rfl) (fun _ _ _ h => h) (Or.inl ⟨rfl, fun _ => by go_simp⟩) ?_
      refine wpAny_take (i := 3) (v := .int .u8 (y.toNat : Int)) rfl (by kernel_rfl) (by kernel_rfl) (by kernel_rfl) (fun _ _ _ h => h) (Or.inl ⟨rfl, fun _ => by go_simp⟩) ?_
      refine wpAny_take (i := 4) (v := .int .u8 (x.toNat : Int)) rfl (by kernel_rfl) (by kernel_rfl) (by kernel_rfl) (fun _ _ _ h => h) (Or.inl ⟨rfl, fun _ => rfl⟩) ?_
      refine wpAny_take (i := 5) (v := .int .u8 (q : Int)) rfl (by kernel_rfl) (by kernel_rfl) (by kernel_rfl) (fun _ _ _ h => h) (Or.inl ⟨rfl, fun _ => by go_simp⟩) ?_
      refine wpAny_take (i := 6) (v := .int .u8 (z.toNat : Int)) rfl (by kernel_rfl) (by kernel_rfl) (by kernel_rfl) (fun _ _ _ h => h) (Or.inl ⟨rfl, fun _ => by go_simp⟩) ?_
      go_simp
      refine wpAny_ready (rs := [7]) (by kernel_rfl) (by simp) (ready_step _ rfl rfl (fun K hK => ?_) AllReady.nil)
      go_simp
      refine hK _ _ ?_
      clear hK K
      refine wpAny_ready (rs := [8]) (by kernel_rfl) (by simp) (ready_step _ rfl rfl (fun K hK => ?_) AllReady.nil)
      rw [show (wr.alloc (.cells #[.int .u8 (y.toNat : Int), .int .u8 (z.toNat : Int)] 5)).drew = W1 from unhide HW1]
      refine Lib.wp_append_run _ _ _ _ _ rfl _ _ rfl rfl _ _ happ ?_
      refine hK _ _ ?_
      clear hK K
      refine wpAny_ready (rs := [9]) (by kernel_rfl) (by simp) (ready_step _ rfl rfl (fun K hK => ?_) AllReady.nil)
      go_simp
      refine hK _ _ ?_
      clear hK K
      refine wpAny_done (by kernel_rfl) ?_ _
      go_wp2
      go_roundw
      case rel => exact ⟨j + 1, hlt, by simp, (unhide HP).1, (unhide HP).2⟩
      case measure => simp [intOf]; omega
    · have hjn : j = n := by omega
      subst hjn
      rw [← unhide HN, List.take_length] at ho
      have hcv := conv_own ho
      have HB := hide hb
      clear ho hb
      go_wp2
      go_ret
      exact ⟨rfl, unhide HB⟩

end Go.Proofs.YtkablmjkffdloaaGreatDoor
