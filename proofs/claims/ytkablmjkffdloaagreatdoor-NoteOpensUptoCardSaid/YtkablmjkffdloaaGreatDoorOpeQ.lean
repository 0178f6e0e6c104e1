/-
  A note of one signature opened with its key, the program's.
-/
import Derived.Test.YtkablmjkffdloaaGreatDoorReaQ
namespace Go.Proofs.YtkablmjkffdloaaGreatDoor
open Go.RowKit

set_option maxRecDepth 100000 in
set_option maxHeartbeats 4000000 in
theorem split_one {w : World} {s text ls l nm b : Bs} {m : Nat} (hl : s.length ≤ 131072) (hi : Lib.lastIndex s [10, 10] = (m : Int)) (hm : m + 2 ≤ s.length) (ht : s.take (m + 1) = text) (htt : textB text = true) (hd : s.drop (m + 2) = ls) (h1 : Lib.hasSuffix ls [10] = true) (h2 : Lib.trimSuffix ls [10] = l) (h3 : Lib.countB (ba l) (ba [10]) = 0) (h : IsLine l nm b) (hg : Gy w) :
    Calls Tryz.prog 111 #[.string (ba s)] w fun e w' => ∃ v, e = .returned (.tuple #[.string (ba text), v, .bool true]) ∧ OneSig w' v nm b ∧ Below w.heap.size w w' := by
  obtain ⟨n, hn⟩ : ∃ n, s.length = n := ⟨_, rfl⟩
  have hsz : (ba s).size = n := by rw [ba_size]; exact hn
  have K1 : Hid (∀ w : World, Calls Tryz.prog 158 #[.string (ba s), .string ⟨#[10, 10]⟩] w fun e w' => e = .returned (.int .i64 (m : Int)) ∧ w' = w) := hide (fun w => by
    have k := Tryz.strings_LastIndex (ba s) (ba [10, 10]) (by rw [ba_size]; omega) w
    rw [ba_data, ba_data, hi] at k
    exact k)
  have K2 : Hid (∀ w : World, Calls Tryz.prog 106 #[.string (ba text)] w fun e w' => e = .returned (.bool true) ∧ w' = w) := hide (fun w => by
    have k := isText_any (l := text) (by rw [← ht, List.length_take]; omega) w
    rw [htt] at k
    exact k)
  have K3 := hide (readLines_one (w := w) (ls := ls) (by rw [← hd, List.length_drop]; omega) h1 h2 h3 h hg)
  have x1 : (ba s).extract 0 (m + 1) = ba text := by rw [sub_of, ← ht]; simp
  have x2 : (ba s).extract (m + 2) n = ba ls := by
    rw [sub_of, ← hd, List.take_of_length_le (by rw [List.length_drop]; omega)]
  obtain ⟨m1, hm1⟩ : ∃ m1, m + 1 = m1 := ⟨_, rfl⟩
  obtain ⟨m2, hm2⟩ : ∃ m2, m + 2 = m2 := ⟨_, rfl⟩
  rw [hm1] at x1
  rw [hm2] at x2
  have y1 : (m : Int) + 1 = (m1 : Int) := by omega
  have y2 : (m1 : Int) + 1 = (m2 : Int) := by omega
  have y3 : (m1 : Int) ≤ (n : Int) := by omega
  have y4 : (m2 : Int) ≤ (n : Int) := by omega
  have y5 : IntKind.i64.wrap (m1 : Int) = (m1 : Int) := by rw [IntKind.wrap_i64]; omega
  have y6 : IntKind.i64.wrap (m2 : Int) = (m2 : Int) := by rw [IntKind.wrap_i64]; omega
  have y7 : m1 ≤ n := by omega
  have y8 : m2 ≤ n := by omega
  have hn2 : n ≤ 131072 := by omega
  have hm4 : m ≤ 131072 := by omega
  clear hm1 hm2 hm4
  clear hi hm ht htt hd h1 h2 h3 h hg hn hl
  go_enter Tryz.func111, Tryz.ntmps111
  go_wp2_with (first
    | (go_at_call 158; refine (unhide K1 _).mono ?_; rintro e wn ⟨rfl, hwn⟩; rw [hwn]; clear hwn wn)
    | (go_at_call 106; refine (unhide K2 _).mono ?_; rintro e wn ⟨rfl, hwn⟩; rw [hwn]; clear hwn wn)
    | (go_at_call 159; fail))
  refine (unhide K3).mono ?_
  rintro e w1 ⟨v1, rfl, o1, b1⟩
  have HO := hide o1
  have HB := hide b1
  clear o1 b1 K1 K2 K3
  go_wp2
  exact bodyPost_ret (v := .tuple #[.string (ba text), v1, .bool true]) (by simp [results, Tryz.results111, go_sem]) rfl ⟨_, rfl, unhide HO, unhide HB⟩

set_option maxRecDepth 100000 in
theorem indexFunc_none (f : Value) (R c : Nat) (w : World) : Calls Tryz.prog 194 #[.slice (some ⟨R, 0, none⟩) 0 c, f] w fun e w' => e = .returned (.int .i64 (-1)) ∧ w' = w := by
  go_enter Tryz.func194, Tryz.ntmps194
  go_wp2
  go_loop [5, 8] (fun _ v8 => v8 = .int .i64 0) (fun _ _ => 0)
  case atStart => rfl
  case round =>
    obtain rfl := hrel
    go_wp2
    go_ret
    exact ⟨rfl, rfl⟩
theorem contains_none (f : Value) (R c : Nat) (w : World) : Calls Tryz.prog 161 #[.slice (some ⟨R, 0, none⟩) 0 c, f] w fun e w' => e = .returned (.bool false) ∧ w' = w := by
  go_enter Tryz.func161, Tryz.ntmps161
  go_wp2_with (go_at_call 194; refine (indexFunc_none _ _ _ _).mono ?_; rintro e wn ⟨rfl, hwn⟩; rw [hwn]; clear hwn wn)
  go_ret
  exact ⟨rfl, rfl⟩

theorem keyName_any {nm sec : Bs} (w : World) : Calls Tryz.prog 55 #[.agg #[.string (ba nm), .string (ba sec)]] w fun e w' => e = .returned (.string (ba nm)) ∧ Below w.heap.size w w' := by
  have HB := hide (lowA (Below.refl w.heap.size w) (.cells #[.string (ba nm), .string (ba sec)] 75))
  go_enter Tryz.func55, Tryz.ntmps55
  go_wp2
  go_ret
  exact ⟨rfl, unhide HB⟩

set_option maxRecDepth 100000 in
set_option maxHeartbeats 4000000 in
theorem is_yes {nm sec : Bs} (hn : nm.length ≤ 1000000) (hs : sec.length ≤ 1000000) (w : World) :
    Calls Tryz.prog 195 #[.agg #[.string (ba nm), .int .u32 ((idN nm sec).toNat : Int)], .iface 75 (.agg #[.string (ba nm), .string (ba sec)])] w fun e w' => e = .returned (.bool true) ∧ Below w.heap.size w w' := by
  obtain ⟨N, hN⟩ : ∃ N : Nat, (idN nm sec).toNat = N := ⟨_, rfl⟩
  rw [hN]
  obtain ⟨A, hA⟩ : ∃ A, w.heap.size = A := ⟨_, rfl⟩
  obtain ⟨W1, hW1⟩ : ∃ W1, w.alloc (.cells #[.string (ba nm), .int .u32 (N : Int)] 154) = W1 := ⟨_, rfl⟩
  have b1 : Below w.heap.size w W1 := by rw [← hW1]; exact lowA (Below.refl _ _) _
  have q1 : Blk W1 A #[.string (ba nm), .int .u32 (N : Int)] 154 := by rw [← hW1, ← hA]; exact Blk.new _ _ _
  have k0 : W1.cell? ⟨A, 0, none⟩ = some (.string (ba nm)) := q1.cell 0
  have k1 : W1.cell? ⟨A, 1, none⟩ = some (.int .u32 (N : Int)) := q1.cell 1
  have KN := hide (fun W => keyName_any (nm := nm) (sec := sec) W)
  have KI : Hid (∀ W, Calls Tryz.prog 104 #[.agg #[.string (ba nm), .string (ba sec)]] W fun e w' => e = .returned (.int .u32 (N : Int)) ∧ Below W.heap.size W w') := hide (fun W => by
    have k := keyID_any hs hn W
    unfold keyV at k
    rw [hN] at k
    exact k)
  have ss : ((ba nm).toList == (ba nm).toList) = true := by simp
  have hm1 : ∀ W : World, (method 414 75 (.agg #[.string (ba nm), .string (ba sec)]) "Name").run Tryz.prog W = .ok (55, .agg #[.string (ba nm), .string (ba sec)]) W := fun _ => by kernel_rfl
  have hm2 : ∀ W : World, (method 414 75 (.agg #[.string (ba nm), .string (ba sec)]) "ID").run Tryz.prog W = .ok (104, .agg #[.string (ba nm), .string (ba sec)]) W := fun _ => by kernel_rfl
  have HW := hide hW1
  have HB := hide b1
  clear q1 b1 hW1 hN
  go_enter Tryz.func195, Tryz.ntmps195
  go_wp2
  rw [unhide HW]
  clear HW
  go_region_held3 (fun w' => w'.cell? ⟨A, 0, none⟩ = some (.string (ba nm)) ∧ w'.cell? ⟨A, 1, none⟩ = some (.int .u32 (N : Int)))
    (first | assumption | exact ⟨k0, k1⟩)
    (first
      | (go_at_call 55; refine (unhide KN _).mono ?_; rintro e w3 ⟨rfl, b3⟩; have S3 := key_low (by assumption) b3)
      | (go_at_call 104; refine (unhide KI _).mono ?_; rintro e w4 ⟨rfl, b4⟩; have S4 := key_low (by assumption) b4))
  have HZ : Hid (Below w.heap.size w w4) := hide (low_trans (unhide HB) (low_trans (lowD (Below.refl _ _)) (low_trans b3 b4)))
  clear b3 b4
  go_wp2
  go_ret
  exact ⟨rfl, unhide HZ⟩
set_option maxRecDepth 100000 in
set_option maxHeartbeats 4000000 in
theorem verifyOf_one {w : World} {nm sec : Bs} {a : Option Addr} {c : Nat} (hn : nm.length ≤ 1000000) (hs : sec.length ≤ 1000000) (h : KRow w a [(nm, sec)]) :
    Calls Tryz.prog 162 #[.agg #[.string (ba nm), .int .u32 ((idN nm sec).toNat : Int)], .slice a 1 c] w fun e w' => e = .returned (.func (.method "Verify") #[.iface 75 (.agg #[.string (ba nm), .string (ba sec)])] #[]) ∧ Below w.heap.size w w' := by
  have KI := hide (is_yes hn hs)
  obtain ⟨N, hN⟩ : ∃ N : Nat, (idN nm sec).toNat = N := ⟨_, rfl⟩
  rw [hN] at KI ⊢
  obtain ⟨B, O, rfl, g0, g1⟩ := h.at (k := 0) (by simp)
  have hg0 : w.cell? ⟨B, O, none⟩ = some (.string (ba nm)) := by simpa using g0
  have hg1 : w.cell? ⟨B, O + 1, none⟩ = some (.string (ba sec)) := by simpa using g1
  obtain ⟨A, hA⟩ : ∃ A, w.heap.size = A := ⟨_, rfl⟩
  obtain ⟨W1, hW1⟩ : ∃ W1, w.alloc (.cells #[.string (ba nm), .int .u32 (N : Int)] 154) = W1 := ⟨_, rfl⟩
  have b1 : Below w.heap.size w W1 := by rw [← hW1]; exact lowA (Below.refl _ _) _
  have q1 : Blk W1 A #[.string (ba nm), .int .u32 (N : Int)] 154 := by rw [← hW1, ← hA]; exact Blk.new _ _ _
  have s1 : W1.heap.size = A + 1 := by rw [← hW1, ← hA]; simp
  obtain ⟨W2, hW2⟩ : ∃ W2, W1.alloc (.cells #[.string (ba nm), .string (ba sec)] 75) = W2 := ⟨_, rfl⟩
  have b2 : Below W1.heap.size W1 W2 := by rw [← hW2]; exact lowA (Below.refl _ _) _
  have q2 : Blk W2 (A + 1) #[.string (ba nm), .string (ba sec)] 75 := by rw [← s1, ← hW2]; exact Blk.new _ _ _
  have q12 := q1.low b2
  have e0 : W1.cell? ⟨B, O, none⟩ = some (.string (ba nm)) := (b1.cell (lt_of_cell hg0)).trans hg0
  have e1 : W1.cell? ⟨B, O + 1, none⟩ = some (.string (ba sec)) := (b1.cell (lt_of_cell hg1)).trans hg1
  have k0 : (W1.alloc (.cells #[.string (ba nm), .string (ba sec)] 75)).cell? ⟨A, 0, none⟩ = some (.string (ba nm)) := by rw [hW2]; exact q12.cell 0
  have k1 : (W1.alloc (.cells #[.string (ba nm), .string (ba sec)] 75)).cell? ⟨A, 1, none⟩ = some (.int .u32 (N : Int)) := by rw [hW2]; exact q12.cell 1
  have HW1 := hide hW1
  have HW2 := hide hW2
  have HB := hide (low_trans b1 b2)
  clear h g0 g1 hg0 hg1 b1 b2 q1 q2 q12 hW1 hW2 hN s1
  go_enter Tryz.func162, Tryz.ntmps162
  go_wp2
  rw [unhide HW1]
  go_loopw [6, 7, 10] (fun _ _ v10 wr => v10 = .int .i64 0 ∧ wr = W1) (fun _ _ _ _ => 0)
  case atStart => exact ⟨rfl, rfl⟩
  case round =>
    obtain ⟨rfl, rfl⟩ := hrel
    go_wp2_with (go_at_call 195; fail)
    rw [unhide HW2]
    refine (unhide KI _).mono ?_
    rintro e w3 ⟨rfl, b3⟩
    have HZ := hide (low_trans (unhide HB) b3)
    clear b3
    go_wp2
    go_ret
    exact ⟨rfl, unhide HZ⟩
end Go.Proofs.YtkablmjkffdloaaGreatDoor

namespace Go.Proofs.YtkablmjkffdloaaGreatDoor
open Go.RowKit

set_option maxRecDepth 100000 in
set_option maxHeartbeats 4000000 in
theorem checked_one {w : World} {text nm sec b : Bs} {v : Value} {a : Option Addr} {c : Nat} (ht : text.length ≤ 1000000) (hn : nm.length ≤ 1000000) (hs : sec.length ≤ 1000000) (hid : numU b = idN nm sec) (hsig : b.drop 4 = sigL sec text) (hv : OneSig w v nm b) (hk : KRow w a [(nm, sec)]) :
    Calls Tryz.prog 112 #[.string (ba text), v, .slice a 1 c] w fun e w' => ∃ a7 c7, e = .returned (.tuple #[.agg #[.string (ba text), .slice a7 1 c7, .slice none 0 0], .int .i64 0]) ∧ Below w.heap.size w w' := by
  obtain ⟨i0, hi, hz0, hz1, hz2⟩ := info_parts info9
  obtain ⟨R, cap, g, sc, rfl, hcap, r0, r1, r2, rat⟩ := hv.at_
  rw [hsig] at rat
  have hbl : b.length - 4 = 32 := by rw [← List.length_drop, hsig]; exact sha32 _
  rw [hbl] at r2
  rw [hid] at r1
  obtain ⟨N, hN⟩ : ∃ N : Nat, (idN nm sec).toNat = N := ⟨_, rfl⟩
  rw [hN] at r1
  obtain ⟨A, hA⟩ : ∃ A, w.heap.size = A := ⟨_, rfl⟩
  obtain ⟨W1, hW1⟩ : ∃ W1, w.alloc (.cells #[.string ⟨#[]⟩, .slice none 0 0, .slice none 0 0] 78) = W1 := ⟨_, rfl⟩
  have b1 : Below w.heap.size w W1 := by rw [← hW1]; exact lowA (Below.refl _ _) _
  have q1 : Blk W1 A #[.string ⟨#[]⟩, .slice none 0 0, .slice none 0 0] 78 := by rw [← hW1, ← hA]; exact Blk.new _ _ _
  have s1 : W1.heap.size = A + 1 := by rw [← hW1, ← hA]; simp
  obtain ⟨W2, hW2⟩ : ∃ W2, W1.alloc (.cells #[.string (ba text), .slice none 0 0, .slice none 0 0] 78) = W2 := ⟨_, rfl⟩
  have b2 : Below W1.heap.size W1 W2 := by rw [← hW2]; exact lowA (Below.refl _ _) _
  have q2 : Blk W2 (A + 1) #[.string (ba text), .slice none 0 0, .slice none 0 0] 78 := by rw [← s1, ← hW2]; exact Blk.new _ _ _
  have s2 : W2.heap.size = A + 2 := by rw [← hW2]; simp [s1]
  have b12 := low_trans b1 b2
  have t0 : W2.cell? ⟨R, 0, none⟩ = some (.string (ba nm)) := (b12.cell (lt_of_cell r0)).trans r0
  have t1 : W2.cell? ⟨R, 1, none⟩ = some (.int .u32 (N : Int)) := (b12.cell (lt_of_cell r1)).trans r1
  have t2 : W2.cell? ⟨R, 2, none⟩ = some (.slice (some ⟨g, 4, none⟩) 32 sc) := (b12.cell (lt_of_cell r2)).trans r2
  obtain ⟨W3, hW3⟩ : ∃ W3, W2.alloc (.cells #[.string (ba nm), .int .u32 (N : Int), .slice (some ⟨g, 4, none⟩) 32 sc] 157) = W3 := ⟨_, rfl⟩
  have b3 : Below W2.heap.size W2 W3 := by rw [← hW3]; exact lowA (Below.refl _ _) _
  have q3 : Blk W3 (A + 2) #[.string (ba nm), .int .u32 (N : Int), .slice (some ⟨g, 4, none⟩) 32 sc] 157 := by rw [← s2, ← hW3]; exact Blk.new _ _ _
  have b03 := low_trans b12 b3
  have KC := hide (contains_none)
  have KV := hide (verifyOf_one (w := W3) (c := c) hn hs (hk.low b03))
  rw [hN] at KV
  have HQ1 := hide ((q1.low b2).low b3)
  have HQ2 := hide (q2.low b3)
  have HQ3 := hide q3
  have HB := hide b03
  have HAT := hide (rat.low b03)
  have HW1 := hide hW1
  have HW2 := hide hW2
  have HW3 := hide hW3
  have HA := hide hA
  have HVF : Hid (∀ W, BAt W (some ⟨g, 4, none⟩) (sigL sec text) → Calls Tryz.prog 62 #[.agg #[.string (ba nm), .string (ba sec)], .string (ba text), .slice (some ⟨g, 4, none⟩) 32 sc] W fun e w' => e = .returned (.bool true) ∧ Below W.heap.size W w') := hide (fun W h => by
    have k := verify_any (nm := nm) (sig := sigL sec text) (c := sc) hs ht (sha32 _) h
    rw [decide_eq_true rfl] at k
    exact k)
  have hnf : ∀ W : World, (binOp .eql 91 (.func (.method "Verify") #[.iface 75 (.agg #[.string (ba nm), .string (ba sec)])] #[]) .nilFunc).run Tryz.prog W = .ok (.bool false) W := fun _ => by kernel_rfl
  have hmv : ∀ W : World, (method 414 75 (.agg #[.string (ba nm), .string (ba sec)]) "Verify").run Tryz.prog W = .ok (62, .agg #[.string (ba nm), .string (ba sec)]) W := fun _ => by kernel_rfl
  clear hv hk ht hn hs hid hsig rat r0 r1 r2 b1 b2 b3 b12 b03 q1 q2 q3 hW1 hW2 hW3 hN hbl s1
  go_enter Tryz.func112, Tryz.ntmps112
  go_wp2
  rw [unhide HW1, unhide HW2]
  go_loopw [9, 10, 11, 12, 17] (fun _ _ _ _ v17 wr => (v17 = .int .i64 0 ∧ wr = W2) ∨ (v17 = .int .i64 1 ∧ ∃ a7 c7, Blk wr (A + 1) #[.string (ba text), .slice a7 1 c7, .slice none 0 0] 78 ∧ Blk wr A #[.string ⟨#[]⟩, .slice none 0 0, .slice none 0 0] 78 ∧ Below w.heap.size w wr)) (fun _ _ _ _ v17 _ => 1 - (intOf v17).toNat)
  case atStart => exact Or.inl ⟨rfl, rfl⟩
  case round =>
    rename World => wr
    rcases hrel with ⟨rfl, rfl⟩ | ⟨rfl, a7, c7, p1, p0, hbw⟩
    · go_wp2_with (first
        | (go_at_call 161; refine (unhide KC _ _ _ _).mono ?_; rintro e wn ⟨rfl, hwn⟩; rw [hwn]; clear hwn wn)
        | (go_at_call 162; fail))
      rw [unhide HW3]
      refine (unhide KV).mono ?_
      rintro e w4 ⟨rfl, b4⟩
      have q34 := (unhide HQ3).low b4
      have x0 := q34.cell 0
      have x2 := q34.cell 2
      have KF := hide (unhide HVF _ ((unhide HAT).low b4))
      have HB4 := hide b4
      clear b4 q34
      go_wp2_with (go_at_call 62; fail)
      refine (unhide KF).mono ?_
      rintro e w5 ⟨rfl, b5⟩
      have b35 := low_trans (unhide HB4) b5
      have q15 := (unhide HQ1).low b35
      have q25 := (unhide HQ2).low b35
      have q35 := (unhide HQ3).low b35
      have y0 := q35.cell 0
      have z1 := q25.cell 1
      have lt2 := q25.lt
      have lt1 := q15.lt
      have HB5 := hide (low_trans (unhide HB) b35)
      have HQ15 := hide q15
      have HQ25 := hide q25
      clear b5 b35 q15 q25 q35 x0 x2 KF KC KV HB4
      go_wp2_with (at_builtin; refine wpList_append_own _ rfl _ _ 73 rfl w5.heap.size 9 i0 (.string ByteArray.empty) 1 16 Tryz.underlying73 hi hz0 hz1 hz2 rfl (by decide) _ 0 [] rfl ⟨rfl, Or.inl ⟨rfl, rfl⟩⟩ ⟨w5.heap.size, 0, none⟩ 1 1 [.string (ba nm)] rfl rfl ?cells ?kind ?room ?len ?base ?_)
      case cells =>
        intro j u hj
        match j, hj with
        | 0, hj => simp at hj; subst hj; simp [Addr.add]
      case kind => intro u hu; simp at hu; subst hu; rfl
      case room => unfold maxLen; omega
      case len => omega
      case base => simp
      intro v7 w7 hown hgrow _
      obtain ⟨a7, c7, rfl⟩ : ∃ a7 c7, v7 = .slice a7 1 c7 := by
        rcases hown.2 with ⟨_, h0⟩ | ⟨R7, cap7, cur, e7, _⟩
        · simp at h0
        · exact ⟨_, _, e7⟩
      have b7 : Below w5.heap.size w5 w7 := (lowA (Below.refl _ _) _).grown hgrow (by simp) (fun j hj => by cases hj)
      have q17 := (unhide HQ15).low b7
      have q27 := (unhide HQ25).low b7
      have u0 := q27.cell 1
      have f0 := q27.free 1
      have HP1 : Hid (Blk (w7.setCell ⟨A + 1, 1, none⟩ (.slice a7 1 c7)) (A + 1) #[.string (ba text), .slice a7 1 c7, .slice none 0 0] 78) := hide (by have := q27.set 1 (.slice a7 1 c7); simpa using this)
      have HP0 : Hid (Blk (w7.setCell ⟨A + 1, 1, none⟩ (.slice a7 1 c7)) A #[.string ⟨#[]⟩, .slice none 0 0, .slice none 0 0] 78) := hide (q17.other (by simp) _)
      have HB7 : Hid (Below w.heap.size w (w7.setCell ⟨A + 1, 1, none⟩ (.slice a7 1 c7))) := hide (low_put2 (low_trans (unhide HB5) b7) (by rw [unhide HA]; omega))
      clear hown hgrow b7 q17 q27
      go_wp2
      go_roundw
      case rel => exact Or.inr ⟨rfl, a7, c7, unhide HP1, unhide HP0, unhide HB7⟩
      case measure => simp [intOf]
    · have u0 := p1.cell 0
      have u1 := p1.cell 1
      have u2 := p1.cell 2
      have r0 := p0.cell 0
      have r1 := p0.cell 1
      have r2 := p0.cell 2
      have f0 := p0.free 0
      have f1 := p0.free 1
      have f2 := p0.free 2
      have qs := ((p0.set 0 (.string (ba text))).set 1 (.slice a7 1 c7)).set 2 (.slice none 0 0)
      have d0 := qs.cell 0
      have d1 := qs.cell 1
      have d2 := qs.cell 2
      have HZ : Hid (Below w.heap.size w (((wr.setCell ⟨A, 0, none⟩ (.string (ba text))).setCell ⟨A, 1, none⟩ (.slice a7 1 c7)).setCell ⟨A, 2, none⟩ (.slice none 0 0))) := hide (low_put3 hbw (by rw [unhide HA]; exact Nat.le_refl _))
      clear p1 p0 hbw qs KC KV
      go_wp2
      exact bodyPost_ret (v := .tuple #[.agg #[.string (ba text), .slice a7 1 c7, .slice none 0 0], .int .i64 0]) (by simp [results, Tryz.results112, go_sem, d0, d1, d2]) rfl ⟨a7, c7, rfl, unhide HZ⟩
end Go.Proofs.YtkablmjkffdloaaGreatDoor

namespace Go.Proofs.YtkablmjkffdloaaGreatDoor
open Go.RowKit

set_option maxRecDepth 100000 in
set_option maxHeartbeats 4000000 in
theorem open_one {w : World} {s text ls l nm sec b : Bs} {m : Nat} {a : Option Addr} {c : Nat} (hl : s.length ≤ 131072) (hi : Lib.lastIndex s [10, 10] = (m : Int)) (hm : m + 2 ≤ s.length) (ht : s.take (m + 1) = text) (htt : textB text = true) (hd : s.drop (m + 2) = ls) (h1 : Lib.hasSuffix ls [10] = true) (h2 : Lib.trimSuffix ls [10] = l) (h3 : Lib.countB (ba l) (ba [10]) = 0) (h : IsLine l nm b) (hn : nm.length ≤ 1000000) (hs : sec.length ≤ 1000000) (hid : numU b = idN nm sec) (hsig : b.drop 4 = sigL sec text) (hk : KRow w a [(nm, sec)]) (hg : Gy w) :
    Calls Tryz.prog 56 #[.string (ba s), .slice a 1 c] w fun e w' => ∃ a7 c7, e = .returned (.tuple #[.agg #[.string (ba text), .slice a7 1 c7, .slice none 0 0], .int .i64 0]) ∧ Below w.heap.size w w' := by
  obtain ⟨n, hn0⟩ : ∃ n, s.length = n := ⟨_, rfl⟩
  have hsz : (ba s).size = n := by rw [ba_size]; exact hn0
  have hn2 : ¬ (131072 : Int) < (n : Int) := by omega
  have htl : text.length ≤ 1000000 := by rw [← ht, List.length_take]; omega
  obtain ⟨A, hA⟩ : ∃ A, w.heap.size = A := ⟨_, rfl⟩
  obtain ⟨W1, hW1⟩ : ∃ W1, w.alloc (.cells #[.string ⟨#[]⟩, .slice none 0 0, .slice none 0 0] 78) = W1 := ⟨_, rfl⟩
  have b1 : Below w.heap.size w W1 := by rw [← hW1]; exact lowA (Below.refl _ _) _
  have q1 : Blk W1 A #[.string ⟨#[]⟩, .slice none 0 0, .slice none 0 0] 78 := by rw [← hW1, ← hA]; exact Blk.new _ _ _
  have K1 := hide (split_one (w := W1) hl hi hm ht htt hd h1 h2 h3 h (hg.low b1))
  have K2 : Hid (∀ W v, Below w.heap.size w W → OneSig W v nm b → Calls Tryz.prog 112 #[.string (ba text), v, .slice a 1 c] W fun e w' => ∃ a7 c7, e = .returned (.tuple #[.agg #[.string (ba text), .slice a7 1 c7, .slice none 0 0], .int .i64 0]) ∧ Below W.heap.size W w') := hide (fun W v hW hv => checked_one htl hn hs hid hsig hv (hk.low hW))
  have HQ1 := hide q1
  have HB1 := hide b1
  have HW1 := hide hW1
  have HA := hide hA
  clear hl hi hm ht htt hd h1 h2 h3 h hn hs hid hsig hk hg hn0 b1 q1 hW1 htl
  go_enter Tryz.func56, Tryz.ntmps56
  go_wp2_with (go_at_call 111; fail)
  rw [unhide HW1]
  refine (unhide K1).mono ?_
  rintro e w2 ⟨v2, rfl, o2, b2⟩
  have K3 := hide (unhide K2 w2 v2 (low_trans (unhide HB1) b2) o2)
  obtain ⟨R, cap, g, sc, rfl, -⟩ := o2.at_
  have HB2 := hide b2
  clear o2 b2 K1 K2
  go_wp2_with (go_at_call 112; fail)
  refine (unhide K3).mono ?_
  rintro e w3 ⟨a7, c7, rfl, b3⟩
  have q3 := (unhide HQ1).low (low_trans (unhide HB2) b3)
  have r0 := q3.cell 0
  have r1 := q3.cell 1
  have r2 := q3.cell 2
  have f0 := q3.free 0
  have f1 := q3.free 1
  have f2 := q3.free 2
  have qs := ((q3.set 0 (.string (ba text))).set 1 (.slice a7 1 c7)).set 2 (.slice none 0 0)
  have d0 := qs.cell 0
  have d1 := qs.cell 1
  have d2 := qs.cell 2
  have HZ : Hid (Below w.heap.size w (((w3.setCell ⟨A, 0, none⟩ (.string (ba text))).setCell ⟨A, 1, none⟩ (.slice a7 1 c7)).setCell ⟨A, 2, none⟩ (.slice none 0 0))) := hide (low_put3 (low_trans (unhide HB1) (low_trans (unhide HB2) b3)) (by rw [unhide HA]; exact Nat.le_refl _))
  clear q3 b3 qs K3
  go_wp2
  exact bodyPost_ret (v := .tuple #[.agg #[.string (ba text), .slice a7 1 c7, .slice none 0 0], .int .i64 0]) (by simp [results, Tryz.results56, go_sem, d0, d1, d2]) rfl ⟨a7, c7, rfl, unhide HZ⟩

def logN : Bs := [108, 111, 103]
def sN : Bs := [115]
def hiN : Bs := [104, 105, 10]
def oneB : Bs := be4 (idN logN sN) ++ sigL sN hiN
def oneL : Bs := dashB ++ logN ++ [32] ++ b64 oneB
def oneT : Bs := noteL hiN [(logN, sN)]
theorem one1 : oneT.length ≤ 131072 := by decide +kernel
theorem one2 : Lib.lastIndex oneT [10, 10] = ((2 : Nat) : Int) := by decide +kernel
theorem one3 : 2 + 2 ≤ oneT.length := by decide +kernel
theorem one4 : oneT.take (2 + 1) = hiN := by decide +kernel
theorem one5 : textB hiN = true := by decide +kernel
theorem one6 : oneT.drop (2 + 2) = oneL ++ [10] := by decide +kernel
theorem one7 : Lib.hasSuffix (oneL ++ [10]) [10] = true := by decide +kernel
theorem one8 : Lib.trimSuffix (oneL ++ [10]) [10] = oneL := by decide +kernel
theorem one9 : Lib.countB (ba oneL) (ba [10]) = 0 := by decide +kernel
theorem one10 : IsLine oneL logN oneB := ⟨by decide +kernel, ⟨b64 oneB, by decide +kernel, by decide +kernel⟩, by decide +kernel, by decide +kernel, by decide +kernel⟩
theorem one11 : numU oneB = idN logN sN := by decide +kernel
theorem one12 : oneB.drop 4 = sigL sN hiN := by decide +kernel
theorem one13 : signB [(logN, sN)] = true := by decide +kernel
theorem one14 : headT 0 (shaL []) = [109, 101, 119, 115, 32, 108, 111, 103, 10, 48, 10, 52, 55, 68, 69, 81, 112, 106, 56, 72, 66, 83, 97, 43, 47, 84, 73, 109, 87, 43, 53, 74, 67, 101, 117, 81, 101, 82, 107, 109, 53, 78, 77, 112, 74, 87, 90, 71, 51, 104, 83, 117, 70, 85, 61, 10] := by decide +kernel
end Go.Proofs.YtkablmjkffdloaaGreatDoor
