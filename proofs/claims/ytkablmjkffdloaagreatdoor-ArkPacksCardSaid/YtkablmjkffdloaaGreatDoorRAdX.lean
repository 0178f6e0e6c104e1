/-
  Files without a prefix: any files; the reference's.
-/
import Derived.Test.YtkablmjkffdloaaGreatDoorRUnY
import Derived.Test.YtkablmjkffdloaaGreatDoorRefQ
import Derived.Deep.RegionHeld3
import Derived.Test.YtkablmjkffdloaaGreatDoorFlsC
namespace Go.Proofs.YtkablmjkffdloaaGreatDoor
open Go.RowKit

/-- A file as name and bytes, no sum said. -/
def sfD (dat : Fl → Bs) (x : Fl) : Sf := ⟨x.nm, dat x, 0⟩
theorem sfd_nd (dat : Fl → Bs) (xs : List Fl) : (xs.map (sfD dat)).map sfN = xs.map (ndF dat) := by
  rw [List.map_map]
  rfl

set_option maxRecDepth 100000 in
set_option maxHeartbeats 8000000 in
theorem refFiles_any {w : World} {a : Option Addr} {n c : Nat} {xs : List Fl} {dat : Fl → Bs} (hx : xs.length = n) (hn : n ≤ 1000) (h : FAt w a xs) (hd : DatG w xs dat) :
    Calls Tryz.prog 38 #[.slice a n c] w fun e w' => ∃ v ys, e = .returned v ∧ RU w w' v (.slice none 0 0) ys (xs.map (sfD dat)) [] := by
  obtain ⟨L, hL⟩ : ∃ L, xs.map (sfD dat) = L := ⟨_, rfl⟩
  have hLn : L.length = n := by rw [← hL, List.length_map]; exact hx
  rw [hL]
  have HX := hide hx
  have HA := hide h
  have HD := hide hd
  have HL := hide hL
  have HLN := hide hLn
  clear hx h hd hL hLn
  go_enter Tryz.func38, Tryz.ntmps38
  go_wp2
  go_loopw [3, 4] (fun v3 v4 wr => ∃ (i : Nat) (ys : List Fl), i ≤ n ∧ v4 = .int .i64 (i : Int) ∧ Hid (RU w wr v3 (.slice none 0 0) ys (L.take i) [])) (fun _ v4 _ => n - (intOf v4).toNat)
  case atStart => exact ⟨0, [], Nat.zero_le _, rfl, hide ⟨World.ownsRow_nil _ _ _ _, World.ownsRow_nil _ _ _ _, rfl, (fun k h => by simp at h), (fun g hg => by cases hg), Below.refl _ _⟩⟩
  case round =>
    rename World => wr
    obtain ⟨i, ys, hi, rfl, hru⟩ := hrel
    by_cases hlt : i < n
    · have hlt' : (i : Int) < (n : Int) := by omega
      have hix : i < xs.length := by rw [unhide HX]; exact hlt
      have hiL : i < L.length := by rw [unhide HLN]; exact hlt
      have hLi : L[i] = ⟨xs[i].nm, dat xs[i], 0⟩ := by
        have h1 : L[i]? = some (sfD dat xs[i]) := by rw [← unhide HL]; simp [hix]
        rw [List.getElem?_eq_getElem hiL] at h1
        exact Option.some.inj h1
      have htk : L.take (i + 1) = L.take i ++ [L[i]] := take_sn hiL
      rw [hLi] at htk
      obtain ⟨B, O, rfl, -, -⟩ := (unhide HA).get hix
      have hmk : ∀ wx, Below w.heap.size w wx → wx.cell? ⟨B, O + i * 2, none⟩ = some (.string (ba xs[i].nm)) ∧ wx.cell? ⟨B, O + i * 2 + 1, none⟩ = some (.slice xs[i].a xs[i].n xs[i].c) ∧ Below w.heap.size w wx := fun wx hb => by
        obtain ⟨B', O', e, z0, z1⟩ := ((unhide HA).low hb).get hix
        cases e
        exact ⟨z0, z1, hb⟩
      have hmem := List.getElem_mem hix
      have x1 := (unhide HD).len _ hmem
      have x2 := (unhide HD).few _ hmem
      have x6 := (unhide HD).at_ _ hmem
      obtain ⟨d, hdd⟩ : ∃ d, dat xs[i] = d := ⟨_, rfl⟩
      rw [hdd] at x1 x6 htk
      obtain ⟨x, hxx⟩ : ∃ x, xs[i] = x := ⟨_, rfl⟩
      rw [hxx] at hmk x1 x2 x6 htk
      obtain ⟨nm, xa, xn, xc⟩ := x
      simp only at hmk x1 x2 x6 htk
      have hyl : ys.length ≤ 1000 := by
        have := (unhide hru).len
        rw [List.length_take] at this
        omega
      have HC : Hid (∀ wx, Below wr.heap.size wr wx → Calls Tryz.prog 82 #[.slice xa xn xc] wx fun e w' => ∃ a8 c8, e = .returned (.slice a8 xn c8) ∧ Hid (OwnB wr.heap.size w' (.slice a8 xn c8) d ∧ Below wr.heap.size wr w') ∧ (w'.cell? ⟨B, O + i * 2, none⟩ = some (.string (ba nm)) ∧ w'.cell? ⟨B, O + i * 2 + 1, none⟩ = some (.slice xa xn xc) ∧ Below w.heap.size w w')) := hide (fun wx hb => by
        refine (bytes_any (c := xc) x1 (by omega) (x6.low (low_trans (unhide hru).low hb))).mono ?_
        rintro e w' ⟨v, rfl, ho, hb2⟩
        obtain ⟨a8, c8, rfl, -, -, -⟩ := OwnB.at ho
        rw [x1] at ho ⊢
        exact ⟨a8, c8, rfl, hide ⟨OwnB.less hb.size ho, low_trans hb hb2⟩, hmk _ (low_trans (unhide hru).low (low_trans hb hb2))⟩)
      have HAP : Hid (∀ w8 W a8 c8, Hid (OwnB wr.heap.size w8 (.slice a8 xn c8) d ∧ Below wr.heap.size wr w8) → w8.alloc (.cells #[.string (ba nm), .slice a8 xn c8] 56) = W → ∃ v' w', (Builtin.append_ #[22, 22] 22 #[u3, .slice (some ⟨w8.heap.size, 0, none⟩) 1 1]).run Tryz.prog W = .ok v' w' ∧ Hid (RU w w' v' (.slice none 0 0) (ys ++ [⟨nm, a8, xn, c8⟩]) (L.take (i + 1)) []) ∧ (w'.cell? ⟨B, O + i * 2, none⟩ = some (.string (ba nm)) ∧ w'.cell? ⟨B, O + i * 2 + 1, none⟩ = some (.slice xa xn xc) ∧ Below w.heap.size w w')) := hide (fun w8 W a8 c8 ho hW => by
        obtain ⟨v', w', g1, g2⟩ := (unhide hru).file (x := ⟨nm, a8, xn, c8⟩) (s := ⟨nm, d, 0⟩) (by omega) (unhide ho).2 rfl x1 (unhide ho).1 hW
        rw [htk]
        exact ⟨v', w', g1, hide g2, hmk _ g2.low⟩)
      have hSq : Below wr.heap.size wr wr.drew := (Below.refl _ _).drew
      have hS := hmk wr (unhide hru).low
      have hSd := hmk wr.drew (low_trans (unhide hru).low hSq)
      clear hmem x1 x2 x6 hdd hxx hLi htk hiL hix hru hyl
      go_wp2
      go_region_held3 (fun wx => wx.cell? ⟨B, O + i * 2, none⟩ = some (.string (ba nm)) ∧ wx.cell? ⟨B, O + i * 2 + 1, none⟩ = some (.slice xa xn xc) ∧ Below w.heap.size w wx)
        (first | assumption | exact hS | exact hSd | exact hmk _ (lowB (And.right (And.right (by assumption))) _))
        (first
          | (go_at_call 82; refine (unhide HC _ hSq).mono ?_; rintro e w8 ⟨a8, c8, rfl, hv8, hS8⟩)
          | (revert hv8; intro hv8; obtain ⟨v9, w9, happ9, hv9, hS9⟩ := unhide HAP _ _ _ _ hv8 rfl; refine Lib.wp_append_run _ (.tmp 11) (.tmp 24) 22 22 (by rfl) u3 (.slice (some ⟨w8.heap.size, 0, none⟩) 1 1) (by kernel_rfl) (by kernel_rfl) v9 w9 happ9 ?_))
      have HR9 := hv9
      clear hv9 hv8 hS8 hS9 happ9 hSq hS hSd hmk HC HAP
      go_wp2
      go_roundw
      case rel => exact ⟨i + 1, ys ++ [⟨nm, a8, xn, c8⟩], hlt, by push_cast; rfl, HR9⟩
      case measure => simp [intOf]; omega
    · have hie : i = n := by omega
      subst hie
      have HR : Hid (RU w wr u3 (.slice none 0 0) ys L []) := hide (by
        have h1 := unhide hru
        rw [List.take_of_length_le (by rw [unhide HLN]; exact Nat.le_refl _)] at h1
        exact h1)
      clear hru
      go_wp2
      go_ret
      exact ⟨_, ys, rfl, unhide HR⟩
end Go.Proofs.YtkablmjkffdloaaGreatDoor

namespace Go.Proofs.YtkablmjkffdloaaGreatDoor
open Go.RowKit

theorem refPre_any {p v : Bs} (hp : p.length ≤ 1000000) (hv : v.length ≤ 1000000) (w : World) : Calls Tryz.prog 47 #[.agg #[.string (ba p), .string (ba v)]] w fun e w' => e = .returned (.string (ba (preL p v))) ∧ Below w.heap.size w w' := by
  obtain ⟨x1, hx1⟩ : ∃ x, p ++ [64] = x := ⟨_, rfl⟩
  obtain ⟨x2, hx2⟩ : ∃ x, x1 ++ v = x := ⟨_, rfl⟩
  obtain ⟨x3, hx3⟩ : ∃ x, x2 ++ [47] = x := ⟨_, rfl⟩
  have e1 : ba p ++ (⟨#[64]⟩ : ByteArray) = ba x1 := by rw [← hx1]; exact cat _ [64]
  have e2 : ba x1 ++ ba v = ba x2 := by rw [← hx2]; exact cat _ _
  have e3 : ba x2 ++ (⟨#[47]⟩ : ByteArray) = ba x3 := by rw [← hx3]; exact cat _ [47]
  obtain ⟨z0, hz0⟩ : ∃ z, (ba p).size = z := ⟨_, rfl⟩
  obtain ⟨z1, hz1⟩ : ∃ z, (ba x1).size = z := ⟨_, rfl⟩
  obtain ⟨z2, hz2⟩ : ∃ z, (ba v).size = z := ⟨_, rfl⟩
  obtain ⟨z3, hz3⟩ : ∃ z, (ba x2).size = z := ⟨_, rfl⟩
  have n0 : ¬ 9223372036854775807 < z0 + 1 := by rw [← hz0, ba_size]; omega
  have n1 : ¬ 9223372036854775807 < z1 + z2 := by rw [← hz1, ← hz2, ba_size, ba_size, ← hx1, List.length_append]; simp; omega
  have n2 : ¬ 9223372036854775807 < z3 + 1 := by rw [← hz3, ba_size, ← hx2, ← hx1]; simp; omega
  have HF : Hid (preL p v = x3) := hide (by rw [← hx3, ← hx2, ← hx1]; rfl)
  obtain ⟨A, hA⟩ : ∃ A, w.heap.size = A := ⟨_, rfl⟩
  obtain ⟨W1, hW1⟩ : ∃ W1, w.alloc (.cells #[.string (ba p), .string (ba v)] 45) = W1 := ⟨_, rfl⟩
  have b1 : Below w.heap.size w W1 := by rw [← hW1]; exact lowAA (Below.refl _ _) _
  have q1 : Blk W1 A #[.string (ba p), .string (ba v)] 45 := by rw [← hW1, ← hA]; exact Blk.new _ _ _
  have k0 := q1.cell 0
  have k1 := q1.cell 1
  have HB : Hid (Below A w W1) := hide (by rw [← hA]; exact b1)
  have HW := hide hW1
  have HA := hide hA
  clear hx1 hx2 hx3 b1 q1 hW1 hA hp hv
  go_enter Tryz.func47, Tryz.ntmps47
  go_wp2
  rw [unhide HW, unhide HA]
  go_wp2
  go_ret
  exact ⟨by rw [unhide HF]; rfl, unhide HB⟩

set_option maxRecDepth 100000 in
set_option maxHeartbeats 2000000 in
theorem begins_any {s T : Bs} (hl : s.length ≤ 10000000) (w : World) : Calls Tryz.prog 68 #[.string (ba s), .string (ba T)] w fun e w' => e = .returned (.bool (decide (s.take T.length = T))) ∧ w' = w := by
  obtain ⟨n, hn⟩ : ∃ n, s.length = n := ⟨_, rfl⟩
  obtain ⟨m, hm⟩ : ∃ m, T.length = m := ⟨_, rfl⟩
  have z1 : (ba s).size = n := by rw [ba_size]; exact hn
  have z2 : (ba T).size = m := by rw [ba_size]; exact hm
  by_cases hmn : m ≤ n
  · have hmn' : (m : Int) ≤ (n : Int) := by omega
    have x1 : (ba s).extract 0 m = ba (s.take m) := by
      rw [sub_of]
      simp
    have ss : ((ba (s.take m)).toList == (ba T).toList) = decide (s.take m = T) := by
      rw [baL_list, baL_list]
      by_cases h : s.take m = T <;> simp [h]
    obtain ⟨q, hq⟩ : ∃ q, decide (s.take m = T) = q := ⟨_, rfl⟩
    rw [hm, hq]
    rw [hq] at ss
    obtain ⟨U, hU⟩ : ∃ U, ba (s.take m) = U := ⟨_, rfl⟩
    rw [hU] at x1 ss
    have hn2 : n ≤ 10000000 := by omega
    clear hl hn hm hq hU
    go_enter Tryz.func68, Tryz.ntmps68
    go_wp2
    go_ret
    exact ⟨rfl, rfl⟩
  · have hmn' : ¬ (m : Int) ≤ (n : Int) := by omega
    have hq : decide (s.take T.length = T) = false := by
      refine decide_eq_false fun e => ?_
      have := congrArg List.length e
      rw [List.length_take] at this
      omega
    rw [hq]
    clear hl hn hm hq
    go_enter Tryz.func68, Tryz.ntmps68
    go_wp2
    go_ret
    exact ⟨rfl, rfl⟩

/-- A file under a name with a prefix. -/
def sfA (P : Bs) (dat : Fl → Bs) (x : Fl) : Sf := ⟨P ++ x.nm, dat x, 0⟩

set_option maxRecDepth 100000 in
set_option maxHeartbeats 8000000 in
theorem refAdd_any {w : World} {a : Option Addr} {n c : Nat} {xs : List Fl} {dat : Fl → Bs} {p v : Bs} (hp : p.length ≤ 1000000) (hv : v.length ≤ 1000000) (hx : xs.length = n) (hn : n ≤ 1000) (h : FAt w a xs) (hd : DatG w xs dat) :
    Calls Tryz.prog 45 #[.slice a n c, .agg #[.string (ba p), .string (ba v)]] w fun e w' => ∃ r ys, e = .returned r ∧ RU w w' r (.slice none 0 0) ys (xs.map (sfA (preL p v) dat)) [] := by
  obtain ⟨PR, hPR⟩ : ∃ PR, preL p v = PR := ⟨_, rfl⟩
  have hPRl : PR.length ≤ 4000000 := by rw [← hPR, preL_len]; omega
  have KPR := hide (fun W => refPre_any hp hv W)
  rw [hPR] at KPR ⊢
  obtain ⟨L, hL⟩ : ∃ L, xs.map (sfA PR dat) = L := ⟨_, rfl⟩
  have hLn : L.length = n := by rw [← hL, List.length_map]; exact hx
  rw [hL]
  obtain ⟨S, hSS⟩ : ∃ S, w.heap.size = S := ⟨_, rfl⟩
  obtain ⟨W1, hW1⟩ : ∃ W1, w.alloc (.cells #[.string (ba p), .string (ba v)] 45) = W1 := ⟨_, rfl⟩
  have b1 : Below w.heap.size w W1 := by rw [← hW1]; exact lowAA (Below.refl _ _) _
  have q1 : Blk W1 S #[.string (ba p), .string (ba v)] 45 := by rw [← hW1, ← hSS]; exact Blk.new _ _ _
  have HB1 := hide b1
  have HQ1 := hide q1
  have HW1 := hide hW1
  have HSS := hide hSS
  have HX := hide hx
  have HA := hide h
  have HD := hide hd
  have HL := hide hL
  have HLN := hide hLn
  have HPL := hide hPRl
  clear hx h hd hL hLn hPR hPRl hW1 hSS b1 q1 hp hv
  go_enter Tryz.func45, Tryz.ntmps45
  go_wp2
  rw [unhide HW1, unhide HSS]
  go_loopw [5, 6] (fun v5 v6 wr => ∃ (i : Nat) (ys : List Fl), i ≤ n ∧ v6 = .int .i64 (i : Int) ∧ Hid (RU W1 wr v5 (.slice none 0 0) ys (L.take i) [])) (fun _ v6 _ => n - (intOf v6).toNat)
  case atStart => exact ⟨0, [], Nat.zero_le _, rfl, hide ⟨World.ownsRow_nil _ _ _ _, World.ownsRow_nil _ _ _ _, rfl, (fun k h => by simp at h), (fun g hg => by cases hg), Below.refl _ _⟩⟩
  case round =>
    rename World => wr
    obtain ⟨i, ys, hi, rfl, hru⟩ := hrel
    by_cases hlt : i < n
    · have hlt' : (i : Int) < (n : Int) := by omega
      have hix : i < xs.length := by rw [unhide HX]; exact hlt
      have hiL : i < L.length := by rw [unhide HLN]; exact hlt
      have hLi : L[i] = ⟨PR ++ xs[i].nm, dat xs[i], 0⟩ := by
        have h1 : L[i]? = some (sfA PR dat xs[i]) := by rw [← unhide HL]; simp [hix]
        rw [List.getElem?_eq_getElem hiL] at h1
        exact Option.some.inj h1
      have htk : L.take (i + 1) = L.take i ++ [L[i]] := take_sn hiL
      rw [hLi] at htk
      obtain ⟨B, O, rfl, -, -⟩ := (unhide HA).get hix
      have hmk : ∀ wx, Below W1.heap.size W1 wx → (wx.cell? ⟨B, O + i * 2, none⟩ = some (.string (ba xs[i].nm)) ∧ wx.cell? ⟨B, O + i * 2 + 1, none⟩ = some (.slice xs[i].a xs[i].n xs[i].c)) ∧ (wx.cell? ⟨S, 0, none⟩ = some (.string (ba p)) ∧ wx.cell? ⟨S, 1, none⟩ = some (.string (ba v))) ∧ Below W1.heap.size W1 wx := fun wx hb => by
        obtain ⟨B', O', e, z0, z1⟩ := ((unhide HA).low (low_trans (unhide HB1) hb)).get hix
        cases e
        have q2 := (unhide HQ1).low hb
        exact ⟨⟨z0, z1⟩, ⟨q2.cell 0, q2.cell 1⟩, hb⟩
      have hmem := List.getElem_mem hix
      have x1 := (unhide HD).len _ hmem
      have x2 := (unhide HD).few _ hmem
      have x6 := ((unhide HD).at_ _ hmem).low (unhide HB1)
      have x7 := (unhide HD).nm _ hmem
      obtain ⟨d, hdd⟩ : ∃ d, dat xs[i] = d := ⟨_, rfl⟩
      rw [hdd] at x1 x6 htk
      obtain ⟨x, hxx⟩ : ∃ x, xs[i] = x := ⟨_, rfl⟩
      rw [hxx] at hmk x1 x2 x6 x7 htk
      obtain ⟨nm, xa, xn, xc⟩ := x
      simp only at hmk x1 x2 x6 x7 htk
      have hyl : ys.length ≤ 1000 := by
        have := (unhide hru).len
        rw [List.length_take] at this
        omega
      obtain ⟨Z, hZ⟩ : ∃ Z, PR ++ nm = Z := ⟨_, rfl⟩
      rw [hZ] at htk
      have ct : ba PR ++ ba nm = ba Z := by rw [← hZ]; exact cat _ _
      obtain ⟨k1, hk1⟩ : ∃ k, (ba PR).size = k := ⟨_, rfl⟩
      obtain ⟨k2, hk2⟩ : ∃ k, (ba nm).size = k := ⟨_, rfl⟩
      have n0 : ¬ 9223372036854775807 < k1 + k2 := by
        have := unhide HPL
        rw [← hk1, ← hk2, ba_size, ba_size]
        omega
      have HP1 : Hid (∀ wx, Below wr.heap.size wr wx → Calls Tryz.prog 47 #[.agg #[.string (ba p), .string (ba v)]] wx fun e w' => e = .returned (.string (ba PR)) ∧ Hid (Below wr.heap.size wr w') ∧ ((w'.cell? ⟨B, O + i * 2, none⟩ = some (.string (ba nm)) ∧ w'.cell? ⟨B, O + i * 2 + 1, none⟩ = some (.slice xa xn xc)) ∧ (w'.cell? ⟨S, 0, none⟩ = some (.string (ba p)) ∧ w'.cell? ⟨S, 1, none⟩ = some (.string (ba v))) ∧ Below W1.heap.size W1 w')) := hide (fun wx hb => by
        refine (unhide KPR wx).mono ?_
        rintro e w' ⟨rfl, hb2⟩
        exact ⟨rfl, hide (low_trans hb hb2), hmk _ (low_trans (unhide hru).low (low_trans hb hb2))⟩)
      have HP2 : Hid (∀ wx a8 c8, Hid (OwnB wr.heap.size wx (.slice a8 xn c8) d ∧ Below wr.heap.size wr wx) → Calls Tryz.prog 47 #[.agg #[.string (ba p), .string (ba v)]] wx fun e w' => e = .returned (.string (ba PR)) ∧ Hid (OwnB wr.heap.size w' (.slice a8 xn c8) d ∧ Below wr.heap.size wr w') ∧ ((w'.cell? ⟨B, O + i * 2, none⟩ = some (.string (ba nm)) ∧ w'.cell? ⟨B, O + i * 2 + 1, none⟩ = some (.slice xa xn xc)) ∧ (w'.cell? ⟨S, 0, none⟩ = some (.string (ba p)) ∧ w'.cell? ⟨S, 1, none⟩ = some (.string (ba v))) ∧ Below W1.heap.size W1 w')) := hide (fun wx a8 c8 hb => by
        refine (unhide KPR wx).mono ?_
        rintro e w' ⟨rfl, hb2⟩
        exact ⟨rfl, hide ⟨OwnB.low (unhide hb).1 hb2, low_trans (unhide hb).2 hb2⟩, hmk _ (low_trans (unhide hru).low (low_trans (unhide hb).2 hb2))⟩)
      have HC : Hid (∀ wx, Below wr.heap.size wr wx → Calls Tryz.prog 82 #[.slice xa xn xc] wx fun e w' => ∃ a8 c8, e = .returned (.slice a8 xn c8) ∧ Hid (OwnB wr.heap.size w' (.slice a8 xn c8) d ∧ Below wr.heap.size wr w') ∧ ((w'.cell? ⟨B, O + i * 2, none⟩ = some (.string (ba nm)) ∧ w'.cell? ⟨B, O + i * 2 + 1, none⟩ = some (.slice xa xn xc)) ∧ (w'.cell? ⟨S, 0, none⟩ = some (.string (ba p)) ∧ w'.cell? ⟨S, 1, none⟩ = some (.string (ba v))) ∧ Below W1.heap.size W1 w')) := hide (fun wx hb => by
        refine (bytes_any (c := xc) x1 (by omega) (x6.low (low_trans (unhide hru).low hb))).mono ?_
        rintro e w' ⟨r, rfl, ho, hb2⟩
        obtain ⟨a8, c8, rfl, -, -, -⟩ := OwnB.at ho
        rw [x1] at ho ⊢
        exact ⟨a8, c8, rfl, hide ⟨OwnB.less hb.size ho, low_trans hb hb2⟩, hmk _ (low_trans (unhide hru).low (low_trans hb hb2))⟩)
      have HAP : Hid (∀ w8 W a8 c8, Hid (OwnB wr.heap.size w8 (.slice a8 xn c8) d ∧ Below wr.heap.size wr w8) → w8.alloc (.cells #[.string (ba Z), .slice a8 xn c8] 56) = W → ∃ v' w', (Builtin.append_ #[22, 22] 22 #[u5, .slice (some ⟨w8.heap.size, 0, none⟩) 1 1]).run Tryz.prog W = .ok v' w' ∧ Hid (∃ zs, RU W1 w' v' (.slice none 0 0) zs (L.take (i + 1)) []) ∧ ((w'.cell? ⟨B, O + i * 2, none⟩ = some (.string (ba nm)) ∧ w'.cell? ⟨B, O + i * 2 + 1, none⟩ = some (.slice xa xn xc)) ∧ (w'.cell? ⟨S, 0, none⟩ = some (.string (ba p)) ∧ w'.cell? ⟨S, 1, none⟩ = some (.string (ba v))) ∧ Below W1.heap.size W1 w')) := hide (fun w8 W a8 c8 ho hW => by
        obtain ⟨v', w', g1, g2⟩ := (unhide hru).file (x := ⟨Z, a8, xn, c8⟩) (s := ⟨Z, d, 0⟩) (by omega) (unhide ho).2 rfl x1 (unhide ho).1 hW
        rw [htk]
        exact ⟨v', w', g1, hide ⟨_, g2⟩, hmk _ g2.low⟩)
      have hSq : Below wr.heap.size wr wr.drew := (Below.refl _ _).drew
      have hS := hmk wr (unhide hru).low
      have hSd := hmk wr.drew (low_trans (unhide hru).low hSq)
      clear hmem x1 x2 x6 x7 hdd hxx hLi htk hiL hix hru hyl hZ
      go_wp2
      go_region_held3 (fun wx => (wx.cell? ⟨B, O + i * 2, none⟩ = some (.string (ba nm)) ∧ wx.cell? ⟨B, O + i * 2 + 1, none⟩ = some (.slice xa xn xc)) ∧ (wx.cell? ⟨S, 0, none⟩ = some (.string (ba p)) ∧ wx.cell? ⟨S, 1, none⟩ = some (.string (ba v))) ∧ Below W1.heap.size W1 wx)
        (first | assumption | exact hS | exact hSd | exact hmk _ (lowB (And.right (And.right (by assumption))) _))
        (first
          | (go_at_call 47; revert hv8; intro hv8; refine (unhide HP2 _ _ _ hv8).mono ?_; rintro e w8 ⟨rfl, hv8, hS8⟩)
          | (go_at_call 47; refine (unhide HP1 _ hSq).mono ?_; rintro e w7 ⟨rfl, hv7, hS7⟩)
          | (go_at_call 82; revert hv7; intro hv7; refine (unhide HC _ (unhide hv7)).mono ?_; rintro e w8 ⟨a8, c8, rfl, hv8, hS8⟩)
          | (go_at_call 82; refine (unhide HC _ hSq).mono ?_; rintro e w8 ⟨a8, c8, rfl, hv8, hS8⟩)
          | (revert hv8; intro hv8; obtain ⟨v9, w9, happ9, hv9, hS9⟩ := unhide HAP _ _ _ _ hv8 rfl; refine Lib.wp_append_run _ (.tmp 13) (.tmp 29) 22 22 (by rfl) u5 (.slice (some ⟨w8.heap.size, 0, none⟩) 1 1) (by kernel_rfl) (by kernel_rfl) v9 w9 happ9 ?_))
      all_goals
        obtain ⟨zs, hz9⟩ := unhide hv9
        have HR9 := hide hz9
        clear hv9 hz9 hv8 hS8 hS9 happ9 hSq hS hSd hmk HC HAP HP1 HP2
        go_wp2
        go_roundw
        case rel => exact ⟨i + 1, zs, hlt, by push_cast; rfl, HR9⟩
        case measure => simp [intOf]; omega
    · have hie : i = n := by omega
      subst hie
      have HR : Hid (RU W1 wr u5 (.slice none 0 0) ys L []) := hide (by
        have h1 := unhide hru
        rw [List.take_of_length_le (by rw [unhide HLN]; exact Nat.le_refl _)] at h1
        exact h1)
      have HR2 : Hid (RU w wr u5 (.slice none 0 0) ys L []) := hide ⟨FRow.less (unhide HB1).size (unhide HR).l, (by have h := (unhide HR).s; exact World.ownsRow_nil _ _ _ _), (unhide HR).nm, fun k h1 h2 => ⟨((unhide HR).one k h1 h2).1, OwnB.less (unhide HB1).size ((unhide HR).one k h1 h2).2.1, ((unhide HR).one k h1 h2).2.2⟩, (unhide HR).ne, low_trans (unhide HB1) (unhide HR).low⟩
      clear hru
      go_wp2
      go_ret
      exact ⟨_, ys, rfl, unhide HR2⟩
end Go.Proofs.YtkablmjkffdloaaGreatDoor

namespace Go.Proofs.YtkablmjkffdloaaGreatDoor
open Go.RowKit

/-- A name with this prefix and more behind it. -/
def okP (P x : Bs) : Bool := decide (x.take P.length = P) && decide (x.length ≠ P.length)
theorem okP_iff {P x : Bs} : okP P x = true ↔ x.take P.length = P ∧ x.length ≠ P.length := by unfold okP; simp
theorem okP_split {P x : Bs} (h : x.take P.length = P) : x = P ++ x.drop P.length := by
  have h1 := List.take_append_drop P.length x
  rw [h] at h1
  exact h1.symm
theorem hasP_is {P x : Bs} : Lib.hasPrefix x P = decide (x.take P.length = P) := by
  unfold Lib.hasPrefix
  by_cases h : x.take P.length = P
  · rw [decide_eq_true h, List.isPrefixOf_iff_prefix]
    exact ⟨x.drop P.length, (okP_split h).symm⟩
  · rw [decide_eq_false h]
    cases hb : List.isPrefixOf P x with
    | false => rfl
    | true =>
      rw [List.isPrefixOf_iff_prefix] at hb
      exact absurd (List.prefix_iff_eq_take.1 hb).symm h

set_option maxRecDepth 100000 in
set_option maxHeartbeats 8000000 in
theorem stripG_any {w : World} {a : Option Addr} {n c : Nat} {xs : List Fl} {ds : List Bs} {p v : Bs} (hp : p.length ≤ 1000000) (hv : v.length ≤ 1000000) (hx : xs.length = n) (hn : n ≤ 1000) (h : FAt w a xs) (hd : DAt w xs ds) (hf : ∀ x ∈ xs, (x.a = none ∨ (∃ B O, x.a = some ⟨B, O, none⟩) ∨ ∃ y, x.a = some y ∧ x.n = 0 ∧ x.c = 0) ∧ x.n ≤ 1073741824) (hnm : ∀ x ∈ xs, x.nm.length ≤ 4000000) :
    Calls Tryz.prog 42 #[.slice a n c, .agg #[.string (ba p), .string (ba v)]] w fun e w' => (((∃ x ∈ xs, okP (preL p v) x.nm = false) ∧ e = .returned (.tuple #[.slice none 0 0, .int .i64 1])) ∨ ((∀ x ∈ xs, okP (preL p v) x.nm = true) ∧ ∃ A ys, e = .returned (.tuple #[.slice (some ⟨A, 0, none⟩) n n, .int .i64 0]) ∧ ys.map Fl.nm = (xs.map Fl.nm).map (fun x => x.drop (preL p v).length) ∧ FAt w' (some ⟨A, 0, none⟩) ys ∧ DAt w' ys ds)) ∧ Below w.heap.size w w' := by
  obtain ⟨P, hP⟩ : ∃ P, preL p v = P := ⟨_, rfl⟩
  have hPl : P.length ≤ 4000000 := by rw [← hP, preL_len]; omega
  have KP := hide (fun W => prefix_any hp hv W)
  rw [hP] at KP ⊢
  obtain ⟨S, hS⟩ : ∃ S, w.heap.size = S := ⟨_, rfl⟩
  obtain ⟨W1, hW1⟩ : ∃ W1, w.alloc (.cells #[.string (ba p), .string (ba v)] 45) = W1 := ⟨_, rfl⟩
  have b1 : Below w.heap.size w W1 := by rw [← hW1]; exact lowAA (Below.refl _ _) _
  have q1 : Blk W1 S #[.string (ba p), .string (ba v)] 45 := by rw [← hW1, ← hS]; exact Blk.new _ _ _
  have x0 := q1.cell 0
  have x1 := q1.cell 1
  rw [← hW1, ← hS] at x0 x1
  have HB1 := hide b1
  have HW1 := hide hW1
  have HX := hide hx
  have HA := hide h
  have HD := hide hd
  have HF := hide hf
  have HNM := hide hnm
  have HPL := hide hPl
  clear hP hPl hS hW1 b1 q1 hx h hd hf hnm hp hv
  go_enter Tryz.func42, Tryz.ntmps42
  go_wp2_with (go_at_call 46; fail)
  rw [unhide HW1]
  refine (unhide KP _).mono ?_
  rintro e w2 ⟨rfl, b2⟩
  clear x0 x1
  obtain ⟨K, hK⟩ : ∃ K, w2.heap.size = K := ⟨_, rfl⟩
  obtain ⟨W3, hW3⟩ : ∃ W3, w2.alloc (.cells #[.string (ba P)] 9) = W3 := ⟨_, rfl⟩
  have b3 : Below w2.heap.size w2 W3 := by rw [← hW3]; exact lowAA (Below.refl _ _) _
  have q3 : Blk W3 K #[.string (ba P)] 9 := by rw [← hW3, ← hK]; exact Blk.new _ _ _
  have hb := low_trans (unhide HB1) (low_trans b2 b3)
  have HB := hide hb
  have HW3 := hide hW3
  have HK := hide hK
  have HQ3 := hide q3
  clear b2 b3 q3 hb hW3 hK
  go_wp2
  rw [unhide HW3, unhide HK]
  go_loopw [8, 9, 10, 15] (fun _ _ _ v15 wr => ∃ k : Nat, k ≤ n ∧ v15 = .int .i64 (k : Int) ∧ Hid (∀ j (h : j < xs.length), j < k → okP P xs[j].nm = true) ∧ Below W3.heap.size W3 wr) (fun _ _ _ v15 _ => n - (intOf v15).toNat)
  case atStart => exact ⟨0, Nat.zero_le _, rfl, hide (fun j _ h => by omega), Below.refl _ _⟩
  case round =>
    rename World => wr
    obtain ⟨k, hk, rfl, hok, hbw⟩ := hrel
    have hbz := low_trans (unhide HB) hbw
    by_cases hlt : k < n
    · have hkx : k < xs.length := by rw [unhide HX]; exact hlt
      have hlt' : (k : Int) < (n : Int) := by omega
      obtain ⟨B, O, rfl, g0, g1⟩ := ((unhide HA).low hbz).get hkx
      have hmem := List.getElem_mem hkx
      have HBAD : Hid (okP P xs[k].nm = false → ∃ x ∈ xs, okP P x.nm = false) := hide (fun e => ⟨_, hmem, e⟩)
      have HNEXT : Hid (okP P xs[k].nm = true → ∀ j (h : j < xs.length), j < k + 1 → okP P xs[j].nm = true) := hide (fun e j hj h2 => by
        by_cases e2 : j = k
        · subst e2; exact e
        · exact unhide hok j hj (by omega))
      obtain ⟨x, hxx⟩ : ∃ x, xs[k] = x := ⟨_, rfl⟩
      rw [hxx] at g0 g1 HBAD HNEXT
      obtain ⟨nm, xa, xn, xc⟩ := x
      simp only at g0 g1 HBAD HNEXT
      obtain ⟨hpf, hhp⟩ : ∃ q, decide (nm.take P.length = P) = q := ⟨_, rfl⟩
      obtain ⟨r, hrr⟩ : ∃ r, Lib.trimPrefix nm P = r := ⟨_, rfl⟩
      have KC : Hid (∀ W : World, Calls Tryz.prog 95 #[.string (ba nm), .string (ba P)] W fun e w' => e = .returned (.tuple #[.string (ba r), .bool hpf]) ∧ w' = W) := hide (fun W => by
        have kk := Tryz.strings_CutPrefix (ba nm) (ba P) W
        rw [ba_data, ba_data, hasP_is, hhp, hrr] at kk
        exact kk)
      have HR : Hid (hpf = true → r = nm.drop P.length) := hide (fun e => by
        rw [← hrr]
        unfold Lib.trimPrefix
        rw [if_pos (by rw [hasP_is, hhp]; exact e)])
      have HHP := hide hhp
      have hkp : wr.cell? ⟨K, 0, none⟩ = some (.string (ba P)) := ((unhide HQ3).low hbw).cell 0
      obtain ⟨F, hF⟩ : ∃ F, wr.heap.size = F := ⟨_, rfl⟩
      obtain ⟨W4, hW4⟩ : ∃ W4, wr.alloc (.cells #[.string (ba nm), .slice xa xn xc] 56) = W4 := ⟨_, rfl⟩
      have b4 : Below wr.heap.size wr W4 := by rw [← hW4]; exact lowAA (Below.refl _ _) _
      have q4 : Blk W4 F #[.string (ba nm), .slice xa xn xc] 56 := by rw [← hW4, ← hF]; exact Blk.new _ _ _
      have y0 : W4.cell? ⟨F, 0, none⟩ = some (.string (ba nm)) := q4.cell 0
      have y1 : W4.cell? ⟨K, 0, none⟩ = some (.string (ba P)) := (b4.cell (lt_of_cell hkp)).trans hkp
      rw [← hW4, ← hF] at y0
      rw [← hW4] at y1
      have HBZ := hide (low_trans hbw b4)
      have HBE := hide (low_trans hbz b4)
      have HW4 := hide hW4
      clear hxx hrr hhp hF hW4 b4 q4 hbw hbz hkp hmem hok
      go_wp2_with (go_at_call 95; fail)
      rw [unhide HW4]
      refine (unhide KC _).mono ?_
      rintro e wn ⟨rfl, hwn⟩
      rw [hwn]
      clear hwn wn KC
      cases hpf with
      | false =>
        have HZ : Hid (∃ x ∈ xs, okP P x.nm = false) := hide (unhide HBAD (by unfold okP; rw [unhide HHP]; rfl))
        go_wp2
        go_ret2
        exact ⟨Or.inl ⟨unhide HZ, rfl⟩, unhide HBE⟩
      | true =>
        have hr := unhide HR rfl
        have htk := of_decide_eq_true (unhide HHP)
        by_cases hr0 : r = []
        · have HZ : Hid (∃ x ∈ xs, okP P x.nm = false) := hide (unhide HBAD (by
            have h1 := okP_split htk
            rw [← hr, hr0, List.append_nil] at h1
            unfold okP
            rw [h1]
            simp))
          have hr1 : ((ba r).toList == []) = true := by rw [str_eq]; exact decide_eq_true hr0
          clear hr htk hr0
          go_wp2
          go_ret2
          exact ⟨Or.inl ⟨unhide HZ, rfl⟩, unhide HBE⟩
        · have hr1 : ((ba r).toList == []) = false := by rw [str_eq]; exact decide_eq_false hr0
          have HZ := hide (unhide HNEXT (okP_iff.2 ⟨htk, fun e => hr0 (by rw [hr]; exact List.drop_of_length_le (by omega))⟩))
          clear hr htk hr0
          go_wp2
          go_roundw
          case rel => exact ⟨k + 1, hlt, by push_cast; rfl, HZ, unhide HBZ⟩
          case measure => simp [intOf]; omega
    · have hke : k = n := by omega
      subst hke
      have HOK : Hid (∀ x ∈ xs, okP P x.nm = true) := hide (fun x hx => by
        obtain ⟨j, hj, rfl⟩ := List.getElem_of_mem hx
        exact unhide hok j hj (by rw [← unhide HX]; exact hj))
      have KR := hide (renamed96 (w := wr) (c := c) (pb := K) (R := fun x => x.drop P.length) (unhide HX) hn ((unhide HA).low hbz) ((unhide HD).low hbz) (unhide HF) (fun W hW x hx => by
        have h1 := okP_split (okP_iff.1 (unhide HOK x hx)).1
        have h2 := unhide HNM x hx
        obtain ⟨r, hr⟩ : ∃ r, x.nm.drop P.length = r := ⟨_, rfl⟩
        rw [hr] at h1
        rw [h1, List.drop_left]
        exact stripName_any (by
          have := congrArg List.length h1
          rw [List.length_append] at this
          omega) ((((unhide HQ3).low hbw).low hW).cell 0)))
      have HBZ := hide hbz
      clear hbw hbz hok
      go_wp2_with (go_at_call 76; fail)
      refine (unhide KR).mono ?_
      rintro e w4 ⟨A, ys, rfl, h1, h2, h3, -, b4⟩
      have HZ := hide (low_trans (unhide HBZ) b4)
      have H1 := hide h1
      have H2 := hide h2
      have H3 := hide h3
      clear h1 h2 h3 b4
      go_wp2
      go_ret2
      exact ⟨Or.inr ⟨unhide HOK, A, ys, rfl, unhide H1, unhide H2, unhide H3⟩, unhide HZ⟩
end Go.Proofs.YtkablmjkffdloaaGreatDoor

namespace Go.Proofs.YtkablmjkffdloaaGreatDoor
open Go.RowKit

/-- A file under a name without its front. -/
def sfS (P : Bs) (dat : Fl → Bs) (x : Fl) : Sf := ⟨x.nm.drop P.length, dat x, 0⟩

set_option maxRecDepth 100000 in
set_option maxHeartbeats 8000000 in
theorem refStrip_any {w : World} {a : Option Addr} {n c : Nat} {xs : List Fl} {dat : Fl → Bs} {p v : Bs} (hp : p.length ≤ 1000000) (hv : v.length ≤ 1000000) (hx : xs.length = n) (hn : n ≤ 1000) (h : FAt w a xs) (hd : DatG w xs dat) :
    Calls Tryz.prog 43 #[.slice a n c, .agg #[.string (ba p), .string (ba v)]] w fun e w' => (((∃ x ∈ xs, okP (preL p v) x.nm = false) ∧ e = .returned (.tuple #[.slice none 0 0, .int .i64 1])) ∨ ((∀ x ∈ xs, okP (preL p v) x.nm = true) ∧ ∃ r ys, e = .returned (.tuple #[r, .int .i64 0]) ∧ RU w w' r (.slice none 0 0) ys (xs.map (sfS (preL p v) dat)) [])) ∧ Below w.heap.size w w' := by
  obtain ⟨PR, hPR⟩ : ∃ PR, preL p v = PR := ⟨_, rfl⟩
  have hPRl : PR.length ≤ 4000000 := by rw [← hPR, preL_len]; omega
  have KPR := hide (fun W => refPre_any hp hv W)
  rw [hPR] at KPR ⊢
  obtain ⟨L, hL⟩ : ∃ L, xs.map (sfS PR dat) = L := ⟨_, rfl⟩
  have hLn : L.length = n := by rw [← hL, List.length_map]; exact hx
  rw [hL]
  obtain ⟨S, hSS⟩ : ∃ S, w.heap.size = S := ⟨_, rfl⟩
  obtain ⟨W1, hW1⟩ : ∃ W1, w.alloc (.cells #[.string (ba p), .string (ba v)] 45) = W1 := ⟨_, rfl⟩
  have b1 : Below w.heap.size w W1 := by rw [← hW1]; exact lowAA (Below.refl _ _) _
  have q1 : Blk W1 S #[.string (ba p), .string (ba v)] 45 := by rw [← hW1, ← hSS]; exact Blk.new _ _ _
  have x0 := q1.cell 0
  have x1 := q1.cell 1
  rw [← hW1, ← hSS] at x0 x1
  have HB1 := hide b1
  have HW1 := hide hW1
  have HX := hide hx
  have HA := hide h
  have HD := hide hd
  have HL := hide hL
  have HLN := hide hLn
  have HPL := hide hPRl
  clear hx h hd hL hLn hPR hPRl hW1 hSS b1 q1 hp hv
  go_enter Tryz.func43, Tryz.ntmps43
  go_wp2_with (go_at_call 47; fail)
  rw [unhide HW1]
  refine (unhide KPR _).mono ?_
  rintro e w2 ⟨rfl, b2⟩
  have HB2 := hide (low_trans (unhide HB1) b2)
  clear x0 x1 b2 KPR
  go_wp2
  go_loopw [6, 8] (fun v6 v8 wr => ∃ (i : Nat) (ys : List Fl), i ≤ n ∧ v8 = .int .i64 (i : Int) ∧ Hid (∀ j (h : j < xs.length), j < i → okP PR xs[j].nm = true) ∧ Hid (RU w2 wr v6 (.slice none 0 0) ys (L.take i) [])) (fun _ v8 _ => n - (intOf v8).toNat)
  case atStart => exact ⟨0, [], Nat.zero_le _, rfl, hide (fun j _ h => by omega), hide ⟨World.ownsRow_nil _ _ _ _, World.ownsRow_nil _ _ _ _, rfl, (fun k h => by simp at h), (fun g hg => by cases hg), Below.refl _ _⟩⟩
  case round =>
    rename World => wr
    obtain ⟨i, ys, hi, rfl, hok, hru⟩ := hrel
    by_cases hlt : i < n
    · have hlt' : (i : Int) < (n : Int) := by omega
      have hix : i < xs.length := by rw [unhide HX]; exact hlt
      have hiL : i < L.length := by rw [unhide HLN]; exact hlt
      have hLi : L[i] = ⟨xs[i].nm.drop PR.length, dat xs[i], 0⟩ := by
        have h1 : L[i]? = some (sfS PR dat xs[i]) := by rw [← unhide HL]; simp [hix]
        rw [List.getElem?_eq_getElem hiL] at h1
        exact Option.some.inj h1
      have htk : L.take (i + 1) = L.take i ++ [L[i]] := take_sn hiL
      rw [hLi] at htk
      obtain ⟨B, O, rfl, -, -⟩ := (unhide HA).get hix
      have hmk : ∀ wx, Below w2.heap.size w2 wx → wx.cell? ⟨B, O + i * 2, none⟩ = some (.string (ba xs[i].nm)) ∧ wx.cell? ⟨B, O + i * 2 + 1, none⟩ = some (.slice xs[i].a xs[i].n xs[i].c) ∧ Below w2.heap.size w2 wx := fun wx hb => by
        obtain ⟨B', O', e, z0, z1⟩ := ((unhide HA).low (low_trans (unhide HB2) hb)).get hix
        cases e
        exact ⟨z0, z1, hb⟩
      have hmem := List.getElem_mem hix
      have x1 := (unhide HD).len _ hmem
      have x2 := (unhide HD).few _ hmem
      have x6 := ((unhide HD).at_ _ hmem).low (unhide HB2)
      have x7 := (unhide HD).nm _ hmem
      have HBAD : Hid (okP PR xs[i].nm = false → ∃ x ∈ xs, okP PR x.nm = false) := hide (fun e => ⟨_, hmem, e⟩)
      have HNEXT : Hid (okP PR xs[i].nm = true → ∀ j (h : j < xs.length), j < i + 1 → okP PR xs[j].nm = true) := hide (fun e j hj h2 => by
        by_cases e2 : j = i
        · subst e2; exact e
        · exact unhide hok j hj (by omega))
      obtain ⟨d, hdd⟩ : ∃ d, dat xs[i] = d := ⟨_, rfl⟩
      rw [hdd] at x1 x6 htk
      obtain ⟨x, hxx⟩ : ∃ x, xs[i] = x := ⟨_, rfl⟩
      rw [hxx] at hmk x1 x2 x6 x7 htk HBAD HNEXT
      obtain ⟨nm, xa, xn, xc⟩ := x
      simp only at hmk x1 x2 x6 x7 htk HBAD HNEXT
      have hyl : ys.length ≤ 1000 := by
        have := (unhide hru).len
        rw [List.length_take] at this
        omega
      obtain ⟨k1, hk1⟩ : ∃ k, PR.length = k := ⟨_, rfl⟩
      obtain ⟨k2, hk2⟩ : ∃ k, nm.length = k := ⟨_, rfl⟩
      have z1 : (ba PR).size = k1 := by rw [ba_size]; exact hk1
      have z2 : (ba nm).size = k2 := by rw [ba_size]; exact hk2
      obtain ⟨hpf, hhp⟩ : ∃ q, decide (nm.take PR.length = PR) = q := ⟨_, rfl⟩
      have KB := hide (begins_any (s := nm) (T := PR) (by omega) wr)
      rw [hhp] at KB
      have HHP := hide hhp
      obtain ⟨g0, g1, -⟩ := hmk wr (unhide hru).low
      have HK1 := hide hk1
      have HK2 := hide hk2
      have HTK := hide htk
      have HMK := hide hmk
      have HX1 := hide x1
      have HX6 := hide x6
      have HLOW := hide (unhide hru).low
      clear hmem x1 x6 x7 hdd hxx hLi htk hiL hix hk1 hk2 hok hhp hmk
      go_wp2_with (go_at_call 68; fail)
      refine (unhide KB).mono ?_
      rintro e wn ⟨rfl, hwn⟩
      rw [hwn]
      clear hwn wn KB
      cases hpf with
      | false =>
        have HZ : Hid (∃ x ∈ xs, okP PR x.nm = false) := hide (unhide HBAD (by unfold okP; rw [unhide HHP]; rfl))
        have HZ2 := hide (low_trans (unhide HB2) (unhide HLOW))
        clear hru
        go_wp2
        go_ret2
        exact ⟨Or.inl ⟨unhide HZ, rfl⟩, unhide HZ2⟩
      | true =>
        have htp := of_decide_eq_true (unhide HHP)
        have hk12 : k1 ≤ k2 := by
          have := congrArg List.length htp
          rw [List.length_take, unhide HK1, unhide HK2] at this
          omega
        by_cases heq : k2 = k1
        · have HZ : Hid (∃ x ∈ xs, okP PR x.nm = false) := hide (unhide HBAD (by unfold okP; rw [unhide HK1, unhide HK2, heq]; simp))
          have HZ2 := hide (low_trans (unhide HB2) (unhide HLOW))
          have ee : ((k2 : Int) == (k1 : Int)) = true := by rw [heq]; simp
          clear hru heq htp
          go_wp2
          go_ret2
          exact ⟨Or.inl ⟨unhide HZ, rfl⟩, unhide HZ2⟩
        have ee : ((k2 : Int) == (k1 : Int)) = false := by simp; omega
        have HOK := hide (unhide HNEXT (okP_iff.2 ⟨htp, by rw [unhide HK1, unhide HK2]; exact heq⟩))
        obtain ⟨Z, hZ⟩ : ∃ Z, nm.drop k1 = Z := ⟨_, rfl⟩
        have ct : (ba nm).extract k1 k2 = ba Z := by
          rw [sub_of, hZ, List.take_of_length_le]
          rw [← hZ, List.length_drop, unhide HK2]
          omega
        have hk12' : (k1 : Int) ≤ (k2 : Int) := by omega
        have HTK2 : Hid (L.take (i + 1) = L.take i ++ [⟨Z, d, 0⟩]) := hide (by rw [unhide HTK, unhide HK1, hZ])
        have HC : Hid (∀ wx, Below wr.heap.size wr wx → Calls Tryz.prog 82 #[.slice xa xn xc] wx fun e w' => ∃ a8 c8, e = .returned (.slice a8 xn c8) ∧ Hid (OwnB wr.heap.size w' (.slice a8 xn c8) d ∧ Below wr.heap.size wr w') ∧ (w'.cell? ⟨B, O + i * 2, none⟩ = some (.string (ba nm)) ∧ w'.cell? ⟨B, O + i * 2 + 1, none⟩ = some (.slice xa xn xc) ∧ Below w2.heap.size w2 w')) := hide (fun wx hb => by
          refine (bytes_any (c := xc) (unhide HX1) (by omega) ((unhide HX6).low (low_trans (unhide hru).low hb))).mono ?_
          rintro e w' ⟨r, rfl, ho, hb2⟩
          obtain ⟨a8, c8, rfl, -, -, -⟩ := OwnB.at ho
          rw [unhide HX1] at ho ⊢
          exact ⟨a8, c8, rfl, hide ⟨OwnB.less hb.size ho, low_trans hb hb2⟩, unhide HMK _ (low_trans (unhide hru).low (low_trans hb hb2))⟩)
        have HAP : Hid (∀ w8 W a8 c8, Hid (OwnB wr.heap.size w8 (.slice a8 xn c8) d ∧ Below wr.heap.size wr w8) → w8.alloc (.cells #[.string (ba Z), .slice a8 xn c8] 56) = W → ∃ v' w', (Builtin.append_ #[22, 22] 22 #[u6, .slice (some ⟨w8.heap.size, 0, none⟩) 1 1]).run Tryz.prog W = .ok v' w' ∧ Hid (∃ zs, RU w2 w' v' (.slice none 0 0) zs (L.take (i + 1)) []) ∧ (w'.cell? ⟨B, O + i * 2, none⟩ = some (.string (ba nm)) ∧ w'.cell? ⟨B, O + i * 2 + 1, none⟩ = some (.slice xa xn xc) ∧ Below w2.heap.size w2 w')) := hide (fun w8 W a8 c8 ho hW => by
          obtain ⟨v', w', g1, g2⟩ := (unhide hru).file (x := ⟨Z, a8, xn, c8⟩) (s := ⟨Z, d, 0⟩) (by omega) (unhide ho).2 rfl (unhide HX1) (unhide ho).1 hW
          rw [unhide HTK2]
          exact ⟨v', w', g1, hide ⟨_, g2⟩, unhide HMK _ g2.low⟩)
        have hSq : Below wr.heap.size wr wr.drew := (Below.refl _ _).drew
        have hS := unhide HMK wr (unhide hru).low
        have hSd := unhide HMK wr.drew (low_trans (unhide hru).low hSq)
        have hmk2 := unhide HMK
        clear htp heq hZ hru hyl g0 g1
        go_wp2
        go_region_held3 (fun wx => wx.cell? ⟨B, O + i * 2, none⟩ = some (.string (ba nm)) ∧ wx.cell? ⟨B, O + i * 2 + 1, none⟩ = some (.slice xa xn xc) ∧ Below w2.heap.size w2 wx)
          (first | assumption | exact hS | exact hSd | exact hmk2 _ (lowB (And.right (And.right (by assumption))) _))
          (first
            | (go_at_call 82; refine (unhide HC _ hSq).mono ?_; rintro e w8 ⟨a8, c8, rfl, hv8, hS8⟩)
            | (revert hv8; intro hv8; obtain ⟨v9, w9, happ9, hv9, hS9⟩ := unhide HAP _ _ _ _ hv8 rfl; refine Lib.wp_append_run _ (.tmp 36) (.tmp 52) 22 22 (by rfl) u6 (.slice (some ⟨w8.heap.size, 0, none⟩) 1 1) (by kernel_rfl) (by kernel_rfl) v9 w9 happ9 ?_))
        all_goals
          obtain ⟨zs, hz9⟩ := unhide hv9
          have HR9 := hide hz9
          clear hv9 hz9 hv8 hS8 hS9 happ9 hSq hS hSd hmk2 HC HAP
          go_wp2
          go_roundw
          case rel => exact ⟨i + 1, zs, hlt, by push_cast; rfl, HOK, HR9⟩
          case measure => simp [intOf]; omega
    · have hie : i = n := by omega
      subst hie
      have HOK : Hid (∀ x ∈ xs, okP PR x.nm = true) := hide (fun x hx => by
        obtain ⟨j, hj, rfl⟩ := List.getElem_of_mem hx
        exact unhide hok j hj (by rw [← unhide HX]; exact hj))
      have HR : Hid (RU w2 wr u6 (.slice none 0 0) ys L []) := hide (by
        have h1 := unhide hru
        rw [List.take_of_length_le (by rw [unhide HLN]; exact Nat.le_refl _)] at h1
        exact h1)
      have HR2 : Hid (RU w wr u6 (.slice none 0 0) ys L []) := hide ⟨FRow.less (unhide HB2).size (unhide HR).l, World.ownsRow_nil _ _ _ _, (unhide HR).nm, fun k h1 h2 => ⟨((unhide HR).one k h1 h2).1, OwnB.less (unhide HB2).size ((unhide HR).one k h1 h2).2.1, ((unhide HR).one k h1 h2).2.2⟩, (unhide HR).ne, low_trans (unhide HB2) (unhide HR).low⟩
      clear hru hok
      go_wp2
      go_ret2
      exact ⟨Or.inr ⟨unhide HOK, _, ys, rfl, unhide HR2⟩, (unhide HR2).low⟩
end Go.Proofs.YtkablmjkffdloaaGreatDoor
