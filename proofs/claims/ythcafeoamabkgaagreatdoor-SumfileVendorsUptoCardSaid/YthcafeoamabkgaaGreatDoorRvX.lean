/-
  The reference's inOrder: what its walk wants.
-/
import Derived.Test.YthcafeoamabkgaaGreatDoorOpvX
import Derived.Test.YthcafeoamabkgaaGreatDoorOrdX
import Derived.Test.YthcafeoamabkgaaGreatDoorRLck
import Derived.BigQuiet
import Derived.Test.YthcafeoamabkgaaGreatDoorRefS
import Derived.Deep.RegionHeld3
import Derived.Deep.RegionWith
import Derived.Deep.CutRange
namespace Go.Proofs.YthcafeoamabkgaaGreatDoor
open Go.RowKit

set_option maxRecDepth 100000 in
set_option maxHeartbeats 2000000 in
/-- Has, of texts. -/
theorem hasT_any {w : World} {a : Option Addr} {n c : Nat} {ps : List Str} {x : Str} (hn : ps.length = n) (hN : n ≤ 1000000) (h : RowS w a ps) :
    Calls Tryz.prog 116 #[.slice a n c, .string (ba x)] w fun e w' => e = .returned (.bool (decide (x ∈ ps))) ∧ w' = w := by
  have HN := hide hn
  have H := hide h
  clear hn h
  go_enter Tryz.func116, Tryz.ntmps116
  go_wp2
  go_loopw [5] (fun v5 wr => ∃ i : Nat, i ≤ n ∧ v5 = .int .i64 i ∧ x ∉ ps.take i ∧ wr = w) (fun v5 _ => n - (intOf v5).toNat)
  case atStart => exact ⟨0, Nat.zero_le _, rfl, by simp, rfl⟩
  case round =>
    rename World => wr
    obtain ⟨i, hi, rfl, hf, hwr⟩ := hrel
    subst hwr
    have HF := hide hf
    clear hf
    by_cases hlt : i < n
    · have hit : i < ps.length := by rw [unhide HN]; exact hlt
      obtain ⟨B, O, rfl, hc⟩ := (unhide H).at hit
      have htk : ps.take (i + 1) = ps.take i ++ [ps[i]] := List.take_succ_eq_append_getElem hit
      have hmem := List.getElem_mem hit
      obtain ⟨q, hq⟩ : ∃ q, ps[i] = q := ⟨_, rfl⟩
      rw [hq] at hc htk hmem
      have HTK := hide htk
      have HME := hide hmem
      clear hq htk hmem
      by_cases e : q = x
      · have f1 : ((ba q).toList == (ba x).toList) = true := by rw [e]; exact beq_self_eq_true _
        have HD : Hid (decide (x ∈ ps) = true) := hide (decide_eq_true (by rw [← e]; exact unhide HME))
        clear e
        go_wp2
        go_ret
        rw [unhide HD]
        exact ⟨rfl, rfl⟩
      · have f1 : ((ba q).toList == (ba x).toList) = false := by rw [ba_list, ba_list, beq_eq_false_iff_ne]; exact e
        have HD : Hid (x ∉ ps.take (i + 1)) := hide (by
          rw [unhide HTK]
          intro h
          rcases List.mem_append.1 h with h | h
          · exact unhide HF h
          · rw [List.mem_singleton] at h; exact e h.symm)
        clear e
        go_wp2
        go_roundw
        case rel => exact ⟨i + 1, hlt, by simp, unhide HD, by simp⟩
        case measure => simp [intOf]; omega
    · have hin : ps.take i = ps := List.take_of_length_le (by rw [unhide HN]; omega)
      have HD : Hid (decide (x ∈ ps) = false) := hide (decide_eq_false (by rw [← hin]; exact unhide HF))
      clear hin
      go_wp2
      go_ret
      rw [unhide HD]
      exact ⟨rfl, rfl⟩

set_option maxRecDepth 100000 in
set_option maxHeartbeats 4000000 in
/-- module, of the reference. -/
theorem refModule_any {w : World} {a : Option Addr} {n c : Nat} {zs : List VE} {m : Md} (hn : zs.length = n) (hN : n ≤ 1000000) (h : RowV w a zs) (hp : m.1.length < 4294967281) :
    Calls Tryz.prog 73 #[.slice a n c, modV m] w fun e w' => e = .returned (.int .i64 (modE (zs.map fun z => z.1.m) m)) ∧ Below w.heap.size w w' := by
  obtain ⟨mp, mv⟩ := m
  obtain ⟨W0, hW0⟩ : ∃ W0, w.alloc (.cells #[.string (ba mp), .string (ba mv)] 36) = W0 := ⟨_, rfl⟩
  have b0 : Below w.heap.size w W0 := by rw [← hW0]; exact (Below.refl _ _).alloc (Nat.le_refl _) _
  have k0 : Blk W0 w.heap.size #[.string (ba mp), .string (ba mv)] 36 := by rw [← hW0]; exact Blk.new _ _ _
  have g0 : W0.cell? ⟨w.heap.size, 0, none⟩ = some (.string (ba mp)) := k0.cell 0
  have g1 : W0.cell? ⟨w.heap.size, 1, none⟩ = some (.string (ba mv)) := k0.cell 1
  obtain ⟨C, hC⟩ : ∃ C, checkR mp mv = C := ⟨_, rfl⟩
  have HC := hide (refCheck_is hC hp W0)
  obtain ⟨E, hE⟩ : ∃ E, modE (zs.map fun z => z.1.m) (mp, mv) = E := ⟨_, rfl⟩
  have HE : Hid (E = if C ≠ 0 then (C : Int) else if (mp, mv) ∈ (zs.map fun z => z.1.m) then 12 else 0) := hide (by rw [← hE, ← hC]; rfl)
  rw [hE]
  have HN := hide hn
  have H := hide (h.low b0)
  have HB := hide b0
  have HK := hide k0
  have HW0 := hide hW0
  clear hn h k0 hW0 b0 hC hE hp
  go_enter Tryz.func73, Tryz.ntmps73
  go_wp2_with (go_at_call 107; fail)
  rw [unhide HW0]
  refine (unhide HC).mono ?_
  rintro e w1 ⟨rfl, b1⟩
  have H1 := hide ((unhide H).low b1)
  have HB1 := hide (low_trans (unhide HB) b1)
  have HK1 := hide ((unhide HK).low b1)
  have l0 : w1.cell? ⟨w.heap.size, 0, none⟩ = some (.string (ba mp)) := (unhide HK1).cell 0
  have l1 : w1.cell? ⟨w.heap.size, 1, none⟩ = some (.string (ba mv)) := (unhide HK1).cell 1
  clear b1 HC H HB HK g0 g1
  by_cases hc0 : C = 0
  · have hcz : ((C : Int) != 0) = false := by rw [hc0]; rfl
    have hcz2 : (C : Int) = 0 := by omega
    have HE2 : Hid (E = if (mp, mv) ∈ (zs.map fun z => z.1.m) then 12 else 0) := hide (by rw [unhide HE, if_neg (by omega)])
    clear hc0
    go_wp2
    go_loopw [6] (fun v6 wr => ∃ i q : Nat, i ≤ n ∧ v6 = .int .i64 i ∧ (mp, mv) ∉ ((zs.take i).map fun z => z.1.m) ∧ wr = w1.drewN q) (fun v6 _ => n - (intOf v6).toNat)
    case atStart => exact ⟨0, 0, Nat.zero_le _, rfl, by simp, rfl⟩
    case round =>
      rename World => wr
      obtain ⟨i, q, hi, rfl, hf, hwr⟩ := hrel
      have HF := hide hf
      have HW := hide hwr
      clear hf
      by_cases hlt : i < n
      · have hit : i < zs.length := by rw [unhide HN]; exact hlt
        obtain ⟨B, O, rfl, m1, m2, _, _⟩ := (unhide H1).at hit
        have htk : zs.take (i + 1) = zs.take i ++ [zs[i]] := List.take_succ_eq_append_getElem hit
        have hmem := List.getElem_mem hit
        obtain ⟨z, hz⟩ : ∃ z, zs[i] = z := ⟨_, rfl⟩
        rw [hz] at m1 m2 htk hmem
        obtain ⟨⟨⟨p, v⟩, x, pk⟩, az, nz, cz⟩ := z
        simp only at m1 m2
        have q1 : wr.cell? ⟨B, O + i * 4, none⟩ = some (.string (ba p)) := by rw [hwr]; exact m1
        have q2 : wr.cell? ⟨B, O + i * 4 + 1, none⟩ = some (.string (ba v)) := by rw [hwr]; exact m2
        have q5 : wr.cell? ⟨w.heap.size, 0, none⟩ = some (.string (ba mp)) := by rw [hwr]; exact l0
        have q6 : wr.cell? ⟨w.heap.size, 1, none⟩ = some (.string (ba mv)) := by rw [hwr]; exact l1
        have hin : p = mp → v = mv → (mp, mv) ∈ (zs.map fun z => z.1.m) := fun e1 e2 => by
          have := List.mem_map_of_mem (f := fun z : VE => z.1.m) hmem
          simp only at this
          rwa [e1, e2] at this
        have hno : ¬ (p = mp ∧ v = mv) → (mp, mv) ∉ ((zs.take (i + 1)).map fun z => z.1.m) := fun hne h => by
          rw [htk, List.map_append] at h
          rcases List.mem_append.1 h with h | h
          · exact unhide HF h
          · simp at h
            exact hne ⟨h.1.symm, h.2.symm⟩
        have HIN := hide hin
        have HNO := hide hno
        clear hz htk hmem m1 m2 hwr hin hno
        rcases mod_part p v mp mv with ⟨e1, e2, f1, f2⟩ | ⟨e1, f1⟩ | ⟨e1, e2, f1, f2⟩
        · have HD : Hid (E = 12) := hide (by rw [unhide HE2, if_pos (unhide HIN e1 e2)])
          clear e1 e2
          go_wp2
          go_quiet (fail)
          go_wp2
          go_ret
          rw [unhide HD]
          exact ⟨rfl, by rw [unhide HW]; exact low_drewN (low_drewN (unhide HB1) _) _⟩
        · have HD := hide (unhide HNO (fun h => e1 h.1))
          clear e1
          go_wp2
          go_quiet (fail)
          go_wp2
          go_roundw
          case rel => exact ⟨i + 1, q + nq, hlt, by simp, unhide HD, by rw [unhide HW, World.drewN_drewN]⟩
          case measure => simp [intOf]; omega
        · have HD := hide (unhide HNO (fun h => e2 h.2))
          clear e1 e2
          go_wp2
          go_quiet (fail)
          go_wp2
          go_roundw
          case rel => exact ⟨i + 1, q + nq, hlt, by simp, unhide HD, by rw [unhide HW, World.drewN_drewN]⟩
          case measure => simp [intOf]; omega
      · have hin : zs.take i = zs := List.take_of_length_le (by rw [unhide HN]; omega)
        have HD : Hid (E = 0) := hide (by
          have := unhide HF
          rw [hin] at this
          rw [unhide HE2, if_neg this])
        clear hin hwr
        go_wp2
        go_ret
        rw [unhide HD]
        exact ⟨rfl, by rw [unhide HW]; exact low_drewN (unhide HB1) _⟩
  · have hcz : ((C : Int) != 0) = true := by simpa using hc0
    have HF : Hid (E = (C : Int)) := hide (by rw [unhide HE, if_pos hc0])
    go_wp2
    go_ret
    rw [unhide HF]
    exact ⟨rfl, unhide HB1⟩

set_option maxRecDepth 100000 in
set_option maxHeartbeats 4000000 in
/-- pack, of the reference. -/
theorem refPack_any {w : World} {a : Option Addr} {n c : Nat} {ps : List Str} {m : Md} {x : Str} (hn : ps.length = n) (hN : n ≤ 1000000) (h : RowS w a ps) (hm : m.1.length ≤ 4294967281) :
    Calls Tryz.prog 74 #[modV m, .slice a n c, .string (ba x)] w fun e w' => e = .returned (.int .i64 (impE m.1 ps x)) ∧ Below w.heap.size w w' := by
  obtain ⟨mp, mv⟩ := m
  obtain ⟨W0, hW0⟩ : ∃ W0, w.alloc (.cells #[.string (ba mp), .string (ba mv)] 36) = W0 := ⟨_, rfl⟩
  have b0 : Below w.heap.size w W0 := by rw [← hW0]; exact (Below.refl _ _).alloc (Nat.le_refl _) _
  have k0 : Blk W0 w.heap.size #[.string (ba mp), .string (ba mv)] 36 := by rw [← hW0]; exact Blk.new _ _ _
  obtain ⟨C, hC⟩ : ∃ C, importR x = C := ⟨_, rfl⟩
  have HC := hide (refImport_is hC W0)
  obtain ⟨E, hE⟩ : ∃ E, impE mp ps x = E := ⟨_, rfl⟩
  have HE : Hid (E = if C ≠ 0 then (C : Int) else if x ≠ mp ∧ Lib.hasPrefix x (mp ++ [47]) = false then 15 else if x ∈ ps then 12 else 0) := hide (by rw [← hE, ← hC]; rfl)
  rw [hE]
  have HN := hide hn
  have H := hide (h.low b0)
  have HB := hide b0
  have HK := hide k0
  have HW0 := hide hW0
  have j1 : ba mp ++ ⟨#[47]⟩ = ba (mp ++ [47]) := ba_app mp [47]
  have z1 := ba_size mp
  clear hn h k0 hW0 b0 hC hE
  go_enter Tryz.func74, Tryz.ntmps74
  go_wp2_with (go_at_call 115; fail)
  rw [unhide HW0]
  refine (unhide HC).mono ?_
  rintro e w1 ⟨rfl, b1⟩
  have H1 := hide ((unhide H).low b1)
  have HB1 := hide (low_trans (unhide HB) b1)
  have HK1 := hide ((unhide HK).low b1)
  have l0 : w1.cell? ⟨w.heap.size, 0, none⟩ = some (.string (ba mp)) := (unhide HK1).cell 0
  clear b1 HC H HB HK
  by_cases hc0 : C = 0
  · have hcz : ((C : Int) != 0) = false := by rw [hc0]; rfl
    have hcz2 : (C : Int) = 0 := by omega
    have HE2 : Hid (E = if x ≠ mp ∧ Lib.hasPrefix x (mp ++ [47]) = false then 15 else if x ∈ ps then 12 else 0) := hide (by rw [unhide HE, if_neg (by omega)])
    have HHAS := hide (hasT_any (c := c) (x := x) (unhide HN) hN (unhide H1))
    have HPX := begins_any x (mp ++ [47]) w1
    obtain ⟨hpx, hhx⟩ : ∃ b, Lib.hasPrefix x (mp ++ [47]) = b := ⟨_, rfl⟩
    have hhx2 : List.isPrefixOf (mp ++ [47]) x = hpx := hhx
    rw [hhx2] at HPX
    rw [hhx] at HE2
    have HPZ := hide HPX
    clear HPX hhx hc0
    have tail : ∀ (hE3 : E = if x ∈ ps then 12 else 0), Hid (E = if x ∈ ps then 12 else 0) := fun h => hide h
    by_cases hpe : x = mp
    · have hq1 : (ba x).toList = (ba mp).toList := by rw [hpe]
      have hq2 : ((ba x).toList == (ba mp).toList) = true := by rw [hpe]; exact beq_self_eq_true _
      have HE3 := tail (by rw [unhide HE2, if_neg (fun h => h.1 hpe)])
      clear hpe tail
      by_cases hin : x ∈ ps
      · have HF : Hid (E = 12) := hide (by rw [unhide HE3, if_pos hin])
        have hd : decide (x ∈ ps) = true := decide_eq_true hin
        rw [hd] at HHAS
        clear hin hd
        go_wp2_with (go_at_call 116; fail)
        refine (unhide HHAS).mono ?_
        rintro e w2 ⟨rfl, hw⟩
        rw [hw]; clear hw w2
        go_wp2
        go_ret
        rw [unhide HF]
        exact ⟨rfl, unhide HB1⟩
      · have HF : Hid (E = 0) := hide (by rw [unhide HE3, if_neg hin])
        have hd : decide (x ∈ ps) = false := decide_eq_false hin
        rw [hd] at HHAS
        clear hin hd
        go_wp2_with (go_at_call 116; fail)
        refine (unhide HHAS).mono ?_
        rintro e w2 ⟨rfl, hw⟩
        rw [hw]; clear hw w2
        go_wp2
        go_ret
        rw [unhide HF]
        exact ⟨rfl, unhide HB1⟩
    · have hq1 : ¬ (ba x).toList = (ba mp).toList := by rw [ba_list, ba_list]; exact hpe
      have hq2 : ((ba x).toList == (ba mp).toList) = false := by rw [ba_list, ba_list, beq_eq_false_iff_ne]; exact hpe
      have HPE := hide hpe
      clear hpe
      go_wp2_with (go_at_call 43; fail)
      refine (unhide HPZ).mono ?_
      rintro e w2 ⟨rfl, hw⟩
      rw [hw]; clear hw w2
      cases hpx with
      | true =>
        have HE3 := tail (by rw [unhide HE2, if_neg (by simp)])
        by_cases hin : x ∈ ps
        · have HF : Hid (E = 12) := hide (by rw [unhide HE3, if_pos hin])
          have hd : decide (x ∈ ps) = true := decide_eq_true hin
          rw [hd] at HHAS
          clear hin hd
          go_wp2_with (go_at_call 116; fail)
          refine (unhide HHAS).mono ?_
          rintro e w2 ⟨rfl, hw⟩
          rw [hw]; clear hw w2
          go_wp2
          go_ret
          rw [unhide HF]
          exact ⟨rfl, unhide HB1⟩
        · have HF : Hid (E = 0) := hide (by rw [unhide HE3, if_neg hin])
          have hd : decide (x ∈ ps) = false := decide_eq_false hin
          rw [hd] at HHAS
          clear hin hd
          go_wp2_with (go_at_call 116; fail)
          refine (unhide HHAS).mono ?_
          rintro e w2 ⟨rfl, hw⟩
          rw [hw]; clear hw w2
          go_wp2
          go_ret
          rw [unhide HF]
          exact ⟨rfl, unhide HB1⟩
      | false =>
        have HF : Hid (E = 15) := hide (by rw [unhide HE2, if_pos ⟨unhide HPE, rfl⟩])
        go_wp2
        go_ret
        rw [unhide HF]
        exact ⟨rfl, unhide HB1⟩
  · have hcz : ((C : Int) != 0) = true := by simpa using hc0
    have HF : Hid (E = (C : Int)) := hide (by rw [unhide HE, if_pos hc0])
    go_wp2
    go_ret
    rw [unhide HF]
    exact ⟨rfl, unhide HB1⟩

end Go.Proofs.YthcafeoamabkgaaGreatDoor

namespace Go.Proofs.YthcafeoamabkgaaGreatDoor
open Go.RowKit

/-- Texts that rise, each but once. -/
def SteepS (l : List Str) : Prop := l.Pairwise (fun a b => Lib.compareBytes a b < 0)
theorem SteepS.rising {l : List Str} (h : SteepS l) : RisingS l := by
  intro i j hi hj hij
  have h1 := List.pairwise_iff_getElem.1 h i j hi hj hij
  have t := orders_bytes.turn l[i] l[j]
  omega

theorem RowS.front {w : World} {a : Option Addr} {p r : List Str} (h : RowS w a (p ++ r)) : RowS w a p := by
  rcases h with h | ⟨B, O, h1, h2, h3⟩
  · exact Or.inl (List.append_eq_nil_iff.1 h).1
  · refine Or.inr ⟨B, O, h1, h2, fun j hj => ?_⟩
    have := h3 j (by rw [List.length_append]; omega)
    rwa [List.getElem_append_left hj] at this
theorem RowS.back {w : World} {g m : Nat} {p r : List Str} (hm : p.length = m) (h : RowS w (some ⟨g, 0, none⟩) (p ++ r)) : RowS w (some ⟨g, m, none⟩) r := by
  subst hm
  rcases h with h | ⟨B, O, h1, h2, h3⟩
  · exact Or.inl (List.append_eq_nil_iff.1 h).2
  · cases h1
    refine Or.inr ⟨g, p.length, rfl, h2, fun j hj => ?_⟩
    have := h3 (p.length + j) (by rw [List.length_append]; omega)
    rw [List.getElem_append_right (by omega)] at this
    simp only [Nat.add_sub_cancel_left, Nat.zero_add] at this
    exact this
theorem srow_new (w : World) : SRow w.heap.size (w.alloc (.cells #[] 9)) (.slice (some ⟨w.heap.size, 0, none⟩) 0 0) [] :=
  ⟨rfl, Or.inr ⟨w.heap.size, 0, #[], rfl, Nat.le_refl _, heap_new w _, Nat.le_refl _, Nat.zero_le _, rfl, rfl⟩⟩
theorem srow_low {B : Nat} {w w' : World} {v : Value} {zs : List Str} (h : SRow B w v zs) (hb : Below w.heap.size w w') : SRow B w' v zs := rowT_low h hb

/-- append of one text, out of a block of its own. -/
theorem app_one {B : Nat} {w : World} {v : Value} {zs : List Str} {x : Str} (hz : SRow B w v zs) (hB : B ≤ w.heap.size) (hl : zs.length ≤ 1000000) :
    ∃ v' w', (Builtin.append_ #[69, 69] 69 #[v, .slice (some ⟨w.heap.size, 0, none⟩) 1 1]).run Tryz.prog (w.alloc (.cells #[.string (ba x)] 9)) = .ok v' w' ∧ SRow B w' v' (zs ++ [x]) ∧ Below B w w' := by
  have b1 : Below B w (w.alloc (.cells #[.string (ba x)] 9)) := (Below.refl B w).alloc hB _
  have hz' : SRow B (w.alloc (.cells #[.string (ba x)] 9)) v zs := World.ownsRow.alloc hz _
  have hs : B ≤ (w.alloc (.cells #[.string (ba x)] 9)).heap.size := Nat.le_trans hB b1.size
  obtain ⟨v', w', h1, h2, h3⟩ := app_strs (c := 1) 69 hz' rfl (rowS_one w x) hs (by simp; omega)
  exact ⟨v', w', h1, h2, b1.grown h3 hs (fun j hj => (rowT hz' hj).1)⟩

/-- The three appends: what stands ahead, the text, what stands behind. -/
theorem three_appsS {W : World} {a a2 : Option Addr} {m k c c2 : Nat} {p r : List Str} {t : Str} (hm : p.length = m) (hr : r.length = k - m) (hk : k ≤ 1000000) (hmk : m ≤ k) (hx : RowS W a p) (hy : RowS W a2 r) :
    ∃ v1 w1 v2 w2 v3 w3,
      (Builtin.append_ #[69, 69] 69 #[.slice (some ⟨W.heap.size, 0, none⟩) 0 0, .slice a m c]).run Tryz.prog (W.alloc (.cells #[] 9)) = .ok v1 w1 ∧
      (Builtin.append_ #[69, 69] 69 #[v1, .slice (some ⟨w1.heap.size, 0, none⟩) 1 1]).run Tryz.prog (w1.alloc (.cells #[.string (ba t)] 9)) = .ok v2 w2 ∧
      (Builtin.append_ #[69, 69] 69 #[v2, .slice a2 (k - m) c2]).run Tryz.prog w2 = .ok v3 w3 ∧
      (r = [] → ∀ a, (Builtin.append_ #[69, 69] 69 #[v2, .slice a 0 0]).run Tryz.prog w2 = .ok v2 w2 ∧ SRow W.heap.size w2 v2 (p ++ [t] ++ r)) ∧
      Below W.heap.size W w1 ∧ Below W.heap.size W w2 ∧
      SRow W.heap.size w3 v3 (p ++ [t] ++ r) ∧ Below W.heap.size W w3 := by
  have b1 : Below W.heap.size W (W.alloc (.cells #[] 9)) := (Below.refl _ _).alloc (Nat.le_refl _) _
  obtain ⟨v1, w1, r1, l1, g1⟩ := app_strs (c := c) 69 (srow_new W) hm (hx.low b1) b1.size (by simp; omega)
  rw [List.nil_append] at l1
  have bw1 : Below W.heap.size W w1 := b1.grown g1 b1.size (fun j hj => (rowT (srow_new W) hj).1)
  obtain ⟨v2, w2, r2, l2, b2⟩ := app_one (x := t) l1 bw1.size (by omega)
  have bw2 : Below W.heap.size W w2 := bw1.trans b2
  obtain ⟨v3, w3, r3, l3, g3⟩ := app_strs (c := c2) 69 l2 hr (hy.low bw2) bw2.size (by simp; omega)
  obtain ⟨i0, hi, _⟩ := info_parts info9s
  exact ⟨v1, w1, v2, w2, v3, w3, r1, r2, r3, fun h0 a => ⟨sappend_nothing a 69 hi l2, by rw [h0, List.append_nil]; exact l2⟩, bw1, bw2, l3, bw2.grown g3 bw2.size (fun j hj => (rowT l2 hj).1)⟩

/-- What an insertion leaves. -/
def InsS (ps : List Str) (w : World) (k : Nat) (v : Value) (wr : World) : Prop :=
  ∃ x : List Str, x.length = k ∧ SRow w.heap.size wr v x ∧ x.Perm (ps.take k) ∧ SteepS x ∧ Below w.heap.size w wr

theorem insS_next {ps p r : List Str} {t : Str} {w wr W w3 : World} {k : Nat} {v : Value} (hk : k < ps.length) (ht : ps[k] = t) (hlen : (p ++ r).length = k) (hp : (p ++ r).Perm (ps.take k)) (hs : SteepS (p ++ r)) (hl : ∀ q ∈ p, Lib.compareBytes q t < 0) (hr : ∀ q ∈ r, Lib.compareBytes t q < 0)
    (b0 : Below w.heap.size w wr) (b1 : Below wr.heap.size wr W) (b2 : Below W.heap.size W w3) (ho : SRow W.heap.size w3 v (p ++ [t] ++ r)) : InsS ps w (k + 1) v w3 := by
  refine ⟨p ++ [t] ++ r, by simp at hlen ⊢; omega, rowT_mono ho (low_trans b0 b1).size, ?_, ?_, low_trans b0 (low_trans b1 b2)⟩
  · rw [List.take_add_one, List.getElem?_eq_getElem hk, ht]
    have e : p ++ [t] ++ r = p ++ t :: r := by simp
    rw [e]
    exact List.perm_middle.trans ((hp.cons t).trans (List.perm_append_singleton t _).symm)
  · have h' := List.pairwise_append.1 hs
    have e : p ++ [t] ++ r = p ++ t :: r := by simp
    rw [e]
    refine List.pairwise_append.2 ⟨h'.1, List.pairwise_cons.2 ⟨hr, h'.2.1⟩, fun x hx y hy => ?_⟩
    rcases List.mem_cons.1 hy with rfl | hy
    · exact hl x hx
    · exact h'.2.2 x hx y hy

theorem own_rowS {w : World} {B : Nat} {v : Value} {x : List Str} (h : SRow B w v x) (hne : ¬ v = .slice none 0 0) : ∃ g cap, v = .slice (some ⟨g, 0, none⟩) x.length cap ∧ x.length ≤ cap ∧ RowS w (some ⟨g, 0, none⟩) x := by
  rcases h.2 with ⟨e', _⟩ | ⟨g, cap, cur, e', hb, hblk, hcap, hcm, hcs, hcur⟩
  · exact absurd e' hne
  · subst e'
    exact ⟨g, cap, rfl, hcap, Or.inr ⟨g, 0, rfl, rowT_lt h rfl, fun j hj => by rw [Nat.zero_add]; exact rowT_cell h (by unfold strsV; rw [List.getElem?_map, List.getElem?_eq_getElem hj]; rfl)⟩⟩

theorem cmp_three (a b : Str) : Lib.compareBytes a b < 0 ∨ a = b ∨ Lib.compareBytes b a < 0 := by
  rcases orders_bytes.three a b with h | h | h
  · exact Or.inl (by omega)
  · exact Or.inr (Or.inl ((orders_bytes.eq _ _).1 h))
  · have := orders_bytes.turn a b
    exact Or.inr (Or.inr (by omega))

set_option maxHeartbeats 8000000 in
set_option maxRecDepth 100000 in
theorem risingS_any {w : World} {a : Option Addr} {n c : Nat} {ps : List Str} (hnn : ps.length = n) (hn : n ≤ 100000) (hd : ps.Nodup) (h : RowS w a ps) :
    Calls Tryz.prog 117 #[.slice a n c] w fun e w' => ∃ v ys, e = .returned v ∧ SRow w.heap.size w' v ys ∧ ys.Perm ps ∧ RisingS ys ∧ Below w.heap.size w w' := by
  have HN := hide hnn
  have H := hide h
  have HDU := hide hd
  clear hnn h hd
  go_enter Tryz.func117, Tryz.ntmps117
  go_wp2
  go_loopw [3, 4, 5, 6] (fun v3 v4 _ _ wr => ∃ k : Nat, k ≤ n ∧ v4 = .int .i64 k ∧ InsS ps w k v3 wr) (fun _ v4 _ _ _ => n - (intOf v4).toNat)
  case atStart => exact ⟨0, Nat.zero_le _, rfl, [], rfl, ⟨rfl, Or.inl ⟨rfl, rfl⟩⟩, by simp, List.Pairwise.nil, Below.refl _ _⟩
  case round =>
    rename World => wr
    obtain ⟨k, hkn, rfl, hins⟩ := hrel
    by_cases hlt : k < n
    · obtain ⟨x, hxl, hown, hperm, hsrt, hb0⟩ := hins
      have hkp : k < ps.length := by rw [unhide HN]; exact hlt
      obtain ⟨B, O, rfl, hct⟩ := ((unhide H).low hb0).at hkp
      have hnx : ps[k] ∉ x := fun hm => by
        have h1 := hperm.mem_iff.1 hm
        obtain ⟨j, hj, e⟩ := List.getElem_of_mem h1
        rw [List.getElem_take] at e
        have hj2 : j < k := by rw [List.length_take] at hj; omega
        exact absurd (List.pairwise_iff_getElem.1 (unhide HDU) j k (by omega) hkp hj2) (fun hne => hne e)
      obtain ⟨t, ht0⟩ : ∃ t, ps[k] = t := ⟨_, rfl⟩
      rw [ht0] at hct hnx
      have HT0 := hide ht0
      have HB0 := hide hb0
      have HNX := hide hnx
      have HCT := hide hct
      have lt0 := ba_list t
      clear ht0 hb0 hct hnx
      have hk6 : (k : Int) < (n : Int) := by omega
      by_cases hv : u3 = .slice none 0 0
      · have h0 : x.length = 0 := by
          rcases hown.2 with ⟨_, h⟩ | ⟨g, cap, cur, h, _⟩
          · exact h
          · rw [hv] at h; cases h
        subst hv
        have hx0 : x = [] := List.length_eq_zero_iff.1 h0
        subst hx0
        obtain rfl : k = 0 := by simpa using hxl.symm
        have HPE := hide hperm
        have HSR := hide hsrt
        clear hxl hown h0 hperm hsrt hkn
        go_wp2
        refine wp_loop_rounds 1 ?_
        rw [rounds_succ]
        go_wp2
        go_quiet (fail)
        rename Nat => nq1
        go_wp2
        go_quiet (fail)
        obtain ⟨W, hW⟩ : ∃ W, (wr.drewN nq1).drewN nq = W := ⟨_, rfl⟩
        have b1 : Below wr.heap.size wr W := by rw [← hW]; exact low_drewN (low_drewN (Below.refl _ _) _) _
        rw [hW]
        clear hW
        obtain ⟨v1, w1, v2, w2, v3, w3, r1, r2, r3, r4, bw1, bw2, l3, b3⟩ := three_appsS (W := W) (a := none) (a2 := none) (m := 0) (k := 0) (c := 0) (c2 := 0) (p := []) (r := []) (t := t) rfl rfl (by omega) (Nat.le_refl _) (Or.inl rfl) (Or.inl rfl)
        have ctW : W.cell? ⟨B, O + 0, none⟩ = some (.string (ba t)) := (b1.cell (lt_of_cell (unhide HCT))).trans (unhide HCT)
        have ct1 : w1.cell? ⟨B, O, none⟩ = some (.string (ba t)) := (bw1.cell (lt_of_cell ctW)).trans ctW
        have HB1 := hide b1
        have HB2 := hide bw2
        have HL4 := hide (r4 rfl none).2
        have HQ1 := hide r1
        have HQ2 := hide r2
        have HQ5 := hide (r4 rfl none).1
        clear b1 bw1 bw2 l3 b3 r4 r1 r2 r3 ctW
        go_wp2_with (at_builtin; first | refine Lib.wpList_append_run _ rfl _ _ _ _ rfl _ _ rfl rfl _ _ (unhide HQ1) ?_ | refine Lib.wpList_append_run _ rfl _ _ _ _ rfl _ _ rfl rfl _ _ (unhide HQ2) ?_ | refine Lib.wpList_append_run _ rfl _ _ _ _ rfl _ _ rfl rfl _ _ (unhide HQ5) ?_)
        go_roundw
        case rel => exact ⟨1, hlt, by simp, insS_next (p := []) (r := []) hkp (unhide HT0) rfl (unhide HPE) (unhide HSR) (by simp) (by simp) (unhide HB0) (unhide HB1) (unhide HB2) (unhide HL4)⟩
        case measure => simp [intOf]; omega
      · obtain ⟨g, cap, rfl, hcap, hrow⟩ := own_rowS hown hv
        have HX0 := hide hrow
        have HPE0 := hide hperm
        have HSR0 := hide hsrt
        have HK := hide hxl
        rw [hxl] at hcap ⊢
        clear hown hperm hsrt hrow hxl hv
        go_wp2
        go_loopw [5] (fun v5 wr2 => ∃ (p r : List Str) (m : Nat), x = p ++ r ∧ p.length = m ∧ v5 = .int .i64 m ∧ (∀ q ∈ p, Lib.compareBytes q t < 0) ∧ Below wr.heap.size wr wr2) (fun v5 _ => k - (intOf v5).toNat)
        case atStart => exact ⟨[], x, 0, rfl, rfl, rfl, by simp, Below.refl _ _⟩
        case round =>
          obtain ⟨p, r, m, hx, hm, rfl, hp, hbw⟩ := hrel
          rename World => wi
          have HM := hide hm
          have HLE := hide hp
          have HXE := hide hx
          have HXL : Hid ((p ++ r).length = k) := by rw [← hx]; exact unhide HK
          have HX : Hid (RowS wr (some ⟨g, 0, none⟩) (p ++ r)) := by rw [← hx]; exact unhide HX0
          have HPE : Hid ((p ++ r).Perm (ps.take k)) := by rw [← hx]; exact unhide HPE0
          have HSR : Hid (SteepS (p ++ r)) := by rw [← hx]; exact unhide HSR0
          have HNP : Hid (t ∉ p ++ r) := by rw [← hx]; exact unhide HNX
          have HBW := hide hbw
          clear hp hx hm hbw
          by_cases hp0 : m = k
          · have hr0 : r = [] := by
              have h1 := unhide HXL
              have h2 := unhide HM
              rw [List.length_append] at h1
              exact List.length_eq_zero_iff.1 (by omega)
            subst hr0
            have HGE : Hid (∀ q ∈ ([] : List Str), Lib.compareBytes t q < 0) := hide (fun q hq => by cases hq)
            have k1 : decide (m < k) = false := by simp; omega
            have k2 : decide ((m : Int) < (k : Int)) = false := by simp; omega
            clear hp0
            go_wp2
            go_quiet (fail)
            rename Nat => nq1
            go_wp2
            go_quiet (fail)
            obtain ⟨W, hW⟩ : ∃ W, (wi.drewN nq1).drewN nq = W := ⟨_, rfl⟩
            have b1 : Below wr.heap.size wr W := by rw [← hW]; exact low_drewN (low_drewN (unhide HBW) _) _
            rw [hW]
            clear hW k1 k2
            have hmk : m ≤ k := by have h1 := unhide HXL; have h2 := unhide HM; rw [List.length_append] at h1; omega
            have hmc : m ≤ cap := by omega
            have HRL : Hid ((([] : List Str)).length = k - m) := hide (by have h1 := unhide HXL; have h2 := unhide HM; rw [List.length_append] at h1; omega)
            have hxw := (unhide HX).low b1
            obtain ⟨v1, w1, v2, w2, v3, w3, r1, r2, r3, r4, bw1, bw2, l3, b3⟩ := three_appsS (c := cap) (c2 := cap - m) (t := t) (unhide HM) (unhide HRL) (by omega) hmk hxw.front (hxw.back (unhide HM))
            have ctW : W.cell? ⟨B, O + k, none⟩ = some (.string (ba t)) := (b1.cell (lt_of_cell (unhide HCT))).trans (unhide HCT)
            have ct1 : w1.cell? ⟨B, O + k, none⟩ = some (.string (ba t)) := (bw1.cell (lt_of_cell ctW)).trans ctW
            have HB1 := hide b1
            have HL3 := hide l3
            have HB3 := hide b3
            have HB2 := hide bw2
            have HR4 := hide r4
            clear b1 bw1 bw2 l3 b3 r4 hxw ctW
            by_cases hcz : cap = m
            · have hrn : ([] : List Str) = [] := by have h := unhide HRL; exact List.length_eq_zero_iff.1 (by omega)
              obtain rfl : k = cap := by omega
              obtain rfl : k = m := by omega
              have r5 := fun a => ((unhide HR4) hrn a).1
              have HL4 := hide ((unhide HR4) hrn none).2
              have HQ1 := hide r1
              have HQ2 := hide r2
              have HQ5 := hide r5
              clear hcz hmc hmk hcap r1 r2 r3 r5
              go_wp2_with (at_builtin; first | refine Lib.wpList_append_run _ rfl _ _ _ _ rfl _ _ rfl rfl _ _ (unhide HQ1) ?_ | refine Lib.wpList_append_run _ rfl _ _ _ _ rfl _ _ rfl rfl _ _ (unhide HQ2) ?_ | refine Lib.wpList_append_run _ rfl _ _ _ _ rfl _ _ rfl rfl _ _ (unhide HQ5 _) ?_)
              go_roundw
              case rel => exact ⟨k + 1, hlt, by simp, insS_next hkp (unhide HT0) (unhide HXL) (unhide HPE) (unhide HSR) (unhide HLE) (unhide HGE) (unhide HB0) (unhide HB1) (unhide HB2) (unhide HL4)⟩
              case measure => simp [intOf]; omega
            · have z2 : ¬ m = cap := fun e => hcz e.symm
              have z3 : ¬ cap - m = 0 := by omega
              have z4 : m < cap := by omega
              have HQ1 := hide r1
              have HQ2 := hide r2
              have HQ3 := hide r3
              clear r1 r2 r3
              go_wp2_with (at_builtin; first | refine Lib.wpList_append_run _ rfl _ _ _ _ rfl _ _ rfl rfl _ _ (unhide HQ1) ?_ | refine Lib.wpList_append_run _ rfl _ _ _ _ rfl _ _ rfl rfl _ _ (unhide HQ2) ?_ | refine Lib.wpList_append_run _ rfl _ _ _ _ rfl _ _ rfl rfl _ _ (unhide HQ3) ?_)
              go_roundw
              case rel => exact ⟨k + 1, hlt, by simp, insS_next hkp (unhide HT0) (unhide HXL) (unhide HPE) (unhide HSR) (unhide HLE) (unhide HGE) (unhide HB0) (unhide HB1) (unhide HB3) (unhide HL3)⟩
              case measure => simp [intOf]; omega
          · obtain ⟨y, r, rfl⟩ : ∃ y r', r = y :: r' := by
              cases r with
              | nil => exact absurd (by have h1 := unhide HXL; have h2 := unhide HM; rw [List.append_nil] at h1; omega) hp0
              | cons y r' => exact ⟨y, r', rfl⟩
            have hmk2 : m < k := by
              have h1 := unhide HXL
              have h2 := unhide HM
              rw [List.length_append, List.length_cons] at h1
              omega
            have cy : wi.cell? ⟨g, m, none⟩ = some (.string (ba y)) := by
              obtain ⟨B', O', e, hc⟩ := ((unhide HX).low (unhide HBW)).at (k := m) (by rw [unhide HXL]; exact hmk2)
              cases e
              rw [Nat.zero_add] at hc
              rw [hc]
              have h2 := unhide HM
              subst h2
              simp
            have ct : wi.cell? ⟨B, O + k, none⟩ = some (.string (ba t)) := ((unhide HBW).cell (lt_of_cell (unhide HCT))).trans (unhide HCT)
            have ly := ba_list y
            have hne : y ≠ t := fun e => unhide HNP (by rw [← e]; simp)
            have k1 : decide (m < k) = true := by simp; omega
            have k2 : decide ((m : Int) < (k : Int)) = true := by simp; omega
            have k4 : (m : Int) < (k : Int) := by omega
            have k5 : (k : Int) < (n : Int) := by omega
            rcases cmp_three y t with hc | hc | hc
            · have hbl : Op.bytesLess y t = true := by rw [less_cmp]; exact decide_eq_true hc
              have HD : Hid (∀ q ∈ p ++ [y], Lib.compareBytes q t < 0) := hide (fun q hq => by
                rcases List.mem_append.1 hq with hq | hq
                · exact unhide HLE q hq
                · rw [List.mem_singleton] at hq; rw [hq]; exact hc)
              have HX2 : Hid (x = (p ++ [y]) ++ r) := hide (by rw [unhide HXE]; simp)
              have HM2 : Hid ((p ++ [y]).length = m + 1) := hide (by rw [List.length_append, unhide HM]; rfl)
              clear hc hne hp0
              go_wp2
              go_quiet (fail)
              go_wp2
              go_roundw
              case rel => exact ⟨p ++ [y], r, m + 1, unhide HX2, unhide HM2, by simp, unhide HD, by rename World => wq; exact low_drewN (unhide HBW) _⟩
              case measure => simp [intOf]; omega
            · exact absurd hc hne
            · have hbl : Op.bytesLess y t = false := by
                rw [less_cmp]
                have := orders_bytes.turn y t
                exact decide_eq_false (by omega)
              have hq2 : ((ba y).toList == (ba t).toList) = false := by rw [ba_list, ba_list, beq_eq_false_iff_ne]; exact hne
              have hq3 : (y == t) = false := by rw [beq_eq_false_iff_ne]; exact hne
              have HGE : Hid (∀ q ∈ y :: r, Lib.compareBytes t q < 0) := hide (fun q hq => by
                rcases List.mem_cons.1 hq with rfl | hq
                · exact hc
                · have h3 := List.pairwise_append.1 (unhide HSR)
                  exact orders_bytes.lt _ _ _ hc ((List.pairwise_cons.1 h3.2.1).1 q hq))
              clear hc hne hp0
              go_wp2
              go_quiet (fail)
              rename Nat => nq1
              go_wp2
              go_quiet (fail)
              obtain ⟨r0, hr0⟩ : ∃ r0, y :: r = r0 := ⟨_, rfl⟩
              rw [hr0] at HGE HXL HX HPE HSR
              clear hr0 ly cy ct hbl hq2 hq3
              obtain ⟨W, hW⟩ : ∃ W, (wi.drewN nq1).drewN nq = W := ⟨_, rfl⟩
              have b1 : Below wr.heap.size wr W := by rw [← hW]; exact low_drewN (low_drewN (unhide HBW) _) _
              rw [hW]
              clear hW k1 k2
              have hmk : m ≤ k := by have h1 := unhide HXL; have h2 := unhide HM; rw [List.length_append] at h1; omega
              have hmc : m ≤ cap := by omega
              have HRL : Hid ((r0).length = k - m) := hide (by have h1 := unhide HXL; have h2 := unhide HM; rw [List.length_append] at h1; omega)
              have hxw := (unhide HX).low b1
              obtain ⟨v1, w1, v2, w2, v3, w3, r1, r2, r3, r4, bw1, bw2, l3, b3⟩ := three_appsS (c := cap) (c2 := cap - m) (t := t) (unhide HM) (unhide HRL) (by omega) hmk hxw.front (hxw.back (unhide HM))
              have ctW : W.cell? ⟨B, O + k, none⟩ = some (.string (ba t)) := (b1.cell (lt_of_cell (unhide HCT))).trans (unhide HCT)
              have ct1 : w1.cell? ⟨B, O + k, none⟩ = some (.string (ba t)) := (bw1.cell (lt_of_cell ctW)).trans ctW
              have HB1 := hide b1
              have HL3 := hide l3
              have HB3 := hide b3
              have HB2 := hide bw2
              have HR4 := hide r4
              clear b1 bw1 bw2 l3 b3 r4 hxw ctW
              by_cases hcz : cap = m
              · exact absurd hcz (by omega)
              · have z2 : ¬ m = cap := fun e => hcz e.symm
                have z3 : ¬ cap - m = 0 := by omega
                have z4 : m < cap := by omega
                have HQ1 := hide r1
                have HQ2 := hide r2
                have HQ3 := hide r3
                clear r1 r2 r3
                go_wp2_with (at_builtin; first | refine Lib.wpList_append_run _ rfl _ _ _ _ rfl _ _ rfl rfl _ _ (unhide HQ1) ?_ | refine Lib.wpList_append_run _ rfl _ _ _ _ rfl _ _ rfl rfl _ _ (unhide HQ2) ?_ | refine Lib.wpList_append_run _ rfl _ _ _ _ rfl _ _ rfl rfl _ _ (unhide HQ3) ?_)
                go_roundw
                case rel => exact ⟨k + 1, hlt, by simp, insS_next hkp (unhide HT0) (unhide HXL) (unhide HPE) (unhide HSR) (unhide HLE) (unhide HGE) (unhide HB0) (unhide HB1) (unhide HB3) (unhide HL3)⟩
                case measure => simp [intOf]; omega
    · obtain ⟨x, hxl, hown, hperm, hsrt, hb0⟩ := hins
      have hkn' : ps.take k = ps := List.take_of_length_le (by rw [unhide HN]; omega)
      rw [hkn'] at hperm
      have HD : Hid (∃ v ys, Ending.returned u3 = .returned v ∧ SRow w.heap.size wr v ys ∧ ys.Perm ps ∧ RisingS ys ∧ Below w.heap.size w wr) := hide ⟨u3, x, rfl, hown, hperm, hsrt.rising, hb0⟩
      clear hxl hown hperm hsrt hb0 hkn'
      go_wp2
      go_ret
      exact unhide HD

end Go.Proofs.YthcafeoamabkgaaGreatDoor

namespace Go.Proofs.YthcafeoamabkgaaGreatDoor
open Go.RowKit

theorem info119z : (Tryz.prog.info? 119).map (fun i => (i.zero, i.size, i.bytes)) = some (some (.agg #[.string ⟨#[]⟩, .string ⟨#[]⟩, .bool false, .slice none 0 0]), 4, 64) := by kernel_rfl

/-- A vendored module with the slice of its packages. -/
abbrev VZ : Type := Vd × Value
/-- A row of the reference's. -/
abbrev ZRow (B : Nat) (w : World) (v : Value) (zs : List VZ) : Prop := w.ownsRow B 119 4 v zs.length (vdsV zs)
/-- Elements, as they can be read. -/
def RowZ (w : World) (a : Option Addr) (zs : List VZ) : Prop := zs = [] ∨ ∃ B O, a = some ⟨B, O, none⟩ ∧ B < w.heap.size ∧ ∀ j u, (vdsV zs)[j]? = some u → w.cell? ⟨B, O + j, none⟩ = some u
theorem RowZ.low {w w' : World} {a : Option Addr} {zs : List VZ} (h : RowZ w a zs) (b : Below w.heap.size w w') : RowZ w' a zs := by
  rcases h with h | ⟨B, O, h1, h2, h3⟩
  · exact Or.inl h
  · exact Or.inr ⟨B, O, h1, Nat.lt_of_lt_of_le h2 b.size, fun j u hu => (b.cell (p := ⟨B, O + j, none⟩) h2).trans (h3 j u hu)⟩
theorem RowZ.front {w : World} {a : Option Addr} {p r : List VZ} (h : RowZ w a (p ++ r)) : RowZ w a p := by
  rcases h with h | ⟨B, O, h1, h2, h3⟩
  · exact Or.inl (List.append_eq_nil_iff.1 h).1
  · refine Or.inr ⟨B, O, h1, h2, fun j u hu => h3 j u ?_⟩
    rw [vdsV_append, List.getElem?_append_left (List.getElem?_eq_some_iff.1 hu).1]
    exact hu
theorem RowZ.back {w : World} {g m : Nat} {p r : List VZ} (hm : p.length = m) (h : RowZ w (some ⟨g, 0, none⟩) (p ++ r)) : RowZ w (some ⟨g, m * 4, none⟩) r := by
  subst hm
  rcases h with h | ⟨B, O, h1, h2, h3⟩
  · exact Or.inl (List.append_eq_nil_iff.1 h).2
  · cases h1
    refine Or.inr ⟨g, p.length * 4, rfl, h2, fun j u hu => ?_⟩
    have := h3 (p.length * 4 + j) u (by rw [vdsV_append, List.getElem?_append_right (by rw [vdsV_length]; omega), vdsV_length, Nat.add_sub_cancel_left]; exact hu)
    rw [Nat.zero_add] at this
    exact this
/-- The cells of an element. -/
theorem RowZ.at {w : World} {a : Option Addr} {zs : List VZ} (h : RowZ w a zs) {i : Nat} (hi : i < zs.length) : ∃ B O, a = some ⟨B, O, none⟩ ∧
    w.cell? ⟨B, O + i * 4, none⟩ = some (.string (ba zs[i].1.m.1)) ∧ w.cell? ⟨B, O + i * 4 + 1, none⟩ = some (.string (ba zs[i].1.m.2)) ∧ w.cell? ⟨B, O + i * 4 + 2, none⟩ = some (.bool zs[i].1.x) ∧ w.cell? ⟨B, O + i * 4 + 3, none⟩ = some zs[i].2 := by
  rcases h with h | ⟨B, O, h1, _, h3⟩
  · rw [h] at hi; cases hi
  · refine ⟨B, O, h1, ?_⟩
    have e : zs = zs.take i ++ zs[i] :: zs.drop (i + 1) := by rw [List.getElem_cons_drop, List.take_append_drop]
    have hl : (zs.take i).length = i := by rw [List.length_take]; omega
    obtain ⟨a1, a2, a3, a4⟩ := vds_at (zs.take i) zs[i] (zs.drop (i + 1))
    rw [← e, hl] at a1 a2 a3 a4
    exact ⟨h3 _ _ a1, h3 _ _ a2, h3 _ _ a3, h3 _ _ a4⟩

/-- Each element's slice is one value. -/
def OneZ (zs : List VZ) : Prop := ∀ z ∈ zs, z.2.oneCell' = true
theorem oneZ_vals : ∀ {l : List VZ}, OneZ l → ∀ u ∈ vdsV l, u.oneCell' = true
  | [], _, u, hu => by cases hu
  | z :: l, h, u, hu => by
    simp only [vdsV, List.mem_cons] at hu
    rcases hu with rfl | rfl | rfl | rfl | hu
    · rfl
    · rfl
    · rfl
    · exact h z (by simp)
    · exact oneZ_vals (fun y hy => h y (List.mem_cons_of_mem _ hy)) u hu
theorem RowZ.news {w : World} {a : Option Addr} {xs : List VZ} (h : RowZ w a xs) {ad : Addr} (ha : a = some ad) : ∀ j u, (vdsV xs)[j]? = some u → w.cell? (ad.add j) = some u := by
  intro j u hu
  rcases h with rfl | ⟨B, O, hb, _, he⟩
  · simp [vdsV] at hu
  · rw [ha] at hb
    cases hb
    have hadd : (⟨B, O, none⟩ : Addr).add j = ⟨B, O + j, none⟩ := by unfold Addr.add; split <;> simp_all
    rw [hadd]
    exact he j u hu

theorem zappend_nothing {B : Nat} {w : World} {v : Value} {n c : Nat} {xs : List Value} {i : TypeInfo} (a : Option Addr) (ty : TypeId) (hi : Tryz.prog.info? 119 = some i) (hown : w.ownsRow B 119 4 v n xs) : (Builtin.append_ #[62, 62] ty #[v, .slice a 0 c]).run Tryz.prog w = .ok v w := by
  rcases hown.2 with ⟨rfl, rfl⟩ | ⟨g, cap, cur, rfl, _, _, hnc, _⟩
  · cases a <;> simp [Builtin.append_, run_underlying Tryz.underlying62, sizeOf, typeInfo, hi, Builtin.lenOf, Builtin.firstCells, loadCells, loadCellsFrom]
  · cases a <;> simp [Builtin.append_, run_underlying Tryz.underlying62, sizeOf, typeInfo, hi, Builtin.lenOf, Builtin.firstCells, hnc, storeCells, loadCells, loadCellsFrom]

set_option maxRecDepth 100000 in
/-- append of elements onto a row of the reference's. -/
theorem app_vz {B : Nat} {w : World} {v : Value} {zs xs : List VZ} {a : Option Addr} {n c : Nat} (ty : TypeId) (hz : ZRow B w v zs) (hx : xs.length = n) (h : RowZ w a xs) (h1 : OneZ xs) (hB : B ≤ w.heap.size) (hl : zs.length + n ≤ 2000000) :
    ∃ v' w', (Builtin.append_ #[62, 62] ty #[v, .slice a n c]).run Tryz.prog w = .ok v' w' ∧ ZRow B w' v' (zs ++ xs) ∧ w.grownBy w' v.ownBlock := by
  obtain ⟨i0, hi, hz0, hz1, hz2⟩ := info_parts info119z
  subst hx
  cases a with
  | none =>
    have hx0 : xs = [] := by
      rcases h with h | ⟨B, O, hb, _⟩
      · exact h
      · cases hb
    subst hx0
    refine ⟨v, w, zappend_nothing none ty hi hz, by rw [List.append_nil]; exact hz, ⟨rfl, rfl, rfl, Nat.le_refl _, fun _ _ _ => rfl⟩⟩
  | some ad =>
    obtain ⟨v', w', h1, h2, h3, _, _⟩ := run_append_own_at (P := Tryz.prog) w B 62 ty 119 i0 _ 4 64 Tryz.underlying62 hi hz0 hz1 hz2 rfl (by decide) v zs.length (vdsV zs) hz ad xs.length c (vdsV xs) (vdsV_length xs) (h.news rfl) (oneZ_vals h1) (by unfold maxLen; omega) (by omega) hB
    refine ⟨v', w', h1, ?_, h3⟩
    show w'.ownsRow B 119 4 v' (zs ++ xs).length (vdsV (zs ++ xs))
    rw [List.length_append, vdsV_append]
    exact h2

set_option maxRecDepth 100000 in
theorem zrow_new (w : World) : ZRow w.heap.size (w.alloc (.cells #[] 119)) (.slice (some ⟨w.heap.size, 0, none⟩) 0 0) [] :=
  ⟨rfl, Or.inr ⟨w.heap.size, 0, #[], rfl, Nat.le_refl _, heap_new w _, Nat.le_refl _, Nat.zero_le _, rfl, rfl⟩⟩
set_option maxRecDepth 100000 in
theorem rowZ_one (w : World) (z : VZ) : RowZ (w.alloc (.cells (vdC z.1.m z.1.x z.2) 119)) (some ⟨w.heap.size, 0, none⟩) [z] := by
  refine Or.inr ⟨w.heap.size, 0, rfl, by simp, fun j u hu => ?_⟩
  have hk := Blk.new w (vdC z.1.m z.1.x z.2) 119
  have hj : j < 4 := by
    have := (List.getElem?_eq_some_iff.1 hu).1
    simpa [vdsV] using this
  rw [Nat.zero_add]
  have e : (vdsV [z])[j]? = (vdC z.1.m z.1.x z.2)[j]? := by
    rcases z with ⟨y, s⟩
    have : j = 0 ∨ j = 1 ∨ j = 2 ∨ j = 3 := by omega
    rcases this with rfl | rfl | rfl | rfl <;> rfl
  rw [e] at hu
  exact (hk.cell j).trans hu

set_option maxRecDepth 100000 in
theorem app_onez {B : Nat} {w : World} {v : Value} {zs : List VZ} {x : VZ} (hz : ZRow B w v zs) (hx : x.2.oneCell' = true) (hB : B ≤ w.heap.size) (hl : zs.length ≤ 1000000) :
    ∃ v' w', (Builtin.append_ #[62, 62] 62 #[v, .slice (some ⟨w.heap.size, 0, none⟩) 1 1]).run Tryz.prog (w.alloc (.cells (vdC x.1.m x.1.x x.2) 119)) = .ok v' w' ∧ ZRow B w' v' (zs ++ [x]) ∧ Below B w w' ∧ (w.alloc (.cells (vdC x.1.m x.1.x x.2) 119)).grownBy w' v.ownBlock := by
  have b1 : Below B w (w.alloc (.cells (vdC x.1.m x.1.x x.2) 119)) := (Below.refl B w).alloc hB _
  have hz' : ZRow B (w.alloc (.cells (vdC x.1.m x.1.x x.2) 119)) v zs := World.ownsRow.alloc hz _
  have hs : B ≤ (w.alloc (.cells (vdC x.1.m x.1.x x.2) 119)).heap.size := Nat.le_trans hB b1.size
  obtain ⟨v', w', h1, h2, h3⟩ := app_vz (c := 1) 62 hz' rfl (rowZ_one w x) (fun z hz => by rw [List.mem_singleton] at hz; subst hz; exact hx) hs (by simp; omega)
  exact ⟨v', w', h1, h2, b1.grown h3 hs (fun j hj => (rowT hz' hj).1), h3⟩

/-- The packages of elements, in rows of their own. -/
def PAll (B : Nat) (w : World) (zs : List VZ) : Prop := ∀ z ∈ zs, SRow B w z.2 z.1.pk
theorem PAll.low {B : Nat} {w w' : World} {zs : List VZ} (h : PAll B w zs) (hb : Below w.heap.size w w') : PAll B w' zs := fun z hz => rowT_low (h z hz) hb
theorem PAll.grown {A B : Nat} {w w' : World} {n : Nat} {v : Value} {xs : List Value} {zs : List VZ} (h : PAll A w zs) (hr : w.ownsRow B 119 4 v n xs) (hg : w.grownBy w' v.ownBlock) : PAll A w' zs := fun z hz => by
  refine rowT_same (h z hz) fun g hgb => hg.block g (rowT_lt (h z hz) hgb) (fun e => ?_)
  obtain ⟨_, cur, hc⟩ := rowT hr e.symm
  obtain ⟨_, cur2, hc2⟩ := rowT (h z hz) hgb
  rw [hc] at hc2
  simp at hc2
theorem PAll.one {B : Nat} {w : World} {zs : List VZ} (h : PAll B w zs) : OneZ zs := fun z hz => by
  obtain ⟨a, c, e⟩ := slice_own (h z hz)
  rw [e]
  rfl

set_option maxRecDepth 100000 in
/-- The three appends: what stands ahead, the element, what stands behind. -/
theorem three_appsZ {W : World} {a a2 : Option Addr} {B0 m k c c2 : Nat} {p r : List VZ} {t : VZ} (hm : p.length = m) (hr : r.length = k - m) (hk : k ≤ 1000000) (hmk : m ≤ k) (hx : RowZ W a p) (hy : RowZ W a2 r) (ha : PAll B0 W (p ++ [t] ++ r)) :
    ∃ v1 w1 v2 w2 v3 w3,
      (Builtin.append_ #[62, 62] 62 #[.slice (some ⟨W.heap.size, 0, none⟩) 0 0, .slice a m c]).run Tryz.prog (W.alloc (.cells #[] 119)) = .ok v1 w1 ∧
      (Builtin.append_ #[62, 62] 62 #[v1, .slice (some ⟨w1.heap.size, 0, none⟩) 1 1]).run Tryz.prog (w1.alloc (.cells #[.string (ba t.1.m.1), .string (ba t.1.m.2), .bool t.1.x, t.2] 119)) = .ok v2 w2 ∧
      (Builtin.append_ #[62, 62] 62 #[v2, .slice a2 (k - m) c2]).run Tryz.prog w2 = .ok v3 w3 ∧
      (r = [] → ∀ a, (Builtin.append_ #[62, 62] 62 #[v2, .slice a 0 0]).run Tryz.prog w2 = .ok v2 w2 ∧ ZRow W.heap.size w2 v2 (p ++ [t] ++ r) ∧ PAll B0 w2 (p ++ [t] ++ r)) ∧
      Below W.heap.size W w1 ∧ Below W.heap.size W w2 ∧
      ZRow W.heap.size w3 v3 (p ++ [t] ++ r) ∧ PAll B0 w3 (p ++ [t] ++ r) ∧ Below W.heap.size W w3 := by
  have hone := ha.one
  have b1 : Below W.heap.size W (W.alloc (.cells #[] 119)) := (Below.refl _ _).alloc (Nat.le_refl _) _
  obtain ⟨v1, w1, r1, l1, g1⟩ := app_vz (c := c) 62 (zrow_new W) hm (hx.low b1) (fun z hz => hone z (by simp [hz])) b1.size (by simp; omega)
  rw [List.nil_append] at l1
  have a1 := (ha.low b1).grown (zrow_new W) g1
  have bw1 : Below W.heap.size W w1 := b1.grown g1 b1.size (fun j hj => (rowT (zrow_new W) hj).1)
  obtain ⟨v2, w2, r2, l2, b2, g2⟩ := app_onez (x := t) l1 (hone t (by simp)) bw1.size (by omega)
  have a2' := (a1.low ((Below.refl _ _).alloc (Nat.le_refl _) _)).grown (World.ownsRow.alloc l1 _) g2
  have bw2 : Below W.heap.size W w2 := bw1.trans b2
  obtain ⟨v3, w3, r3, l3, g3⟩ := app_vz (c := c2) 62 l2 hr (hy.low bw2) (fun z hz => hone z (by simp [hz])) bw2.size (by simp; omega)
  have a3 := a2'.grown l2 g3
  obtain ⟨i0, hi, _⟩ := info_parts info119z
  exact ⟨v1, w1, v2, w2, v3, w3, r1, r2, r3, fun h0 a => ⟨zappend_nothing a 62 hi l2, by rw [h0, List.append_nil]; exact l2, a2'⟩, bw1, bw2, l3, a3, bw2.grown g3 bw2.size (fun j hj => (rowT l2 hj).1)⟩

/-! ### The order -/

def ltZ (x y : VZ) : Bool := ltM x.1.m y.1.m
theorem strictZ : Strict ltZ where
  asym x y h := by
    unfold ltZ at *
    have h := of_decide_eq_true h
    have t := orders_m.turn x.1.m y.1.m
    exact decide_eq_false (by omega)
  ntrans x y z h1 h2 := by
    unfold ltZ at *
    have h1 := of_decide_eq_false h1
    have h2 := of_decide_eq_false h2
    refine decide_eq_false fun h => ?_
    have t1 := orders_m.turn x.1.m y.1.m
    have t2 := orders_m.turn y.1.m z.1.m
    rcases Int.lt_or_eq_of_le (Int.not_lt.1 h1) with a | a
    · rcases Int.lt_or_eq_of_le (Int.not_lt.1 h2) with b | b
      · have := orders_m.lt _ _ _ (by omega : cmpM x.1.m y.1.m < 0) (by omega : cmpM y.1.m z.1.m < 0)
        have t3 := orders_m.turn x.1.m z.1.m
        omega
      · have e := (orders_m.eq _ _).1 b.symm
        rw [e] at h
        omega
    · have e := (orders_m.eq _ _).1 a.symm
      rw [← e] at h
      omega

/-- What an insertion leaves. -/
def InsZ (zs : List VE) (w : World) (k : Nat) (v : Value) (wr : World) : Prop :=
  ∃ x : List VZ, x.length = k ∧ ZRow w.heap.size wr v x ∧ PAll w.heap.size wr x ∧ (∃ ys : List Vd, ys.Perm ((zs.take k).map Prod.fst) ∧ Elts ys (x.map Prod.fst)) ∧ Srt ltZ x ∧ Below w.heap.size w wr

theorem elts_ins : ∀ {p : List Vd} {ys : List Vd} {r : List Vd} {y t : Vd}, Elts ys (p ++ r) → EltD y t → ∃ zs, zs.Perm (y :: ys) ∧ Elts zs (p ++ t :: r)
  | [], ys, r, y, t, h, e => ⟨y :: ys, List.Perm.refl _, .cons e h⟩
  | a :: p, _, r, y, t, .cons (y := b) (ys := ys) hb h, e => by
    obtain ⟨zs, h1, h2⟩ := elts_ins h e
    exact ⟨b :: zs, (h1.cons b).trans (List.Perm.swap _ _ _), .cons hb h2⟩

theorem insZ_next {zs : List VE} {p r : List VZ} {t : VZ} {w wr W w3 : World} {k : Nat} {v : Value} {z : VE} (hk : k < zs.length) (hz : zs[k] = z) (ht : EltD z.1 t.1) (hlen : (p ++ r).length = k) (hp : ∃ ys : List Vd, ys.Perm ((zs.take k).map Prod.fst) ∧ Elts ys ((p ++ r).map Prod.fst)) (hs : Srt ltZ (p ++ r)) (hr : ∀ q ∈ r, ltZ t q = true) (hl : p = [] ∨ ∃ l' q, p = l' ++ [q] ∧ ltZ t q = false)
    (b0 : Below w.heap.size w wr) (b1 : Below wr.heap.size wr W) (b2 : Below W.heap.size W w3) (ho : ZRow W.heap.size w3 v (p ++ [t] ++ r)) (ha : PAll w.heap.size w3 (p ++ [t] ++ r)) : InsZ zs w (k + 1) v w3 := by
  have e : p ++ [t] ++ r = p ++ t :: r := by simp
  refine ⟨p ++ [t] ++ r, by simp at hlen ⊢; omega, rowT_mono ho (low_trans b0 b1).size, ha, ?_, ?_, low_trans b0 (low_trans b1 b2)⟩
  · obtain ⟨ys, h1, h2⟩ := hp
    rw [List.map_append] at h2
    obtain ⟨us, h3, h4⟩ := elts_ins h2 ht
    refine ⟨us, ?_, by rw [e, List.map_append, List.map_cons]; exact h4⟩
    rw [List.take_succ_eq_append_getElem hk, hz, List.map_append]
    exact h3.trans ((h1.cons z.1).trans (List.perm_append_singleton _ _).symm)
  · rw [e]
    exact ins_fit strictZ hs hr hl

theorem own_rowZ {w : World} {B : Nat} {v : Value} {x : List VZ} (h : ZRow B w v x) (hne : ¬ v = .slice none 0 0) : ∃ g cap, v = .slice (some ⟨g, 0, none⟩) x.length cap ∧ x.length ≤ cap ∧ RowZ w (some ⟨g, 0, none⟩) x := by
  rcases h.2 with ⟨e', _⟩ | ⟨g, cap, cur, e', hb, hblk, hcap, hcm, hcs, hcur⟩
  · exact absurd e' hne
  · subst e'
    exact ⟨g, cap, rfl, hcap, Or.inr ⟨g, 0, rfl, rowT_lt h rfl, fun j u hu => by rw [Nat.zero_add]; exact rowT_cell h hu⟩⟩

/-- What inOrder asks of the packages. -/
def PacksN (w : World) (zs : List VE) : Prop := ∀ z ∈ zs, z.1.pk.length = z.2.2.1 ∧ z.2.2.1 ≤ 100000 ∧ z.1.pk.Nodup ∧ RowS w z.2.1 z.1.pk
theorem PacksN.low {w w' : World} {zs : List VE} (h : PacksN w zs) (b : Below w.heap.size w w') : PacksN w' zs := fun z hz => by
  obtain ⟨h1, h2, h3, h4⟩ := h z hz
  exact ⟨h1, h2, h3, h4.low b⟩

/-- The new element, as it lies behind the statement that makes it. -/
def NewZ (B : Nat) (wr : World) (z : Vd) (v5 : Value) (wx : World) : Prop :=
  ∃ (A : Nat) (s : Value) (qs : List Str), v5 = .pointer (some ⟨A, 0, none⟩) ∧ Blk wx A #[.string (ba z.m.1), .string (ba z.m.2), .bool z.x, s] 119 ∧ SRow B wx s qs ∧ qs.Perm z.pk ∧ RisingS qs ∧ Below wr.heap.size wr wx

end Go.Proofs.YthcafeoamabkgaaGreatDoor

namespace Go.Proofs.YthcafeoamabkgaaGreatDoor
open Go.RowKit

theorem keep_cell {wx w' : World} {p : Addr} {u : Value} (b : Below wx.heap.size wx w') (h : wx.cell? p = some u) : w'.cell? p = some u := (b.cell (lt_of_cell h)).trans h
theorem keep_new {w : World} {p : Addr} {u : Value} (h : w.cell? p = some u) : ∀ o, (w.alloc o).cell? p = some u := fun o => keep_cell ((Below.refl _ _).alloc (Nat.le_refl _) o) h
abbrev zero119 : Array Value := #[.string ⟨#[]⟩, .string ⟨#[]⟩, .bool false, .slice none 0 0]
theorem Blk.four {w : World} {A : Nat} (h : Blk w A zero119 119) :
    w.cell? ⟨A, 0, none⟩ = some (.string ⟨#[]⟩) ∧ (∀ x, (w.setCell ⟨A, 0, none⟩ x).cell? ⟨A, 1, none⟩ = some (.string ⟨#[]⟩)) ∧ (∀ x y, ((w.setCell ⟨A, 0, none⟩ x).setCell ⟨A, 1, none⟩ y).cell? ⟨A, 2, none⟩ = some (.bool false)) ∧ (∀ x y z, (((w.setCell ⟨A, 0, none⟩ x).setCell ⟨A, 1, none⟩ y).setCell ⟨A, 2, none⟩ z).cell? ⟨A, 3, none⟩ = some (.slice none 0 0)) ∧
    w.frozen? ⟨A, 0, none⟩ = false ∧ (∀ x, (w.setCell ⟨A, 0, none⟩ x).frozen? ⟨A, 1, none⟩ = false) ∧ (∀ x y, ((w.setCell ⟨A, 0, none⟩ x).setCell ⟨A, 1, none⟩ y).frozen? ⟨A, 2, none⟩ = false) ∧ (∀ x y z, (((w.setCell ⟨A, 0, none⟩ x).setCell ⟨A, 1, none⟩ y).setCell ⟨A, 2, none⟩ z).frozen? ⟨A, 3, none⟩ = false) :=
  ⟨h.cell 0, fun x => (h.set 0 x).cell 1, fun x y => ((h.set 0 x).set 1 y).cell 2, fun x y z => (((h.set 0 x).set 1 y).set 2 z).cell 3, h.free 0, fun x => (h.set 0 x).free 1, fun x y => ((h.set 0 x).set 1 y).free 2, fun x y z => (((h.set 0 x).set 1 y).set 2 z).free 3⟩

/-- What holds while two modules are compared. -/
abbrev HeldZ (W : World) (g q A : Nat) (y t : Md) (wq : World) : Prop :=
  wq.cell? ⟨g, q, none⟩ = some (.string (ba y.1)) ∧ wq.cell? ⟨g, q + 1, none⟩ = some (.string (ba y.2)) ∧ wq.cell? ⟨A, 0, none⟩ = some (.string (ba t.1)) ∧ wq.cell? ⟨A, 1, none⟩ = some (.string (ba t.2)) ∧ Below W.heap.size W wq
theorem HeldZ.on {W wq w' : World} {g q A : Nat} {y t : Md} (h : HeldZ W g q A y t wq) (b : Below wq.heap.size wq w') : HeldZ W g q A y t w' := by
  obtain ⟨h1, h2, h3, h4, h5⟩ := h
  exact ⟨keep_cell b h1, keep_cell b h2, keep_cell b h3, keep_cell b h4, low_trans h5 b⟩
theorem HeldZ.drew {W wq : World} {g q A : Nat} {y t : Md} (h : HeldZ W g q A y t wq) : HeldZ W g q A y t wq.drew := h.on (Below.refl _ _).drew
theorem HeldZ.end {W wq : World} {g q A : Nat} {y t : Md} (h : HeldZ W g q A y t wq) : Below W.heap.size W wq := h.2.2.2.2
theorem lessZ_held {W wq : World} {g q A : Nat} {y t : Md} {r : Bool} (hr : ltM t y = r) (h : HeldZ W g q A y t wq) :
    Calls Tryz.prog 118 #[modV t, modV y] wq fun e w' => e = .returned (.bool r) ∧ HeldZ W g q A y t w' := by
  refine (refLess_any wq).mono ?_
  rintro e w' ⟨rfl, b⟩
  exact ⟨ret_bool hr, h.on b⟩

theorem insZ_sort {zs : List VE} {k : Nat} {x : List VZ} (hk : zs.length ≤ k) (h : ∃ ys : List Vd, ys.Perm ((zs.take k).map Prod.fst) ∧ Elts ys (x.map Prod.fst)) (hs : Srt ltZ x) : VSort (zs.map Prod.fst) (x.map Prod.fst) := by
  obtain ⟨ys, h1, h2⟩ := h
  rw [List.take_of_length_le hk] at h1
  refine ⟨ys, h1, ?_, h2⟩
  have hr : RisingM (x.map Prod.fst) := by
    unfold RisingM
    rw [List.pairwise_map]
    exact hs.imp fun {a b} h => by
      unfold ltZ at h
      exact of_decide_eq_false h
  have e := elts_map h2
  have key : ∀ l : List Vd, RisingM l ↔ (l.map (·.m)).Pairwise (fun a b => ¬ cmpM b a < 0) := fun l => by
    unfold RisingM
    rw [List.pairwise_map]
  rw [key] at hr ⊢
  rw [← e]
  exact hr

theorem newZ_a {B : Nat} {wr w2 : World} {z : Vd} {s : Value} {qs : List Str} (hB : B ≤ wr.heap.size) (hb : Below wr.heap.size wr w2) (h1 : SRow wr.heap.size w2 s qs) (h2 : qs.Perm z.pk) (h3 : RisingS qs) : NewZ B wr z (.pointer (some ⟨w2.heap.size, 0, none⟩)) (w2.alloc (.cells #[.string (ba z.m.1), .string (ba z.m.2), .bool z.x, s] 119)) :=
  ⟨w2.heap.size, s, qs, rfl, Blk.new _ _ _, rowT_mono (srow_low h1 ((Below.refl _ _).alloc (Nat.le_refl _) _)) hB, h2, h3, hb.alloc hb.size _⟩
theorem newZ_b {B : Nat} {wr wx w2 : World} {z : Vd} {s : Value} {qs : List Str} (hB : B ≤ wr.heap.size) (hx : wx = wr.drew.alloc (.cells zero119 119)) (hb : Below wx.heap.size wx w2) (h1 : SRow wx.heap.size w2 s qs) (h2 : qs.Perm z.pk) (h3 : RisingS qs) :
    NewZ B wr z (.pointer (some ⟨wr.heap.size, 0, none⟩)) ((((w2.setCell ⟨wr.heap.size, 0, none⟩ (.string (ba z.m.1))).setCell ⟨wr.heap.size, 1, none⟩ (.string (ba z.m.2))).setCell ⟨wr.heap.size, 2, none⟩ (.bool z.x)).setCell ⟨wr.heap.size, 3, none⟩ s) := by
  subst hx
  have kz : Blk w2 wr.heap.size zero119 119 := Blk.low (Blk.new wr.drew zero119 119) hb
  have hs : (wr.drew.alloc (.cells zero119 119)).heap.size = wr.heap.size + 1 := by show (wr.heap.push _).size = _; simp
  have bb : Below wr.heap.size wr w2 := low_trans ((Below.refl wr.heap.size wr).drew.alloc (Nat.le_refl _) (.cells zero119 119)) hb
  have bs := (((bb.setCell (p := ⟨wr.heap.size, 0, none⟩) (Nat.le_refl _) (.string (ba z.m.1))).setCell (p := ⟨wr.heap.size, 1, none⟩) (Nat.le_refl _) (.string (ba z.m.2))).setCell (p := ⟨wr.heap.size, 2, none⟩) (Nat.le_refl _) (.bool z.x)).setCell (p := ⟨wr.heap.size, 3, none⟩) (Nat.le_refl _) s
  refine ⟨wr.heap.size, s, qs, rfl, ?_, ?_, h2, h3, bs⟩
  · exact (((kz.set 0 (.string (ba z.m.1))).set 1 (.string (ba z.m.2))).set 2 (.bool z.x)).set 3 s
  · refine rowT_mono (rowT_same h1 fun g hg => ?_) (by rw [hs]; omega)
    have hge := (rowT h1 hg).1
    rw [hs] at hge
    have hne : g ≠ wr.heap.size := by omega
    rw [Below.heap_setCell _ _ _ _ hne, Below.heap_setCell _ _ _ _ hne, Below.heap_setCell _ _ _ _ hne, Below.heap_setCell _ _ _ _ hne]

end Go.Proofs.YthcafeoamabkgaaGreatDoor
