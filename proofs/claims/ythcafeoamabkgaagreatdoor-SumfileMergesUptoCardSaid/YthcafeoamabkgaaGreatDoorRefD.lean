/-
  The reference's Parts: the contract.
-/
import Derived.Test.YthcafeoamabkgaaGreatDoorRefC
namespace Go.Proofs.YthcafeoamabkgaaGreatDoor
open Go.RowKit

theorem refParts_long {v : Str} (h : 60 < v.length) (w : World) : Tells 193 #[.string (ba v)] w (partsV none) := by
  unfold Tells
  have hsz : (ba v).size = v.length := ba_size v
  have hq : (60 : Int) < v.length := by omega
  go_enter Tryz.func193, Tryz.ntmps193
  go_wp2
  exact bodyPost_ret (v := partsV none) (by simp [results, Tryz.results193, go_sem, partsV, ba]) rfl ⟨rfl, Below.refl _ _⟩

theorem refParts_empty (w : World) : Tells 193 #[.string (ba [])] w (partsV none) := by
  unfold Tells
  have hsz : (ba []).size = 0 := ba_size []
  have hli := ba_list []
  go_enter Tryz.func193, Tryz.ntmps193
  go_wp2
  exact bodyPost_ret (v := partsV none) (by simp [results, Tryz.results193, go_sem, partsV, ba]) rfl ⟨rfl, Below.refl _ _⟩

theorem refParts_head {c : UInt8} {rest : Str} (h : rest.length + 1 ≤ 60) (hc : c ≠ 118) (w : World) : Tells 193 #[.string (ba (c :: rest))] w (partsV none) := by
  unfold Tells
  have hsz : (ba (c :: rest)).size = rest.length + 1 := ba_size _
  have hq : ¬ (60 : Int) < (rest.length : Int) + 1 := by omega
  have hli := ba_list (c :: rest)
  have hg := ba_get (c :: rest) 0 (by simp)
  have hci : ((c.toNat : Int) != 118) = true := by
    simp only [bne_iff_ne]
    intro e
    exact hc (by apply UInt8.toNat_inj.1; have : (118 : UInt8).toNat = 118 := rfl; omega)
  have hg : (ba (c :: rest))[0]'(by rw [ba_size]; simp) = c := hg
  go_enter Tryz.func193, Tryz.ntmps193
  go_wp2
  exact bodyPost_ret (v := partsV none) (by simp [results, Tryz.results193, go_sem, partsV, ba]) rfl ⟨rfl, Below.refl _ _⟩

/-- What Parts answers where there is a pre. -/
def preV (x y z P : Str) : Value := if validPreB P then partsV (some ⟨numVal x, numVal y, numVal z, P⟩) else partsV none

theorem nums_len {ps : List Str} (h3 : ps.length ≠ 3) : numsOf ps = none := by
  match ps, h3 with
  | [], _ => rfl
  | [_], _ => rfl
  | [_, _], _ => rfl
  | [_, _, _], h => exact absurd rfl h
  | _ :: _ :: _ :: _ :: _, _ => rfl

theorem free_at {l : Str} (h : l.contains 45 = false) (k : Nat) (hk : k < l.length) : ((l[k].toNat : Int) == 45) = false := by
  simp only [beq_eq_false_iff_ne]
  intro e
  have e : l[k] = 45 := by apply UInt8.toNat_inj.1; have : (45 : UInt8).toNat = 45 := rfl; omega
  have : l.contains 45 = true := by rw [List.contains_iff_mem, ← e]; exact List.getElem_mem hk
  rw [h] at this; cases this

set_option maxHeartbeats 2000000 in
set_option maxRecDepth 100000 in
theorem refParts_b_len {rest : Str} {ps : List Str} (h : rest.length + 1 ≤ 60) (hf : rest.contains 45 = false) (hpc : pieces 46 rest = ps) (hn : ps.length ≠ 3) (w : World) : Tells 193 #[.string (ba (118 :: rest))] w (partsV none) := by
  unfold Tells
  have hsz : (ba (118 :: rest)).size = rest.length + 1 := ba_size _
  have hrs : (ba rest).size = rest.length := ba_size _
  have hq : ¬ (60 : Int) < (rest.length : Int) + 1 := by omega
  have hli := ba_list (118 :: rest)
  have hg0 : (ba (118 :: rest))[0]'(by rw [ba_size]; simp) = 118 := ba_get (118 :: rest) 0 (by simp)
  have hr := cut_rest rest
  have HFREE : Hid (∀ k (hk : k < rest.length), ((rest[k].toNat : Int) == 45) = false) := free_at hf
  have HLN : Hid (¬ (ps.length : Int) = 3) := by show ¬ _; omega
  have HPC := hide hpc
  clear hpc hf hn
  go_enter Tryz.func193, Tryz.ntmps193
  go_wp2
  go_loop [7, 8, 9, 10] (fun co pr ha i => ∃ k : Nat, k ≤ rest.length ∧ co = .string (ba rest) ∧ pr = .string ⟨#[]⟩ ∧ ha = .bool false ∧ i = .int .i64 k) (fun _ _ _ i => rest.length - (intOf i).toNat)
  case atStart => exact ⟨0, Nat.zero_le _, rfl, rfl, rfl, rfl⟩
  case round =>
    obtain ⟨k, hk, rfl, rfl, rfl, rfl⟩ := hrel
    by_cases hlt : k < rest.length
    · have hgk := ba_get rest k hlt
      have hne : ((rest[k].toNat : Int) == 45) = false := (unhide HFREE) k hlt
      go_wp2
      go_round
      case rel => exact ⟨k + 1, hlt, rfl, rfl, rfl, by simp⟩
      case measure => simp [intOf]; omega
    · have hke : k = rest.length := by omega
      subst hke
      go_wp2_with (go_at_call 44; fail)
      refine (refCut_any 46 (l := rest) (by omega) _).mono ?_
      rintro e w2 ⟨B, cp, rfl, tx, hB, b2⟩
      rw [unhide HPC]
      have h3 := unhide HLN
      have HT := hide tx
      rw [unhide HPC] at HT
      clear tx
      go_wp2
      exact bodyPost_ret (v := partsV none) (by simp [results, Tryz.results193, go_sem, partsV, ba]) rfl ⟨rfl, b2⟩

set_option maxHeartbeats 2000000 in
set_option maxRecDepth 100000 in
theorem refParts_b_x {rest x y z : Str} (h : rest.length + 1 ≤ 60) (hf : rest.contains 45 = false) (hpc : pieces 46 rest = [x, y, z]) (hx : numOk x = false) (w : World) : Tells 193 #[.string (ba (118 :: rest))] w (partsV none) := by
  unfold Tells
  have hsz : (ba (118 :: rest)).size = rest.length + 1 := ba_size _
  have hrs : (ba rest).size = rest.length := ba_size _
  have hq : ¬ (60 : Int) < (rest.length : Int) + 1 := by omega
  have hli := ba_list (118 :: rest)
  have hg0 : (ba (118 :: rest))[0]'(by rw [ba_size]; simp) = 118 := ba_get (118 :: rest) 0 (by simp)
  have hr := cut_rest rest
  have HFREE : Hid (∀ k (hk : k < rest.length), ((rest[k].toNat : Int) == 45) = false) := free_at hf
  have HLN : Hid (([x, y, z].length : Int) = 3) := rfl
  have hsm := pieces_small 46 rest
  have lx : x.length ≤ rest.length := hsm x (by rw [hpc]; simp)
  have ly : y.length ≤ rest.length := hsm y (by rw [hpc]; simp)
  have lz : z.length ≤ rest.length := hsm z (by rw [hpc]; simp)
  have HPC := hide hpc
  have HX := hide hx
  clear hpc hf hsm hx
  go_enter Tryz.func193, Tryz.ntmps193
  go_wp2
  go_loop [7, 8, 9, 10] (fun co pr ha i => ∃ k : Nat, k ≤ rest.length ∧ co = .string (ba rest) ∧ pr = .string ⟨#[]⟩ ∧ ha = .bool false ∧ i = .int .i64 k) (fun _ _ _ i => rest.length - (intOf i).toNat)
  case atStart => exact ⟨0, Nat.zero_le _, rfl, rfl, rfl, rfl⟩
  case round =>
    obtain ⟨k, hk, rfl, rfl, rfl, rfl⟩ := hrel
    by_cases hlt : k < rest.length
    · have hgk := ba_get rest k hlt
      have hne : ((rest[k].toNat : Int) == 45) = false := (unhide HFREE) k hlt
      go_wp2
      go_round
      case rel => exact ⟨k + 1, hlt, rfl, rfl, rfl, by simp⟩
      case measure => simp [intOf]; omega
    · have hke : k = rest.length := by omega
      subst hke
      go_wp2_with (go_at_call 44; fail)
      refine (refCut_any 46 (l := rest) (by omega) _).mono ?_
      rintro e w2 ⟨B, cp, rfl, tx, hB, b2⟩
      rw [unhide HPC]
      have h3 := unhide HLN
      have HT := hide tx
      rw [unhide HPC] at HT
      clear tx
      have c0 : w2.cell? ⟨B, 0, none⟩ = some (.string (ba x)) := (unhide HT) 0 (by simp)
      have c1 : w2.cell? ⟨B, 1, none⟩ = some (.string (ba y)) := (unhide HT) 1 (by simp)
      have c2 : w2.cell? ⟨B, 2, none⟩ = some (.string (ba z)) := (unhide HT) 2 (by simp)
      go_wp2_with (go_at_call 241; refine (refNumber_is (unhide HX) (by omega) _).mono ?_; rintro e w4 ⟨rfl, hw⟩; rw [hw]; clear hw w4)
      exact bodyPost_ret (v := partsV none) (by simp [results, Tryz.results193, go_sem, partsV, ba]) rfl ⟨rfl, b2⟩

set_option maxHeartbeats 2000000 in
set_option maxRecDepth 100000 in
theorem refParts_b_y {rest x y z : Str} (h : rest.length + 1 ≤ 60) (hf : rest.contains 45 = false) (hpc : pieces 46 rest = [x, y, z]) (hx : numOk x = true) (hy : numOk y = false) (w : World) : Tells 193 #[.string (ba (118 :: rest))] w (partsV none) := by
  unfold Tells
  have hsz : (ba (118 :: rest)).size = rest.length + 1 := ba_size _
  have hrs : (ba rest).size = rest.length := ba_size _
  have hq : ¬ (60 : Int) < (rest.length : Int) + 1 := by omega
  have hli := ba_list (118 :: rest)
  have hg0 : (ba (118 :: rest))[0]'(by rw [ba_size]; simp) = 118 := ba_get (118 :: rest) 0 (by simp)
  have hr := cut_rest rest
  have HFREE : Hid (∀ k (hk : k < rest.length), ((rest[k].toNat : Int) == 45) = false) := free_at hf
  have HLN : Hid (([x, y, z].length : Int) = 3) := rfl
  have hsm := pieces_small 46 rest
  have lx : x.length ≤ rest.length := hsm x (by rw [hpc]; simp)
  have ly : y.length ≤ rest.length := hsm y (by rw [hpc]; simp)
  have lz : z.length ≤ rest.length := hsm z (by rw [hpc]; simp)
  have HPC := hide hpc
  have HX := hide hx
  have HY := hide hy
  clear hpc hf hsm hx hy
  go_enter Tryz.func193, Tryz.ntmps193
  go_wp2
  go_loop [7, 8, 9, 10] (fun co pr ha i => ∃ k : Nat, k ≤ rest.length ∧ co = .string (ba rest) ∧ pr = .string ⟨#[]⟩ ∧ ha = .bool false ∧ i = .int .i64 k) (fun _ _ _ i => rest.length - (intOf i).toNat)
  case atStart => exact ⟨0, Nat.zero_le _, rfl, rfl, rfl, rfl⟩
  case round =>
    obtain ⟨k, hk, rfl, rfl, rfl, rfl⟩ := hrel
    by_cases hlt : k < rest.length
    · have hgk := ba_get rest k hlt
      have hne : ((rest[k].toNat : Int) == 45) = false := (unhide HFREE) k hlt
      go_wp2
      go_round
      case rel => exact ⟨k + 1, hlt, rfl, rfl, rfl, by simp⟩
      case measure => simp [intOf]; omega
    · have hke : k = rest.length := by omega
      subst hke
      go_wp2_with (go_at_call 44; fail)
      refine (refCut_any 46 (l := rest) (by omega) _).mono ?_
      rintro e w2 ⟨B, cp, rfl, tx, hB, b2⟩
      rw [unhide HPC]
      have h3 := unhide HLN
      have HT := hide tx
      rw [unhide HPC] at HT
      clear tx
      have c0 : w2.cell? ⟨B, 0, none⟩ = some (.string (ba x)) := (unhide HT) 0 (by simp)
      have c1 : w2.cell? ⟨B, 1, none⟩ = some (.string (ba y)) := (unhide HT) 1 (by simp)
      have c2 : w2.cell? ⟨B, 2, none⟩ = some (.string (ba z)) := (unhide HT) 2 (by simp)
      go_wp2_with (go_at_call 241; fail)
      refine (refNumber_is (unhide HX) (by omega) _).mono ?_
      rintro e w4 ⟨rfl, hw⟩
      rw [hw]
      clear hw
      go_wp2_with (go_at_call 241; fail)
      refine (refNumber_is (unhide HY) (by omega) _).mono ?_
      rintro e w5 ⟨rfl, hw⟩
      rw [hw]
      clear hw
      go_wp2
      exact bodyPost_ret (v := partsV none) (by simp [results, Tryz.results193, go_sem, partsV, ba]) rfl ⟨rfl, b2⟩

set_option maxHeartbeats 2000000 in
set_option maxRecDepth 100000 in
theorem refParts_b_z {rest x y z : Str} (h : rest.length + 1 ≤ 60) (hf : rest.contains 45 = false) (hpc : pieces 46 rest = [x, y, z]) (hx : numOk x = true) (hy : numOk y = true) (hz : numOk z = false) (w : World) : Tells 193 #[.string (ba (118 :: rest))] w (partsV none) := by
  unfold Tells
  have hsz : (ba (118 :: rest)).size = rest.length + 1 := ba_size _
  have hrs : (ba rest).size = rest.length := ba_size _
  have hq : ¬ (60 : Int) < (rest.length : Int) + 1 := by omega
  have hli := ba_list (118 :: rest)
  have hg0 : (ba (118 :: rest))[0]'(by rw [ba_size]; simp) = 118 := ba_get (118 :: rest) 0 (by simp)
  have hr := cut_rest rest
  have HFREE : Hid (∀ k (hk : k < rest.length), ((rest[k].toNat : Int) == 45) = false) := free_at hf
  have HLN : Hid (([x, y, z].length : Int) = 3) := rfl
  have hsm := pieces_small 46 rest
  have lx : x.length ≤ rest.length := hsm x (by rw [hpc]; simp)
  have ly : y.length ≤ rest.length := hsm y (by rw [hpc]; simp)
  have lz : z.length ≤ rest.length := hsm z (by rw [hpc]; simp)
  have HPC := hide hpc
  have HX := hide hx
  have HY := hide hy
  have HZ := hide hz
  clear hpc hf hsm hx hy hz
  go_enter Tryz.func193, Tryz.ntmps193
  go_wp2
  go_loop [7, 8, 9, 10] (fun co pr ha i => ∃ k : Nat, k ≤ rest.length ∧ co = .string (ba rest) ∧ pr = .string ⟨#[]⟩ ∧ ha = .bool false ∧ i = .int .i64 k) (fun _ _ _ i => rest.length - (intOf i).toNat)
  case atStart => exact ⟨0, Nat.zero_le _, rfl, rfl, rfl, rfl⟩
  case round =>
    obtain ⟨k, hk, rfl, rfl, rfl, rfl⟩ := hrel
    by_cases hlt : k < rest.length
    · have hgk := ba_get rest k hlt
      have hne : ((rest[k].toNat : Int) == 45) = false := (unhide HFREE) k hlt
      go_wp2
      go_round
      case rel => exact ⟨k + 1, hlt, rfl, rfl, rfl, by simp⟩
      case measure => simp [intOf]; omega
    · have hke : k = rest.length := by omega
      subst hke
      go_wp2_with (go_at_call 44; fail)
      refine (refCut_any 46 (l := rest) (by omega) _).mono ?_
      rintro e w2 ⟨B, cp, rfl, tx, hB, b2⟩
      rw [unhide HPC]
      have h3 := unhide HLN
      have HT := hide tx
      rw [unhide HPC] at HT
      clear tx
      have c0 : w2.cell? ⟨B, 0, none⟩ = some (.string (ba x)) := (unhide HT) 0 (by simp)
      have c1 : w2.cell? ⟨B, 1, none⟩ = some (.string (ba y)) := (unhide HT) 1 (by simp)
      have c2 : w2.cell? ⟨B, 2, none⟩ = some (.string (ba z)) := (unhide HT) 2 (by simp)
      go_wp2_with (go_at_call 241; fail)
      refine (refNumber_is (unhide HX) (by omega) _).mono ?_
      rintro e w4 ⟨rfl, hw⟩
      rw [hw]
      clear hw
      go_wp2_with (go_at_call 241; fail)
      refine (refNumber_is (unhide HY) (by omega) _).mono ?_
      rintro e w5 ⟨rfl, hw⟩
      rw [hw]
      clear hw
      go_wp2_with (go_at_call 241; fail)
      refine (refNumber_is (unhide HZ) (by omega) _).mono ?_
      rintro e w6 ⟨rfl, hw⟩
      rw [hw]
      clear hw
      go_wp2
      exact bodyPost_ret (v := partsV none) (by simp [results, Tryz.results193, go_sem, partsV, ba]) rfl ⟨rfl, b2⟩

set_option maxHeartbeats 2000000 in
set_option maxRecDepth 100000 in
theorem refParts_b_ok {rest x y z : Str} (h : rest.length + 1 ≤ 60) (hf : rest.contains 45 = false) (hpc : pieces 46 rest = [x, y, z]) (hx : numOk x = true) (hy : numOk y = true) (hz : numOk z = true) (w : World) : Tells 193 #[.string (ba (118 :: rest))] w (partsV (some ⟨numVal x, numVal y, numVal z, []⟩)) := by
  unfold Tells
  have hsz : (ba (118 :: rest)).size = rest.length + 1 := ba_size _
  have hrs : (ba rest).size = rest.length := ba_size _
  have hq : ¬ (60 : Int) < (rest.length : Int) + 1 := by omega
  have hli := ba_list (118 :: rest)
  have hg0 : (ba (118 :: rest))[0]'(by rw [ba_size]; simp) = 118 := ba_get (118 :: rest) 0 (by simp)
  have hr := cut_rest rest
  have HFREE : Hid (∀ k (hk : k < rest.length), ((rest[k].toNat : Int) == 45) = false) := free_at hf
  have HLN : Hid (([x, y, z].length : Int) = 3) := rfl
  have hsm := pieces_small 46 rest
  have lx : x.length ≤ rest.length := hsm x (by rw [hpc]; simp)
  have ly : y.length ≤ rest.length := hsm y (by rw [hpc]; simp)
  have lz : z.length ≤ rest.length := hsm z (by rw [hpc]; simp)
  have HPC := hide hpc
  have HX := hide hx
  have HY := hide hy
  have HZ := hide hz
  clear hpc hf hsm hx hy hz
  go_enter Tryz.func193, Tryz.ntmps193
  go_wp2
  go_loop [7, 8, 9, 10] (fun co pr ha i => ∃ k : Nat, k ≤ rest.length ∧ co = .string (ba rest) ∧ pr = .string ⟨#[]⟩ ∧ ha = .bool false ∧ i = .int .i64 k) (fun _ _ _ i => rest.length - (intOf i).toNat)
  case atStart => exact ⟨0, Nat.zero_le _, rfl, rfl, rfl, rfl⟩
  case round =>
    obtain ⟨k, hk, rfl, rfl, rfl, rfl⟩ := hrel
    by_cases hlt : k < rest.length
    · have hgk := ba_get rest k hlt
      have hne : ((rest[k].toNat : Int) == 45) = false := (unhide HFREE) k hlt
      go_wp2
      go_round
      case rel => exact ⟨k + 1, hlt, rfl, rfl, rfl, by simp⟩
      case measure => simp [intOf]; omega
    · have hke : k = rest.length := by omega
      subst hke
      go_wp2_with (go_at_call 44; fail)
      refine (refCut_any 46 (l := rest) (by omega) _).mono ?_
      rintro e w2 ⟨B, cp, rfl, tx, hB, b2⟩
      rw [unhide HPC]
      have h3 := unhide HLN
      have HT := hide tx
      rw [unhide HPC] at HT
      clear tx
      have c0 : w2.cell? ⟨B, 0, none⟩ = some (.string (ba x)) := (unhide HT) 0 (by simp)
      have c1 : w2.cell? ⟨B, 1, none⟩ = some (.string (ba y)) := (unhide HT) 1 (by simp)
      have c2 : w2.cell? ⟨B, 2, none⟩ = some (.string (ba z)) := (unhide HT) 2 (by simp)
      go_wp2_with (go_at_call 241; fail)
      refine (refNumber_is (unhide HX) (by omega) _).mono ?_
      rintro e w4 ⟨rfl, hw⟩
      rw [hw]
      clear hw
      go_wp2_with (go_at_call 241; fail)
      refine (refNumber_is (unhide HY) (by omega) _).mono ?_
      rintro e w5 ⟨rfl, hw⟩
      rw [hw]
      clear hw
      go_wp2_with (go_at_call 241; fail)
      refine (refNumber_is (unhide HZ) (by omega) _).mono ?_
      rintro e w6 ⟨rfl, hw⟩
      rw [hw]
      clear hw
      go_wp2_with (go_at_call 242; fail)
      refine (refAtoi_ok (unhide HX) _).mono ?_
      rintro e w7 ⟨rfl, hw⟩
      rw [hw]
      clear hw
      go_wp2_with (go_at_call 242; fail)
      refine (refAtoi_ok (unhide HY) _).mono ?_
      rintro e w8 ⟨rfl, hw⟩
      rw [hw]
      clear hw
      go_wp2_with (go_at_call 242; fail)
      refine (refAtoi_ok (unhide HZ) _).mono ?_
      rintro e w9 ⟨rfl, hw⟩
      rw [hw]
      clear hw
      go_wp2
      exact bodyPost_ret (v := partsV (some ⟨numVal x, numVal y, numVal z, []⟩)) (by simp [results, Tryz.results193, go_sem, partsV, ba]) rfl ⟨rfl, b2⟩

set_option maxHeartbeats 2000000 in
set_option maxRecDepth 100000 in
theorem refParts_p_len {rest A P : Str} {ps : List Str} (h : rest.length + 1 ≤ 60) (he : rest = A ++ 45 :: P) (hf : A.contains 45 = false) (hpc : pieces 46 A = ps) (hn : ps.length ≠ 3) (w : World) : Tells 193 #[.string (ba (118 :: rest))] w (partsV none) := by
  unfold Tells
  have hsz : (ba (118 :: rest)).size = rest.length + 1 := ba_size _
  have hrs : (ba rest).size = rest.length := ba_size _
  have hq : ¬ (60 : Int) < (rest.length : Int) + 1 := by omega
  have hli := ba_list (118 :: rest)
  have hg0 : (ba (118 :: rest))[0]'(by rw [ba_size]; simp) = 118 := ba_get (118 :: rest) 0 (by simp)
  have hr := cut_rest rest
  have hAl : A.length < rest.length := by rw [he]; simp
  have hPl : P.length ≤ rest.length := by rw [he]; simp; omega
  have hx1 : (ba rest).extract (A.length + 1) rest.length = ba P := by rw [he]; exact drop_from A P 45
  have hx2 : (ba rest).extract 0 A.length = ba A := by rw [he]; exact take_to A P 45
  have HFREE : Hid (∀ k (hk : k < A.length) (hr : k < rest.length), ((rest[k].toNat : Int) == 45) = false) := by
    intro k hk hr
    have e : rest[k] = A[k] := by
      have : rest[k]? = A[k]? := by rw [he, List.getElem?_append_left hk]
      rw [List.getElem?_eq_getElem hr, List.getElem?_eq_getElem hk] at this
      exact Option.some.inj this
    rw [e]; exact free_at hf k hk
  have HHIT : Hid (∀ (hr : A.length < rest.length), ((rest[A.length].toNat : Int) == 45) = true) := by
    intro hr
    have e : rest[A.length] = 45 := by
      have : rest[A.length]? = some 45 := by rw [he]; simp
      rw [List.getElem?_eq_getElem hr] at this
      exact Option.some.inj this
    rw [e]; rfl
  have HLN : Hid (¬ (ps.length : Int) = 3) := by show ¬ _; omega
  have HPC := hide hpc
  clear hpc hf he hn
  go_enter Tryz.func193, Tryz.ntmps193
  go_wp2
  go_loop [7, 8, 9, 10] (fun co pr ha i => ∃ k : Nat, k ≤ A.length ∧ co = .string (ba rest) ∧ pr = .string ⟨#[]⟩ ∧ ha = .bool false ∧ i = .int .i64 k) (fun _ _ _ i => A.length - (intOf i).toNat)
  case atStart => exact ⟨0, Nat.zero_le _, rfl, rfl, rfl, rfl⟩
  case round =>
    obtain ⟨k, hk, rfl, rfl, rfl, rfl⟩ := hrel
    have hkr : k < rest.length := by omega
    have hgk := ba_get rest k hkr
    by_cases hlt : k < A.length
    · have hne : ((rest[k].toNat : Int) == 45) = false := (unhide HFREE) k hlt hkr
      go_wp2
      go_round
      case rel => exact ⟨k + 1, hlt, rfl, rfl, rfl, by simp⟩
      case measure => simp [intOf]; omega
    · have hke : k = A.length := by omega
      subst hke
      have heq : ((rest[A.length].toNat : Int) == 45) = true := (unhide HHIT) hkr
      go_wp2_with (go_at_call 44; fail)
      refine (refCut_any 46 (l := A) (by omega) _).mono ?_
      rintro e w2 ⟨B, cp, rfl, tx, hB, b2⟩
      rw [unhide HPC]
      have h3 := unhide HLN
      have HT := hide tx
      rw [unhide HPC] at HT
      clear tx
      go_wp2
      exact bodyPost_ret (v := partsV none) (by simp [results, Tryz.results193, go_sem, partsV, ba]) rfl ⟨rfl, b2⟩

set_option maxHeartbeats 2000000 in
set_option maxRecDepth 100000 in
theorem refParts_p_x {rest A P x y z : Str} (h : rest.length + 1 ≤ 60) (he : rest = A ++ 45 :: P) (hf : A.contains 45 = false) (hpc : pieces 46 A = [x, y, z]) (hx : numOk x = false) (w : World) : Tells 193 #[.string (ba (118 :: rest))] w (partsV none) := by
  unfold Tells
  have hsz : (ba (118 :: rest)).size = rest.length + 1 := ba_size _
  have hrs : (ba rest).size = rest.length := ba_size _
  have hq : ¬ (60 : Int) < (rest.length : Int) + 1 := by omega
  have hli := ba_list (118 :: rest)
  have hg0 : (ba (118 :: rest))[0]'(by rw [ba_size]; simp) = 118 := ba_get (118 :: rest) 0 (by simp)
  have hr := cut_rest rest
  have hAl : A.length < rest.length := by rw [he]; simp
  have hPl : P.length ≤ rest.length := by rw [he]; simp; omega
  have hx1 : (ba rest).extract (A.length + 1) rest.length = ba P := by rw [he]; exact drop_from A P 45
  have hx2 : (ba rest).extract 0 A.length = ba A := by rw [he]; exact take_to A P 45
  have HFREE : Hid (∀ k (hk : k < A.length) (hr : k < rest.length), ((rest[k].toNat : Int) == 45) = false) := by
    intro k hk hr
    have e : rest[k] = A[k] := by
      have : rest[k]? = A[k]? := by rw [he, List.getElem?_append_left hk]
      rw [List.getElem?_eq_getElem hr, List.getElem?_eq_getElem hk] at this
      exact Option.some.inj this
    rw [e]; exact free_at hf k hk
  have HHIT : Hid (∀ (hr : A.length < rest.length), ((rest[A.length].toNat : Int) == 45) = true) := by
    intro hr
    have e : rest[A.length] = 45 := by
      have : rest[A.length]? = some 45 := by rw [he]; simp
      rw [List.getElem?_eq_getElem hr] at this
      exact Option.some.inj this
    rw [e]; rfl
  have HLN : Hid (([x, y, z].length : Int) = 3) := rfl
  have hsm := pieces_small 46 A
  have lx : x.length ≤ A.length := hsm x (by rw [hpc]; simp)
  have ly : y.length ≤ A.length := hsm y (by rw [hpc]; simp)
  have lz : z.length ≤ A.length := hsm z (by rw [hpc]; simp)
  have HPC := hide hpc
  have HX := hide hx
  clear hpc hf he hsm hx
  go_enter Tryz.func193, Tryz.ntmps193
  go_wp2
  go_loop [7, 8, 9, 10] (fun co pr ha i => ∃ k : Nat, k ≤ A.length ∧ co = .string (ba rest) ∧ pr = .string ⟨#[]⟩ ∧ ha = .bool false ∧ i = .int .i64 k) (fun _ _ _ i => A.length - (intOf i).toNat)
  case atStart => exact ⟨0, Nat.zero_le _, rfl, rfl, rfl, rfl⟩
  case round =>
    obtain ⟨k, hk, rfl, rfl, rfl, rfl⟩ := hrel
    have hkr : k < rest.length := by omega
    have hgk := ba_get rest k hkr
    by_cases hlt : k < A.length
    · have hne : ((rest[k].toNat : Int) == 45) = false := (unhide HFREE) k hlt hkr
      go_wp2
      go_round
      case rel => exact ⟨k + 1, hlt, rfl, rfl, rfl, by simp⟩
      case measure => simp [intOf]; omega
    · have hke : k = A.length := by omega
      subst hke
      have heq : ((rest[A.length].toNat : Int) == 45) = true := (unhide HHIT) hkr
      go_wp2_with (go_at_call 44; fail)
      refine (refCut_any 46 (l := A) (by omega) _).mono ?_
      rintro e w2 ⟨B, cp, rfl, tx, hB, b2⟩
      rw [unhide HPC]
      have h3 := unhide HLN
      have HT := hide tx
      rw [unhide HPC] at HT
      clear tx
      have c0 : w2.cell? ⟨B, 0, none⟩ = some (.string (ba x)) := (unhide HT) 0 (by simp)
      have c1 : w2.cell? ⟨B, 1, none⟩ = some (.string (ba y)) := (unhide HT) 1 (by simp)
      have c2 : w2.cell? ⟨B, 2, none⟩ = some (.string (ba z)) := (unhide HT) 2 (by simp)
      go_wp2_with (go_at_call 241; refine (refNumber_is (unhide HX) (by omega) _).mono ?_; rintro e w4 ⟨rfl, hw⟩; rw [hw]; clear hw w4)
      exact bodyPost_ret (v := partsV none) (by simp [results, Tryz.results193, go_sem, partsV, ba]) rfl ⟨rfl, b2⟩

set_option maxHeartbeats 2000000 in
set_option maxRecDepth 100000 in
theorem refParts_p_y {rest A P x y z : Str} (h : rest.length + 1 ≤ 60) (he : rest = A ++ 45 :: P) (hf : A.contains 45 = false) (hpc : pieces 46 A = [x, y, z]) (hx : numOk x = true) (hy : numOk y = false) (w : World) : Tells 193 #[.string (ba (118 :: rest))] w (partsV none) := by
  unfold Tells
  have hsz : (ba (118 :: rest)).size = rest.length + 1 := ba_size _
  have hrs : (ba rest).size = rest.length := ba_size _
  have hq : ¬ (60 : Int) < (rest.length : Int) + 1 := by omega
  have hli := ba_list (118 :: rest)
  have hg0 : (ba (118 :: rest))[0]'(by rw [ba_size]; simp) = 118 := ba_get (118 :: rest) 0 (by simp)
  have hr := cut_rest rest
  have hAl : A.length < rest.length := by rw [he]; simp
  have hPl : P.length ≤ rest.length := by rw [he]; simp; omega
  have hx1 : (ba rest).extract (A.length + 1) rest.length = ba P := by rw [he]; exact drop_from A P 45
  have hx2 : (ba rest).extract 0 A.length = ba A := by rw [he]; exact take_to A P 45
  have HFREE : Hid (∀ k (hk : k < A.length) (hr : k < rest.length), ((rest[k].toNat : Int) == 45) = false) := by
    intro k hk hr
    have e : rest[k] = A[k] := by
      have : rest[k]? = A[k]? := by rw [he, List.getElem?_append_left hk]
      rw [List.getElem?_eq_getElem hr, List.getElem?_eq_getElem hk] at this
      exact Option.some.inj this
    rw [e]; exact free_at hf k hk
  have HHIT : Hid (∀ (hr : A.length < rest.length), ((rest[A.length].toNat : Int) == 45) = true) := by
    intro hr
    have e : rest[A.length] = 45 := by
      have : rest[A.length]? = some 45 := by rw [he]; simp
      rw [List.getElem?_eq_getElem hr] at this
      exact Option.some.inj this
    rw [e]; rfl
  have HLN : Hid (([x, y, z].length : Int) = 3) := rfl
  have hsm := pieces_small 46 A
  have lx : x.length ≤ A.length := hsm x (by rw [hpc]; simp)
  have ly : y.length ≤ A.length := hsm y (by rw [hpc]; simp)
  have lz : z.length ≤ A.length := hsm z (by rw [hpc]; simp)
  have HPC := hide hpc
  have HX := hide hx
  have HY := hide hy
  clear hpc hf he hsm hx hy
  go_enter Tryz.func193, Tryz.ntmps193
  go_wp2
  go_loop [7, 8, 9, 10] (fun co pr ha i => ∃ k : Nat, k ≤ A.length ∧ co = .string (ba rest) ∧ pr = .string ⟨#[]⟩ ∧ ha = .bool false ∧ i = .int .i64 k) (fun _ _ _ i => A.length - (intOf i).toNat)
  case atStart => exact ⟨0, Nat.zero_le _, rfl, rfl, rfl, rfl⟩
  case round =>
    obtain ⟨k, hk, rfl, rfl, rfl, rfl⟩ := hrel
    have hkr : k < rest.length := by omega
    have hgk := ba_get rest k hkr
    by_cases hlt : k < A.length
    · have hne : ((rest[k].toNat : Int) == 45) = false := (unhide HFREE) k hlt hkr
      go_wp2
      go_round
      case rel => exact ⟨k + 1, hlt, rfl, rfl, rfl, by simp⟩
      case measure => simp [intOf]; omega
    · have hke : k = A.length := by omega
      subst hke
      have heq : ((rest[A.length].toNat : Int) == 45) = true := (unhide HHIT) hkr
      go_wp2_with (go_at_call 44; fail)
      refine (refCut_any 46 (l := A) (by omega) _).mono ?_
      rintro e w2 ⟨B, cp, rfl, tx, hB, b2⟩
      rw [unhide HPC]
      have h3 := unhide HLN
      have HT := hide tx
      rw [unhide HPC] at HT
      clear tx
      have c0 : w2.cell? ⟨B, 0, none⟩ = some (.string (ba x)) := (unhide HT) 0 (by simp)
      have c1 : w2.cell? ⟨B, 1, none⟩ = some (.string (ba y)) := (unhide HT) 1 (by simp)
      have c2 : w2.cell? ⟨B, 2, none⟩ = some (.string (ba z)) := (unhide HT) 2 (by simp)
      go_wp2_with (go_at_call 241; fail)
      refine (refNumber_is (unhide HX) (by omega) _).mono ?_
      rintro e w4 ⟨rfl, hw⟩
      rw [hw]
      clear hw
      go_wp2_with (go_at_call 241; fail)
      refine (refNumber_is (unhide HY) (by omega) _).mono ?_
      rintro e w5 ⟨rfl, hw⟩
      rw [hw]
      clear hw
      go_wp2
      exact bodyPost_ret (v := partsV none) (by simp [results, Tryz.results193, go_sem, partsV, ba]) rfl ⟨rfl, b2⟩

set_option maxHeartbeats 2000000 in
set_option maxRecDepth 100000 in
theorem refParts_p_z {rest A P x y z : Str} (h : rest.length + 1 ≤ 60) (he : rest = A ++ 45 :: P) (hf : A.contains 45 = false) (hpc : pieces 46 A = [x, y, z]) (hx : numOk x = true) (hy : numOk y = true) (hz : numOk z = false) (w : World) : Tells 193 #[.string (ba (118 :: rest))] w (partsV none) := by
  unfold Tells
  have hsz : (ba (118 :: rest)).size = rest.length + 1 := ba_size _
  have hrs : (ba rest).size = rest.length := ba_size _
  have hq : ¬ (60 : Int) < (rest.length : Int) + 1 := by omega
  have hli := ba_list (118 :: rest)
  have hg0 : (ba (118 :: rest))[0]'(by rw [ba_size]; simp) = 118 := ba_get (118 :: rest) 0 (by simp)
  have hr := cut_rest rest
  have hAl : A.length < rest.length := by rw [he]; simp
  have hPl : P.length ≤ rest.length := by rw [he]; simp; omega
  have hx1 : (ba rest).extract (A.length + 1) rest.length = ba P := by rw [he]; exact drop_from A P 45
  have hx2 : (ba rest).extract 0 A.length = ba A := by rw [he]; exact take_to A P 45
  have HFREE : Hid (∀ k (hk : k < A.length) (hr : k < rest.length), ((rest[k].toNat : Int) == 45) = false) := by
    intro k hk hr
    have e : rest[k] = A[k] := by
      have : rest[k]? = A[k]? := by rw [he, List.getElem?_append_left hk]
      rw [List.getElem?_eq_getElem hr, List.getElem?_eq_getElem hk] at this
      exact Option.some.inj this
    rw [e]; exact free_at hf k hk
  have HHIT : Hid (∀ (hr : A.length < rest.length), ((rest[A.length].toNat : Int) == 45) = true) := by
    intro hr
    have e : rest[A.length] = 45 := by
      have : rest[A.length]? = some 45 := by rw [he]; simp
      rw [List.getElem?_eq_getElem hr] at this
      exact Option.some.inj this
    rw [e]; rfl
  have HLN : Hid (([x, y, z].length : Int) = 3) := rfl
  have hsm := pieces_small 46 A
  have lx : x.length ≤ A.length := hsm x (by rw [hpc]; simp)
  have ly : y.length ≤ A.length := hsm y (by rw [hpc]; simp)
  have lz : z.length ≤ A.length := hsm z (by rw [hpc]; simp)
  have HPC := hide hpc
  have HX := hide hx
  have HY := hide hy
  have HZ := hide hz
  clear hpc hf he hsm hx hy hz
  go_enter Tryz.func193, Tryz.ntmps193
  go_wp2
  go_loop [7, 8, 9, 10] (fun co pr ha i => ∃ k : Nat, k ≤ A.length ∧ co = .string (ba rest) ∧ pr = .string ⟨#[]⟩ ∧ ha = .bool false ∧ i = .int .i64 k) (fun _ _ _ i => A.length - (intOf i).toNat)
  case atStart => exact ⟨0, Nat.zero_le _, rfl, rfl, rfl, rfl⟩
  case round =>
    obtain ⟨k, hk, rfl, rfl, rfl, rfl⟩ := hrel
    have hkr : k < rest.length := by omega
    have hgk := ba_get rest k hkr
    by_cases hlt : k < A.length
    · have hne : ((rest[k].toNat : Int) == 45) = false := (unhide HFREE) k hlt hkr
      go_wp2
      go_round
      case rel => exact ⟨k + 1, hlt, rfl, rfl, rfl, by simp⟩
      case measure => simp [intOf]; omega
    · have hke : k = A.length := by omega
      subst hke
      have heq : ((rest[A.length].toNat : Int) == 45) = true := (unhide HHIT) hkr
      go_wp2_with (go_at_call 44; fail)
      refine (refCut_any 46 (l := A) (by omega) _).mono ?_
      rintro e w2 ⟨B, cp, rfl, tx, hB, b2⟩
      rw [unhide HPC]
      have h3 := unhide HLN
      have HT := hide tx
      rw [unhide HPC] at HT
      clear tx
      have c0 : w2.cell? ⟨B, 0, none⟩ = some (.string (ba x)) := (unhide HT) 0 (by simp)
      have c1 : w2.cell? ⟨B, 1, none⟩ = some (.string (ba y)) := (unhide HT) 1 (by simp)
      have c2 : w2.cell? ⟨B, 2, none⟩ = some (.string (ba z)) := (unhide HT) 2 (by simp)
      go_wp2_with (go_at_call 241; fail)
      refine (refNumber_is (unhide HX) (by omega) _).mono ?_
      rintro e w4 ⟨rfl, hw⟩
      rw [hw]
      clear hw
      go_wp2_with (go_at_call 241; fail)
      refine (refNumber_is (unhide HY) (by omega) _).mono ?_
      rintro e w5 ⟨rfl, hw⟩
      rw [hw]
      clear hw
      go_wp2_with (go_at_call 241; fail)
      refine (refNumber_is (unhide HZ) (by omega) _).mono ?_
      rintro e w6 ⟨rfl, hw⟩
      rw [hw]
      clear hw
      go_wp2
      exact bodyPost_ret (v := partsV none) (by simp [results, Tryz.results193, go_sem, partsV, ba]) rfl ⟨rfl, b2⟩

set_option maxHeartbeats 2000000 in
set_option maxRecDepth 100000 in
theorem refParts_p_ok {rest A P x y z : Str} (h : rest.length + 1 ≤ 60) (he : rest = A ++ 45 :: P) (hf : A.contains 45 = false) (hpc : pieces 46 A = [x, y, z]) (hx : numOk x = true) (hy : numOk y = true) (hz : numOk z = true) (w : World) : Tells 193 #[.string (ba (118 :: rest))] w (preV x y z P) := by
  unfold Tells
  have hsz : (ba (118 :: rest)).size = rest.length + 1 := ba_size _
  have hrs : (ba rest).size = rest.length := ba_size _
  have hq : ¬ (60 : Int) < (rest.length : Int) + 1 := by omega
  have hli := ba_list (118 :: rest)
  have hg0 : (ba (118 :: rest))[0]'(by rw [ba_size]; simp) = 118 := ba_get (118 :: rest) 0 (by simp)
  have hr := cut_rest rest
  have hAl : A.length < rest.length := by rw [he]; simp
  have hPl : P.length ≤ rest.length := by rw [he]; simp; omega
  have hx1 : (ba rest).extract (A.length + 1) rest.length = ba P := by rw [he]; exact drop_from A P 45
  have hx2 : (ba rest).extract 0 A.length = ba A := by rw [he]; exact take_to A P 45
  have HFREE : Hid (∀ k (hk : k < A.length) (hr : k < rest.length), ((rest[k].toNat : Int) == 45) = false) := by
    intro k hk hr
    have e : rest[k] = A[k] := by
      have : rest[k]? = A[k]? := by rw [he, List.getElem?_append_left hk]
      rw [List.getElem?_eq_getElem hr, List.getElem?_eq_getElem hk] at this
      exact Option.some.inj this
    rw [e]; exact free_at hf k hk
  have HHIT : Hid (∀ (hr : A.length < rest.length), ((rest[A.length].toNat : Int) == 45) = true) := by
    intro hr
    have e : rest[A.length] = 45 := by
      have : rest[A.length]? = some 45 := by rw [he]; simp
      rw [List.getElem?_eq_getElem hr] at this
      exact Option.some.inj this
    rw [e]; rfl
  have HLN : Hid (([x, y, z].length : Int) = 3) := rfl
  have hsm := pieces_small 46 A
  have lx : x.length ≤ A.length := hsm x (by rw [hpc]; simp)
  have ly : y.length ≤ A.length := hsm y (by rw [hpc]; simp)
  have lz : z.length ≤ A.length := hsm z (by rw [hpc]; simp)
  have HPC := hide hpc
  have HX := hide hx
  have HY := hide hy
  have HZ := hide hz
  clear hpc hf he hsm hx hy hz
  go_enter Tryz.func193, Tryz.ntmps193
  go_wp2
  go_loop [7, 8, 9, 10] (fun co pr ha i => ∃ k : Nat, k ≤ A.length ∧ co = .string (ba rest) ∧ pr = .string ⟨#[]⟩ ∧ ha = .bool false ∧ i = .int .i64 k) (fun _ _ _ i => A.length - (intOf i).toNat)
  case atStart => exact ⟨0, Nat.zero_le _, rfl, rfl, rfl, rfl⟩
  case round =>
    obtain ⟨k, hk, rfl, rfl, rfl, rfl⟩ := hrel
    have hkr : k < rest.length := by omega
    have hgk := ba_get rest k hkr
    by_cases hlt : k < A.length
    · have hne : ((rest[k].toNat : Int) == 45) = false := (unhide HFREE) k hlt hkr
      go_wp2
      go_round
      case rel => exact ⟨k + 1, hlt, rfl, rfl, rfl, by simp⟩
      case measure => simp [intOf]; omega
    · have hke : k = A.length := by omega
      subst hke
      have heq : ((rest[A.length].toNat : Int) == 45) = true := (unhide HHIT) hkr
      go_wp2_with (go_at_call 44; fail)
      refine (refCut_any 46 (l := A) (by omega) _).mono ?_
      rintro e w2 ⟨B, cp, rfl, tx, hB, b2⟩
      rw [unhide HPC]
      have h3 := unhide HLN
      have HT := hide tx
      rw [unhide HPC] at HT
      clear tx
      have c0 : w2.cell? ⟨B, 0, none⟩ = some (.string (ba x)) := (unhide HT) 0 (by simp)
      have c1 : w2.cell? ⟨B, 1, none⟩ = some (.string (ba y)) := (unhide HT) 1 (by simp)
      have c2 : w2.cell? ⟨B, 2, none⟩ = some (.string (ba z)) := (unhide HT) 2 (by simp)
      go_wp2_with (go_at_call 241; fail)
      refine (refNumber_is (unhide HX) (by omega) _).mono ?_
      rintro e w4 ⟨rfl, hw⟩
      rw [hw]
      clear hw
      go_wp2_with (go_at_call 241; fail)
      refine (refNumber_is (unhide HY) (by omega) _).mono ?_
      rintro e w5 ⟨rfl, hw⟩
      rw [hw]
      clear hw
      go_wp2_with (go_at_call 241; fail)
      refine (refNumber_is (unhide HZ) (by omega) _).mono ?_
      rintro e w6 ⟨rfl, hw⟩
      rw [hw]
      clear hw
      go_wp2_with (go_at_call 44; fail)
      refine (refCut_any 46 (l := P) (by omega) _).mono ?_
      rintro e w3 ⟨B2, cp2, rfl, tx2, hB2, b3⟩
      have HT2 := hide tx2
      have hpb := pieces_bound (c := 46) (l := P) (by omega)
      have hpn := hpb.1
      have HSM := hide hpb.2
      have d0 : w3.cell? ⟨B, 0, none⟩ = some (.string (ba x)) := ((unhide HT).low hB.1 b3) 0 (by simp)
      have d1 : w3.cell? ⟨B, 1, none⟩ = some (.string (ba y)) := ((unhide HT).low hB.1 b3) 1 (by simp)
      have d2 : w3.cell? ⟨B, 2, none⟩ = some (.string (ba z)) := ((unhide HT).low hB.1 b3) 2 (by simp)
      have b3 := low_trans b2 b3
      clear tx2 hpb c0 c1 c2 b2
      go_wp2
      go_loop [13] (fun i => ∃ k : Nat, k ≤ (pieces 46 P).length ∧ i = .int .i64 k ∧ ((pieces 46 P).take k).all validIdB = true) (fun i => (pieces 46 P).length - (intOf i).toNat)
      case atStart => exact ⟨0, Nat.zero_le _, rfl, rfl⟩
      case round =>
        obtain ⟨k, hk, rfl, hall⟩ := hrel
        have HA := hide hall
        clear hall
        by_cases hlt2 : k < (pieces 46 P).length
        · have hc := (unhide HT2) k hlt2
          cases hv : validIdB (pieces 46 P)[k] with
          | false =>
            have HF : Hid (preV x y z P = partsV none) := by show preV x y z P = _; unfold preV validPreB; rw [all_no hlt2 hv]; rfl
            have HV := hide hv
            clear hv
            go_wp2_with (go_at_call 243; refine (refIdent_is (unhide HV) ((unhide HSM) _ (List.getElem_mem hlt2)) _).mono ?_; rintro e w4 ⟨rfl, hw⟩; rw [hw]; clear hw w4)
            exact bodyPost_ret (v := partsV none) (by simp [results, Tryz.results193, go_sem, partsV, ba]) rfl ⟨retv (unhide HF).symm, b3⟩
          | true =>
            have HF := hide (all_take (unhide HA) hlt2 hv)
            have HV := hide hv
            clear HA hv
            go_wp2_with (go_at_call 243; refine (refIdent_is (unhide HV) ((unhide HSM) _ (List.getElem_mem hlt2)) _).mono ?_; rintro e w4 ⟨rfl, hw⟩; rw [hw]; clear hw w4)
            go_round
            case rel => exact ⟨k + 1, hlt2, by simp, unhide HF⟩
            case measure => simp [intOf]; omega
        · have hke : k = (pieces 46 P).length := by omega
          subst hke
          have HF : Hid (preV x y z P = partsV (some ⟨numVal x, numVal y, numVal z, P⟩)) := by
            have := unhide HA
            rw [List.take_length] at this
            show preV x y z P = _
            unfold preV validPreB; rw [this]; rfl
          clear HA
          go_wp2_with (go_at_call 242; fail)
          refine (refAtoi_ok (unhide HX) _).mono ?_
          rintro e w7 ⟨rfl, hw⟩
          rw [hw]
          clear hw
          go_wp2_with (go_at_call 242; fail)
          refine (refAtoi_ok (unhide HY) _).mono ?_
          rintro e w8 ⟨rfl, hw⟩
          rw [hw]
          clear hw
          go_wp2_with (go_at_call 242; fail)
          refine (refAtoi_ok (unhide HZ) _).mono ?_
          rintro e w9 ⟨rfl, hw⟩
          rw [hw]
          clear hw
          go_wp2
          exact bodyPost_ret (v := partsV (some ⟨numVal x, numVal y, numVal z, P⟩)) (by simp [results, Tryz.results193, go_sem, partsV]) rfl ⟨retv (unhide HF).symm, b3⟩

theorem refParts_any (v : Str) (w : World) : Tells 193 #[.string (ba v)] w (partsV (parseV v)) := by
  by_cases hl : v.length ≤ 60
  · cases v with
    | nil => exact refParts_empty w
    | cons c rest =>
      by_cases hc : c = 118
      · subst hc
        have hl' : rest.length + 1 ≤ 60 := by simpa using hl
        have e : parseV (118 :: rest) = parseR rest := by unfold parseV; rw [if_pos hl]; rfl
        rw [e]
        cases hh : rest.contains 45 with
        | false =>
          obtain ⟨ea, eb⟩ := ahead_none 45 rest hh
          have er : parseR rest = match numsOf (pieces 46 rest) with | none => none | some (a, b, c) => some ⟨a, b, c, []⟩ := by
            unfold parseR; rw [ea, eb, hh]; rfl
          obtain ⟨ps, hps⟩ : ∃ ps, pieces 46 rest = ps := ⟨_, rfl⟩
          rw [er, hps]
          by_cases h3 : ps.length = 3
          · match ps, h3 with
            | [x, y, z], _ =>
              cases hx : numOk x with
              | false => have : numsOf [x, y, z] = none := by simp [numsOf, hx]
                         rw [this]; exact refParts_b_x hl' hh hps hx w
              | true =>
                cases hy : numOk y with
                | false => have : numsOf [x, y, z] = none := by simp [numsOf, hy]
                           rw [this]; exact refParts_b_y hl' hh hps hx hy w
                | true =>
                  cases hz : numOk z with
                  | false => have : numsOf [x, y, z] = none := by simp [numsOf, hz]
                             rw [this]; exact refParts_b_z hl' hh hps hx hy hz w
                  | true => have : numsOf [x, y, z] = some (numVal x, numVal y, numVal z) := by simp [numsOf, hx, hy, hz]
                            rw [this]; exact refParts_b_ok hl' hh hps hx hy hz w
          · have : numsOf ps = none := nums_len h3
            rw [this]; exact refParts_b_len hl' hh hps h3 w
        | true =>
          have he := ahead_behind 45 rest hh
          have hf := not_mem_ahead 45 rest
          have er : parseR rest = match numsOf (pieces 46 (ahead 45 rest)) with | none => none | some (a, b, c) => if validPreB (behind 45 rest) then some ⟨a, b, c, behind 45 rest⟩ else none := by
            unfold parseR; rw [hh]
            cases numsOf (pieces 46 (ahead 45 rest)) with
            | none => rfl
            | some x => cases validPreB (behind 45 rest) <;> rfl
          rw [er]
          generalize ahead 45 rest = A at *
          generalize behind 45 rest = P at *
          obtain ⟨ps, hps⟩ : ∃ ps, pieces 46 A = ps := ⟨_, rfl⟩
          rw [hps]
          by_cases h3 : ps.length = 3
          · match ps, h3 with
            | [x, y, z], _ =>
              cases hx : numOk x with
              | false => have : numsOf [x, y, z] = none := by simp [numsOf, hx]
                         rw [this]; exact refParts_p_x hl' he hf hps hx w
              | true =>
                cases hy : numOk y with
                | false => have : numsOf [x, y, z] = none := by simp [numsOf, hy]
                           rw [this]; exact refParts_p_y hl' he hf hps hx hy w
                | true =>
                  cases hz : numOk z with
                  | false => have : numsOf [x, y, z] = none := by simp [numsOf, hz]
                             rw [this]; exact refParts_p_z hl' he hf hps hx hy hz w
                  | true => have : numsOf [x, y, z] = some (numVal x, numVal y, numVal z) := by simp [numsOf, hx, hy, hz]
                            rw [this]
                            have hk := refParts_p_ok hl' he hf hps hx hy hz w
                            have ev : preV x y z P = partsV (if validPreB P then some ⟨numVal x, numVal y, numVal z, P⟩ else none) := by unfold preV; cases validPreB P <;> rfl
                            rw [ev] at hk; exact hk
          · have : numsOf ps = none := nums_len h3
            rw [this]; exact refParts_p_len hl' he hf hps h3 w
      · have e : parseV (c :: rest) = none := by
          unfold parseV; rw [if_pos hl]
          split
          · rename_i heq; injection heq with h1 _; exact absurd h1 hc
          · rfl
        rw [e]; exact refParts_head (by simpa using hl) hc w
  · have e : parseV v = none := by unfold parseV; rw [if_neg hl]
    rw [e]; exact refParts_long (by omega) w

end Go.Proofs.YthcafeoamabkgaaGreatDoor
