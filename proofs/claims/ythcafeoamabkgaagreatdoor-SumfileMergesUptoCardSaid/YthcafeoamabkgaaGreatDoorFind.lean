/-
  Find.
-/
import Derived.Test.YthcafeoamabkgaaGreatDoorSameL
import Derived.Deep.RegionWith
namespace Go.Proofs.YthcafeoamabkgaaGreatDoor
open Go.RowKit

/-- The first line of a module and a kind. -/
def findR (xs : List Ln) (mp mv : Str) (kk : Int) : Option Ln := xs.find? fun x => decide (x.p = mp ∧ x.v = mv ∧ x.k = kk)
def findV : Option Ln → Value
  | some x => .tuple #[.string (ba x.s), .bool true]
  | none => .tuple #[.string ⟨#[]⟩, .bool false]

theorem find_yes {xs : List Ln} {mp mv : Str} {kk : Int} {i : Nat} (hi : i < xs.length) (h : findR (xs.take i) mp mv kk = none) (hx : xs[i].p = mp ∧ xs[i].v = mv ∧ xs[i].k = kk) : findR xs mp mv kk = some xs[i] := by
  have e : xs = xs.take i ++ xs[i] :: xs.drop (i + 1) := by rw [List.getElem_cons_drop, List.take_append_drop]
  unfold findR at h ⊢
  obtain ⟨y, hy⟩ : ∃ y, xs[i] = y := ⟨_, rfl⟩
  rw [hy] at e hx ⊢
  rw [e, List.find?_append, h]
  simp [hx]
theorem find_no {xs : List Ln} {mp mv : Str} {kk : Int} {i : Nat} (hi : i < xs.length) (h : findR (xs.take i) mp mv kk = none) (hx : ¬ (xs[i].p = mp ∧ xs[i].v = mv ∧ xs[i].k = kk)) : findR (xs.take (i + 1)) mp mv kk = none := by
  unfold findR at h ⊢
  rw [List.take_add_one, List.find?_append, h, List.getElem?_eq_getElem hi]
  simp only [Option.toList_some, Option.none_or]
  rw [List.find?_singleton, if_neg (by simpa using hx)]

theorem box_low {w w' : World} {o : Obj} (h : Below (w.heap.size + 1) (w.alloc o) w') : Below w.heap.size w w' := by
  have a := (Below.refl w.heap.size w).alloc (Nat.le_refl _) o
  exact a.trans (h.mono (Nat.le_succ _))

set_option maxRecDepth 100000 in
set_option maxHeartbeats 4000000 in
theorem find_any {w : World} {a : Option Addr} {n c : Nat} {xs : List Ln} {mp mv : Str} {kk : Int} (hn : xs.length = n) (hN : n ≤ 1000000) (h : LRow w a xs) :
    Calls Tryz.prog 17 #[.slice a n c, .agg #[.string (ba mp), .string (ba mv)], .int .i64 kk] w fun e w' => e = .returned (findV (findR xs mp mv kk)) ∧ Below w.heap.size w w' := by
  obtain ⟨W0, hW0⟩ : ∃ W0, w.alloc (.cells #[.string (ba mp), .string (ba mv)] 36) = W0 := ⟨_, rfl⟩
  have W0_low : ∀ w', Below (w.heap.size + 1) W0 w' → Below w.heap.size w w' := by rw [← hW0]; exact fun w' h => box_low h
  have k0 : Blk W0 w.heap.size #[.string (ba mp), .string (ba mv)] 36 := by rw [← hW0]; exact Blk.new _ _ _
  have hsz : W0.heap.size = w.heap.size + 1 := by rw [← hW0]; show (w.heap.push _).size = _; simp
  have H0 : LRow W0 a xs := by rw [← hW0]; exact h.low ((Below.refl _ _).alloc (Nat.le_refl _) _)
  have HN := hide hn
  have H := hide H0
  have K0 := hide k0
  have HSZ := hide hsz
  have HLO := hide W0_low
  clear hn h H0 k0 hsz W0_low
  go_enter Tryz.func17, Tryz.ntmps17
  go_wp2
  go_loopw [9, 12] (fun _ v12 wr => ∃ i : Nat, i ≤ n ∧ v12 = .int .i64 i ∧ findR (xs.take i) mp mv kk = none ∧ Below (w.heap.size + 1) W0 wr) (fun _ v12 _ => n - (intOf v12).toNat)
  case atStart => exact ⟨0, Nat.zero_le _, rfl, rfl, Below.refl _ _⟩
  case round =>
    rename World => wr
    obtain ⟨i, hi, rfl, hf, hlow⟩ := hrel
    have HF := hide hf
    have HL := hide hlow
    clear hf hlow
    by_cases hlt : i < n
    · have hit : i < xs.length := by rw [unhide HN]; exact hlt
      have hlow2 : Below W0.heap.size W0 wr := by rw [unhide HSZ]; exact unhide HL
      obtain ⟨B, O, rfl, he⟩ : ∃ B O, a = some ⟨B, O, none⟩ ∧ ∀ k (hk : k < xs.length), LnAt wr B (O + k * 4) xs[k] := by
        rcases ((unhide H).low hlow2).els with h | h
        · rw [h] at hit; simp at hit
        · exact h
      have ha := he i hit
      have hy := find_yes (mp := mp) (mv := mv) (kk := kk) hit (unhide HF)
      have hno := find_no (mp := mp) (mv := mv) (kk := kk) hit (unhide HF)
      obtain ⟨x, hx⟩ : ∃ x, xs[i] = x := ⟨_, rfl⟩
      rw [hx] at ha hy hno
      obtain ⟨p, v, k, s⟩ := x
      simp only at ha hy hno
      obtain ⟨m1, m2, m3, m4⟩ := ha
      obtain ⟨W1, hW1⟩ : ∃ W1, wr.alloc (.cells #[.string (ba p), .string (ba v), .int .i64 k, .string (ba s)] 38) = W1 := ⟨_, rfl⟩
      have k1 : Blk W1 wr.heap.size (lnC ⟨p, v, k, s⟩) 38 := by rw [← hW1]; exact Blk.new _ _ _
      have bW : Below (w.heap.size + 1) W0 W1 := by rw [← hW1]; exact (unhide HL).alloc (by have := hlow2.size; rw [unhide HSZ] at this; exact this) _
      have kb : Blk W1 w.heap.size #[.string (ba mp), .string (ba mv)] 36 := by
        have h2 : Below W0.heap.size W0 W1 := by rw [unhide HSZ]; exact bW
        exact (unhide K0).low h2
      have g0 : W1.cell? ⟨w.heap.size, 0, none⟩ = some (.string (ba mp)) := kb.cell 0
      have g1 : W1.cell? ⟨w.heap.size, 1, none⟩ = some (.string (ba mv)) := kb.cell 1
      have g2 : W1.cell? ⟨wr.heap.size, 0, none⟩ = some (.string (ba p)) := k1.cell 0
      have g3 : W1.cell? ⟨wr.heap.size, 1, none⟩ = some (.string (ba v)) := k1.cell 1
      have g4 : W1.cell? ⟨wr.heap.size, 2, none⟩ = some (.int .i64 k) := k1.cell 2
      have g5 : W1.cell? ⟨wr.heap.size, 3, none⟩ = some (.string (ba s)) := k1.cell 3
      have HBW := hide bW
      have HSW : Hid (w.heap.size + 1 ≤ W1.heap.size) := hide (by have := bW.size; rw [unhide HSZ] at this; exact this)
      clear k1 bW kb he hx hlow2 HF
      by_cases e1 : p = mp
      · by_cases e2 : v = mv
        · by_cases e3 : k = kk
          · have HF := hide (hy ⟨e1, e2, e3⟩)
            have f1 : ((ba p).toList == (ba mp).toList) = true := by rw [e1]; simp
            have f2 : ((ba v).toList == (ba mv).toList) = true := by rw [e2]; simp
            have f3 : (k == kk) = true := by rw [e3]; simp
            clear hy hno e1 e2 e3
            go_wp2
            go_region_with (first
              | (go_at_call 53; refine (entryOf_any (x := ⟨p, v, k, s⟩) _).mono ?_; rintro e w8 ⟨rfl, b8⟩; have r0 : w8.cell? ⟨w.heap.size, 0, none⟩ = some (.string (ba mp)) := (b8.cell (p := ⟨w.heap.size, 0, none⟩) (lt_of_cell g0)).trans g0; have r1 : w8.cell? ⟨w.heap.size, 1, none⟩ = some (.string (ba mv)) := (b8.cell (p := ⟨w.heap.size, 1, none⟩) (lt_of_cell g1)).trans g1; have r3 : w8.cell? ⟨wr.heap.size, 3, none⟩ = some (.string (ba s)) := (b8.cell (p := ⟨wr.heap.size, 3, none⟩) (lt_of_cell g5)).trans g5; have HB8 : Hid (Below (w.heap.size + 1) W0 w8) := hide ((unhide HBW).drew.trans (b8.mono (unhide HSW))); clear b8))
            all_goals
              go_wp2
              go_ret2
              rw [unhide HF]
              exact ⟨rfl, (unhide HLO) _ (unhide HB8)⟩
          · have HF := hide (hno (fun h => e3 h.2.2))
            have f3 : (k == kk) = false := by simpa using e3
            have f1 : ((ba p).toList == (ba mp).toList) = true := by rw [e1]; simp
            have f2 : ((ba v).toList == (ba mv).toList) = true := by rw [e2]; simp
            clear hy hno e1 e2 e3
            go_wp2
            go_region_with (first
              | (go_at_call 53; refine (entryOf_any (x := ⟨p, v, k, s⟩) _).mono ?_; rintro e w8 ⟨rfl, b8⟩; have r0 : w8.cell? ⟨w.heap.size, 0, none⟩ = some (.string (ba mp)) := (b8.cell (p := ⟨w.heap.size, 0, none⟩) (lt_of_cell g0)).trans g0; have r1 : w8.cell? ⟨w.heap.size, 1, none⟩ = some (.string (ba mv)) := (b8.cell (p := ⟨w.heap.size, 1, none⟩) (lt_of_cell g1)).trans g1; have r3 : w8.cell? ⟨wr.heap.size, 3, none⟩ = some (.string (ba s)) := (b8.cell (p := ⟨wr.heap.size, 3, none⟩) (lt_of_cell g5)).trans g5; have HB8 : Hid (Below (w.heap.size + 1) W0 w8) := hide ((unhide HBW).drew.trans (b8.mono (unhide HSW))); clear b8))
            all_goals
              go_wp2
              go_roundw
              case rel => exact ⟨i + 1, hlt, by simp, unhide HF, unhide HB8⟩
              case measure => simp [intOf]; omega
        · have HF := hide (hno (fun h => e2 h.2.1))
          have f2 : ((ba v).toList == (ba mv).toList) = false := by rw [ba_list, ba_list]; simpa using e2
          have f1 : ((ba p).toList == (ba mp).toList) = true := by rw [e1]; simp
          clear hy hno e1 e2
          go_wp2
          go_region_with (first
            | (go_at_call 53; refine (entryOf_any (x := ⟨p, v, k, s⟩) _).mono ?_; rintro e w8 ⟨rfl, b8⟩; have r0 : w8.cell? ⟨w.heap.size, 0, none⟩ = some (.string (ba mp)) := (b8.cell (p := ⟨w.heap.size, 0, none⟩) (lt_of_cell g0)).trans g0; have r1 : w8.cell? ⟨w.heap.size, 1, none⟩ = some (.string (ba mv)) := (b8.cell (p := ⟨w.heap.size, 1, none⟩) (lt_of_cell g1)).trans g1; have r3 : w8.cell? ⟨wr.heap.size, 3, none⟩ = some (.string (ba s)) := (b8.cell (p := ⟨wr.heap.size, 3, none⟩) (lt_of_cell g5)).trans g5; have HB8 : Hid (Below (w.heap.size + 1) W0 w8) := hide ((unhide HBW).drew.trans (b8.mono (unhide HSW))); clear b8))
          all_goals
            go_wp2
            go_roundw
            case rel => exact ⟨i + 1, hlt, by simp, unhide HF, unhide HB8⟩
            case measure => simp [intOf]; omega
      · have HF := hide (hno (fun h => e1 h.1))
        have f1 : ((ba p).toList == (ba mp).toList) = false := by rw [ba_list, ba_list]; simpa using e1
        clear hy hno e1
        go_wp2
        go_region_with (first
          | (go_at_call 53; refine (entryOf_any (x := ⟨p, v, k, s⟩) _).mono ?_; rintro e w8 ⟨rfl, b8⟩; have r0 : w8.cell? ⟨w.heap.size, 0, none⟩ = some (.string (ba mp)) := (b8.cell (p := ⟨w.heap.size, 0, none⟩) (lt_of_cell g0)).trans g0; have r1 : w8.cell? ⟨w.heap.size, 1, none⟩ = some (.string (ba mv)) := (b8.cell (p := ⟨w.heap.size, 1, none⟩) (lt_of_cell g1)).trans g1; have r3 : w8.cell? ⟨wr.heap.size, 3, none⟩ = some (.string (ba s)) := (b8.cell (p := ⟨wr.heap.size, 3, none⟩) (lt_of_cell g5)).trans g5; have HB8 : Hid (Below (w.heap.size + 1) W0 w8) := hide ((unhide HBW).drew.trans (b8.mono (unhide HSW))); clear b8))
        all_goals
          go_wp2
          go_roundw
          case rel => exact ⟨i + 1, hlt, by simp, unhide HF, unhide HB8⟩
          case measure => simp [intOf]; omega
    · have hkn : xs.take i = xs := List.take_of_length_le (by rw [unhide HN]; omega)
      rw [hkn] at HF
      clear hkn
      go_wp2
      go_ret2
      rw [unhide HF]
      exact ⟨rfl, (unhide HLO) _ (unhide HL)⟩

end Go.Proofs.YthcafeoamabkgaaGreatDoor
