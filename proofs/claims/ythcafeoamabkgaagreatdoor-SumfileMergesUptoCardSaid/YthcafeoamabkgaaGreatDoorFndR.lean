/-
  The reference's Find and Keep: the contracts.
-/
import Derived.Test.YthcafeoamabkgaaGreatDoorOrdA
import Derived.Test.YthcafeoamabkgaaGreatDoorFind
import Derived.Test.YthcafeoamabkgaaGreatDoorKeepM
import Derived.BigQuiet
namespace Go.Proofs.YthcafeoamabkgaaGreatDoor
open Go.RowKit

/-- Two lines' modules: alike, or where they part first. -/
theorem mod_part (p v p' v' : Str) :
    (p = p' ∧ v = v' ∧ ((ba p).toList == (ba p').toList) = true ∧ ((ba v).toList == (ba v').toList) = true) ∨
    (¬ p = p' ∧ ((ba p).toList == (ba p').toList) = false) ∨
    (p = p' ∧ ¬ v = v' ∧ ((ba p).toList == (ba p').toList) = true ∧ ((ba v).toList == (ba v').toList) = false) := by
  simp only [ba_list]
  by_cases h1 : p = p'
  · by_cases h2 : v = v'
    · exact Or.inl ⟨h1, h2, by simp [h1], by simp [h2]⟩
    · exact Or.inr (Or.inr ⟨h1, h2, by simp [h1], by simpa using h2⟩)
  · exact Or.inr (Or.inl ⟨h1, by simpa using h1⟩)

set_option maxRecDepth 100000 in
set_option maxHeartbeats 4000000 in
theorem refFind_any {w : World} {a : Option Addr} {n c : Nat} {xs : List Ln} {mp mv : Str} {kk : Int} (hn : xs.length = n) (hN : n ≤ 1000000) (h : LRow w a xs) :
    Calls Tryz.prog 29 #[.slice a n c, .agg #[.string (ba mp), .string (ba mv)], .int .i64 kk] w fun e w' => e = .returned (findV (findR xs mp mv kk)) ∧ Below w.heap.size w w' := by
  obtain ⟨W0, hW0⟩ : ∃ W0, w.alloc (.cells #[.string (ba mp), .string (ba mv)] 36) = W0 := ⟨_, rfl⟩
  have b0 : Below w.heap.size w W0 := by rw [← hW0]; exact (Below.refl _ _).alloc (Nat.le_refl _) _
  have k0 : Blk W0 w.heap.size #[.string (ba mp), .string (ba mv)] 36 := by rw [← hW0]; exact Blk.new _ _ _
  have H0 : LRow W0 a xs := h.low b0
  have g0 : W0.cell? ⟨w.heap.size, 0, none⟩ = some (.string (ba mp)) := k0.cell 0
  have g1 : W0.cell? ⟨w.heap.size, 1, none⟩ = some (.string (ba mv)) := k0.cell 1
  have HN := hide hn
  have H := hide H0
  have HB := hide b0
  have HW0 := hide hW0
  clear hn h H0 k0 hW0 b0
  go_enter Tryz.func29, Tryz.ntmps29
  go_wp2
  rw [unhide HW0]
  go_loopw [8] (fun v8 wr => ∃ i q : Nat, i ≤ n ∧ v8 = .int .i64 i ∧ findR (xs.take i) mp mv kk = none ∧ wr = W0.drewN q) (fun v8 _ => n - (intOf v8).toNat)
  case atStart => exact ⟨0, 0, Nat.zero_le _, rfl, rfl, rfl⟩
  case round =>
    rename World => wr
    obtain ⟨i, q, hi, rfl, hf, hwr⟩ := hrel
    have HF := hide hf
    have HW := hide hwr
    clear hf
    by_cases hlt : i < n
    · have hit : i < xs.length := by rw [unhide HN]; exact hlt
      obtain ⟨B, O, rfl, he⟩ : ∃ B O, a = some ⟨B, O, none⟩ ∧ ∀ k (hk : k < xs.length), LnAt W0 B (O + k * 4) xs[k] := by
        rcases (unhide H).els with h | h
        · rw [h] at hit; simp at hit
        · exact h
      have ha := he i hit
      have hy := find_yes (mp := mp) (mv := mv) (kk := kk) hit (unhide HF)
      have hno := find_no (mp := mp) (mv := mv) (kk := kk) hit (unhide HF)
      obtain ⟨x, hx⟩ : ∃ x, xs[i] = x := ⟨_, rfl⟩
      rw [hx] at ha hy hno
      obtain ⟨p, v, k, s⟩ := x
      simp only at ha hy hno
      obtain ⟨m1, m2, m3, m4⟩ := ha
      have q1 : wr.cell? ⟨B, O + i * 4, none⟩ = some (.string (ba p)) := by rw [hwr]; exact m1
      have q2 : wr.cell? ⟨B, O + i * 4 + 1, none⟩ = some (.string (ba v)) := by rw [hwr]; exact m2
      have q3 : wr.cell? ⟨B, O + i * 4 + 2, none⟩ = some (.int .i64 k) := by rw [hwr]; exact m3
      have q4 : wr.cell? ⟨B, O + i * 4 + 3, none⟩ = some (.string (ba s)) := by rw [hwr]; exact m4
      have q5 : wr.cell? ⟨w.heap.size, 0, none⟩ = some (.string (ba mp)) := by rw [hwr]; exact g0
      have q6 : wr.cell? ⟨w.heap.size, 1, none⟩ = some (.string (ba mv)) := by rw [hwr]; exact g1
      clear he hx m1 m2 m3 m4 HF hwr
      rcases mod_part p v mp mv with ⟨e1, e2, f1, f2⟩ | ⟨e1, f1⟩ | ⟨e1, e2, f1, f2⟩
      · by_cases e3 : k = kk
        · have HF := hide (hy ⟨e1, e2, e3⟩)
          have f3 : (k == kk) = true := by rw [e3]; simp
          clear hy hno e1 e2 e3
          go_wp2
          go_quiet (fail)
          go_wp2
          go_ret2
          rw [unhide HF]
          exact ⟨rfl, by rw [unhide HW]; exact low_drewN (low_drewN (unhide HB) _) _⟩
        · have HF := hide (hno (fun h => e3 h.2.2))
          have f3 : (k == kk) = false := by simpa using e3
          clear hy hno e1 e2 e3
          go_wp2
          go_quiet (fail)
          go_wp2
          go_roundw
          case rel => exact ⟨i + 1, q + nq, hlt, by simp, unhide HF, by rw [unhide HW, World.drewN_drewN]⟩
          case measure => simp [intOf]; omega
      · have HF := hide (hno (fun h => e1 h.1))
        clear hy hno e1
        go_wp2
        go_quiet (fail)
        go_wp2
        go_roundw
        case rel => exact ⟨i + 1, q + nq, hlt, by simp, unhide HF, by rw [unhide HW, World.drewN_drewN]⟩
        case measure => simp [intOf]; omega
      · have HF := hide (hno (fun h => e2 h.2.1))
        clear hy hno e1 e2
        go_wp2
        go_quiet (fail)
        go_wp2
        go_roundw
        case rel => exact ⟨i + 1, q + nq, hlt, by simp, unhide HF, by rw [unhide HW, World.drewN_drewN]⟩
        case measure => simp [intOf]; omega
    · have hkn : xs.take i = xs := List.take_of_length_le (by rw [unhide HN]; omega)
      rw [hkn] at HF
      clear hkn hwr
      go_wp2
      go_ret2
      rw [unhide HF]
      exact ⟨rfl, by rw [unhide HW]; exact low_drewN (unhide HB) _⟩

set_option maxRecDepth 100000 in
set_option maxHeartbeats 4000000 in
theorem refKeep_any {w : World} {a b : Option Addr} {n m c d : Nat} {xs : List Ln} {ms : List Md} (hn : xs.length = n) (hm : ms.length = m) (hN : n ≤ 1000000) (hM : m ≤ 1000000) (hx : LRow w a xs) (hy : MRow w b ms) :
    Calls Tryz.prog 31 #[.slice a n c, .slice b m d] w fun e w' => ∃ v, e = .returned v ∧ RLines w.heap.size w' v (keepR ms xs) ∧ Below w.heap.size w w' := by
  have HN := hide hn
  have HM := hide hm
  have HX := hide hx
  have HY := hide hy
  clear hn hm hx hy
  go_enter Tryz.func31, Tryz.ntmps31
  go_wp2
  go_loopw [5, 6, 7] (fun v5 v6 _ wr => ∃ i : Nat, i ≤ n ∧ v6 = .int .i64 i ∧ RLines w.heap.size wr v5 (keepR ms (xs.take i)) ∧ Below w.heap.size w wr) (fun _ v6 _ _ => n - (intOf v6).toNat)
  case atStart => exact ⟨0, Nat.zero_le _, rfl, rlines_nil _ _, Below.refl _ _⟩
  case round =>
    rename World => wr
    obtain ⟨i, hi, rfl, hrow, hlow⟩ := hrel
    have HR := hide hrow
    have HL := hide hlow
    clear hrow hlow
    by_cases hlt : i < n
    · have hit : i < xs.length := by rw [unhide HN]; exact hlt
      obtain ⟨B, O, rfl, he⟩ : ∃ B O, a = some ⟨B, O, none⟩ ∧ ∀ k (hk : k < xs.length), LnAt wr B (O + k * 4) xs[k] := by
        rcases ((unhide HX).low (unhide HL)).els with h | h
        · rw [h] at hit; simp at hit
        · exact h
      have ha := he i hit
      have hyes := keepR_yes (ms := ms) hit
      have hno := keepR_no (ms := ms) hit
      have hlen : (keepR ms (xs.take i)).length ≤ i := Nat.le_trans (List.length_filter_le _ _) (by rw [List.length_take]; omega)
      obtain ⟨x, hx⟩ : ∃ x, xs[i] = x := ⟨_, rfl⟩
      rw [hx] at ha hyes hno
      have HA := hide ha
      clear he hx ha
      go_wp2
      go_loopw [5, 7] (fun v5 v7 wq => ∃ j q : Nat, j ≤ m ∧ v7 = .int .i64 j ∧ ¬ (x.p, x.v) ∈ ms.take j ∧ wq = wr.drewN q ∧ RLines w.heap.size wr v5 (keepR ms (xs.take i))) (fun _ v7 _ => m - (intOf v7).toNat)
      case atStart => exact ⟨0, 0, Nat.zero_le _, rfl, by simp, rfl, unhide HR⟩
      case round =>
        rename World => wq
        obtain ⟨j, q, hj, rfl, hnot, hwq, hrow⟩ := hrel
        clear HR
        have HR := hide hrow
        clear hrow
        have HNO := hide hnot
        have HQ := hide hwq
        clear hnot
        by_cases hjm : j < m
        · have hjt : j < ms.length := by rw [unhide HM]; exact hjm
          obtain ⟨Y, Z, rfl, hz⟩ : ∃ Y Z, b = some ⟨Y, Z, none⟩ ∧ ∀ k (hk : k < ms.length), wr.cell? ⟨Y, Z + k * 2, none⟩ = some (.string (ba ms[k].1)) ∧ wr.cell? ⟨Y, Z + k * 2 + 1, none⟩ = some (.string (ba ms[k].2)) := by
            rcases ((unhide HY).low (unhide HL)).els with h | h
            · rw [h] at hjt; simp at hjt
            · exact h
          have hzj := hz j hjt
          have hnx : (x.p, x.v) ∈ ms.take (j + 1) ↔ (x.p, x.v) ∈ ms.take j ∨ (x.p, x.v) = ms[j] := by
            rw [List.take_add_one, List.getElem?_eq_getElem hjt, List.mem_append]
            simp
          have hmem : ms[j] ∈ ms := List.getElem_mem hjt
          obtain ⟨y, hy⟩ : ∃ y, ms[j] = y := ⟨_, rfl⟩
          rw [hy] at hzj hnx hmem
          obtain ⟨y1, y2⟩ := y
          obtain ⟨m1, m2, m3, m4⟩ := unhide HA
          have q1 : wq.cell? ⟨B, O + i * 4, none⟩ = some (.string (ba x.p)) := by rw [hwq]; exact m1
          have q2 : wq.cell? ⟨B, O + i * 4 + 1, none⟩ = some (.string (ba x.v)) := by rw [hwq]; exact m2
          have q5 : wq.cell? ⟨Y, Z + j * 2, none⟩ = some (.string (ba y1)) := by rw [hwq]; exact hzj.1
          have q6 : wq.cell? ⟨Y, Z + j * 2 + 1, none⟩ = some (.string (ba y2)) := by rw [hwq]; exact hzj.2
          clear hz hzj hy hwq m1 m2 m3 m4
          rcases mod_part y1 y2 x.p x.v with ⟨e1, e2, f1, f2⟩ | ⟨e1, f1⟩ | ⟨e1, e2, f1, f2⟩
          · have HK := hide (hyes (by rw [e1, e2] at hmem; exact hmem))
            clear hmem hnx hyes hno e1 e2
            go_wp2
            go_quiet (fail)
            obtain ⟨W, hW⟩ : ∃ W, wq.drewN nq = W := ⟨_, rfl⟩
            have bW : Below wr.heap.size wr W := by rw [← hW, unhide HQ]; exact low_drewN (low_drewN (Below.refl _ _) _) _
            have hRW : RLines w.heap.size W u5 (keepR ms (xs.take i)) := by rw [← hW, unhide HQ]; exact row_drewN (row_drewN (unhide HR) _) _
            rw [hW]
            obtain ⟨v', w', happ, hown, hb⟩ := rapp_one (x := x) hRW (low_trans (unhide HL) bW).size (by omega)
            have HD : Hid (RLines w.heap.size w' v' (keepR ms (xs.take (i + 1))) ∧ Below w.heap.size w w') := hide ⟨by rw [unhide HK]; exact hown, (low_trans (unhide HL) bW).trans hb⟩
            obtain ⟨n1, n2, n3, n4⟩ : LnAt W B (O + i * 4) x := by
              obtain ⟨m1, m2, m3, m4⟩ := unhide HA
              exact ⟨(bW.cell (lt_of_cell m1)).trans m1, (bW.cell (lt_of_cell m2)).trans m2, (bW.cell (lt_of_cell m3)).trans m3, (bW.cell (lt_of_cell m4)).trans m4⟩
            clear hW bW hRW hown hb HK q1 q2 q5 q6
            obtain ⟨xp, xv, xk, xz⟩ := x
            simp only at n1 n2 n3 n4 happ f1 f2
            go_wp2_with (at_builtin; refine Lib.wpList_append_run _ rfl _ _ _ _ rfl _ _ rfl rfl _ _ happ ?_)
            go_roundw
            case rel => exact ⟨i + 1, hlt, by simp, (unhide HD).1, (unhide HD).2⟩
            case measure => simp [intOf]; omega
          · have HNX : Hid (¬ (x.p, x.v) ∈ ms.take (j + 1)) := hide (fun h => by
              rcases hnx.1 h with h | h
              · exact unhide HNO h
              · simp at h; exact e1 h.1.symm)
            clear hmem hnx hyes hno e1
            go_wp2
            go_quiet (fail)
            go_wp2
            go_roundw
            case rel => exact ⟨j + 1, q + nq, hjm, by simp, unhide HNX, by rw [unhide HQ, World.drewN_drewN], unhide HR⟩
            case measure => simp [intOf]; omega
          · have HNX : Hid (¬ (x.p, x.v) ∈ ms.take (j + 1)) := hide (fun h => by
              rcases hnx.1 h with h | h
              · exact unhide HNO h
              · simp at h; exact e2 h.2.symm)
            clear hmem hnx hyes hno e1 e2
            go_wp2
            go_quiet (fail)
            go_wp2
            go_roundw
            case rel => exact ⟨j + 1, q + nq, hjm, by simp, unhide HNX, by rw [unhide HQ, World.drewN_drewN], unhide HR⟩
            case measure => simp [intOf]; omega
        · have hall : ms.take j = ms := List.take_of_length_le (by rw [unhide HM]; omega)
          have HK : Hid (keepR ms (xs.take (i + 1)) = keepR ms (xs.take i)) := hide (hno (by have := unhide HNO; rwa [hall] at this))
          have HD : Hid (RLines w.heap.size wq u5 (keepR ms (xs.take (i + 1))) ∧ Below w.heap.size w wq) := hide ⟨by rw [unhide HK, unhide HQ]; exact row_drewN (unhide HR) _, by rw [unhide HQ]; exact low_drewN (unhide HL) _⟩
          clear hall hwq hyes hno
          go_wp2
          go_roundw
          case rel => exact ⟨i + 1, hlt, by simp, (unhide HD).1, (unhide HD).2⟩
          case measure => simp [intOf]; omega
    · have hkn : xs.take i = xs := List.take_of_length_le (by rw [unhide HN]; omega)
      rw [hkn] at HR
      clear hkn
      go_wp2
      go_ret
      exact ⟨_, rfl, unhide HR, unhide HL⟩

end Go.Proofs.YthcafeoamabkgaaGreatDoor
