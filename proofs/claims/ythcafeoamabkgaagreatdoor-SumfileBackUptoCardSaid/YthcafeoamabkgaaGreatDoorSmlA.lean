/-
  small: whether a vendor list that came in is small.
-/
import Derived.Test.YthcafeoamabkgaaGreatDoorVfX
import Derived.Test.YthcafeoamabkgaaGreatDoorOpenV
import Derived.Deep.QuietTactic
namespace Go.Proofs.YthcafeoamabkgaaGreatDoor
open Go.RowKit

theorem RowS.at {w : World} {a : Option Addr} {ps : List Str} (h : RowS w a ps) {k : Nat} (hk : k < ps.length) : ∃ B O, a = some ⟨B, O, none⟩ ∧ w.cell? ⟨B, O + k, none⟩ = some (.string (ba ps[k])) := by
  rcases h with rfl | ⟨B, O, e, _, h⟩
  · cases hk
  · exact ⟨B, O, e, h k hk⟩

/-- What small answers. -/
def SmallSaid (m : Nat) (zs : List VE) (e : Ending) : Prop := ∃ r, e = .returned (.bool r) ∧ (r = true → m ≤ 60 ∧ ∀ z ∈ zs, z.1.pk.length ≤ 60)

set_option maxRecDepth 100000 in
set_option maxHeartbeats 4000000 in
theorem small_any {w : World} {b : Option Addr} {m c N : Nat} {zs : List VE} (hm : zs.length = m) (h : RowV w b zs) (hk : ∀ z ∈ zs, VdIn w z N) (hN : N ≤ 1048576) :
    Calls Tryz.prog 13 #[.slice b m c] w fun e w' => SmallSaid m zs e ∧ ∃ q, w' = w.drewN q := by
  have HM := hide hm
  have H := hide h
  have HK := hide hk
  clear hm h hk
  go_enter Tryz.func13, Tryz.ntmps13
  go_wp2
  go_loopw [3, 4, 5] (fun s i _ wr => ∃ (k nr : Nat) (t : Int), k ≤ m ∧ k ≤ 61 ∧ i = .int .i64 k ∧ s = .int .i64 t ∧ 0 ≤ t ∧ t ≤ 16000 ∧ (∀ z ∈ zs.take k, z.1.pk.length ≤ 60) ∧ wr = w.drewN nr) (fun _ i _ _ => m - (intOf i).toNat)
  case atStart => exact ⟨0, 0, 0, Nat.zero_le _, Nat.zero_le _, rfl, rfl, by omega, by omega, (fun z hz => by cases hz), rfl⟩
  case round =>
    obtain ⟨k, nr, t, hk, hk3, rfl, rfl, ht0, ht1, hall, hwr⟩ := hrel
    have HWR := hide hwr
    have HALL := hide hall
    clear hall
    by_cases hlt : k < m
    · by_cases hlt3 : k ≤ 60
      · have hkt : k < zs.length := by rw [unhide HM]; exact hlt
        obtain ⟨B, O, rfl, m1, m2, m3, m4⟩ := (unhide H).at hkt
        have hin := unhide HK _ (List.getElem_mem hkt)
        have htk : zs.take (k + 1) = zs.take k ++ [zs[k]] := List.take_succ_eq_append_getElem hkt
        obtain ⟨z, hz⟩ : ∃ z, zs[k] = z := ⟨_, rfl⟩
        rw [hz] at m1 m2 m3 m4 hin htk
        obtain ⟨⟨⟨p, v⟩, x, pk⟩, az, nz, cz⟩ := z
        obtain ⟨q1, q2, q3, q4, q5, q6⟩ := hin
        simp only at m1 m2 m3 m4 q1 q2 q3 q4 q5 q6
        have l1 : wr.cell? ⟨B, O + k * 4, none⟩ = some (.string (ba p)) := by rw [hwr]; exact m1
        have l2 : wr.cell? ⟨B, O + k * 4 + 1, none⟩ = some (.string (ba v)) := by rw [hwr]; exact m2
        have l3 : wr.cell? ⟨B, O + k * 4 + 3, none⟩ = some (.slice az nz cz) := by rw [hwr]; exact m4
        have hlt3' : (k : Int) ≤ 60 := by omega
        have hp1 := ba_size p
        have hv1 := ba_size v
        have HTK := hide htk
        have HQ3 := hide q3
        have HQ1 := hide q1
        have HQ6 := hide q6
        have HM4 := hide m4
        clear hz hwr q1 q3 q6 q2 m1 m2 m3 m4 htk
        by_cases h60 : nz ≤ 60
        · have h60' : ¬ (60 : Int) < (nz : Int) := by omega
          go_wp2
          go_quiet (fail)
          go_wp2
          go_loopw [3, 5] (fun s j wq => ∃ (i nq : Nat) (t : Int), i ≤ nz ∧ j = .int .i64 i ∧ s = .int .i64 t ∧ 0 ≤ t ∧ t ≤ 16000 ∧ wq = w.drewN nq) (fun _ j _ => nz - (intOf j).toNat)
          case atStart => exact ⟨0, nr + nq, _, Nat.zero_le _, rfl, rfl, by omega, by omega, by rw [unhide HWR, World.drewN_drewN]⟩
          case round =>
            rename World => wq
            rename_i ht0b ht1b
            obtain ⟨i, ni, t2, hi, rfl, rfl, hs0, hs1, hwq⟩ := hrel
            have HWQ := hide hwq
            have l5 : wq.cell? ⟨B, O + k * 4 + 3, none⟩ = some (.slice az nz cz) := by rw [hwq]; exact unhide HM4
            by_cases hlt2 : i < nz
            · have hit : i < pk.length := by rw [unhide HQ1]; exact hlt2
              obtain ⟨B2, O2, rfl, hc⟩ := (unhide HQ3).at hit
              have l6 : wq.cell? ⟨B2, O2 + i, none⟩ = some (.string (ba pk[i])) := by rw [hwq]; exact hc
              have hsl := unhide HQ6 pk[i] (List.getElem_mem hit)
              obtain ⟨q, hq⟩ : ∃ q, pk[i] = q := ⟨_, rfl⟩
              rw [hq] at l6 hsl
              have hqs := ba_size q
              clear hq hc hwq
              go_wp2
              go_roundw
              case rel => exact ⟨i + 1, ni, _, hlt2, by simp, rfl, by omega, by omega, unhide HWQ⟩
              case measure => simp [intOf]; omega
            · clear hwq
              go_wp2
              go_roundw
              case rel => exact ⟨k + 1, ni, t2, hlt, by omega, by simp, rfl, hs0, hs1, (fun z hz => by
                rw [unhide HTK] at hz
                rcases List.mem_append.1 hz with hz | hz
                · exact unhide HALL z hz
                · rw [List.mem_singleton] at hz
                  subst hz
                  show pk.length ≤ 60
                  rw [unhide HQ1]
                  exact h60), unhide HWQ⟩
              case measure => simp [intOf]; omega
        · have h60' : (60 : Int) < (nz : Int) := by omega
          go_wp2
          go_quiet (fail)
          go_wp2
          go_ret
          exact ⟨⟨false, rfl, fun h => by cases h⟩, nr + nq, by rw [unhide HWR, World.drewN_drewN]⟩
      · have hk' : k = 61 := by omega
        subst hk'
        clear hwr
        have hn3 : ¬ (m : Int) ≤ 60 := by omega
        go_wp2
        go_ret
        exact ⟨⟨false, rfl, fun h => by cases h⟩, nr, unhide HWR⟩
    · have hkn : k = m := by omega
      subst hkn
      clear hwr
      have hfin : zs.take k = zs := List.take_of_length_le (by rw [unhide HM]; omega)
      have HF : Hid (∀ z ∈ zs, z.1.pk.length ≤ 60) := hide (by rw [← hfin]; exact unhide HALL)
      clear hfin
      by_cases h100 : k ≤ 60
      · have h100' : (k : Int) ≤ 60 := by omega
        go_wp2
        all_goals
          go_ret
          exact ⟨⟨_, rfl, fun _ => ⟨h100, unhide HF⟩⟩, nr, unhide HWR⟩
      · have h100' : ¬ (k : Int) ≤ 60 := by omega
        go_wp2
        all_goals
          go_ret
          exact ⟨⟨false, rfl, fun h => by cases h⟩, nr, unhide HWR⟩

end Go.Proofs.YthcafeoamabkgaaGreatDoor
