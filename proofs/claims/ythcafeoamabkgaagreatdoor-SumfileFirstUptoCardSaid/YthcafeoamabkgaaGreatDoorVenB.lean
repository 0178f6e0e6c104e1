/-
  The check of a vendor list: imported.
-/
import Derived.Test.YthcafeoamabkgaaGreatDoorVenA
import Derived.Test.YthcafeoamabkgaaGreatDoorPathB
import Derived.Test.YthcafeoamabkgaaGreatDoorFrontsP
namespace Go.Proofs.YthcafeoamabkgaaGreatDoor

section
open Go.RowKit Go.WideMaps Go.Maps

/-- The check within a module: the set of its packages besides. -/
structure VCk (w0 w : World) (ck M n : Nat) (ms : List Md) (path : Str) (P np : Nat) (pk : List Str) : Prop where
  c : VChk w0 w ck M n ms path (.map (some P))
  p : SetSAt w P np pk
  ne : P ≠ M
  p0 : w0.heap.size ≤ P

theorem VCk.on {w0 w w' : World} {ck M n P np : Nat} {ms : List Md} {path : Str} {pk : List Str} (h : VCk w0 w ck M n ms path P np pk) (b : Below w.heap.size w w') : VCk w0 w' ck M n ms path P np pk :=
  ⟨h.c.on b, h.p.low b, h.ne, h.p0⟩

theorem VCk.add {w0 w w' : World} {ck M n P np np' : Nat} {ms : List Md} {path : Str} {pk pk' : List Str} (h : VCk w0 w ck M n ms path P np pk) (hs : SetSAt w' P np' pk') (b : But P w w') : VCk w0 w' ck M n ms path P np' pk' := by
  have hne : ck ≠ P := fun e => by
    have h1 := h.c.blk
    rw [e] at h1
    exact mapS_not h.p h1
  exact ⟨⟨b.low h.c.low h.c.low.size h.p0, (b.block ck h.c.blk.lt hne).trans h.c.blk, h.c.set.same (b.block M h.c.set.lt (fun e => h.ne e.symm)), h.c.ck0, h.c.m0⟩, hs, h.ne, h.p0⟩

/-- What imported tells. -/
def ImpSaid (w0 : World) (ck M n : Nat) (ms : List Md) (path : Str) (P np : Nat) (pk : List Str) (p : Str) (E : Int) (w : World) (e : Ending) (w' : World) : Prop :=
  e = .returned (.int .i64 E) ∧ (E ≠ 0 → Below w0.heap.size w0 w') ∧ (E = 0 → VCk w0 w' ck M n ms path P (np + 1) (p :: pk) ∧ But P w w')

set_option maxRecDepth 100000 in
set_option maxHeartbeats 4000000 in
/-- imported, of the check. -/
theorem imported_any {w0 w : World} {ck M n P np : Nat} {ms : List Md} {path p : Str} {pk : List Str} (hg : Gd w0) (h : VCk w0 w ck M n ms path P np pk) (hp : p.length < 4294967281) (hpa : path.length < 4294967281) (hn : np ≤ 1000000) :
    Calls Tryz.prog 99 #[.pointer (some ⟨ck, 0, none⟩), .string (ba p)] w (ImpSaid w0 ck M n ms path P np pk p (impE path pk p) w) := by
  obtain ⟨C, hC⟩ : ∃ C, importR p = C := ⟨_, rfl⟩
  have HC := hide (import_is hC hp (hg.low h.c.low))
  obtain ⟨E, hE⟩ : ∃ E, impE path pk p = E := ⟨_, rfl⟩
  have HE : Hid (E = if C ≠ 0 then (C : Int) else if p ≠ path ∧ Lib.hasPrefix p (path ++ [47]) = false then 15 else if p ∈ pk then 12 else 0) := hide (by rw [← hE, ← hC]; rfl)
  rw [hE]
  have H := hide h
  have hsz1 : (ba p).size = p.length := ba_size p
  have hsz2 : (ba path).size = path.length := ba_size path
  clear hC hE h
  go_enter Tryz.func99, Tryz.ntmps99
  go_wp2_with (go_at_call 143; fail)
  refine (unhide HC).mono ?_
  rintro e w1 ⟨rfl, b1⟩
  have H1 := hide ((unhide H).on b1.low)
  have B1 := hide (But.of b1.low : But P w w1)
  clear b1
  by_cases hc0 : C = 0
  · have hcz : ((C : Int) != 0) = false := by rw [hc0]; rfl
    have hcz2 : (C : Int) = 0 := by omega
    have HE2 : Hid (E = if p ≠ path ∧ Lib.hasPrefix p (path ++ [47]) = false then 15 else if p ∈ pk then 12 else 0) := hide (by rw [unhide HE, if_neg (by omega)])
    have c1 : w1.cell? ⟨ck, 1, none⟩ = some (.string (ba path)) := (unhide H1).c.blk.cell 1
    have c2 : w1.cell? ⟨ck, 2, none⟩ = some (.map (some P)) := (unhide H1).c.blk.cell 2
    have HS := hide (hasS_any (unhide H1).p (x := p) (by unfold maxLen; omega))
    have j1 : ba path ++ ⟨#[47]⟩ = ba (path ++ [47]) := ba_app path [47]
    have HPX := Tryz.strings_HasPrefix (ba p) (ba (path ++ [47])) w1
    rw [ba_data, ba_data] at HPX
    obtain ⟨hpx, hhx⟩ : ∃ b, Lib.hasPrefix p (path ++ [47]) = b := ⟨_, rfl⟩
    rw [hhx] at HE2 HPX
    have HPZ := hide HPX
    clear HPX
    clear hhx hc0
    by_cases hpe : p = path
    · have hq1 : (ba p).toList = (ba path).toList := by rw [hpe]
      have hq2 : ((ba p).toList == (ba path).toList) = true := by rw [hpe]; exact beq_self_eq_true _
      have HPE := hide hpe
      clear hpe
      go_wp2_with (go_at_call 144; fail)
      refine (unhide HS).mono ?_
      rintro e w2 ⟨rfl, b2⟩
      have H2 := hide ((unhide H1).on b2)
      have B2 := hide ((unhide B1).trans (But.of b2))
      have d2 : w2.cell? ⟨ck, 2, none⟩ = some (.map (some P)) := (unhide H2).c.blk.cell 2
      have HA := hide (addS_any (unhide H2).p (x := p) (by unfold maxLen; omega) (by omega))
      have HE3 : Hid (E = if p ∈ pk then 12 else 0) := hide (by rw [unhide HE2, if_neg (by intro h; exact h.1 (unhide HPE))])
      clear b2
      by_cases hin : p ∈ pk
      · have HF : Hid (E = 12) := hide (by rw [unhide HE3, if_pos hin])
        have hd : decide (p ∈ pk) = true := decide_eq_true hin
        rw [hd]
        clear hin hd
        go_wp2
        go_ret
        rw [unhide HF]
        exact ⟨rfl, fun _ => (unhide H2).c.low, fun h => by cases h⟩
      · have HF : Hid (E = 0) := hide (by rw [unhide HE3, if_neg hin])
        have hd : decide (p ∈ pk) = false := decide_eq_false hin
        rw [hd]
        clear hin hd
        go_wp2_with (go_at_call 145; fail)
        refine (unhide HA).mono ?_
        rintro e w3 ⟨rfl, s3, b3⟩
        have HFIN := hide ((unhide H2).add s3 b3)
        have B3 := hide ((unhide B2).trans b3)
        clear s3 b3
        go_wp2
        go_ret
        rw [unhide HF]
        exact ⟨rfl, fun h => absurd rfl h, fun _ => ⟨unhide HFIN, unhide B3⟩⟩
    · have hq1 : ¬ (ba p).toList = (ba path).toList := by rw [ba_list, ba_list]; exact hpe
      have hq2 : ((ba p).toList == (ba path).toList) = false := by rw [ba_list, ba_list, beq_eq_false_iff_ne]; exact hpe
      have HPE := hide hpe
      clear hpe
      go_wp2_with (go_at_call 106; fail)
      refine (unhide HPZ).mono ?_
      rintro e w1b ⟨rfl, hw⟩
      rw [hw]
      clear hw w1b
      cases hpx with
      | true =>
        go_wp2_with (go_at_call 144; fail)
        refine (unhide HS).mono ?_
        rintro e w2 ⟨rfl, b2⟩
        have H2 := hide ((unhide H1).on b2)
        have B2 := hide ((unhide B1).trans (But.of b2))
        have d2 : w2.cell? ⟨ck, 2, none⟩ = some (.map (some P)) := (unhide H2).c.blk.cell 2
        have HA := hide (addS_any (unhide H2).p (x := p) (by unfold maxLen; omega) (by omega))
        have HE3 : Hid (E = if p ∈ pk then 12 else 0) := hide (by rw [unhide HE2, if_neg (by simp)])
        clear b2
        by_cases hin : p ∈ pk
        · have HF : Hid (E = 12) := hide (by rw [unhide HE3, if_pos hin])
          have hd : decide (p ∈ pk) = true := decide_eq_true hin
          rw [hd]
          clear hin hd
          go_wp2
          go_ret
          rw [unhide HF]
          exact ⟨rfl, fun _ => (unhide H2).c.low, fun h => by cases h⟩
        · have HF : Hid (E = 0) := hide (by rw [unhide HE3, if_neg hin])
          have hd : decide (p ∈ pk) = false := decide_eq_false hin
          rw [hd]
          clear hin hd
          go_wp2_with (go_at_call 145; fail)
          refine (unhide HA).mono ?_
          rintro e w3 ⟨rfl, s3, b3⟩
          have HFIN := hide ((unhide H2).add s3 b3)
          have B3 := hide ((unhide B2).trans b3)
          clear s3 b3
          go_wp2
          go_ret
          rw [unhide HF]
          exact ⟨rfl, fun h => absurd rfl h, fun _ => ⟨unhide HFIN, unhide B3⟩⟩
      | false =>
        have HF : Hid (E = 15) := hide (by rw [unhide HE2, if_pos ⟨unhide HPE, rfl⟩])
        go_wp2
        go_ret
        rw [unhide HF]
        exact ⟨rfl, fun _ => (unhide H1).c.low, fun h => by cases h⟩
  · have hcz : ((C : Int) != 0) = true := by simpa using hc0
    have HF : Hid (E = (C : Int)) := hide (by rw [unhide HE, if_pos hc0])
    go_wp2
    go_ret
    rw [unhide HF]
    exact ⟨rfl, fun _ => (unhide H1).c.low, fun h => absurd h (by omega)⟩
end

end Go.Proofs.YthcafeoamabkgaaGreatDoor
