/-
  How a list of operations lies in memory; the contract of Few.
-/
import Derived.Test.YtbdbobikiikbgaaDoorBudget
namespace Go.Proofs.YtbdbobikiikbgaaDoor
open Go.RowKit Go.WideMaps Go.Maps Go.Sort

/-- An operation's six cells. -/
structure OpAt (w : World) (B x : Nat) (o : AOp) : Prop where
  kind : w.cell? ⟨B, x, none⟩ = some (.int .i64 o.kind)
  n : w.cell? ⟨B, x + 1, none⟩ = some (.int .i64 o.n)
  m : w.cell? ⟨B, x + 2, none⟩ = some (.int .i64 o.m)
  name : w.cell? ⟨B, x + 3, none⟩ = some (.string o.name)
  tgt : w.cell? ⟨B, x + 4, none⟩ = some (.string o.tgt)
  b : w.cell? ⟨B, x + 5, none⟩ = some (.slice o.ba o.b.length o.bc)
  by_ : Bytes w o.ba o.b.length o.b
  nil : o.ba = none → o.bc = 0
  nameLe : o.name.size ≤ 1048576
  tgtLe : o.tgt.size ≤ 1048576
  bLe : o.b.length ≤ 1048576
  nLe : o.n ≤ 9223372036854775807

def OpsAt (w : World) (a : Option Addr) (ops : List AOp) : Prop := ∀ i o, ops[i]? = some o → ∃ B x, a = some ⟨B, x, none⟩ ∧ OpAt w B (x + i * 6) o

/-- What Few answers. -/
def FewSaid (n : Nat) (e : Ending) : Prop := ∃ r, e = .returned (.bool r) ∧ (r = true → n ≤ 300)

set_option maxRecDepth 100000 in
set_option maxHeartbeats 2000000 in
theorem few_any {w : World} {a : Option Addr} {n c : Nat} {ops : List AOp} (hn : n = ops.length) (hc : n ≤ c) (hm : n ≤ 9223372036854775807) (h : OpsAt w a ops) :
    Calls Tryd.prog 10 #[.slice a n c] w fun e w' => FewSaid n e ∧ ∃ nq, w' = w.drewN nq := by
  have HN := hide hn
  have H := hide h
  clear hn h
  go_enter Tryd.func10, Tryd.ntmps10
  go_wp2
  go_loopw [3, 4] (fun s i wr => ∃ (k nr : Nat) (m : Int), k ≤ n ∧ k ≤ 300 ∧ i = .int .i64 k ∧ s = .int .i64 m ∧ 0 ≤ m ∧ m ≤ 40000 ∧ wr = w.drewN nr) (fun _ i _ => n - (intOf i).toNat)
  case atStart => exact ⟨0, 0, 0, Nat.zero_le _, Nat.zero_le _, rfl, rfl, by omega, by omega, rfl⟩
  case round =>
    obtain ⟨k, nr, m, hk, hk3, rfl, rfl, hm0, hm1, hwr⟩ := hrel
    have HWR := hide hwr
    by_cases hlt : k < n
    · by_cases hlt3 : k < 300
      · obtain ⟨o, ho⟩ : ∃ o, ops[k]? = some o := ⟨ops[k]'(by rw [← unhide HN]; exact hlt), by simp⟩
        obtain ⟨B, x, rfl, ha⟩ := unhide H k o ho
        have m1 : wr.cell? ⟨B, x + k * 6 + 3, none⟩ = some (.string o.name) := by rw [hwr]; exact ha.name
        have m2 : wr.cell? ⟨B, x + k * 6 + 4, none⟩ = some (.string o.tgt) := by rw [hwr]; exact ha.tgt
        have m3 : wr.cell? ⟨B, x + k * 6 + 5, none⟩ = some (.slice o.ba o.b.length o.bc) := by rw [hwr]; exact ha.b
        have l1 : (o.name.size : Int) ≤ 1048576 := by have := ha.nameLe; omega
        have l2 : (o.tgt.size : Int) ≤ 1048576 := by have := ha.tgtLe; omega
        have l3 : (o.b.length : Int) ≤ 1048576 := by have := ha.bLe; omega
        clear ha ho hwr
        go_wp2
        go_quiet (fail)
        go_wp2
        go_roundw
        case rel => exact ⟨k + 1, nr + nq, _, by omega, by omega, by go_num, rfl, by omega, by omega, by rw [unhide HWR, World.drewN_drewN]⟩
        case measure => simp [intOf]; omega
      · have hk' : k = 300 := by omega
        subst hk'
        clear hwr
        have hn3 : (300 : Int) < (n : Int) := by omega
        go_wp2
        go_ret
        exact ⟨⟨false, rfl, fun h => by cases h⟩, nr, unhide HWR⟩
    · have hkn : k = n := by omega
      subst hkn
      clear hwr
      go_wp2
      all_goals
        go_ret
        exact ⟨⟨_, rfl, fun _ => hk3⟩, nr, unhide HWR⟩

end Go.Proofs.YtbdbobikiikbgaaDoor
