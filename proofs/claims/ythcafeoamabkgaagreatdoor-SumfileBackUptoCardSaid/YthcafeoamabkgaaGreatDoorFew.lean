/-
  Lists of lines that came in; few.
-/
import Derived.Test.YthcafeoamabkgaaGreatDoorSortX
import Derived.Deep.QuietTactic
namespace Go.Proofs.YthcafeoamabkgaaGreatDoor
open Go.RowKit

/-- The cells of a line. -/
abbrev LnAt (w : World) (B o : Nat) (x : Ln) : Prop := w.cell? ⟨B, o, none⟩ = some (.string (ba x.p)) ∧ w.cell? ⟨B, o + 1, none⟩ = some (.string (ba x.v)) ∧ w.cell? ⟨B, o + 2, none⟩ = some (.int .i64 x.k) ∧ w.cell? ⟨B, o + 3, none⟩ = some (.string (ba x.s))

/-- A list of lines lies at a slice. -/
structure LRow (w : World) (a : Option Addr) (xs : List Ln) : Prop where
  els : xs = [] ∨ ∃ B O, a = some ⟨B, O, none⟩ ∧ ∀ k (hk : k < xs.length), LnAt w B (O + k * 4) xs[k]

theorem LRow.low {w w' : World} {a : Option Addr} {xs : List Ln} (h : LRow w a xs) (hb : Below w.heap.size w w') : LRow w' a xs := by
  rcases h.els with h0 | ⟨B, O, ha, he⟩
  · exact ⟨Or.inl h0⟩
  · refine ⟨Or.inr ⟨B, O, ha, fun k hk => ?_⟩⟩
    obtain ⟨h1, h2, h3, h4⟩ := he k hk
    exact ⟨(hb.cell (lt_of_cell h1)).trans h1, (hb.cell (lt_of_cell h2)).trans h2, (hb.cell (lt_of_cell h3)).trans h3, (hb.cell (lt_of_cell h4)).trans h4⟩

theorem lnL_at {xs : List Ln} {k : Nat} (hk : k < xs.length) : (lnsV xs)[k * 4]? = some (.string (ba xs[k].p)) ∧ (lnsV xs)[k * 4 + 1]? = some (.string (ba xs[k].v)) ∧ (lnsV xs)[k * 4 + 2]? = some (.int .i64 xs[k].k) ∧ (lnsV xs)[k * 4 + 3]? = some (.string (ba xs[k].s)) := by
  have e : ∀ r, r < 4 → (lnsV xs)[k * 4 + r]? = some ((lnL xs[k])[r]!) := by
    intro r hr
    rw [lnsV_get xs (k * 4 + r) (by omega)]
    have e1 : (k * 4 + r) / 4 = k := by omega
    have e2 : (k * 4 + r) % 4 = r := by omega
    rw [e1, e2]
    simp [hk]
  exact ⟨e 0 (by omega), e 1 (by omega), e 2 (by omega), e 3 (by omega)⟩

/-- A row of lines that is owned. -/
theorem Lines.at {B : Nat} {w : World} {v : Value} {xs : List Ln} (h : Lines B w v xs) : ∃ a c, v = .slice a xs.length c ∧ LRow w a xs ∧ xs.length ≤ c := by
  rcases h.2 with ⟨rfl, h0⟩ | ⟨g, cap, cur, rfl, hb, hblk, hcap, hcm, hcs, hcur⟩
  · exact ⟨none, 0, by rw [h0], ⟨Or.inl (List.length_eq_zero_iff.1 h0)⟩, by omega⟩
  · refine ⟨_, cap, rfl, ⟨Or.inr ⟨g, 0, rfl, fun k hk => ?_⟩⟩, hcap⟩
    have at' : ∀ j, j < xs.length * 4 → w.cell? ⟨g, j, none⟩ = (lnsV xs)[j]? := by
      intro j hj
      have h1 : cur.toList[j]? = (lnsV xs)[j]? := by rw [← hcur, List.getElem?_take_of_lt hj]
      have h2 : cur[j]? = cur.toList[j]? := by simp
      rw [Lib.cell_of_heap hblk, h2, h1]
    obtain ⟨a1, a2, a3, a4⟩ := lnL_at hk
    rw [Nat.zero_add]
    exact ⟨by rw [at' _ (by omega), a1], by rw [at' _ (by omega), a2], by rw [at' _ (by omega), a3], by rw [at' _ (by omega), a4]⟩

/-- What few answers. -/
def FewSaid (n : Nat) (e : Ending) : Prop := ∃ r, e = .returned (.bool r) ∧ (r = true → n ≤ 100)

set_option maxRecDepth 100000 in
set_option maxHeartbeats 2000000 in
theorem fewL_any {w : World} {a : Option Addr} {n c : Nat} {xs : List Ln} (hn : xs.length = n) (h : LRow w a xs) :
    Calls Tryz.prog 12 #[.slice a n c] w fun e w' => FewSaid n e ∧ ∃ q, w' = w.drewN q := by
  have HN := hide hn
  have H := hide h
  clear hn h
  go_enter Tryz.func12, Tryz.ntmps12
  go_wp2
  go_loopw [3, 4] (fun s i wr => ∃ (k nr : Nat) (m : Int), k ≤ n ∧ k ≤ 101 ∧ i = .int .i64 k ∧ s = .int .i64 m ∧ 0 ≤ m ∧ m ≤ 16000 ∧ wr = w.drewN nr) (fun _ i _ => n - (intOf i).toNat)
  case atStart => exact ⟨0, 0, 0, Nat.zero_le _, Nat.zero_le _, rfl, rfl, by omega, by omega, rfl⟩
  case round =>
    obtain ⟨k, nr, m, hk, hk3, rfl, rfl, hm0, hm1, hwr⟩ := hrel
    have HWR := hide hwr
    by_cases hlt : k < n
    · by_cases hlt3 : k ≤ 100
      · have hkt : k < xs.length := by rw [unhide HN]; exact hlt
        obtain ⟨B, O, rfl, he⟩ : ∃ B O, a = some ⟨B, O, none⟩ ∧ ∀ k (hk : k < xs.length), LnAt w B (O + k * 4) xs[k] := by
          rcases (unhide H).els with h | h
          · rw [h] at hkt; simp at hkt
          · exact h
        obtain ⟨x, hx⟩ : ∃ x, xs[k] = x := ⟨_, rfl⟩
        have ha := he k hkt
        rw [hx] at ha
        have m1 : wr.cell? ⟨B, O + k * 4, none⟩ = some (.string (ba x.p)) := by rw [hwr]; exact ha.1
        have m2 : wr.cell? ⟨B, O + k * 4 + 1, none⟩ = some (.string (ba x.v)) := by rw [hwr]; exact ha.2.1
        have m3 : wr.cell? ⟨B, O + k * 4 + 3, none⟩ = some (.string (ba x.s)) := by rw [hwr]; exact ha.2.2.2
        have hlt3' : (k : Int) ≤ 100 := by omega
        clear ha he hx hwr
        go_wp2
        go_quiet (fail)
        go_wp2
        go_roundw
        case rel => exact ⟨k + 1, nr + nq, _, by omega, by omega, by go_num, rfl, by omega, by omega, by rw [unhide HWR, World.drewN_drewN]⟩
        case measure => simp [intOf]; omega
      · have hk' : k = 101 := by omega
        subst hk'
        clear hwr
        have hn3 : ¬ (n : Int) ≤ 100 := by omega
        go_wp2
        go_ret
        exact ⟨⟨false, rfl, fun h => by cases h⟩, nr, unhide HWR⟩
    · have hkn : k = n := by omega
      subst hkn
      clear hwr
      by_cases h100 : k ≤ 100
      · have h100' : (k : Int) ≤ 100 := by omega
        go_wp2
        all_goals
          go_ret
          exact ⟨⟨_, rfl, fun _ => h100⟩, nr, unhide HWR⟩
      · have h100' : ¬ (k : Int) ≤ 100 := by omega
        go_wp2
        all_goals
          go_ret
          exact ⟨⟨false, rfl, fun h => by cases h⟩, nr, unhide HWR⟩

end Go.Proofs.YthcafeoamabkgaaGreatDoor
