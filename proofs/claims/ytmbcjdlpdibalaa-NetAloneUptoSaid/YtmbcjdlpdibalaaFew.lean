/-
  few; Num, Asked.
-/
import Derived.Test.YtmbcjdlpdibalaaNewB
namespace Go.Proofs.Ytmbcjdlpdibalaa
open Go.RowKit Go.WideMaps Go.Maps Go.MuLone

theorem num_any (z : Int) (w : World) : Calls Try.prog 9 #[.int .i64 z] w fun e w' => e = .returned (.int .i64 z) ∧ w' = w := by
  go_enter Try.func9, Try.ntmps9
  go_wp2
  go_ret
  exact ⟨rfl, rfl⟩

def FewSaid (n1 n2 : Nat) (e : Ending) : Prop := ∃ b, e = .returned (.bool b) ∧ (b = true → n1 ≤ 100 ∧ n2 ≤ 100)

set_option maxHeartbeats 2000000 in
theorem few_any {w : World} {a1 a2 : Option Addr} {n1 n2 c1 c2 : Nat} {ps : List Pg} {fs : List Fa} (hp : PgsAt w a1 n1 ps) (hf : FasAt w a2 n2 fs) (h1 : n1 ≤ 1099511627776) (h2 : n2 ≤ 1099511627776) :
    Calls Try.prog 7 #[.slice a1 n1 c1, .slice a2 n2 c2, .slice none 0 0] w fun e w' => FewSaid n1 n2 e ∧ ∃ nq, w' = w.drewN nq := by
  have HP := hide hp
  have HF := hide hf
  clear hp hf
  go_enter Try.func7, Try.ntmps7
  go_wp2
  go_loopw [7, 8] (fun s i wr => ∃ (k nr : Nat) (m : Int), k ≤ n1 ∧ k ≤ 100 ∧ i = .int .i64 k ∧ s = .int .i64 m ∧ 0 ≤ m ∧ m ≤ 40000 ∧ wr = w.drewN nr) (fun _ i _ => n1 - (intOf i).toNat)
  case atStart => exact ⟨0, 0, 0, Nat.zero_le _, Nat.zero_le _, rfl, rfl, by omega, by omega, rfl⟩
  case round =>
    obtain ⟨k, nr, m, hk, hk3, rfl, rfl, hm0, hm1, hwr⟩ := hrel
    have HWR := hide hwr
    by_cases hlt : k < n1
    · by_cases hlt3 : k < 100
      · have hkp : k < ps.length := by rw [(unhide HP).len]; exact hlt
        obtain ⟨b, o, ha, hel⟩ : ∃ b o, a1 = some ⟨b, o, none⟩ ∧ ∀ k (hk : k < ps.length), PgAt w b (o + k * 2) ps[k] := by
          rcases (unhide HP).els with h | h
          · omega
          · exact h
        subst ha
        obtain ⟨hu0, hul, _, a, n, c, hd0, _, hnl, _⟩ := hel k hkp
        have q0 : wr.cell? ⟨b, o + k * 2, none⟩ = some (.string ps[k].1) := by rw [hwr]; exact hu0
        have q1 : wr.cell? ⟨b, o + k * 2 + 1, none⟩ = some (.slice a n c) := by rw [hwr]; exact hd0
        have l1 : (ps[k].1.size : Int) ≤ 9223372036854775807 := by unfold maxLen at hul; omega
        have l2 : (n : Int) ≤ 1099511627776 := by omega
        clear hel hu0 hul hd0 hwr
        go_wp2
        go_quiet (fail)
        go_wp2
        go_roundw
        case rel => exact ⟨k + 1, nr + nq, _, by omega, by omega, by go_num, rfl, by omega, by omega, by rw [unhide HWR, World.drewN_drewN]⟩
        case measure => simp [intOf]; omega
      · have hk' : k = 100 := by omega
        subst hk'
        clear hwr
        have hn3 : (100 : Int) < (n1 : Int) := by omega
        go_wp2
        go_loopw [7, 9] (fun s i wx => ∃ (j nr : Nat) (m : Int), j ≤ n2 ∧ j ≤ 100 ∧ i = .int .i64 j ∧ s = .int .i64 m ∧ 0 ≤ m ∧ m ≤ 40000 ∧ wx = w.drewN nr) (fun _ i _ => n2 - (intOf i).toNat)
        case atStart => exact ⟨0, nr, m, Nat.zero_le _, Nat.zero_le _, rfl, rfl, by omega, by omega, unhide HWR⟩
        case round =>
          clear HWR
          obtain ⟨j, nr, m, hj, hj3, rfl, rfl, hm0, hm1, hwx⟩ := hrel
          rename World => wi
          have HWR := hide hwx
          by_cases hlj : j < n2
          · by_cases hlj3 : j < 100
            · have hjp : j < fs.length := by rw [(unhide HF).len]; exact hlj
              obtain ⟨b, o, ha, hel⟩ : ∃ b o, a2 = some ⟨b, o, none⟩ ∧ ∀ k (hk : k < fs.length), FaAt w b (o + k * 5) fs[k] := by
                rcases (unhide HF).els with h | h
                · omega
                · exact h
              subst ha
              obtain ⟨hu0, hul, _, _, a, n, c, hd0, _, hnl, _⟩ := hel j hjp
              have q0 : wi.cell? ⟨b, o + j * 5, none⟩ = some (.string fs[j].u) := by rw [hwx]; exact hu0
              have q4 : wi.cell? ⟨b, o + j * 5 + 4, none⟩ = some (.slice a n c) := by rw [hwx]; exact hd0
              have l1 : (fs[j].u.size : Int) ≤ 9223372036854775807 := by unfold maxLen at hul; omega
              have l2 : (n : Int) ≤ 1099511627776 := by omega
              clear hel hu0 hul hd0 hwx
              go_wp2
              go_quiet (fail)
              go_wp2
              go_roundw
              case rel => exact ⟨j + 1, nr + nq, _, by omega, by omega, by go_num, rfl, by omega, by omega, by rw [unhide HWR, World.drewN_drewN]⟩
              case measure => simp [intOf]; omega
            · have hj' : j = 100 := by omega
              subst hj'
              clear hwx
              have hn3 : (100 : Int) < (n2 : Int) := by omega
              go_wp2
              refine wp_loop_rounds 1 ?_
              rw [rounds_succ]
              go_wp2
              all_goals
                go_ret
                exact ⟨⟨_, rfl, fun h => by cases h⟩, nr, unhide HWR⟩
          · have hjn : j = n2 := by omega
            subst hjn
            clear hwx
            go_wp2
            refine wp_loop_rounds 1 ?_
            rw [rounds_succ]
            go_wp2
            all_goals
              go_ret
              exact ⟨⟨_, rfl, fun h => by cases h⟩, nr, unhide HWR⟩
    · have hkn : k = n1 := by omega
      subst hkn
      clear hwr
      go_wp2
      go_loopw [7, 9] (fun s i wx => ∃ (j nr : Nat) (m : Int), j ≤ n2 ∧ j ≤ 100 ∧ i = .int .i64 j ∧ s = .int .i64 m ∧ 0 ≤ m ∧ m ≤ 40000 ∧ wx = w.drewN nr) (fun _ i _ => n2 - (intOf i).toNat)
      case atStart => exact ⟨0, nr, m, Nat.zero_le _, Nat.zero_le _, rfl, rfl, by omega, by omega, unhide HWR⟩
      case round =>
        clear HWR
        obtain ⟨j, nr, m, hj, hj3, rfl, rfl, hm0, hm1, hwx⟩ := hrel
        rename World => wi
        have HWR := hide hwx
        by_cases hlj : j < n2
        · by_cases hlj3 : j < 100
          · have hjp : j < fs.length := by rw [(unhide HF).len]; exact hlj
            obtain ⟨b, o, ha, hel⟩ : ∃ b o, a2 = some ⟨b, o, none⟩ ∧ ∀ k (hk : k < fs.length), FaAt w b (o + k * 5) fs[k] := by
              rcases (unhide HF).els with h | h
              · omega
              · exact h
            subst ha
            obtain ⟨hu0, hul, _, _, a, n, c, hd0, _, hnl, _⟩ := hel j hjp
            have q0 : wi.cell? ⟨b, o + j * 5, none⟩ = some (.string fs[j].u) := by rw [hwx]; exact hu0
            have q4 : wi.cell? ⟨b, o + j * 5 + 4, none⟩ = some (.slice a n c) := by rw [hwx]; exact hd0
            have l1 : (fs[j].u.size : Int) ≤ 9223372036854775807 := by unfold maxLen at hul; omega
            have l2 : (n : Int) ≤ 1099511627776 := by omega
            clear hel hu0 hul hd0 hwx
            go_wp2
            go_quiet (fail)
            go_wp2
            go_roundw
            case rel => exact ⟨j + 1, nr + nq, _, by omega, by omega, by go_num, rfl, by omega, by omega, by rw [unhide HWR, World.drewN_drewN]⟩
            case measure => simp [intOf]; omega
          · have hj' : j = 100 := by omega
            subst hj'
            clear hwx
            have hn3 : (100 : Int) < (n2 : Int) := by omega
            go_wp2
            refine wp_loop_rounds 1 ?_
            rw [rounds_succ]
            go_wp2
            all_goals
              go_ret
              exact ⟨⟨_, rfl, fun h => by cases h⟩, nr, unhide HWR⟩
        · have hjn : j = n2 := by omega
          subst hjn
          clear hwx
          go_wp2
          refine wp_loop_rounds 1 ?_
          rw [rounds_succ]
          go_wp2
          all_goals
            go_ret
            exact ⟨⟨_, rfl, fun _ => ⟨hk3, hj3⟩⟩, nr, unhide HWR⟩

end Go.Proofs.Ytmbcjdlpdibalaa
