/-
  Lines: the lines for the reference.
-/
import Derived.Test.YthcafeoamabkgaaGreatDoorFew
import Derived.Deep.AppendLies
import Derived.Deep.RegionLaw
namespace Go.Proofs.YthcafeoamabkgaaGreatDoor
open Go.RowKit

theorem info105 : (Tryz.prog.info? 105).map (fun i => (i.zero, i.size, i.bytes)) = some (some (.agg #[.string ⟨#[]⟩, .string ⟨#[]⟩, .int .i64 0, .string ⟨#[]⟩]), 4, 56) := by kernel_rfl

/-- The row of a list of the reference's lines. -/
abbrev RLines (base : Nat) (w : World) (v : Value) (xs : List Ln) : Prop := w.ownsRow base 105 4 v xs.length (lnsV xs)

theorem rlines_snoc {base : Nat} {w : World} {v : Value} {xs : List Ln} {x : Ln} (h : w.ownsRow base 105 4 v (xs.length + 1) (lnsV xs ++ (lnC x).toList)) : RLines base w v (xs ++ [x]) := by
  unfold RLines
  rw [lnsV_append, List.length_append]
  exact h

set_option maxRecDepth 100000 in
set_option maxHeartbeats 8000000 in
theorem lines_any {w : World} {a : Option Addr} {n c : Nat} {xs : List Ln} (hn : xs.length = n) (hN : n ≤ 1000000) (h : LRow w a xs) :
    Calls Tryz.prog 23 #[.slice a n c] w fun e w' => ∃ v, e = .returned v ∧ RLines w.heap.size w' v xs ∧ Below w.heap.size w w' := by
  obtain ⟨i0, hi, hz0, hz1, hz2⟩ := info_parts info105
  have HN := hide hn
  have H := hide h
  clear hn h
  go_enter Tryz.func23, Tryz.ntmps23
  go_wp2
  go_loopw [3, 4] (fun v3 v4 wr => ∃ k : Nat, k ≤ n ∧ v4 = .int .i64 k ∧ RLines w.heap.size wr v3 (xs.take k) ∧ Below w.heap.size w wr) (fun _ v4 _ => n - (intOf v4).toNat)
  case atStart => exact ⟨0, Nat.zero_le _, rfl, ⟨rfl, Or.inl ⟨rfl, rfl⟩⟩, Below.refl _ _⟩
  case round =>
    rename World => wr
    obtain ⟨k, hk, rfl, hrow, hlow⟩ := hrel
    have HR := hide hrow
    have HL := hide hlow
    clear hrow hlow
    by_cases hlt : k < n
    · have hkt : k < xs.length := by rw [unhide HN]; exact hlt
      obtain ⟨B, O, rfl, he⟩ : ∃ B O, a = some ⟨B, O, none⟩ ∧ ∀ k (hk : k < xs.length), LnAt wr B (O + k * 4) xs[k] := by
        rcases ((unhide H).low (unhide HL)).els with h | h
        · rw [h] at hkt; simp at hkt
        · exact h
      obtain ⟨x, hx⟩ : ∃ x, xs[k] = x := ⟨_, rfl⟩
      have ha := he k hkt
      rw [hx] at ha
      obtain ⟨m1, m2, m3, m4⟩ := ha
      have HT : Hid (xs.take (k + 1) = xs.take k ++ [x]) := hide (by rw [List.take_add_one, List.getElem?_eq_getElem hkt, hx]; rfl)
      have hlen : (xs.take k).length = k := by rw [List.length_take]; omega
      have hmm : (k + 1) * 56 ≤ 140737488355328 := by omega
      have hone : ∀ u ∈ (lnC x).toList, u.oneCell' = true := by simp [Value.oneCell']
      have HSZ : Hid (w.heap.size ≤ wr.heap.size) := hide (unhide HL).size
      clear he hx
      go_wp2
      go_region_law (first
        | (refine step_append_lies _ (by rfl) _ _ _ (by rfl) w.heap.size 105 i0 _ 4 56 Tryz.underlying44 hi hz0 hz1 hz2 rfl (by omega) _ (xs.take k).length _ (by rfl) ((unhide HR).drew.alloc _) ⟨wr.heap.size, 0, none⟩ 1 1 (lnC x).toList (by rfl) (by rfl) (World.news_of_block (cs := lnC x) (t := 105) (fr := (0, 0)) (heap_new wr.drew _)) hone (by omega) (by unfold maxLen; omega) (by rw [hlen]; exact hmm) (by show w.heap.size ≤ (wr.heap.push _).size; rw [Array.size_push]; have := unhide HSZ; omega) _ rfl ?_; intro g cap w4 hown4 hgrow hat hlt4; have R4 : Hid (RLines w.heap.size w4 (.slice (some ⟨g, 0, none⟩) (k + 1) cap) (xs.take (k + 1))) := hide (by rw [unhide HT]; have h4 := rlines_snoc hown4; rwa [hlen] at h4); have L4 : Hid (Below w.heap.size w w4) := hide (((unhide HL).drew.alloc (unhide HSZ) _).grown hgrow (by show w.heap.size ≤ (wr.heap.push _).size; rw [Array.size_push]; have := unhide HSZ; omega) (fun j hj => ((unhide HR).lt _ hj).1)); clear hown4 hgrow hat hlt4))
      all_goals
        go_wp2
        go_roundw
        case rel => exact ⟨k + 1, hlt, by simp, unhide R4, unhide L4⟩
        case measure => simp [intOf]; omega
    · have hkn : xs.take k = xs := List.take_of_length_le (by rw [unhide HN]; omega)
      rw [hkn] at HR
      clear hkn
      go_wp2
      go_ret
      exact ⟨_, rfl, unhide HR, unhide HL⟩

end Go.Proofs.YthcafeoamabkgaaGreatDoor
