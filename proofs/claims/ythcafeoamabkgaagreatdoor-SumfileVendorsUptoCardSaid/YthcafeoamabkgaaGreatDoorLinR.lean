/-
  Find.
-/
import Derived.Test.YthcafeoamabkgaaGreatDoorFewX
import Derived.Deep.AppendLies
import Derived.Deep.RegionLaw
import Derived.BigQuiet
import Derived.Deep.RegionWith
namespace Go.Proofs.YthcafeoamabkgaaGreatDoor
open Go.RowKit

theorem info105 : (Tryz.prog.info? 105).map (fun i => (i.zero, i.size, i.bytes)) = some (some (.agg #[.string ⟨#[]⟩, .string ⟨#[]⟩, .int .i64 0, .string ⟨#[]⟩]), 4, 56) := by kernel_rfl

/-- The row of a list of the reference's lines. -/
abbrev RLines (base : Nat) (w : World) (v : Value) (xs : List Ln) : Prop := w.ownsRow base 105 4 v xs.length (lnsV xs)

theorem rlines_snoc {base : Nat} {w : World} {v : Value} {xs : List Ln} {x : Ln} (h : w.ownsRow base 105 4 v (xs.length + 1) (lnsV xs ++ (lnC x).toList)) : RLines base w v (xs ++ [x]) := by
  unfold RLines
  rw [lnsV_append, List.length_append]
  exact h

set_option maxRecDepth 100000 in
set_option maxHeartbeats 8000000 in
theorem lines_any {w : World} {a : Option Addr} {n c : Nat} {xs : List Ln} (hn : xs.length = n) (hN : n ≤ 1000000) (h : LRow w a xs) :
    Calls Tryz.prog 23 #[.slice a n c] w fun e w' => ∃ v, e = .returned v ∧ RLines w.heap.size w' v xs ∧ Below w.heap.size w w' := by
  obtain ⟨i0, hi, hz0, hz1, hz2⟩ := info_parts info105
  have HN := hide hn
  have H := hide h
  clear hn h
  go_enter Tryz.func23, Tryz.ntmps23
  go_wp2
  go_loopw [3, 4] (fun v3 v4 wr => ∃ k : Nat, k ≤ n ∧ v4 = .int .i64 k ∧ RLines w.heap.size wr v3 (xs.take k) ∧ Below w.heap.size w wr) (fun _ v4 _ => n - (intOf v4).toNat)
  case atStart => exact ⟨0, Nat.zero_le _, rfl, ⟨rfl, Or.inl ⟨rfl, rfl⟩⟩, Below.refl _ _⟩
  case round =>
    rename World => wr
    obtain ⟨k, hk, rfl, hrow, hlow⟩ := hrel
    have HR := hide hrow
    have HL := hide hlow
    clear hrow hlow
    by_cases hlt : k < n
    · have hkt : k < xs.length := by rw [unhide HN]; exact hlt
      obtain ⟨B, O, rfl, he⟩ : ∃ B O, a = some ⟨B, O, none⟩ ∧ ∀ k (hk : k < xs.length), LnAt wr B (O + k * 4) xs[k] := by
        rcases ((unhide H).low (unhide HL)).els with h | h
        · rw [h] at hkt; simp at hkt
        · exact h
      obtain ⟨x, hx⟩ : ∃ x, xs[k] = x := ⟨_, rfl⟩
      have ha := he k hkt
      rw [hx] at ha
      obtain ⟨m1, m2, m3, m4⟩ := ha
      have HT : Hid (xs.take (k + 1) = xs.take k ++ [x]) := hide (by rw [List.take_add_one, List.getElem?_eq_getElem hkt, hx]; rfl)
      have hlen : (xs.take k).length = k := by rw [List.length_take]; omega
      have hmm : (k + 1) * 56 ≤ 140737488355328 := by omega
      have hone : ∀ u ∈ (lnC x).toList, u.oneCell' = true := by simp [Value.oneCell']
      have HSZ : Hid (w.heap.size ≤ wr.heap.size) := hide (unhide HL).size
      clear he hx
      go_wp2
      go_region_law (first
        | (refine step_append_lies _ (by rfl) _ _ _ (by rfl) w.heap.size 105 i0 _ 4 56 Tryz.underlying44 hi hz0 hz1 hz2 rfl (by omega) _ (xs.take k).length _ (by rfl) ((unhide HR).drew.alloc _) ⟨wr.heap.size, 0, none⟩ 1 1 (lnC x).toList (by rfl) (by rfl) (World.news_of_block (cs := lnC x) (t := 105) (fr := (0, 0)) (heap_new wr.drew _)) hone (by omega) (by unfold maxLen; omega) (by rw [hlen]; exact hmm) (by show w.heap.size ≤ (wr.heap.push _).size; rw [Array.size_push]; have := unhide HSZ; omega) _ rfl ?_; intro g cap w4 hown4 hgrow hat hlt4; have R4 : Hid (RLines w.heap.size w4 (.slice (some ⟨g, 0, none⟩) (k + 1) cap) (xs.take (k + 1))) := hide (by rw [unhide HT]; have h4 := rlines_snoc hown4; rwa [hlen] at h4); have L4 : Hid (Below w.heap.size w w4) := hide (((unhide HL).drew.alloc (unhide HSZ) _).grown hgrow (by show w.heap.size ≤ (wr.heap.push _).size; rw [Array.size_push]; have := unhide HSZ; omega) (fun j hj => ((unhide HR).lt _ hj).1)); clear hown4 hgrow hat hlt4))
      all_goals
        go_wp2
        go_roundw
        case rel => exact ⟨k + 1, hlt, by simp, unhide R4, unhide L4⟩
        case measure => simp [intOf]; omega
    · have hkn : xs.take k = xs := List.take_of_length_le (by rw [unhide HN]; omega)
      rw [hkn] at HR
      clear hkn
      go_wp2
      go_ret
      exact ⟨_, rfl, unhide HR, unhide HL⟩

end Go.Proofs.YthcafeoamabkgaaGreatDoor

namespace Go.Proofs.YthcafeoamabkgaaGreatDoor
open Go.RowKit

/-- A row of the reference's lines that is owned. -/
theorem RLines.at {B : Nat} {w : World} {v : Value} {xs : List Ln} (h : RLines B w v xs) : ∃ a c, v = .slice a xs.length c ∧ LRow w a xs ∧ xs.length ≤ c := by
  rcases h.2 with ⟨rfl, h0⟩ | ⟨g, cap, cur, rfl, hb, hblk, hcap, hcm, hcs, hcur⟩
  · exact ⟨none, 0, by rw [h0], ⟨Or.inl (List.length_eq_zero_iff.1 h0)⟩, by omega⟩
  · refine ⟨_, cap, rfl, ⟨Or.inr ⟨g, 0, rfl, fun k hk => ?_⟩⟩, hcap⟩
    have at' : ∀ j, j < xs.length * 4 → w.cell? ⟨g, j, none⟩ = (lnsV xs)[j]? := by
      intro j hj
      have h1 : cur.toList[j]? = (lnsV xs)[j]? := by rw [← hcur, List.getElem?_take_of_lt hj]
      have h2 : cur[j]? = cur.toList[j]? := by simp
      rw [Lib.cell_of_heap hblk, h2, h1]
    obtain ⟨a1, a2, a3, a4⟩ := lnL_at hk
    rw [Nat.zero_add]
    exact ⟨by rw [at' _ (by omega), a1], by rw [at' _ (by omega), a2], by rw [at' _ (by omega), a3], by rw [at' _ (by omega), a4]⟩

set_option maxRecDepth 100000 in
set_option maxHeartbeats 4000000 in
theorem sameLines_same {w : World} {a b : Option Addr} {n ac bc : Nat} {xs : List Ln} (hn : xs.length = n) (hN : n ≤ 1000000) (ha : LRow w a xs) (hb : LRow w b xs) :
    Calls Tryz.prog 24 #[.slice a n ac, .slice b n bc] w fun e w' => e = .returned (.bool true) ∧ ∃ q, w' = w.drewN q := by
  have HN := hide hn
  have HA := hide ha
  have HB := hide hb
  clear hn ha hb
  go_enter Tryz.func24, Tryz.ntmps24
  go_wp2
  go_loopw [5] (fun v5 wr => ∃ k nr : Nat, k ≤ n ∧ v5 = .int .i64 k ∧ wr = w.drewN nr) (fun v5 _ => n - (intOf v5).toNat)
  case atStart => exact ⟨0, 0, Nat.zero_le _, rfl, rfl⟩
  case round =>
    obtain ⟨k, nr, hk, rfl, hwr⟩ := hrel
    have HWR := hide hwr
    by_cases hlt : k < n
    · have hkt : k < xs.length := by rw [unhide HN]; exact hlt
      obtain ⟨A, ao, rfl, he⟩ : ∃ B O, a = some ⟨B, O, none⟩ ∧ ∀ k (hk : k < xs.length), LnAt w B (O + k * 4) xs[k] := by
        rcases (unhide HA).els with h | h
        · rw [h] at hkt; simp at hkt
        · exact h
      obtain ⟨B, bo, rfl, hf⟩ : ∃ B O, b = some ⟨B, O, none⟩ ∧ ∀ k (hk : k < xs.length), LnAt w B (O + k * 4) xs[k] := by
        rcases (unhide HB).els with h | h
        · rw [h] at hkt; simp at hkt
        · exact h
      obtain ⟨x, hx⟩ : ∃ x, xs[k] = x := ⟨_, rfl⟩
      have h1 := he k hkt
      have h2 := hf k hkt
      rw [hx] at h1 h2
      have m1 : wr.cell? ⟨A, ao + k * 4, none⟩ = some (.string (ba x.p)) := by rw [hwr]; exact h1.1
      have m2 : wr.cell? ⟨A, ao + k * 4 + 1, none⟩ = some (.string (ba x.v)) := by rw [hwr]; exact h1.2.1
      have m3 : wr.cell? ⟨A, ao + k * 4 + 2, none⟩ = some (.int .i64 x.k) := by rw [hwr]; exact h1.2.2.1
      have m4 : wr.cell? ⟨A, ao + k * 4 + 3, none⟩ = some (.string (ba x.s)) := by rw [hwr]; exact h1.2.2.2
      have p1 : wr.cell? ⟨B, bo + k * 4, none⟩ = some (.string (ba x.p)) := by rw [hwr]; exact h2.1
      have p2 : wr.cell? ⟨B, bo + k * 4 + 1, none⟩ = some (.string (ba x.v)) := by rw [hwr]; exact h2.2.1
      have p3 : wr.cell? ⟨B, bo + k * 4 + 2, none⟩ = some (.int .i64 x.k) := by rw [hwr]; exact h2.2.2.1
      have p4 : wr.cell? ⟨B, bo + k * 4 + 3, none⟩ = some (.string (ba x.s)) := by rw [hwr]; exact h2.2.2.2
      clear h1 h2 he hf hx hwr
      go_wp2
      go_quiet (fail)
      go_wp2
      go_roundw
      case rel => exact ⟨k + 1, nr + nq, hlt, by simp, by rw [unhide HWR, World.drewN_drewN]⟩
      case measure => simp [intOf]; omega
    · clear hwr
      go_wp2
      go_ret
      exact ⟨rfl, nr, unhide HWR⟩

theorem alike_same {w : World} {a b : Option Addr} {n ac bc : Nat} {xs : List Ln} (hn : xs.length = n) (hN : n ≤ 1000000) (ha : LRow w a xs) (hb : LRow w b xs) :
    Calls Tryz.prog 18 #[.slice a n ac, .slice b n bc] w fun e w' => e = .returned (.bool true) ∧ Below w.heap.size w w' := by
  have HL := hide (lines_any (c := bc) hn hN hb)
  have HA := hide ha
  have HN := hide hn
  clear hn ha hb
  go_enter Tryz.func18, Tryz.ntmps18
  go_wp2_with (go_at_call 23; fail)
  refine (unhide HL).mono ?_
  rintro e w1 ⟨v, rfl, hr, b1⟩
  obtain ⟨a', c', rfl, hr', _⟩ := RLines.at hr
  have HS : Hid (Calls Tryz.prog 24 #[.slice a n ac, .slice a' xs.length c'] w1 fun e w' => e = .returned (.bool true) ∧ ∃ q, w' = w1.drewN q) := by
    have h := sameLines_same (ac := ac) (bc := c') (unhide HN) hN ((unhide HA).low b1) hr'
    rw [unhide HN]
    exact h
  have HB := hide b1
  clear hr hr' b1
  go_wp2_with (go_at_call 24; fail)
  refine (unhide HS).mono ?_
  rintro e w2 ⟨rfl, q, rfl⟩
  go_wp2
  go_ret
  exact ⟨rfl, low_drewN (unhide HB) q⟩

end Go.Proofs.YthcafeoamabkgaaGreatDoor

namespace Go.Proofs.YthcafeoamabkgaaGreatDoor
open Go.RowKit

/-- The first line of a module and a kind. -/
def findR (xs : List Ln) (mp mv : Str) (kk : Int) : Option Ln := xs.find? fun x => decide (x.p = mp ∧ x.v = mv ∧ x.k = kk)
def findV : Option Ln → Value
  | some x => .tuple #[.string (ba x.s), .bool true]
  | none => .tuple #[.string ⟨#[]⟩, .bool false]

theorem find_yes {xs : List Ln} {mp mv : Str} {kk : Int} {i : Nat} (hi : i < xs.length) (h : findR (xs.take i) mp mv kk = none) (hx : xs[i].p = mp ∧ xs[i].v = mv ∧ xs[i].k = kk) : findR xs mp mv kk = some xs[i] := by
  have e : xs = xs.take i ++ xs[i] :: xs.drop (i + 1) := by rw [List.getElem_cons_drop, List.take_append_drop]
  unfold findR at h ⊢
  obtain ⟨y, hy⟩ : ∃ y, xs[i] = y := ⟨_, rfl⟩
  rw [hy] at e hx ⊢
  rw [e, List.find?_append, h]
  simp [hx]
theorem find_no {xs : List Ln} {mp mv : Str} {kk : Int} {i : Nat} (hi : i < xs.length) (h : findR (xs.take i) mp mv kk = none) (hx : ¬ (xs[i].p = mp ∧ xs[i].v = mv ∧ xs[i].k = kk)) : findR (xs.take (i + 1)) mp mv kk = none := by
  unfold findR at h ⊢
  rw [List.take_add_one, List.find?_append, h, List.getElem?_eq_getElem hi]
  simp only [Option.toList_some, Option.none_or]
  rw [List.find?_singleton, if_neg (by simpa using hx)]

theorem box_low {w w' : World} {o : Obj} (h : Below (w.heap.size + 1) (w.alloc o) w') : Below w.heap.size w w' := by
  have a := (Below.refl w.heap.size w).alloc (Nat.le_refl _) o
  exact a.trans (h.mono (Nat.le_succ _))

set_option maxRecDepth 100000 in
set_option maxHeartbeats 4000000 in
theorem find_any {w : World} {a : Option Addr} {n c : Nat} {xs : List Ln} {mp mv : Str} {kk : Int} (hn : xs.length = n) (hN : n ≤ 1000000) (h : LRow w a xs) :
    Calls Tryz.prog 17 #[.slice a n c, .agg #[.string (ba mp), .string (ba mv)], .int .i64 kk] w fun e w' => e = .returned (findV (findR xs mp mv kk)) ∧ Below w.heap.size w w' := by
  obtain ⟨W0, hW0⟩ : ∃ W0, w.alloc (.cells #[.string (ba mp), .string (ba mv)] 36) = W0 := ⟨_, rfl⟩
  have W0_low : ∀ w', Below (w.heap.size + 1) W0 w' → Below w.heap.size w w' := by rw [← hW0]; exact fun w' h => box_low h
  have k0 : Blk W0 w.heap.size #[.string (ba mp), .string (ba mv)] 36 := by rw [← hW0]; exact Blk.new _ _ _
  have hsz : W0.heap.size = w.heap.size + 1 := by rw [← hW0]; show (w.heap.push _).size = _; simp
  have H0 : LRow W0 a xs := by rw [← hW0]; exact h.low ((Below.refl _ _).alloc (Nat.le_refl _) _)
  have HN := hide hn
  have H := hide H0
  have K0 := hide k0
  have HSZ := hide hsz
  have HLO := hide W0_low
  clear hn h H0 k0 hsz W0_low
  go_enter Tryz.func17, Tryz.ntmps17
  go_wp2
  go_loopw [9, 12] (fun _ v12 wr => ∃ i : Nat, i ≤ n ∧ v12 = .int .i64 i ∧ findR (xs.take i) mp mv kk = none ∧ Below (w.heap.size + 1) W0 wr) (fun _ v12 _ => n - (intOf v12).toNat)
  case atStart => exact ⟨0, Nat.zero_le _, rfl, rfl, Below.refl _ _⟩
  case round =>
    rename World => wr
    obtain ⟨i, hi, rfl, hf, hlow⟩ := hrel
    have HF := hide hf
    have HL := hide hlow
    clear hf hlow
    by_cases hlt : i < n
    · have hit : i < xs.length := by rw [unhide HN]; exact hlt
      have hlow2 : Below W0.heap.size W0 wr := by rw [unhide HSZ]; exact unhide HL
      obtain ⟨B, O, rfl, he⟩ : ∃ B O, a = some ⟨B, O, none⟩ ∧ ∀ k (hk : k < xs.length), LnAt wr B (O + k * 4) xs[k] := by
        rcases ((unhide H).low hlow2).els with h | h
        · rw [h] at hit; simp at hit
        · exact h
      have ha := he i hit
      have hy := find_yes (mp := mp) (mv := mv) (kk := kk) hit (unhide HF)
      have hno := find_no (mp := mp) (mv := mv) (kk := kk) hit (unhide HF)
      obtain ⟨x, hx⟩ : ∃ x, xs[i] = x := ⟨_, rfl⟩
      rw [hx] at ha hy hno
      obtain ⟨p, v, k, s⟩ := x
      simp only at ha hy hno
      obtain ⟨m1, m2, m3, m4⟩ := ha
      obtain ⟨W1, hW1⟩ : ∃ W1, wr.alloc (.cells #[.string (ba p), .string (ba v), .int .i64 k, .string (ba s)] 38) = W1 := ⟨_, rfl⟩
      have k1 : Blk W1 wr.heap.size (lnC ⟨p, v, k, s⟩) 38 := by rw [← hW1]; exact Blk.new _ _ _
      have bW : Below (w.heap.size + 1) W0 W1 := by rw [← hW1]; exact (unhide HL).alloc (by have := hlow2.size; rw [unhide HSZ] at this; exact this) _
      have kb : Blk W1 w.heap.size #[.string (ba mp), .string (ba mv)] 36 := by
        have h2 : Below W0.heap.size W0 W1 := by rw [unhide HSZ]; exact bW
        exact (unhide K0).low h2
      have g0 : W1.cell? ⟨w.heap.size, 0, none⟩ = some (.string (ba mp)) := kb.cell 0
      have g1 : W1.cell? ⟨w.heap.size, 1, none⟩ = some (.string (ba mv)) := kb.cell 1
      have g2 : W1.cell? ⟨wr.heap.size, 0, none⟩ = some (.string (ba p)) := k1.cell 0
      have g3 : W1.cell? ⟨wr.heap.size, 1, none⟩ = some (.string (ba v)) := k1.cell 1
      have g4 : W1.cell? ⟨wr.heap.size, 2, none⟩ = some (.int .i64 k) := k1.cell 2
      have g5 : W1.cell? ⟨wr.heap.size, 3, none⟩ = some (.string (ba s)) := k1.cell 3
      have HBW := hide bW
      have HSW : Hid (w.heap.size + 1 ≤ W1.heap.size) := hide (by have := bW.size; rw [unhide HSZ] at this; exact this)
      clear k1 bW kb he hx hlow2 HF
      by_cases e1 : p = mp
      · by_cases e2 : v = mv
        · by_cases e3 : k = kk
          · have HF := hide (hy ⟨e1, e2, e3⟩)
            have f1 : ((ba p).toList == (ba mp).toList) = true := by rw [e1]; simp
            have f2 : ((ba v).toList == (ba mv).toList) = true := by rw [e2]; simp
            have f3 : (k == kk) = true := by rw [e3]; simp
            clear hy hno e1 e2 e3
            go_wp2
            go_region_with (first
              | (go_at_call 53; refine (entryOf_any (x := ⟨p, v, k, s⟩) _).mono ?_; rintro e w8 ⟨rfl, b8⟩; have r0 : w8.cell? ⟨w.heap.size, 0, none⟩ = some (.string (ba mp)) := (b8.cell (p := ⟨w.heap.size, 0, none⟩) (lt_of_cell g0)).trans g0; have r1 : w8.cell? ⟨w.heap.size, 1, none⟩ = some (.string (ba mv)) := (b8.cell (p := ⟨w.heap.size, 1, none⟩) (lt_of_cell g1)).trans g1; have r3 : w8.cell? ⟨wr.heap.size, 3, none⟩ = some (.string (ba s)) := (b8.cell (p := ⟨wr.heap.size, 3, none⟩) (lt_of_cell g5)).trans g5; have HB8 : Hid (Below (w.heap.size + 1) W0 w8) := hide ((unhide HBW).drew.trans (b8.mono (unhide HSW))); clear b8))
            all_goals
              go_wp2
              go_ret2
              rw [unhide HF]
              exact ⟨rfl, (unhide HLO) _ (unhide HB8)⟩
          · have HF := hide (hno (fun h => e3 h.2.2))
            have f3 : (k == kk) = false := by simpa using e3
            have f1 : ((ba p).toList == (ba mp).toList) = true := by rw [e1]; simp
            have f2 : ((ba v).toList == (ba mv).toList) = true := by rw [e2]; simp
            clear hy hno e1 e2 e3
            go_wp2
            go_region_with (first
              | (go_at_call 53; refine (entryOf_any (x := ⟨p, v, k, s⟩) _).mono ?_; rintro e w8 ⟨rfl, b8⟩; have r0 : w8.cell? ⟨w.heap.size, 0, none⟩ = some (.string (ba mp)) := (b8.cell (p := ⟨w.heap.size, 0, none⟩) (lt_of_cell g0)).trans g0; have r1 : w8.cell? ⟨w.heap.size, 1, none⟩ = some (.string (ba mv)) := (b8.cell (p := ⟨w.heap.size, 1, none⟩) (lt_of_cell g1)).trans g1; have r3 : w8.cell? ⟨wr.heap.size, 3, none⟩ = some (.string (ba s)) := (b8.cell (p := ⟨wr.heap.size, 3, none⟩) (lt_of_cell g5)).trans g5; have HB8 : Hid (Below (w.heap.size + 1) W0 w8) := hide ((unhide HBW).drew.trans (b8.mono (unhide HSW))); clear b8))
            all_goals
              go_wp2
              go_roundw
              case rel => exact ⟨i + 1, hlt, by simp, unhide HF, unhide HB8⟩
              case measure => simp [intOf]; omega
        · have HF := hide (hno (fun h => e2 h.2.1))
          have f2 : ((ba v).toList == (ba mv).toList) = false := by rw [ba_list, ba_list]; simpa using e2
          have f1 : ((ba p).toList == (ba mp).toList) = true := by rw [e1]; simp
          clear hy hno e1 e2
          go_wp2
          go_region_with (first
            | (go_at_call 53; refine (entryOf_any (x := ⟨p, v, k, s⟩) _).mono ?_; rintro e w8 ⟨rfl, b8⟩; have r0 : w8.cell? ⟨w.heap.size, 0, none⟩ = some (.string (ba mp)) := (b8.cell (p := ⟨w.heap.size, 0, none⟩) (lt_of_cell g0)).trans g0; have r1 : w8.cell? ⟨w.heap.size, 1, none⟩ = some (.string (ba mv)) := (b8.cell (p := ⟨w.heap.size, 1, none⟩) (lt_of_cell g1)).trans g1; have r3 : w8.cell? ⟨wr.heap.size, 3, none⟩ = some (.string (ba s)) := (b8.cell (p := ⟨wr.heap.size, 3, none⟩) (lt_of_cell g5)).trans g5; have HB8 : Hid (Below (w.heap.size + 1) W0 w8) := hide ((unhide HBW).drew.trans (b8.mono (unhide HSW))); clear b8))
          all_goals
            go_wp2
            go_roundw
            case rel => exact ⟨i + 1, hlt, by simp, unhide HF, unhide HB8⟩
            case measure => simp [intOf]; omega
      · have HF := hide (hno (fun h => e1 h.1))
        have f1 : ((ba p).toList == (ba mp).toList) = false := by rw [ba_list, ba_list]; simpa using e1
        clear hy hno e1
        go_wp2
        go_region_with (first
          | (go_at_call 53; refine (entryOf_any (x := ⟨p, v, k, s⟩) _).mono ?_; rintro e w8 ⟨rfl, b8⟩; have r0 : w8.cell? ⟨w.heap.size, 0, none⟩ = some (.string (ba mp)) := (b8.cell (p := ⟨w.heap.size, 0, none⟩) (lt_of_cell g0)).trans g0; have r1 : w8.cell? ⟨w.heap.size, 1, none⟩ = some (.string (ba mv)) := (b8.cell (p := ⟨w.heap.size, 1, none⟩) (lt_of_cell g1)).trans g1; have r3 : w8.cell? ⟨wr.heap.size, 3, none⟩ = some (.string (ba s)) := (b8.cell (p := ⟨wr.heap.size, 3, none⟩) (lt_of_cell g5)).trans g5; have HB8 : Hid (Below (w.heap.size + 1) W0 w8) := hide ((unhide HBW).drew.trans (b8.mono (unhide HSW))); clear b8))
        all_goals
          go_wp2
          go_roundw
          case rel => exact ⟨i + 1, hlt, by simp, unhide HF, unhide HB8⟩
          case measure => simp [intOf]; omega
    · have hkn : xs.take i = xs := List.take_of_length_le (by rw [unhide HN]; omega)
      rw [hkn] at HF
      clear hkn
      go_wp2
      go_ret2
      rw [unhide HF]
      exact ⟨rfl, (unhide HLO) _ (unhide HL)⟩

end Go.Proofs.YthcafeoamabkgaaGreatDoor
