/-
  The reference's Format of locks: the contract.
-/
import Derived.Test.YthcafeoamabkgaaGreatDoorLckP
import Derived.Test.YthcafeoamabkgaaGreatDoorSumR
import Derived.Test.YthcafeoamabkgaaGreatDoorB64X
import Derived.Test.YthcafeoamabkgaaGreatDoorRefX
import Derived.Test.YthcafeoamabkgaaGreatDoorMerg
import Derived.BigQuiet
import Derived.Test.YthcafeoamabkgaaGreatDoorOrdR
import Derived.Test.YthcafeoamabkgaaGreatDoorLineX
import Derived.Test.YthcafeoamabkgaaGreatDoorFmtA
import Derived.Deep.RegionHeld3
import Derived.Deep.RegionWith
namespace Go.Proofs.YthcafeoamabkgaaGreatDoor
open Go.RowKit

theorem ends_no {s u : Str} (h : s.length < u.length) (w : World) : Calls Tryz.prog 62 #[.string (ba s), .string (ba u)] w fun e w' => e = .returned (.bool false) ∧ w' = w := by
  have ss := ba_size s
  have su := ba_size u
  have h1 : ¬ ((u.length : Int) ≤ s.length) := by omega
  go_enter Tryz.func62, Tryz.ntmps62
  go_wp2
  go_ret
  exact ⟨rfl, rfl⟩

theorem ends_at {s u f t : Str} (h : s = f ++ t) (ht : t.length = u.length) (hs : s.length ≤ 4294967281) (w : World) : Calls Tryz.prog 62 #[.string (ba s), .string (ba u)] w fun e w' => e = .returned (.bool (t == u)) ∧ w' = w := by
  have ss := ba_size s
  have su := ba_size u
  have hl : s.length = f.length + t.length := by rw [h]; simp
  have h1 : (u.length : Int) ≤ s.length := by omega
  have hx : (ba s).extract f.length (f.length + u.length) = ba t := by
    rw [← ht, ← hl, sub_of, h, List.drop_left, List.take_of_length_le (by simp)]
  have hlt := ba_list t
  have hlu := ba_list u
  clear h
  go_enter Tryz.func62, Tryz.ntmps62
  go_wp2
  go_ret
  exact ⟨rfl, rfl⟩

theorem ends_is {s u : Str} {b : Bool} (h : Lib.hasSuffix s u = b) (hs : s.length ≤ 4294967281) (w : World) : Calls Tryz.prog 62 #[.string (ba s), .string (ba u)] w fun e w' => e = .returned (.bool b) ∧ w' = w := by
  rw [← Lib.hasSuffix_of_drop] at h
  by_cases hl : u.length ≤ s.length
  · have e : (s.drop (s.length - u.length) == u) = b := by rw [← h]; simp [hl]
    rw [← e]
    exact ends_at (f := s.take (s.length - u.length)) (List.take_append_drop _ _).symm (by simp; omega) hs w
  · have e : b = false := by rw [← h]; simp [hl]
    rw [e]
    exact ends_no (by omega) w

set_option maxRecDepth 100000 in
set_option maxHeartbeats 2000000 in
theorem refSum_any {s : Str} (w : World) : Tells 26 #[.string (ba s)] w (.bool (sumB s)) := by
  unfold Tells
  have hsz := ba_size s
  by_cases h47 : s.length = 47
  · obtain ⟨h, hh⟩ : ∃ h, s.take 3 = h := ⟨_, rfl⟩
    obtain ⟨t, ht⟩ : ∃ t, s.drop 3 = t := ⟨_, rfl⟩
    have x1 : (ba s).extract 0 3 = ba h := by rw [sub_of, List.drop_zero, Nat.sub_zero, hh]
    have x2 : (ba s).extract 3 47 = ba t := by rw [sub_of, ht, List.take_of_length_le (by rw [← ht]; simp; omega)]
    have hlh := ba_list h
    by_cases hhe : h = headL
    · have HV := hide (sum_ref h47 (by rw [hh, hhe]))
      rw [ht] at HV
      have HF := hide (refFrom_any (w := w) (s := t) (by rw [← ht]; simp; omega))
      have q1 : (h == [104, 49, 58]) = true := by rw [hhe]; rfl
      have q2 : (h != [104, 49, 58]) = false := by rw [hhe]; rfl
      have hlit : (⟨#[104, 49, 58]⟩ : ByteArray).toList = [104, 49, 58] := ba_list [104, 49, 58]
      rw [h47] at hsz
      clear hh ht hhe h47
      go_enter Tryz.func26, Tryz.ntmps26
      go_wp2_with (go_at_call 68; fail)
      refine (unhide HF).mono ?_
      rintro e w1 ⟨v, rfl, ho, hb⟩
      obtain ⟨a, c, rfl, _, _, _⟩ := OwnB.at ho
      have HB := hide hb
      obtain ⟨E, hE⟩ : ∃ E, fromE t = E := ⟨_, rfl⟩
      obtain ⟨L, hL⟩ : ∃ L, (fromV t).length = L := ⟨_, rfl⟩
      have HS : Hid (sumB s = (decide (E = 0) && decide (L = 32))) := hide (by rw [unhide HV, ← hE, ← hL]; rfl)
      rw [hE, hL]
      clear ho hb hE hL HV
      by_cases h0 : E = 0
      · subst h0
        go_wp2
        go_ret
        refine ⟨ret_bool ?_, unhide HB⟩
        rw [unhide HS, Bool.eq_iff_iff]
        simp
        omega
      · have hne : (E == 0) = false := by simpa using h0
        go_wp2
        go_ret
        refine ⟨ret_bool ?_, unhide HB⟩
        rw [unhide HS]
        simp [h0]
    · have HV := hide (sum_head (s := s) (by rw [hh]; exact hhe))
      have q1 : (h == [104, 49, 58]) = false := by simpa [headL] using hhe
      have q2 : (h != [104, 49, 58]) = true := by simpa [headL] using hhe
      have hlit : (⟨#[104, 49, 58]⟩ : ByteArray).toList = [104, 49, 58] := ba_list [104, 49, 58]
      rw [h47] at hsz
      clear hh ht hhe h47
      go_enter Tryz.func26, Tryz.ntmps26
      go_wp2
      go_ret
      exact ⟨ret_bool (unhide HV).symm, Below.refl _ _⟩
  · have HV := hide (sum_long h47)
    have q1 : ((s.length : Int) != 47) = true := by simp; omega
    have q2 : ((s.length : Int) == 47) = false := by simp; omega
    clear h47
    go_enter Tryz.func26, Tryz.ntmps26
    go_wp2
    go_ret
    exact ⟨ret_bool (unhide HV).symm, Below.refl _ _⟩
theorem refSum_is {s : Str} {b : Bool} (h : sumB s = b) (w : World) : Tells 26 #[.string (ba s)] w (.bool b) := by rw [← h]; exact refSum_any w

set_option maxRecDepth 100000 in
set_option maxHeartbeats 4000000 in
/-- A line's error, with those ahead. -/
theorem refOne_any {w : World} {a : Option Addr} {n c : Nat} {xs : List Ln} {x : Ln} (hn : xs.length = n) (hN : n ≤ 1000000) (h : LRow w a xs) (hp : x.p.length < 4294967281) :
    Calls Tryz.prog 63 #[.slice a n c, lnV x] w fun e w' => e = .returned (.int .i64 (oneE xs x)) ∧ Below w.heap.size w w' := by
  obtain ⟨W0, hW0⟩ : ∃ W0, w.alloc (.cells #[.string (ba x.p), .string (ba x.v), .int .i64 x.k, .string (ba x.s)] 105) = W0 := ⟨_, rfl⟩
  have b0 : Below w.heap.size w W0 := by rw [← hW0]; exact (Below.refl _ _).alloc (Nat.le_refl _) _
  have k0 : Blk W0 w.heap.size #[.string (ba x.p), .string (ba x.v), .int .i64 x.k, .string (ba x.s)] 105 := by rw [← hW0]; exact Blk.new _ _ _
  obtain ⟨C, hC⟩ : ∃ C, checkR x.p x.v = C := ⟨_, rfl⟩
  obtain ⟨S, hS⟩ : ∃ S, sumB x.s = S := ⟨_, rfl⟩
  have HE : Hid (oneE xs x = if C ≠ 0 then (C : Int) else if S then (if ∃ y ∈ xs, keyL y = keyL x then 12 else 0) else 16) := hide (by unfold oneE; rw [hC, hS])
  have HC := hide (fun wx => refCheck_is hC hp wx)
  have HS := hide (fun wx => refSum_is hS wx)
  obtain ⟨E, hE⟩ : ∃ E, oneE xs x = E := ⟨_, rfl⟩
  rw [hE] at HE ⊢
  have HN := hide hn
  have H := hide (h.low b0)
  have HB0 := hide b0
  have HK0 := hide k0
  have HW0 := hide hW0
  clear hn h b0 k0 hW0 hC hS hE
  obtain ⟨p, v, k, s⟩ := x
  go_enter Tryz.func63, Tryz.ntmps63
  go_wp2_with (go_at_call 107; fail)
  rw [unhide HW0]
  refine (unhide HC _).mono ?_
  rintro e w1 ⟨rfl, b1⟩
  by_cases hc0 : C = 0
  · have hcz : ((C : Int) != 0) = false := by rw [hc0]; rfl
    have hcz2 : (C : Int) = 0 := by omega
    have K1 := hide ((unhide HK0).low b1)
    have H1 := hide ((unhide H).low b1)
    have B1 := hide (low_trans (unhide HB0) b1)
    have c3 : w1.cell? ⟨w.heap.size, 3, none⟩ = some (.string (ba s)) := (unhide K1).cell 3
    clear b1 hc0
    go_wp2_with (go_at_call 26; fail)
    refine (unhide HS _).mono ?_
    rintro e w2 ⟨rfl, b2⟩
    cases S with
    | false =>
      have HF : Hid (E = 16) := hide (by rw [unhide HE, if_neg (by omega)]; rfl)
      have HB := hide (low_trans (unhide B1) b2)
      clear b2
      go_wp2
      go_ret
      rw [unhide HF]
      exact ⟨rfl, unhide HB⟩
    | true =>
      have HE2 : Hid (E = if ∃ y ∈ xs, keyL y = keyL ⟨p, v, k, s⟩ then 12 else 0) := hide (by rw [unhide HE, if_neg (by omega)]; rfl)
      have K2 := hide ((unhide K1).low b2)
      have H2 := hide ((unhide H1).low b2)
      have B2 := hide (low_trans (unhide B1) b2)
      have d0 : w2.cell? ⟨w.heap.size, 0, none⟩ = some (.string (ba p)) := (unhide K2).cell 0
      have d1 : w2.cell? ⟨w.heap.size, 1, none⟩ = some (.string (ba v)) := (unhide K2).cell 1
      have d2 : w2.cell? ⟨w.heap.size, 2, none⟩ = some (.int .i64 k) := (unhide K2).cell 2
      clear b2 c3
      go_wp2
      go_loopw [6] (fun v6 wr => ∃ i q : Nat, i ≤ n ∧ v6 = .int .i64 i ∧ (∀ y ∈ xs.take i, ¬ keyL y = keyL ⟨p, v, k, s⟩) ∧ wr = w2.drewN q) (fun v6 _ => n - (intOf v6).toNat)
      case atStart => exact ⟨0, 0, Nat.zero_le _, rfl, by simp, rfl⟩
      case round =>
        rename World => wr
        obtain ⟨i, q, hi, rfl, hno, hwr⟩ := hrel
        have HNO := hide hno
        have HWR := hide hwr
        clear hno
        by_cases hlt : i < n
        · have hit : i < xs.length := by rw [unhide HN]; exact hlt
          obtain ⟨B, O, rfl, he⟩ : ∃ B O, a = some ⟨B, O, none⟩ ∧ ∀ k (hk : k < xs.length), LnAt w2 B (O + k * 4) xs[k] := by
            rcases (unhide H2).els with h | h
            · rw [h] at hit; simp at hit
            · exact h
          have ha := he i hit
          have hmem := List.getElem_mem hit
          have htk : xs.take (i + 1) = xs.take i ++ [xs[i]] := List.take_succ_eq_append_getElem hit
          obtain ⟨y, hy⟩ : ∃ y, xs[i] = y := ⟨_, rfl⟩
          rw [hy] at ha hmem htk
          obtain ⟨m1, m2, m3, m4⟩ := ha
          have q1 : wr.cell? ⟨B, O + i * 4, none⟩ = some (.string (ba y.p)) := by rw [hwr]; exact m1
          have q2 : wr.cell? ⟨B, O + i * 4 + 1, none⟩ = some (.string (ba y.v)) := by rw [hwr]; exact m2
          have q3 : wr.cell? ⟨B, O + i * 4 + 2, none⟩ = some (.int .i64 y.k) := by rw [hwr]; exact m3
          have q4 : wr.cell? ⟨B, O + i * 4 + 3, none⟩ = some (.string (ba y.s)) := by rw [hwr]; exact m4
          have q5 : wr.cell? ⟨w.heap.size, 0, none⟩ = some (.string (ba p)) := by rw [hwr]; exact d0
          have q6 : wr.cell? ⟨w.heap.size, 1, none⟩ = some (.string (ba v)) := by rw [hwr]; exact d1
          have q7 : wr.cell? ⟨w.heap.size, 2, none⟩ = some (.int .i64 k) := by rw [hwr]; exact d2
          have hkp := key_part y ⟨p, v, k, s⟩
          have HYES : Hid (keyL y = keyL ⟨p, v, k, s⟩ → E = 12) := hide (fun e => by rw [unhide HE2, if_pos ⟨y, hmem, e⟩])
          have HNEXT : Hid (¬ keyL y = keyL ⟨p, v, k, s⟩ → ∀ z ∈ xs.take (i + 1), ¬ keyL z = keyL ⟨p, v, k, s⟩) := hide (fun hne z hz => by
            rw [htk] at hz
            rcases List.mem_append.1 hz with hz | hz
            · exact unhide HNO z hz
            · simp at hz; subst hz; exact hne)
          clear he hy m1 m2 m3 m4 hwr hmem htk
          simp only at hkp
          rcases hkp with ⟨hk, hs', f1, f2, f3, f4, f5⟩ | ⟨hk, hs', f1, f2, f3, f4, f5⟩ | ⟨hk, f1⟩ | ⟨hk, f1, f2⟩ | ⟨hk, f1, f2, f3⟩
          · have HF := hide ((unhide HYES) hk)
            clear hk hs' f4 f5 HYES HNEXT
            go_wp2
            go_quiet (fail)
            go_wp2
            go_ret
            rw [unhide HF]
            exact ⟨rfl, by rw [unhide HWR]; exact low_drewN (low_drewN (unhide B2) _) _⟩
          · have HF := hide ((unhide HYES) hk)
            clear hk hs' f4 f5 HYES HNEXT
            go_wp2
            go_quiet (fail)
            go_wp2
            go_ret
            rw [unhide HF]
            exact ⟨rfl, by rw [unhide HWR]; exact low_drewN (low_drewN (unhide B2) _) _⟩
          all_goals
            have HF := hide ((unhide HNEXT) hk)
            clear hk HYES HNEXT
            go_wp2
            go_quiet (fail)
            go_wp2
            go_roundw
            case rel => exact ⟨i + 1, q + nq, hlt, by simp, unhide HF, by rw [unhide HWR, World.drewN_drewN]⟩
            case measure => simp [intOf]; omega
        · have hall : xs.take i = xs := List.take_of_length_le (by rw [unhide HN]; omega)
          have HF : Hid (E = 0) := hide (by
            rw [unhide HE2, if_neg]
            rintro ⟨y, hy, e⟩
            exact unhide HNO y (by rw [hall]; exact hy) e)
          clear hall hwr
          go_wp2
          go_ret
          rw [unhide HF]
          exact ⟨rfl, by rw [unhide HWR]; exact low_drewN (unhide B2) _⟩
  · have hcz : ((C : Int) != 0) = true := by simpa using hc0
    have HF : Hid (E = (C : Int)) := hide (by rw [unhide HE, if_pos hc0])
    have HB := hide (low_trans (unhide HB0) b1)
    clear b1 hc0
    go_wp2
    go_ret
    rw [unhide HF]
    exact ⟨rfl, unhide HB⟩

/-- The pieces, by Cut; the room is as great as they are many. -/
theorem refCut2_any (c : UInt8) {l : Str} (hl : l.length < 4294967281) (w : World) : Calls Tryz.prog 44 #[.string (ba l), .int .u8 (c.toNat : Int)] w fun e w' =>
    ∃ B cp, e = .returned (.slice (some ⟨B, 0, none⟩) (pieces c l).length cp) ∧ Texts w' B (pieces c l) ∧ (B < w'.heap.size ∧ w.heap.size ≤ B) ∧ Below w.heap.size w w' ∧ (pieces c l).length ≤ cp := by
  refine (refCut_row c hl w).mono ?_
  rintro e w' ⟨v, rfl, hown, hb⟩
  rcases hown.2 with ⟨_, h0⟩ | ⟨g, cap, cur, rfl, hg, hblk, hle, _, _, ht⟩
  · exact absurd (List.length_eq_zero_iff.1 h0) (pieces_ne c l)
  · refine ⟨g, cap, rfl, ?_, ⟨(Array.getElem?_eq_some_iff.1 hblk).1, hg⟩, hb, hle⟩
    intro k hk
    rw [Lib.cell_of_heap hblk]
    have h1 : cur.toList[k]? = (strsV (pieces c l))[k]? := by rw [← ht, List.getElem?_take_of_lt (by omega)]
    have h2 : cur[k]? = cur.toList[k]? := by simp
    rw [h2, h1]
    simp [strsV, hk]

set_option maxRecDepth 100000 in
set_option maxHeartbeats 1000000 in
/-- The lines of a text. -/
theorem refLines_any {t : Str} {qs : List Str} {z : Str} {q K : Nat} {bz : Bool} (hl : t.length < 4294967281) (hp : pieces 10 t = qs ++ [z]) (hq : qs.length = q) (hK : (if z = [] then q else q + 1) = K) (hbz : decide (z = []) = bz) (w : World) :
    Calls Tryz.prog 61 #[.string (ba t)] w fun e w' => ∃ B cp, e = .returned (.tuple #[.slice (some ⟨B, 0, none⟩) K cp, .bool bz]) ∧ Texts w' B (pieces 10 t) ∧ (B < w'.heap.size ∧ w.heap.size ≤ B) ∧ Below w.heap.size w w' := by
  have HC := hide (refCut2_any 10 hl w)
  have hlen : (pieces 10 t).length = q + 1 := by rw [hp]; simp [hq]
  have hqs : q ≤ t.length + 1 := by
    have h1 := pieces_length 10 t
    have h2 := Lib.count_le t [10]
    omega
  have HP := hide hp
  have HQ := hide hq
  have HL := hide hlen
  clear hp hq hlen
  by_cases hz : z = []
  · obtain rfl : q = K := by rw [← hK, if_pos hz]
    obtain rfl : bz = true := by rw [← hbz, decide_eq_true hz]
    have z1 : (ba z).toList.isEmpty = true := by rw [hz]; exact ba_em
    clear hK hbz hz
    go_enter Tryz.func61, Tryz.ntmps61
    go_wp2_with (go_at_call 44; fail)
    refine (unhide HC).mono ?_
    rintro e w1 ⟨B, cp, rfl, ht, hB, hb, hcp⟩
    have hcell : w1.cell? ⟨B, q, none⟩ = some (.string (ba z)) := by
      have := ht q (by rw [unhide HL]; omega)
      rw [this]
      have e1 : (pieces 10 t)[q]'(by rw [unhide HL]; omega) = z := by
        have h2 : (pieces 10 t)[q]? = some z := by rw [unhide HP, ← unhide HQ]; simp
        rw [List.getElem?_eq_getElem (by rw [unhide HL]; omega)] at h2
        exact Option.some.inj h2
      rw [e1]
    rw [unhide HL] at hcp ⊢
    have e1 : ((q + 1 : Nat) : Int) - 1 = (q : Int) := by omega
    have e2 : IntKind.i64.wrap (q : Int) = (q : Int) := by rw [IntKind.wrap_i64]; omega
    have e3 : (q : Int) < ((q + 1 : Nat) : Int) := by omega
    have hqc : q ≤ cp := by omega
    have HD := hide (And.intro ht (And.intro hB hb))
    clear ht hB hb
    go_wp2
    go_ret2
    exact ⟨B, cp, rfl, (unhide HD).1, (unhide HD).2.1, (unhide HD).2.2⟩
  · obtain rfl : q + 1 = K := by rw [← hK, if_neg hz]
    obtain rfl : bz = false := by rw [← hbz, decide_eq_false hz]
    have z1 : (ba z).toList.isEmpty = false := ba_ne hz
    clear hK hbz hz
    go_enter Tryz.func61, Tryz.ntmps61
    go_wp2_with (go_at_call 44; fail)
    refine (unhide HC).mono ?_
    rintro e w1 ⟨B, cp, rfl, ht, hB, hb, hcp⟩
    have hcell : w1.cell? ⟨B, q, none⟩ = some (.string (ba z)) := by
      have := ht q (by rw [unhide HL]; omega)
      rw [this]
      have e1 : (pieces 10 t)[q]'(by rw [unhide HL]; omega) = z := by
        have h2 : (pieces 10 t)[q]? = some z := by rw [unhide HP, ← unhide HQ]; simp
        rw [List.getElem?_eq_getElem (by rw [unhide HL]; omega)] at h2
        exact Option.some.inj h2
      rw [e1]
    rw [unhide HL] at hcp ⊢
    have e1 : ((q + 1 : Nat) : Int) - 1 = (q : Int) := by omega
    have e2 : IntKind.i64.wrap (q : Int) = (q : Int) := by rw [IntKind.wrap_i64]; omega
    have e3 : (q : Int) < ((q + 1 : Nat) : Int) := by omega
    have hqc : q ≤ cp := by omega
    have HD := hide (And.intro ht (And.intro hB hb))
    clear ht hB hb
    go_wp2
    go_ret2
    exact ⟨B, cp, rfl, (unhide HD).1, (unhide HD).2.1, (unhide HD).2.2⟩

end Go.Proofs.YthcafeoamabkgaaGreatDoor

namespace Go.Proofs.YthcafeoamabkgaaGreatDoor
open Go.RowKit

theorem lock_step {out : List Ln} {k : Nat} {l : Str} {rest : List Str} (h : rest ≠ [] ∨ l ≠ []) :
    lockF out k (l :: rest) = match lineR l with
      | none => ([], k, 11)
      | some x => if oneE out x ≠ 0 then ([], k, oneE out x) else if rest = [] then ([], k, 11) else lockF (out ++ [x]) (k + 1) rest := by
  cases rest with
  | nil =>
    have hl : l ≠ [] := by rcases h with h | h; exact absurd rfl h; exact h
    unfold lockF
    rw [if_neg hl]
    cases lineR l with
    | none => rfl
    | some x => simp
  | cons m ls =>
    conv => lhs; unfold lockF
    cases lineR l with
    | none => rfl
    | some x => simp

theorem lineR_no {l : Str} (h : (pieces 32 l).length ≠ 3) : lineR l = none := by
  unfold lineR fullB
  simp [h]
theorem lineR_three {l a b c : Str} (h : pieces 32 l = [a, b, c]) : lineR l = if a = [] ∨ b = [] ∨ c = [] then none else some ⟨a, Lib.trimSuffix b gmL, if Lib.hasSuffix b gmL then 1 else 0, c⟩ := by
  unfold lineR fullB
  rw [h]
  by_cases ha : a = []
  · simp [ha]
  by_cases hb : b = []
  · simp [hb]
  by_cases hc : c = []
  · simp [hc]
  · have : ([a, b, c] : List Str).contains [] = false := by
      simp [ha, hb, hc]
    rw [this]
    simp [ha, hb, hc]

theorem row_lowR {w w' : World} {m base : Nat} {v : Value} {xs : List Value} (hr : w.ownsRow base 105 4 v m xs) (hb : Below w.heap.size w w') : w'.ownsRow base 105 4 v m xs := by
  refine ⟨hr.1, ?_⟩
  rcases hr.2 with h | ⟨g, cap, cur, e, h1, h2, rest⟩
  · exact Or.inl h
  · exact Or.inr ⟨g, cap, cur, e, h1, by rw [hb.block g (Array.getElem?_eq_some_iff.1 h2).1]; exact h2, rest⟩

/-- What Parse has read so far. -/
structure ParI (w1 wr : World) (ps : List Str) (q i : Nat) (R : List Ln × Nat × Int) (v : Value) (out : List Ln) : Prop where
  len : out.length = i
  row : RLines w1.heap.size wr v out
  on : i < q + 1 → lockF out (i + 1) (ps.drop i) = R
  stop : i = q + 1 → R = ([], q + 1, 11)
  low : Below w1.heap.size w1 wr

set_option maxRecDepth 100000 in
set_option maxHeartbeats 8000000 in
theorem refParse_any {w : World} {t : Str} (ht : t.length < 4294967281) :
    Calls Tryz.prog 21 #[.string (ba t)] w fun e w' => ∃ v n en ys, e = .returned (.tuple #[v, .int .i64 (n : Nat), .int .i64 en]) ∧ RLines w.heap.size w' v ys ∧ POut t ys n en ∧ Below w.heap.size w w' := by
  have hsz := ba_size t
  by_cases hbig : 65536 < t.length
  · have hq : (65536 : Int) < (t.length : Int) := by omega
    have HF : Hid (POut t [] 0 13) := hide (Or.inl ⟨hbig, rfl, rfl, rfl⟩)
    clear hbig
    go_enter Tryz.func21, Tryz.ntmps21
    go_wp2
    go_ret3
    exact ⟨_, 0, 13, [], rfl, rlines_nil _ _, unhide HF, Below.refl _ _⟩
  · have hq : ¬ (65536 : Int) < (t.length : Int) := by omega
    obtain ⟨ps, hps⟩ : ∃ ps, pieces 10 t = ps := ⟨_, rfl⟩
    have hne : ps ≠ [] := by rw [← hps]; exact pieces_ne _ _
    obtain ⟨qs, z, hz⟩ : ∃ qs z, ps = qs ++ [z] := ⟨ps.dropLast, ps.getLast hne, (List.dropLast_concat_getLast hne).symm⟩
    obtain ⟨q, hqs⟩ : ∃ q, qs.length = q := ⟨_, rfl⟩
    obtain ⟨K, hK⟩ : ∃ K, (if z = [] then q else q + 1) = K := ⟨_, rfl⟩
    obtain ⟨bz, hbz⟩ : ∃ bz, decide (z = []) = bz := ⟨_, rfl⟩
    have HLI := hide (fun wx => refLines_any ht (hps.trans hz) hqs hK hbz wx)
    have hpl : ps.length = q + 1 := by rw [hz]; simp [hqs]
    have hsmall : ∀ p ∈ ps, p.length ≤ t.length := by rw [← hps]; exact pieces_small 10 t
    obtain ⟨R, hR⟩ : ∃ R, lockF [] 1 ps = R := ⟨_, rfl⟩
    have hkz : (z = [] ∧ K = q) ∨ (z ≠ [] ∧ K = q + 1) := by
      by_cases h : z = []
      · exact Or.inl ⟨h, by rw [← hK, if_pos h]⟩
      · exact Or.inr ⟨h, by rw [← hK, if_neg h]⟩
    have hq6 : q ≤ 65537 := by
      have h1 := pieces_length 10 t
      have h2 := Lib.count_le t [10]
      rw [hps, hpl] at h1
      omega
    have HPO : Hid (∀ ys n en, ys.Perm R.1 → Rising ys → n = R.2.1 → en = R.2.2 → POut t ys n en) := hide (fun ys n en h1 h2 h3 h4 => Or.inr ⟨by omega, by rw [hps, hR]; exact h1, h2, by rw [hps, hR]; exact h3, by rw [hps, hR]; exact h4⟩)
    rw [hps] at HLI
    have HZ := hide hz
    have HQS := hide hqs
    have HPL := hide hpl
    have HSM := hide hsmall
    have HR := hide hR
    have HKZ := hide hkz
    have HBZ := hide hbz
    have hK1 : K ≤ q + 1 := by omega
    clear hps hne hz hqs hK hbz hpl hsmall hR hkz hbig
    go_enter Tryz.func21, Tryz.ntmps21
    go_wp2_with (go_at_call 61; fail)
    refine (unhide HLI _).mono ?_
    rintro e w1 ⟨B, cp, rfl, htx, hB, b1⟩
    have HTX := hide htx
    have HB1 := hide b1
    have hBl := hB.1
    clear htx hB b1 HLI
    go_wp2
    go_loopw [7, 8, 9, 10, 11] (fun v7 v8 _ _ _ wr => ∃ (i : Nat) (out : List Ln), i ≤ K ∧ v8 = .int .i64 i ∧ ParI w1 wr ps q i R v7 out) (fun _ v8 _ _ _ _ => K - (intOf v8).toNat)
    case atStart => exact ⟨0, [], Nat.zero_le _, rfl, rfl, rlines_nil _ _, fun _ => unhide HR, fun h => by omega, Below.refl _ _⟩
    case round =>
      rename World => wr
      obtain ⟨i, out, hi, rfl, hin⟩ := hrel
      have hol := hin.len
      obtain ⟨a7, c7, hv7, hr7, _⟩ := RLines.at hin.row
      rw [hol] at hv7
      subst hv7
      have HIN := hide hin
      clear hin
      by_cases hlt : i < K
      · have hip : i < ps.length := by rw [unhide HPL]; omega
        have hcell : wr.cell? ⟨B, i, none⟩ = some (.string (ba ps[i])) := ((unhide HIN).low.cell (p := ⟨B, i, none⟩) hBl).trans (unhide HTX i hip)
        have hdrop : ps.drop i = ps[i] :: ps.drop (i + 1) := List.drop_eq_getElem_cons hip
        have hln := unhide HSM _ (List.getElem_mem hip)
        have hzl : ps.drop (i + 1) ≠ [] ∨ ps[i] ≠ [] := by
          rcases unhide HKZ with ⟨hz, hk⟩ | ⟨hz, hk⟩
          · refine Or.inl (fun e => ?_)
            have := congrArg List.length e
            rw [List.length_drop, unhide HPL] at this
            simp at this
            omega
          · by_cases h : i = q
            · refine Or.inr ?_
              have h2 : ps[i]? = some z := by rw [unhide HZ, h, ← unhide HQS]; simp
              rw [List.getElem?_eq_getElem hip] at h2
              rw [Option.some.inj h2]
              exact hz
            · refine Or.inl (fun e => ?_)
              have := congrArg List.length e
              rw [List.length_drop, unhide HPL] at this
              simp at this
              omega
        have hstep := (unhide HIN).on (by omega)
        rw [hdrop, lock_step hzl] at hstep
        obtain ⟨l, hl⟩ : ∃ l, ps[i] = l := ⟨_, rfl⟩
        rw [hl] at hcell hln hstep
        have HST := hide hstep
        have HC := hide (refCut2_any 32 (l := l) (by omega) wr)
        have hwl : (pieces 32 l).length ≤ 4294967281 := by
          have h1 := pieces_length 32 l
          have h2 := Lib.count_le l [32]
          omega
        have hwsm := pieces_small 32 l
        have HERR : Hid (∀ en, R = ([], i + 1, en) → POut t [] (i + 1) en) := hide (fun en h => unhide HPO [] (i + 1) en (by rw [h]) rising_nil (by rw [h]) (by rw [h]))
        have HLO := hide (low_trans (unhide HB1) (unhide HIN).low)
        clear hdrop hzl hstep hl
        go_wp2_with (go_at_call 44; fail)
        refine (unhide HC).mono ?_
        rintro e w2 ⟨B2, cp2, rfl, htw, hB2, b2, hcp2⟩
        have HLO2 := hide (low_trans (unhide HLO) b2)
        have HB2 := hide b2
        by_cases h3 : (pieces 32 l).length = 3
        · obtain ⟨a, b, c, habc⟩ : ∃ a b c, pieces 32 l = [a, b, c] := by
            match hm : pieces 32 l, h3 with
            | [a, b, c], _ => exact ⟨a, b, c, rfl⟩
          have hli := lineR_three habc
          rw [h3]
          rw [habc] at htw hwsm
          have t0 : w2.cell? ⟨B2, 0, none⟩ = some (.string (ba a)) := htw 0 (by simp)
          have t1 : w2.cell? ⟨B2, 1, none⟩ = some (.string (ba b)) := htw 1 (by simp)
          have t2 : w2.cell? ⟨B2, 2, none⟩ = some (.string (ba c)) := htw 2 (by simp)
          have la := hwsm a (by simp)
          have lb := hwsm b (by simp)
          have lc := hwsm c (by simp)
          clear htw hwsm h3 habc hwl b2 hcp2
          by_cases ha : a = []
          · have hn : lineR l = none := by rw [hli, if_pos (Or.inl ha)]
            have HF := hide (unhide HERR 11 (by have := unhide HST; rw [hn] at this; exact this.symm))
            have z1 : (ba a).toList.isEmpty = true := by rw [ha]; exact ba_em
            clear hli hn ha
            go_wp2
            go_ret3
            exact ⟨_, i + 1, 11, [], by push_cast; rfl, rlines_nil _ _, unhide HF, unhide HLO2⟩
          have z1 : (ba a).toList.isEmpty = false := ba_ne ha
          by_cases hb : b = []
          · have hn : lineR l = none := by rw [hli, if_pos (Or.inr (Or.inl hb))]
            have HF := hide (unhide HERR 11 (by have := unhide HST; rw [hn] at this; exact this.symm))
            have z2 : (ba b).toList.isEmpty = true := by rw [hb]; exact ba_em
            clear hli hn ha hb
            go_wp2
            go_ret3
            exact ⟨_, i + 1, 11, [], by push_cast; rfl, rlines_nil _ _, unhide HF, unhide HLO2⟩
          have z2 : (ba b).toList.isEmpty = false := ba_ne hb
          by_cases hc : c = []
          · have hn : lineR l = none := by rw [hli, if_pos (Or.inr (Or.inr hc))]
            have HF := hide (unhide HERR 11 (by have := unhide HST; rw [hn] at this; exact this.symm))
            have z3 : (ba c).toList.isEmpty = true := by rw [hc]; exact ba_em
            clear hli hn ha hb hc
            go_wp2
            go_ret3
            exact ⟨_, i + 1, 11, [], by push_cast; rfl, rlines_nil _ _, unhide HF, unhide HLO2⟩
          have z3 : (ba c).toList.isEmpty = false := ba_ne hc
          rw [if_neg (by rintro (h | h | h); exact ha h; exact hb h; exact hc h)] at hli
          clear ha hb hc
          have u0 : ∀ o, (w2.alloc o).cell? ⟨B2, 0, none⟩ = some (.string (ba a)) := fun o => (((Below.refl _ _).alloc (Nat.le_refl _) o).cell (p := ⟨B2, 0, none⟩) hB2.1).trans t0
          have u1 : ∀ o, (w2.alloc o).cell? ⟨B2, 1, none⟩ = some (.string (ba b)) := fun o => (((Below.refl _ _).alloc (Nat.le_refl _) o).cell (p := ⟨B2, 1, none⟩) hB2.1).trans t1
          have u2 : ∀ o, (w2.alloc o).cell? ⟨B2, 2, none⟩ = some (.string (ba c)) := fun o => (((Below.refl _ _).alloc (Nat.le_refl _) o).cell (p := ⟨B2, 2, none⟩) hB2.1).trans t2
          go_wp2
          go_region
          obtain ⟨W3, hW3⟩ : ∃ W3, (w2.alloc (.cells #[.string (ba a), .string (ba b), .int .i64 0, .string (ba c)] 105)).drew = W3 := ⟨_, rfl⟩
          have b3 : Below w2.heap.size w2 W3 := by rw [← hW3]; exact ((Below.refl _ _).alloc (Nat.le_refl _) _).drew
          have k3 : Blk W3 w2.heap.size #[.string (ba a), .string (ba b), .int .i64 0, .string (ba c)] 105 := by rw [← hW3]; exact (Blk.new w2 _ _).drew
          have HW3 := hide hW3
          obtain ⟨m, hm⟩ : ∃ m, Lib.hasSuffix b gmL = m := ⟨_, rfl⟩
          have HEN := hide (fun wx => ends_is hm (by omega) wx)
          clear hW3 u0 u1 u2
          cases m with
          | false =>
            have hli : lineR l = some ⟨a, b, 0, c⟩ := by
              rw [hli, hm]
              unfold Lib.trimSuffix
              rw [hm]
              rfl
            obtain ⟨W4, hW4⟩ : ∃ W4, W3 = W4 := ⟨_, rfl⟩
            have b4 : Below w2.heap.size w2 W4 := by rw [← hW4]; exact b3
            have k4 : Blk W4 w2.heap.size #[.string (ba a), .string (ba b), .int .i64 0, .string (ba c)] 105 := by rw [← hW4]; exact k3
            have HW34 := hide hW4
            clear hm b3 k3 hW4
            go_wp2_with (go_at_call 62; fail)
            rw [unhide HW3, unhide HW34]
            refine (unhide HEN _).mono ?_
            rintro e wn ⟨rfl, hw⟩
            rw [hw]; clear hw wn HEN
            have HX := hide (hli : lineR l = some ⟨a, b, 0, c⟩)
            obtain ⟨E, hE⟩ : ∃ E, oneE out ⟨a, b, 0, c⟩ = E := ⟨_, rfl⟩
            have HST2 : Hid ((if E ≠ 0 then ([], i + 1, E) else if ps.drop (i + 1) = [] then ([], i + 1, 11) else lockF (out ++ [⟨a, b, 0, c⟩]) (i + 1 + 1) (ps.drop (i + 1))) = R) := hide (by
              have h := unhide HST
              rw [unhide HX] at h
              simp only at h
              rwa [hE] at h)
            have HW4L := hide (low_trans (unhide HB2) b4)
            have c40 : W4.cell? ⟨w2.heap.size, 0, none⟩ = some (.string (ba a)) := k4.cell 0
            have c41 : W4.cell? ⟨w2.heap.size, 1, none⟩ = some (.string (ba b)) := k4.cell 1
            have c42 : W4.cell? ⟨w2.heap.size, 2, none⟩ = some (.int .i64 0) := k4.cell 2
            have c43 : W4.cell? ⟨w2.heap.size, 3, none⟩ = some (.string (ba c)) := k4.cell 3
            have HONE := hide (refOne_any (w := W4) (c := c7) (x := ⟨a, b, 0, c⟩) hol (by omega) (hr7.low (unhide HW4L)) (by simp only; omega))
            rw [hE] at HONE
            have HK4 := hide k4
            have HR7 := hide hr7
            clear hli hE b4 k4 HST HX hr7
            go_wp2_with (go_at_call 63; fail)
            refine (unhide HONE).mono ?_
            rintro e w5 ⟨rfl, b5⟩
            have HW5L := hide (low_trans (unhide HW4L) b5)
            have k5 := (unhide HK4).low b5
            have d0 : w5.cell? ⟨w2.heap.size, 0, none⟩ = some (.string (ba a)) := k5.cell 0
            have d1 : w5.cell? ⟨w2.heap.size, 1, none⟩ = some (.string (ba b)) := k5.cell 1
            have d2 : w5.cell? ⟨w2.heap.size, 2, none⟩ = some (.int .i64 0) := k5.cell 2
            have d3 : w5.cell? ⟨w2.heap.size, 3, none⟩ = some (.string (ba c)) := k5.cell 3
            clear b5 k5 HONE HK4
            by_cases hE0 : E = 0
            · have hrow5 : RLines w1.heap.size w5 (.slice a7 i c7) out := row_lowR (unhide HIN).row (unhide HW5L)
              have hlow5 : Below w1.heap.size w1 w5 := low_trans (unhide HIN).low (unhide HW5L)
              obtain ⟨v', w6, happ, hown, hb6⟩ := rapp_one (x := ⟨a, b, 0, c⟩) hrow5 hlow5.size (by omega)
              have HPI : Hid (ParI w1 w6 ps q (i + 1) R v' (out ++ [⟨a, b, 0, c⟩])) := hide ⟨by simp [hol], hown, fun h => by
                  have hd : ps.drop (i + 1) ≠ [] := fun e => by
                    have := congrArg List.length e
                    rw [List.length_drop, unhide HPL] at this
                    simp at this
                    omega
                  have h2 := unhide HST2
                  rwa [if_neg (by simp [hE0]), if_neg hd] at h2, fun h => by
                  have hd : ps.drop (i + 1) = [] := List.drop_eq_nil_of_le (by rw [unhide HPL]; omega)
                  have h2 := unhide HST2
                  rw [if_neg (by simp [hE0]), if_pos hd] at h2
                  rw [← h2, h], hlow5.trans hb6⟩
              simp only at happ
              subst hE0
              clear hrow5 hlow5 hown hb6
              go_wp2_with (at_builtin; refine Lib.wpList_append_run _ rfl _ _ _ _ rfl _ _ rfl rfl _ _ happ ?_)
              go_roundw
              case rel => exact ⟨i + 1, _, hlt, by simp, unhide HPI⟩
              case measure => simp [intOf]; omega
            · have hne : (E != 0) = true := by simpa using hE0
              have HF := hide (unhide HERR E (by have h2 := unhide HST2; rw [if_pos hE0] at h2; exact h2.symm))
              have HFL := hide (low_trans (unhide HLO) (unhide HW5L))
              clear hE0
              go_wp2
              go_ret3
              exact ⟨_, i + 1, E, [], by push_cast; rfl, rlines_nil _ _, unhide HF, unhide HFL⟩
          | true =>
            obtain ⟨f, hf⟩ : ∃ f, f ++ gmL = b := List.isSuffixOf_iff_suffix.1 hm
            obtain ⟨nf, hnf⟩ : ∃ nf, f.length = nf := ⟨_, rfl⟩
            have hbl : b.length = nf + 7 := by rw [← hf]; simp [gmL]; omega
            have hli : lineR l = some ⟨a, f, 1, c⟩ := by
              rw [hli, hm]
              unfold Lib.trimSuffix
              rw [hm, if_pos rfl, ← hf, List.length_append, Nat.add_sub_cancel, List.take_left' rfl]
              rfl
            have x1 : (ba b).extract 0 nf = ba f := by rw [sub_of, List.drop_zero, Nat.sub_zero, ← hf, List.take_left' hnf]
            have hbsz : (ba b).size = nf + 7 := by rw [ba_size]; exact hbl
            have g1 : ((nf + 7 : Nat) : Int) - 7 = (nf : Int) := by omega
            have g2 : IntKind.i64.wrap (nf : Int) = (nf : Int) := by rw [IntKind.wrap_i64]; omega
            have v1 : W3.cell? ⟨B2, 1, none⟩ = some (.string (ba b)) := (b3.cell (p := ⟨B2, 1, none⟩) hB2.1).trans t1
            have s0 : W3.cell? ⟨w2.heap.size, 0, none⟩ = some (.string (ba a)) := k3.cell 0
            have s3 : W3.cell? ⟨w2.heap.size, 3, none⟩ = some (.string (ba c)) := k3.cell 3
            have s1 : W3.cell? ⟨w2.heap.size, 1, none⟩ = some (.string (ba b)) := k3.cell 1
            have s2 : W3.cell? ⟨w2.heap.size, 2, none⟩ = some (.int .i64 0) := k3.cell 2
            have fr1 : W3.frozen? ⟨w2.heap.size, 1, none⟩ = false := k3.free 1
            have fr2 : W3.frozen? ⟨w2.heap.size, 2, none⟩ = false := k3.free 2
            obtain ⟨W4, hW4⟩ : ∃ W4, ((W3.setCell ⟨w2.heap.size, 1, none⟩ (.string (ba f))).setCell ⟨w2.heap.size, 2, none⟩ (.int .i64 1)).drew = W4 := ⟨_, rfl⟩
            have b4 : Below w2.heap.size w2 W4 := by rw [← hW4]; exact ((b3.setCell (p := ⟨w2.heap.size, 1, none⟩) (Nat.le_refl _) _).setCell (p := ⟨w2.heap.size, 2, none⟩) (Nat.le_refl _) _).drew
            have k4 : Blk W4 w2.heap.size #[.string (ba a), .string (ba f), .int .i64 1, .string (ba c)] 105 := by rw [← hW4]; exact ((k3.set 1 (.string (ba f))).set 2 (.int .i64 1)).drew
            have HW4 := hide hW4
            clear hm hf hnf hW4 b3 k3
            go_wp2_with (go_at_call 62; fail)
            rw [unhide HW3]
            refine (unhide HEN _).mono ?_
            rintro e wn ⟨rfl, hw⟩
            rw [hw]; clear hw wn HEN
            go_wp2
            go_region
            go_wp2_with (go_at_call 63; fail)
            rw [unhide HW4]
            have HX := hide (hli : lineR l = some ⟨a, f, 1, c⟩)
            obtain ⟨E, hE⟩ : ∃ E, oneE out ⟨a, f, 1, c⟩ = E := ⟨_, rfl⟩
            have HST2 : Hid ((if E ≠ 0 then ([], i + 1, E) else if ps.drop (i + 1) = [] then ([], i + 1, 11) else lockF (out ++ [⟨a, f, 1, c⟩]) (i + 1 + 1) (ps.drop (i + 1))) = R) := hide (by
              have h := unhide HST
              rw [unhide HX] at h
              simp only at h
              rwa [hE] at h)
            have HW4L := hide (low_trans (unhide HB2) b4)
            have c40 : W4.cell? ⟨w2.heap.size, 0, none⟩ = some (.string (ba a)) := k4.cell 0
            have c41 : W4.cell? ⟨w2.heap.size, 1, none⟩ = some (.string (ba f)) := k4.cell 1
            have c42 : W4.cell? ⟨w2.heap.size, 2, none⟩ = some (.int .i64 1) := k4.cell 2
            have c43 : W4.cell? ⟨w2.heap.size, 3, none⟩ = some (.string (ba c)) := k4.cell 3
            have HONE := hide (refOne_any (w := W4) (c := c7) (x := ⟨a, f, 1, c⟩) hol (by omega) (hr7.low (unhide HW4L)) (by simp only; omega))
            rw [hE] at HONE
            have HK4 := hide k4
            have HR7 := hide hr7
            clear hli hE b4 k4 HST HX hr7
            refine (unhide HONE).mono ?_
            rintro e w5 ⟨rfl, b5⟩
            have HW5L := hide (low_trans (unhide HW4L) b5)
            have k5 := (unhide HK4).low b5
            have d0 : w5.cell? ⟨w2.heap.size, 0, none⟩ = some (.string (ba a)) := k5.cell 0
            have d1 : w5.cell? ⟨w2.heap.size, 1, none⟩ = some (.string (ba f)) := k5.cell 1
            have d2 : w5.cell? ⟨w2.heap.size, 2, none⟩ = some (.int .i64 1) := k5.cell 2
            have d3 : w5.cell? ⟨w2.heap.size, 3, none⟩ = some (.string (ba c)) := k5.cell 3
            clear b5 k5 HONE HK4
            by_cases hE0 : E = 0
            · have hrow5 : RLines w1.heap.size w5 (.slice a7 i c7) out := row_lowR (unhide HIN).row (unhide HW5L)
              have hlow5 : Below w1.heap.size w1 w5 := low_trans (unhide HIN).low (unhide HW5L)
              obtain ⟨v', w6, happ, hown, hb6⟩ := rapp_one (x := ⟨a, f, 1, c⟩) hrow5 hlow5.size (by omega)
              have HPI : Hid (ParI w1 w6 ps q (i + 1) R v' (out ++ [⟨a, f, 1, c⟩])) := hide ⟨by simp [hol], hown, fun h => by
                  have hd : ps.drop (i + 1) ≠ [] := fun e => by
                    have := congrArg List.length e
                    rw [List.length_drop, unhide HPL] at this
                    simp at this
                    omega
                  have h2 := unhide HST2
                  rwa [if_neg (by simp [hE0]), if_neg hd] at h2, fun h => by
                  have hd : ps.drop (i + 1) = [] := List.drop_eq_nil_of_le (by rw [unhide HPL]; omega)
                  have h2 := unhide HST2
                  rw [if_neg (by simp [hE0]), if_pos hd] at h2
                  rw [← h2, h], hlow5.trans hb6⟩
              simp only at happ
              subst hE0
              clear hrow5 hlow5 hown hb6
              go_wp2_with (at_builtin; refine Lib.wpList_append_run _ rfl _ _ _ _ rfl _ _ rfl rfl _ _ happ ?_)
              go_roundw
              case rel => exact ⟨i + 1, _, hlt, by simp, unhide HPI⟩
              case measure => simp [intOf]; omega
            · have hne : (E != 0) = true := by simpa using hE0
              have HF := hide (unhide HERR E (by have h2 := unhide HST2; rw [if_pos hE0] at h2; exact h2.symm))
              have HFL := hide (low_trans (unhide HLO) (unhide HW5L))
              clear hE0
              go_wp2
              go_ret3
              exact ⟨_, i + 1, E, [], by push_cast; rfl, rlines_nil _ _, unhide HF, unhide HFL⟩
        · have hn : lineR l = none := lineR_no h3
          have HF := hide (unhide HERR 11 (by have := unhide HST; rw [hn] at this; exact this.symm))
          obtain ⟨N, hN⟩ : ∃ N, (pieces 32 l).length = N := ⟨_, rfl⟩
          rw [hN] at h3 ⊢
          have hNe : ((N : Int) != 3) = true := by simp; omega
          clear htw hwsm hwl hcp2 hn h3 hN hB2 b2
          go_wp2
          go_ret3
          exact ⟨_, i + 1, 11, [], by push_cast; rfl, rlines_nil _ _, unhide HF, unhide HLO2⟩
      · have hik : i = K := by omega
        rcases unhide HKZ with ⟨hz, hk⟩ | ⟨hz, hk⟩
        · have hb : bz = true := by rw [← unhide HBZ, hz]; rfl
          have hd : ps.drop i = [[]] := by
            rw [unhide HZ, hik, hk, ← unhide HQS, List.drop_left, hz]
          have hon := (unhide HIN).on (by omega)
          rw [hd] at hon
          have hR2 : R = (out, 0, 0) := by rw [← hon]; rfl
          have HPO2 : Hid (∀ ys : List Ln, ys.Perm out → Rising ys → POut t ys 0 0) := hide (fun ys h1 h2 => unhide HPO ys 0 0 (by rw [hR2]; exact h1) h2 (by rw [hR2]) (by rw [hR2]))
          have HOR := hide (ordered_any (c := c7) hol (by omega) hr7)
          have HLO := hide (low_trans (unhide HB1) (unhide HIN).low)
          subst hb
          clear hd hon hR2 hr7 hz hk hik
          go_wp2_with (go_at_call 64; fail)
          refine (unhide HOR).mono ?_
          rintro e w3 ⟨v3, ys, rfl, l3, hp3, hr3, b3⟩
          have HD := hide (And.intro (rlines_mono l3 (unhide HLO).size) (And.intro (unhide HPO2 ys hp3 hr3) (low_trans (unhide HLO) b3)))
          clear l3 hp3 hr3 b3
          go_wp2
          go_ret3
          exact ⟨_, 0, 0, ys, rfl, (unhide HD).1, (unhide HD).2.1, (unhide HD).2.2⟩
        · have hb : bz = false := by rw [← unhide HBZ]; simpa using hz
          have hR2 := (unhide HIN).stop (by omega)
          have HF : Hid (POut t [] K 11) := hide (unhide HPO [] K 11 (by rw [hR2]) rising_nil (by rw [hR2, hk]) (by rw [hR2]))
          have HLO := hide (low_trans (unhide HB1) (unhide HIN).low)
          subst hb
          clear hR2 hz hk hik
          go_wp2
          go_ret3
          exact ⟨_, K, 11, [], rfl, rlines_nil _ _, unhide HF, unhide HLO⟩

end Go.Proofs.YthcafeoamabkgaaGreatDoor

namespace Go.Proofs.YthcafeoamabkgaaGreatDoor
open Go.RowKit

theorem slice_to44 {a : Option Addr} {n c m : Nat} (h : m ≤ n) (h2 : n ≤ c) (w : World) : (Instr.slice 44 (.slice a n c) none (some (.int .i64 (m : Int))) none).run Tryz.prog w = .ok (.slice a m c) w := by
  simp [Instr.slice, Instr.sliceBounds, Instr.sliceBound, asIntOf, run_underlying Tryz.underlying44, go_sem]
  intro h5
  omega

set_option maxRecDepth 100000 in
set_option maxHeartbeats 8000000 in
theorem refFormat_any {w : World} {a : Option Addr} {n c : Nat} {xs : List Ln} (hn : xs.length = n) (hN : n ≤ 1000) (hc : n ≤ c) (h : LRow w a xs) (hs : Shorts xs) :
    Calls Tryz.prog 22 #[.slice a n c] w fun e w' => ∃ s en, e = .returned (.tuple #[.string (ba s), .int .i64 en]) ∧ FOut xs s en ∧ Below w.heap.size w w' := by
  have HN := hide hn
  have H := hide h
  have HS := hide hs
  clear hn h hs
  go_enter Tryz.func22, Tryz.ntmps22
  go_wp2
  go_loopw [4, 5] (fun v4 _ wr => ∃ i : Nat, i ≤ n ∧ v4 = .int .i64 i ∧ fmtE (xs.take i) (xs.drop i) = fmtE [] xs ∧ Below w.heap.size w wr) (fun v4 _ _ => n - (intOf v4).toNat)
  case atStart => exact ⟨0, Nat.zero_le _, rfl, rfl, Below.refl _ _⟩
  case round =>
    rename World => wr
    obtain ⟨i, hi, rfl, hfm, hbw⟩ := hrel
    by_cases hlt : i < n
    · have hit : i < xs.length := by rw [unhide HN]; exact hlt
      obtain ⟨B, O, rfl, he⟩ : ∃ B O, a = some ⟨B, O, none⟩ ∧ ∀ k (hk : k < xs.length), LnAt wr B (O + k * 4) xs[k] := by
        rcases ((unhide H).low hbw).els with h | h
        · rw [h] at hit; simp at hit
        · exact h
      have ha := he i hit
      have hst := fmt_step hit hfm
      have hsh := unhide HS _ (List.getElem_mem hit)
      have hfront : ∀ wx, Below wr.heap.size wr wx → LRow wx (some ⟨B, O, none⟩) (xs.take i) := fun wx hx => by
        have h1 : LRow wx (some ⟨B, O, none⟩) (xs.take i ++ xs.drop i) := by rw [List.take_append_drop]; exact (unhide H).low (low_trans hbw hx)
        exact h1.front
      have htl : (xs.take i).length = i := by rw [List.length_take]; omega
      obtain ⟨x, hx⟩ : ∃ x, xs[i] = x := ⟨_, rfl⟩
      rw [hx] at ha hst hsh
      obtain ⟨p, v, k, s⟩ := x
      simp only at ha hst hsh
      obtain ⟨m1, m2, m3, m4⟩ := ha
      obtain ⟨E, hE⟩ : ∃ E, oneE (xs.take i) ⟨p, v, k, s⟩ = E := ⟨_, rfl⟩
      rw [hE] at hst
      have HST := hide hst
      have HBW := hide hbw
      have hS0 : wr.cell? ⟨B, O + i * 4, none⟩ = some (.string (ba p)) ∧ wr.cell? ⟨B, O + i * 4 + 1, none⟩ = some (.string (ba v)) ∧ wr.cell? ⟨B, O + i * 4 + 2, none⟩ = some (.int .i64 k) ∧ wr.cell? ⟨B, O + i * 4 + 3, none⟩ = some (.string (ba s)) ∧ Below wr.heap.size wr wr := ⟨m1, m2, m3, m4, Below.refl _ _⟩
      have hSd : wr.drew.cell? ⟨B, O + i * 4, none⟩ = some (.string (ba p)) ∧ wr.drew.cell? ⟨B, O + i * 4 + 1, none⟩ = some (.string (ba v)) ∧ wr.drew.cell? ⟨B, O + i * 4 + 2, none⟩ = some (.int .i64 k) ∧ wr.drew.cell? ⟨B, O + i * 4 + 3, none⟩ = some (.string (ba s)) ∧ Below wr.heap.size wr wr.drew := ⟨m1, m2, m3, m4, (Below.refl _ _).drew⟩
      have K63 : Hid (∀ wx, (wx.cell? ⟨B, O + i * 4, none⟩ = some (.string (ba p)) ∧ wx.cell? ⟨B, O + i * 4 + 1, none⟩ = some (.string (ba v)) ∧ wx.cell? ⟨B, O + i * 4 + 2, none⟩ = some (.int .i64 k) ∧ wx.cell? ⟨B, O + i * 4 + 3, none⟩ = some (.string (ba s)) ∧ Below wr.heap.size wr wx) → Calls Tryz.prog 63 #[.slice (some ⟨B, O, none⟩) i c, Value.agg #[.string (ba p), .string (ba v), .int .i64 k, .string (ba s)]] wx fun e w' => e = .returned (.int .i64 E) ∧ (w'.cell? ⟨B, O + i * 4, none⟩ = some (.string (ba p)) ∧ w'.cell? ⟨B, O + i * 4 + 1, none⟩ = some (.string (ba v)) ∧ w'.cell? ⟨B, O + i * 4 + 2, none⟩ = some (.int .i64 k) ∧ w'.cell? ⟨B, O + i * 4 + 3, none⟩ = some (.string (ba s)) ∧ Below wr.heap.size wr w')) := hide (fun wx ⟨x1, x2, x3, x4, x5⟩ => by
        refine (refOne_any (c := c) (x := ⟨p, v, k, s⟩) htl (by omega) (hfront wx x5) (by simp only; omega)).mono ?_
        rintro e w' ⟨rfl, b⟩
        have f : ∀ {p : Addr} {u : Value}, wx.cell? p = some u → w'.cell? p = some u := fun {p u} hp => (b.cell (lt_of_cell hp)).trans hp
        exact ⟨by rw [hE], f x1, f x2, f x3, f x4, low_trans x5 b⟩)
      have t1 : ∀ W, (Instr.slice 44 (.slice (some ⟨B, O, none⟩) n c) none (some (.int .i64 (i : Int))) none).run Tryz.prog W = .ok (.slice (some ⟨B, O, none⟩) i c) W := fun W => slice_to44 (by omega) hc W
      clear he hx hst hsh hfront htl hbw hE hfm
      by_cases hk : k ≠ 0 ∧ k ≠ 1
      · have q1 : (k != 0) = true := by simpa using hk.1
        have q2 : (k != 1) = true := by simpa using hk.2
        have HF : Hid (FOut xs [] 7) := hide (Or.inl ⟨by rw [unhide HST, if_pos hk]; decide, by rw [unhide HST, if_pos hk], rfl⟩)
        clear hk hS0 hSd
        go_wp2
        go_ret2
        exact ⟨[], 7, rfl, unhide HF, unhide HBW⟩
      · have HST2 : Hid (fmtE [] xs = if E ≠ 0 then E else fmtE (xs.take (i + 1)) (xs.drop (i + 1))) := hide (by rw [unhide HST, if_neg hk])
        have hkk : k = 0 ∨ k = 1 := by omega
        clear hk HST
        rcases hkk with rfl | rfl
        all_goals
          go_wp2
          go_region_with (first
            | (go_at_call 63; refine (unhide K63 _ (by first | exact hS0 | exact hSd)).mono ?_; rintro e w9 ⟨rfl, hS9⟩))
          all_goals
            have HB9 := hide (low_trans (unhide HBW) hS9.2.2.2.2)
            clear hS0 hSd hS9
            by_cases h0 : E = 0
            · have HD : Hid (fmtE (xs.take (i + 1)) (xs.drop (i + 1)) = fmtE [] xs) := hide (by rw [unhide HST2, if_neg (by simp [h0])])
              subst h0
              go_wp2
              go_roundw
              case rel => exact ⟨i + 1, hlt, by simp, unhide HD, unhide HB9⟩
              case measure => simp [intOf]; omega
            · have hne : (E != 0) = true := by simpa using h0
              have HF : Hid (FOut xs [] E) := hide (Or.inl ⟨by rw [unhide HST2, if_pos h0]; exact h0, by rw [unhide HST2, if_pos h0], rfl⟩)
              go_wp2
              go_ret2
              exact ⟨[], E, rfl, unhide HF, unhide HB9⟩
    · have hin : xs.take i = xs := List.take_of_length_le (by rw [unhide HN]; omega)
      have hdr : xs.drop i = [] := List.drop_eq_nil_of_le (by rw [unhide HN]; omega)
      rw [hin, hdr] at hfm
      have h0 : fmtE [] xs = 0 := by rw [← hfm]; rfl
      have H0 := hide h0
      have HOR := hide (ordered_any (c := c) (unhide HN) (by omega) ((unhide H).low hbw))
      have HBW := hide hbw
      clear hin hdr hfm h0 hbw
      go_wp2_with (go_at_call 64; fail)
      refine (unhide HOR).mono ?_
      rintro e w2 ⟨v2, zs, rfl, lz, hpz, hrz, bz⟩
      obtain ⟨a2, c2, rfl, lr2, _⟩ := RLines.at lz
      have hzn : zs.length = n := by rw [hpz.length_eq]; exact unhide HN
      rw [hzn]
      have HZN := hide hzn
      have HL2 := hide lr2
      have HB2 := hide (low_trans (unhide HBW) bz)
      have HPZ := hide (And.intro hpz hrz)
      have HSZ : Hid (Shorts zs) := hide (fun y hy => unhide HS y (hpz.mem_iff.1 hy))
      clear hpz hrz lz bz lr2 hzn HOR
      go_wp2
      go_loopw [6, 7] (fun v6 v7 wr => ∃ i q : Nat, i ≤ n ∧ v7 = .int .i64 i ∧ v6 = .string (ba (textL (zs.take i))) ∧ wr = w2.drewN q) (fun _ v7 _ => n - (intOf v7).toNat)
      case atStart => exact ⟨0, 0, Nat.zero_le _, rfl, rfl, rfl⟩
      case round =>
        rename World => wq
        clear hi hlt
        obtain ⟨i, q, hi, rfl, rfl, hwq⟩ := hrel
        by_cases hlt : i < n
        · have hit : i < zs.length := by rw [unhide HZN]; exact hlt
          obtain ⟨B, O, rfl, he⟩ : ∃ B O, a2 = some ⟨B, O, none⟩ ∧ ∀ k (hk : k < zs.length), LnAt w2 B (O + k * 4) zs[k] := by
            rcases (unhide HL2).els with h | h
            · rw [h] at hit; simp at hit
            · exact h
          have ha := he i hit
          have hsn := text_snoc hit
          have hsh := unhide HSZ _ (List.getElem_mem hit)
          have htl := text_len (xs := zs.take i) (fun y hy => unhide HSZ y (List.mem_of_mem_take hy))
          have htl2 : (zs.take i).length ≤ 1000 := by rw [List.length_take]; omega
          obtain ⟨x, hx⟩ : ∃ x, zs[i] = x := ⟨_, rfl⟩
          rw [hx] at ha hsn hsh
          obtain ⟨m1, m2, m3, m4⟩ := ha
          obtain ⟨T, hT⟩ : ∃ T, textL (zs.take i) = T := ⟨_, rfl⟩
          rw [hT] at hsn htl ⊢
          have q1 : wq.cell? ⟨B, O + i * 4, none⟩ = some (.string (ba x.p)) := by rw [hwq]; exact m1
          have q2 : wq.cell? ⟨B, O + i * 4 + 1, none⟩ = some (.string (ba x.v)) := by rw [hwq]; exact m2
          have q3 : wq.cell? ⟨B, O + i * 4 + 2, none⟩ = some (.int .i64 x.k) := by rw [hwq]; exact m3
          have q4 : wq.cell? ⟨B, O + i * 4 + 3, none⟩ = some (.string (ba x.s)) := by rw [hwq]; exact m4
          have HQ := hide hwq
          have HSN := hide hsn
          obtain ⟨p, v, k, s⟩ := x
          simp only at q1 q2 q3 q4 hsh
          obtain ⟨h1, h2, h3⟩ := hsh
          have hTb : T.length ≤ 4000000000 := by omega
          clear he hx m1 m2 m3 m4 hT hwq hsn htl htl2
          have z0 := ba_size T
          have z1 := ba_size p
          have z2 := ba_size v
          have z3 := ba_size s
          by_cases hk : k = 1
          · have HF : Hid (textL (zs.take (i + 1)) = (((((T ++ p) ++ [32]) ++ v) ++ gmL) ++ [32]) ++ s ++ [10]) := hide (by
              rw [unhide HSN]; unfold lineT verT; simp only; rw [if_pos hk]; simp)
            have y1 : (ba (T ++ p)).size = T.length + p.length := by rw [ba_size]; simp
            have y2 : (ba ((T ++ p) ++ [32])).size = T.length + p.length + 1 := by rw [ba_size]; simp; omega
            have y3 : (ba (((T ++ p) ++ [32]) ++ v)).size = T.length + p.length + 1 + v.length := by rw [ba_size]; simp; omega
            have y4 : (ba ((((T ++ p) ++ [32]) ++ v) ++ gmL)).size = T.length + p.length + 1 + v.length + 7 := by rw [ba_size]; simp [gmL]; omega
            have y5 : (ba (((((T ++ p) ++ [32]) ++ v) ++ gmL) ++ [32])).size = T.length + p.length + 1 + v.length + 8 := by rw [ba_size]; simp [gmL]; omega
            have y6 : (ba ((((((T ++ p) ++ [32]) ++ v) ++ gmL) ++ [32]) ++ s)).size = T.length + p.length + 1 + v.length + 8 + s.length := by rw [ba_size]; simp [gmL]; omega
            have c1 : ba T ++ ba p = ba (T ++ p) := ba_app _ _
            have c2 : ba (T ++ p) ++ ⟨#[32]⟩ = ba ((T ++ p) ++ [32]) := ba_app _ [32]
            have c3 : ba ((T ++ p) ++ [32]) ++ ba v = ba (((T ++ p) ++ [32]) ++ v) := ba_app _ _
            have c4 : ba (((T ++ p) ++ [32]) ++ v) ++ ⟨#[47, 103, 111, 46, 109, 111, 100]⟩ = ba ((((T ++ p) ++ [32]) ++ v) ++ gmL) := ba_app _ gmL
            have c5 : ba ((((T ++ p) ++ [32]) ++ v) ++ gmL) ++ ⟨#[32]⟩ = ba (((((T ++ p) ++ [32]) ++ v) ++ gmL) ++ [32]) := ba_app _ [32]
            have c6 : ba (((((T ++ p) ++ [32]) ++ v) ++ gmL) ++ [32]) ++ ba s = ba ((((((T ++ p) ++ [32]) ++ v) ++ gmL) ++ [32]) ++ s) := ba_app _ _
            have c7 : ba ((((((T ++ p) ++ [32]) ++ v) ++ gmL) ++ [32]) ++ s) ++ ⟨#[10]⟩ = ba (textL (zs.take (i + 1))) := by rw [unhide HF]; exact ba_app _ [10]
            subst hk
            generalize hq1 : ba (T ++ p) = r1 at *
            generalize hq2 : ba ((T ++ p) ++ [32]) = r2 at *
            generalize hq3 : ba (((T ++ p) ++ [32]) ++ v) = r3 at *
            generalize hq4 : ba ((((T ++ p) ++ [32]) ++ v) ++ gmL) = r4 at *
            generalize hq5 : ba (((((T ++ p) ++ [32]) ++ v) ++ gmL) ++ [32]) = r5 at *
            generalize hq6 : ba ((((((T ++ p) ++ [32]) ++ v) ++ gmL) ++ [32]) ++ s) = r6 at *
            clear hq1 hq2 hq3 hq4 hq5 hq6 HF
            go_wp2
            go_quiet (fail)
            go_wp2
            go_roundw
            case rel => exact ⟨i + 1, _, hlt, by simp, rfl, by rw [unhide HQ, World.drewN_drewN]⟩
            case measure => simp [intOf]; omega
          · have HF : Hid (textL (zs.take (i + 1)) = ((((T ++ p) ++ [32]) ++ v) ++ [32]) ++ s ++ [10]) := hide (by
              rw [unhide HSN]; unfold lineT verT; simp only; rw [if_neg hk]; simp)
            have hk' : (k == 1) = false := by simpa using hk
            have y1 : (ba (T ++ p)).size = T.length + p.length := by rw [ba_size]; simp
            have y2 : (ba ((T ++ p) ++ [32])).size = T.length + p.length + 1 := by rw [ba_size]; simp; omega
            have y3 : (ba (((T ++ p) ++ [32]) ++ v)).size = T.length + p.length + 1 + v.length := by rw [ba_size]; simp; omega
            have y5 : (ba ((((T ++ p) ++ [32]) ++ v) ++ [32])).size = T.length + p.length + 1 + v.length + 1 := by rw [ba_size]; simp; omega
            have y6 : (ba (((((T ++ p) ++ [32]) ++ v) ++ [32]) ++ s)).size = T.length + p.length + 1 + v.length + 1 + s.length := by rw [ba_size]; simp; omega
            have c1 : ba T ++ ba p = ba (T ++ p) := ba_app _ _
            have c2 : ba (T ++ p) ++ ⟨#[32]⟩ = ba ((T ++ p) ++ [32]) := ba_app _ [32]
            have c3 : ba ((T ++ p) ++ [32]) ++ ba v = ba (((T ++ p) ++ [32]) ++ v) := ba_app _ _
            have c5 : ba (((T ++ p) ++ [32]) ++ v) ++ ⟨#[32]⟩ = ba ((((T ++ p) ++ [32]) ++ v) ++ [32]) := ba_app _ [32]
            have c6 : ba ((((T ++ p) ++ [32]) ++ v) ++ [32]) ++ ba s = ba (((((T ++ p) ++ [32]) ++ v) ++ [32]) ++ s) := ba_app _ _
            have c7 : ba (((((T ++ p) ++ [32]) ++ v) ++ [32]) ++ s) ++ ⟨#[10]⟩ = ba (textL (zs.take (i + 1))) := by rw [unhide HF]; exact ba_app _ [10]
            generalize hq1 : ba (T ++ p) = r1 at *
            generalize hq2 : ba ((T ++ p) ++ [32]) = r2 at *
            generalize hq3 : ba (((T ++ p) ++ [32]) ++ v) = r3 at *
            generalize hq5 : ba ((((T ++ p) ++ [32]) ++ v) ++ [32]) = r5 at *
            generalize hq6 : ba (((((T ++ p) ++ [32]) ++ v) ++ [32]) ++ s) = r6 at *
            clear hq1 hq2 hq3 hq5 hq6 HF hk
            go_wp2
            go_quiet (fail)
            go_wp2
            go_roundw
            case rel => exact ⟨i + 1, _, hlt, by simp, rfl, by rw [unhide HQ, World.drewN_drewN]⟩
            case measure => simp [intOf]; omega
        · have hin : zs.take i = zs := List.take_of_length_le (by rw [unhide HZN]; omega)
          have htl := text_len (unhide HSZ)
          rw [unhide HZN] at htl
          rw [hin]
          have HFO : Hid (FOut xs (wrS (textL zs)) (wrE (textL zs))) := hide (Or.inr ⟨unhide H0, zs, (unhide HPZ).1, (unhide HPZ).2, by
            by_cases hb : 65536 < (textL zs).length
            · exact Or.inl ⟨hb, if_pos hb, if_pos hb⟩
            · exact Or.inr ⟨by omega, if_neg hb, if_neg hb⟩⟩)
          have HB3 : Hid (Below w.heap.size w wq) := hide (by rw [hwq]; exact low_drewN (unhide HB2) _)
          obtain ⟨T, hT⟩ : ∃ T, textL zs = T := ⟨_, rfl⟩
          rw [hT] at HFO htl ⊢
          have z0 := ba_size T
          clear hin hT hwq
          by_cases hbig : 65536 < T.length
          · have hq : (65536 : Int) < (T.length : Int) := by omega
            have HV : Hid (FOut xs [] 13) := hide (by have := unhide HFO; unfold wrS wrE at this; rwa [if_pos hbig, if_pos hbig] at this)
            clear hbig
            go_wp2
            go_ret2
            exact ⟨[], 13, rfl, unhide HV, unhide HB3⟩
          · have hq : ¬ (65536 : Int) < (T.length : Int) := by omega
            have HV : Hid (FOut xs T 0) := hide (by have := unhide HFO; unfold wrS wrE at this; rwa [if_neg hbig, if_neg hbig] at this)
            clear hbig
            go_wp2
            go_ret2
            exact ⟨T, 0, rfl, unhide HV, unhide HB3⟩

end Go.Proofs.YthcafeoamabkgaaGreatDoor
