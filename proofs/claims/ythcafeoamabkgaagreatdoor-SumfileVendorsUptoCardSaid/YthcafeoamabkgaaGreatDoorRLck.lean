/-
  The reference's ValidSum, one, Ends, lines: the contracts.
-/
import Derived.Test.YthcafeoamabkgaaGreatDoorWrtX
import Derived.Test.YthcafeoamabkgaaGreatDoorBsfX
import Derived.Test.YthcafeoamabkgaaGreatDoorRefG
import Derived.Test.YthcafeoamabkgaaGreatDoorMrgX
import Derived.BigQuiet
namespace Go.Proofs.YthcafeoamabkgaaGreatDoor
open Go.RowKit

theorem ends_no {s u : Str} (h : s.length < u.length) (w : World) : Calls Tryz.prog 62 #[.string (ba s), .string (ba u)] w fun e w' => e = .returned (.bool false) ∧ w' = w := by
  have ss := ba_size s
  have su := ba_size u
  have h1 : ¬ ((u.length : Int) ≤ s.length) := by omega
  go_enter Tryz.func62, Tryz.ntmps62
  go_wp2
  go_ret
  exact ⟨rfl, rfl⟩

theorem ends_at {s u f t : Str} (h : s = f ++ t) (ht : t.length = u.length) (hs : s.length ≤ 4294967281) (w : World) : Calls Tryz.prog 62 #[.string (ba s), .string (ba u)] w fun e w' => e = .returned (.bool (t == u)) ∧ w' = w := by
  have ss := ba_size s
  have su := ba_size u
  have hl : s.length = f.length + t.length := by rw [h]; simp
  have h1 : (u.length : Int) ≤ s.length := by omega
  have hx : (ba s).extract f.length (f.length + u.length) = ba t := by
    rw [← ht, ← hl, sub_of, h, List.drop_left, List.take_of_length_le (by simp)]
  have hlt := ba_list t
  have hlu := ba_list u
  clear h
  go_enter Tryz.func62, Tryz.ntmps62
  go_wp2
  go_ret
  exact ⟨rfl, rfl⟩

theorem ends_is {s u : Str} {b : Bool} (h : Lib.hasSuffix s u = b) (hs : s.length ≤ 4294967281) (w : World) : Calls Tryz.prog 62 #[.string (ba s), .string (ba u)] w fun e w' => e = .returned (.bool b) ∧ w' = w := by
  rw [← Lib.hasSuffix_of_drop] at h
  by_cases hl : u.length ≤ s.length
  · have e : (s.drop (s.length - u.length) == u) = b := by rw [← h]; simp [hl]
    rw [← e]
    exact ends_at (f := s.take (s.length - u.length)) (List.take_append_drop _ _).symm (by simp; omega) hs w
  · have e : b = false := by rw [← h]; simp [hl]
    rw [e]
    exact ends_no (by omega) w

set_option maxRecDepth 100000 in
set_option maxHeartbeats 2000000 in
theorem refSum_any {s : Str} (w : World) : Tells 26 #[.string (ba s)] w (.bool (sumB s)) := by
  unfold Tells
  have hsz := ba_size s
  by_cases h47 : s.length = 47
  · obtain ⟨h, hh⟩ : ∃ h, s.take 3 = h := ⟨_, rfl⟩
    obtain ⟨t, ht⟩ : ∃ t, s.drop 3 = t := ⟨_, rfl⟩
    have x1 : (ba s).extract 0 3 = ba h := by rw [sub_of, List.drop_zero, Nat.sub_zero, hh]
    have x2 : (ba s).extract 3 47 = ba t := by rw [sub_of, ht, List.take_of_length_le (by rw [← ht]; simp; omega)]
    have hlh := ba_list h
    by_cases hhe : h = headL
    · have HV := hide (sum_ref h47 (by rw [hh, hhe]))
      rw [ht] at HV
      have HF := hide (refFrom_any (w := w) (s := t) (by rw [← ht]; simp; omega))
      have q1 : (h == [104, 49, 58]) = true := by rw [hhe]; rfl
      have q2 : (h != [104, 49, 58]) = false := by rw [hhe]; rfl
      have hlit : (⟨#[104, 49, 58]⟩ : ByteArray).toList = [104, 49, 58] := ba_list [104, 49, 58]
      rw [h47] at hsz
      clear hh ht hhe h47
      go_enter Tryz.func26, Tryz.ntmps26
      go_wp2_with (go_at_call 68; fail)
      refine (unhide HF).mono ?_
      rintro e w1 ⟨v, rfl, ho, hb⟩
      obtain ⟨a, c, rfl, _, _, _⟩ := OwnB.at ho
      have HB := hide hb
      obtain ⟨E, hE⟩ : ∃ E, fromE t = E := ⟨_, rfl⟩
      obtain ⟨L, hL⟩ : ∃ L, (fromV t).length = L := ⟨_, rfl⟩
      have HS : Hid (sumB s = (decide (E = 0) && decide (L = 32))) := hide (by rw [unhide HV, ← hE, ← hL]; rfl)
      rw [hE, hL]
      clear ho hb hE hL HV
      by_cases h0 : E = 0
      · subst h0
        go_wp2
        go_ret
        refine ⟨ret_bool ?_, unhide HB⟩
        rw [unhide HS, Bool.eq_iff_iff]
        simp
        omega
      · have hne : (E == 0) = false := by simpa using h0
        go_wp2
        go_ret
        refine ⟨ret_bool ?_, unhide HB⟩
        rw [unhide HS]
        simp [h0]
    · have HV := hide (sum_head (s := s) (by rw [hh]; exact hhe))
      have q1 : (h == [104, 49, 58]) = false := by simpa [headL] using hhe
      have q2 : (h != [104, 49, 58]) = true := by simpa [headL] using hhe
      have hlit : (⟨#[104, 49, 58]⟩ : ByteArray).toList = [104, 49, 58] := ba_list [104, 49, 58]
      rw [h47] at hsz
      clear hh ht hhe h47
      go_enter Tryz.func26, Tryz.ntmps26
      go_wp2
      go_ret
      exact ⟨ret_bool (unhide HV).symm, Below.refl _ _⟩
  · have HV := hide (sum_long h47)
    have q1 : ((s.length : Int) != 47) = true := by simp; omega
    have q2 : ((s.length : Int) == 47) = false := by simp; omega
    clear h47
    go_enter Tryz.func26, Tryz.ntmps26
    go_wp2
    go_ret
    exact ⟨ret_bool (unhide HV).symm, Below.refl _ _⟩
theorem refSum_is {s : Str} {b : Bool} (h : sumB s = b) (w : World) : Tells 26 #[.string (ba s)] w (.bool b) := by rw [← h]; exact refSum_any w

set_option maxRecDepth 100000 in
set_option maxHeartbeats 4000000 in
/-- A line's error, with those ahead. -/
theorem refOne_any {w : World} {a : Option Addr} {n c : Nat} {xs : List Ln} {x : Ln} (hn : xs.length = n) (hN : n ≤ 1000000) (h : LRow w a xs) (hp : x.p.length < 4294967281) :
    Calls Tryz.prog 63 #[.slice a n c, lnV x] w fun e w' => e = .returned (.int .i64 (oneE xs x)) ∧ Below w.heap.size w w' := by
  obtain ⟨W0, hW0⟩ : ∃ W0, w.alloc (.cells #[.string (ba x.p), .string (ba x.v), .int .i64 x.k, .string (ba x.s)] 105) = W0 := ⟨_, rfl⟩
  have b0 : Below w.heap.size w W0 := by rw [← hW0]; exact (Below.refl _ _).alloc (Nat.le_refl _) _
  have k0 : Blk W0 w.heap.size #[.string (ba x.p), .string (ba x.v), .int .i64 x.k, .string (ba x.s)] 105 := by rw [← hW0]; exact Blk.new _ _ _
  obtain ⟨C, hC⟩ : ∃ C, checkR x.p x.v = C := ⟨_, rfl⟩
  obtain ⟨S, hS⟩ : ∃ S, sumB x.s = S := ⟨_, rfl⟩
  have HE : Hid (oneE xs x = if C ≠ 0 then (C : Int) else if S then (if ∃ y ∈ xs, keyL y = keyL x then 12 else 0) else 16) := hide (by unfold oneE; rw [hC, hS])
  have HC := hide (fun wx => refCheck_is hC hp wx)
  have HS := hide (fun wx => refSum_is hS wx)
  obtain ⟨E, hE⟩ : ∃ E, oneE xs x = E := ⟨_, rfl⟩
  rw [hE] at HE ⊢
  have HN := hide hn
  have H := hide (h.low b0)
  have HB0 := hide b0
  have HK0 := hide k0
  have HW0 := hide hW0
  clear hn h b0 k0 hW0 hC hS hE
  obtain ⟨p, v, k, s⟩ := x
  go_enter Tryz.func63, Tryz.ntmps63
  go_wp2_with (go_at_call 107; fail)
  rw [unhide HW0]
  refine (unhide HC _).mono ?_
  rintro e w1 ⟨rfl, b1⟩
  by_cases hc0 : C = 0
  · have hcz : ((C : Int) != 0) = false := by rw [hc0]; rfl
    have hcz2 : (C : Int) = 0 := by omega
    have K1 := hide ((unhide HK0).low b1)
    have H1 := hide ((unhide H).low b1)
    have B1 := hide (low_trans (unhide HB0) b1)
    have c3 : w1.cell? ⟨w.heap.size, 3, none⟩ = some (.string (ba s)) := (unhide K1).cell 3
    clear b1 hc0
    go_wp2_with (go_at_call 26; fail)
    refine (unhide HS _).mono ?_
    rintro e w2 ⟨rfl, b2⟩
    cases S with
    | false =>
      have HF : Hid (E = 16) := hide (by rw [unhide HE, if_neg (by omega)]; rfl)
      have HB := hide (low_trans (unhide B1) b2)
      clear b2
      go_wp2
      go_ret
      rw [unhide HF]
      exact ⟨rfl, unhide HB⟩
    | true =>
      have HE2 : Hid (E = if ∃ y ∈ xs, keyL y = keyL ⟨p, v, k, s⟩ then 12 else 0) := hide (by rw [unhide HE, if_neg (by omega)]; rfl)
      have K2 := hide ((unhide K1).low b2)
      have H2 := hide ((unhide H1).low b2)
      have B2 := hide (low_trans (unhide B1) b2)
      have d0 : w2.cell? ⟨w.heap.size, 0, none⟩ = some (.string (ba p)) := (unhide K2).cell 0
      have d1 : w2.cell? ⟨w.heap.size, 1, none⟩ = some (.string (ba v)) := (unhide K2).cell 1
      have d2 : w2.cell? ⟨w.heap.size, 2, none⟩ = some (.int .i64 k) := (unhide K2).cell 2
      clear b2 c3
      go_wp2
      go_loopw [6] (fun v6 wr => ∃ i q : Nat, i ≤ n ∧ v6 = .int .i64 i ∧ (∀ y ∈ xs.take i, ¬ keyL y = keyL ⟨p, v, k, s⟩) ∧ wr = w2.drewN q) (fun v6 _ => n - (intOf v6).toNat)
      case atStart => exact ⟨0, 0, Nat.zero_le _, rfl, by simp, rfl⟩
      case round =>
        rename World => wr
        obtain ⟨i, q, hi, rfl, hno, hwr⟩ := hrel
        have HNO := hide hno
        have HWR := hide hwr
        clear hno
        by_cases hlt : i < n
        · have hit : i < xs.length := by rw [unhide HN]; exact hlt
          obtain ⟨B, O, rfl, he⟩ : ∃ B O, a = some ⟨B, O, none⟩ ∧ ∀ k (hk : k < xs.length), LnAt w2 B (O + k * 4) xs[k] := by
            rcases (unhide H2).els with h | h
            · rw [h] at hit; simp at hit
            · exact h
          have ha := he i hit
          have hmem := List.getElem_mem hit
          have htk : xs.take (i + 1) = xs.take i ++ [xs[i]] := List.take_succ_eq_append_getElem hit
          obtain ⟨y, hy⟩ : ∃ y, xs[i] = y := ⟨_, rfl⟩
          rw [hy] at ha hmem htk
          obtain ⟨m1, m2, m3, m4⟩ := ha
          have q1 : wr.cell? ⟨B, O + i * 4, none⟩ = some (.string (ba y.p)) := by rw [hwr]; exact m1
          have q2 : wr.cell? ⟨B, O + i * 4 + 1, none⟩ = some (.string (ba y.v)) := by rw [hwr]; exact m2
          have q3 : wr.cell? ⟨B, O + i * 4 + 2, none⟩ = some (.int .i64 y.k) := by rw [hwr]; exact m3
          have q4 : wr.cell? ⟨B, O + i * 4 + 3, none⟩ = some (.string (ba y.s)) := by rw [hwr]; exact m4
          have q5 : wr.cell? ⟨w.heap.size, 0, none⟩ = some (.string (ba p)) := by rw [hwr]; exact d0
          have q6 : wr.cell? ⟨w.heap.size, 1, none⟩ = some (.string (ba v)) := by rw [hwr]; exact d1
          have q7 : wr.cell? ⟨w.heap.size, 2, none⟩ = some (.int .i64 k) := by rw [hwr]; exact d2
          have hkp := key_part y ⟨p, v, k, s⟩
          have HYES : Hid (keyL y = keyL ⟨p, v, k, s⟩ → E = 12) := hide (fun e => by rw [unhide HE2, if_pos ⟨y, hmem, e⟩])
          have HNEXT : Hid (¬ keyL y = keyL ⟨p, v, k, s⟩ → ∀ z ∈ xs.take (i + 1), ¬ keyL z = keyL ⟨p, v, k, s⟩) := hide (fun hne z hz => by
            rw [htk] at hz
            rcases List.mem_append.1 hz with hz | hz
            · exact unhide HNO z hz
            · simp at hz; subst hz; exact hne)
          clear he hy m1 m2 m3 m4 hwr hmem htk
          simp only at hkp
          rcases hkp with ⟨hk, hs', f1, f2, f3, f4, f5⟩ | ⟨hk, hs', f1, f2, f3, f4, f5⟩ | ⟨hk, f1⟩ | ⟨hk, f1, f2⟩ | ⟨hk, f1, f2, f3⟩
          · have HF := hide ((unhide HYES) hk)
            clear hk hs' f4 f5 HYES HNEXT
            go_wp2
            go_quiet (fail)
            go_wp2
            go_ret
            rw [unhide HF]
            exact ⟨rfl, by rw [unhide HWR]; exact low_drewN (low_drewN (unhide B2) _) _⟩
          · have HF := hide ((unhide HYES) hk)
            clear hk hs' f4 f5 HYES HNEXT
            go_wp2
            go_quiet (fail)
            go_wp2
            go_ret
            rw [unhide HF]
            exact ⟨rfl, by rw [unhide HWR]; exact low_drewN (low_drewN (unhide B2) _) _⟩
          all_goals
            have HF := hide ((unhide HNEXT) hk)
            clear hk HYES HNEXT
            go_wp2
            go_quiet (fail)
            go_wp2
            go_roundw
            case rel => exact ⟨i + 1, q + nq, hlt, by simp, unhide HF, by rw [unhide HWR, World.drewN_drewN]⟩
            case measure => simp [intOf]; omega
        · have hall : xs.take i = xs := List.take_of_length_le (by rw [unhide HN]; omega)
          have HF : Hid (E = 0) := hide (by
            rw [unhide HE2, if_neg]
            rintro ⟨y, hy, e⟩
            exact unhide HNO y (by rw [hall]; exact hy) e)
          clear hall hwr
          go_wp2
          go_ret
          rw [unhide HF]
          exact ⟨rfl, by rw [unhide HWR]; exact low_drewN (unhide B2) _⟩
  · have hcz : ((C : Int) != 0) = true := by simpa using hc0
    have HF : Hid (E = (C : Int)) := hide (by rw [unhide HE, if_pos hc0])
    have HB := hide (low_trans (unhide HB0) b1)
    clear b1 hc0
    go_wp2
    go_ret
    rw [unhide HF]
    exact ⟨rfl, unhide HB⟩

/-- The pieces, by Cut; the room is as great as they are many. -/
theorem refCut2_any (c : UInt8) {l : Str} (hl : l.length < 4294967281) (w : World) : Calls Tryz.prog 44 #[.string (ba l), .int .u8 (c.toNat : Int)] w fun e w' =>
    ∃ B cp, e = .returned (.slice (some ⟨B, 0, none⟩) (pieces c l).length cp) ∧ Texts w' B (pieces c l) ∧ (B < w'.heap.size ∧ w.heap.size ≤ B) ∧ Below w.heap.size w w' ∧ (pieces c l).length ≤ cp := by
  refine (refCut_row c hl w).mono ?_
  rintro e w' ⟨v, rfl, hown, hb⟩
  rcases hown.2 with ⟨_, h0⟩ | ⟨g, cap, cur, rfl, hg, hblk, hle, _, _, ht⟩
  · exact absurd (List.length_eq_zero_iff.1 h0) (pieces_ne c l)
  · refine ⟨g, cap, rfl, ?_, ⟨(Array.getElem?_eq_some_iff.1 hblk).1, hg⟩, hb, hle⟩
    intro k hk
    rw [Lib.cell_of_heap hblk]
    have h1 : cur.toList[k]? = (strsV (pieces c l))[k]? := by rw [← ht, List.getElem?_take_of_lt (by omega)]
    have h2 : cur[k]? = cur.toList[k]? := by simp
    rw [h2, h1]
    simp [strsV, hk]

set_option maxRecDepth 100000 in
set_option maxHeartbeats 1000000 in
/-- The lines of a text. -/
theorem refLines_any {t : Str} {qs : List Str} {z : Str} {q K : Nat} {bz : Bool} (hl : t.length < 4294967281) (hp : pieces 10 t = qs ++ [z]) (hq : qs.length = q) (hK : (if z = [] then q else q + 1) = K) (hbz : decide (z = []) = bz) (w : World) :
    Calls Tryz.prog 61 #[.string (ba t)] w fun e w' => ∃ B cp, e = .returned (.tuple #[.slice (some ⟨B, 0, none⟩) K cp, .bool bz]) ∧ Texts w' B (pieces 10 t) ∧ (B < w'.heap.size ∧ w.heap.size ≤ B) ∧ Below w.heap.size w w' := by
  have HC := hide (refCut2_any 10 hl w)
  have hlen : (pieces 10 t).length = q + 1 := by rw [hp]; simp [hq]
  have hqs : q ≤ t.length + 1 := by
    have h1 := pieces_length 10 t
    have h2 := Lib.count_le t [10]
    omega
  have HP := hide hp
  have HQ := hide hq
  have HL := hide hlen
  clear hp hq hlen
  by_cases hz : z = []
  · obtain rfl : q = K := by rw [← hK, if_pos hz]
    obtain rfl : bz = true := by rw [← hbz, decide_eq_true hz]
    have z1 : (ba z).toList.isEmpty = true := by rw [hz]; exact ba_em
    clear hK hbz hz
    go_enter Tryz.func61, Tryz.ntmps61
    go_wp2_with (go_at_call 44; fail)
    refine (unhide HC).mono ?_
    rintro e w1 ⟨B, cp, rfl, ht, hB, hb, hcp⟩
    have hcell : w1.cell? ⟨B, q, none⟩ = some (.string (ba z)) := by
      have := ht q (by rw [unhide HL]; omega)
      rw [this]
      have e1 : (pieces 10 t)[q]'(by rw [unhide HL]; omega) = z := by
        have h2 : (pieces 10 t)[q]? = some z := by rw [unhide HP, ← unhide HQ]; simp
        rw [List.getElem?_eq_getElem (by rw [unhide HL]; omega)] at h2
        exact Option.some.inj h2
      rw [e1]
    rw [unhide HL] at hcp ⊢
    have e1 : ((q + 1 : Nat) : Int) - 1 = (q : Int) := by omega
    have e2 : IntKind.i64.wrap (q : Int) = (q : Int) := by rw [IntKind.wrap_i64]; omega
    have e3 : (q : Int) < ((q + 1 : Nat) : Int) := by omega
    have hqc : q ≤ cp := by omega
    have HD := hide (And.intro ht (And.intro hB hb))
    clear ht hB hb
    go_wp2
    go_ret2
    exact ⟨B, cp, rfl, (unhide HD).1, (unhide HD).2.1, (unhide HD).2.2⟩
  · obtain rfl : q + 1 = K := by rw [← hK, if_neg hz]
    obtain rfl : bz = false := by rw [← hbz, decide_eq_false hz]
    have z1 : (ba z).toList.isEmpty = false := ba_ne hz
    clear hK hbz hz
    go_enter Tryz.func61, Tryz.ntmps61
    go_wp2_with (go_at_call 44; fail)
    refine (unhide HC).mono ?_
    rintro e w1 ⟨B, cp, rfl, ht, hB, hb, hcp⟩
    have hcell : w1.cell? ⟨B, q, none⟩ = some (.string (ba z)) := by
      have := ht q (by rw [unhide HL]; omega)
      rw [this]
      have e1 : (pieces 10 t)[q]'(by rw [unhide HL]; omega) = z := by
        have h2 : (pieces 10 t)[q]? = some z := by rw [unhide HP, ← unhide HQ]; simp
        rw [List.getElem?_eq_getElem (by rw [unhide HL]; omega)] at h2
        exact Option.some.inj h2
      rw [e1]
    rw [unhide HL] at hcp ⊢
    have e1 : ((q + 1 : Nat) : Int) - 1 = (q : Int) := by omega
    have e2 : IntKind.i64.wrap (q : Int) = (q : Int) := by rw [IntKind.wrap_i64]; omega
    have e3 : (q : Int) < ((q + 1 : Nat) : Int) := by omega
    have hqc : q ≤ cp := by omega
    have HD := hide (And.intro ht (And.intro hB hb))
    clear ht hB hb
    go_wp2
    go_ret2
    exact ⟨B, cp, rfl, (unhide HD).1, (unhide HD).2.1, (unhide HD).2.2⟩

end Go.Proofs.YthcafeoamabkgaaGreatDoor
