/-
  SumfileFirst: the law's walk.
-/
import Derived.Test.YthcafeoamabkgaaGreatDoorVenN
import Derived.Test.YthcafeoamabkgaaGreatDoorVenP
import Derived.Test.YthcafeoamabkgaaGreatDoorFrsX
import Derived.Test.YthcafeoamabkgaaGreatDoorFewX
namespace Go.Proofs.YthcafeoamabkgaaGreatDoor
open Go.RowKit

/-- Parse, by what it tells alone. -/
theorem parse_tells {w : World} {t : Str} (hg : Gd w) (ht : t.length ≤ 65536) : Calls Tryz.prog 16 #[.string (ba t)] w fun e w' => ∃ v n en ys, e = .returned (.tuple #[v, .int .i64 (n : Nat), .int .i64 en]) ∧ POut t ys n en ∧ Below w.heap.size w w' := by
  have hr := read_lock t.length [] [] 1 t (Nat.le_refl _) ents_nil
  refine (parse_all hg ht).mono ?_
  rintro e w' ⟨v, rfl, ys, h1, h2, h3, h4⟩
  rw [hr] at h1 ⊢
  exact ⟨v, _, _, ys, rfl, Or.inr ⟨ht, h1, h2, rfl, rfl⟩, h4⟩
theorem vendor_tells {w : World} {t : Str} (hg : Gd w) (ht : t.length ≤ 65536) : Calls Tryz.prog 20 #[.string (ba t)] w fun e w' => ∃ v n en, e = .returned (.tuple #[v, .int .i64 (n : Nat), .int .i64 en]) ∧ (n = (readV t.length [] [] none 1 t).2.1 ∧ en = (readV t.length [] [] none 1 t).2.2) ∧ Below w.heap.size w w' := by
  refine (parseV_any hg (by omega)).mono ?_
  rintro e w' ⟨v, zs, W, rfl, _, ⟨ys, _, _, rs, hm⟩, b⟩
  have e0 : vendF t = readV t.length [] [] none 1 t := by unfold vendF; rw [if_neg (by omega)]
  rw [e0]
  exact ⟨v, _, _, rfl, ⟨rfl, rfl⟩, low_trans b hm.low⟩

theorem take_all {ps : List Str} {i n : Nat} (h1 : i ≤ n - 1) (h2 : ¬ ((i : Int) < (n : Int) - 1 ∧ i < ps.length)) : ps.take i = ps.take (n - 1) := by
  by_cases h : i < ps.length
  · have : i = n - 1 := by omega
    rw [this]
  · rw [List.take_of_length_le (by omega), List.take_of_length_le (by omega)]

set_option maxRecDepth 100000 in
set_option maxHeartbeats 8000000 in
theorem first_law {w : World} {t : Str} (hg : Gd w) :
    Calls Tryz.prog 10 #[.string (ba t)] w fun e w' => e = .returned (.bool true) ∧ Below w.heap.size w w' := by
  have HG := hide hg
  have htz := ba_size t
  clear hg
  go_enter Tryz.func10, Tryz.ntmps10
  go_wp2_with (go_at_call 11; fail)
  refine (first_any (unhide HG)).mono ?_
  rintro e w1 ⟨rfl, b1⟩
  have B1 := hide b1
  clear b1
  rcases Nat.lt_or_ge 8000 t.length with h8 | h8
  · have g1 : (8000 : Int) < (t.length : Int) := by omega
    go_wp2
    go_ret
    exact ⟨rfl, unhide B1⟩
  have ht : t.length < 4294967281 := by omega
  have g1 : ¬ (8000 : Int) < (t.length : Int) := by omega
  have HC := hide (refCut_any 10 ht w1)
  have HF := hide (fun k => front_size t k)
  have HPS := hide (fun p hp => pieces_small 10 t p hp)
  have HLG : Hid (∀ (ys zs : List Ln) (n m : Nat) (e f : Int), POut t ys n e → e ≠ 0 → POut (frontL ((pieces 10 t).take (n - 1))) zs m f → f = 0) := hide (fun ys zs n m e f h he k => lock_good (by omega) h he k (by have := front_size t (n - 1); omega))
  have HNM := hide (fun (ys : List Ln) (n : Nat) (e : Int) (h : POut t ys n e) => h.num)
  have HNV := hide (readV_num t)
  have HPL : Hid ((pieces 10 t).length ≤ 8002) := hide (by have h1 := pieces_length 10 t; have h2 := Lib.count_le t [10]; have h3 : t.length ≤ 8000 := h8; omega)
  have HVG := hide (fun he => vend_good (t := t) (by omega) he)
  obtain ⟨ps, hps⟩ : ∃ ps, pieces 10 t = ps := ⟨_, rfl⟩
  rw [hps] at HC HF HPS HLG HVG HNM HNV HPL
  clear hps
  go_wp2_with (go_at_call 44; fail)
  refine (unhide HC).mono ?_
  rintro e w2 ⟨B, cp, rfl, htx, hB, b2⟩
  have HT := hide htx
  have HB := hide hB.1
  have B2 := hide (low_trans (unhide B1) b2)
  clear htx hB b2 HC
  have P1 := hide (parse_tells (t := t) ((unhide HG).low (unhide B2)) (by omega))
  go_wp2_with (go_at_call 16; fail)
  refine (unhide P1).mono ?_
  rintro e w3 ⟨v3, n3, en3, ys3, rfl, o3, b3⟩
  have O3 := hide o3
  have B3 := hide (low_trans (unhide B2) b3)
  have T3 : Hid (Texts w3 B ps ∧ B < w3.heap.size) := hide ⟨fun k hk => (b3.cell (p := ⟨B, k, none⟩) (unhide HB)).trans (unhide HT k hk), Nat.lt_of_lt_of_le (unhide HB) b3.size⟩
  clear o3 b3 P1
  have P2 := hide (vendor_tells (t := t) ((unhide HG).low (unhide B3)) (by omega))
  go_wp2_with (go_at_call 20; fail)
  refine (unhide P2).mono ?_
  rintro e w4 ⟨v4, n4, en4, rfl, o4, b4⟩
  have O4 := hide o4
  have B4 := hide (low_trans (unhide B3) b4)
  have T4 : Hid (Texts w4 B ps ∧ B < w4.heap.size) := hide ⟨fun k hk => (b4.cell (p := ⟨B, k, none⟩) (unhide T3).2).trans ((unhide T3).1 k hk), Nat.lt_of_lt_of_le (unhide T3).2 b4.size⟩
  clear o4 b4 P2 T3 HT HB
  obtain ⟨N, hN⟩ : ∃ N, ps.length = N := ⟨_, rfl⟩
  have HN := hide hN
  rw [hN]
  clear hN
  go_wp2
  go_loopw [11, 12] (fun v11 v12 wr => ∃ i : Nat, i ≤ N ∧ i ≤ n3 - 1 ∧ v12 = .int .i64 i ∧ v11 = .string (ba (frontL (ps.take i))) ∧ Below w.heap.size w wr ∧ Texts wr B ps ∧ B < wr.heap.size) (fun _ v12 _ => N - (intOf v12).toNat)
  case atStart => exact ⟨0, Nat.zero_le _, Nat.zero_le _, rfl, rfl, unhide B4, (unhide T4).1, (unhide T4).2⟩
  case round =>
    rename World => wr
    obtain ⟨i, hi, hi2, rfl, rfl, hbw, htx, hBl⟩ := hrel
    have hn3 : n3 ≤ 8003 := by have h1 := unhide HNM _ _ _ (unhide O3); have h2 := unhide HPL; omega
    have hn4 : n4 ≤ 8003 := by have h1 := unhide HNV; have h2 := unhide HPL; have h3 := (unhide O4).1; omega
    by_cases hcn : (i : Int) < (n3 : Int) - 1
    · by_cases hcN : i < N
      · have hcN2 : (i : Int) < (N : Int) := by omega
        have hlt : i < ps.length := by rw [unhide HN]; exact hcN
        have hx := htx i hlt
        have hsn : ps.take (i + 1) = ps.take i ++ [ps[i]] := by rw [List.take_succ_eq_append_getElem hlt]
        have hpl := unhide HPS ps[i] (List.getElem_mem hlt)
        have hfl := unhide HF i
        obtain ⟨q, hq⟩ : ∃ q, ps[i] = q := ⟨_, rfl⟩
        rw [hq] at hx hsn hpl
        have HSN := hide hsn
        obtain ⟨fr, hfr⟩ : ∃ fr, frontL (ps.take i) = fr := ⟨_, rfl⟩
        rw [hfr] at hfl
        have j1 : ba fr ++ ba q = ba (fr ++ q) := ba_app _ _
        have j2 : ba (fr ++ q) ++ ⟨#[10]⟩ = ba ((fr ++ q) ++ [10]) := ba_app _ [10]
        have z1 : (ba fr).size = fr.length := ba_size _
        have z2 : (ba q).size = q.length := ba_size _
        have z3 : (ba (fr ++ q)).size = fr.length + q.length := by rw [ba_size, List.length_append]
        have HFR := hide hfr
        rw [hfr]
        have HBW := hide hbw
        have HTX := hide (And.intro htx hBl)
        clear hq hsn hfr hbw htx hBl
        go_wp2
        go_roundw
        case rel => exact ⟨i + 1, by omega, by omega, by simp, by rw [unhide HSN, frontL_snoc, unhide HFR]; simp, unhide HBW, (unhide HTX).1, (unhide HTX).2⟩
        case measure => simp [intOf]; omega
      · have hcN2 : ¬ (i : Int) < (N : Int) := by omega
        have hfj : frontL (ps.take i) = frontL (ps.take (n3 - 1)) := by rw [take_all hi2 (by rw [unhide HN]; omega)]
        have hfl := unhide HF i
        have P5 := hide (parse_tells (t := frontL (ps.take i)) ((unhide HG).low hbw) (by omega))
        obtain ⟨fr, hfr⟩ : ∃ fr, frontL (ps.take i) = fr := ⟨_, rfl⟩
        rw [hfr] at hfj P5 hfl ⊢
        have HTX := hide (And.intro htx hBl)
        have HBW := hide hbw
        have HFJ := hide hfj
        clear hfr hbw htx hBl hi hi2 hfj
        go_wp2_with (go_at_call 16; fail)
        refine (unhide P5).mono ?_
        rintro e w6 ⟨v6, n6, en6, ys6, rfl, o6, b6⟩
        have O6 := hide o6
        have B6 := hide (low_trans (unhide HBW) b6)
        have T6 : Hid (Texts w6 B ps ∧ B < w6.heap.size) := hide ⟨fun k hk => (b6.cell (p := ⟨B, k, none⟩) (unhide HTX).2).trans ((unhide HTX).1 k hk), Nat.lt_of_lt_of_le (unhide HTX).2 b6.size⟩
        clear o6 b6 P5 HTX HBW hfl
        have HX : Hid (en3 ≠ 0 → en6 = 0) := hide (fun h => unhide HLG _ _ _ _ _ _ (unhide O3) h (by rw [← unhide HFJ]; exact (unhide O6)))
        have hjoin : (en3 = 0) ∨ (en3 ≠ 0 ∧ en6 = 0) := by
          by_cases h : en3 = 0
          · exact Or.inl h
          · exact Or.inr ⟨h, unhide HX h⟩
        clear HX
        rcases hjoin with h3 | ⟨h3, h6⟩
        · subst h3
          go_wp2_with (go_at_call 15; fail)
          refine (num_any _ _).mono ?_
          rintro e w9 ⟨rfl, hw⟩
          rw [hw]; clear hw w9
          go_wp2
          go_loopw [11, 16] (fun v11 v16 wr => ∃ i : Nat, i ≤ N ∧ i ≤ n4 - 1 ∧ v16 = .int .i64 i ∧ v11 = .string (ba (frontL (ps.take i))) ∧ Below w.heap.size w wr ∧ Texts wr B ps ∧ B < wr.heap.size) (fun _ v16 _ => N - (intOf v16).toNat)
          case atStart => exact ⟨0, Nat.zero_le _, Nat.zero_le _, rfl, rfl, unhide B6, (unhide T6).1, (unhide T6).2⟩
          case round =>
            rename World => wr2
            obtain ⟨i, hi, hi2, rfl, rfl, hbw, htx, hBl⟩ := hrel
            by_cases hcn : (i : Int) < (n4 : Int) - 1
            · by_cases hcN : i < N
              · have hcN2 : (i : Int) < (N : Int) := by omega
                have hlt : i < ps.length := by rw [unhide HN]; exact hcN
                have hx := htx i hlt
                have hsn : ps.take (i + 1) = ps.take i ++ [ps[i]] := by rw [List.take_succ_eq_append_getElem hlt]
                have hpl := unhide HPS ps[i] (List.getElem_mem hlt)
                have hfl := unhide HF i
                obtain ⟨q, hq⟩ : ∃ q, ps[i] = q := ⟨_, rfl⟩
                rw [hq] at hx hsn hpl
                have HSN := hide hsn
                obtain ⟨fr, hfr⟩ : ∃ fr, frontL (ps.take i) = fr := ⟨_, rfl⟩
                rw [hfr] at hfl
                have j1 : ba fr ++ ba q = ba (fr ++ q) := ba_app _ _
                have j2 : ba (fr ++ q) ++ ⟨#[10]⟩ = ba ((fr ++ q) ++ [10]) := ba_app _ [10]
                have z1 : (ba fr).size = fr.length := ba_size _
                have z2 : (ba q).size = q.length := ba_size _
                have z3 : (ba (fr ++ q)).size = fr.length + q.length := by rw [ba_size, List.length_append]
                have HFR := hide hfr
                rw [hfr]
                have HBW := hide hbw
                have HTX := hide (And.intro htx hBl)
                clear hq hsn hfr hbw htx hBl
                go_wp2
                go_roundw
                case rel => exact ⟨i + 1, by omega, by omega, by simp, by rw [unhide HSN, frontL_snoc, unhide HFR]; simp, unhide HBW, (unhide HTX).1, (unhide HTX).2⟩
                case measure => simp [intOf]; omega
              · have hcN2 : ¬ (i : Int) < (N : Int) := by omega
                have hfj : frontL (ps.take i) = frontL (ps.take (n4 - 1)) := by rw [take_all hi2 (by rw [unhide HN]; omega)]
                have hfl := unhide HF i
                have P6 := hide (vendor_tells (t := frontL (ps.take i)) ((unhide HG).low hbw) (by omega))
                obtain ⟨fr, hfr⟩ : ∃ fr, frontL (ps.take i) = fr := ⟨_, rfl⟩
                rw [hfr] at hfj P6 hfl ⊢
                have HBX := hide hbw
                have HFJ4 := hide hfj
                clear hfr hbw htx hBl hi hi2 hfj
                go_wp2_with (go_at_call 20; fail)
                refine (unhide P6).mono ?_
                rintro e w7 ⟨v7, n7, en7, rfl, o7, b7⟩
                have O7 := hide o7
                have B7 := hide (low_trans (unhide HBX) b7)
                clear o7 b7 P6
                have HX : Hid (en4 ≠ 0 → en7 = 0) := hide (fun h => by
                  have h1 := unhide HVG (by rw [← (unhide O4).2]; exact h)
                  rw [(unhide O7).2, unhide HFJ4, (unhide O4).1]
                  exact h1)
                by_cases h4 : en4 = 0
                · subst h4
                  clear HX
                  go_wp2_with (go_at_call 15; refine (num_any _ _).mono ?_; rintro e w9 ⟨rfl, hw⟩; rw [hw]; clear hw w9)
                  all_goals
                    go_ret
                    exact ⟨rfl, unhide B7⟩
                · have hz7 : en7 = 0 := unhide HX h4
                  subst hz7
                  have hq4 : (en4 == 0) = false := by simp [h4]
                  clear HX
                  by_cases hn4 : n4 = 0
                  · subst hn4
                    go_wp2_with (go_at_call 15; refine (num_any _ _).mono ?_; rintro e w9 ⟨rfl, hw⟩; rw [hw]; clear hw w9)
                    all_goals
                      go_ret
                      exact ⟨rfl, unhide B7⟩
                  · have hqn : ((n4 : Int) == 0) = false := by simp [hn4]
                    go_wp2_with (go_at_call 15; refine (num_any _ _).mono ?_; rintro e w9 ⟨rfl, hw⟩; rw [hw]; clear hw w9)
                    all_goals
                      go_ret
                      exact ⟨rfl, unhide B7⟩
            · skip
              have hfj : frontL (ps.take i) = frontL (ps.take (n4 - 1)) := by rw [take_all hi2 (by rw [unhide HN]; omega)]
              have hfl := unhide HF i
              have P6 := hide (vendor_tells (t := frontL (ps.take i)) ((unhide HG).low hbw) (by omega))
              obtain ⟨fr, hfr⟩ : ∃ fr, frontL (ps.take i) = fr := ⟨_, rfl⟩
              rw [hfr] at hfj P6 hfl ⊢
              have HBX := hide hbw
              have HFJ4 := hide hfj
              clear hfr hbw htx hBl hi hi2 hfj
              go_wp2_with (go_at_call 20; fail)
              refine (unhide P6).mono ?_
              rintro e w7 ⟨v7, n7, en7, rfl, o7, b7⟩
              have O7 := hide o7
              have B7 := hide (low_trans (unhide HBX) b7)
              clear o7 b7 P6
              have HX : Hid (en4 ≠ 0 → en7 = 0) := hide (fun h => by
                have h1 := unhide HVG (by rw [← (unhide O4).2]; exact h)
                rw [(unhide O7).2, unhide HFJ4, (unhide O4).1]
                exact h1)
              by_cases h4 : en4 = 0
              · subst h4
                clear HX
                go_wp2_with (go_at_call 15; refine (num_any _ _).mono ?_; rintro e w9 ⟨rfl, hw⟩; rw [hw]; clear hw w9)
                all_goals
                  go_ret
                  exact ⟨rfl, unhide B7⟩
              · have hz7 : en7 = 0 := unhide HX h4
                subst hz7
                have hq4 : (en4 == 0) = false := by simp [h4]
                clear HX
                by_cases hn4 : n4 = 0
                · subst hn4
                  go_wp2_with (go_at_call 15; refine (num_any _ _).mono ?_; rintro e w9 ⟨rfl, hw⟩; rw [hw]; clear hw w9)
                  all_goals
                    go_ret
                    exact ⟨rfl, unhide B7⟩
                · have hqn : ((n4 : Int) == 0) = false := by simp [hn4]
                  go_wp2_with (go_at_call 15; refine (num_any _ _).mono ?_; rintro e w9 ⟨rfl, hw⟩; rw [hw]; clear hw w9)
                  all_goals
                    go_ret
                    exact ⟨rfl, unhide B7⟩
        · subst h6
          have hq3 : (en3 == 0) = false := by simp [h3]
          have hq4 : (en3 != 0) = true := by simp [h3]
          by_cases hn0 : n3 = 0
          · exfalso; omega
          · have hp : (0 : Int) < (n3 : Int) := by omega
            go_wp2_with (go_at_call 15; fail)
            refine (num_any _ _).mono ?_
            rintro e w9 ⟨rfl, hw⟩
            rw [hw]; clear hw w9
            go_wp2_with (go_at_call 15; fail)
            refine (num_any _ _).mono ?_
            rintro e w9 ⟨rfl, hw⟩
            rw [hw]; clear hw w9
            go_wp2
            go_loopw [11, 16] (fun v11 v16 wr => ∃ i : Nat, i ≤ N ∧ i ≤ n4 - 1 ∧ v16 = .int .i64 i ∧ v11 = .string (ba (frontL (ps.take i))) ∧ Below w.heap.size w wr ∧ Texts wr B ps ∧ B < wr.heap.size) (fun _ v16 _ => N - (intOf v16).toNat)
            case atStart => exact ⟨0, Nat.zero_le _, Nat.zero_le _, rfl, rfl, unhide B6, (unhide T6).1, (unhide T6).2⟩
            case round =>
              rename World => wr2
              obtain ⟨i, hi, hi2, rfl, rfl, hbw, htx, hBl⟩ := hrel
              by_cases hcn : (i : Int) < (n4 : Int) - 1
              · by_cases hcN : i < N
                · have hcN2 : (i : Int) < (N : Int) := by omega
                  have hlt : i < ps.length := by rw [unhide HN]; exact hcN
                  have hx := htx i hlt
                  have hsn : ps.take (i + 1) = ps.take i ++ [ps[i]] := by rw [List.take_succ_eq_append_getElem hlt]
                  have hpl := unhide HPS ps[i] (List.getElem_mem hlt)
                  have hfl := unhide HF i
                  obtain ⟨q, hq⟩ : ∃ q, ps[i] = q := ⟨_, rfl⟩
                  rw [hq] at hx hsn hpl
                  have HSN := hide hsn
                  obtain ⟨fr, hfr⟩ : ∃ fr, frontL (ps.take i) = fr := ⟨_, rfl⟩
                  rw [hfr] at hfl
                  have j1 : ba fr ++ ba q = ba (fr ++ q) := ba_app _ _
                  have j2 : ba (fr ++ q) ++ ⟨#[10]⟩ = ba ((fr ++ q) ++ [10]) := ba_app _ [10]
                  have z1 : (ba fr).size = fr.length := ba_size _
                  have z2 : (ba q).size = q.length := ba_size _
                  have z3 : (ba (fr ++ q)).size = fr.length + q.length := by rw [ba_size, List.length_append]
                  have HFR := hide hfr
                  rw [hfr]
                  have HBW := hide hbw
                  have HTX := hide (And.intro htx hBl)
                  clear hq hsn hfr hbw htx hBl
                  go_wp2
                  go_roundw
                  case rel => exact ⟨i + 1, by omega, by omega, by simp, by rw [unhide HSN, frontL_snoc, unhide HFR]; simp, unhide HBW, (unhide HTX).1, (unhide HTX).2⟩
                  case measure => simp [intOf]; omega
                · have hcN2 : ¬ (i : Int) < (N : Int) := by omega
                  have hfj : frontL (ps.take i) = frontL (ps.take (n4 - 1)) := by rw [take_all hi2 (by rw [unhide HN]; omega)]
                  have hfl := unhide HF i
                  have P6 := hide (vendor_tells (t := frontL (ps.take i)) ((unhide HG).low hbw) (by omega))
                  obtain ⟨fr, hfr⟩ : ∃ fr, frontL (ps.take i) = fr := ⟨_, rfl⟩
                  rw [hfr] at hfj P6 hfl ⊢
                  have HBX := hide hbw
                  have HFJ4 := hide hfj
                  clear hfr hbw htx hBl hi hi2 hfj
                  go_wp2_with (go_at_call 20; fail)
                  refine (unhide P6).mono ?_
                  rintro e w7 ⟨v7, n7, en7, rfl, o7, b7⟩
                  have O7 := hide o7
                  have B7 := hide (low_trans (unhide HBX) b7)
                  clear o7 b7 P6
                  have HX : Hid (en4 ≠ 0 → en7 = 0) := hide (fun h => by
                    have h1 := unhide HVG (by rw [← (unhide O4).2]; exact h)
                    rw [(unhide O7).2, unhide HFJ4, (unhide O4).1]
                    exact h1)
                  by_cases h4 : en4 = 0
                  · subst h4
                    clear HX
                    go_wp2_with (go_at_call 15; refine (num_any _ _).mono ?_; rintro e w9 ⟨rfl, hw⟩; rw [hw]; clear hw w9)
                    all_goals
                      go_ret
                      exact ⟨rfl, unhide B7⟩
                  · have hz7 : en7 = 0 := unhide HX h4
                    subst hz7
                    have hq4 : (en4 == 0) = false := by simp [h4]
                    clear HX
                    by_cases hn4 : n4 = 0
                    · subst hn4
                      go_wp2_with (go_at_call 15; refine (num_any _ _).mono ?_; rintro e w9 ⟨rfl, hw⟩; rw [hw]; clear hw w9)
                      all_goals
                        go_ret
                        exact ⟨rfl, unhide B7⟩
                    · have hqn : ((n4 : Int) == 0) = false := by simp [hn4]
                      go_wp2_with (go_at_call 15; refine (num_any _ _).mono ?_; rintro e w9 ⟨rfl, hw⟩; rw [hw]; clear hw w9)
                      all_goals
                        go_ret
                        exact ⟨rfl, unhide B7⟩
              · skip
                have hfj : frontL (ps.take i) = frontL (ps.take (n4 - 1)) := by rw [take_all hi2 (by rw [unhide HN]; omega)]
                have hfl := unhide HF i
                have P6 := hide (vendor_tells (t := frontL (ps.take i)) ((unhide HG).low hbw) (by omega))
                obtain ⟨fr, hfr⟩ : ∃ fr, frontL (ps.take i) = fr := ⟨_, rfl⟩
                rw [hfr] at hfj P6 hfl ⊢
                have HBX := hide hbw
                have HFJ4 := hide hfj
                clear hfr hbw htx hBl hi hi2 hfj
                go_wp2_with (go_at_call 20; fail)
                refine (unhide P6).mono ?_
                rintro e w7 ⟨v7, n7, en7, rfl, o7, b7⟩
                have O7 := hide o7
                have B7 := hide (low_trans (unhide HBX) b7)
                clear o7 b7 P6
                have HX : Hid (en4 ≠ 0 → en7 = 0) := hide (fun h => by
                  have h1 := unhide HVG (by rw [← (unhide O4).2]; exact h)
                  rw [(unhide O7).2, unhide HFJ4, (unhide O4).1]
                  exact h1)
                by_cases h4 : en4 = 0
                · subst h4
                  clear HX
                  go_wp2_with (go_at_call 15; refine (num_any _ _).mono ?_; rintro e w9 ⟨rfl, hw⟩; rw [hw]; clear hw w9)
                  all_goals
                    go_ret
                    exact ⟨rfl, unhide B7⟩
                · have hz7 : en7 = 0 := unhide HX h4
                  subst hz7
                  have hq4 : (en4 == 0) = false := by simp [h4]
                  clear HX
                  by_cases hn4 : n4 = 0
                  · subst hn4
                    go_wp2_with (go_at_call 15; refine (num_any _ _).mono ?_; rintro e w9 ⟨rfl, hw⟩; rw [hw]; clear hw w9)
                    all_goals
                      go_ret
                      exact ⟨rfl, unhide B7⟩
                  · have hqn : ((n4 : Int) == 0) = false := by simp [hn4]
                    go_wp2_with (go_at_call 15; refine (num_any _ _).mono ?_; rintro e w9 ⟨rfl, hw⟩; rw [hw]; clear hw w9)
                    all_goals
                      go_ret
                      exact ⟨rfl, unhide B7⟩
    · skip
      have hfj : frontL (ps.take i) = frontL (ps.take (n3 - 1)) := by rw [take_all hi2 (by rw [unhide HN]; omega)]
      have hfl := unhide HF i
      have P5 := hide (parse_tells (t := frontL (ps.take i)) ((unhide HG).low hbw) (by omega))
      obtain ⟨fr, hfr⟩ : ∃ fr, frontL (ps.take i) = fr := ⟨_, rfl⟩
      rw [hfr] at hfj P5 hfl ⊢
      have HTX := hide (And.intro htx hBl)
      have HBW := hide hbw
      have HFJ := hide hfj
      clear hfr hbw htx hBl hi hi2 hfj
      go_wp2_with (go_at_call 16; fail)
      refine (unhide P5).mono ?_
      rintro e w6 ⟨v6, n6, en6, ys6, rfl, o6, b6⟩
      have O6 := hide o6
      have B6 := hide (low_trans (unhide HBW) b6)
      have T6 : Hid (Texts w6 B ps ∧ B < w6.heap.size) := hide ⟨fun k hk => (b6.cell (p := ⟨B, k, none⟩) (unhide HTX).2).trans ((unhide HTX).1 k hk), Nat.lt_of_lt_of_le (unhide HTX).2 b6.size⟩
      clear o6 b6 P5 HTX HBW hfl
      have HX : Hid (en3 ≠ 0 → en6 = 0) := hide (fun h => unhide HLG _ _ _ _ _ _ (unhide O3) h (by rw [← unhide HFJ]; exact (unhide O6)))
      have hjoin : (en3 = 0) ∨ (en3 ≠ 0 ∧ en6 = 0) := by
        by_cases h : en3 = 0
        · exact Or.inl h
        · exact Or.inr ⟨h, unhide HX h⟩
      clear HX
      rcases hjoin with h3 | ⟨h3, h6⟩
      · subst h3
        go_wp2_with (go_at_call 15; fail)
        refine (num_any _ _).mono ?_
        rintro e w9 ⟨rfl, hw⟩
        rw [hw]; clear hw w9
        go_wp2
        go_loopw [11, 16] (fun v11 v16 wr => ∃ i : Nat, i ≤ N ∧ i ≤ n4 - 1 ∧ v16 = .int .i64 i ∧ v11 = .string (ba (frontL (ps.take i))) ∧ Below w.heap.size w wr ∧ Texts wr B ps ∧ B < wr.heap.size) (fun _ v16 _ => N - (intOf v16).toNat)
        case atStart => exact ⟨0, Nat.zero_le _, Nat.zero_le _, rfl, rfl, unhide B6, (unhide T6).1, (unhide T6).2⟩
        case round =>
          rename World => wr2
          obtain ⟨i, hi, hi2, rfl, rfl, hbw, htx, hBl⟩ := hrel
          by_cases hcn : (i : Int) < (n4 : Int) - 1
          · by_cases hcN : i < N
            · have hcN2 : (i : Int) < (N : Int) := by omega
              have hlt : i < ps.length := by rw [unhide HN]; exact hcN
              have hx := htx i hlt
              have hsn : ps.take (i + 1) = ps.take i ++ [ps[i]] := by rw [List.take_succ_eq_append_getElem hlt]
              have hpl := unhide HPS ps[i] (List.getElem_mem hlt)
              have hfl := unhide HF i
              obtain ⟨q, hq⟩ : ∃ q, ps[i] = q := ⟨_, rfl⟩
              rw [hq] at hx hsn hpl
              have HSN := hide hsn
              obtain ⟨fr, hfr⟩ : ∃ fr, frontL (ps.take i) = fr := ⟨_, rfl⟩
              rw [hfr] at hfl
              have j1 : ba fr ++ ba q = ba (fr ++ q) := ba_app _ _
              have j2 : ba (fr ++ q) ++ ⟨#[10]⟩ = ba ((fr ++ q) ++ [10]) := ba_app _ [10]
              have z1 : (ba fr).size = fr.length := ba_size _
              have z2 : (ba q).size = q.length := ba_size _
              have z3 : (ba (fr ++ q)).size = fr.length + q.length := by rw [ba_size, List.length_append]
              have HFR := hide hfr
              rw [hfr]
              have HBW := hide hbw
              have HTX := hide (And.intro htx hBl)
              clear hq hsn hfr hbw htx hBl
              go_wp2
              go_roundw
              case rel => exact ⟨i + 1, by omega, by omega, by simp, by rw [unhide HSN, frontL_snoc, unhide HFR]; simp, unhide HBW, (unhide HTX).1, (unhide HTX).2⟩
              case measure => simp [intOf]; omega
            · have hcN2 : ¬ (i : Int) < (N : Int) := by omega
              have hfj : frontL (ps.take i) = frontL (ps.take (n4 - 1)) := by rw [take_all hi2 (by rw [unhide HN]; omega)]
              have hfl := unhide HF i
              have P6 := hide (vendor_tells (t := frontL (ps.take i)) ((unhide HG).low hbw) (by omega))
              obtain ⟨fr, hfr⟩ : ∃ fr, frontL (ps.take i) = fr := ⟨_, rfl⟩
              rw [hfr] at hfj P6 hfl ⊢
              have HBX := hide hbw
              have HFJ4 := hide hfj
              clear hfr hbw htx hBl hi hi2 hfj
              go_wp2_with (go_at_call 20; fail)
              refine (unhide P6).mono ?_
              rintro e w7 ⟨v7, n7, en7, rfl, o7, b7⟩
              have O7 := hide o7
              have B7 := hide (low_trans (unhide HBX) b7)
              clear o7 b7 P6
              have HX : Hid (en4 ≠ 0 → en7 = 0) := hide (fun h => by
                have h1 := unhide HVG (by rw [← (unhide O4).2]; exact h)
                rw [(unhide O7).2, unhide HFJ4, (unhide O4).1]
                exact h1)
              by_cases h4 : en4 = 0
              · subst h4
                clear HX
                go_wp2_with (go_at_call 15; refine (num_any _ _).mono ?_; rintro e w9 ⟨rfl, hw⟩; rw [hw]; clear hw w9)
                all_goals
                  go_ret
                  exact ⟨rfl, unhide B7⟩
              · have hz7 : en7 = 0 := unhide HX h4
                subst hz7
                have hq4 : (en4 == 0) = false := by simp [h4]
                clear HX
                by_cases hn4 : n4 = 0
                · subst hn4
                  go_wp2_with (go_at_call 15; refine (num_any _ _).mono ?_; rintro e w9 ⟨rfl, hw⟩; rw [hw]; clear hw w9)
                  all_goals
                    go_ret
                    exact ⟨rfl, unhide B7⟩
                · have hqn : ((n4 : Int) == 0) = false := by simp [hn4]
                  go_wp2_with (go_at_call 15; refine (num_any _ _).mono ?_; rintro e w9 ⟨rfl, hw⟩; rw [hw]; clear hw w9)
                  all_goals
                    go_ret
                    exact ⟨rfl, unhide B7⟩
          · skip
            have hfj : frontL (ps.take i) = frontL (ps.take (n4 - 1)) := by rw [take_all hi2 (by rw [unhide HN]; omega)]
            have hfl := unhide HF i
            have P6 := hide (vendor_tells (t := frontL (ps.take i)) ((unhide HG).low hbw) (by omega))
            obtain ⟨fr, hfr⟩ : ∃ fr, frontL (ps.take i) = fr := ⟨_, rfl⟩
            rw [hfr] at hfj P6 hfl ⊢
            have HBX := hide hbw
            have HFJ4 := hide hfj
            clear hfr hbw htx hBl hi hi2 hfj
            go_wp2_with (go_at_call 20; fail)
            refine (unhide P6).mono ?_
            rintro e w7 ⟨v7, n7, en7, rfl, o7, b7⟩
            have O7 := hide o7
            have B7 := hide (low_trans (unhide HBX) b7)
            clear o7 b7 P6
            have HX : Hid (en4 ≠ 0 → en7 = 0) := hide (fun h => by
              have h1 := unhide HVG (by rw [← (unhide O4).2]; exact h)
              rw [(unhide O7).2, unhide HFJ4, (unhide O4).1]
              exact h1)
            by_cases h4 : en4 = 0
            · subst h4
              clear HX
              go_wp2_with (go_at_call 15; refine (num_any _ _).mono ?_; rintro e w9 ⟨rfl, hw⟩; rw [hw]; clear hw w9)
              all_goals
                go_ret
                exact ⟨rfl, unhide B7⟩
            · have hz7 : en7 = 0 := unhide HX h4
              subst hz7
              have hq4 : (en4 == 0) = false := by simp [h4]
              clear HX
              by_cases hn4 : n4 = 0
              · subst hn4
                go_wp2_with (go_at_call 15; refine (num_any _ _).mono ?_; rintro e w9 ⟨rfl, hw⟩; rw [hw]; clear hw w9)
                all_goals
                  go_ret
                  exact ⟨rfl, unhide B7⟩
              · have hqn : ((n4 : Int) == 0) = false := by simp [hn4]
                go_wp2_with (go_at_call 15; refine (num_any _ _).mono ?_; rintro e w9 ⟨rfl, hw⟩; rw [hw]; clear hw w9)
                all_goals
                  go_ret
                  exact ⟨rfl, unhide B7⟩
      · subst h6
        have hq3 : (en3 == 0) = false := by simp [h3]
        have hq4 : (en3 != 0) = true := by simp [h3]
        by_cases hn0 : n3 = 0
        · have hp : ¬ (0 : Int) < (n3 : Int) := by omega
          have HN0 := hide hn0
          clear hn0
          go_wp2_with (go_at_call 15; fail)
          refine (num_any _ _).mono ?_
          rintro e w9 ⟨rfl, hw⟩
          rw [hw]; clear hw w9
          go_wp2
          go_loopw [11, 16] (fun v11 v16 wr => ∃ i : Nat, i ≤ N ∧ i ≤ n4 - 1 ∧ v16 = .int .i64 i ∧ v11 = .string (ba (frontL (ps.take i))) ∧ Below w.heap.size w wr ∧ Texts wr B ps ∧ B < wr.heap.size) (fun _ v16 _ => N - (intOf v16).toNat)
          case atStart => exact ⟨0, Nat.zero_le _, Nat.zero_le _, rfl, rfl, unhide B6, (unhide T6).1, (unhide T6).2⟩
          case round =>
            rename World => wr2
            obtain ⟨i, hi, hi2, rfl, rfl, hbw, htx, hBl⟩ := hrel
            by_cases hcn : (i : Int) < (n4 : Int) - 1
            · by_cases hcN : i < N
              · have hcN2 : (i : Int) < (N : Int) := by omega
                have hlt : i < ps.length := by rw [unhide HN]; exact hcN
                have hx := htx i hlt
                have hsn : ps.take (i + 1) = ps.take i ++ [ps[i]] := by rw [List.take_succ_eq_append_getElem hlt]
                have hpl := unhide HPS ps[i] (List.getElem_mem hlt)
                have hfl := unhide HF i
                obtain ⟨q, hq⟩ : ∃ q, ps[i] = q := ⟨_, rfl⟩
                rw [hq] at hx hsn hpl
                have HSN := hide hsn
                obtain ⟨fr, hfr⟩ : ∃ fr, frontL (ps.take i) = fr := ⟨_, rfl⟩
                rw [hfr] at hfl
                have j1 : ba fr ++ ba q = ba (fr ++ q) := ba_app _ _
                have j2 : ba (fr ++ q) ++ ⟨#[10]⟩ = ba ((fr ++ q) ++ [10]) := ba_app _ [10]
                have z1 : (ba fr).size = fr.length := ba_size _
                have z2 : (ba q).size = q.length := ba_size _
                have z3 : (ba (fr ++ q)).size = fr.length + q.length := by rw [ba_size, List.length_append]
                have HFR := hide hfr
                rw [hfr]
                have HBW := hide hbw
                have HTX := hide (And.intro htx hBl)
                clear hq hsn hfr hbw htx hBl
                go_wp2
                go_roundw
                case rel => exact ⟨i + 1, by omega, by omega, by simp, by rw [unhide HSN, frontL_snoc, unhide HFR]; simp, unhide HBW, (unhide HTX).1, (unhide HTX).2⟩
                case measure => simp [intOf]; omega
              · have hcN2 : ¬ (i : Int) < (N : Int) := by omega
                have hfj : frontL (ps.take i) = frontL (ps.take (n4 - 1)) := by rw [take_all hi2 (by rw [unhide HN]; omega)]
                have hfl := unhide HF i
                have P6 := hide (vendor_tells (t := frontL (ps.take i)) ((unhide HG).low hbw) (by omega))
                obtain ⟨fr, hfr⟩ : ∃ fr, frontL (ps.take i) = fr := ⟨_, rfl⟩
                rw [hfr] at hfj P6 hfl ⊢
                have HBX := hide hbw
                have HFJ4 := hide hfj
                clear hfr hbw htx hBl hi hi2 hfj
                go_wp2_with (go_at_call 20; fail)
                refine (unhide P6).mono ?_
                rintro e w7 ⟨v7, n7, en7, rfl, o7, b7⟩
                have O7 := hide o7
                have B7 := hide (low_trans (unhide HBX) b7)
                clear o7 b7 P6
                have HX : Hid (en4 ≠ 0 → en7 = 0) := hide (fun h => by
                  have h1 := unhide HVG (by rw [← (unhide O4).2]; exact h)
                  rw [(unhide O7).2, unhide HFJ4, (unhide O4).1]
                  exact h1)
                by_cases h4 : en4 = 0
                · subst h4
                  clear HX
                  go_wp2_with (go_at_call 15; refine (num_any _ _).mono ?_; rintro e w9 ⟨rfl, hw⟩; rw [hw]; clear hw w9)
                  all_goals
                    go_ret
                    exact ⟨rfl, unhide B7⟩
                · have hz7 : en7 = 0 := unhide HX h4
                  subst hz7
                  have hq4 : (en4 == 0) = false := by simp [h4]
                  clear HX
                  by_cases hn4 : n4 = 0
                  · subst hn4
                    go_wp2_with (go_at_call 15; refine (num_any _ _).mono ?_; rintro e w9 ⟨rfl, hw⟩; rw [hw]; clear hw w9)
                    all_goals
                      go_ret
                      exact ⟨rfl, unhide B7⟩
                  · have hqn : ((n4 : Int) == 0) = false := by simp [hn4]
                    go_wp2_with (go_at_call 15; refine (num_any _ _).mono ?_; rintro e w9 ⟨rfl, hw⟩; rw [hw]; clear hw w9)
                    all_goals
                      go_ret
                      exact ⟨rfl, unhide B7⟩
            · skip
              have hfj : frontL (ps.take i) = frontL (ps.take (n4 - 1)) := by rw [take_all hi2 (by rw [unhide HN]; omega)]
              have hfl := unhide HF i
              have P6 := hide (vendor_tells (t := frontL (ps.take i)) ((unhide HG).low hbw) (by omega))
              obtain ⟨fr, hfr⟩ : ∃ fr, frontL (ps.take i) = fr := ⟨_, rfl⟩
              rw [hfr] at hfj P6 hfl ⊢
              have HBX := hide hbw
              have HFJ4 := hide hfj
              clear hfr hbw htx hBl hi hi2 hfj
              go_wp2_with (go_at_call 20; fail)
              refine (unhide P6).mono ?_
              rintro e w7 ⟨v7, n7, en7, rfl, o7, b7⟩
              have O7 := hide o7
              have B7 := hide (low_trans (unhide HBX) b7)
              clear o7 b7 P6
              have HX : Hid (en4 ≠ 0 → en7 = 0) := hide (fun h => by
                have h1 := unhide HVG (by rw [← (unhide O4).2]; exact h)
                rw [(unhide O7).2, unhide HFJ4, (unhide O4).1]
                exact h1)
              by_cases h4 : en4 = 0
              · subst h4
                clear HX
                go_wp2_with (go_at_call 15; refine (num_any _ _).mono ?_; rintro e w9 ⟨rfl, hw⟩; rw [hw]; clear hw w9)
                all_goals
                  go_ret
                  exact ⟨rfl, unhide B7⟩
              · have hz7 : en7 = 0 := unhide HX h4
                subst hz7
                have hq4 : (en4 == 0) = false := by simp [h4]
                clear HX
                by_cases hn4 : n4 = 0
                · subst hn4
                  go_wp2_with (go_at_call 15; refine (num_any _ _).mono ?_; rintro e w9 ⟨rfl, hw⟩; rw [hw]; clear hw w9)
                  all_goals
                    go_ret
                    exact ⟨rfl, unhide B7⟩
                · have hqn : ((n4 : Int) == 0) = false := by simp [hn4]
                  go_wp2_with (go_at_call 15; refine (num_any _ _).mono ?_; rintro e w9 ⟨rfl, hw⟩; rw [hw]; clear hw w9)
                  all_goals
                    go_ret
                    exact ⟨rfl, unhide B7⟩
        · have hp : (0 : Int) < (n3 : Int) := by omega
          go_wp2_with (go_at_call 15; fail)
          refine (num_any _ _).mono ?_
          rintro e w9 ⟨rfl, hw⟩
          rw [hw]; clear hw w9
          go_wp2_with (go_at_call 15; fail)
          refine (num_any _ _).mono ?_
          rintro e w9 ⟨rfl, hw⟩
          rw [hw]; clear hw w9
          go_wp2
          go_loopw [11, 16] (fun v11 v16 wr => ∃ i : Nat, i ≤ N ∧ i ≤ n4 - 1 ∧ v16 = .int .i64 i ∧ v11 = .string (ba (frontL (ps.take i))) ∧ Below w.heap.size w wr ∧ Texts wr B ps ∧ B < wr.heap.size) (fun _ v16 _ => N - (intOf v16).toNat)
          case atStart => exact ⟨0, Nat.zero_le _, Nat.zero_le _, rfl, rfl, unhide B6, (unhide T6).1, (unhide T6).2⟩
          case round =>
            rename World => wr2
            obtain ⟨i, hi, hi2, rfl, rfl, hbw, htx, hBl⟩ := hrel
            by_cases hcn : (i : Int) < (n4 : Int) - 1
            · by_cases hcN : i < N
              · have hcN2 : (i : Int) < (N : Int) := by omega
                have hlt : i < ps.length := by rw [unhide HN]; exact hcN
                have hx := htx i hlt
                have hsn : ps.take (i + 1) = ps.take i ++ [ps[i]] := by rw [List.take_succ_eq_append_getElem hlt]
                have hpl := unhide HPS ps[i] (List.getElem_mem hlt)
                have hfl := unhide HF i
                obtain ⟨q, hq⟩ : ∃ q, ps[i] = q := ⟨_, rfl⟩
                rw [hq] at hx hsn hpl
                have HSN := hide hsn
                obtain ⟨fr, hfr⟩ : ∃ fr, frontL (ps.take i) = fr := ⟨_, rfl⟩
                rw [hfr] at hfl
                have j1 : ba fr ++ ba q = ba (fr ++ q) := ba_app _ _
                have j2 : ba (fr ++ q) ++ ⟨#[10]⟩ = ba ((fr ++ q) ++ [10]) := ba_app _ [10]
                have z1 : (ba fr).size = fr.length := ba_size _
                have z2 : (ba q).size = q.length := ba_size _
                have z3 : (ba (fr ++ q)).size = fr.length + q.length := by rw [ba_size, List.length_append]
                have HFR := hide hfr
                rw [hfr]
                have HBW := hide hbw
                have HTX := hide (And.intro htx hBl)
                clear hq hsn hfr hbw htx hBl
                go_wp2
                go_roundw
                case rel => exact ⟨i + 1, by omega, by omega, by simp, by rw [unhide HSN, frontL_snoc, unhide HFR]; simp, unhide HBW, (unhide HTX).1, (unhide HTX).2⟩
                case measure => simp [intOf]; omega
              · have hcN2 : ¬ (i : Int) < (N : Int) := by omega
                have hfj : frontL (ps.take i) = frontL (ps.take (n4 - 1)) := by rw [take_all hi2 (by rw [unhide HN]; omega)]
                have hfl := unhide HF i
                have P6 := hide (vendor_tells (t := frontL (ps.take i)) ((unhide HG).low hbw) (by omega))
                obtain ⟨fr, hfr⟩ : ∃ fr, frontL (ps.take i) = fr := ⟨_, rfl⟩
                rw [hfr] at hfj P6 hfl ⊢
                have HBX := hide hbw
                have HFJ4 := hide hfj
                clear hfr hbw htx hBl hi hi2 hfj
                go_wp2_with (go_at_call 20; fail)
                refine (unhide P6).mono ?_
                rintro e w7 ⟨v7, n7, en7, rfl, o7, b7⟩
                have O7 := hide o7
                have B7 := hide (low_trans (unhide HBX) b7)
                clear o7 b7 P6
                have HX : Hid (en4 ≠ 0 → en7 = 0) := hide (fun h => by
                  have h1 := unhide HVG (by rw [← (unhide O4).2]; exact h)
                  rw [(unhide O7).2, unhide HFJ4, (unhide O4).1]
                  exact h1)
                by_cases h4 : en4 = 0
                · subst h4
                  clear HX
                  go_wp2_with (go_at_call 15; refine (num_any _ _).mono ?_; rintro e w9 ⟨rfl, hw⟩; rw [hw]; clear hw w9)
                  all_goals
                    go_ret
                    exact ⟨rfl, unhide B7⟩
                · have hz7 : en7 = 0 := unhide HX h4
                  subst hz7
                  have hq4 : (en4 == 0) = false := by simp [h4]
                  clear HX
                  by_cases hn4 : n4 = 0
                  · subst hn4
                    go_wp2_with (go_at_call 15; refine (num_any _ _).mono ?_; rintro e w9 ⟨rfl, hw⟩; rw [hw]; clear hw w9)
                    all_goals
                      go_ret
                      exact ⟨rfl, unhide B7⟩
                  · have hqn : ((n4 : Int) == 0) = false := by simp [hn4]
                    go_wp2_with (go_at_call 15; refine (num_any _ _).mono ?_; rintro e w9 ⟨rfl, hw⟩; rw [hw]; clear hw w9)
                    all_goals
                      go_ret
                      exact ⟨rfl, unhide B7⟩
            · skip
              have hfj : frontL (ps.take i) = frontL (ps.take (n4 - 1)) := by rw [take_all hi2 (by rw [unhide HN]; omega)]
              have hfl := unhide HF i
              have P6 := hide (vendor_tells (t := frontL (ps.take i)) ((unhide HG).low hbw) (by omega))
              obtain ⟨fr, hfr⟩ : ∃ fr, frontL (ps.take i) = fr := ⟨_, rfl⟩
              rw [hfr] at hfj P6 hfl ⊢
              have HBX := hide hbw
              have HFJ4 := hide hfj
              clear hfr hbw htx hBl hi hi2 hfj
              go_wp2_with (go_at_call 20; fail)
              refine (unhide P6).mono ?_
              rintro e w7 ⟨v7, n7, en7, rfl, o7, b7⟩
              have O7 := hide o7
              have B7 := hide (low_trans (unhide HBX) b7)
              clear o7 b7 P6
              have HX : Hid (en4 ≠ 0 → en7 = 0) := hide (fun h => by
                have h1 := unhide HVG (by rw [← (unhide O4).2]; exact h)
                rw [(unhide O7).2, unhide HFJ4, (unhide O4).1]
                exact h1)
              by_cases h4 : en4 = 0
              · subst h4
                clear HX
                go_wp2_with (go_at_call 15; refine (num_any _ _).mono ?_; rintro e w9 ⟨rfl, hw⟩; rw [hw]; clear hw w9)
                all_goals
                  go_ret
                  exact ⟨rfl, unhide B7⟩
              · have hz7 : en7 = 0 := unhide HX h4
                subst hz7
                have hq4 : (en4 == 0) = false := by simp [h4]
                clear HX
                by_cases hn4 : n4 = 0
                · subst hn4
                  go_wp2_with (go_at_call 15; refine (num_any _ _).mono ?_; rintro e w9 ⟨rfl, hw⟩; rw [hw]; clear hw w9)
                  all_goals
                    go_ret
                    exact ⟨rfl, unhide B7⟩
                · have hqn : ((n4 : Int) == 0) = false := by simp [hn4]
                  go_wp2_with (go_at_call 15; refine (num_any _ _).mono ?_; rintro e w9 ⟨rfl, hw⟩; rw [hw]; clear hw w9)
                  all_goals
                    go_ret
                    exact ⟨rfl, unhide B7⟩


end Go.Proofs.YthcafeoamabkgaaGreatDoor
