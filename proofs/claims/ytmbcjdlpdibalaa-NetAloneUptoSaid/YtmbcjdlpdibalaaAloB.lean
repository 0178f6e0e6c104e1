/-
  NetAlone: the walk.
-/
import Derived.Test.YtmbcjdlpdibalaaAloA
namespace Go.Proofs.Ytmbcjdlpdibalaa
open Go.RowKit Go.WideMaps Go.Maps Go.MuLone

theorem sum_take {s : St} {us : List ByteArray} {j : Nat} (hj : j < us.length) : sumL s.aq (fun _ => true) (us.take (j + 1)) = sumL s.aq (fun _ => true) (us.take j) + s.aq us[j] := by
  have app : ∀ (l m : List ByteArray), sumL s.aq (fun _ => true) (l ++ m) = sumL s.aq (fun _ => true) l + sumL s.aq (fun _ => true) m := by
    intro l m
    induction l with
    | nil => simp [sumL]
    | cons v l ih => simp only [List.cons_append, sumL, ih]; omega
  rw [List.take_succ_eq_append_getElem hj, app]
  simp [sumL]

theorem sum_le {s : St} {us : List ByteArray} {j : Nat} : sumL s.aq (fun _ => true) (us.take j) ≤ sumL s.aq (fun _ => true) us := by
  induction us generalizing j with
  | nil => simp [sumL]
  | cons v us ih =>
    cases j with
    | zero => simp [sumL]
    | succ j => have := ih (j := j); simp only [List.take_succ_cons, sumL]; omega

theorem row_text {w : World} {base : Nat} {v : Value} {us : List ByteArray} (h : w.ownsRow base 9 1 v us.length (us.map Value.string)) :
    ∃ a c, v = .slice a us.length c ∧ (us.length = 0 ∨ ∃ g, a = some ⟨g, 0, none⟩ ∧ base ≤ g ∧ ∀ k (hk : k < us.length), w.cell? ⟨g, k, none⟩ = some (.string us[k])) := by
  rcases h.2 with ⟨rfl, h0⟩ | ⟨g, cap, cur, rfl, hb, hg, r1, r2, r3, r4⟩
  · exact ⟨none, 0, by rw [h0], Or.inl h0⟩
  · refine ⟨_, _, rfl, Or.inr ⟨g, rfl, hb, fun k hk => ?_⟩⟩
    rw [Lib.cell_of_heap hg k, ← Array.getElem?_toList]
    have e : cur.toList[k]? = (us.map Value.string)[k]? := by rw [← r4, List.getElem?_take_of_lt (by omega)]
    rw [e, List.getElem?_map, List.getElem?_eq_getElem hk]
    rfl

set_option maxHeartbeats 4000000 in
set_option maxRecDepth 100000 in
theorem alone_walk {w : World} {a1 a2 a3 : Option Addr} {n1 n2 n3 c1 c2 c3 : Nat} {ps : List Pg} {fs : List Fa} {ts : List ByteArray} {u : ByteArray} (FIRST : ∀ w, Calls Try.prog 6 #[] w fun e w' => e = .returned (.bool true) ∧ Below w.heap.size w w') (hp : PgsAt w a1 n1 ps) (hf : FasAt w a2 n2 fs) (ht : TextsAt w a3 n3 ts) (hu : u.size ≤ maxLen) (h1 : n1 ≤ 1099511627776) (h2 : n2 ≤ 1099511627776) (h3 : n3 ≤ 1099511627776) :
    Calls Try.prog 3 #[.slice a1 n1 c1, .slice a2 n2 c2, .string u, .slice a3 n3 c3] w fun e w' => e = .returned (.bool true) ∧ Below w.heap.size w w' := by
  have HP := hide hp
  have HF := hide hf
  have HT := hide ht
  have HFI := hide FIRST
  clear hp hf ht FIRST
  go_enter Try.func3, Try.ntmps3
  go_wp2_with (go_at_call 6; fail)
  refine ((unhide HFI) w).mono ?_
  rintro e w1 ⟨rfl, b1⟩
  have HB1 := hide b1
  clear b1
  go_wp2_with (go_at_call 7; fail)
  refine (few_any ((unhide HP).below (unhide HB1)) ((unhide HF).below (unhide HB1)) h1 h2).mono ?_
  rintro e w2 ⟨⟨bq, rfl, hbq⟩, nq, hw2⟩
  have HB2 : Hid (Below w.heap.size w w2) := by rw [hw2]; exact belowN (unhide HB1) nq
  clear hw2 HB1
  cases bq with
  | false =>
    clear hbq
    go_wp2
    go_ret
    exact ⟨rfl, unhide HB2⟩
  | true =>
    obtain ⟨q1, q2⟩ := hbq rfl
    clear hbq
    by_cases hn3 : 200 < n3
    · go_wp2
      go_ret
      exact ⟨rfl, unhide HB2⟩
    have hn3' : n3 ≤ 200 := by omega
    go_wp2_with (go_at_call 8; fail)
    refine (new_any ((unhide HP).below (unhide HB2)) ((unhide HF).below (unhide HB2)) (by omega) (by omega)).mono ?_
    rintro e w3 hq
    have hb3 : Below w2.heap.size w2 w3 := by
      cases hnew : newR ps fs with
      | error z => rw [hnew] at hq; exact hq.2.2
      | ok s0 => rw [hnew] at hq; obtain ⟨G, _, _, _, b⟩ := hq; exact b
    have HB3 : Hid (Below w.heap.size w w3) := (unhide HB2).trans (hb3.mono (unhide HB2).size)
    have HNEW := hide (new_any (c1 := c1) (c2 := c2) ((unhide HP).below (unhide HB3)) ((unhide HF).below (unhide HB3)) (by omega) (by omega))
    cases hnew : newR ps fs with
    | error z =>
      rw [hnew] at hq HNEW
      obtain ⟨rfl, hz, b3⟩ := hq
      have hz1 : (z != 0) = true := by simp [hz]
      have hz2 : ¬ z = 0 := hz
      clear hnew b3 hz hb3 HB2
      go_wp2_with (go_at_call 8; fail)
      refine (unhide HNEW).mono ?_
      rintro e w4 ⟨rfl, _, b4⟩
      have HB4 : Hid (Below w.heap.size w w4) := (unhide HB3).trans (b4.mono (unhide HB3).size)
      clear b4 HNEW
      go_wp2_with (go_at_call 9; refine (num_any z w4).mono ?_; rintro e w5 ⟨rfl, hw⟩; rw [hw]; clear hw w5)
      go_ret
      exact ⟨rfl, unhide HB4⟩
    | ok s0 =>
      rw [hnew] at hq HNEW
      obtain ⟨⟨F, P, T, A, lo, hi⟩, rfl, hrep, hge, b3⟩ := hq
      obtain ⟨_, f2, f3, _⟩ := new_facts hnew
      have hs0 : s0.n ≤ 200 := by rw [f3, (unhide HP).len, (unhide HF).len]; omega
      have HREP := hide hrep
      have HGE := hide hge
      have HB23 := hide b3
      have HAQ := hide f2
      clear hnew hrep hge b3 hb3 f2 f3
      go_wp2_with (go_at_call 8; fail)
      refine (unhide HNEW).mono ?_
      rintro e w4 ⟨⟨F2, P2, T2, A2, lo2, hi2⟩, rfl, hrep2, hge2, b4⟩
      have HI0 := hide (alo_start (u := u) (unhide HREP) (unhide HGE) (unhide HB23) hrep2 hge2 b4 (unhide HB2) (unhide HAQ))
      clear hrep2 hge2 b4 HREP HGE HB23 HB2 HB3 HNEW HAQ
      go_wp2_with (go_at_call 9; refine (num_any 0 w4).mono ?_; rintro e w5 ⟨rfl, hw⟩; rw [hw]; clear hw w5)
      go_loopw [15, 16, 17, 18, 19] (fun v15 v16 _ _ _ wr => ∃ k i : Nat, i ≤ n3 ∧ k ≤ i ∧ v15 = .int .i64 k ∧ v16 = .int .i64 i ∧ ∃ s1 s2, AloInv w ⟨F, P, T, A, lo, hi⟩ ⟨F2, P2, T2, A2, lo2, hi2⟩ s0.n u k i wr s1 s2) (fun _ v16 _ _ _ _ => n3 - (intOf v16).toNat)
      case atStart => exact ⟨0, 0, Nat.zero_le _, Nat.le_refl _, rfl, rfl, s0, s0, unhide HI0⟩
      case round =>
        clear HI0
        obtain ⟨k, i, hi3, hki, rfl, rfl, s1, s2, hinv⟩ := hrel
        have HI := hide hinv
        have hsn1 : s1.n ≤ 1000 := by have := hinv.n1; omega
        have hsn2 : s2.n ≤ 1000 := by have := hinv.n2; omega
        clear hinv
        by_cases hlt : i < n3
        · obtain ⟨tb, tO, ha, hel⟩ : ∃ b o, a3 = some ⟨b, o, none⟩ ∧ ∀ k (hk : k < ts.length), wr.cell? ⟨b, o + k, none⟩ = some (.string ts[k]) ∧ ts[k].size ≤ maxLen := by
            rcases ((unhide HT).below (unhide HI).low).els with h | h
            · omega
            · exact h
          subst ha
          obtain ⟨t0, hts⟩ := hel i (by rw [(unhide HT).len]; exact hlt)
          obtain ⟨v, hv⟩ : ∃ v, ts[i]'(by rw [(unhide HT).len]; exact hlt) = v := ⟨_, rfl⟩
          rw [hv] at t0 hts
          clear hv hel
          by_cases hvu : v = u
          · subst hvu
            obtain ⟨x, hx⟩ : ∃ x, getR s1 v = x := ⟨_, rfl⟩
            have HG1 := hide (fget2 (unhide HI).pair.one (by omega) hts hx)
            have hx2 : getR s2 v = x := (unhide HI).same.symm.trans hx
            have HX2 := hide hx2
            clear hx hx2
            go_wp2_with (go_at_call 10; fail)
            refine (unhide HG1).mono ?_
            rintro e w5 ⟨a5, c5, rfl, hd, hc5, hl5⟩
            obtain ⟨W5, hW5⟩ : ∃ W, w5.alloc (.cells #[.int .i64 x.st, .slice a5 x.data.length c5, .int .i64 x.tk] 34) = W := ⟨_, rfl⟩
            rw [hW5] at hd
            have D5 := hide hd
            have HW5 := hide hW5
            have HG2 := hide (fget2 ((unhide HI).two hd) (by omega) hts (unhide HX2))
            clear hd hW5 HG1
            go_wp2_with (go_at_call 10; fail)
            rw [unhide HW5]
            refine (unhide HG2).mono ?_
            rintro e w6 ⟨a6, c6, rfl, hd, hc6, hl6⟩
            obtain ⟨W6, hW6⟩ : ∃ W, w6.alloc (.cells #[.int .i64 x.st, .slice a6 x.data.length c6, .int .i64 x.tk] 34) = W := ⟨_, rfl⟩
            rw [hW6] at hd
            obtain ⟨hinv, ⟨bx1, bx2⟩, by1, by2⟩ := (unhide HI).both hts (unhide D5) hd
            have HI6 := hide hinv
            have y0 : W6.cell? ⟨w5.heap.size, 0, none⟩ = some (.int .i64 x.st) := Lib.cell_of_heap bx1 0
            have y1 : W6.cell? ⟨w5.heap.size, 1, none⟩ = some (.slice a5 x.data.length c5) := Lib.cell_of_heap bx1 1
            have y2 : W6.cell? ⟨w5.heap.size, 2, none⟩ = some (.int .i64 x.tk) := Lib.cell_of_heap bx1 2
            have z0 : W6.cell? ⟨w6.heap.size, 0, none⟩ = some (.int .i64 x.st) := Lib.cell_of_heap bx2 0
            have z1 : W6.cell? ⟨w6.heap.size, 1, none⟩ = some (.slice a6 x.data.length c6) := Lib.cell_of_heap bx2 1
            have z2 : W6.cell? ⟨w6.heap.size, 2, none⟩ = some (.int .i64 x.tk) := Lib.cell_of_heap bx2 2
            have HSB := hide (sameBytes_any by1 by2 (by omega) hc5 hc6)
            clear hd HG2 hinv bx1 bx2 by1 by2 D5 HW5 HI HX2 t0
            go_wp2_with (go_at_call 11; fail)
            refine (unhide HSB).mono ?_
            rintro e w7 ⟨rfl, nq, hw7⟩
            have HI7 : Hid (AloInv w ⟨F, P, T, A, lo, hi⟩ ⟨F2, P2, T2, A2, lo2, hi2⟩ s0.n v (k + 1) (i + 1) w7 (getS s1 v) (getS s2 v)) := by rw [hw7]; exact (unhide HI6).below (belowN (Below.refl _ _) nq)
            have y0 : w7.cell? ⟨w5.heap.size, 0, none⟩ = some (.int .i64 x.st) := by rw [hw7]; exact y0
            have y2 : w7.cell? ⟨w5.heap.size, 2, none⟩ = some (.int .i64 x.tk) := by rw [hw7]; exact y2
            have z0 : w7.cell? ⟨w6.heap.size, 0, none⟩ = some (.int .i64 x.st) := by rw [hw7]; exact z0
            have z2 : w7.cell? ⟨w6.heap.size, 2, none⟩ = some (.int .i64 x.tk) := by rw [hw7]; exact z2
            have HASK := hide (asked_any (unhide HI7).pair.one hts)
            rw [(unhide HI7).a1] at HASK
            clear hw7 HSB HI6 y1 z1 hW6
            go_wp2_with (go_at_call 12; fail)
            refine (unhide HASK).mono ?_
            rintro e w8 ⟨rfl, b8⟩
            have HI8 := hide ((unhide HI7).below b8)
            have hne : (((k + 1 : Nat) : Int) != (k : Int) + 1) = false := by simp
            clear b8 HASK HI7
            go_wp2
            go_roundw
            case rel => exact ⟨k + 1, i + 1, by omega, by omega, by simp, by simp, _, _, unhide HI8⟩
            case measure => simp [intOf]; omega
          · have e3 : (v.toList == u.toList) = false := text_ne hvu
            have e5 : ¬ v.toList = u.toList := by simpa using e3
            have HG1 := hide (get_any (unhide HI).pair.one (by omega) hts)
            go_wp2_with (go_at_call 10; fail)
            refine (unhide HG1).mono ?_
            rintro e w5 ⟨x5, rfl, _, hr, hfr⟩
            have HN := hide ((unhide HI).other hts hvu hr hfr)
            clear hr hfr HG1
            go_wp2
            go_roundw
            case rel => exact ⟨k, i + 1, by omega, by omega, rfl, by simp, _, _, unhide HN⟩
            case measure => simp [intOf]; omega
        · obtain rfl : i = n3 := by omega
          have HU := hide (urls_any (unhide HI).pair.one (by omega))
          go_wp2_with (go_at_call 13; fail)
          refine (unhide HU).mono ?_
          rintro e w5 ⟨vu, us, rfl, hus⟩
          obtain ⟨au, cu, rfl, hrow⟩ := row_text hus.row
          have HS : Hid (sumL s1.aq (fun _ => true) us = i) := (unhide HI).cnt us hus.nd hus.all hus.small
          have HI5 := hide ((unhide HI).below hus.low)
          have HUS := hide hus
          have HROW := hide hrow
          have hul : us.length ≤ 1000 := by have := hus.few; omega
          clear hus HU HI hrow
          go_wp2
          go_loopw [20, 22] (fun v20 v22 wx => ∃ j : Nat, j ≤ us.length ∧ v22 = .int .i64 j ∧ v20 = .int .i64 ((sumL s1.aq (fun _ => true) (us.take j) : Nat) : Int) ∧ Below w5.heap.size w5 wx) (fun _ v22 _ => us.length - (intOf v22).toNat)
          case atStart => exact ⟨0, Nat.zero_le _, rfl, rfl, Below.refl _ _⟩
          case round =>
            obtain ⟨j, hj, rfl, rfl, hlow⟩ := hrel
            rename World => wx
            have HI6 := hide ((unhide HI5).below hlow)
            have HLOW := hide hlow
            have hsle : sumL s1.aq (fun _ => true) (us.take j) ≤ i := by have := sum_le (s := s1) (us := us) (j := j); rw [unhide HS] at this; exact this
            by_cases hlj : j < us.length
            · obtain ⟨g, hg, hgb, hcell⟩ : ∃ g, au = some ⟨g, 0, none⟩ ∧ wr.heap.size ≤ g ∧ ∀ k (hk : k < us.length), w5.cell? ⟨g, k, none⟩ = some (.string us[k]) := by
                rcases unhide HROW with h | h
                · omega
                · exact h
              subst hg
              have c0 : wx.cell? ⟨g, j, none⟩ = some (.string us[j]) := (hlow.cell (p := ⟨g, j, none⟩) (lt_of_cell (hcell j hlj))).trans (hcell j hlj)
              have HN := hide (sum_take (s := s1) hlj)
              have hsle2 : sumL s1.aq (fun _ => true) (us.take (j + 1)) ≤ i := by have := sum_le (s := s1) (us := us) (j := j + 1); rw [unhide HS] at this; exact this
              obtain ⟨x, hx⟩ : ∃ x, us[j] = x := ⟨_, rfl⟩
              have hxs : x.size ≤ maxLen := by rw [← hx]; exact (unhide HUS).small _ (List.getElem_mem _)
              rw [hx] at c0 HN
              obtain ⟨S1, hS1⟩ : ∃ S1, sumL s1.aq (fun _ => true) (us.take j) = S1 := ⟨_, rfl⟩
              obtain ⟨S2, hS2⟩ : ∃ S2, sumL s1.aq (fun _ => true) (us.take (j + 1)) = S2 := ⟨_, rfl⟩
              rw [hS1] at hsle HN ⊢
              rw [hS2] at hsle2 HN
              have HS2 := hide hS2
              obtain ⟨q, hq⟩ : ∃ q, s1.aq x = q := ⟨_, rfl⟩
              have HASK := hide (asked_any (unhide HI6).pair.one hxs)
              rw [hq] at HASK HN
              have hqb : S2 = S1 + q := unhide HN
              have hqs : S1 + q ≤ 200 := by omega
              have HQB := hide hqb
              clear hlow hcell hx hS1 hS2 hq HN hqb hsle2
              go_wp2_with (go_at_call 12; fail)
              refine (unhide HASK).mono ?_
              rintro e w6 ⟨rfl, b6⟩
              have HN6 : Hid (Below w5.heap.size w5 w6) := (unhide HLOW).trans (b6.mono (unhide HLOW).size)
              clear b6 HASK
              go_wp2
              go_roundw
              case rel => exact ⟨j + 1, by omega, by simp, by rw [unhide HS2, unhide HQB]; simp, unhide HN6⟩
              case measure => simp [intOf]; omega
            · have hjl : us.take j = us := List.take_of_length_le (by omega)
              have HT6 := hide (total_any (unhide HI6).pair.one (unhide HUS).nd (unhide HUS).all (unhide HUS).small (unhide HS) (by omega))
              rw [hjl, unhide HS] at hsle ⊢
              clear hlow hjl
              go_wp2_with (go_at_call 14; fail)
              refine (unhide HT6).mono ?_
              rintro e w6 ⟨rfl, b6⟩
              have HN6 := hide ((unhide HI6).below b6).low
              clear b6 HT6
              go_wp2
              go_ret
              exact ⟨rfl, unhide HN6⟩

end Go.Proofs.Ytmbcjdlpdibalaa
