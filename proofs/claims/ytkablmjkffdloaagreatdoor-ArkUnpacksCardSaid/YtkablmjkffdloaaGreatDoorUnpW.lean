/-
  Bytes as an archive: the law's walk; what is handed out may be written.
-/
import Derived.Test.YtkablmjkffdloaaGreatDoorRUnp
import Derived.Test.YtkablmjkffdloaaGreatDoorOneW
import Derived.Test.YtkablmjkffdloaaGreatDoorLogE
namespace Go.Proofs.YtkablmjkffdloaaGreatDoor
open Go.RowKit

theorem unps_one {b : Bs} {E F : Int} (h : UnpS b E) (k : UnpS b F) : E = F := by
  rcases h with ⟨h1, rfl⟩ | ⟨h1, h2, rfl⟩ | ⟨L, h1, h2, h3⟩ <;> rcases k with ⟨k1, rfl⟩ | ⟨k1, k2, rfl⟩ | ⟨M, k1, k2, k3⟩
  · rfl
  · omega
  · omega
  · omega
  · rfl
  · rw [h2] at k2; cases k2
  · omega
  · rw [h2] at k2; cases k2
  · rw [h2] at k2
    obtain rfl := Option.some.inj k2
    rcases h3 with ⟨h4, rfl⟩ | ⟨h4, h5⟩ <;> rcases k3 with ⟨k4, rfl⟩ | ⟨k4, k5⟩
    · rfl
    · omega
    · omega
    · rcases h5 with ⟨h6, rfl⟩ | ⟨h6, h7⟩ <;> rcases k5 with ⟨k6, rfl⟩ | ⟨k6, k7⟩
      · rfl
      · exact absurd k6 h6
      · exact absurd h6 k6
      · rcases h7 with ⟨h8, rfl⟩ | ⟨h8, rfl⟩ <;> rcases k7 with ⟨k8, rfl⟩ | ⟨k8, rfl⟩
        · rfl
        · exact absurd k8 h8
        · exact absurd h8 k8
        · rfl
/-- Files that came out, from the i-th on as they came: each may be written. -/
structure Mu (w0 w : World) (A i : Nat) (ys : List Fl) : Prop where
  low : Below w0.heap.size w0 w
  sz : w0.heap.size ≤ A
  row : ∃ cs, Blk w A cs 56 ∧ ∀ j (_ : j < ys.length), i ≤ j → cs[j * 2 + 1]? = some (flV ys[j])
  one : ∀ j (_ : j < ys.length), i ≤ j → ∃ d : Bs, d.length = ys[j].n ∧ d.length ≤ 1048576 ∧ OwnB w0.heap.size w (flV ys[j]) d ∧ (flV ys[j]).ownBlock ≠ some A
  ap : ∀ j k (_ : j < ys.length) (_ : k < ys.length), j < k → ∀ g, (flV ys[k]).ownBlock = some g → (flV ys[j]).ownBlock ≠ some g
theorem Mu.start {w0 w : World} {A : Nat} {l : List Nd} (h : FdOwn w0.heap.size w A l) (b : Below w0.heap.size w0 w) (hs : ∀ p ∈ l, p.2.length ≤ 1048576) : ∃ ys : List Fl, ys.length = l.length ∧ Mu w0 w A 0 ys := by
  obtain ⟨ys, h1, h2, h3⟩ := h
  have hlen : ys.length = l.length := by have := congrArg List.length h1; simpa using this
  refine ⟨ys, hlen, b, ?_, ?_, fun j hj _ => ?_, h3.ap⟩
  · exact (u_row_ge h2 rfl).1
  · rcases h2.2 with ⟨e, h0⟩ | ⟨g, cap, cur, e, hb, hblk, hr⟩
    · cases e
    · have e1 := (Value.slice.inj e).1
      cases e1
      refine ⟨cur, hblk, fun j hj _ => ?_⟩
      have h5 : (flsV ys)[j * 2 + 1]? = some (flV ys[j]) := by
        rw [flsV_get ys (j * 2 + 1) (by omega)]
        have q1 : (j * 2 + 1) / 2 = j := by omega
        have q2 : (j * 2 + 1) % 2 = 1 := by omega
        rw [q1, q2]
        simp [hj, flL, flV]
      rw [← hr.2.2.2] at h5
      rw [List.getElem?_take] at h5
      split at h5
      · simpa using h5
      · cases h5
  · obtain ⟨e, o, n⟩ := h3.one j hj (by rw [List.length_map]; omega)
    rw [List.getElem_map] at e o
    exact ⟨_, e, hs _ (List.getElem_mem _), o, n⟩
theorem Mu.cell {w0 w : World} {A i : Nat} {ys : List Fl} (h : Mu w0 w A i ys) (hi : i < ys.length) : w.cell? ⟨A, i * 2 + 1, none⟩ = some (flV ys[i]) ∧ w.frozen? ⟨A, i * 2 + 1, none⟩ = false := by
  obtain ⟨cs, hb, hc⟩ := h.row
  exact ⟨(hb.cell _).trans (hc i hi (Nat.le_refl _)), Lib.frozen_of_heap hb _⟩
theorem Mu.put {w0 w : World} {A i g k : Nat} {ys : List Fl} (h : Mu w0 w A i ys) (hi : i < ys.length) (ha : ys[i].a = some ⟨g, 0, none⟩) : Mu w0 (w.setCell ⟨g, k, none⟩ (.int .u8 2)) A i ys := by
  have hown : (flV ys[i]).ownBlock = some g := by unfold flV; rw [ha]; rfl
  obtain ⟨d, e, hd, o, n⟩ := h.one i hi (Nat.le_refl _)
  have hgA : g ≠ A := fun e => n (by rw [hown, e])
  have hgb := OwnB.base o g hown
  refine ⟨low_set h.low hgb _, h.sz, ?_, fun j hj hij => ?_, h.ap⟩
  · obtain ⟨cs, hb, hc⟩ := h.row
    exact ⟨cs, Blk.other hb (by show A ≠ g; exact fun e => hgA e.symm) _, hc⟩
  · by_cases hji : j = i
    · subst hji
      refine ⟨d.set k 2, by rw [List.length_set]; exact e, by rw [List.length_set]; exact hd, ?_, n⟩
      have o2 := o
      unfold flV at o2 ⊢
      rw [ha] at o2 ⊢
      exact OwnB.put o2 k 2
    · obtain ⟨d2, e2, hd2, o2, n2⟩ := h.one j hj hij
      refine ⟨d2, e2, hd2, OwnB.keep o2 fun q hq => Below.heap_setCell _ _ _ _ ?_, n2⟩
      show q ≠ g
      intro e
      subst e
      exact h.ap i j hi hj (by omega) q hq hown
theorem Mu.grow {w0 w W1 : World} {A i : Nat} {ys : List Fl} (h : Mu w0 w A i ys) (hi : i < ys.length) (hW : w.alloc (.cells #[.int .u8 3] 5) = W1) :
    ∃ a' m' c' w', (Builtin.append_ #[23, 23] 23 #[flV ys[i], .slice (some ⟨w.heap.size, 0, none⟩) 1 1]).run Tryz.prog W1 = .ok (.slice a' m' c') w' ∧ w'.cell? ⟨A, i * 2 + 1, none⟩ = some (flV ys[i]) ∧ w'.frozen? ⟨A, i * 2 + 1, none⟩ = false ∧ Hid (Mu w0 (w'.setCell ⟨A, i * 2 + 1, none⟩ (.slice a' m' c')) A (i + 1) ys) := by
  obtain ⟨d, e, hd, o, n⟩ := h.one i hi (Nat.le_refl _)
  obtain ⟨v', w', r1, r2, g⟩ := app_byte (c := 3) o h.low.size (by omega) hW
  obtain ⟨a', c', rfl, -, -, -⟩ := OwnB.at r2
  obtain ⟨cs, hb, hc⟩ := h.row
  have hbA : Blk w' A cs 56 := (g.block A hb.lt (fun e => n e.symm)).trans hb
  refine ⟨a', _, c', w', r1, (hbA.cell _).trans (hc i hi (Nat.le_refl _)), Lib.frozen_of_heap hbA _, hide ⟨low_set (h.low.trans (g.low h.low.size (fun q hq => OwnB.base o q hq))) h.sz _, h.sz, ⟨_, hbA.set (i * 2 + 1) _, fun j hj hij => ?_⟩, fun j hj hij => ?_, h.ap⟩⟩
  · rw [Array.getElem?_setIfInBounds_ne (by omega)]
    exact hc j hj (by omega)
  · obtain ⟨d2, e2, hd2, o2, n2⟩ := h.one j hj (by omega)
    refine ⟨d2, e2, hd2, OwnB.keep o2 fun q hq => ?_, n2⟩
    rw [Below.heap_setCell _ _ _ _ (by show q ≠ A; exact fun e => n2 (by rw [hq, e]))]
    exact g.block q (OwnB.lt o2 q hq) (fun e => h.ap i j hi hj (by omega) q hq e.symm)
theorem fd_nil (w : World) : FdAt w none [] := ⟨[], rfl, ⟨Or.inl rfl⟩, rfl, fun k h => by simp at h⟩




set_option maxRecDepth 100000 in
set_option maxHeartbeats 8000000 in
theorem unpacks_law {w : World} {a : Option Addr} {n c : Nat} {b : Bs} (hg : Ml w) (hn : b.length = n) (hN : n ≤ 9223372036854775807) (hc : n ≤ c) (hcm : c ≤ 9223372036854775807) (hf : a = none ∨ ∃ B O, a = some ⟨B, O, none⟩) (h : BAt w a b) :
    Calls Tryz.prog 6 #[.slice a n c] w fun e w' => e = .returned (.bool true) ∧ Below w.heap.size w w' := by
  have HG := hide hg
  have HN := hide hn
  have HF := hide hf
  have HA := hide h
  clear hg hn hf h
  go_enter Tryz.func6, Tryz.ntmps6
  go_wp2_with (go_at_call 16; fail)
  refine (first_any w).mono ?_
  rintro e w2 ⟨rfl, b2⟩
  have HB2 := hide b2
  clear b2
  by_cases g1 : 20000 < n
  · have a1 : (20000 : Int) < (n : Int) := by omega
    go_wp2
    go_ret
    exact ⟨rfl, unhide HB2⟩
  have a1 : ¬ (20000 : Int) < (n : Int) := by omega
  have KL := hide (lent_any (w := w2) (c := c) (unhide HN) (by omega) ((unhide HA).low (unhide HB2)))
  go_wp2_with (go_at_call 26; fail)
  refine (unhide KL).mono ?_
  rintro e w3 ⟨g, cap, rfl, hcap, hcapm, hgb, hown, b3⟩
  have HB3 := hide (low_trans (unhide HB2) b3)
  have HO3 := hide hown
  have HA3 := hide ((unhide HA).low (unhide HB3))
  have KU := hide (unpack_any (w := w3) (c := cap) ((unhide HG).low (unhide HB3)) (unhide HN) (by omega) (by unfold maxLen at hcapm; omega) (Or.inr ⟨_, _, rfl⟩) hown.front)
  clear hgb hown b3 KL
  go_wp2_with (go_at_call 20; fail)
  refine (unhide KU).mono ?_
  rintro e w4 ⟨⟨E, hus, hcase⟩, b4⟩
  have HB4 := hide b4
  have KR := hide (refUnpack_any (w := w4) (c := c) (unhide HN) (by omega) hc hcm (unhide HF) ((unhide HA3).low b4))
  have HUS := hide hus
  clear b4 hus KU
  rcases hcase with ⟨hne, rfl⟩ | ⟨hE0, A, L, hL, rfl, hfd⟩
  · go_wp2_with (go_at_call 50; fail)
    refine (unhide KR).mono ?_
    rintro e w5 ⟨⟨E2, hus2, hcase2⟩, b5⟩
    have hEE := unps_one (unhide HUS) hus2
    subst hEE
    rcases hcase2 with ⟨-, rfl⟩ | ⟨h0, -⟩
    case inr => exact absurd h0 hne
    have HB5 := hide (low_trans (unhide HB4) b5)
    have KS := hide (sameFd_any (w := w5) (a := none) (a2 := none) (c := 0) (c2 := 0) (l1 := []) (l2 := []) (n := 0) (m := 0) rfl rfl (by omega) (by omega) (fun p hp => by cases hp) (fun p hp => by cases hp) (fd_nil _) (fd_nil _))
    rw [decide_eq_true rfl] at KS
    clear b5 hus2 KR hne
    go_wp2_with (go_at_call 21; fail)
    refine (unhide KS).mono ?_
    rintro e w6 ⟨rfl, q6, hw6⟩
    have HB6 := hide (low_trans (unhide HB5) (by rw [hw6]; exact low_q _ : Below w5.heap.size w5 w6))
    clear hw6 KS
    go_wp2
    go_loopw [10, 11] (fun v10 _ wr => v10 = .int .i64 0 ∧ wr = w6) (fun _ _ _ => 0)
    case atStart => exact ⟨rfl, rfl⟩
    case round =>
      rename World => wr
      obtain ⟨rfl, hwr⟩ := hrel
      have HBR : Hid (Below w3.heap.size w3 wr) := hide (by rw [hwr]; exact unhide HB6)
      clear hwr
      have KK := hide (kept_any (w := wr) (c := c) (unhide HN) (by omega) hcap (OwnB.low (unhide HO3) (unhide HBR)) ((unhide HA3).low (unhide HBR)))
      have ee : (E == E) = true := by simp
      have HZ0 := hide (low_trans (unhide HB3) (unhide HBR))
      go_wp2_with (first | (go_at_call 19; refine (errno_any _ _).mono ?_; rintro e wn ⟨rfl, hwn⟩; rw [hwn]; clear hwn wn) | (go_at_call 36; fail))
      refine (unhide KK).mono ?_
      rintro e w9 ⟨rfl, q9, hw9⟩
      have HZ : Hid (Below w.heap.size w w9) := hide (low_trans (unhide HZ0) (by rw [hw9]; exact low_q _))
      clear hw9 KK
      go_wp2
      go_ret
      exact ⟨rfl, unhide HZ⟩
  · subst hE0
    obtain ⟨hl100, hpk, -, -⟩ := unp_ok (unhide HUS) hL
    go_wp2_with (go_at_call 50; fail)
    refine (unhide KR).mono ?_
    rintro e w5 ⟨⟨E2, hus2, hcase2⟩, b5⟩
    have hEE := unps_one (unhide HUS) hus2
    subst hEE
    rcases hcase2 with ⟨h0, -⟩ | ⟨-, a2, c2, L2, hL2, rfl, hfd2⟩
    case inl => exact absurd rfl h0
    obtain rfl : L2 = L := by rw [hL] at hL2; exact (Option.some.inj hL2).symm
    obtain ⟨k, hk⟩ : ∃ k, L2.length = k := ⟨_, rfl⟩
    rw [hk] at hl100
    rw [hk]
    have hkl : (L2.map sfN).length = k := by rw [List.length_map]; exact hk
    have hszs : ∀ x ∈ L2.map sfN, x.2.length ≤ 1048576 := fun x hx => by
      obtain ⟨qs, h1, _, _, h4⟩ := hpk
      have := sizes_mem (h1.mem_iff.2 hx)
      omega
    have HB5 := hide (low_trans (unhide HB4) b5)
    have hlow5 := hfd.at.low b5
    have KS := hide (sameFd_any (w := w5) (c := k) (c2 := c2) hkl hkl (by omega) (by omega) (fun p hp => by have := hszs p hp; omega) (fun p hp => by have := hszs p hp; omega) hlow5 hfd2)
    rw [decide_eq_true rfl] at KS
    have HFD : Hid (FdOwn w3.heap.size w5 A (L2.map sfN)) := hide (by
      obtain ⟨ys, y1, y2, y3⟩ := hfd
      exact ⟨ys, y1, u_row_low y2 b5, y3.low b5⟩)
    have HKL := hide hkl
    have HSZ := hide hszs
    clear b5 hus2 KR hL hL2 hpk hfd hfd2 hk hkl hszs hlow5
    go_wp2_with (go_at_call 21; fail)
    refine (unhide KS).mono ?_
    rintro e w6 ⟨rfl, q6, hw6⟩
    have b6 : Below w5.heap.size w5 w6 := by rw [hw6]; exact low_q _
    have HB6 := hide (low_trans (unhide HB5) b6)
    have HMU : Hid (∃ ys : List Fl, ys.length = k ∧ (k ≠ 0 → Mu w3 w6 A 0 ys)) := hide (by
      by_cases hk0 : k = 0
      · subst hk0
        exact ⟨[], rfl, fun h => absurd rfl h⟩
      · obtain ⟨ys, y1, y2, y3⟩ := unhide HFD
        obtain ⟨zs, z1, z2⟩ := Mu.start (l := L2.map sfN) ⟨ys, y1, u_row_low y2 b6, y3.low b6⟩ (unhide HB6) (unhide HSZ)
        exact ⟨zs, z1.trans (unhide HKL), fun _ => z2⟩)
    clear hw6 b6 KS HFD HSZ
    obtain ⟨ys, hyk, hmu0⟩ := unhide HMU
    have HYK := hide hyk
    have HMU0 := hide hmu0
    clear hyk hmu0 HMU
    go_wp2
    go_loopw [10, 11] (fun v10 _ wr => ∃ i : Nat, i ≤ k ∧ v10 = .int .i64 (i : Int) ∧ Hid (k ≠ 0 → Mu w3 wr A i ys) ∧ Hid (Below w3.heap.size w3 wr)) (fun v10 _ _ => k - (intOf v10).toNat)
    case atStart => exact ⟨0, Nat.zero_le _, rfl, HMU0, HB6⟩
    case round =>
      rename World => wr
      obtain ⟨i, hi, rfl, hmu, HBR⟩ := hrel
      by_cases hlt : i < k
      · have hlt' : (i : Int) < (k : Int) := by omega
        have hiy : i < ys.length := by rw [unhide HYK]; exact hlt
        have hm0 := hide (unhide hmu (by omega))
        clear hmu HMU0
        go_wp2
        go_loopw [11] (fun v11 wk => ∃ q : Nat, q ≤ ys[i].n ∧ v11 = .int .i64 (q : Int) ∧ Hid (Mu w3 wk A i ys)) (fun v11 _ => ys[i].n - (intOf v11).toNat)
        case atStart => exact ⟨0, Nat.zero_le _, rfl, hm0⟩
        case round =>
          rename World => wk
          obtain ⟨q, hq, rfl, hmk⟩ := hrel
          clear hm0
          obtain ⟨cl, fz⟩ := (unhide hmk).cell hiy
          have mput : ∀ g, ys[i].a = some ⟨g, 0, none⟩ → Mu w3 (wk.setCell ⟨g, q, none⟩ (.int .u8 2)) A i ys := fun g hg => (unhide hmk).put hiy hg
          obtain ⟨d, hdl, hdm, hdo, -⟩ := (unhide hmk).one i hiy (Nat.le_refl _)
          obtain ⟨W1, hW1⟩ : ∃ W, wk.alloc (.cells #[.int .u8 3] 5) = W := ⟨_, rfl⟩
          obtain ⟨a8, m8, c8, w8, happ, cl8, fz8, hm8⟩ := (unhide hmk).grow hiy hW1
          obtain ⟨x, hxx⟩ : ∃ x, ys[i] = x := ⟨_, rfl⟩
          rw [hxx] at hq cl mput hdl hdo happ cl8 ⊢
          obtain ⟨xnm, xa, xn, xc⟩ := x
          unfold flV at cl hdo happ cl8
          simp only at hq cl mput hdl hdo happ cl8 ⊢
          have hxb : xn ≤ 1048576 := by omega
          have HM8 := hide (And.intro (unhide hm8) (unhide hm8).low)
          have HX1 := hide hW1
          by_cases hqn : q < xn
          · have hqn' : (q : Int) < (xn : Int) := by omega
            obtain ⟨gg, cc, e1, o1, -, -, -, -, fzg⟩ := OwnB.val hdo (by omega)
            have e2 := (Value.slice.inj e1).1
            subst e2
            have cq : wk.cell? ⟨gg, q, none⟩ = some (.int .u8 ((d[q]'(by omega)).toNat : Int)) := by
              obtain ⟨a', c', hv, hat, -, -⟩ := OwnB.at hdo
              have e3 := (Value.slice.inj hv).1
              rw [← e3] at hat
              obtain ⟨B', O', e, h2⟩ := hat.at (by omega : q < d.length)
              cases e
              rw [Nat.zero_add] at h2
              exact h2
            have fq := fzg q
            have HP := hide (mput gg rfl)
            clear happ cl8 fz8 hm8 HM8 HX1 hW1 mput hdo e1 o1 fzg
            go_wp2
            go_roundw
            case rel => exact ⟨q + 1, hqn, by push_cast; rfl, HP⟩
            case measure => simp [intOf]; omega
          · have hqn' : ¬ (q : Int) < (xn : Int) := by omega
            clear hdo mput hW1 hm8 hmk hxx
            go_wp2_with (at_builtin; rw [unhide HX1]; refine Lib.wpList_append_run _ rfl (.tmp 65) (.tmp 66) 23 23 rfl _ _ rfl rfl _ _ happ ?_; clear happ)
            go_roundw
            case rel => exact ⟨i + 1, hlt, by push_cast; rfl, hide (fun _ => (unhide HM8).1), hide (unhide HM8).2⟩
            case measure => simp [intOf]; omega
      · have hE : ∃ E : Int, E = 0 := ⟨0, rfl⟩
        clear hmu HMU0
        have KK := hide (kept_any (w := wr) (c := c) (unhide HN) (by omega) hcap (OwnB.low (unhide HO3) (unhide HBR)) ((unhide HA3).low (unhide HBR)))
        have ee : ((0 : Int) == 0) = true := rfl
        have HZ0 := hide (low_trans (unhide HB3) (unhide HBR))
        go_wp2_with (first | (go_at_call 19; refine (errno_any _ _).mono ?_; rintro e wn ⟨rfl, hwn⟩; rw [hwn]; clear hwn wn) | (go_at_call 36; fail))
        refine (unhide KK).mono ?_
        rintro e w9 ⟨rfl, q9, hw9⟩
        have HZ : Hid (Below w.heap.size w w9) := hide (low_trans (unhide HZ0) (by rw [hw9]; exact low_q _))
        clear hw9 KK
        go_wp2
        go_ret
        exact ⟨rfl, unhide HZ⟩
end Go.Proofs.YtkablmjkffdloaaGreatDoor
