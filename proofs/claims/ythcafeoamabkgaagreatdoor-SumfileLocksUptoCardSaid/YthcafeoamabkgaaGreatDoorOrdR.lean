/-
  The reference's ordered: a rising permutation of any lines.
-/
import Derived.Test.YthcafeoamabkgaaGreatDoorRLin
import Derived.Deep.RegionHeld3
namespace Go.Proofs.YthcafeoamabkgaaGreatDoor
open Go.RowKit

theorem ins_perm {p r ps : List Ln} {t : Ln} {k : Nat} (hk : k < ps.length) (ht : ps[k] = t) (h : (p ++ r).Perm (ps.take k)) : (p ++ [t] ++ r).Perm (ps.take (k + 1)) := by
  rw [List.take_add_one, List.getElem?_eq_getElem hk, ht]
  have e : p ++ [t] ++ r = p ++ t :: r := by simp
  rw [e]
  exact List.perm_middle.trans ((h.cons t).trans (List.perm_append_singleton t _).symm)

/-- What an insertion leaves. -/
def InsL (ps : List Ln) (w : World) (k : Nat) (v : Value) (wr : World) : Prop :=
  ∃ x : List Ln, x.length = k ∧ RLines w.heap.size wr v x ∧ x.Perm (ps.take k) ∧ Srt ltL x ∧ Below w.heap.size w wr

theorem insL_next {ps p r : List Ln} {t : Ln} {w wr W w3 : World} {k : Nat} {v : Value} (hk : k < ps.length) (ht : ps[k] = t) (hlen : (p ++ r).length = k) (hp : (p ++ r).Perm (ps.take k)) (hs : Srt ltL (p ++ r)) (hr : ∀ q ∈ r, ltL t q = true) (hl : p = [] ∨ ∃ l' q, p = l' ++ [q] ∧ ltL t q = false)
    (b0 : Below w.heap.size w wr) (b1 : Below wr.heap.size wr W) (b2 : Below W.heap.size W w3) (ho : RLines W.heap.size w3 v (p ++ [t] ++ r)) : InsL ps w (k + 1) v w3 := by
  refine ⟨p ++ [t] ++ r, by simp at hlen ⊢; omega, rlines_mono ho (low_trans b0 b1).size, ins_perm hk ht hp, ?_, low_trans b0 (low_trans b1 b2)⟩
  have := ins_fit strictL hs hr hl
  simpa using this

/-- The three appends: what stands ahead, the line, what stands behind. -/
theorem three_apps {W : World} {g m k cap : Nat} {p r : List Ln} {t : Ln} (hm : p.length = m) (hr : r.length = k - m) (hk : k ≤ 1000000) (hmk : m ≤ k) (hx : LRow W (some ⟨g, 0, none⟩) (p ++ r)) :
    ∃ v1 w1 v2 w2 v3 w3,
      (Builtin.append_ #[44, 44] 44 #[.slice (some ⟨W.heap.size, 0, none⟩) 0 0, .slice (some ⟨g, 0, none⟩) m cap]).run Tryz.prog (W.alloc (.cells #[] 105)) = .ok v1 w1 ∧
      (Builtin.append_ #[44, 44] 44 #[v1, .slice (some ⟨w1.heap.size, 0, none⟩) 1 1]).run Tryz.prog (w1.alloc (.cells #[.string (ba t.p), .string (ba t.v), .int .i64 t.k, .string (ba t.s)] 105)) = .ok v2 w2 ∧
      (Builtin.append_ #[44, 44] 44 #[v2, .slice (some ⟨g, m * 4, none⟩) (k - m) (cap - m)]).run Tryz.prog w2 = .ok v3 w3 ∧
      (r = [] → ∀ a, (Builtin.append_ #[44, 44] 44 #[v2, .slice a 0 0]).run Tryz.prog w2 = .ok v2 w2 ∧ RLines W.heap.size w2 v2 (p ++ [t] ++ r)) ∧
      Below W.heap.size W w1 ∧ Below W.heap.size W w2 ∧
      RLines W.heap.size w3 v3 (p ++ [t] ++ r) ∧ Below W.heap.size W w3 := by
  have b1 : Below W.heap.size W (W.alloc (.cells #[] 105)) := (Below.refl _ _).alloc (Nat.le_refl _) _
  obtain ⟨v1, w1, r1, l1, g1⟩ := rapp_row (c := cap) 44 (rlines_new W) hm (hx.low b1).front b1.size (by simp; omega)
  rw [List.nil_append] at l1
  have bw1 : Below W.heap.size W w1 := b1.grown g1 b1.size (fun j hj => ((rlines_new W).lt _ hj).1)
  obtain ⟨v2, w2, r2, l2, b2⟩ := rapp_one (x := t) l1 bw1.size (by omega)
  have bw2 : Below W.heap.size W w2 := bw1.trans b2
  have hxb : LRow w2 (some ⟨g, m * 4, none⟩) r := by
    have := (hx.low bw2).back hm
    rwa [Nat.zero_add] at this
  obtain ⟨v3, w3, r3, l3, g3⟩ := rapp_row (c := cap - m) 44 l2 hr hxb bw2.size (by simp; omega)
  obtain ⟨i0, hi, _⟩ := info_parts info105
  exact ⟨v1, w1, v2, w2, v3, w3, r1, r2, r3, fun h0 a => ⟨rappend_nothing a 44 hi l2, by rw [h0, List.append_nil]; exact l2⟩, bw1, bw2, l3, bw2.grown g3 bw2.size (fun j hj => (l2.lt _ hj).1)⟩

/-- What the three appends leave behind a list that is nil. -/
theorem nil_row (W : World) (t : Ln) :
    RLines W.heap.size (((W.alloc (.cells #[] 105)).alloc (.cells #[.string (ba t.p), .string (ba t.v), .int .i64 t.k, .string (ba t.s)] 105)).alloc (.cells (#[.string (ba t.p), .string (ba t.v), .int .i64 t.k, .string (ba t.s)] ++ Builtin.zeroCells #[.string ⟨#[]⟩, .string ⟨#[]⟩, .int .i64 0, .string ⟨#[]⟩] ((Question.appendCap 1 0 105).cut (W.tape W.drawn (Question.appendCap 1 0 105)) - 1)) 105)).drew (.slice (some ⟨W.heap.size + 1 + 1, 0, none⟩) 1 ((Question.appendCap 1 0 105).cut (W.tape W.drawn (Question.appendCap 1 0 105)))) [t] ∧
    Below W.heap.size W (((W.alloc (.cells #[] 105)).alloc (.cells #[.string (ba t.p), .string (ba t.v), .int .i64 t.k, .string (ba t.s)] 105)).alloc (.cells (#[.string (ba t.p), .string (ba t.v), .int .i64 t.k, .string (ba t.s)] ++ Builtin.zeroCells #[.string ⟨#[]⟩, .string ⟨#[]⟩, .int .i64 0, .string ⟨#[]⟩] ((Question.appendCap 1 0 105).cut (W.tape W.drawn (Question.appendCap 1 0 105)) - 1)) 105)).drew := by
  have h1 := grownCap_ge W 1 0 105
  have h2 := grownCap_le_maxLen W 1 0 105 (by unfold maxLen; omega)
  obtain ⟨G, hG⟩ : ∃ G, (Question.appendCap 1 0 105).cut (W.tape W.drawn (Question.appendCap 1 0 105)) = G := ⟨_, rfl⟩
  have hG' : grownCap W 1 0 105 = G := hG
  rw [hG'] at h1 h2
  rw [hG]
  have hs : ((W.alloc (.cells #[] 105)).alloc (.cells #[.string (ba t.p), .string (ba t.v), .int .i64 t.k, .string (ba t.s)] 105)).heap.size = W.heap.size + 1 + 1 := by simp
  refine ⟨⟨rfl, Or.inr ⟨W.heap.size + 1 + 1, G, (#[.string (ba t.p), .string (ba t.v), .int .i64 t.k, .string (ba t.s)] ++ Builtin.zeroCells #[.string ⟨#[]⟩, .string ⟨#[]⟩, .int .i64 0, .string ⟨#[]⟩] (G - 1)), rfl, by omega, ?_, h1, h2, ?_, ?_⟩⟩, ?_⟩
  · have := heap_new ((W.alloc (.cells #[] 105)).alloc (.cells #[.string (ba t.p), .string (ba t.v), .int .i64 t.k, .string (ba t.s)] 105)) (.cells (#[.string (ba t.p), .string (ba t.v), .int .i64 t.k, .string (ba t.s)] ++ Builtin.zeroCells #[.string ⟨#[]⟩, .string ⟨#[]⟩, .int .i64 0, .string ⟨#[]⟩] (G - 1)) 105)
    rw [hs] at this
    exact this
  · simp only [Array.size_append, size_zeroCells]
    simp
    omega
  · simp [lnsV]
  · exact ((((Below.refl W.heap.size W).alloc (Nat.le_refl _) _).alloc (by simp) _).alloc (by simp; omega) _).drew

/-- What holds while two lines are compared. -/
abbrev HeldR (W : World) (g q B o : Nat) (y t : Ln) (wq : World) : Prop :=
  wq.cell? ⟨g, q, none⟩ = some (.string (ba y.p)) ∧ wq.cell? ⟨g, q + 1, none⟩ = some (.string (ba y.v)) ∧ wq.cell? ⟨g, q + 2, none⟩ = some (.int .i64 y.k) ∧ wq.cell? ⟨g, q + 3, none⟩ = some (.string (ba y.s)) ∧ wq.cell? ⟨B, o, none⟩ = some (.string (ba t.p)) ∧ wq.cell? ⟨B, o + 1, none⟩ = some (.string (ba t.v)) ∧ wq.cell? ⟨B, o + 2, none⟩ = some (.int .i64 t.k) ∧ wq.cell? ⟨B, o + 3, none⟩ = some (.string (ba t.s)) ∧ Below W.heap.size W wq

theorem HeldR.on {W wq w' : World} {g q B o : Nat} {y t : Ln} (h : HeldR W g q B o y t wq) (b : Below wq.heap.size wq w') : HeldR W g q B o y t w' := by
  obtain ⟨h1, h2, h3, h4, h5, h6, h7, h8, h9⟩ := h
  have f : ∀ {p : Addr} {u : Value}, wq.cell? p = some u → w'.cell? p = some u := fun {p u} hp => (b.cell (lt_of_cell hp)).trans hp
  exact ⟨f h1, f h2, f h3, f h4, f h5, f h6, f h7, f h8, low_trans h9 b⟩
theorem HeldR.drew {W wq : World} {g q B o : Nat} {y t : Ln} (h : HeldR W g q B o y t wq) : HeldR W g q B o y t wq.drew := h.on (Below.refl _ _).drew
theorem HeldR.end {W wq : World} {g q B o : Nat} {y t : Ln} (h : HeldR W g q B o y t wq) : Below W.heap.size W wq := h.2.2.2.2.2.2.2.2
theorem lessR_held {W wq : World} {g q B o : Nat} {y t : Ln} {r : Bool} (hr : ltL t y = r) (h : HeldR W g q B o y t wq) :
    Calls Tryz.prog 108 #[lnV t, lnV y] wq fun e w' => e = .returned (.bool r) ∧ HeldR W g q B o y t w' := by
  refine (lessR_any wq).mono ?_
  rintro e w' ⟨rfl, b⟩
  exact ⟨ret_bool hr, h.on b⟩

set_option maxHeartbeats 8000000 in
set_option maxRecDepth 100000 in
theorem ordered_any {w : World} {a : Option Addr} {n c : Nat} {ps : List Ln} (hnn : ps.length = n) (hn : n ≤ 100000) (h : LRow w a ps) :
    Calls Tryz.prog 64 #[.slice a n c] w fun e w' => ∃ v ys, e = .returned v ∧ RLines w.heap.size w' v ys ∧ ys.Perm ps ∧ Rising ys ∧ Below w.heap.size w w' := by
  have HN := hide hnn
  have H := hide h
  clear hnn h
  go_enter Tryz.func64, Tryz.ntmps64
  go_wp2
  go_loopw [3, 4, 5, 6] (fun v3 v4 _ _ wr => ∃ k : Nat, k ≤ n ∧ v4 = .int .i64 k ∧ InsL ps w k v3 wr) (fun _ v4 _ _ _ => n - (intOf v4).toNat)
  case atStart => exact ⟨0, Nat.zero_le _, rfl, [], rfl, rlines_nil _ _, by simp, List.Pairwise.nil, Below.refl _ _⟩
  case round =>
    rename World => wr
    obtain ⟨k, hkn, rfl, hins⟩ := hrel
    by_cases hlt : k < n
    · obtain ⟨x, hxl, hown, hperm, hsrt, hb0⟩ := hins
      have hkp : k < ps.length := by rw [unhide HN]; exact hlt
      obtain ⟨B, O, rfl, he⟩ : ∃ B O, a = some ⟨B, O, none⟩ ∧ ∀ k (hk : k < ps.length), LnAt wr B (O + k * 4) ps[k] := by
        rcases ((unhide H).low hb0).els with h | h
        · rw [h] at hkp; simp at hkp
        · exact h
      have hct := he k hkp
      obtain ⟨t, ht0⟩ : ∃ t, ps[k] = t := ⟨_, rfl⟩
      rw [ht0] at hct
      have HT0 := hide ht0
      have HB0 := hide hb0
      obtain ⟨o, ho⟩ : ∃ o, O + k * 4 = o := ⟨_, rfl⟩
      have HO := hide ho
      rw [ho] at hct
      have HCT := hide hct
      clear ht0 hb0 he hct ho
      have hk6 : (k : Int) < (n : Int) := by omega
      by_cases hv : u3 = .slice none 0 0
      · have h0 : x.length = 0 := by
          rcases hown.2 with ⟨_, h⟩ | ⟨g, cap, cur, h, _⟩
          · exact h
          · rw [hv] at h; cases h
        subst hv
        have hx0 : x = [] := List.length_eq_zero_iff.1 h0
        subst hx0
        obtain rfl : k = 0 := by simpa using hxl.symm
        obtain ⟨m1, m2, m3, m4⟩ := unhide HCT
        have ho : O = o := by have := unhide HO; omega
        subst ho
        have HPE := hide hperm
        have HSR := hide hsrt
        clear hxl hown h0 hperm hsrt hkn
        go_wp2
        refine wp_loop_rounds 1 ?_
        rw [rounds_succ]
        go_wp2
        go_quiet (fail)
        obtain ⟨W, hW⟩ : ∃ W, wr.drewN nq = W := ⟨_, rfl⟩
        have b1 : Below wr.heap.size wr W := by rw [← hW]; exact low_drewN (Below.refl _ _) _
        rw [hW]
        have HB1 := hide b1
        have n1 : (W.alloc (.cells #[] 105)).cell? ⟨B, O, none⟩ = some (.string (ba t.p)) := (((Below.refl W.heap.size W).alloc (Nat.le_refl _) _).cell (lt_of_cell ((b1.cell (lt_of_cell m1)).trans m1))).trans ((b1.cell (lt_of_cell m1)).trans m1)
        have n2 : (W.alloc (.cells #[] 105)).cell? ⟨B, O + 1, none⟩ = some (.string (ba t.v)) := (((Below.refl W.heap.size W).alloc (Nat.le_refl _) _).cell (lt_of_cell ((b1.cell (lt_of_cell m2)).trans m2))).trans ((b1.cell (lt_of_cell m2)).trans m2)
        have n3 : (W.alloc (.cells #[] 105)).cell? ⟨B, O + 2, none⟩ = some (.int .i64 t.k) := (((Below.refl W.heap.size W).alloc (Nat.le_refl _) _).cell (lt_of_cell ((b1.cell (lt_of_cell m3)).trans m3))).trans ((b1.cell (lt_of_cell m3)).trans m3)
        have n4 : (W.alloc (.cells #[] 105)).cell? ⟨B, O + 3, none⟩ = some (.string (ba t.s)) := (((Below.refl W.heap.size W).alloc (Nat.le_refl _) _).cell (lt_of_cell ((b1.cell (lt_of_cell m4)).trans m4))).trans ((b1.cell (lt_of_cell m4)).trans m4)
        clear b1 hW m1 m2 m3 m4
        obtain ⟨tp, tv, tk, ts⟩ := t
        simp only at n1 n2 n3 n4
        have HNR := hide (nil_row W ⟨tp, tv, tk, ts⟩)
        have hcut : 1 ≤ (Question.appendCap 1 0 105).cut (W.tape W.drawn (Question.appendCap 1 0 105)) := grownCap_ge W 1 0 105
        go_wp2
        go_roundw
        case rel => exact ⟨1, hlt, by simp, insL_next (p := []) (r := []) hkp (unhide HT0) rfl (unhide HPE) (unhide HSR) (by simp) (Or.inl rfl) (unhide HB0) (unhide HB1) (unhide HNR).2 (unhide HNR).1⟩
        case measure => simp [intOf]; omega
      · obtain ⟨g, cap, rfl, _, hg2, hcap, hrow⟩ := own_rowR hown hv
        have HX0 := hide hrow
        have HPE0 := hide hperm
        have HSR0 := hide hsrt
        have HK := hide hxl
        rw [hxl] at hcap ⊢
        clear hown hperm hsrt hrow hxl hv
        go_wp2
        go_loopw [5] (fun v5 wr2 => ∃ (p r : List Ln) (m : Nat), x = p ++ r ∧ p.length = m ∧ v5 = .int .i64 m ∧ (∀ q ∈ r, ltL t q = true) ∧ Below wr.heap.size wr wr2) (fun v5 _ => (intOf v5).toNat)
        case atStart => exact ⟨x, [], k, by simp, unhide HK, rfl, by simp, Below.refl _ _⟩
        case round =>
          obtain ⟨p, r, m, hx, hm, rfl, hr, hbw⟩ := hrel
          rename World => wi
          have HM := hide hm
          have HR := hide hr
          have HXE := hide hx
          have HXL : Hid ((p ++ r).length = k) := by rw [← hx]; exact unhide HK
          have HX : Hid (LRow wr (some ⟨g, 0, none⟩) (p ++ r)) := by rw [← hx]; exact unhide HX0
          have HPE : Hid ((p ++ r).Perm (ps.take k)) := by rw [← hx]; exact unhide HPE0
          have HSR : Hid (Srt ltL (p ++ r)) := by rw [← hx]; exact unhide HSR0
          have HBW := hide hbw
          clear hr hx hm hbw
          by_cases hp0 : m = 0
          · have HLAST : Hid (p = [] ∨ ∃ l' q, p = l' ++ [q] ∧ ltL t q = false) := Or.inl (List.length_eq_zero_iff.1 ((unhide HM).trans hp0))
            have k1 : decide (0 < m) = false := by simp; omega
            have k2 : decide ((0 : Int) < (m : Int)) = false := by simp; omega
            clear hp0
            go_wp2
            go_quiet (fail)
            obtain ⟨W, hW⟩ : ∃ W, wi.drewN nq = W := ⟨_, rfl⟩
            have b1 : Below wr.heap.size wr W := by rw [← hW]; exact low_drewN (unhide HBW) _
            rw [hW]
            clear hW k1 k2
            obtain ⟨nn1, nn2, nn3, nn4⟩ : LnAt W B o t := by
              obtain ⟨m1, m2, m3, m4⟩ := unhide HCT
              exact ⟨(b1.cell (lt_of_cell m1)).trans m1, (b1.cell (lt_of_cell m2)).trans m2, (b1.cell (lt_of_cell m3)).trans m3, (b1.cell (lt_of_cell m4)).trans m4⟩
            have hmk : m ≤ k := by have h1 := unhide HXL; have h2 := unhide HM; simp at h1; omega
            have hmc : m ≤ cap := by omega
            have HRL : Hid (r.length = k - m) := by have h1 := unhide HXL; have h2 := unhide HM; simp at h1; show r.length = k - m; omega
            obtain ⟨v1, w1, v2, w2, v3, w3, r1, r2, r3, r4, bw1, bw2, l3, b3⟩ := three_apps (cap := cap) (t := t) (unhide HM) (unhide HRL) (by omega) hmk ((unhide HX).low b1)
            have n1 := (bw1.cell (lt_of_cell nn1)).trans nn1
            have n2 := (bw1.cell (lt_of_cell nn2)).trans nn2
            have n3 := (bw1.cell (lt_of_cell nn3)).trans nn3
            have n4 := (bw1.cell (lt_of_cell nn4)).trans nn4
            have HB1 := hide b1
            have HL3 := hide l3
            have HB3 := hide b3
            have HB2 := hide bw2
            have HR4 := hide r4
            have oe2 : O + k * 4 = o := unhide HO
            clear nn1 nn2 nn3 nn4 b1 bw1 bw2 l3 b3 r4
            obtain ⟨tp, tv, tk, ts⟩ := t
            simp only at n1 n2 n3 n4 r2
            by_cases hcz : cap = m
            · have hrn : r = [] := by have h := unhide HRL; exact List.length_eq_zero_iff.1 (by omega)
              obtain rfl : k = cap := by omega
              obtain rfl : k = m := by omega
              have r5 := fun a => ((unhide HR4) hrn a).1
              have HL4 := hide ((unhide HR4) hrn none).2
              have HQ1 := hide r1
              have HQ2 := hide r2
              have HQ5 := hide r5
              clear hcz hmc hmk hcap r1 r2 r3 r5
              go_wp2_with (at_builtin; first | refine Lib.wpList_append_run _ rfl _ _ _ _ rfl _ _ rfl rfl _ _ (unhide HQ1) ?_ | refine Lib.wpList_append_run _ rfl _ _ _ _ rfl _ _ rfl rfl _ _ (unhide HQ2) ?_ | refine Lib.wpList_append_run _ rfl _ _ _ _ rfl _ _ rfl rfl _ _ (unhide HQ5 _) ?_)
              go_roundw
              case rel => exact ⟨k + 1, hlt, by simp, insL_next hkp (unhide HT0) (unhide HXL) (unhide HPE) (unhide HSR) (unhide HR) (unhide HLAST) (unhide HB0) (unhide HB1) (unhide HB2) (unhide HL4)⟩
              case measure => simp [intOf]; omega
            · have z2 : ¬ m = cap := fun e => hcz e.symm
              have z3 : ¬ cap - m = 0 := by omega
              have z4 : m < cap := by omega
              have HQ1 := hide r1
              have HQ2 := hide r2
              have HQ3 := hide r3
              clear r1 r2 r3
              go_wp2_with (at_builtin; first | refine Lib.wpList_append_run _ rfl _ _ _ _ rfl _ _ rfl rfl _ _ (unhide HQ1) ?_ | refine Lib.wpList_append_run _ rfl _ _ _ _ rfl _ _ rfl rfl _ _ (unhide HQ2) ?_ | refine Lib.wpList_append_run _ rfl _ _ _ _ rfl _ _ rfl rfl _ _ (unhide HQ3) ?_)
              go_roundw
              case rel => exact ⟨k + 1, hlt, by simp, insL_next hkp (unhide HT0) (unhide HXL) (unhide HPE) (unhide HSR) (unhide HR) (unhide HLAST) (unhide HB0) (unhide HB1) (unhide HB3) (unhide HL3)⟩
              case measure => simp [intOf]; omega
          · obtain ⟨p', y, rfl⟩ : ∃ p' y, p = p' ++ [y] := ⟨p.dropLast, p.getLast (by intro e; have := unhide HM; simp [e] at this; omega), (List.dropLast_concat_getLast _).symm⟩
            obtain ⟨q, hq⟩ : ∃ q, p'.length = q := ⟨_, rfl⟩
            have hpm : q + 1 = m := by have := unhide HM; simp at this; omega
            have cy : LnAt wi g (q * 4) y := by
              have h0 : q < (p' ++ [y] ++ r).length := by simp; omega
              have h2 : (p' ++ [y] ++ r)[q] = y := by
                subst hq
                simp
              rcases ((unhide HX).low (unhide HBW)).els with h | ⟨g', O', e, h⟩
              · simp at h
              · cases e
                have := h q h0
                rw [h2, Nat.zero_add] at this
                exact this
            have ct : LnAt wi B o t := by
              obtain ⟨m1, m2, m3, m4⟩ := unhide HCT
              exact ⟨((unhide HBW).cell (lt_of_cell m1)).trans m1, ((unhide HBW).cell (lt_of_cell m2)).trans m2, ((unhide HBW).cell (lt_of_cell m3)).trans m3, ((unhide HBW).cell (lt_of_cell m4)).trans m4⟩
            have HH : HeldR wr g (q * 4) B o y t wi := ⟨cy.1, cy.2.1, cy.2.2.1, cy.2.2.2, ct.1, ct.2.1, ct.2.2.1, ct.2.2.2, unhide HBW⟩
            have hkm : m ≤ k := by have h1 := unhide HXL; have h2 := unhide HM; simp at h1 h2; omega
            have e1 : (m : Int) - 1 = (q : Int) := by omega
            have k0 : q < k := by omega
            have k1 : decide (0 < m) = true := by simp; omega
            have k2 : decide ((0 : Int) < (m : Int)) = true := by simp; omega
            have k8 : IntKind.i64.wrap (q : Int) = (q : Int) := by rw [IntKind.wrap_i64]; omega
            have k4 : (q : Int) < (k : Int) := by omega
            have k5 : (k : Int) < (n : Int) := by omega
            have HQ := hide hq
            have HQM := hide hpm
            have oe : O + k * 4 = o := unhide HO
            clear cy ct
            cases hrr : ltL t y with
            | true =>
              have HRR := hide hrr
              have HR2 : Hid (∀ q ∈ y :: r, ltL t q = true) := by
                intro q hq
                rcases List.mem_cons.1 hq with rfl | h
                · exact unhide HRR
                · exact (unhide HR) q h
              have HX2 : Hid (x = p' ++ (y :: r)) := by show x = p' ++ (y :: r); have := unhide HXE; simpa using this
              clear hrr hp0 hq hpm
              obtain ⟨tp, tv, tk, ts⟩ := t
              obtain ⟨yp, yv, yk, ys⟩ := y
              go_wp2
              go_region_held3 (fun w' => w'.cell? ⟨g, q * 4, none⟩ = some (.string (ba yp)) ∧ w'.cell? ⟨g, q * 4 + 1, none⟩ = some (.string (ba yv)) ∧ w'.cell? ⟨g, q * 4 + 2, none⟩ = some (.int .i64 yk) ∧ w'.cell? ⟨g, q * 4 + 3, none⟩ = some (.string (ba ys)) ∧ w'.cell? ⟨B, o, none⟩ = some (.string (ba tp)) ∧ w'.cell? ⟨B, o + 1, none⟩ = some (.string (ba tv)) ∧ w'.cell? ⟨B, o + 2, none⟩ = some (.int .i64 tk) ∧ w'.cell? ⟨B, o + 3, none⟩ = some (.string (ba ts)) ∧ Below wr.heap.size wr w')
                (first | assumption | exact HeldR.drew (by assumption) | exact HH | exact HeldR.drew HH)
                (first
                  | (go_at_call 108; refine (lessR_held (q := q * 4) (o := o) (y := ⟨yp, yv, yk, ys⟩) (t := ⟨tp, tv, tk, ts⟩) (unhide HRR) (by assumption)).mono ?_; rintro e w' ⟨rfl, hk9⟩))
              go_wp2
              go_roundw
              case rel => exact ⟨p', ⟨yp, yv, yk, ys⟩ :: r, q, unhide HX2, unhide HQ, by simp, unhide HR2, HeldR.end (g := g) (q := q * 4) (B := B) (o := o) (y := ⟨yp, yv, yk, ys⟩) (t := ⟨tp, tv, tk, ts⟩) (by assumption)⟩
              case measure => have := unhide HQM; simp [intOf]; omega
            | false =>
              have HRR := hide hrr
              have HLAST : Hid ((p' ++ [y]) = [] ∨ ∃ l' q, (p' ++ [y]) = l' ++ [q] ∧ ltL t q = false) := Or.inr ⟨p', y, rfl, hrr⟩
              clear hrr hp0 hq hpm
              obtain ⟨t', ht'⟩ : ∃ t', t = t' := ⟨_, rfl⟩
              obtain ⟨p, hp⟩ : ∃ p, p' ++ [y] = p := ⟨_, rfl⟩
              have HTT := hide ht'
              rw [hp] at HX HPE HSR HXL HM HLAST
              obtain ⟨tp, tv, tk, ts⟩ := t
              obtain ⟨yp, yv, yk, ys⟩ := y
              clear ht' hp
              go_wp2
              go_region_held3 (fun w' => w'.cell? ⟨g, q * 4, none⟩ = some (.string (ba yp)) ∧ w'.cell? ⟨g, q * 4 + 1, none⟩ = some (.string (ba yv)) ∧ w'.cell? ⟨g, q * 4 + 2, none⟩ = some (.int .i64 yk) ∧ w'.cell? ⟨g, q * 4 + 3, none⟩ = some (.string (ba ys)) ∧ w'.cell? ⟨B, o, none⟩ = some (.string (ba tp)) ∧ w'.cell? ⟨B, o + 1, none⟩ = some (.string (ba tv)) ∧ w'.cell? ⟨B, o + 2, none⟩ = some (.int .i64 tk) ∧ w'.cell? ⟨B, o + 3, none⟩ = some (.string (ba ts)) ∧ Below wr.heap.size wr w')
                (first | assumption | exact HeldR.drew (by assumption) | exact HH | exact HeldR.drew HH)
                (first
                  | (go_at_call 108; refine (lessR_held (q := q * 4) (o := o) (y := ⟨yp, yv, yk, ys⟩) (t := ⟨tp, tv, tk, ts⟩) (unhide HRR) (by assumption)).mono ?_; rintro e w' ⟨rfl, hk9⟩))
              rename World => W
              have b1 : Below wr.heap.size wr W := HeldR.end (g := g) (q := q * 4) (B := B) (o := o) (y := ⟨yp, yv, yk, ys⟩) (t := ⟨tp, tv, tk, ts⟩) (by assumption)
              clear e1 k1 k2 k4 k5 k8 HH
              obtain ⟨nn1, nn2, nn3, nn4⟩ : LnAt W B o ⟨tp, tv, tk, ts⟩ := by
                obtain ⟨m1, m2, m3, m4⟩ := unhide HCT
                exact ⟨(b1.cell (lt_of_cell m1)).trans m1, (b1.cell (lt_of_cell m2)).trans m2, (b1.cell (lt_of_cell m3)).trans m3, (b1.cell (lt_of_cell m4)).trans m4⟩
              have hmk : m ≤ k := by have h1 := unhide HXL; have h2 := unhide HM; simp at h1; omega
              have hmc : m ≤ cap := by omega
              have HRL : Hid (r.length = k - m) := by have h1 := unhide HXL; have h2 := unhide HM; simp at h1; show r.length = k - m; omega
              obtain ⟨v1, w1, v2, w2, v3, w3, r1, r2, r3, r4, bw1, bw2, l3, b3⟩ := three_apps (cap := cap) (t := ⟨tp, tv, tk, ts⟩) (unhide HM) (unhide HRL) (by omega) hmk ((unhide HX).low b1)
              have n1 := (bw1.cell (lt_of_cell nn1)).trans nn1
              have n2 := (bw1.cell (lt_of_cell nn2)).trans nn2
              have n3 := (bw1.cell (lt_of_cell nn3)).trans nn3
              have n4 := (bw1.cell (lt_of_cell nn4)).trans nn4
              have HB1 := hide b1
              have HL3 := hide l3
              have HB3 := hide b3
              have HB2 := hide bw2
              have HR4 := hide r4
              have oe2 : O + k * 4 = o := unhide HO
              clear nn1 nn2 nn3 nn4 b1 bw1 bw2 l3 b3 r4
              simp only at n1 n2 n3 n4 r2
              by_cases hcz : cap = m
              · have hrn : r = [] := by have h := unhide HRL; exact List.length_eq_zero_iff.1 (by omega)
                obtain rfl : k = cap := by omega
                obtain rfl : k = m := by omega
                have r5 := fun a => ((unhide HR4) hrn a).1
                have HL4 := hide ((unhide HR4) hrn none).2
                have HQ1 := hide r1
                have HQ2 := hide r2
                have HQ5 := hide r5
                clear hcz hmc hmk hcap r1 r2 r3 r5
                go_wp2_with (at_builtin; first | refine Lib.wpList_append_run _ rfl _ _ _ _ rfl _ _ rfl rfl _ _ (unhide HQ1) ?_ | refine Lib.wpList_append_run _ rfl _ _ _ _ rfl _ _ rfl rfl _ _ (unhide HQ2) ?_ | refine Lib.wpList_append_run _ rfl _ _ _ _ rfl _ _ rfl rfl _ _ (unhide HQ5 _) ?_)
                go_roundw
                case rel => exact ⟨k + 1, hlt, by simp, insL_next hkp (unhide HT0) (unhide HXL) (unhide HPE) (unhide HSR) (unhide HR) (unhide HLAST) (unhide HB0) (unhide HB1) (unhide HB2) (unhide HL4)⟩
                case measure => simp [intOf]; omega
              · have z2 : ¬ m = cap := fun e => hcz e.symm
                have z3 : ¬ cap - m = 0 := by omega
                have z4 : m < cap := by omega
                have HQ1 := hide r1
                have HQ2 := hide r2
                have HQ3 := hide r3
                clear r1 r2 r3
                go_wp2_with (at_builtin; first | refine Lib.wpList_append_run _ rfl _ _ _ _ rfl _ _ rfl rfl _ _ (unhide HQ1) ?_ | refine Lib.wpList_append_run _ rfl _ _ _ _ rfl _ _ rfl rfl _ _ (unhide HQ2) ?_ | refine Lib.wpList_append_run _ rfl _ _ _ _ rfl _ _ rfl rfl _ _ (unhide HQ3) ?_)
                go_roundw
                case rel => exact ⟨k + 1, hlt, by simp, insL_next hkp (unhide HT0) (unhide HXL) (unhide HPE) (unhide HSR) (unhide HR) (unhide HLAST) (unhide HB0) (unhide HB1) (unhide HB3) (unhide HL3)⟩
                case measure => simp [intOf]; omega
    · obtain ⟨x, hxl, hown, hperm, hsrt, hb0⟩ := hins
      have hkn' : ps.take k = ps := List.take_of_length_le (by rw [unhide HN]; omega)
      rw [hkn'] at hperm
      have HD : Hid (∃ v ys, Ending.returned u3 = .returned v ∧ RLines w.heap.size wr v ys ∧ ys.Perm ps ∧ Rising ys ∧ Below w.heap.size w wr) := hide ⟨u3, x, rfl, hown, hperm, rising_srt hsrt, hb0⟩
      clear hxl hown hperm hsrt hb0 hkn'
      go_wp2
      go_ret
      exact unhide HD

end Go.Proofs.YthcafeoamabkgaaGreatDoor
