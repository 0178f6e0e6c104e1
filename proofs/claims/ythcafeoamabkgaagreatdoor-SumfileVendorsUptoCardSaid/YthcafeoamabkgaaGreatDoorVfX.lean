/-
  ParseVendor and Parse, in the form in which what they answer is printed again.
-/
import Derived.Test.YthcafeoamabkgaaGreatDoorBkX
import Derived.Test.YthcafeoamabkgaaGreatDoorFrsX
namespace Go.Proofs.YthcafeoamabkgaaGreatDoor
open Go.RowKit Go.WideMaps Go.Maps

/-- An element's first error. -/
def vdErr (ms : List Md) (y : Vd) : Int := if modE ms y.m ≠ 0 then modE ms y.m else pksE y.m.1 [] y.pk
theorem vendE_cons (ms : List Md) (y : Vd) (r : List Vd) : vendE ms (y :: r) = if vdErr ms y ≠ 0 then vdErr ms y else vendE (y.m :: ms) r := by
  unfold vdErr
  conv => lhs; unfold vendE
  by_cases h0 : modE ms y.m = 0
  · simp only [h0, ne_eq, not_true_eq_false, if_false]
  · simp only [h0, ne_eq, not_false_eq_true, if_true]

/-- What vendored tells. -/
def VdSaid (w0 : World) (ck M n : Nat) (ms : List Md) (y : Vd) (e : Ending) (w' : World) : Prop :=
  e = .returned (.int .i64 (vdErr ms y)) ∧ Below w0.heap.size w0 w' ∧ (vdErr ms y = 0 → ∃ pv, VChk w0 w' ck M (n + 1) (y.m :: ms) y.m.1 pv)

theorem pks_step {path : Str} {ps : List Str} {i : Nat} (hi : i < ps.length) : pksE path (ps.take i).reverse (ps.drop i) = if impE path (ps.take i).reverse ps[i] ≠ 0 then impE path (ps.take i).reverse ps[i] else pksE path (ps.take (i + 1)).reverse (ps.drop (i + 1)) := by
  rw [List.drop_eq_getElem_cons hi, List.take_succ_eq_append_getElem hi, List.reverse_append]
  rfl

set_option maxRecDepth 100000 in
set_option maxHeartbeats 8000000 in
theorem vendored_any {w0 w : World} {ck M n : Nat} {ms : List Md} {path : Str} {pv : Value} {m : Md} {x : Bool} {ps : List Str} {a : Option Addr} {pn c : Nat} (hg : Gd w0) (h : VChk w0 w ck M n ms path pv) (hm : MdOk m) (hp : m.1.length < 4294967281) (hn : n ≤ 1000000)
    (hpn : ps.length = pn) (hN : pn ≤ 1000000) (hr : RowS w0 a ps) (hs : ∀ p ∈ ps, p.length < 4294967281) :
    Calls Tryz.prog 55 #[.pointer (some ⟨ck, 0, none⟩), vdV m x (.slice a pn c)] w (VdSaid w0 ck M n ms ⟨m, x, ps⟩) := by
  obtain ⟨p, v⟩ := m
  obtain ⟨W0, hW0⟩ : ∃ W0, w.alloc (.cells #[.string (ba p), .string (ba v), .bool x, .slice a pn c] 81) = W0 := ⟨_, rfl⟩
  have b0 : Below w.heap.size w W0 := by rw [← hW0]; exact (Below.refl _ _).alloc (Nat.le_refl _) _
  have k0 : Blk W0 w.heap.size #[.string (ba p), .string (ba v), .bool x, .slice a pn c] 81 := by rw [← hW0]; exact Blk.new _ _ _
  have h0 := h.on b0
  have q0 : W0.cell? ⟨w.heap.size, 0, none⟩ = some (.string (ba p)) := k0.cell 0
  have q1 : W0.cell? ⟨w.heap.size, 1, none⟩ = some (.string (ba v)) := k0.cell 1
  have HM := hide (module_at hg h0 hm hp hn)
  have hHE : vdErr ms ⟨(p, v), x, ps⟩ = if modE ms (p, v) ≠ 0 then modE ms (p, v) else pksE p [] ps := rfl
  unfold VdSaid
  obtain ⟨E, hE⟩ : ∃ E, vdErr ms ⟨(p, v), x, ps⟩ = E := ⟨_, rfl⟩
  obtain ⟨F, hF⟩ : ∃ F, modE ms (p, v) = F := ⟨_, rfl⟩
  rw [hE] at hHE ⊢
  rw [hF] at hHE HM
  have HE := hide hHE
  have HF := hide hF
  have HG := hide hg
  have H0 := hide h0
  have HK0 := hide k0
  have HW0 := hide hW0
  have HPN := hide hpn
  have HR := hide hr
  have HS := hide hs
  have HP := hide hp
  clear hE hHE hF hg h h0 k0 b0 hW0 hm hpn hr hs hp
  go_enter Tryz.func55, Tryz.ntmps55
  go_wp2_with (go_at_call 98; fail)
  rw [unhide HW0]
  refine (unhide HM).mono ?_
  rintro e w1 ⟨rfl, hd, hb2⟩
  by_cases hf0 : F = 0
  · obtain ⟨P, hP⟩ := hd.ok ((unhide HF).trans hf0)
    have HVC := hide hP
    have HK1 := hide (Blk.but2 (unhide HK0) hb2 (unhide H0).blk (by decide) (unhide H0).set)
    have c3 : w1.cell? ⟨w.heap.size, 3, none⟩ = some (.slice a pn c) := (unhide HK1).cell 3
    have HEP : Hid (E = pksE p [] ps) := hide (by rw [unhide HE, if_neg (by simp [hf0])])
    have HB1 := hide hd.low
    subst hf0
    clear hd hb2 hP HE HF HM
    go_wp2
    go_loopw [7, 8, 19] (fun _ _ v19 wr => ∃ i : Nat, i ≤ pn ∧ v19 = .int .i64 i ∧ pksE p (ps.take i).reverse (ps.drop i) = E ∧ VCk w0 wr ck M (n + 1) ((p, v) :: ms) p P i (ps.take i).reverse) (fun _ _ v19 _ => pn - (intOf v19).toNat)
    case atStart => exact ⟨0, Nat.zero_le _, rfl, by rw [unhide HEP]; rfl, unhide HVC⟩
    case round =>
      rename World => wr
      obtain ⟨i, hi, rfl, hpe, hvc⟩ := hrel
      clear HVC HEP
      by_cases hlt : i < pn
      · have hit : i < ps.length := by rw [unhide HPN]; exact hlt
        obtain ⟨B, O, rfl, hcell⟩ : ∃ B O, a = some ⟨B, O, none⟩ ∧ wr.cell? ⟨B, O + i, none⟩ = some (.string (ba ps[i])) := by
          rcases (unhide HR).low hvc.c.low with h | ⟨B, O, e, _, h⟩
          · rw [h] at hit; simp at hit
          · exact ⟨B, O, e, h i hit⟩
        have hst := pks_step (path := p) hit
        have hlen := unhide HS ps[i] (List.getElem_mem hit)
        have htk : (ps.take (i + 1)).reverse = ps[i] :: (ps.take i).reverse := by rw [List.take_succ_eq_append_getElem hit, List.reverse_append]; rfl
        obtain ⟨q, hq⟩ : ∃ q, ps[i] = q := ⟨_, rfl⟩
        rw [hq] at hcell hst hlen htk
        have HI := hide (imported_any (unhide HG) hvc hlen (unhide HP) (by omega))
        obtain ⟨I, hI⟩ : ∃ I, impE p (ps.take i).reverse q = I := ⟨_, rfl⟩
        rw [hI] at hst HI
        have HST := hide hst
        have HTK := hide htk
        have HPE := hide hpe
        clear hst hlen htk hq hI hpe hvc
        go_wp2_with (go_at_call 99; fail)
        refine (unhide HI).mono ?_
        rintro e w2 ⟨rfl, h1, h2⟩
        by_cases hi0 : I = 0
        · have HD : Hid (pksE p (ps.take (i + 1)).reverse (ps.drop (i + 1)) = E ∧ VCk w0 w2 ck M (n + 1) ((p, v) :: ms) p P (i + 1) (ps.take (i + 1)).reverse) := hide ⟨by rw [← unhide HPE, unhide HST, if_neg (by simp [hi0])], by rw [unhide HTK]; exact (h2 hi0).1⟩
          subst hi0
          clear h1 h2
          go_wp2
          go_roundw
          case rel => exact ⟨i + 1, hlt, by simp, (unhide HD).1, (unhide HD).2⟩
          case measure => simp [intOf]; omega
        · have HD : Hid (E = I ∧ Below w0.heap.size w0 w2) := hide ⟨by rw [← unhide HPE, unhide HST, if_pos hi0], h1 hi0⟩
          have hne : (I != 0) = true := by simpa using hi0
          have HI0 := hide hi0
          clear h1 h2 hi0
          go_wp2
          go_ret
          rw [(unhide HD).1]
          exact ⟨rfl, (unhide HD).2, fun h => absurd h (unhide HI0)⟩
      · have hin : i = pn := by omega
        subst hin
        have he0 : E = 0 := by rw [← hpe, List.drop_eq_nil_of_le (by rw [unhide HPN]; omega)]; rfl
        have HD : Hid (Below w0.heap.size w0 wr ∧ ∃ pv, VChk w0 wr ck M (n + 1) ((p, v) :: ms) p pv) := hide ⟨hvc.c.low, _, hvc.c⟩
        subst he0
        clear hpe hvc
        go_wp2
        go_ret
        exact ⟨rfl, (unhide HD).1, (unhide HD).2⟩
  · have HD : Hid (E = F ∧ Below w0.heap.size w0 w1) := hide ⟨by rw [unhide HE, if_pos hf0], hd.low⟩
    have hne : (F != 0) = true := by simpa using hf0
    have HF0 := hide hf0
    clear hd hb2 hf0
    go_wp2
    go_ret
    rw [(unhide HD).1]
    exact ⟨rfl, (unhide HD).2, fun h => absurd h (unhide HF0)⟩

end Go.Proofs.YthcafeoamabkgaaGreatDoor

namespace Go.Proofs.YthcafeoamabkgaaGreatDoor
open Go.RowKit

/-- A row of texts. -/
abbrev SRow (B : Nat) (w : World) (v : Value) (zs : List Str) : Prop := w.ownsRow B 9 1 v zs.length (strsV zs)

theorem strsV_one (l : List Str) : ∀ u ∈ strsV l, u.oneCell' = true := by
  intro u hu
  obtain ⟨p, _, rfl⟩ := List.mem_map.1 hu
  rfl
theorem strsV_app (a b : List Str) : strsV (a ++ b) = strsV a ++ strsV b := by simp [strsV]
theorem RowS.news {w : World} {a : Option Addr} {xs : List Str} (h : RowS w a xs) {ad : Addr} (ha : a = some ad) : ∀ j u, (strsV xs)[j]? = some u → w.cell? (ad.add j) = some u := by
  intro j u hu
  rcases h with rfl | ⟨B, O, hb, _, he⟩
  · simp [strsV] at hu
  · rw [ha] at hb
    cases hb
    have hadd : (⟨B, O, none⟩ : Addr).add j = ⟨B, O + j, none⟩ := by unfold Addr.add; split <;> simp_all
    rw [hadd]
    unfold strsV at hu
    rw [List.getElem?_map, Option.map_eq_some_iff] at hu
    obtain ⟨p, hp, rfl⟩ := hu
    obtain ⟨hj, rfl⟩ := List.getElem?_eq_some_iff.1 hp
    exact he j hj

theorem sappend_nothing {B : Nat} {w : World} {v : Value} {n c : Nat} {xs : List Value} {i : TypeInfo} (a : Option Addr) (ty : TypeId) (hi : Tryz.prog.info? 9 = some i) (hown : w.ownsRow B 9 1 v n xs) : (Builtin.append_ #[69, 69] ty #[v, .slice a 0 c]).run Tryz.prog w = .ok v w := by
  rcases hown.2 with ⟨rfl, rfl⟩ | ⟨g, cap, cur, rfl, _, _, hnc, _⟩
  · cases a <;> simp [Builtin.append_, run_underlying Tryz.underlying69, sizeOf, typeInfo, hi, Builtin.lenOf, Builtin.firstCells, loadCells, loadCellsFrom]
  · cases a <;> simp [Builtin.append_, run_underlying Tryz.underlying69, sizeOf, typeInfo, hi, Builtin.lenOf, Builtin.firstCells, hnc, storeCells, loadCells, loadCellsFrom]

/-- append of texts onto a row of texts. -/
theorem app_strs {B : Nat} {w : World} {v : Value} {zs xs : List Str} {a : Option Addr} {n c : Nat} (ty : TypeId) (hz : SRow B w v zs) (hx : xs.length = n) (h : RowS w a xs) (hB : B ≤ w.heap.size) (hl : zs.length + n ≤ 2000000) :
    ∃ v' w', (Builtin.append_ #[69, 69] ty #[v, .slice a n c]).run Tryz.prog w = .ok v' w' ∧ SRow B w' v' (zs ++ xs) ∧ w.grownBy w' v.ownBlock := by
  obtain ⟨i0, hi, hz0, hz1, hz2⟩ := info_parts info9s
  subst hx
  cases a with
  | none =>
    have hx0 : xs = [] := by
      rcases h with h | ⟨B, O, hb, _⟩
      · exact h
      · cases hb
    subst hx0
    refine ⟨v, w, sappend_nothing none ty hi hz, by rw [List.append_nil]; exact hz, ⟨rfl, rfl, rfl, Nat.le_refl _, fun _ _ _ => rfl⟩⟩
  | some ad =>
    obtain ⟨v', w', h1, h2, h3, _, _⟩ := run_append_own_at (P := Tryz.prog) w B 69 ty 9 i0 _ 1 16 Tryz.underlying69 hi hz0 hz1 hz2 rfl (by decide) v zs.length (strsV zs) hz ad xs.length c (strsV xs) (by rw [strsV_length, Nat.mul_one]) (h.news rfl) (strsV_one xs) (by unfold maxLen; omega) (by omega) hB
    refine ⟨v', w', h1, ?_, h3⟩
    show w'.ownsRow B 9 1 v' (zs ++ xs).length (strsV (zs ++ xs))
    rw [List.length_append, strsV_app]
    exact h2

theorem srow_at {B : Nat} {w : World} {v : Value} {zs : List Str} (h : SRow B w v zs) (h0 : zs ≠ []) : ∃ g c, v = .slice (some ⟨g, 0, none⟩) zs.length c ∧ Texts w g zs ∧ g < w.heap.size ∧ zs.length ≤ c := by
  rcases h.2 with ⟨_, e⟩ | ⟨g, cap, cur, e, _, _, hc, _⟩
  · exact absurd (List.length_eq_zero_iff.1 e) h0
  · subst e
    refine ⟨g, cap, rfl, fun k hk => ?_, rowT_lt h rfl, hc⟩
    exact rowT_cell h (by unfold strsV; rw [List.getElem?_map, List.getElem?_eq_getElem hk]; rfl)

theorem srow_one (w : World) (p : Str) : SRow w.heap.size (w.alloc (.cells #[.string (ba p)] 9)) (.slice (some ⟨w.heap.size, 0, none⟩) 1 1) [p] :=
  ⟨rfl, Or.inr ⟨w.heap.size, 1, #[.string (ba p)], rfl, Nat.le_refl _, heap_new w _, Nat.le_refl _, by unfold maxLen; omega, rfl, rfl⟩⟩
theorem rowS_one (w : World) (p : Str) : RowS (w.alloc (.cells #[.string (ba p)] 9)) (some ⟨w.heap.size, 0, none⟩) [p] :=
  Or.inr ⟨w.heap.size, 0, rfl, by simp, fun j hj => by
    have : j = 0 := by simp at hj; omega
    subst this
    exact (Blk.new w #[.string (ba p)] 9).cell 0⟩

theorem vd_front (y : Vd) : vdT y = glue 10 (vdLs y) ++ [10] := front_glue _ (by unfold vdLs; simp)

/-- The packages appended, the lines joined. -/
theorem tail_apps {w W : World} {v : Value} {zs ps : List Str} {a : Option Addr} {n c : Nat} (hz : SRow w.heap.size W v zs) (hb : Below w.heap.size w W) (hn : ps.length = n) (hN : n ≤ 1000000) (h0 : zs ≠ []) (h2 : zs.length ≤ 2) (hr : RowS W a ps) (hT : (glue 10 (zs ++ ps)).length ≤ 4000000000) :
    ∃ v' w', (Builtin.append_ #[69, 69] 69 #[v, .slice a n c]).run Tryz.prog W = .ok v' w' ∧ Below w.heap.size w w' ∧ Calls Tryz.prog 83 #[v', .string (ba [10])] w' fun e w2 => e = .returned (.string (ba (glue 10 (zs ++ ps)))) ∧ Below w.heap.size w w2 := by
  obtain ⟨v', w', h1, h3, h4⟩ := app_strs (c := c) 69 hz hn hr hb.size (by omega)
  have hb' : Below w.heap.size w w' := hb.grown h4 hb.size (fun j hj => (rowT hz hj).1)
  obtain ⟨g, cp, rfl, ht, hg, hc⟩ := srow_at h3 (by intro e; exact h0 (List.append_eq_nil_iff.1 e).1)
  refine ⟨_, w', h1, hb', ?_⟩
  refine (join_is (c := 10) ht hg rfl hc (by rw [List.length_append]; omega) (by omega)).mono ?_
  rintro e w2 ⟨rfl, b2⟩
  exact ⟨rfl, low_trans hb' b2⟩

set_option maxRecDepth 100000 in
set_option maxHeartbeats 1000000 in
theorem writeVendored_any {w : World} {m : Md} {x : Bool} {ps : List Str} {a : Option Addr} {n c : Nat} (hn : ps.length = n) (hN : n ≤ 1000000) (hr : RowS w a ps) (hT : (vdT ⟨m, x, ps⟩).length ≤ 4000000000) :
    Calls Tryz.prog 58 #[vdV m x (.slice a n c)] w fun e w' => e = .returned (.string (ba (vdT ⟨m, x, ps⟩))) ∧ Below w.heap.size w w' := by
  obtain ⟨p, v⟩ := m
  have hfr := vd_front ⟨(p, v), x, ps⟩
  have hgl : (glue 10 (vdLs ⟨(p, v), x, ps⟩)).length ≤ 4000000000 := by rw [hfr, List.length_append] at hT; omega
  have hhl : (headT (p, v)).length ≤ 4000000000 := by
    have h1 : headT (p, v) ∈ vdLs ⟨(p, v), x, ps⟩ := by unfold vdLs; simp
    have h2 : ∀ l : List Str, headT (p, v) ∈ l → (headT (p, v)).length ≤ (frontL l).length := fun l hl => by
      induction l with
      | nil => cases hl
      | cons q l ih =>
        have e : frontL (q :: l) = (q ++ [10]) ++ frontL l := by simp [frontL]
        rw [e, List.length_append, List.length_append]
        rcases List.mem_cons.1 hl with rfl | hl
        · omega
        · have := ih hl; omega
    exact Nat.le_trans (h2 _ h1) hT
  have hpv : p.length + v.length ≤ 4000000000 := by
    have : (headT (p, v)).length = 3 + p.length + v.length := by unfold headT; simp; omega
    omega
  obtain ⟨W0, hW0⟩ : ∃ W0, w.alloc (.cells #[.string (ba p), .string (ba v), .bool x, .slice a n c] 81) = W0 := ⟨_, rfl⟩
  have b0 : Below w.heap.size w W0 := by rw [← hW0]; exact (Below.refl _ _).alloc (Nat.le_refl _) _
  have k0 : Blk W0 w.heap.size #[.string (ba p), .string (ba v), .bool x, .slice a n c] 81 := by rw [← hW0]; exact Blk.new _ _ _
  have c0 : W0.cell? ⟨w.heap.size, 0, none⟩ = some (.string (ba p)) := k0.cell 0
  have c1 : W0.cell? ⟨w.heap.size, 1, none⟩ = some (.string (ba v)) := k0.cell 1
  obtain ⟨H, hH⟩ : ∃ H, headT (p, v) = H := ⟨_, rfl⟩
  have j1 : (⟨#[35, 32]⟩ : ByteArray) ++ ba p = ba ([35, 32] ++ p) := ba_app [35, 32] p
  have j2 : ba ([35, 32] ++ p) ++ ⟨#[32]⟩ = ba (([35, 32] ++ p) ++ [32]) := ba_app _ [32]
  have j3 : ba (([35, 32] ++ p) ++ [32]) ++ ba v = ba H := by rw [← hH]; exact ba_app _ v
  have z1 := ba_size p
  have z2 := ba_size v
  have z3 : (ba ([35, 32] ++ p)).size = p.length + 2 := by rw [ba_size]; simp
  have z4 : (ba (([35, 32] ++ p) ++ [32])).size = p.length + 3 := by rw [ba_size]; simp
  obtain ⟨Q1, hQ1⟩ : ∃ Q, ba ([35, 32] ++ p) = Q := ⟨_, rfl⟩
  obtain ⟨Q2, hQ2⟩ : ∃ Q, ba (([35, 32] ++ p) ++ [32]) = Q := ⟨_, rfl⟩
  rw [hQ1] at j1 j2 z3
  rw [hQ2] at j2 j3 z4
  clear hQ1 hQ2
  obtain ⟨W1, hW1⟩ : ∃ W1, W0.alloc (.cells #[.string (ba H)] 9) = W1 := ⟨_, rfl⟩
  have r1 : SRow W0.heap.size W1 (.slice (some ⟨W0.heap.size, 0, none⟩) 1 1) [H] := by rw [← hW1]; exact srow_one W0 H
  have b1 : Below W0.heap.size W0 W1 := by rw [← hW1]; exact (Below.refl _ _).alloc (Nat.le_refl _) _
  have k1 := k0.low b1
  have c2 : W1.cell? ⟨w.heap.size, 2, none⟩ = some (.bool x) := k1.cell 2
  have hfin : ∀ g : Str, (ba g).size = g.length := ba_size
  obtain ⟨V, hV⟩ : ∃ V, vdT ⟨(p, v), x, ps⟩ = V := ⟨_, rfl⟩
  rw [hV] at hfr hT ⊢
  cases x with
  | false =>
    have e3 : vdLs ⟨(p, v), false, ps⟩ = [H] ++ ps := by unfold vdLs; rw [← hH]; rfl
    rw [e3] at hfr hgl
    have c3 : W1.cell? ⟨w.heap.size, 3, none⟩ = some (.slice a n c) := k1.cell 3
    obtain ⟨v4, w4, hrun, b4, hj⟩ := tail_apps (w := w) (v := .slice (some ⟨W0.heap.size, 0, none⟩) 1 1) (c := c) (rowT_mono r1 b0.size) (low_trans b0 b1) hn hN (by simp) (by simp) (hr.low (low_trans b0 b1)) hgl
    obtain ⟨G, hG⟩ : ∃ G, glue 10 ([H] ++ ps) = G := ⟨_, rfl⟩
    rw [hG] at hj hgl hfr
    have j4 : ba G ++ ⟨#[10]⟩ = ba V := by rw [hfr]; exact ba_app G [10]
    have z5 := ba_size G
    have HJ := hide hj
    have hsz : W0.heap.size = w.heap.size + 1 := by rw [← hW0]; simp
    rw [hsz] at hrun
    have HR := hide hrun
    have HW0 := hide hW0
    have HW1 := hide hW1
    clear hj hrun hW0 hW1 b0 k0 r1 b1 k1 hfr hG hH hT hV hr hn b4 e3 hfin
    go_enter Tryz.func58, Tryz.ntmps58
    go_wp2_with (at_builtin; rw [unhide HW0, unhide HW1]; refine Lib.wpList_append_run _ rfl _ _ _ _ rfl _ _ rfl rfl _ _ (unhide HR) ?_)
    refine (unhide HJ).mono ?_
    rintro e w5 ⟨rfl, b5⟩
    have HB := hide b5
    clear b5
    go_wp2
    go_ret
    exact ⟨rfl, unhide HB⟩
  | true =>
    have e3 : vdLs ⟨(p, v), true, ps⟩ = [H, explL] ++ ps := by unfold vdLs; rw [← hH]; rfl
    rw [e3] at hfr hgl
    obtain ⟨W2, hW2⟩ : ∃ W2, W1.alloc (.cells #[.string (ba explL)] 9) = W2 := ⟨_, rfl⟩
    have b2 : Below W1.heap.size W1 W2 := by rw [← hW2]; exact (Below.refl _ _).alloc (Nat.le_refl _) _
    have hs1 : W1.heap.size = w.heap.size + 2 := by rw [← hW1, ← hW0]; simp
    have hx2 : RowS W2 (some ⟨w.heap.size + 2, 0, none⟩) [explL] := by rw [← hW2, ← hs1]; exact rowS_one W1 explL
    have b02 := low_trans (low_trans b0 b1) b2
    obtain ⟨v3, w3, hrun3, r3, g3⟩ := app_strs (c := 1) 69 (rowT_low (rowT_mono r1 b0.size) b2) rfl hx2 b02.size (by simp)
    have b3 : Below w.heap.size w w3 := b02.grown g3 b02.size (fun j hj => (rowT (rowT_low (rowT_mono r1 b0.size) b2) hj).1)
    have k3 : Blk w3 w.heap.size #[.string (ba p), .string (ba v), .bool true, .slice a n c] 81 := (k1.low b2).grownT (rowT_low (rowT_mono r1 b0.size) b2) (by decide) g3
    have c3 : w3.cell? ⟨w.heap.size, 3, none⟩ = some (.slice a n c) := k3.cell 3
    obtain ⟨v4, w4, hrun, b4, hj⟩ := tail_apps (w := w) (v := v3) (c := c) r3 b3 hn hN (by simp) (by simp) (hr.low b3) hgl
    obtain ⟨G, hG⟩ : ∃ G, glue 10 ([H, explL] ++ ps) = G := ⟨_, rfl⟩
    rw [show [H] ++ [explL] ++ ps = [H, explL] ++ ps from rfl, hG] at hj
    rw [hG] at hgl hfr
    have j4 : ba G ++ ⟨#[10]⟩ = ba V := by rw [hfr]; exact ba_app G [10]
    have z5 := ba_size G
    have HJ := hide hj
    have hsz : W0.heap.size = w.heap.size + 1 := by rw [← hW0]; simp
    rw [hsz] at hrun3
    have HR3 := hide hrun3
    have HR := hide hrun
    have HW0 := hide hW0
    have HW1 := hide hW1
    have HW2 : Hid (W1.alloc (.cells #[.string ⟨#[35, 35, 32, 101, 120, 112, 108, 105, 99, 105, 116]⟩] 9) = W2) := hide hW2
    clear hj hrun hrun3 hW0 hW1 hW2 b0 k0 r1 b1 k1 hfr hG hH hT hV hr hn b4 e3 hfin hsz hs1 hx2 b2 b02 r3 g3 b3 k3
    go_enter Tryz.func58, Tryz.ntmps58
    go_wp2_with (at_builtin; first
      | (rw [unhide HW0, unhide HW1, unhide HW2]; refine Lib.wpList_append_run _ rfl _ _ _ _ rfl _ _ rfl rfl _ _ (unhide HR3) ?_)
      | (refine Lib.wpList_append_run _ rfl _ _ _ _ rfl _ _ rfl rfl _ _ (unhide HR) ?_))
    refine (unhide HJ).mono ?_
    rintro e w5 ⟨rfl, b5⟩
    have HB := hide b5
    clear b5
    go_wp2
    go_ret
    exact ⟨rfl, unhide HB⟩

end Go.Proofs.YthcafeoamabkgaaGreatDoor

namespace Go.Proofs.YthcafeoamabkgaaGreatDoor
open Go.RowKit Go.WideMaps Go.Maps

theorem RowV.low {w w' : World} {a : Option Addr} {zs : List VE} (h : RowV w a zs) (b : Below w.heap.size w w') : RowV w' a zs := by
  rcases h with h | ⟨B, O, h1, h2, h3⟩
  · exact Or.inl h
  · exact Or.inr ⟨B, O, h1, Nat.lt_of_lt_of_le h2 b.size, fun j u hu => (b.cell (p := ⟨B, O + j, none⟩) h2).trans (h3 j u hu)⟩
theorem PacksR.low {w w' : World} {zs : List VE} (h : PacksR w zs) (b : Below w.heap.size w w') : PacksR w' zs := fun z hz => by
  obtain ⟨h1, h2, h3, h4⟩ := h z hz
  exact ⟨h1, h2, h3, h4.low b⟩

/-- The cells of an element. -/
theorem RowV.at {w : World} {a : Option Addr} {zs : List VE} (h : RowV w a zs) {i : Nat} (hi : i < zs.length) : ∃ B O, a = some ⟨B, O, none⟩ ∧
    w.cell? ⟨B, O + i * 4, none⟩ = some (.string (ba zs[i].1.m.1)) ∧ w.cell? ⟨B, O + i * 4 + 1, none⟩ = some (.string (ba zs[i].1.m.2)) ∧ w.cell? ⟨B, O + i * 4 + 2, none⟩ = some (.bool zs[i].1.x) ∧ w.cell? ⟨B, O + i * 4 + 3, none⟩ = some (.slice zs[i].2.1 zs[i].2.2.1 zs[i].2.2.2) := by
  rcases h with h | ⟨B, O, h1, _, h3⟩
  · rw [h] at hi; cases hi
  · refine ⟨B, O, h1, ?_⟩
    have e : zs = zs.take i ++ zs[i] :: zs.drop (i + 1) := by rw [List.getElem_cons_drop, List.take_append_drop]
    have e2 : zs.map vv = (zs.take i).map vv ++ vv zs[i] :: (zs.drop (i + 1)).map vv := by
      conv => lhs; rw [e]
      rw [List.map_append, List.map_cons]
    have hl : ((zs.take i).map vv).length = i := by rw [List.length_map, List.length_take]; omega
    obtain ⟨a1, a2, a3, a4⟩ := vds_at ((zs.take i).map vv) (vv zs[i]) ((zs.drop (i + 1)).map vv)
    rw [← e2, hl] at a1 a2 a3 a4
    exact ⟨h3 _ _ a1, h3 _ _ a2, h3 _ _ a3, h3 _ _ a4⟩

theorem vtext_mem {l : List Vd} {y : Vd} (h : y ∈ l) : (vdT y).length ≤ (vtextL l).length := by
  induction l with
  | nil => cases h
  | cons z l ih =>
    rw [vtext_cons, List.length_append]
    rcases List.mem_cons.1 h with rfl | h
    · omega
    · have := ih h
      omega
theorem front_mem {l : List Str} {p : Str} (h : p ∈ l) : p.length + 1 ≤ (frontL l).length := by
  rw [frontL_length]
  induction l with
  | nil => cases h
  | cons q l ih =>
    rw [List.map_cons, List.sum_cons]
    rcases List.mem_cons.1 h with rfl | h
    · omega
    · have := ih h
      omega
theorem vd_lens (y : Vd) : y.m.1.length ≤ (vdT y).length ∧ y.m.2.length ≤ (vdT y).length ∧ ∀ p ∈ y.pk, p.length ≤ (vdT y).length := by
  have h : ∀ p ∈ vdLs y, p.length + 1 ≤ (vdT y).length := fun p hp => front_mem hp
  have h1 := h (headT y.m) (by unfold vdLs; simp)
  have h2 : (headT y.m).length = 3 + y.m.1.length + y.m.2.length := by unfold headT; simp; omega
  refine ⟨by omega, by omega, fun p hp => ?_⟩
  have := h p (by unfold vdLs; simp [hp])
  omega

set_option maxRecDepth 100000 in
set_option maxHeartbeats 4000000 in
theorem vwriteLines_any {w : World} {a : Option Addr} {n c : Nat} {zs : List VE} (hn : zs.length = n) (hN : n ≤ 1000000) (h : RowV w a zs) (hk : PacksR w zs) (hT : (vtextL (zs.map Prod.fst)).length ≤ 4000000000) :
    Calls Tryz.prog 56 #[.slice a n c, .func (.func 58) #[] #[]] w fun e w' => e = .returned (.tuple #[.string (ba (wrS (vtextL (zs.map Prod.fst)))), .int .i64 (wrE (vtextL (zs.map Prod.fst)))]) ∧ Below w.heap.size w w' := by
  obtain ⟨W0, hW0⟩ : ∃ W0, w.alloc (.cells #[.pointer none, .slice none 0 0] 138) = W0 := ⟨_, rfl⟩
  have b0 : Below w.heap.size w W0 := by rw [← hW0]; exact (Below.refl _ _).alloc (Nat.le_refl _) _
  have f0 : Lib.IsBuilder 138 5 w.heap.size w.heap.size (Lib.byteCells (vtextL ((zs.map Prod.fst).take 0))) W0 := by rw [← hW0]; exact Lib.fresh_isBuilder 138 5 w
  have hmem : ∀ z ∈ zs, (vdT z.1).length ≤ (vtextL (zs.map Prod.fst)).length := fun z hz => vtext_mem (List.mem_map_of_mem hz)
  have hpre : ∀ i, (vtextL ((zs.map Prod.fst).take i)).length ≤ (vtextL (zs.map Prod.fst)).length := fun i => by
    conv => rhs; rw [← List.take_append_drop i (zs.map Prod.fst)]
    rw [vtext_append, List.length_append]
    omega
  have hsnoc : ∀ i (hi : i < zs.length), vtextL ((zs.map Prod.fst).take (i + 1)) = vtextL ((zs.map Prod.fst).take i) ++ vdT zs[i].1 := fun i hi => by
    have hi' : i < (zs.map Prod.fst).length := by rw [List.length_map]; exact hi
    rw [List.take_succ_eq_append_getElem hi', vtext_append, vtext_one, List.getElem_map]
  have hall : (zs.map Prod.fst).take n = zs.map Prod.fst := List.take_of_length_le (by rw [List.length_map]; omega)
  obtain ⟨LS, hLS⟩ : ∃ LS, zs.map Prod.fst = LS := ⟨_, rfl⟩
  rw [hLS] at f0 hmem hpre hsnoc hall hT ⊢
  obtain ⟨TX, hTX⟩ : ∃ T, vtextL LS = T := ⟨_, rfl⟩
  rw [hTX] at hmem hpre hT ⊢
  have HTX := hide hTX
  have HME := hide hmem
  have HPR := hide hpre
  have HSN := hide hsnoc
  have HAL := hide hall
  have HN := hide hn
  have H := hide h
  have HK := hide hk
  have HB0 := hide b0
  have HF0 := hide f0
  have HW0 := hide hW0
  clear hn h hk b0 f0 hW0 hTX hmem hpre hsnoc hall hLS
  go_enter Tryz.func56, Tryz.ntmps56
  go_wp2
  rw [unhide HW0]
  go_loopw [8, 11] (fun _ v11 wr => ∃ i : Nat, i ≤ n ∧ v11 = .int .i64 i ∧ Lib.IsBuilder 138 5 w.heap.size w.heap.size (Lib.byteCells (vtextL (LS.take i))) wr ∧ Below w.heap.size w wr) (fun _ v11 _ => n - (intOf v11).toNat)
  case atStart => exact ⟨0, Nat.zero_le _, rfl, unhide HF0, unhide HB0⟩
  case round =>
    rename World => wr
    obtain ⟨i, hi, rfl, hbd, hbw⟩ := hrel
    clear HF0 HB0 HW0
    by_cases hlt : i < n
    · have hit : i < zs.length := by rw [unhide HN]; exact hlt
      obtain ⟨B, O, rfl, m1, m2, m3, m4⟩ := ((unhide H).low hbw).at hit
      have hsn := unhide HSN i hit
      have hsh := unhide HME _ (List.getElem_mem hit)
      have htl := unhide HPR i
      obtain ⟨q1, q2, q3, q4⟩ := unhide HK _ (List.getElem_mem hit)
      obtain ⟨z, hz⟩ : ∃ z, zs[i] = z := ⟨_, rfl⟩
      rw [hz] at m1 m2 m3 m4 hsn hsh q1 q2 q3 q4
      obtain ⟨⟨⟨p, v⟩, x, pk⟩, az, nz, cz⟩ := z
      simp only at m1 m2 m3 m4 hsn hsh q1 q2 q3 q4
      have hle := vd_lens ⟨(p, v), x, pk⟩
      obtain ⟨W4, hW4⟩ : ∃ W4, wr.alloc (.cells #[.string (ba p), .string (ba v), .bool x, .slice az nz cz] 81) = W4 := ⟨_, rfl⟩
      have b4 : Below wr.heap.size wr W4 := by rw [← hW4]; exact (Below.refl _ _).alloc (Nat.le_refl _) _
      have k4 : Blk W4 wr.heap.size #[.string (ba p), .string (ba v), .bool x, .slice az nz cz] 81 := by rw [← hW4]; exact Blk.new _ _ _
      have c1 : W4.cell? ⟨wr.heap.size, 0, none⟩ = some (.string (ba p)) := k4.cell 0
      have c2 : W4.cell? ⟨wr.heap.size, 1, none⟩ = some (.string (ba v)) := k4.cell 1
      have c3 : W4.cell? ⟨wr.heap.size, 2, none⟩ = some (.bool x) := k4.cell 2
      have c4 : W4.cell? ⟨wr.heap.size, 3, none⟩ = some (.slice az nz cz) := k4.cell 3
      have HWL := hide (writeVendored_any (w := W4) (m := (p, v)) (x := x) (c := cz) q1 (by omega) (q4.low (low_trans hbw b4)) (by omega))
      have HBD := hide (build_low hbd b4)
      have HB4 := hide (low_trans hbw b4)
      obtain ⟨T, hT2⟩ : ∃ T, vtextL (LS.take i) = T := ⟨_, rfl⟩
      obtain ⟨L, hL⟩ : ∃ L, vdT ⟨(p, v), x, pk⟩ = L := ⟨_, rfl⟩
      rw [hT2] at hsn HBD htl
      rw [hL] at hsn HWL hsh
      have HSNN := hide hsn
      have HW4 := hide hW4
      have hTb : T.length ≤ 4000000000 := by omega
      have hLb : L.length ≤ 4000000000 := by omega
      clear hz k4 b4 hbd hbw hT2 hL hsn hW4 hsh htl q1 q2 q3 q4 hle
      go_wp2_with (go_at_call 58; fail)
      rw [unhide HW4]
      refine (unhide HWL).mono ?_
      rintro e w5 ⟨rfl, b5⟩
      have HB5 := hide (low_trans (unhide HB4) b5)
      have HWS := hide (writeString_any _ _ _ (ba L) w5 (build_low (unhide HBD) b5) (by rw [ba_size]; simp [Lib.byteCells]; omega) (unhide HB5).size)
      clear b5
      go_wp2_with (go_at_call 88; fail)
      refine (unhide HWS).mono ?_
      rintro e w6 ⟨rfl, h6, b6⟩
      have HD : Hid (Lib.IsBuilder 138 5 w.heap.size w.heap.size (Lib.byteCells (vtextL (LS.take (i + 1)))) w6 ∧ Below w.heap.size w w6) := hide ⟨by
        rw [unhide HSNN, Lib.byteCells_append, ← str_cells L]
        exact Or.inr h6, (unhide HB5).trans b6⟩
      clear h6 b6
      go_wp2
      go_roundw
      case rel => exact ⟨i + 1, hlt, by simp, (unhide HD).1, (unhide HD).2⟩
      case measure => simp [intOf]; omega
    · have hin : i = n := by omega
      rw [hin, unhide HAL] at hbd
      rw [unhide HTX] at hbd
      have HLE := hide (Tryz.Builder_Len _ _ _ wr hbd)
      have HST := hide (Tryz.Builder_String_any _ _ _ wr hbd hbw.size)
      have hlen : (Lib.byteCells TX).length = TX.length := by simp [Lib.byteCells]
      rw [hlen] at HLE
      have HBW := hide hbw
      clear hbd hbw hin hlen
      by_cases hbig : 65536 < TX.length
      · have hq : (65536 : Int) < (TX.length : Int) := by omega
        have HV : Hid (wrS TX = [] ∧ wrE TX = 13) := hide ⟨if_pos hbig, if_pos hbig⟩
        clear hbig
        go_wp2_with (go_at_call 89; fail)
        refine (unhide HLE).mono ?_
        rintro e w2 ⟨rfl, hw⟩
        rw [hw]; clear hw w2
        go_wp2
        go_ret2
        rw [(unhide HV).1, (unhide HV).2]
        exact ⟨rfl, unhide HBW⟩
      · have hq : ¬ (65536 : Int) < (TX.length : Int) := by omega
        have HV : Hid (wrS TX = TX ∧ wrE TX = 0) := hide ⟨if_neg hbig, if_neg hbig⟩
        clear hbig
        go_wp2_with (go_at_call 89; fail)
        refine (unhide HLE).mono ?_
        rintro e w2 ⟨rfl, hw⟩
        rw [hw]; clear hw w2
        go_wp2_with (go_at_call 90; fail)
        refine (unhide HST).mono ?_
        rintro e w2 ⟨rfl, b2⟩
        have HB2 := hide ((unhide HBW).trans b2)
        clear b2
        go_wp2
        go_ret2
        rw [(unhide HV).1, (unhide HV).2]
        exact ⟨rfl, unhide HB2⟩

theorem vstep {l : List Vd} {i : Nat} (hi : i < l.length) {ms : List Md} (h : vendE ms (l.drop i) = vendE [] l) : vendE [] l = if vdErr ms l[i] ≠ 0 then vdErr ms l[i] else vendE (l[i].m :: ms) (l.drop (i + 1)) := by
  rw [← h, List.drop_eq_getElem_cons hi, vendE_cons]

theorem elts_of {ys : List VE} {rs : List (Vd × Value)} (hl : rs.length = ys.length) (h : ∀ j (h1 : j < rs.length) (h2 : j < ys.length), Elt ys[j] rs[j]) : Elts (ys.map Prod.fst) (rs.map Prod.fst) :=
  elts_of' _ _ (by simp [hl]) fun j h1 h2 => by
    rw [List.length_map] at h1 h2
    have := h j h1 h2
    rw [List.getElem_map, List.getElem_map]
    exact this
theorem rising_vm {ys : List VE} (h : RisingV ys) : RisingM (ys.map Prod.fst) := by
  unfold RisingM
  rw [List.pairwise_map, List.pairwise_iff_getElem]
  intro i j hi hj hij
  exact h i j hi hj hij

/-- What vendorSorted answers, as data: in order, and how it lies. -/
theorem VSorted.out {w w' : World} {zs : List VE} {v : Value} (h : VSorted w zs v w') : ∃ rs : List Vd, VSort (zs.map Prod.fst) rs ∧ VList w w' v rs ∧ Below w.heap.size w w' := by
  obtain ⟨ys, h1, h2, rs, hm⟩ := h
  refine ⟨rs.map Prod.fst, ⟨ys.map Prod.fst, h1.map _, rising_vm h2, elts_of hm.len hm.elt⟩, ⟨rs, rfl, ?_, hm.all⟩, hm.low⟩
  have := hm.row
  rw [List.drop_eq_nil_of_le (Nat.le_refl _), List.map_nil, List.append_nil, ← hm.len] at this
  exact this

set_option maxRecDepth 100000 in
set_option maxHeartbeats 8000000 in
/-- FormatVendor, at any list. -/
theorem formatV_any {w : World} {a : Option Addr} {n c : Nat} {zs : List VE} (hg : Gd w) (hn : zs.length = n) (hN : n ≤ 1000000) (hp : PlainA a) (h : RowV w a zs) (hk : PacksR w zs) (hT : (vtextL (zs.map Prod.fst)).length ≤ 4000000000) :
    Calls Tryz.prog 19 #[.slice a n c] w fun e w' => ∃ s en, e = .returned (.tuple #[.string (ba s), .int .i64 en]) ∧ VFOut (zs.map Prod.fst) s en ∧ Below w.heap.size w w' := by
  have hstep : ∀ (i : Nat) (ms : List Md) (hi : i < zs.length), vendE ms ((zs.map Prod.fst).drop i) = vendE [] (zs.map Prod.fst) → vendE [] (zs.map Prod.fst) = if vdErr ms zs[i].1 ≠ 0 then vdErr ms zs[i].1 else vendE (zs[i].1.m :: ms) ((zs.map Prod.fst).drop (i + 1)) := fun i ms hi h => by
    have hi' : i < (zs.map Prod.fst).length := by rw [List.length_map]; exact hi
    have := vstep hi' h
    rw [List.getElem_map] at this
    exact this
  have hmem : ∀ z ∈ zs, (vdT z.1).length ≤ 4000000000 := fun z hz => Nat.le_trans (vtext_mem (List.mem_map_of_mem hz)) hT
  have hdn : (zs.map Prod.fst).drop n = [] := List.drop_eq_nil_of_le (by rw [List.length_map]; omega)
  obtain ⟨LS, hLS⟩ : ∃ LS, zs.map Prod.fst = LS := ⟨_, rfl⟩
  rw [hLS] at hstep hT hdn ⊢
  obtain ⟨E, hE⟩ : ∃ E, vendE [] LS = E := ⟨_, rfl⟩
  rw [hE] at hstep
  have HE := hide hE
  have HLS := hide hLS
  have HST := hide hstep
  have HME := hide hmem
  have HDN := hide hdn
  have HN := hide hn
  have H := hide h
  have HK := hide hk
  have HG := hide hg
  have HP := hide hp
  have HT := hide hT
  have HC := hide (vendorCheck_any w)
  clear hn h hk hg hp hT hE hLS hstep hmem hdn
  go_enter Tryz.func19, Tryz.ntmps19
  go_wp2_with (go_at_call 54; fail)
  refine (unhide HC).mono ?_
  rintro e w1 ⟨rfl, hrd⟩
  have HV1 : Hid (VChk w w1 (w.heap.size + 1) w.heap.size 0 [] [] (.map none)) := hide (by
    obtain ⟨k, h1, _, h3⟩ := hrd
    rcases h3 with ⟨_, _, _, h3⟩ | ⟨_, _, _, _, h3, _⟩
    · have : k = 0 := by omega
      subst this
      exact h3
    · cases h3)
  clear hrd HC
  go_wp2
  go_loopw [6, 7, 11] (fun _ _ v11 wr => ∃ (i : Nat) (ms : List Md) (path : Str) (pv : Value), i ≤ n ∧ v11 = .int .i64 i ∧ vendE ms (LS.drop i) = E ∧ VChk w wr (w.heap.size + 1) w.heap.size i ms path pv) (fun _ _ v11 _ => n - (intOf v11).toNat)
  case atStart => exact ⟨0, [], _, _, Nat.zero_le _, rfl, by rw [← unhide HE]; rfl, unhide HV1⟩
  case round =>
    rename World => wr
    obtain ⟨i, ms, path, pv, hi, rfl, hve, hvc⟩ := hrel
    clear HV1
    by_cases hlt : i < n
    · have hit : i < zs.length := by rw [unhide HN]; exact hlt
      obtain ⟨B, O, rfl, m1, m2, m3, m4⟩ := ((unhide H).low hvc.low).at hit
      have hst := unhide HST i ms hit hve
      have hsh := unhide HME _ (List.getElem_mem hit)
      obtain ⟨q1, q2, q3, q4⟩ := unhide HK _ (List.getElem_mem hit)
      obtain ⟨z, hz⟩ : ∃ z, zs[i] = z := ⟨_, rfl⟩
      rw [hz] at m1 m2 m3 m4 hst hsh q1 q2 q3 q4
      obtain ⟨⟨⟨p, v⟩, x, pk⟩, az, nz, cz⟩ := z
      simp only at m1 m2 m3 m4 hst hsh q1 q2 q3 q4
      obtain ⟨l1, l2, l3⟩ := vd_lens ⟨(p, v), x, pk⟩
      simp only at l1 l2 l3
      obtain ⟨W4, hW4⟩ : ∃ W4, wr.alloc (.cells #[.string (ba p), .string (ba v), .bool x, .slice az nz cz] 81) = W4 := ⟨_, rfl⟩
      have b4 : Below wr.heap.size wr W4 := by rw [← hW4]; exact (Below.refl _ _).alloc (Nat.le_refl _) _
      have k4 : Blk W4 wr.heap.size #[.string (ba p), .string (ba v), .bool x, .slice az nz cz] 81 := by rw [← hW4]; exact Blk.new _ _ _
      have c1 : W4.cell? ⟨wr.heap.size, 0, none⟩ = some (.string (ba p)) := k4.cell 0
      have c2 : W4.cell? ⟨wr.heap.size, 1, none⟩ = some (.string (ba v)) := k4.cell 1
      have c3 : W4.cell? ⟨wr.heap.size, 2, none⟩ = some (.bool x) := k4.cell 2
      have c4 : W4.cell? ⟨wr.heap.size, 3, none⟩ = some (.slice az nz cz) := k4.cell 3
      have HVD := hide (vendored_any (x := x) (c := cz) (unhide HG) (hvc.on b4) (m := (p, v)) ⟨by unfold maxLen; show p.length ≤ _; omega, by unfold maxLen; show v.length ≤ _; omega⟩ (by show p.length < _; omega) (by omega) q1 q2 q4 (fun r hr => by have := l3 r hr; omega))
      have HST2 := hide hst
      have HW4 := hide hW4
      clear hz k4 b4 hst hW4 hsh q1 q2 q3 q4 l1 l2 l3 hve hvc
      unfold VdSaid at HVD
      obtain ⟨F, hF⟩ : ∃ F, vdErr ms ⟨(p, v), x, pk⟩ = F := ⟨_, rfl⟩
      rw [hF] at HVD HST2
      clear hF
      go_wp2_with (go_at_call 55; fail)
      rw [unhide HW4]
      refine (unhide HVD).mono ?_
      rintro e w5 ⟨rfl, b5, h5⟩
      by_cases h0 : F = 0
      · obtain ⟨pv', h6⟩ := h5 h0
        have HD : Hid (vendE ((p, v) :: ms) (LS.drop (i + 1)) = E ∧ VChk w w5 (w.heap.size + 1) w.heap.size (i + 1) ((p, v) :: ms) p pv') := hide ⟨by rw [unhide HST2, if_neg (by simp [h0])], h6⟩
        subst h0
        clear b5 h5 h6
        go_wp2
        go_roundw
        case rel => exact ⟨i + 1, _, _, _, hlt, by simp, (unhide HD).1, (unhide HD).2⟩
        case measure => simp [intOf]; omega
      · have HD : Hid (VFOut LS [] F ∧ Below w.heap.size w w5) := hide ⟨Or.inl ⟨by rw [unhide HE, unhide HST2, if_pos h0]; exact h0, by rw [unhide HE, unhide HST2, if_pos h0], rfl⟩, b5⟩
        have hne : (F != 0) = true := by simpa using h0
        clear b5 h5 h0
        go_wp2
        go_ret2
        exact ⟨[], F, rfl, (unhide HD).1, (unhide HD).2⟩
    · have hin : i = n := by omega
      have h0 : vendE [] LS = 0 := by rw [unhide HE, ← hve, hin, unhide HDN]; rfl
      have H0 := hide h0
      have HSO := hide (vendorSorted_any (c := c) ((unhide HG).low hvc.low) (unhide HN) hN (unhide HP) ((unhide H).low hvc.low) ((unhide HK).low hvc.low))
      have HBW := hide hvc.low
      clear hin h0 hve hvc
      go_wp2_with (go_at_call 57; fail)
      refine (unhide HSO).mono ?_
      rintro e w2 ⟨v2, rfl, hso⟩
      obtain ⟨rs, s1, s2, s3⟩ := hso.out
      rw [unhide HLS] at s1
      have htx : (vtextL rs).length ≤ 4000000000 := by rw [s1.text]; exact unhide HT
      have hpl : ∀ z ∈ rs, z.pk.length ≤ 1000000 := fun z hz => by
        obtain ⟨ys, p1, _, p3⟩ := s1
        obtain ⟨y, hy, e⟩ := elts_pk p3 z hz
        rw [e]
        have hm : y ∈ LS := p1.mem_iff.1 hy
        rw [← unhide HLS] at hm
        obtain ⟨z2, hz2, e2⟩ := List.mem_map.1 hm
        obtain ⟨q1, q2, _⟩ := unhide HK z2 hz2
        rw [← e2, q1]
        exact q2
      obtain ⟨ve, a2, c2, e1, rfl, e3, e4, e5⟩ := vlist_ve s2 hpl
      have hvl : ve.length = n := by
        have := congrArg List.length e1
        rw [List.length_map, s1.len, ← unhide HLS, List.length_map, unhide HN] at this
        exact this
      have HWR := hide (vwriteLines_any (c := c2) hvl hN e4 e5 (by rw [e1]; exact htx))
      rw [e1] at HWR
      have HB2 := hide (low_trans (unhide HBW) s3)
      have HFO : Hid (VFOut LS (wrS (vtextL rs)) (wrE (vtextL rs))) := hide (Or.inr ⟨unhide H0, rs, s1, by
        by_cases hb : 65536 < (vtextL rs).length
        · exact Or.inl ⟨hb, if_pos hb, if_pos hb⟩
        · exact Or.inr ⟨by omega, if_neg hb, if_neg hb⟩⟩)
      rw [hvl]
      clear s1 s2 s3 htx hpl e1 e3 e4 e5 hvl hso
      go_wp2_with (go_at_call 56; fail)
      refine (unhide HWR).mono ?_
      rintro e w3 ⟨rfl, b3⟩
      have HB3 := hide (low_trans (unhide HB2) b3)
      clear b3
      go_wp2
      go_ret2
      exact ⟨_, _, rfl, unhide HFO, unhide HB3⟩

end Go.Proofs.YthcafeoamabkgaaGreatDoor

namespace Go.Proofs.YthcafeoamabkgaaGreatDoor
open Go.RowKit

/-- What ParseVendor answers, as a list that can be handed on. -/
def PVSaid (w : World) (t : Str) (e : Ending) (w' : World) : Prop :=
  ∃ (a : Option Addr) (c : Nat) (ve : List VE), e = .returned (.tuple #[.slice a ve.length c, .int .i64 ((vendF t).2.1 : Nat), .int .i64 (vendF t).2.2]) ∧ VSort (vendF t).1 (ve.map Prod.fst) ∧ PlainA a ∧ RowV w' a ve ∧ PacksR w' ve ∧ ve.length ≤ 70000 ∧ Below w.heap.size w w'

theorem vendF_lens {t : Str} (ht : t.length ≤ 65536) : (∀ z ∈ (vendF t).1, z.pk.length ≤ 65537) ∧ (vendF t).1.length ≤ 65538 := by
  unfold vendF
  rw [if_neg (by omega)]
  exact readV_len (K := 65537) t.length [] [] none 1 t (fun z hz => by cases hz) (Nat.zero_le _) (fun z hz => by cases hz) (by omega)

theorem parseV_list {w : World} {t : Str} (hg : Gd w) (ht : t.length ≤ 65536) : Calls Tryz.prog 20 #[.string (ba t)] w (PVSaid w t) := by
  obtain ⟨h1, h2⟩ := vendF_lens ht
  refine (parseV_any hg (by omega)).mono ?_
  rintro e w' ⟨v, zs, W, rfl, hz, hs, b⟩
  obtain ⟨rs, s1, s2, s3⟩ := hs.out
  rw [hz] at s1
  have hpl : ∀ z ∈ rs, z.pk.length ≤ 1000000 := fun z hz => by
    obtain ⟨ys, p1, _, p3⟩ := s1
    obtain ⟨y, hy, e⟩ := elts_pk p3 z hz
    have := h1 y (p1.mem_iff.1 hy)
    omega
  obtain ⟨ve, a, c, e1, rfl, e3, e4, e5⟩ := vlist_ve s2 hpl
  refine ⟨a, c, ve, rfl, by rw [e1]; exact s1, e3, e4, e5, ?_, low_trans b s3⟩
  have := congrArg List.length e1
  rw [List.length_map, s1.len] at this
  omega

/-- A lock's lines are few, and short. -/
theorem sum_len {s : Str} (h : sumB s = true) : 47 ≤ s.length := by
  unfold sumB at h
  simp only [Bool.and_eq_true, decide_eq_true_eq] at h
  obtain ⟨⟨⟨h1, h2⟩, h3⟩, _⟩ := h
  have e1 := prefix_split h1
  have e2 := suffix_split h2
  have l1 := congrArg List.length e1
  have l2 := congrArg List.length e2
  rw [List.length_append] at l1 l2
  have : headL.length = 3 := rfl
  simp only [List.length_singleton] at l2
  omega
theorem lock_few {t : Str} {ys : List Ln} {n : Nat} (h : POut t ys n 0) : ys.length * 48 ≤ t.length ∧ ∀ y ∈ ys, y.p.length ≤ t.length ∧ y.v.length ≤ t.length ∧ y.s.length ≤ t.length := by
  rcases h with ⟨_, _, _, h⟩ | ⟨ht, hp, hr, _, he⟩
  · cases h
  · obtain ⟨_, ms, h1, h2, h3⟩ := lock_zero (pieces 10 t) [] 1 (pieces_ne _ _) ⟨fun x hx => (by cases hx), List.Pairwise.nil⟩ he.symm
    rw [List.nil_append] at h1 h3
    rw [h1] at hp
    have et : t = textL ms := by rw [text_front]; exact front_inj h2
    have key : ∀ l : List Ln, (∀ x ∈ l, LnGood x) → l.length * 48 ≤ (textL l).length ∧ ∀ y ∈ l, y.p.length ≤ (textL l).length ∧ y.v.length ≤ (textL l).length ∧ y.s.length ≤ (textL l).length := by
      intro l
      induction l with
      | nil => intro _; exact ⟨Nat.zero_le _, fun y hy => by cases hy⟩
      | cons x l ih =>
        intro hl
        obtain ⟨i1, i2⟩ := ih fun y hy => hl y (List.mem_cons_of_mem _ hy)
        have hs := sum_len (hl x (by simp)).s
        have hv : x.v.length ≤ (verT x).length := by
          unfold verT
          split
          · rw [List.length_append]; omega
          · exact Nat.le_refl _
        have e : (textL (x :: l)).length = x.p.length + 1 + (verT x).length + 1 + x.s.length + 1 + (textL l).length := by
          show (lineT x ++ textL l).length = _
          unfold lineT
          simp
          omega
        rw [e]
        refine ⟨by rw [List.length_cons]; omega, fun y hy => ?_⟩
        rcases List.mem_cons.1 hy with rfl | hy
        · omega
        · have := i2 y hy
          omega
    obtain ⟨k1, k2⟩ := key ms h3.1
    rw [← et] at k1 k2
    rw [hp.length_eq]
    exact ⟨k1, fun y hy => k2 y (hp.mem_iff.1 hy)⟩

/-- Parse, as a list that can be handed on. -/
def PSaid (w : World) (t : Str) (e : Ending) (w' : World) : Prop :=
  ∃ (a : Option Addr) (c : Nat) (ys : List Ln) (n : Nat) (en : Int), e = .returned (.tuple #[.slice a ys.length c, .int .i64 (n : Nat), .int .i64 en]) ∧ POut t ys n en ∧ PlainA a ∧ LRow w' a ys ∧ Below w.heap.size w w'

theorem parse_list {w : World} {t : Str} (hg : Gd w) (ht : t.length ≤ 65536) : Calls Tryz.prog 16 #[.string (ba t)] w (PSaid w t) := by
  have hr := read_lock t.length [] [] 1 t (Nat.le_refl _) ents_nil
  refine (parse_all hg ht).mono ?_
  rintro e w' ⟨v, rfl, ys, h1, h2, h3, h4⟩
  rw [hr] at h1 ⊢
  obtain ⟨a, c, rfl, lr, _⟩ := Lines.at h3
  exact ⟨a, c, ys, _, _, rfl, Or.inr ⟨ht, h1, h2, rfl, rfl⟩, Lines.plain h3, lr, h4⟩

theorem FOut.short {l : List Ln} {s : Str} (h : FOut l s 0) : s.length ≤ 65536 := by
  rcases h with ⟨h1, h2, _⟩ | ⟨_, zs, _, _, h⟩
  · exact absurd h2.symm h1
  · rcases h with ⟨_, h, _⟩ | ⟨h, _, rfl⟩
    · cases h
    · exact h
theorem VFOut.short {l : List Vd} {s : Str} (h : VFOut l s 0) : s.length ≤ 65536 := by
  rcases h with ⟨h1, h2, _⟩ | ⟨_, zs, _, h⟩
  · exact absurd h2.symm h1
  · rcases h with ⟨_, h, _⟩ | ⟨h, _, rfl⟩
    · cases h
    · exact h
theorem vsort_text {t : Str} {rs : List Vd} (h : (vendF t).2.2 = 0) (hs : VSort (vendF t).1 rs) : (vtextL rs).length = t.length := by
  obtain ⟨_, _, h3, _⟩ := vendF_zero h
  rw [hs.text, ← h3]

end Go.Proofs.YthcafeoamabkgaaGreatDoor
