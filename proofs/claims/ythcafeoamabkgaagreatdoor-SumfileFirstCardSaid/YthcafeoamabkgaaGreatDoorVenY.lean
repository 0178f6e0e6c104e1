/-
  read, at a package's line.
-/
import Derived.Test.YthcafeoamabkgaaGreatDoorVenX
namespace Go.Proofs.YthcafeoamabkgaaGreatDoor
open Go.RowKit Go.WideMaps Go.Maps

def explL : Str := [35, 35, 32, 101, 120, 112, 108, 105, 99, 105, 116]

/-- The state behind at least one module. -/
structure Rd1 (w0 w : World) (ck M n : Nat) (ms : List Md) (v : Value) (zs : List (Vd × Value)) (y : Vd) (s : Value) (P : Nat) : Prop where
  c : VCk w0 w ck M n ms y.m.1 P y.pk.length y.pk.reverse
  row : VRow w0 w v (zs ++ [(y, s)])
  all : VAll w0 w zs
  last : w.ownsRow w0.heap.size 9 1 s y.pk.length (strsV y.pk)
  ne : ∀ z ∈ zs, ∀ g, s.ownBlock = some g → z.2.ownBlock ≠ some g

theorem Rd1.on {w0 w w' : World} {ck M n P : Nat} {ms : List Md} {v s : Value} {zs : List (Vd × Value)} {y : Vd} (h : Rd1 w0 w ck M n ms v zs y s P) (b : Below w.heap.size w w') : Rd1 w0 w' ck M n ms v zs y s P :=
  ⟨h.c.on b, rowT_low h.row b, h.all.low b, rowT_low h.last b, h.ne⟩

/-- A cell of a row is set. -/
theorem rowT_set {w : World} {base n k j g : Nat} {T : TypeId} {cap : Nat} {xs : List Value} (h : w.ownsRow base T k (.slice (some ⟨g, 0, none⟩) n cap) n xs) (_hj : j < n * k) (u : Value) : (w.setCell ⟨g, j, none⟩ u).ownsRow base T k (.slice (some ⟨g, 0, none⟩) n cap) n (xs.set j u) := by
  refine ⟨by rw [List.length_set]; exact h.1, Or.inr ?_⟩
  rcases h.2 with ⟨h1, _⟩ | ⟨g', cap', cur, h1, h2, h3, h4, h5, h6, h7⟩
  · cases h1
  · cases h1
    refine ⟨g, cap, cur.setIfInBounds j u, rfl, h2, heap_setCell_at h3 u, h4, h5, by rw [Array.size_setIfInBounds]; exact h6, ?_⟩
    rw [Array.toList_setIfInBounds, List.take_set, h7]

theorem vds_set2 (zs : List (Vd × Value)) (y : Vd) (s : Value) (b : Bool) : (vdsV (zs ++ [(y, s)])).set (zs.length * 4 + 2) (.bool b) = vdsV (zs ++ [(⟨y.m, b, y.pk⟩, s)]) := by
  rw [vdsV_append, vdsV_append, List.set_append_right _ _ (by rw [vdsV_length]; omega), vdsV_length]
  congr 1
  rw [Nat.add_sub_cancel_left]
  rfl
theorem vds_set3 (zs : List (Vd × Value)) (y : Vd) (s s' : Value) (pk : List Str) : (vdsV (zs ++ [(y, s)])).set (zs.length * 4 + 3) s' = vdsV (zs ++ [(⟨y.m, y.x, pk⟩, s')]) := by
  rw [vdsV_append, vdsV_append, List.set_append_right _ _ (by rw [vdsV_length]; omega), vdsV_length]
  congr 1
  rw [Nat.add_sub_cancel_left]
  rfl

/-- How the list lies: its block, and the last element's cells. -/
theorem Rd1.at {w0 w : World} {ck M n P : Nat} {ms : List Md} {v s : Value} {zs : List (Vd × Value)} {y : Vd} (h : Rd1 w0 w ck M n ms v zs y s P) :
    ∃ g cap cur, v = .slice (some ⟨g, 0, none⟩) (zs.length + 1) cap ∧ w0.heap.size ≤ g ∧ Blk w g cur 81 ∧ cur[zs.length * 4]? = some (.string (ba y.m.1)) ∧ cur[zs.length * 4 + 1]? = some (.string (ba y.m.2)) ∧ cur[zs.length * 4 + 2]? = some (.bool y.x) ∧ cur[zs.length * 4 + 3]? = some s := by
  rcases h.row.2 with ⟨_, h0⟩ | ⟨g, cap, cur, h1, h2, h3, h4, h5, h6, h7⟩
  · rw [List.length_append] at h0
    simp at h0
  · rw [List.length_append] at h1 h7
    refine ⟨g, cap, cur, h1, h2, h3, ?_⟩
    have key : ∀ j, j < 4 → cur[zs.length * 4 + j]? = (vdC y.m y.x s).toList[j]? := fun j hj => by
      have e : (cur.toList.take ((zs.length + 1) * 4))[zs.length * 4 + j]? = cur[zs.length * 4 + j]? := by
        rw [List.getElem?_take_of_lt (by omega)]
        simp
      rw [← e]
      have h7' : cur.toList.take ((zs.length + 1) * 4) = vdsV (zs ++ [(y, s)]) := h7
      rw [h7', vdsV_append, List.getElem?_append_right (by rw [vdsV_length]; omega), vdsV_length, Nat.add_sub_cancel_left]
      rfl
    exact ⟨key 0 (by omega), key 1 (by omega), key 2 (by omega), key 3 (by omega)⟩

/-- The last element's cells. -/
theorem Rd1.cells {w0 w : World} {ck M n P g gc k q : Nat} {ms : List Md} {s : Value} {zs : List (Vd × Value)} {y : Vd} (h : Rd1 w0 w ck M n ms (.slice (some ⟨g, 0, none⟩) k gc) zs y s P) (hq : zs.length = q) :
    w0.heap.size ≤ g ∧ g < w.heap.size ∧ (∃ cur, Blk w g cur 81) ∧ w.cell? ⟨g, q * 4, none⟩ = some (.string (ba y.m.1)) ∧ w.cell? ⟨g, q * 4 + 1, none⟩ = some (.string (ba y.m.2)) ∧ w.cell? ⟨g, q * 4 + 2, none⟩ = some (.bool y.x) ∧ w.cell? ⟨g, q * 4 + 3, none⟩ = some s ∧ ∀ j, w.frozen? ⟨g, j, none⟩ = false := by
  subst hq
  obtain ⟨g', cap, cur, h1, h2, h3, c0, c1, c2, c3⟩ := h.at
  cases h1
  exact ⟨h2, h3.lt, ⟨cur, h3⟩, (h3.cell _).trans c0, (h3.cell _).trans c1, (h3.cell _).trans c2, (h3.cell _).trans c3, fun j => h3.free j⟩

/-- The explicit mark is set. -/
theorem Rd1.mark {w0 w : World} {ck M n P g gc k q : Nat} {ms : List Md} {s : Value} {zs : List (Vd × Value)} {y : Vd} (h : Rd1 w0 w ck M n ms (.slice (some ⟨g, 0, none⟩) k gc) zs y s P) (hq : zs.length = q) :
    Rd1 w0 (w.setCell ⟨g, q * 4 + 2, none⟩ (.bool true)) ck M n ms (.slice (some ⟨g, 0, none⟩) k gc) zs ⟨y.m, true, y.pk⟩ s P := by
  obtain ⟨g0, g1, ⟨cur, hk⟩, _⟩ := h.cells hq
  subst hq
  have far : ∀ j, j ≠ g → (w.setCell ⟨g, zs.length * 4 + 2, none⟩ (.bool true)).heap[j]? = w.heap[j]? := fun j hj => Below.heap_setCell _ _ _ _ hj
  have hkc : ck ≠ g := fun e => by
    have h1 := h.c.c.blk
    rw [e] at h1
    unfold Blk at h1 hk
    rw [h1] at hk
    simp at hk
  have hM : M ≠ g := fun e => by
    have h1 := hk
    unfold Blk at h1
    rw [← e] at h1
    exact mapM_not h.c.c.set h1
  have hP : P ≠ g := fun e => by
    have h1 := hk
    unfold Blk at h1
    rw [← e] at h1
    exact mapS_not h.c.p h1
  have h9 : ∀ {v : Value} {m : Nat} {xs : List Value}, w.ownsRow w0.heap.size 9 1 v m xs → (w.setCell ⟨g, zs.length * 4 + 2, none⟩ (.bool true)).ownsRow w0.heap.size 9 1 v m xs := fun hr => rowT_same hr fun b hb => far b (fun e => by
    obtain ⟨_, c, hc⟩ := rowT hr hb
    have h1 := hk
    unfold Blk at h1
    rw [← e, hc] at h1
    simp at h1)
  have hlen : (zs ++ [(y, s)]).length = zs.length + 1 := by simp
  have hr := h.row
  unfold VRow at hr
  have hkk : k = (zs ++ [(y, s)]).length := by
    rcases hr.2 with ⟨e, _⟩ | ⟨_, _, _, e, _⟩
    · cases e
    · cases e; rfl
  refine ⟨⟨⟨h.c.c.low.setCell (p := ⟨g, zs.length * 4 + 2, none⟩) g0 _, (far ck hkc).trans h.c.c.blk, h.c.c.set.same (far M hM), h.c.c.ck0, h.c.c.m0⟩, h.c.p.same (far P hP), h.c.ne, h.c.p0⟩, ?_, fun z hz => h9 (h.all z hz), h9 h.last, h.ne⟩
  have hr2 := hkk ▸ hr
  have := rowT_set (j := zs.length * 4 + 2) (by rw [← hkk] at hr; exact hkk ▸ hr) (by rw [hlen]; omega) (.bool true)
  rw [vds_set2] at this
  unfold VRow
  rw [hkk]
  rw [hlen] at this ⊢
  have e2 : (zs ++ [((⟨y.m, true, y.pk⟩ : Vd), s)]).length = zs.length + 1 := by simp
  rw [e2]
  exact this

theorem slice_own {w : World} {base n k : Nat} {T : TypeId} {v : Value} {xs : List Value} (h : w.ownsRow base T k v n xs) : ∃ a cap, v = .slice a n cap := by
  rcases h.2 with ⟨rfl, rfl⟩ | ⟨g, cap, cur, rfl, _⟩
  · exact ⟨_, _, rfl⟩
  · exact ⟨_, _, rfl⟩

set_option maxRecDepth 100000 in
set_option maxHeartbeats 4000000 in
/-- Nothing has been read yet. -/
theorem read_early {w : World} {ck : Nat} {l : Str} (hg : Gd w) (hl : l.length < 4294967281) (hm : modL l = none) :
    Calls Tryz.prog 60 #[.pointer (some ⟨ck, 0, none⟩), .slice none 0 0, .string (ba l)] w fun e w' => e = .returned (.tuple #[.slice none 0 0, .int .i64 11]) ∧ Below w.heap.size w w' := by
  have HR := hide (readModule_none hl hg hm)
  clear hm hg
  go_enter Tryz.func60, Tryz.ntmps60
  go_wp2_with (go_at_call 104; fail)
  refine (unhide HR).mono ?_
  rintro e w1 ⟨rfl, b1⟩
  have HB := hide (b1.alloc b1.size (.cells (modC ([], [])) 36))
  clear b1
  go_wp2
  go_ret2
  exact ⟨rfl, unhide HB⟩

set_option maxRecDepth 100000 in
set_option maxHeartbeats 8000000 in
/-- A module's mark of being explicit. -/
theorem read_expl {w0 w : World} {ck M n P : Nat} {ms : List Md} {v s : Value} {zs : List (Vd × Value)} {y : Vd} (hg : Gd w0) (h : Rd1 w0 w ck M n ms v zs y s P) (hz : zs.length ≤ 1000000) (hm : modL explL = none) (hx : y.x = false) (hp : y.pk = []) :
    Calls Tryz.prog 60 #[.pointer (some ⟨ck, 0, none⟩), v, .string (ba explL)] w fun e w' => e = .returned (.tuple #[v, .int .i64 0]) ∧ Rd1 w0 w' ck M n ms v zs ⟨y.m, true, y.pk⟩ s P ∧ w.heap.size ≤ w'.heap.size := by
  have HR := hide (readModule_none (by decide) (hg.low h.c.c.low) hm)
  obtain ⟨a, cap, hs⟩ := slice_own h.last
  have hn0 : y.pk.length = 0 := by rw [hp]; rfl
  rw [hn0] at hs
  subst hs
  have H := hide h
  clear hm hg h hn0
  obtain ⟨g, gc, cur, rfl, _⟩ := (unhide H).at
  obtain ⟨q, hq⟩ : ∃ q, zs.length = q := ⟨_, rfl⟩
  rw [hq] at hz ⊢
  go_enter Tryz.func60, Tryz.ntmps60
  go_wp2_with (go_at_call 104; fail)
  refine (unhide HR).mono ?_
  rintro e w1 ⟨rfl, b1⟩
  obtain ⟨W, hW⟩ : ∃ W, w1.alloc (.cells (modC ([], [])) 36) = W := ⟨_, rfl⟩
  have bW : Below w.heap.size w W := by rw [← hW]; exact b1.alloc b1.size _
  have H1 := hide ((unhide H).on bW)
  have Z1 : Hid (w.heap.size ≤ W.heap.size) := hide bW.size
  obtain ⟨g0, g1, _, c0, c1, c2, c3, fz⟩ := (unhide H1).cells hq
  rw [hx] at c2
  have d2 : ∀ o, (W.alloc o).cell? ⟨g, q * 4 + 2, none⟩ = some (.bool false) := fun o => (((unhide H1).on ((Below.refl _ _).alloc (Nat.le_refl _) o)).cells hq).2.2.2.2.2.1.trans (by rw [hx])
  have df : ∀ o j, (W.alloc o).frozen? ⟨g, j, none⟩ = false := fun o => (((unhide H1).on ((Below.refl _ _).alloc (Nat.le_refl _) o)).cells hq).2.2.2.2.2.2.2
  have hex : (ba explL).toList = [35, 35, 32, 101, 120, 112, 108, 105, 99, 105, 116] := ba_list _
  have h0 : ((q : Int) + 1 == 0) = false := by simp; omega
  have HF : Hid (∀ o, Rd1 w0 ((W.alloc o).setCell ⟨g, q * 4 + 2, none⟩ (.bool true)) ck M n ms (.slice (some ⟨g, 0, none⟩) (q + 1) gc) zs ⟨y.m, true, y.pk⟩ (.slice a 0 cap) P ∧ w.heap.size ≤ ((W.alloc o).setCell ⟨g, q * 4 + 2, none⟩ (.bool true)).heap.size) := hide (fun o => by
    have b := (Below.refl W.heap.size W).alloc (Nat.le_refl _) o
    refine ⟨by have := ((unhide H1).on b).mark hq; rwa [hq] at this, ?_⟩
    rw [World.size_setCell]
    exact Nat.le_trans (unhide Z1) b.size)
  have HQ := hide hq
  clear b1 bW hq hx g0 g1 hp
  go_wp2
  go_ret2
  exact ⟨rfl, unhide HF _⟩

end Go.Proofs.YthcafeoamabkgaaGreatDoor

namespace Go.Proofs.YthcafeoamabkgaaGreatDoor
open Go.RowKit Go.WideMaps Go.Maps

theorem hash_any (l : Str) (w : World) : Calls Tryz.prog 106 #[.string (ba l), .string ⟨#[35]⟩] w fun e w' => e = .returned (.bool (Lib.hasPrefix l [35])) ∧ w' = w := by
  have := Tryz.strings_HasPrefix (ba l) (ba [35]) w
  rw [ba_data, ba_data] at this
  exact this

/-- What a line says that is no module: nothing, that the module is explicit, or a package. -/
def badL (y : Vd) (l : Str) : Prop := ¬ (l = explL ∧ y.x = false ∧ y.pk = []) ∧ ¬ (l ≠ [] ∧ Lib.hasPrefix l [35] = false)

set_option maxRecDepth 100000 in
set_option maxHeartbeats 8000000 in
theorem read_bad {w0 w : World} {ck M n P : Nat} {ms : List Md} {v s : Value} {zs : List (Vd × Value)} {y : Vd} {l : Str} (hg : Gd w0) (h : Rd1 w0 w ck M n ms v zs y s P) (hz : zs.length ≤ 1000000) (hl : l.length < 4294967281) (hm : modL l = none) (hb : badL y l) :
    Calls Tryz.prog 60 #[.pointer (some ⟨ck, 0, none⟩), v, .string (ba l)] w fun e w' => e = .returned (.tuple #[.slice none 0 0, .int .i64 11]) ∧ Below w.heap.size w w' := by
  have HR := hide (readModule_none hl (hg.low h.c.c.low) hm)
  obtain ⟨a, cap, hs⟩ := slice_own h.last
  obtain ⟨pn, hpn⟩ : ∃ pn, y.pk.length = pn := ⟨_, rfl⟩
  rw [hpn] at hs
  subst hs
  have H := hide h
  have HB := hide hb
  have HPN := hide hpn
  clear hm hg h hb hpn
  obtain ⟨g, gc, cur, rfl, _⟩ := (unhide H).at
  obtain ⟨q, hq⟩ : ∃ q, zs.length = q := ⟨_, rfl⟩
  rw [hq] at hz ⊢
  go_enter Tryz.func60, Tryz.ntmps60
  go_wp2_with (go_at_call 104; fail)
  refine (unhide HR).mono ?_
  rintro e w1 ⟨rfl, b1⟩
  obtain ⟨W, hW⟩ : ∃ W, w1.alloc (.cells (modC ([], [])) 36) = W := ⟨_, rfl⟩
  have bW : Below w.heap.size w W := by rw [← hW]; exact b1.alloc b1.size _
  have H1 := hide ((unhide H).on bW)
  have B1 := hide bW
  obtain ⟨g0, g1, _, c0, c1, c2, c3, fz⟩ := (unhide H1).cells hq
  have HJ := hide (justBegun_any (m := y.m) (x := y.x) (a := a) (n := pn) (c := cap) W)
  have HH := hide (fun wx => hash_any l wx)
  have h0 : ((q : Int) + 1 == 0) = false := by simp; omega
  obtain ⟨x, hx⟩ : ∃ x, y.x = x := ⟨_, rfl⟩
  rw [hx] at c2 HJ
  have HX := hide hx
  have HQ := hide hq
  obtain ⟨hp, hhp⟩ : ∃ hp, Lib.hasPrefix l [35] = hp := ⟨_, rfl⟩
  rw [hhp] at HH
  have HHP := hide hhp
  clear b1 bW hq hx g0 g1 fz hhp
  by_cases he : l = explL
  · have hex : (ba l).toList = [35, 35, 32, 101, 120, 112, 108, 105, 99, 105, 116] := by rw [ba_list]; exact he
    have hem : (ba l).toList.isEmpty = false := by rw [hex]; rfl
    have hem2 : ((ba l).toList == []) = false := by rw [hex]; rfl
    have hj : (!x && decide (pn = 0)) = false := by
      have h1 := (unhide HB).1
      rw [← unhide HX, ← unhide HPN]
      cases hyx : y.x with
      | true => rfl
      | false =>
        simp only [Bool.not_false, Bool.true_and, decide_eq_false_iff_not]
        intro h2
        exact h1 ⟨he, hyx, List.length_eq_zero_iff.1 h2⟩
    rw [hj] at HJ
    have hpt : hp = true := by rw [← unhide HHP, he]; decide
    subst hpt
    have HE := hide he
    clear he hj
    go_wp2_with (go_at_call 105; fail)
    refine (unhide HJ).mono ?_
    rintro e w2 ⟨rfl, b2⟩
    have HB2 := hide (low_trans (unhide B1) b2)
    clear b2
    go_wp2_with (go_at_call 106; fail)
    refine (unhide HH _).mono ?_
    rintro e w3 ⟨rfl, hw⟩
    rw [hw]; clear hw w3
    go_wp2
    go_ret2
    exact ⟨rfl, unhide HB2⟩
  · have hex : ¬ (ba l).toList = [35, 35, 32, 101, 120, 112, 108, 105, 99, 105, 116] := by rw [ba_list]; exact he
    have hex2 : ((ba l).toList == [35, 35, 32, 101, 120, 112, 108, 105, 99, 105, 116]) = false := by rw [beq_eq_false_iff_ne]; exact hex
    have HE := hide he
    clear he
    by_cases hn : l = []
    · have hem : (ba l).toList.isEmpty = true := by rw [ba_list, hn]; rfl
      have hem2 : (ba l).toList = [] := by rw [ba_list, hn]
      have HN := hide hn
      clear hn
      go_wp2
      go_ret2
      exact ⟨rfl, unhide B1⟩
    · have hem : (ba l).toList.isEmpty = false := ba_ne hn
      have hem2 : ¬ (ba l).toList = [] := by rw [ba_list]; exact hn
      have hpt : hp = true := by
        have h1 := (unhide HB).2
        rw [unhide HHP] at h1
        cases hp with
        | true => rfl
        | false => exact absurd ⟨hn, rfl⟩ h1
      subst hpt
      have HN := hide hn
      clear hn
      go_wp2_with (go_at_call 106; fail)
      refine (unhide HH _).mono ?_
      rintro e w3 ⟨rfl, hw⟩
      rw [hw]; clear hw w3
      go_wp2
      go_ret2
      exact ⟨rfl, unhide B1⟩

end Go.Proofs.YthcafeoamabkgaaGreatDoor

namespace Go.Proofs.YthcafeoamabkgaaGreatDoor
open Go.RowKit Go.WideMaps Go.Maps

/-- What is read of a package's line. -/
def PkgSaid (w0 : World) (ck M n : Nat) (ms : List Md) (v : Value) (zs : List (Vd × Value)) (y : Vd) (P : Nat) (l : Str) (e : Ending) (w' : World) : Prop :=
  e = .returned (.tuple #[v, .int .i64 (impE y.m.1 y.pk.reverse l)]) ∧ Below w0.heap.size w0 w' ∧ (impE y.m.1 y.pk.reverse l = 0 → ∃ s', Rd1 w0 w' ck M n ms v zs ⟨y.m, y.x, y.pk ++ [l]⟩ s' P)

theorem info9s : (Tryz.prog.info? 9).map (fun i => (i.zero, i.size, i.bytes)) = some (some (.string ⟨#[]⟩), 1, 16) := by kernel_rfl

theorem strsV_snoc (ps : List Str) (p : Str) : strsV (ps ++ [p]) = strsV ps ++ [.string (ba p)] := by simp [strsV]

/-- The list behind an append to the last one's packages and the store of it. -/
structure Mid (w0 w : World) (ck M n : Nat) (ms : List Md) (v : Value) (zs : List (Vd × Value)) (y : Vd) (s : Value) (P np : Nat) (pk : List Str) : Prop where
  c : VCk w0 w ck M n ms y.m.1 P np pk
  row : VRow w0 w v (zs ++ [(y, s)])
  all : VAll w0 w zs
  last : w.ownsRow w0.heap.size 9 1 s y.pk.length (strsV y.pk)
  ne : ∀ z ∈ zs, ∀ g, s.ownBlock = some g → z.2.ownBlock ≠ some g

theorem Rd1.slot {w0 w w4 : World} {ck M n P g gc k q : Nat} {ms : List Md} {s : Value} {zs : List (Vd × Value)} {y : Vd} (h : Rd1 w0 w ck M n ms (.slice (some ⟨g, 0, none⟩) k gc) zs y s P) (hq : zs.length = q) (hgr : w.grownBy w4 s.ownBlock) :
    w4.cell? ⟨g, q * 4 + 3, none⟩ = some s ∧ w4.frozen? ⟨g, q * 4 + 3, none⟩ = false := by
  obtain ⟨g0, g1, ⟨cur, hk⟩, _, _, _, c3, _⟩ := h.cells hq
  have hk4 : Blk w4 g cur 81 := hk.grownT h.last (by decide) hgr
  refine ⟨?_, hk4.free _⟩
  rw [hk4.cell, ← hk.cell]
  exact c3

theorem Rd1.put {w0 w w4 : World} {ck M n P g gc k q g2 cap2 pn : Nat} {ms : List Md} {s : Value} {zs : List (Vd × Value)} {y : Vd} {l : Str} (h : Rd1 w0 w ck M n ms (.slice (some ⟨g, 0, none⟩) k gc) zs y s P) (hq : zs.length = q) (hpn : y.pk.length = pn)
    (hown : w4.ownsRow w0.heap.size 9 1 (.slice (some ⟨g2, 0, none⟩) (pn + 1) cap2) (pn + 1) (strsV y.pk ++ [.string (ba l)])) (hgr : w.grownBy w4 s.ownBlock) (hat : s.ownBlock = some g2 ∨ g2 = w.heap.size) :
    Mid w0 (w4.setCell ⟨g, q * 4 + 3, none⟩ (.slice (some ⟨g2, 0, none⟩) (pn + 1) cap2)) ck M n ms (.slice (some ⟨g, 0, none⟩) k gc) zs ⟨y.m, y.x, y.pk ++ [l]⟩ (.slice (some ⟨g2, 0, none⟩) (pn + 1) cap2) P pn y.pk.reverse := by
  subst hpn
  obtain ⟨g0, g1, ⟨cur, hk⟩, _⟩ := h.cells hq
  subst hq
  obtain ⟨W, hW⟩ : ∃ W, w4.setCell ⟨g, zs.length * 4 + 3, none⟩ (.slice (some ⟨g2, 0, none⟩) (y.pk.length + 1) cap2) = W := ⟨_, rfl⟩
  have far : ∀ j, j ≠ g → W.heap[j]? = w4.heap[j]? := fun j hj => by rw [← hW]; exact Below.heap_setCell _ _ _ _ hj
  have hk4 : Blk w4 g cur 81 := hk.grownT h.last (by decide) hgr
  have c4 : VCk w0 w4 ck M n ms y.m.1 P y.pk.length y.pk.reverse := h.c.grown h.last (by decide) hgr
  have hr4 : VRow w0 w4 (.slice (some ⟨g, 0, none⟩) k gc) (zs ++ [(y, s)]) := rowT_grown h.row h.last (by decide) hgr
  have hkc : ck ≠ g := fun e => by
    have h1 := c4.c.blk
    rw [e] at h1
    unfold Blk at h1 hk4
    rw [h1] at hk4
    simp at hk4
  have hM : M ≠ g := fun e => by
    have h1 := hk4
    unfold Blk at h1
    rw [← e] at h1
    exact mapM_not c4.c.set h1
  have hP : P ≠ g := fun e => by
    have h1 := hk4
    unfold Blk at h1
    rw [← e] at h1
    exact mapS_not c4.p h1
  have h9 : ∀ {v : Value} {m : Nat} {xs : List Value}, w4.ownsRow w0.heap.size 9 1 v m xs → W.ownsRow w0.heap.size 9 1 v m xs := fun hr => rowT_same hr fun b hb => far b (fun e => by
    obtain ⟨_, c, hc⟩ := rowT hr hb
    have h1 := hk4
    unfold Blk at h1
    rw [← e, hc] at h1
    simp at h1)
  have hall4 : VAll w0 w4 zs := fun z hz => rowT_same (h.all z hz) fun b hb => hgr.block b (rowT_lt (h.all z hz) hb) (fun e => h.ne z hz b e.symm hb)
  have hlen : (zs ++ [(y, s)]).length = zs.length + 1 := by simp
  have hkk : k = (zs ++ [(y, s)]).length := by
    rcases h.row.2 with ⟨e, _⟩ | ⟨_, _, _, e, _⟩
    · cases e
    · cases e; rfl
  rw [hW]
  refine ⟨⟨⟨?_, (far ck hkc).trans c4.c.blk, c4.c.set.same (far M hM), c4.c.ck0, c4.c.m0⟩, c4.p.same (far P hP), c4.ne, c4.p0⟩, ?_, fun z hz => h9 (hall4 z hz), ?_, ?_⟩
  · rw [← hW]; exact c4.c.low.setCell (p := ⟨g, zs.length * 4 + 3, none⟩) g0 _
  · have := rowT_set (j := zs.length * 4 + 3) (by unfold VRow at hr4; rw [← hkk] at hr4; exact hkk ▸ hr4) (by rw [hlen]; omega) (.slice (some ⟨g2, 0, none⟩) (y.pk.length + 1) cap2)
    rw [vds_set3 zs y s _ (y.pk ++ [l]), hW] at this
    unfold VRow
    rw [hkk]
    rw [hlen] at this ⊢
    have e2 : (zs ++ [((⟨y.m, y.x, y.pk ++ [l]⟩ : Vd), (Value.slice (some ⟨g2, 0, none⟩) (y.pk.length + 1) cap2))]).length = zs.length + 1 := by simp
    rw [e2]
    exact this
  · have := h9 hown
    rw [← strsV_snoc] at this
    show W.ownsRow w0.heap.size 9 1 _ (y.pk ++ [l]).length (strsV (y.pk ++ [l]))
    rw [List.length_append]
    exact this
  · intro z hz b hb e
    cases hb
    rcases hat with h1 | h1
    · exact h.ne z hz _ h1 e
    · have h2 : g2 < w.heap.size := rowT_lt (h.all z hz) e
      omega

theorem Mid.done {w0 w w' : World} {ck M n P np : Nat} {ms : List Md} {v s : Value} {zs : List (Vd × Value)} {y : Vd} {pk : List Str} (h : Mid w0 w ck M n ms v zs y s P np pk) (hc : VCk w0 w' ck M n ms y.m.1 P y.pk.length y.pk.reverse) (hb : But P w w') : Rd1 w0 w' ck M n ms v zs y s P := by
  have same : ∀ {T : TypeId} {k m : Nat} {u : Value} {xs : List Value}, w.ownsRow w0.heap.size T k u m xs → w'.ownsRow w0.heap.size T k u m xs := fun hr => rowT_same hr fun b hbb => hb.block b (rowT_lt hr hbb) (fun e => by
    obtain ⟨_, cur, hcc⟩ := rowT hr hbb
    rw [e] at hcc
    exact mapS_not h.c.p hcc)
  exact ⟨hc, same h.row, fun z hz => same (h.all z hz), same h.last, h.ne⟩

theorem imp_at {w0 w : World} {ck M n P np : Nat} {ms : List Md} {v s : Value} {zs : List (Vd × Value)} {y : Vd} {pk : List Str} {l : Str} (hg : Gd w0) (h : Mid w0 w ck M n ms v zs ⟨y.m, y.x, y.pk ++ [l]⟩ s P np pk) (hpk : pk = y.pk.reverse) (hnp : y.pk.length = np) (hp : l.length < 4294967281) (hpa : y.m.1.length < 4294967281) (hn : y.pk.length ≤ 1000000) :
    Calls Tryz.prog 99 #[.pointer (some ⟨ck, 0, none⟩), .string (ba l)] w fun e w' => e = .returned (.int .i64 (impE y.m.1 y.pk.reverse l)) ∧ Below w0.heap.size w0 w' ∧ (impE y.m.1 y.pk.reverse l = 0 → Rd1 w0 w' ck M n ms v zs ⟨y.m, y.x, y.pk ++ [l]⟩ s P) := by
  subst hpk
  refine (imported_any hg h.c hp hpa (by omega)).mono ?_
  rintro e w' ⟨rfl, h1, h2⟩
  refine ⟨rfl, ?_, fun e0 => ?_⟩
  · by_cases e0 : impE y.m.1 y.pk.reverse l = 0
    · exact (h2 e0).1.c.low
    · exact h1 e0
  · obtain ⟨h3, h4⟩ := h2 e0
    refine h.done ?_ h4
    have e1 : (y.pk ++ [l]).length = np + 1 := by simp [hnp]
    have e2 : (y.pk ++ [l]).reverse = l :: y.pk.reverse := by simp
    show VCk w0 w' ck M n ms y.m.1 P (y.pk ++ [l]).length (y.pk ++ [l]).reverse
    rw [e1, e2]
    exact h3

set_option maxRecDepth 100000 in
set_option maxHeartbeats 8000000 in
theorem read_pkg {w0 w : World} {ck M n P : Nat} {ms : List Md} {v s : Value} {zs : List (Vd × Value)} {y : Vd} {l : Str} (hg : Gd w0) (h : Rd1 w0 w ck M n ms v zs y s P) (hz : zs.length ≤ 1000000) (hl : l.length < 4294967281) (hpa : y.m.1.length < 4294967281) (hpk : y.pk.length ≤ 1000000) (hm : modL l = none) (he : l ≠ explL) (hn : l ≠ []) (hh : Lib.hasPrefix l [35] = false) :
    Calls Tryz.prog 60 #[.pointer (some ⟨ck, 0, none⟩), v, .string (ba l)] w (PkgSaid w0 ck M n ms v zs y P l) := by
  have HR := hide (readModule_none hl (hg.low h.c.c.low) hm)
  obtain ⟨i0, hi, hz0, hz1, hz2⟩ := info_parts info9s
  have H := hide h
  have HG := hide hg
  have HH := hide (fun wx => hash_any l wx)
  rw [hh] at HH
  have hex : ¬ (ba l).toList = [35, 35, 32, 101, 120, 112, 108, 105, 99, 105, 116] := by rw [ba_list]; exact he
  have hex2 : ((ba l).toList == [35, 35, 32, 101, 120, 112, 108, 105, 99, 105, 116]) = false := by rw [beq_eq_false_iff_ne]; exact hex
  have hem : (ba l).toList.isEmpty = false := ba_ne hn
  have hem2 : ¬ (ba l).toList = [] := by rw [ba_list]; exact hn
  clear hm hg h he hn hh
  obtain ⟨g, gc, cur, rfl, _⟩ := (unhide H).at
  obtain ⟨q, hq⟩ : ∃ q, zs.length = q := ⟨_, rfl⟩
  rw [hq] at hz ⊢
  go_enter Tryz.func60, Tryz.ntmps60
  go_wp2_with (go_at_call 104; fail)
  refine (unhide HR).mono ?_
  rintro e w1 ⟨rfl, b1⟩
  obtain ⟨W, hW⟩ : ∃ W, w1.alloc (.cells (modC ([], [])) 36) = W := ⟨_, rfl⟩
  have bW : Below w.heap.size w W := by rw [← hW]; exact b1.alloc b1.size _
  have H1 := hide ((unhide H).on bW)
  have B1 := hide bW
  obtain ⟨g0, g1, _, c0, c1, c2, c3, fz⟩ := (unhide H1).cells hq
  have h0 : ((q : Int) + 1 == 0) = false := by simp; omega
  obtain ⟨pn, hpn⟩ : ∃ pn, y.pk.length = pn := ⟨_, rfl⟩
  obtain ⟨X, hX⟩ : ∃ X, W.alloc (.cells #[.string (ba l)] 9) = X := ⟨_, rfl⟩
  have bX : Below W.heap.size W X := by rw [← hX]; exact (Below.refl _ _).alloc (Nat.le_refl _) _
  have sX : X.heap.size = W.heap.size + 1 := by rw [← hX]; show (W.heap.push _).size = _; simp
  have kX : Blk X W.heap.size #[.string (ba l)] 9 := by rw [← hX]; exact Blk.new _ _ _
  have HX := hide ((unhide H1).on bX)
  have LX := hide (unhide HX).last
  rw [hpn] at LX
  have x3 : X.cell? ⟨g, q * 4 + 3, none⟩ = some s := ((unhide HX).cells hq).2.2.2.2.2.2.1
  have BX : Hid (w.heap.size ≤ X.heap.size ∧ w0.heap.size ≤ X.heap.size) := hide ⟨Nat.le_trans bW.size bX.size, (unhide HX).c.c.low.size⟩
  have HK := hide kX
  have HQ := hide hq
  have HPN := hide hpn
  have hone : ∀ u ∈ [Value.string (ba l)], u.oneCell' = true := by simp [Value.oneCell']
  have hpk2 : pn ≤ 1000000 := by omega
  have HXE := hide hX
  have HC3 := hide (And.intro c3 x3)
  clear b1 bW hq g0 g1 fz bX kX hpn hpk hX x3 sX
  go_wp2_with (go_at_call 106; fail)
  refine (unhide HH _).mono ?_
  rintro e w3 ⟨rfl, hw⟩
  rw [hw]; clear hw w3
  go_wp2_with (at_builtin; go_loud (rw [unhide HXE]; refine wpList_append_lies _ rfl _ _ 69 rfl w0.heap.size 9 i0 _ 1 16 Tryz.underlying69 hi hz0 hz1 hz2 rfl (by omega) s pn _ rfl (unhide LX) ⟨W.heap.size, 0, none⟩ 1 1 [.string (ba l)] rfl rfl (World.news_of_block (cs := #[.string (ba l)]) (t := 9) (fr := (0, 0)) (unhide HK)) hone (by omega) (by unfold maxLen; omega) (by omega) (unhide BX).2 _ rfl ?_; intro g2 cap2 w4 hown4 hgrow hat hlt4; obtain ⟨y3, yf⟩ := (unhide HX).slot (unhide HQ) hgrow; have HM := hide ((unhide HX).put (unhide HQ) (unhide HPN) hown4 hgrow hat); have Z4 : Hid (w.heap.size ≤ w4.heap.size) := hide (Nat.le_trans (unhide BX).1 hgrow.size); clear hown4 hgrow hat hlt4))
  all_goals
    have HI := hide (imp_at (y := y) (unhide HG) (unhide HM) rfl (unhide HPN) hl hpa (by have := unhide HPN; omega))
    go_wp2_with (go_at_call 99; fail)
    refine (unhide HI).mono ?_
    rintro e w5 ⟨rfl, h5, h6⟩
    have H5 : Hid _ := hide h5
    have H6 : Hid _ := hide h6
    clear h5 h6
    go_wp2
    go_ret2
    exact ⟨rfl, unhide H5, fun e0 => ⟨_, by have h7 := unhide H6 e0; rw [unhide HQ] at h7; exact h7⟩⟩

end Go.Proofs.YthcafeoamabkgaaGreatDoor
