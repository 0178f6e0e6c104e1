/-
  A line of a lock, read and checked.
-/
import Derived.Test.YthcafeoamabkgaaGreatDoorReadA
namespace Go.Proofs.YthcafeoamabkgaaGreatDoor
open Go.RowKit Go.WideMaps Go.Maps

set_option maxRecDepth 100000 in
set_option maxHeartbeats 8000000 in
theorem read_none {w0 w : World} {ck c M n : Nat} {ks : List En} {a : Option Addr} {m cap : Nat} {l : Str} (hg : Gd w0) (h : PSt w0 w ck c M n ks) (hl : l.length < 4294967281) (hr : lineR l = none) :
    Calls Tryz.prog 51 #[.slice a m cap, .string (ba l), .pointer (some ⟨ck, 0, none⟩)] w fun e w' => e = .returned (.tuple #[.slice none 0 0, .int .i64 11]) ∧ Below w.heap.size w w' := by
  have HR := hide (readLine_any hl (h.gd hg))
  rw [hr] at HR
  clear hr h hg
  go_enter Tryz.func51, Tryz.ntmps51
  go_wp2_with (go_at_call 52; fail)
  refine (unhide HR).mono ?_
  rintro e w1 ⟨rfl, b1⟩
  have HB := hide (b1.alloc b1.size (.cells (lnC noLn) 38))
  clear b1
  go_wp2
  go_ret2
  exact ⟨rfl, unhide HB⟩

/-- What is read of a good line. -/
def ReadSaid (w0 : World) (ck c M n : Nat) (ks : List En) (xs : List Ln) (x : Ln) (w : World) (e : Ending) (w' : World) : Prop :=
  ∃ v', e = .returned (.tuple #[v', .int .i64 (checkE ks x)]) ∧ Lines w0.heap.size w' v' (xs ++ [x]) ∧ PSt w0 w' ck c M (n + 1) (checkK ks x) ∧ w.heap.size ≤ w'.heap.size

theorem check_at {w0 w : World} {ck c M n : Nat} {ks : List En} {x : Ln} (hg : Gd w0) (h : PSt w0 w ck c M n ks) (hx : LnOk x) (hn : n ≤ 1000000) :
    Calls Tryz.prog 84 #[.agg #[.string (ba x.p), .string (ba x.v), .int .i64 x.k, .string (ba x.s)], .pointer (some ⟨c, 0, none⟩)] w fun e w' => e = .returned (.int .i64 (checkE ks x)) ∧ PSt w0 w' ck c M (n + 1) (checkK ks x) ∧ But M w w' := by
  refine (check_any (h.gd hg) (h.mc.cell 0) h.set hx hn).mono ?_
  rintro e w' ⟨rfl, h1, h2⟩
  exact ⟨rfl, h.checked h1 h2, h2⟩

theorem lines_snoc {base : Nat} {w : World} {v : Value} {xs : List Ln} {x : Ln} (h : w.ownsRow base 38 4 v (xs.length + 1) (lnsV xs ++ (lnC x).toList)) : Lines base w v (xs ++ [x]) := by
  unfold Lines
  rw [lnsV_append, List.length_append]
  exact h

/-- The cells of a line that lies in a block. -/
abbrev LineIn (w : World) (b : Nat) (x : Ln) : Prop := w.cell? ⟨b, 0, none⟩ = some (.string (ba x.p)) ∧ w.cell? ⟨b, 1, none⟩ = some (.string (ba x.v)) ∧ w.cell? ⟨b, 2, none⟩ = some (.int .i64 x.k) ∧ w.cell? ⟨b, 3, none⟩ = some (.string (ba x.s))
theorem Blk.line {w : World} {b : Nat} {x : Ln} (h : Blk w b (lnC x) 38) : LineIn w b x := ⟨h.cell 0, h.cell 1, h.cell 2, h.cell 3⟩

set_option maxRecDepth 100000 in
set_option maxHeartbeats 8000000 in
theorem read_some {w0 w : World} {ck c M n : Nat} {ks : List En} {v : Value} {xs : List Ln} {l : Str} {x : Ln} (hg : Gd w0) (h : PSt w0 w ck c M n ks) (hrow : Lines w0.heap.size w v xs) (hl : l.length < 4294967281) (hr : lineR l = some x) (hx : LnOk x) (hn : n ≤ 1000000) (hm : xs.length ≤ 1000000) :
    Calls Tryz.prog 51 #[v, .string (ba l), .pointer (some ⟨ck, 0, none⟩)] w (ReadSaid w0 ck c M n ks xs x w) := by
  have HR := hide (readLine_any hl (h.gd hg))
  rw [hr] at HR
  obtain ⟨i0, hi, hz0, hz1, hz2⟩ := info_parts info38
  have HG := hide hg
  have H := hide h
  have HO := hide hrow
  have HX := hide hx
  clear hr h hg hrow hx
  go_enter Tryz.func51, Tryz.ntmps51
  go_wp2_with (go_at_call 52; fail)
  refine (unhide HR).mono ?_
  rintro e w1 ⟨rfl, b1⟩
  obtain ⟨W, hW⟩ : ∃ W, w1.alloc (.cells (lnC x) 38) = W := ⟨_, rfl⟩
  have bW : Below w.heap.size w W := by rw [← hW]; exact b1.alloc b1.size _
  have kW : Blk W w1.heap.size (lnC x) 38 := by rw [← hW]; exact Blk.new _ _ _
  have PW := hide ((unhide H).on bW)
  have OW := hide (row_low (unhide HO) bW)
  have HNE : Hid (some w1.heap.size ≠ v.ownBlock ∧ some W.heap.size ≠ v.ownBlock) := by
    have h1 := b1.size
    have h2 := bW.size
    exact ⟨fun e => by have := ((unhide HO).lt _ e.symm).2; omega, fun e => by have := ((unhide HO).lt _ e.symm).2; omega⟩
  have HSZ : Hid (w0.heap.size ≤ W.heap.size ∧ w.heap.size ≤ W.heap.size) := ⟨(unhide PW).low.size, bW.size⟩
  obtain ⟨q0, q1, q2, q3⟩ := kW.line
  have q4 : W.cell? ⟨ck, 0, none⟩ = some (.func (.func 84) #[] #[.pointer (some ⟨c, 0, none⟩)]) := (unhide PW).kc.cell 0
  have u0 : ∀ o, (W.alloc o).cell? ⟨w1.heap.size, 0, none⟩ = some (.string (ba x.p)) := fun o => (kW.alloc o).cell 0
  have u1 : ∀ o, (W.alloc o).cell? ⟨w1.heap.size, 1, none⟩ = some (.string (ba x.v)) := fun o => (kW.alloc o).cell 1
  have u2 : ∀ o, (W.alloc o).cell? ⟨w1.heap.size, 2, none⟩ = some (.int .i64 x.k) := fun o => (kW.alloc o).cell 2
  have u3 : ∀ o, (W.alloc o).cell? ⟨w1.heap.size, 3, none⟩ = some (.string (ba x.s)) := fun o => (kW.alloc o).cell 3
  have u4 : ∀ o, (W.alloc o).cell? ⟨ck, 0, none⟩ = some (.func (.func 84) #[] #[.pointer (some ⟨c, 0, none⟩)]) := fun o => ((unhide PW).alloc o).kc.cell 0
  have HK := hide kW
  clear b1 bW kW H HO HR
  have hmm : (xs.length + 1) * 56 ≤ 140737488355328 := by omega
  have hone : ∀ u ∈ (lnC x).toList, u.oneCell' = true := by simp [Value.oneCell']
  go_wp2
  go_region_law (first
    | (refine step_append_lies _ (by rfl) _ _ _ (by rfl) w0.heap.size 38 i0 _ 4 56 Tryz.underlying22 hi hz0 hz1 hz2 rfl (by omega) v xs.length _ (by rfl) ((unhide OW).drew.alloc _) ⟨W.heap.size, 0, none⟩ 1 1 (lnC x).toList (by rfl) (by rfl) (World.news_of_block (cs := lnC x) (t := 38) (fr := (0, 0)) (heap_new W.drew _)) hone (by omega) (by unfold maxLen; omega) hmm (by show w0.heap.size ≤ (W.heap.push _).size; rw [Array.size_push]; have := (unhide HSZ).1; omega) (W.heap.size + 1) (by show (W.heap.push _).size = _; simp) ?_; intro g cap w4 hown4 hgrow hat hlt4; have P4 := hide (((unhide PW).drew.alloc _).grown ((unhide OW).drew.alloc _) hgrow); obtain ⟨y0, y1, y2, y3⟩ := (Blk.grown (Blk.alloc (w := W.drew) (unhide HK) _) ((unhide OW).drew.alloc _) (unhide HNE).1 hgrow).line; have y4 : w4.cell? ⟨ck, 0, none⟩ = some (.func (.func 84) #[] #[.pointer (some ⟨c, 0, none⟩)]) := (unhide P4).kc.cell 0; have O4 := hide hown4; have Z4 : Hid (w.heap.size ≤ w4.heap.size) := Nat.le_trans (unhide HSZ).2 (Nat.le_trans (by show W.heap.size ≤ (W.heap.push _).size; rw [Array.size_push]; omega) hgrow.size); clear hown4 hgrow hat)
    | (refine step_append_lies _ (by rfl) _ _ _ (by rfl) w0.heap.size 38 i0 _ 4 56 Tryz.underlying22 hi hz0 hz1 hz2 rfl (by omega) v xs.length _ (by rfl) (unhide R5) ⟨W.heap.size, 0, none⟩ 1 1 (lnC x).toList (by rfl) (by rfl) (World.news_of_block (cs := lnC x) (t := 38) (fr := (0, 0)) (unhide K5)) hone (by omega) (by unfold maxLen; omega) hmm (unhide P5).low.size _ rfl ?_; intro g cap w4 hown4 hgrow hat hlt4; have PF := hide ((unhide P5).grown (unhide R5) hgrow); have OF := hide hown4; have ZF : Hid (w.heap.size ≤ w4.heap.size) := Nat.le_trans (unhide Z5) hgrow.size; clear hown4 hgrow hat)
    | (refine step_append_lies _ (by rfl) _ _ _ (by rfl) w0.heap.size 38 i0 _ 4 56 Tryz.underlying22 hi hz0 hz1 hz2 rfl (by omega) v xs.length _ (by rfl) ((unhide R5).alloc _) ⟨w5.heap.size, 0, none⟩ 1 1 (lnC x).toList (by rfl) (by rfl) (World.news_of_block (cs := lnC x) (t := 38) (fr := (0, 0)) (heap_new w5 _)) hone (by omega) (by unfold maxLen; omega) hmm ((unhide P5).alloc _).low.size _ rfl ?_; intro g cap w4 hown4 hgrow hat hlt4; have PF := hide (((unhide P5).alloc _).grown ((unhide R5).alloc _) hgrow); have OF := hide hown4; have ZF : Hid (w.heap.size ≤ w4.heap.size) := Nat.le_trans (Nat.le_trans (unhide Z5) ((Below.refl w5.heap.size w5).alloc (Nat.le_refl _) _).size) hgrow.size; clear hown4 hgrow hat)
    | (go_simp; refine (check_at (unhide HG) (unhide P4) (unhide HX) hn).mono ?_; rintro e w5 ⟨rfl, p5, k5⟩; have PF := hide p5; have OF := hide (row_but (unhide O4) (unhide P4).set k5); have ZF : Hid (w.heap.size ≤ w5.heap.size) := Nat.le_trans (unhide Z4) k5.size; clear p5 k5)
    | (go_simp; refine (check_at (unhide HG) ((unhide PW).drew.alloc _) (unhide HX) hn).mono ?_; rintro e w5 ⟨rfl, p5, k5⟩; have P5 := hide p5; have R5 := hide (row_but ((unhide OW).drew.alloc _) ((unhide PW).drew.alloc _).set k5); have K5 := hide (Blk.but (Blk.new W.drew (lnC x) 38) ((unhide PW).drew.alloc _).set k5); have Z5 : Hid (w.heap.size ≤ w5.heap.size) := Nat.le_trans (unhide HSZ).2 (Nat.le_trans (by show W.heap.size ≤ (W.heap.push _).size; rw [Array.size_push]; omega) k5.size); clear p5 k5)
    | (go_simp; refine (check_at (unhide HG) (unhide PW).drew (unhide HX) hn).mono ?_; rintro e w5 ⟨rfl, p5, k5⟩; have P5 := hide p5; have R5 := hide (row_but (unhide OW).drew (unhide PW).drew.set k5); obtain ⟨y0, y1, y2, y3⟩ := (Blk.but (w := W.drew) (unhide HK) (unhide PW).drew.set k5).line; have Z5 : Hid (w.heap.size ≤ w5.heap.size) := Nat.le_trans (unhide HSZ).2 k5.size; clear p5 k5))
  all_goals
    go_wp2
    go_ret2
    exact ⟨_, rfl, lines_snoc (unhide OF), unhide PF, unhide ZF⟩

end Go.Proofs.YthcafeoamabkgaaGreatDoor
