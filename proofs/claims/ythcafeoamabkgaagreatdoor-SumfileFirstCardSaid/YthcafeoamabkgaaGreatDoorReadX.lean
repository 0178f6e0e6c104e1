/-
  A lock, read line by line.
-/
import Derived.Test.YthcafeoamabkgaaGreatDoorSetX
import Derived.Deep.AppendLies
import Derived.Deep.RegionLaw
import Derived.Carry
import Derived.OwnWalk
namespace Go.Proofs.YthcafeoamabkgaaGreatDoor
open Go.RowKit Go.WideMaps Go.Maps

def lnsV : List Ln → List Value
  | [] => []
  | x :: xs => .string (ba x.p) :: .string (ba x.v) :: .int .i64 x.k :: .string (ba x.s) :: lnsV xs
theorem lnsV_append (l m : List Ln) : lnsV (l ++ m) = lnsV l ++ lnsV m := by
  induction l with
  | nil => rfl
  | cons x l ih => simp [lnsV, ih]
theorem lnsV_length (l : List Ln) : (lnsV l).length = l.length * 4 := by
  induction l with
  | nil => rfl
  | cons x l ih => simp [lnsV, ih]; omega

abbrev ckC (c : Nat) : Array Value := #[.func (.func 84) #[] #[.pointer (some ⟨c, 0, none⟩)]]

/-- The check and its set, in a world that has grown out of another. -/
structure PSt (w0 w : World) (ck c M n : Nat) (ks : List En) : Prop where
  low : Below w0.heap.size w0 w
  kc : Blk w ck (ckC c) 82
  mc : Blk w c #[.map (some M)] 132
  set : SetAt w M n ks
  far : w0.heap.size ≤ M

theorem PSt.on {w0 w w' : World} {ck c M n : Nat} {ks : List En} (h : PSt w0 w ck c M n ks) (b : Below w.heap.size w w') : PSt w0 w' ck c M n ks :=
  ⟨h.low.trans (b.mono h.low.size), h.kc.low b, h.mc.low b, h.set.low b, h.far⟩
theorem PSt.drew {w0 w : World} {ck c M n : Nat} {ks : List En} (h : PSt w0 w ck c M n ks) : PSt w0 w.drew ck c M n ks := h.on (Below.refl _ _).drew
theorem PSt.alloc {w0 w : World} {ck c M n : Nat} {ks : List En} (h : PSt w0 w ck c M n ks) (o : Obj) : PSt w0 (w.alloc o) ck c M n ks := h.on ((Below.refl _ _).alloc (Nat.le_refl _) o)
theorem PSt.gd {w0 w : World} {ck c M n : Nat} {ks : List En} (h : PSt w0 w ck c M n ks) (hg : Gd w0) : Gd w := hg.low h.low

theorem map_not {w : World} {M n : Nat} {ks : List En} (h : SetAt w M n ks) {cs : Array Value} {t : TypeId} : ¬ w.heap[M]? = some (.cells cs t (0, 0)) := by
  obtain ⟨D, ⟨es, clock, hb, _⟩, _⟩ := h.own
  rw [hb]; simp

/-- The row of a list of lines. -/
abbrev Lines (base : Nat) (w : World) (v : Value) (xs : List Ln) : Prop := w.ownsRow base 38 4 v xs.length (lnsV xs)

theorem row38 {w : World} {base n : Nat} {v : Value} {xs : List Value} {g : Nat} (h : w.ownsRow base 38 4 v n xs) (hg : v.ownBlock = some g) : base ≤ g ∧ ∃ cur, w.heap[g]? = some (.cells cur 38 (0, 0)) := by
  rcases h.2 with ⟨rfl, _⟩ | ⟨g', cap, cur, rfl, hb, hh, _⟩
  · cases hg
  · cases hg; exact ⟨hb, cur, hh⟩

theorem PSt.grown {w0 w w' : World} {ck c M n : Nat} {ks : List En} {v : Value} {m : Nat} {xs : List Value} (h : PSt w0 w ck c M n ks) (hr : w.ownsRow w0.heap.size 38 4 v m xs) (hg : w.grownBy w' v.ownBlock) : PSt w0 w' ck c M n ks := by
  have hne : ∀ b cs t, w.heap[b]? = some (.cells cs t (0, 0)) → t ≠ 38 → some b ≠ v.ownBlock := by
    intro b cs t hb ht e
    obtain ⟨_, cur, hc⟩ := row38 hr e.symm
    rw [hb] at hc
    simp at hc
    exact ht hc.2
  have hM : some M ≠ v.ownBlock := by
    intro e
    obtain ⟨_, cur, hc⟩ := row38 hr e.symm
    exact map_not h.set hc
  refine ⟨h.low.grown hg h.low.size (fun k hk => (row38 hr hk).1), ?_, ?_, h.set.same (hg.block M h.set.lt hM), h.far⟩
  · exact (hg.block ck h.kc.lt (hne _ _ _ h.kc (by decide))).trans h.kc
  · exact (hg.block c h.mc.lt (hne _ _ _ h.mc (by decide))).trans h.mc

theorem PSt.checked {w0 w w' : World} {ck c M n : Nat} {ks ks' : List En} (h : PSt w0 w ck c M n ks) (hs : SetAt w' M (n + 1) ks') (hb : But M w w') : PSt w0 w' ck c M (n + 1) ks' := by
  have hne : ∀ b cs t, w.heap[b]? = some (.cells cs t (0, 0)) → b ≠ M := by
    intro b cs t hbb e
    subst e
    exact map_not h.set hbb
  exact ⟨hb.low h.low h.low.size h.far, (hb.block ck h.kc.lt (hne _ _ _ h.kc)).trans h.kc, (hb.block c h.mc.lt (hne _ _ _ h.mc)).trans h.mc, hs, h.far⟩

theorem row_but {w w' : World} {M n m base : Nat} {ks : List En} {v : Value} {xs : List Value} (hr : w.ownsRow base 38 4 v m xs) (hs : SetAt w M n ks) (hb : But M w w') : w'.ownsRow base 38 4 v m xs := by
  refine ⟨hr.1, hr.2.imp id ?_⟩
  rintro ⟨g, cap, cur, h1, h2, h3, h4⟩
  exact ⟨g, cap, cur, h1, h2, (hb.block g (Array.getElem?_eq_some_iff.1 h3).1 (fun e => map_not hs (e ▸ h3))).trans h3, h4⟩
theorem row_low {w w' : World} {m base : Nat} {v : Value} {xs : List Value} (hr : w.ownsRow base 38 4 v m xs) (hb : Below w.heap.size w w') : w'.ownsRow base 38 4 v m xs := by
  refine ⟨hr.1, hr.2.imp id ?_⟩
  rintro ⟨g, cap, cur, h1, h2, h3, h4⟩
  exact ⟨g, cap, cur, h1, h2, (hb.block g (Array.getElem?_eq_some_iff.1 h3).1).trans h3, h4⟩

theorem Blk.but {w w' : World} {M n : Nat} {ks : List En} {b : Nat} {cs : Array Value} {t : TypeId} (h : Blk w b cs t) (hs : SetAt w M n ks) (hb : But M w w') : Blk w' b cs t :=
  (hb.block b h.lt (fun e => map_not hs (e ▸ h))).trans h
theorem Blk.grown {w w' : World} {base m : Nat} {v : Value} {xs : List Value} {b : Nat} {cs : Array Value} {t : TypeId} (h : Blk w b cs t) (hr : w.ownsRow base 38 4 v m xs) (hne : some b ≠ v.ownBlock) (hg : w.grownBy w' v.ownBlock) : Blk w' b cs t := by
  have := hr
  exact (hg.block b h.lt hne).trans h

theorem info38 : (Tryz.prog.info? 38).map (fun i => (i.zero, i.size, i.bytes)) = some (some (.agg #[.string ⟨#[]⟩, .string ⟨#[]⟩, .int .i64 0, .string ⟨#[]⟩]), 4, 56) := by kernel_rfl

end Go.Proofs.YthcafeoamabkgaaGreatDoor

namespace Go.Proofs.YthcafeoamabkgaaGreatDoor
open Go.RowKit Go.WideMaps Go.Maps

set_option maxRecDepth 100000 in
set_option maxHeartbeats 8000000 in
theorem read_none {w0 w : World} {ck c M n : Nat} {ks : List En} {a : Option Addr} {m cap : Nat} {l : Str} (hg : Gd w0) (h : PSt w0 w ck c M n ks) (hl : l.length < 4294967281) (hr : lineR l = none) :
    Calls Tryz.prog 51 #[.slice a m cap, .string (ba l), .pointer (some ⟨ck, 0, none⟩)] w fun e w' => e = .returned (.tuple #[.slice none 0 0, .int .i64 11]) ∧ Below w.heap.size w w' := by
  have HR := hide (readLine_any hl (h.gd hg))
  rw [hr] at HR
  clear hr h hg
  go_enter Tryz.func51, Tryz.ntmps51
  go_wp2_with (go_at_call 52; fail)
  refine (unhide HR).mono ?_
  rintro e w1 ⟨rfl, b1⟩
  have HB := hide (b1.alloc b1.size (.cells (lnC noLn) 38))
  clear b1
  go_wp2
  go_ret2
  exact ⟨rfl, unhide HB⟩

/-- What is read of a good line. -/
def ReadSaid (w0 : World) (ck c M n : Nat) (ks : List En) (xs : List Ln) (x : Ln) (w : World) (e : Ending) (w' : World) : Prop :=
  ∃ v', e = .returned (.tuple #[v', .int .i64 (checkE ks x)]) ∧ Lines w0.heap.size w' v' (xs ++ [x]) ∧ PSt w0 w' ck c M (n + 1) (checkK ks x) ∧ w.heap.size ≤ w'.heap.size

theorem check_at {w0 w : World} {ck c M n : Nat} {ks : List En} {x : Ln} (hg : Gd w0) (h : PSt w0 w ck c M n ks) (hx : LnOk x) (hn : n ≤ 1000000) :
    Calls Tryz.prog 84 #[.agg #[.string (ba x.p), .string (ba x.v), .int .i64 x.k, .string (ba x.s)], .pointer (some ⟨c, 0, none⟩)] w fun e w' => e = .returned (.int .i64 (checkE ks x)) ∧ PSt w0 w' ck c M (n + 1) (checkK ks x) ∧ But M w w' := by
  refine (check_any (h.gd hg) (h.mc.cell 0) h.set hx hn).mono ?_
  rintro e w' ⟨rfl, h1, h2⟩
  exact ⟨rfl, h.checked h1 h2, h2⟩

theorem lines_snoc {base : Nat} {w : World} {v : Value} {xs : List Ln} {x : Ln} (h : w.ownsRow base 38 4 v (xs.length + 1) (lnsV xs ++ (lnC x).toList)) : Lines base w v (xs ++ [x]) := by
  unfold Lines
  rw [lnsV_append, List.length_append]
  exact h

/-- The cells of a line that lies in a block. -/
abbrev LineIn (w : World) (b : Nat) (x : Ln) : Prop := w.cell? ⟨b, 0, none⟩ = some (.string (ba x.p)) ∧ w.cell? ⟨b, 1, none⟩ = some (.string (ba x.v)) ∧ w.cell? ⟨b, 2, none⟩ = some (.int .i64 x.k) ∧ w.cell? ⟨b, 3, none⟩ = some (.string (ba x.s))
theorem Blk.line {w : World} {b : Nat} {x : Ln} (h : Blk w b (lnC x) 38) : LineIn w b x := ⟨h.cell 0, h.cell 1, h.cell 2, h.cell 3⟩

set_option maxRecDepth 100000 in
set_option maxHeartbeats 8000000 in
theorem read_some {w0 w : World} {ck c M n : Nat} {ks : List En} {v : Value} {xs : List Ln} {l : Str} {x : Ln} (hg : Gd w0) (h : PSt w0 w ck c M n ks) (hrow : Lines w0.heap.size w v xs) (hl : l.length < 4294967281) (hr : lineR l = some x) (hx : LnOk x) (hn : n ≤ 1000000) (hm : xs.length ≤ 1000000) :
    Calls Tryz.prog 51 #[v, .string (ba l), .pointer (some ⟨ck, 0, none⟩)] w (ReadSaid w0 ck c M n ks xs x w) := by
  have HR := hide (readLine_any hl (h.gd hg))
  rw [hr] at HR
  obtain ⟨i0, hi, hz0, hz1, hz2⟩ := info_parts info38
  have HG := hide hg
  have H := hide h
  have HO := hide hrow
  have HX := hide hx
  clear hr h hg hrow hx
  go_enter Tryz.func51, Tryz.ntmps51
  go_wp2_with (go_at_call 52; fail)
  refine (unhide HR).mono ?_
  rintro e w1 ⟨rfl, b1⟩
  obtain ⟨W, hW⟩ : ∃ W, w1.alloc (.cells (lnC x) 38) = W := ⟨_, rfl⟩
  have bW : Below w.heap.size w W := by rw [← hW]; exact b1.alloc b1.size _
  have kW : Blk W w1.heap.size (lnC x) 38 := by rw [← hW]; exact Blk.new _ _ _
  have PW := hide ((unhide H).on bW)
  have OW := hide (row_low (unhide HO) bW)
  have HNE : Hid (some w1.heap.size ≠ v.ownBlock ∧ some W.heap.size ≠ v.ownBlock) := by
    have h1 := b1.size
    have h2 := bW.size
    exact ⟨fun e => by have := ((unhide HO).lt _ e.symm).2; omega, fun e => by have := ((unhide HO).lt _ e.symm).2; omega⟩
  have HSZ : Hid (w0.heap.size ≤ W.heap.size ∧ w.heap.size ≤ W.heap.size) := ⟨(unhide PW).low.size, bW.size⟩
  obtain ⟨q0, q1, q2, q3⟩ := kW.line
  have q4 : W.cell? ⟨ck, 0, none⟩ = some (.func (.func 84) #[] #[.pointer (some ⟨c, 0, none⟩)]) := (unhide PW).kc.cell 0
  have u0 : ∀ o, (W.alloc o).cell? ⟨w1.heap.size, 0, none⟩ = some (.string (ba x.p)) := fun o => (kW.alloc o).cell 0
  have u1 : ∀ o, (W.alloc o).cell? ⟨w1.heap.size, 1, none⟩ = some (.string (ba x.v)) := fun o => (kW.alloc o).cell 1
  have u2 : ∀ o, (W.alloc o).cell? ⟨w1.heap.size, 2, none⟩ = some (.int .i64 x.k) := fun o => (kW.alloc o).cell 2
  have u3 : ∀ o, (W.alloc o).cell? ⟨w1.heap.size, 3, none⟩ = some (.string (ba x.s)) := fun o => (kW.alloc o).cell 3
  have u4 : ∀ o, (W.alloc o).cell? ⟨ck, 0, none⟩ = some (.func (.func 84) #[] #[.pointer (some ⟨c, 0, none⟩)]) := fun o => ((unhide PW).alloc o).kc.cell 0
  have HK := hide kW
  clear b1 bW kW H HO HR
  have hmm : (xs.length + 1) * 56 ≤ 140737488355328 := by omega
  have hone : ∀ u ∈ (lnC x).toList, u.oneCell' = true := by simp [Value.oneCell']
  go_wp2
  go_region_law (first
    | (refine step_append_lies _ (by rfl) _ _ _ (by rfl) w0.heap.size 38 i0 _ 4 56 Tryz.underlying22 hi hz0 hz1 hz2 rfl (by omega) v xs.length _ (by rfl) ((unhide OW).drew.alloc _) ⟨W.heap.size, 0, none⟩ 1 1 (lnC x).toList (by rfl) (by rfl) (World.news_of_block (cs := lnC x) (t := 38) (fr := (0, 0)) (heap_new W.drew _)) hone (by omega) (by unfold maxLen; omega) hmm (by show w0.heap.size ≤ (W.heap.push _).size; rw [Array.size_push]; have := (unhide HSZ).1; omega) (W.heap.size + 1) (by show (W.heap.push _).size = _; simp) ?_; intro g cap w4 hown4 hgrow hat hlt4; have P4 := hide (((unhide PW).drew.alloc _).grown ((unhide OW).drew.alloc _) hgrow); obtain ⟨y0, y1, y2, y3⟩ := (Blk.grown (Blk.alloc (w := W.drew) (unhide HK) _) ((unhide OW).drew.alloc _) (unhide HNE).1 hgrow).line; have y4 : w4.cell? ⟨ck, 0, none⟩ = some (.func (.func 84) #[] #[.pointer (some ⟨c, 0, none⟩)]) := (unhide P4).kc.cell 0; have O4 := hide hown4; have Z4 : Hid (w.heap.size ≤ w4.heap.size) := Nat.le_trans (unhide HSZ).2 (Nat.le_trans (by show W.heap.size ≤ (W.heap.push _).size; rw [Array.size_push]; omega) hgrow.size); clear hown4 hgrow hat)
    | (refine step_append_lies _ (by rfl) _ _ _ (by rfl) w0.heap.size 38 i0 _ 4 56 Tryz.underlying22 hi hz0 hz1 hz2 rfl (by omega) v xs.length _ (by rfl) (unhide R5) ⟨W.heap.size, 0, none⟩ 1 1 (lnC x).toList (by rfl) (by rfl) (World.news_of_block (cs := lnC x) (t := 38) (fr := (0, 0)) (unhide K5)) hone (by omega) (by unfold maxLen; omega) hmm (unhide P5).low.size _ rfl ?_; intro g cap w4 hown4 hgrow hat hlt4; have PF := hide ((unhide P5).grown (unhide R5) hgrow); have OF := hide hown4; have ZF : Hid (w.heap.size ≤ w4.heap.size) := Nat.le_trans (unhide Z5) hgrow.size; clear hown4 hgrow hat)
    | (refine step_append_lies _ (by rfl) _ _ _ (by rfl) w0.heap.size 38 i0 _ 4 56 Tryz.underlying22 hi hz0 hz1 hz2 rfl (by omega) v xs.length _ (by rfl) ((unhide R5).alloc _) ⟨w5.heap.size, 0, none⟩ 1 1 (lnC x).toList (by rfl) (by rfl) (World.news_of_block (cs := lnC x) (t := 38) (fr := (0, 0)) (heap_new w5 _)) hone (by omega) (by unfold maxLen; omega) hmm ((unhide P5).alloc _).low.size _ rfl ?_; intro g cap w4 hown4 hgrow hat hlt4; have PF := hide (((unhide P5).alloc _).grown ((unhide R5).alloc _) hgrow); have OF := hide hown4; have ZF : Hid (w.heap.size ≤ w4.heap.size) := Nat.le_trans (Nat.le_trans (unhide Z5) ((Below.refl w5.heap.size w5).alloc (Nat.le_refl _) _).size) hgrow.size; clear hown4 hgrow hat)
    | (go_simp; refine (check_at (unhide HG) (unhide P4) (unhide HX) hn).mono ?_; rintro e w5 ⟨rfl, p5, k5⟩; have PF := hide p5; have OF := hide (row_but (unhide O4) (unhide P4).set k5); have ZF : Hid (w.heap.size ≤ w5.heap.size) := Nat.le_trans (unhide Z4) k5.size; clear p5 k5)
    | (go_simp; refine (check_at (unhide HG) ((unhide PW).drew.alloc _) (unhide HX) hn).mono ?_; rintro e w5 ⟨rfl, p5, k5⟩; have P5 := hide p5; have R5 := hide (row_but ((unhide OW).drew.alloc _) ((unhide PW).drew.alloc _).set k5); have K5 := hide (Blk.but (Blk.new W.drew (lnC x) 38) ((unhide PW).drew.alloc _).set k5); have Z5 : Hid (w.heap.size ≤ w5.heap.size) := Nat.le_trans (unhide HSZ).2 (Nat.le_trans (by show W.heap.size ≤ (W.heap.push _).size; rw [Array.size_push]; omega) k5.size); clear p5 k5)
    | (go_simp; refine (check_at (unhide HG) (unhide PW).drew (unhide HX) hn).mono ?_; rintro e w5 ⟨rfl, p5, k5⟩; have P5 := hide p5; have R5 := hide (row_but (unhide OW).drew (unhide PW).drew.set k5); obtain ⟨y0, y1, y2, y3⟩ := (Blk.but (w := W.drew) (unhide HK) (unhide PW).drew.set k5).line; have Z5 : Hid (w.heap.size ≤ w5.heap.size) := Nat.le_trans (unhide HSZ).2 k5.size; clear p5 k5))
  all_goals
    go_wp2
    go_ret2
    exact ⟨_, rfl, lines_snoc (unhide OF), unhide PF, unhide ZF⟩

end Go.Proofs.YthcafeoamabkgaaGreatDoor

namespace Go.Proofs.YthcafeoamabkgaaGreatDoor
open Go.RowKit Go.WideMaps Go.Maps

/-- The lines of a lock, read on: what is checked, what is read, the line's number, the text that is left. -/
def readR : Nat → List En → List Ln → Nat → Str → List Ln × Nat × Int
  | 0, _, xs, _, _ => (xs, 0, 0)
  | f + 1, ks, xs, k, t =>
    if t = [] then (xs, 0, 0)
    else match lineR (ahead 10 t) with
      | none => ([], k, 11)
      | some x =>
        if ¬ checkE ks x = 0 then ([], k, checkE ks x)
        else if t.contains 10 = true then readR f (checkK ks x) (xs ++ [x]) (k + 1) (behind 10 t)
        else ([], k, 11)

theorem set_new (w : World) : SetAt (w.alloc (.map #[] 0)) w.heap.size 0 [] :=
  ⟨⟨.map [], World.ownsMap_made w Tryz.prog 93 heldR, fun x _ => by simp [Maps.has], fun x _ => by rfl⟩⟩

theorem lineCheck_any (w : World) : Calls Tryz.prog 45 #[] w fun e w' => e = .returned (.func (.func 84) #[] #[.pointer (some ⟨w.heap.size + 1, 0, none⟩)]) ∧ Blk w' (w.heap.size + 1) #[.map (some w.heap.size)] 132 ∧ SetAt w' w.heap.size 0 [] ∧ Below w.heap.size w w' := by
  have HS := hide (set_new w)
  have hsz : (w.alloc (.map #[] 0)).heap.size = w.heap.size + 1 := by show (w.heap.push _).size = _; simp
  have hmk := run_makeMap (P := Tryz.prog) 132 w
  go_enter Tryz.func45, Tryz.ntmps45
  go_wp2
  go_ret
  have b := (Below.refl w.heap.size w).alloc (Nat.le_refl _) (.map #[] 0)
  refine ⟨by simp, ?_, (unhide HS).low ((Below.refl _ _).alloc (Nat.le_refl _) _), b.alloc b.size _⟩
  have := Blk.new (w.alloc (.map #[] 0)) #[.map (some w.heap.size)] 132
  rw [hsz] at this
  exact this

theorem trim_le (s : Str) (q : Str) : (Lib.trimSuffix s q).length ≤ s.length := by
  unfold Lib.trimSuffix
  split
  · simp
  · exact Nat.le_refl _

theorem getD_le {l : Str} {k : Nat} : ((pieces 32 l).getD k []).length ≤ l.length := by
  rw [List.getD_eq_getElem?_getD]
  by_cases h : k < (pieces 32 l).length
  · rw [List.getElem?_eq_getElem h]
    exact pieces_small 32 l _ (List.getElem_mem h)
  · rw [List.getElem?_eq_none (by omega)]
    simp

theorem lineR_ok {l : Str} {x : Ln} (hl : l.length < 4294967281) (h : lineR l = some x) : LnOk x := by
  unfold lineR at h
  split at h
  · cases h
    exact ⟨Nat.lt_of_le_of_lt getD_le hl, Nat.lt_of_le_of_lt (Nat.le_trans (trim_le _ _) getD_le) hl, Nat.lt_of_le_of_lt getD_le hl⟩
  · cases h

theorem behind_lt (c : UInt8) {l : Str} (h : ¬ l = []) : (behind c l).length + 1 ≤ l.length := by
  have h1 : ((l.dropWhile fun b => b != c)).length ≤ l.length := (List.dropWhile_sublist _).length_le
  have h2 : 0 < l.length := List.length_pos_iff.2 h
  unfold behind
  simp; omega

theorem lines_nil (B : Nat) (w : World) : Lines B w (.slice none 0 0) [] := ⟨rfl, Or.inl ⟨rfl, rfl⟩⟩
theorem row_slice {B : Nat} {w : World} {v : Value} {xs : List Ln} (h : Lines B w v xs) : ∃ a m cap, v = .slice a m cap := by
  rcases h.2 with ⟨rfl, _⟩ | ⟨g, cap, cur, rfl, _⟩
  · exact ⟨_, _, _, rfl⟩
  · exact ⟨_, _, _, rfl⟩

def strLen : Value → Nat
  | .string s => s.size
  | _ => 0

/-- What comes of it. -/
def ReadsSaid (w0 : World) (R : List Ln × Nat × Int) (e : Ending) (w' : World) : Prop :=
  ∃ v', e = .returned (.tuple #[v', .int .i64 (R.2.1 : Nat), .int .i64 R.2.2]) ∧ Lines w0.heap.size w' v' R.1 ∧ Below w0.heap.size w0 w'

/-- The loop, as it goes on. -/
def Reads (w0 : World) (ck c M : Nat) (R : List Ln × Nat × Int) (v0 v7 v8 : Value) (wr : World) : Prop :=
  ∃ (t : Str) (n f : Nat) (ks : List En) (xs : List Ln), v0 = .string (ba t) ∧ v8 = .int .i64 ((n : Int) + 1) ∧ readR f ks xs (n + 1) t = R ∧ t.length ≤ f ∧ n + t.length ≤ 65536 ∧ xs.length = n ∧ Lines w0.heap.size wr v7 xs ∧ PSt w0 wr ck c M n ks

theorem ba_ne {t : Str} (h : ¬ t = []) : (ba t).toList.isEmpty = false := by rw [ba_list]; simp [h]
theorem ba_em : (ba []).toList.isEmpty = true := by rw [ba_list]; rfl

set_option maxRecDepth 100000 in
set_option maxHeartbeats 8000000 in
theorem readLines_any {w0 w : World} {ck c M : Nat} {t : Str} (hg : Gd w0) (h : PSt w0 w ck c M 0 []) (ht : t.length ≤ 65536) :
    Calls Tryz.prog 50 #[.string (ba t), .func (.func 51) #[] #[.pointer (some ⟨ck, 0, none⟩)]] w (ReadsSaid w0 (readR t.length [] [] 1 t)) := by
  obtain ⟨R, hR⟩ : ∃ R, readR t.length [] [] 1 t = R := ⟨_, rfl⟩
  rw [hR]
  have HR := hide hR
  have HG := hide hg
  have H := hide h
  have hsz : (ba t).size = t.length := ba_size t
  have hq : ¬ (65536 : Int) < (t.length : Int) := by omega
  clear hR hg h
  go_enter Tryz.func50, Tryz.ntmps50
  go_wp2
  go_loopw [0, 7, 8, 9, 10, 11, 12, 13] (fun v0 v7 v8 _ _ _ _ _ wr => Reads w0 ck c M R v0 v7 v8 wr) (fun v0 _ _ _ _ _ _ _ _ => strLen v0)
  case atStart => exact ⟨t, 0, t.length, [], [], rfl, rfl, unhide HR, Nat.le_refl _, by omega, rfl, lines_nil _ _, unhide H⟩
  case round =>
    rename World => wr
    clear H HR hsz hq ht
    obtain ⟨t, n, f, ks, xs, rfl, rfl, hR, hf, hnt, hxs, hlin, hp⟩ := hrel
    have HR := hide hR
    have HL := hide hlin
    have HP := hide hp
    clear hR hlin hp
    by_cases h0 : t = []
    · have hem : (ba t).toList.isEmpty = true := by rw [h0]; exact ba_em
      have H0 := hide h0
      clear h0
      go_wp2
      go_ret3
      have e : R = (xs, 0, 0) := by
        rw [← unhide HR, unhide H0]
        cases f <;> rfl
      rw [e]
      exact ⟨_, rfl, unhide HL, (unhide HP).low⟩
    · have hne := ba_ne h0
      obtain ⟨f', rfl⟩ : ∃ f', f = f' + 1 := ⟨f - 1, by have := List.length_pos_iff.2 h0; omega⟩
      have hlt := behind_lt 10 h0
      have hal := ahead_le 10 t
      have HC := hide (cut_any 10 (l := t) (by omega) ((unhide HP).gd (unhide HG)))
      have H0 := hide h0
      clear h0
      go_wp2_with (go_at_call 96; fail)
      refine (unhide HC).mono ?_
      rintro e w1 ⟨rfl, b1⟩
      have P1 := hide ((unhide HP).on b1.low)
      have L1 := hide (row_low (unhide HL) b1.low)
      clear b1
      have HR := unhide HR
      unfold readR at HR
      rw [if_neg (unhide H0)] at HR
      obtain ⟨o, ho⟩ : ∃ o, lineR (ahead 10 t) = o := ⟨_, rfl⟩
      cases o with
      | none =>
        rw [ho] at HR
        have HR := hide HR
        obtain ⟨a, m, cap, rfl⟩ := row_slice (unhide L1)
        have HD := hide (read_none (a := a) (m := m) (cap := cap) (unhide HG) (unhide P1) (by omega) ho)
        clear ho
        go_wp2_with (go_at_call 51; fail)
        refine (unhide HD).mono ?_
        rintro e w2 ⟨rfl, b2⟩
        have P2 := hide ((unhide P1).on b2)
        clear b2
        go_wp2
        all_goals
          go_ret3
          rw [← unhide HR]
          exact ⟨_, rfl, lines_nil _ _, (unhide P2).low⟩
      | some x =>
        rw [ho] at HR
        have HD := hide (read_some (unhide HG) (unhide P1) (unhide L1) (by omega) ho (lineR_ok (by omega) ho) (by omega) (by omega))
        clear ho
        simp only at HR
        by_cases he : checkE ks x = 0
        · rw [if_neg (by simp [he])] at HR
          cases hcn : t.contains 10 with
          | true =>
            rw [if_pos hcn] at HR
            have hmem : 10 ∈ t := by simpa using hcn
            have hlt := behind_lt 10 (unhide H0)
            have HR := hide HR
            go_wp2_with (go_at_call 51; fail)
            refine (unhide HD).mono ?_
            rintro e w2 ⟨v', rfl, l2, p2, z2⟩
            rw [he]
            have L2 := hide l2
            have P2 := hide p2
            clear l2 p2 z2 he
            go_wp2
            go_roundw
            case rel => exact ⟨behind 10 t, n + 1, f', _, xs ++ [x], rfl, by simp, unhide HR, by omega, by omega, by simp [hxs], unhide L2, unhide P2⟩
            case measure => simp [strLen, ba_size]; omega
          | false =>
            have hmem : ¬ 10 ∈ t := by simpa using hcn
            rw [if_neg (by simp [hmem])] at HR
            have HR := hide HR
            go_wp2_with (go_at_call 51; fail)
            refine (unhide HD).mono ?_
            rintro e w2 ⟨v', rfl, l2, p2, z2⟩
            rw [he]
            have P2 := hide p2
            clear l2 p2 z2 he
            go_wp2
            all_goals
              go_ret3
              rw [← unhide HR]
              exact ⟨_, rfl, lines_nil _ _, (unhide P2).low⟩
        · rw [if_pos he] at HR
          have HR := hide HR
          go_wp2_with (go_at_call 51; fail)
          refine (unhide HD).mono ?_
          rintro e w2 ⟨v', rfl, l2, p2, z2⟩
          have P2 := hide p2
          clear l2 p2 z2
          go_wp2
          all_goals
            go_ret3
            rw [← unhide HR]
            exact ⟨_, rfl, lines_nil _ _, (unhide P2).low⟩

end Go.Proofs.YthcafeoamabkgaaGreatDoor
