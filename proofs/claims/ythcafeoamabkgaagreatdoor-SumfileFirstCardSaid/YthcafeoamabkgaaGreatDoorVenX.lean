/-
  read, at a line that names a module.
-/
import Derived.Test.YthcafeoamabkgaaGreatDoorVenW
import Derived.Test.YthcafeoamabkgaaGreatDoorReadX
import Derived.Test.YthcafeoamabkgaaGreatDoorMatX
namespace Go.Proofs.YthcafeoamabkgaaGreatDoor
open Go.RowKit Go.WideMaps Go.Maps

/-- A vendored module, as plain data. -/
structure Vd where
  m : Md
  x : Bool
  pk : List Str

/-- The cells of a list of vendored modules, each with the slice of its packages. -/
def vdsV : List (Vd × Value) → List Value
  | [] => []
  | z :: zs => .string (ba z.1.m.1) :: .string (ba z.1.m.2) :: .bool z.1.x :: z.2 :: vdsV zs
theorem vdsV_append (l m : List (Vd × Value)) : vdsV (l ++ m) = vdsV l ++ vdsV m := by
  induction l with
  | nil => rfl
  | cons x l ih => simp [vdsV, ih]
theorem vdsV_length (l : List (Vd × Value)) : (vdsV l).length = l.length * 4 := by
  induction l with
  | nil => rfl
  | cons x l ih => simp [vdsV, ih]; omega

abbrev vdC (m : Md) (x : Bool) (s : Value) : Array Value := #[.string (ba m.1), .string (ba m.2), .bool x, s]

/-- The row of the list. -/
abbrev VRow (w0 w : World) (v : Value) (zs : List (Vd × Value)) : Prop := w.ownsRow w0.heap.size 81 4 v zs.length (vdsV zs)
/-- Each element's packages, in a row of their own. -/
def VAll (w0 w : World) (zs : List (Vd × Value)) : Prop := ∀ z ∈ zs, w.ownsRow w0.heap.size 9 1 z.2 z.1.pk.length (strsV z.1.pk)

theorem rowT {w : World} {base n k : Nat} {T : TypeId} {v : Value} {xs : List Value} {g : Nat} (h : w.ownsRow base T k v n xs) (hg : v.ownBlock = some g) : base ≤ g ∧ ∃ cur, w.heap[g]? = some (.cells cur T (0, 0)) := by
  rcases h.2 with ⟨rfl, _⟩ | ⟨g', cap, cur, rfl, hb, hh, _⟩
  · cases hg
  · cases hg; exact ⟨hb, cur, hh⟩
theorem rowT_lt {w : World} {base n k : Nat} {T : TypeId} {v : Value} {xs : List Value} {g : Nat} (h : w.ownsRow base T k v n xs) (hg : v.ownBlock = some g) : g < w.heap.size := by
  obtain ⟨_, cur, hc⟩ := rowT h hg
  exact (Array.getElem?_eq_some_iff.1 hc).1
theorem rowT_same {w w' : World} {base n k : Nat} {T : TypeId} {v : Value} {xs : List Value} (hr : w.ownsRow base T k v n xs) (h : ∀ g, v.ownBlock = some g → w'.heap[g]? = w.heap[g]?) : w'.ownsRow base T k v n xs := by
  refine ⟨hr.1, hr.2.imp id ?_⟩
  rintro ⟨g, cap, cur, h1, h2, h3, h4⟩
  exact ⟨g, cap, cur, h1, h2, (h g (by rw [h1]; rfl)).trans h3, h4⟩
theorem rowT_low {w w' : World} {base n k : Nat} {T : TypeId} {v : Value} {xs : List Value} (hr : w.ownsRow base T k v n xs) (hb : Below w.heap.size w w') : w'.ownsRow base T k v n xs :=
  rowT_same hr fun g hg => hb.block g (rowT_lt hr hg)
theorem VAll.low {w0 w w' : World} {zs : List (Vd × Value)} (h : VAll w0 w zs) (hb : Below w.heap.size w w') : VAll w0 w' zs := fun z hz => rowT_low (h z hz) hb

/-- All but two blocks are as they were. -/
structure But2 (a b : Nat) (w w' : World) : Prop where
  size : w.heap.size ≤ w'.heap.size
  block : ∀ k, k < w.heap.size → k ≠ a → k ≠ b → w'.heap[k]? = w.heap[k]?

theorem rowT_but2 {w w' : World} {base n k a b nm : Nat} {ms : List Md} {cs : Array Value} {t T : TypeId} {v : Value} {xs : List Value} (hr : w.ownsRow base T k v n xs) (h : But2 a b w w') (ha : Blk w a cs t) (ht : t ≠ T) (hb : SetMAt w b nm ms) : w'.ownsRow base T k v n xs :=
  rowT_same hr fun g hg => by
    obtain ⟨_, cur, hc⟩ := rowT hr hg
    refine h.block g (rowT_lt hr hg) (fun e => ?_) (fun e => ?_)
    · rw [e] at hc; unfold Blk at ha; rw [ha] at hc; simp at hc; exact ht hc.2
    · rw [e] at hc; exact mapM_not hb hc
theorem VAll.but2 {w0 w w' : World} {a b nm : Nat} {ms : List Md} {cs : Array Value} {t : TypeId} {zs : List (Vd × Value)} (hr : VAll w0 w zs) (h : But2 a b w w') (ha : Blk w a cs t) (ht : t ≠ 9) (hb : SetMAt w b nm ms) : VAll w0 w' zs :=
  fun z hz => rowT_but2 (hr z hz) h ha ht hb

/-- A row of another type does not stand in the way. -/
theorem Blk.grownT {w w' : World} {base k n : Nat} {T t : TypeId} {v : Value} {xs : List Value} {b : Nat} {cs : Array Value} (h : Blk w b cs t) (hr : w.ownsRow base T k v n xs) (ht : t ≠ T) (hg : w.grownBy w' v.ownBlock) : Blk w' b cs t := by
  refine (hg.block b h.lt (fun e => ?_)).trans h
  obtain ⟨_, cur, hc⟩ := rowT hr e.symm
  unfold Blk at h
  rw [h] at hc
  simp at hc
  exact ht hc.2
theorem rowT_grown {w w' : World} {base base' k k' n n' : Nat} {T t : TypeId} {v v' : Value} {xs xs' : List Value} (h : w.ownsRow base' t k' v' n' xs') (hr : w.ownsRow base T k v n xs) (ht : t ≠ T) (hg : w.grownBy w' v.ownBlock) : w'.ownsRow base' t k' v' n' xs' :=
  rowT_same h fun g hgb => by
    refine hg.block g (rowT_lt h hgb) (fun e => ?_)
    obtain ⟨_, cur, hc⟩ := rowT hr e.symm
    obtain ⟨_, cur2, hc2⟩ := rowT h hgb
    rw [hc] at hc2
    simp at hc2
    exact ht hc2.2.symm
theorem VAll.grown {w0 w w' : World} {n : Nat} {v : Value} {xs : List Value} {zs : List (Vd × Value)} (h : VAll w0 w zs) (hr : w.ownsRow w0.heap.size 81 4 v n xs) (hg : w.grownBy w' v.ownBlock) : VAll w0 w' zs :=
  fun z hz => rowT_grown (h z hz) hr (by decide) hg

theorem map_far {w w' : World} {base k n : Nat} {T : TypeId} {v : Value} {xs : List Value} {b : Nat} (hb : b < w.heap.size) (hnot : ∀ cs, ¬ w.heap[b]? = some (.cells cs T (0, 0))) (hr : w.ownsRow base T k v n xs) (hg : w.grownBy w' v.ownBlock) : w'.heap[b]? = w.heap[b]? := by
  refine hg.block b hb (fun e => ?_)
  obtain ⟨_, cur, hc⟩ := rowT hr e.symm
  exact hnot cur hc

theorem VChk.grown {w0 w w' : World} {ck M n m k : Nat} {ms : List Md} {path : Str} {pv v : Value} {xs : List Value} {T : TypeId} (h : VChk w0 w ck M n ms path pv) (hr : w.ownsRow w0.heap.size T k v m xs) (hT : T ≠ 155) (hg : w.grownBy w' v.ownBlock) : VChk w0 w' ck M n ms path pv :=
  ⟨h.low.grown hg h.low.size (fun _ hk => (rowT hr hk).1), h.blk.grownT hr (fun e => hT e.symm) hg, h.set.same (map_far h.set.lt (fun _ => mapM_not h.set) hr hg), h.ck0, h.m0⟩
theorem VCk.grown {w0 w w' : World} {ck M n P np m k : Nat} {ms : List Md} {path : Str} {pk : List Str} {v : Value} {xs : List Value} {T : TypeId} (h : VCk w0 w ck M n ms path P np pk) (hr : w.ownsRow w0.heap.size T k v m xs) (hT : T ≠ 155) (hg : w.grownBy w' v.ownBlock) : VCk w0 w' ck M n ms path P np pk :=
  ⟨h.c.grown hr hT hg, h.p.same (map_far h.p.lt (fun _ => mapS_not h.p) hr hg), h.ne, h.p0⟩

/-- What the module's check leaves. -/
structure MDone (w0 w' : World) (ck M n : Nat) (ms : List Md) (m : Md) : Prop where
  low : Below w0.heap.size w0 w'
  ok : modE ms m = 0 → ∃ P, VCk w0 w' ck M (n + 1) (m :: ms) m.1 P 0 []
theorem MDone.grown {w0 w w' : World} {ck M n k l : Nat} {ms : List Md} {m : Md} {v : Value} {xs : List Value} (h : MDone w0 w ck M n ms m) (hr : w.ownsRow w0.heap.size 81 k v l xs) (hg : w.grownBy w' v.ownBlock) : MDone w0 w' ck M n ms m :=
  ⟨h.low.grown hg h.low.size (fun _ hk => (rowT hr hk).1), fun e => by
    obtain ⟨P, hP⟩ := h.ok e
    exact ⟨P, hP.grown hr (by decide) hg⟩⟩
theorem MDone.on {w0 w w' : World} {ck M n : Nat} {ms : List Md} {m : Md} (h : MDone w0 w ck M n ms m) (b : Below w.heap.size w w') : MDone w0 w' ck M n ms m :=
  ⟨low_trans h.low b, fun e => by
    obtain ⟨P, hP⟩ := h.ok e
    exact ⟨P, hP.on b⟩⟩

/-- module, with its frame. -/
theorem module_at {w0 w : World} {ck M n : Nat} {ms : List Md} {path : Str} {pv : Value} {m : Md} (hg : Gd w0) (h : VChk w0 w ck M n ms path pv) (hm : MdOk m) (hp : m.1.length < 4294967281) (hn : n ≤ 1000000) :
    Calls Tryz.prog 98 #[.pointer (some ⟨ck, 0, none⟩), .agg (modC m)] w fun e w' => e = .returned (.int .i64 (modE ms m)) ∧ MDone w0 w' ck M n ms m ∧ But2 ck M w w' := by
  refine (module_any hg h hm hp hn).mono ?_
  rintro e w' ⟨rfl, h1, h2⟩
  refine ⟨rfl, ?_⟩
  by_cases e0 : modE ms m = 0
  · obtain ⟨P, h3, h4, h5, h6, h7⟩ := h2 e0
    have hne : P ≠ M := by
      have := h.set.lt
      omega
    exact ⟨⟨h3.low, fun _ => ⟨P, h3, h4, hne, Nat.le_trans h.low.size h5⟩⟩, h7, h6⟩
  · exact ⟨⟨low_trans h.low (h1 e0), fun h => absurd h e0⟩, (h1 e0).size, fun k hk _ _ => (h1 e0).block k hk⟩

theorem info81 : (Tryz.prog.info? 81).map (fun i => (i.zero, i.size, i.bytes)) = some (some (.agg #[.string ⟨#[]⟩, .string ⟨#[]⟩, .bool false, .slice none 0 0]), 4, 64) := by kernel_rfl

theorem vds_snoc {base : Nat} {w : World} {v : Value} {zs : List (Vd × Value)} {m : Md} {x : Bool} {pk : List Str} {s : Value} (h : w.ownsRow base 81 4 v (zs.length + 1) (vdsV zs ++ (vdC m x s).toList)) : w.ownsRow base 81 4 v (zs ++ [((⟨m, x, pk⟩ : Vd), s)]).length (vdsV (zs ++ [((⟨m, x, pk⟩ : Vd), s)])) := by
  rw [vdsV_append, List.length_append]
  exact h

end Go.Proofs.YthcafeoamabkgaaGreatDoor

namespace Go.Proofs.YthcafeoamabkgaaGreatDoor
open Go.RowKit Go.WideMaps Go.Maps

/-- What is read of a module's line. -/
def NewSaid (w0 : World) (ck M n : Nat) (ms : List Md) (zs : List (Vd × Value)) (m : Md) (w : World) (e : Ending) (w' : World) : Prop :=
  ∃ v', e = .returned (.tuple #[v', .int .i64 (modE ms m)]) ∧ VRow w0 w' v' (zs ++ [((⟨m, false, []⟩ : Vd), .slice none 0 0)]) ∧ VAll w0 w' zs ∧ MDone w0 w' ck M n ms m ∧ w.heap.size ≤ w'.heap.size

abbrev ModIn (w : World) (b : Nat) (m : Md) : Prop := w.cell? ⟨b, 0, none⟩ = some (.string (ba m.1)) ∧ w.cell? ⟨b, 1, none⟩ = some (.string (ba m.2))
theorem Blk.modI {w : World} {b : Nat} {m : Md} (h : Blk w b (modC m) 36) : ModIn w b m := ⟨h.cell 0, h.cell 1⟩
theorem Blk.but2 {w w' : World} {a b c nm : Nat} {ms : List Md} {cs ds : Array Value} {s t : TypeId} (h : Blk w c ds s) (k : But2 a b w w') (ha : Blk w a cs t) (ht : t ≠ s) (hb : SetMAt w b nm ms) : Blk w' c ds s := by
  refine (k.block c h.lt (fun e => ?_) (fun e => ?_)).trans h
  · subst e; unfold Blk at ha h; rw [ha] at h; simp at h; exact ht h.2
  · subst e; exact mapM_not hb h

set_option maxRecDepth 100000 in
set_option maxHeartbeats 8000000 in
theorem read_new {w0 w : World} {ck M n : Nat} {ms : List Md} {path : Str} {pv v : Value} {zs : List (Vd × Value)} {l : Str} {m : Md} (hg : Gd w0) (h : VChk w0 w ck M n ms path pv) (hrow : VRow w0 w v zs) (hall : VAll w0 w zs) (hl : l.length < 4294967281) (hm : modL l = some m) (hmo : MdOk m) (hn : n ≤ 1000000) (hz : zs.length ≤ 1000000) :
    Calls Tryz.prog 60 #[.pointer (some ⟨ck, 0, none⟩), v, .string (ba l)] w (NewSaid w0 ck M n ms zs m w) := by
  have HR := hide (readModule_some hl (hg.low h.low) hm)
  have HP : Hid (m.1.length < 4294967281) := hide (by have := (modL_ok hm).1; omega)
  obtain ⟨i0, hi, hz0, hz1, hz2⟩ := info_parts info81
  have HG := hide hg
  have H := hide h
  have HO := hide hrow
  have HA := hide hall
  have HX := hide hmo
  clear hm h hg hrow hall hmo
  go_enter Tryz.func60, Tryz.ntmps60
  go_wp2_with (go_at_call 104; fail)
  refine (unhide HR).mono ?_
  rintro e w1 ⟨rfl, b1⟩
  obtain ⟨W, hW⟩ : ∃ W, w1.alloc (.cells (modC m) 36) = W := ⟨_, rfl⟩
  have bW : Below w.heap.size w W := by rw [← hW]; exact b1.alloc b1.size _
  have kW : Blk W w1.heap.size (modC m) 36 := by rw [← hW]; exact Blk.new _ _ _
  have PW := hide ((unhide H).on bW)
  have OW := hide (rowT_low (unhide HO) bW)
  have AW := hide ((unhide HA).low bW)
  have HSZ : Hid (w0.heap.size ≤ W.heap.size ∧ w.heap.size ≤ W.heap.size) := ⟨(unhide PW).low.size, bW.size⟩
  obtain ⟨q0, q1⟩ := kW.modI
  have HK := hide kW
  clear b1 bW kW H HO HR HA
  have hmm : (zs.length + 1) * 64 ≤ 140737488355328 := by omega
  have hone : ∀ u ∈ (vdC m false (.slice none 0 0)).toList, u.oneCell' = true := by simp [Value.oneCell']
  have u0 : ∀ o, (W.alloc o).cell? ⟨w1.heap.size, 0, none⟩ = some (.string (ba m.1)) := fun o => ((unhide HK).alloc o).cell 0
  have u1 : ∀ o, (W.alloc o).cell? ⟨w1.heap.size, 1, none⟩ = some (.string (ba m.2)) := fun o => ((unhide HK).alloc o).cell 1
  go_wp2
  go_region_law (first
    | (refine step_append_lies _ (by rfl) _ _ _ (by rfl) w0.heap.size 81 i0 _ 4 64 Tryz.underlying23 hi hz0 hz1 hz2 rfl (by omega) v zs.length _ (by rfl) ((unhide OW).drew.alloc _) ⟨W.heap.size, 0, none⟩ 1 1 (vdC m false (.slice none 0 0)).toList (by rfl) (by rfl) (World.news_of_block (cs := vdC m false (.slice none 0 0)) (t := 81) (fr := (0, 0)) (heap_new W.drew _)) hone (by omega) (by unfold maxLen; omega) hmm (by show w0.heap.size ≤ (W.heap.push _).size; rw [Array.size_push]; have := (unhide HSZ).1; omega) (W.heap.size + 1) (by show (W.heap.push _).size = _; simp) ?_; intro g cap w4 hown4 hgrow hat hlt4; have P4 := hide (((unhide PW).on ((Below.refl _ _).drew.alloc (Nat.le_refl _) _)).grown ((unhide OW).drew.alloc _) (by decide) hgrow); have A4 := hide (((unhide AW).low ((Below.refl _ _).drew.alloc (Nat.le_refl _) _)).grown ((unhide OW).drew.alloc _) hgrow); obtain ⟨y0, y1⟩ := (Blk.grownT (Blk.alloc (w := W.drew) (unhide HK) _) ((unhide OW).drew.alloc _) (by decide) hgrow).modI; have O4 := hide hown4; have Z4 : Hid (w.heap.size ≤ w4.heap.size) := Nat.le_trans (unhide HSZ).2 (Nat.le_trans (by show W.heap.size ≤ (W.heap.push _).size; rw [Array.size_push]; omega) hgrow.size); clear hown4 hgrow hat)
    | (refine step_append_lies _ (by rfl) _ _ _ (by rfl) w0.heap.size 81 i0 _ 4 64 Tryz.underlying23 hi hz0 hz1 hz2 rfl (by omega) v zs.length _ (by rfl) (unhide R5) ⟨W.heap.size, 0, none⟩ 1 1 (vdC m false (.slice none 0 0)).toList (by rfl) (by rfl) (World.news_of_block (cs := vdC m false (.slice none 0 0)) (t := 81) (fr := (0, 0)) (unhide K5)) hone (by omega) (by unfold maxLen; omega) hmm (unhide M5).low.size _ rfl ?_; intro g cap w4 hown4 hgrow hat hlt4; have MF := hide ((unhide M5).grown (unhide R5) hgrow); have AF := hide ((unhide A5).grown (unhide R5) hgrow); have OF := hide hown4; have ZF : Hid (w.heap.size ≤ w4.heap.size) := Nat.le_trans (unhide Z5) hgrow.size; clear hown4 hgrow hat)
    | (refine step_append_lies _ (by rfl) _ _ _ (by rfl) w0.heap.size 81 i0 _ 4 64 Tryz.underlying23 hi hz0 hz1 hz2 rfl (by omega) v zs.length _ (by rfl) ((unhide R5).alloc _) ⟨w5.heap.size, 0, none⟩ 1 1 (vdC m false (.slice none 0 0)).toList (by rfl) (by rfl) (World.news_of_block (cs := vdC m false (.slice none 0 0)) (t := 81) (fr := (0, 0)) (heap_new w5 _)) hone (by omega) (by unfold maxLen; omega) hmm ((unhide M5).on ((Below.refl _ _).alloc (Nat.le_refl _) _)).low.size _ rfl ?_; intro g cap w4 hown4 hgrow hat hlt4; have MF := hide (((unhide M5).on ((Below.refl _ _).alloc (Nat.le_refl _) _)).grown ((unhide R5).alloc _) hgrow); have AF := hide (((unhide A5).low ((Below.refl _ _).alloc (Nat.le_refl _) _)).grown ((unhide R5).alloc _) hgrow); have OF := hide hown4; have ZF : Hid (w.heap.size ≤ w4.heap.size) := Nat.le_trans (Nat.le_trans (unhide Z5) ((Below.refl w5.heap.size w5).alloc (Nat.le_refl _) _).size) hgrow.size; clear hown4 hgrow hat)
    | (go_simp; refine (module_at (unhide HG) (unhide P4) (unhide HX) (unhide HP) hn).mono ?_; rintro e w5 ⟨rfl, p5, k5⟩; have MF := hide p5; have OF := hide (rowT_but2 (unhide O4) k5 (unhide P4).blk (by decide) (unhide P4).set); have AF := hide ((unhide A4).but2 k5 (unhide P4).blk (by decide) (unhide P4).set); have ZF : Hid (w.heap.size ≤ w5.heap.size) := Nat.le_trans (unhide Z4) k5.size; clear p5 k5)
    | (go_simp; refine (module_at (unhide HG) ((unhide PW).on ((Below.refl _ _).drew.alloc (Nat.le_refl _) _)) (unhide HX) (unhide HP) hn).mono ?_; rintro e w5 ⟨rfl, p5, k5⟩; have M5 := hide p5; have R5 := hide (rowT_but2 ((unhide OW).drew.alloc _) k5 ((unhide PW).on ((Below.refl _ _).drew.alloc (Nat.le_refl _) _)).blk (by decide) ((unhide PW).on ((Below.refl _ _).drew.alloc (Nat.le_refl _) _)).set); have A5 := hide (((unhide AW).low ((Below.refl _ _).drew.alloc (Nat.le_refl _) _)).but2 k5 ((unhide PW).on ((Below.refl _ _).drew.alloc (Nat.le_refl _) _)).blk (by decide) ((unhide PW).on ((Below.refl _ _).drew.alloc (Nat.le_refl _) _)).set); have K5 := hide (Blk.but2 (Blk.new W.drew (vdC m false (.slice none 0 0)) 81) k5 ((unhide PW).on ((Below.refl _ _).drew.alloc (Nat.le_refl _) _)).blk (by decide) ((unhide PW).on ((Below.refl _ _).drew.alloc (Nat.le_refl _) _)).set); obtain ⟨y0, y1⟩ := (Blk.but2 (Blk.alloc (w := W.drew) (unhide HK) _) k5 ((unhide PW).on ((Below.refl _ _).drew.alloc (Nat.le_refl _) _)).blk (by decide) ((unhide PW).on ((Below.refl _ _).drew.alloc (Nat.le_refl _) _)).set).modI; have Z5 : Hid (w.heap.size ≤ w5.heap.size) := Nat.le_trans (unhide HSZ).2 (Nat.le_trans (by show W.heap.size ≤ (W.heap.push _).size; rw [Array.size_push]; omega) k5.size); clear p5 k5)
    | (go_simp; refine (module_at (unhide HG) ((unhide PW).on (Below.refl _ _).drew) (unhide HX) (unhide HP) hn).mono ?_; rintro e w5 ⟨rfl, p5, k5⟩; have M5 := hide p5; have R5 := hide (rowT_but2 (unhide OW).drew k5 ((unhide PW).on (Below.refl _ _).drew).blk (by decide) ((unhide PW).on (Below.refl _ _).drew).set); have A5 := hide (((unhide AW).low (Below.refl _ _).drew).but2 k5 ((unhide PW).on (Below.refl _ _).drew).blk (by decide) ((unhide PW).on (Below.refl _ _).drew).set); obtain ⟨y0, y1⟩ := (Blk.but2 (w := W.drew) (unhide HK) k5 ((unhide PW).on (Below.refl _ _).drew).blk (by decide) ((unhide PW).on (Below.refl _ _).drew).set).modI; have Z5 : Hid (w.heap.size ≤ w5.heap.size) := Nat.le_trans (unhide HSZ).2 k5.size; clear p5 k5))
  all_goals
    go_wp2
    go_ret2
    exact ⟨_, rfl, vds_snoc (unhide OF), unhide AF, unhide MF, unhide ZF⟩

end Go.Proofs.YthcafeoamabkgaaGreatDoor
