/-
  What holds while a lock is read, line by line.
-/
import Derived.Test.YthcafeoamabkgaaGreatDoorCheck
import Derived.Deep.AppendLies
import Derived.Deep.RegionLaw
namespace Go.Proofs.YthcafeoamabkgaaGreatDoor
open Go.RowKit Go.WideMaps Go.Maps

def lnsV : List Ln → List Value
  | [] => []
  | x :: xs => .string (ba x.p) :: .string (ba x.v) :: .int .i64 x.k :: .string (ba x.s) :: lnsV xs
theorem lnsV_append (l m : List Ln) : lnsV (l ++ m) = lnsV l ++ lnsV m := by
  induction l with
  | nil => rfl
  | cons x l ih => simp [lnsV, ih]
theorem lnsV_length (l : List Ln) : (lnsV l).length = l.length * 4 := by
  induction l with
  | nil => rfl
  | cons x l ih => simp [lnsV, ih]; omega

abbrev ckC (c : Nat) : Array Value := #[.func (.func 84) #[] #[.pointer (some ⟨c, 0, none⟩)]]

/-- The check and its set, in a world that has grown out of another. -/
structure PSt (w0 w : World) (ck c M n : Nat) (ks : List En) : Prop where
  low : Below w0.heap.size w0 w
  kc : Blk w ck (ckC c) 82
  mc : Blk w c #[.map (some M)] 132
  set : SetAt w M n ks
  far : w0.heap.size ≤ M

theorem PSt.on {w0 w w' : World} {ck c M n : Nat} {ks : List En} (h : PSt w0 w ck c M n ks) (b : Below w.heap.size w w') : PSt w0 w' ck c M n ks :=
  ⟨h.low.trans (b.mono h.low.size), h.kc.low b, h.mc.low b, h.set.low b, h.far⟩
theorem PSt.drew {w0 w : World} {ck c M n : Nat} {ks : List En} (h : PSt w0 w ck c M n ks) : PSt w0 w.drew ck c M n ks := h.on (Below.refl _ _).drew
theorem PSt.alloc {w0 w : World} {ck c M n : Nat} {ks : List En} (h : PSt w0 w ck c M n ks) (o : Obj) : PSt w0 (w.alloc o) ck c M n ks := h.on ((Below.refl _ _).alloc (Nat.le_refl _) o)
theorem PSt.gd {w0 w : World} {ck c M n : Nat} {ks : List En} (h : PSt w0 w ck c M n ks) (hg : Gd w0) : Gd w := hg.low h.low

theorem map_not {w : World} {M n : Nat} {ks : List En} (h : SetAt w M n ks) {cs : Array Value} {t : TypeId} : ¬ w.heap[M]? = some (.cells cs t (0, 0)) := by
  obtain ⟨D, ⟨es, clock, hb, _⟩, _⟩ := h.own
  rw [hb]; simp

/-- The row of a list of lines. -/
abbrev Lines (base : Nat) (w : World) (v : Value) (xs : List Ln) : Prop := w.ownsRow base 38 4 v xs.length (lnsV xs)

theorem row38 {w : World} {base n : Nat} {v : Value} {xs : List Value} {g : Nat} (h : w.ownsRow base 38 4 v n xs) (hg : v.ownBlock = some g) : base ≤ g ∧ ∃ cur, w.heap[g]? = some (.cells cur 38 (0, 0)) := by
  rcases h.2 with ⟨rfl, _⟩ | ⟨g', cap, cur, rfl, hb, hh, _⟩
  · cases hg
  · cases hg; exact ⟨hb, cur, hh⟩

theorem PSt.grown {w0 w w' : World} {ck c M n : Nat} {ks : List En} {v : Value} {m : Nat} {xs : List Value} (h : PSt w0 w ck c M n ks) (hr : w.ownsRow w0.heap.size 38 4 v m xs) (hg : w.grownBy w' v.ownBlock) : PSt w0 w' ck c M n ks := by
  have hne : ∀ b cs t, w.heap[b]? = some (.cells cs t (0, 0)) → t ≠ 38 → some b ≠ v.ownBlock := by
    intro b cs t hb ht e
    obtain ⟨_, cur, hc⟩ := row38 hr e.symm
    rw [hb] at hc
    simp at hc
    exact ht hc.2
  have hM : some M ≠ v.ownBlock := by
    intro e
    obtain ⟨_, cur, hc⟩ := row38 hr e.symm
    exact map_not h.set hc
  refine ⟨h.low.grown hg h.low.size (fun k hk => (row38 hr hk).1), ?_, ?_, h.set.same (hg.block M h.set.lt hM), h.far⟩
  · exact (hg.block ck h.kc.lt (hne _ _ _ h.kc (by decide))).trans h.kc
  · exact (hg.block c h.mc.lt (hne _ _ _ h.mc (by decide))).trans h.mc

theorem PSt.checked {w0 w w' : World} {ck c M n : Nat} {ks ks' : List En} (h : PSt w0 w ck c M n ks) (hs : SetAt w' M (n + 1) ks') (hb : But M w w') : PSt w0 w' ck c M (n + 1) ks' := by
  have hne : ∀ b cs t, w.heap[b]? = some (.cells cs t (0, 0)) → b ≠ M := by
    intro b cs t hbb e
    subst e
    exact map_not h.set hbb
  exact ⟨hb.low h.low h.low.size h.far, (hb.block ck h.kc.lt (hne _ _ _ h.kc)).trans h.kc, (hb.block c h.mc.lt (hne _ _ _ h.mc)).trans h.mc, hs, h.far⟩

theorem row_but {w w' : World} {M n m base : Nat} {ks : List En} {v : Value} {xs : List Value} (hr : w.ownsRow base 38 4 v m xs) (hs : SetAt w M n ks) (hb : But M w w') : w'.ownsRow base 38 4 v m xs := by
  refine ⟨hr.1, hr.2.imp id ?_⟩
  rintro ⟨g, cap, cur, h1, h2, h3, h4⟩
  exact ⟨g, cap, cur, h1, h2, (hb.block g (Array.getElem?_eq_some_iff.1 h3).1 (fun e => map_not hs (e ▸ h3))).trans h3, h4⟩
theorem row_low {w w' : World} {m base : Nat} {v : Value} {xs : List Value} (hr : w.ownsRow base 38 4 v m xs) (hb : Below w.heap.size w w') : w'.ownsRow base 38 4 v m xs := by
  refine ⟨hr.1, hr.2.imp id ?_⟩
  rintro ⟨g, cap, cur, h1, h2, h3, h4⟩
  exact ⟨g, cap, cur, h1, h2, (hb.block g (Array.getElem?_eq_some_iff.1 h3).1).trans h3, h4⟩

theorem Blk.but {w w' : World} {M n : Nat} {ks : List En} {b : Nat} {cs : Array Value} {t : TypeId} (h : Blk w b cs t) (hs : SetAt w M n ks) (hb : But M w w') : Blk w' b cs t :=
  (hb.block b h.lt (fun e => map_not hs (e ▸ h))).trans h
theorem Blk.grown {w w' : World} {base m : Nat} {v : Value} {xs : List Value} {b : Nat} {cs : Array Value} {t : TypeId} (h : Blk w b cs t) (hr : w.ownsRow base 38 4 v m xs) (hne : some b ≠ v.ownBlock) (hg : w.grownBy w' v.ownBlock) : Blk w' b cs t := by
  have := hr
  exact (hg.block b h.lt hne).trans h

theorem info38 : (Tryz.prog.info? 38).map (fun i => (i.zero, i.size, i.bytes)) = some (some (.agg #[.string ⟨#[]⟩, .string ⟨#[]⟩, .int .i64 0, .string ⟨#[]⟩]), 4, 56) := by kernel_rfl

end Go.Proofs.YthcafeoamabkgaaGreatDoor
