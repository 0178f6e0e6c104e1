/-
  A tile of a log: its path is written and read back.
-/
import Derived.Test.YtkpmbbeidcpclaaDoorPthT
import Derived.Test.YtkpmbbeidcpclaaDoorPthV
namespace Go.Proofs.YtkpmbbeidcpclaaDoor
open Go.RowKit

/-- A tile that has a path. -/
structure TiOk (h : Nat) (t : Ti) : Prop where
  eh : t.h = h
  w1 : 1 ≤ t.w
  wp : t.w ≤ 2 ^ h
  s20 : h * t.l ≤ 20
  fit : t.n * 2 ^ h + t.w ≤ 1048576 / 2 ^ (h * t.l)
  nc : t.n ≤ 1048576 / 2 ^ (h * t.l) / 2 ^ h
  n3 : t.n < 1000
theorem tile_ok {f h n : Nat} (h1 : 1 ≤ h) (hn : n < 2000) {t : Ti} (ht : t ∈ tilesF f h n 0) : TiOk h t := by
  obtain ⟨q, k, _, _, h3, h4, rfl⟩ := (mem_tiles f h n 0 t).1 ht
  have hq := h3 q (Nat.zero_le _) (Nat.le_refl _)
  obtain ⟨a, ha⟩ : ∃ a, n / 2 ^ (h * q) = a := ⟨_, rfl⟩
  obtain ⟨p, hp⟩ : ∃ p, 2 ^ h = p := ⟨_, rfl⟩
  rw [ha] at hq h4 ⊢
  rw [hp] at h4 ⊢
  have hp2 : 2 ≤ p := by rw [← hp]; exact Nat.le_trans (by decide : 2 ≤ 2 ^ 1) (Nat.pow_le_pow_right (by decide) h1)
  have hkp : k * p < a := by
    apply Classical.byContradiction
    intro hc
    have := rowN_ge (a := a) (p := p) (k := k) (by omega) (by omega)
    omega
  have hs : h * q ≤ 10 := by
    apply Classical.byContradiction
    intro hc
    have : 2 ^ 11 ≤ 2 ^ (h * q) := Nat.pow_le_pow_right (by decide) (by omega)
    have hz : n / 2 ^ (h * q) = 0 := Nat.div_eq_of_lt (by omega)
    omega
  have han : a ≤ n := by rw [← ha]; exact Nat.div_le_self _ _
  have hab : a ≤ 1048576 / 2 ^ (h * q) := by rw [← ha]; exact Nat.div_le_div_right (by omega)
  have hk2 : k * 2 ≤ k * p := Nat.mul_le_mul_left _ hp2
  refine ⟨rfl, ?_, ?_, ?_, ?_, ?_, ?_⟩
  · show 1 ≤ min (a - k * p) p; omega
  · show min (a - k * p) p ≤ _; rw [hp]; omega
  · show h * q ≤ 20; omega
  · show k * 2 ^ h + min (a - k * p) p ≤ 1048576 / 2 ^ (h * q); rw [hp]; omega
  · show k ≤ 1048576 / 2 ^ (h * q) / 2 ^ h
    rw [hp, Nat.le_div_iff_mul_le (by omega)]; omega
  · show k < 1000; omega
/-- A tile's path. -/
def tiP (h : Nat) (t : Ti) : Bs := pathL h t.l t.n t.w (2 ^ h)
theorem path_ti {h : Nat} (h1 : 1 ≤ h) (h8 : h ≤ 8) {t : Ti} (ht : TiOk h t) {w : World} (hg : Gd w) :
    Calls Tryd.prog 42 #[tileV t.h t.l t.n t.w] w fun e w' => e = .returned (.tuple #[.string (ba (tiP h t)), .int .i64 0]) ∧ Below w.heap.size w w' := by
  rw [ht.eh]
  refine (path_good hg h1 h8 rfl ht.w1 ht.wp rfl ht.s20 rfl rfl ht.fit rfl ht.nc).mono ?_
  rintro e w' ⟨rfl, k, os, hw⟩
  exact ⟨rfl, Gr.low ⟨k, os, hw⟩⟩
theorem parse_ti {h : Nat} (h1 : 1 ≤ h) (h8 : h ≤ 8) {t : Ti} (ht : TiOk h t) {w : World} (hg : Gd w) :
    Calls Tryd.prog 43 #[.string (ba (tiP h t))] w fun e w' => e = .returned (.tuple #[tileV t.h t.l t.n t.w, .int .i64 0]) ∧ Below w.heap.size w w' := by
  rw [ht.eh]
  exact parse_any hg h1 h8 rfl ht.w1 ht.wp rfl ht.s20 rfl rfl ht.fit rfl ht.nc ht.n3
theorem tiP_inj {h : Nat} (h1 : 1 ≤ h) (h8 : h ≤ 8) {t u : Ti} (ht : TiOk h t) (hu : TiOk h u) (he : tiP h t = tiP h u) : t = u := by
  have key : ∀ x : Ti, TiOk h x → x.l < 1000 ∧ x.w < 1000 := fun x hx => by
    have a1 : 1 * x.l ≤ h * x.l := Nat.mul_le_mul_right _ h1
    have a2 : 2 ^ h ≤ 2 ^ 8 := Nat.pow_le_pow_right (by decide) h8
    have := hx.s20
    have := hx.wp
    omega
  obtain ⟨x1, x2, x3⟩ := path_inj (by omega) (key t ht).1 ht.n3 (key t ht).2 (key u hu).1 hu.n3 (key u hu).2 he
  have e0 := ht.eh
  have e1 := hu.eh
  cases t; cases u
  simp only at x1 x2 x3 e0 e1
  subst x1 x2 x3 e0 e1
  rfl
/-- The path of the i-th tile is none of those before it. -/
theorem path_new {h : Nat} (h1 : 1 ≤ h) (h8 : h ≤ 8) {ts : List Ti} (hd : ts.Nodup) (ho : ∀ t ∈ ts, TiOk h t) {i : Nat} (hi : i < ts.length) :
    ba (tiP h ts[i]) ∉ (ts.take i).map (fun t => ba (tiP h t)) := by
  intro hc
  obtain ⟨t, ht, he⟩ := List.mem_map.1 hc
  have hm := List.mem_of_mem_take ht
  have e := tiP_inj h1 h8 (ho t hm) (ho _ (List.getElem_mem hi)) (ba_inj he)
  obtain ⟨j, hj, hjt⟩ := List.mem_iff_getElem.1 ht
  rw [List.length_take] at hj
  rw [List.getElem_take] at hjt
  have := (List.getElem_inj hd).1 (hjt.trans e)
  omega
end Go.Proofs.YtkpmbbeidcpclaaDoor
