/-
  A fault as an effect: kind.of, and the effect applied.
-/
import Derived.Test.YtmbcjdlpdibalaaEff3
namespace Go.Proofs.Ytmbcjdlpdibalaa
open Go.RowKit Go.WideMaps Go.Maps

/-- A closure is this effect; what it holds lies in the blocks from lo to hi. -/
def EffAt (lo hi : Nat) (w : World) (fv : Value) : Eff → Prop
  | .tell st => ∃ b, lo ≤ b ∧ b < hi ∧ fv = .func (.func 67) #[] #[.pointer (some ⟨b, 0, none⟩)] ∧ w.cell? ⟨b, 0, none⟩ = some (.int .i64 st)
  | .forge l => ∃ b a n c, lo ≤ b ∧ b < hi ∧ fv = .func (.func 70) #[] #[.pointer (some ⟨b, 0, none⟩)] ∧ w.cell? ⟨b, 0, none⟩ = some (.slice a n c) ∧ Bytes w a n l ∧ n ≤ 1099511627776 ∧ ∀ ad, a = some ad → lo ≤ ad.block ∧ ad.block < hi
  | .cut m => ∃ b b2, lo ≤ b ∧ b < hi ∧ lo ≤ b2 ∧ b2 < hi ∧ fv = .func (.func 54) #[] #[.pointer (some ⟨b, 0, none⟩)] ∧ w.cell? ⟨b, 0, none⟩ = some (.func (.func 68) #[] #[.pointer (some ⟨b2, 0, none⟩)]) ∧ w.cell? ⟨b2, 0, none⟩ = some (.int .i64 (m : Int))
  | .flip m => ∃ b b2, lo ≤ b ∧ b < hi ∧ lo ≤ b2 ∧ b2 < hi ∧ fv = .func (.func 54) #[] #[.pointer (some ⟨b, 0, none⟩)] ∧ w.cell? ⟨b, 0, none⟩ = some (.func (.func 69) #[] #[.pointer (some ⟨b2, 0, none⟩)]) ∧ w.cell? ⟨b2, 0, none⟩ = some (.int .i64 (m : Int)) ∧ m ≤ 9223372036854775807
  | .late m => ∃ b b2, lo ≤ b ∧ b < hi ∧ lo ≤ b2 ∧ b2 < hi ∧ fv = .func (.func 54) #[] #[.pointer (some ⟨b, 0, none⟩)] ∧ w.cell? ⟨b, 0, none⟩ = some (.func (.func 71) #[] #[.pointer (some ⟨b2, 0, none⟩)]) ∧ w.cell? ⟨b2, 0, none⟩ = some (.int .i64 m)

theorem cell_same {w w' : World} {a : Addr} {v : Value} (h : w'.heap[a.block]? = w.heap[a.block]?) (hc : w.cell? a = some v) : w'.cell? a = some v := (World.cell?_of_block h).trans hc

theorem EffAt.keep {lo hi : Nat} {w w' : World} {fv : Value} {e : Eff} (h : EffAt lo hi w fv e) (hs : ∀ k, lo ≤ k → k < hi → w'.heap[k]? = w.heap[k]?) : EffAt lo hi w' fv e := by
  cases e with
  | tell st => obtain ⟨b, h1, h2, h3, h4⟩ := h; exact ⟨b, h1, h2, h3, cell_same (hs b h1 h2) h4⟩
  | forge l =>
    obtain ⟨b, a, n, c, h1, h2, h3, h4, h5, h6, h7⟩ := h
    exact ⟨b, a, n, c, h1, h2, h3, cell_same (hs b h1 h2) h4, ⟨h5.len, h5.nil, fun ad ha i hi => by
      obtain ⟨k1, k2⟩ := h7 ad ha
      have := h5.cell ad ha i hi
      have hb : (ad.add i).block = ad.block := by first | rfl | (simp [Addr.add]; done) | (unfold Addr.add; split <;> rfl)
      exact cell_same (a := ad.add i) (hs _ (by rw [hb]; exact k1) (by rw [hb]; exact k2)) this⟩, h6, h7⟩
  | cut m => obtain ⟨b, b2, h1, h2, h3, h4, h5, h6, h7⟩ := h; exact ⟨b, b2, h1, h2, h3, h4, h5, cell_same (hs b h1 h2) h6, cell_same (hs b2 h3 h4) h7⟩
  | flip m => obtain ⟨b, b2, h1, h2, h3, h4, h5, h6, h7, h8⟩ := h; exact ⟨b, b2, h1, h2, h3, h4, h5, cell_same (hs b h1 h2) h6, cell_same (hs b2 h3 h4) h7, h8⟩
  | late m => obtain ⟨b, b2, h1, h2, h3, h4, h5, h6, h7⟩ := h; exact ⟨b, b2, h1, h2, h3, h4, h5, cell_same (hs b h1 h2) h6, cell_same (hs b2 h3 h4) h7⟩

theorem EffAt.wide {lo hi lo' hi' : Nat} {w : World} {fv : Value} {e : Eff} (h : EffAt lo hi w fv e) (h1 : lo' ≤ lo) (h2 : hi ≤ hi') : EffAt lo' hi' w fv e := by
  cases e with
  | tell st => obtain ⟨b, a1, a2, a3⟩ := h; exact ⟨b, by omega, by omega, a3⟩
  | forge l => obtain ⟨b, a, n, c, a1, a2, a3, a4, a5, a6, a7⟩ := h; exact ⟨b, a, n, c, by omega, by omega, a3, a4, a5, a6, fun ad ha => by have := a7 ad ha; omega⟩
  | cut m => obtain ⟨b, b2, a1, a2, a3, a4, a5⟩ := h; exact ⟨b, b2, by omega, by omega, by omega, by omega, a5⟩
  | flip m => obtain ⟨b, b2, a1, a2, a3, a4, a5⟩ := h; exact ⟨b, b2, by omega, by omega, by omega, by omega, a5⟩
  | late m => obtain ⟨b, b2, a1, a2, a3, a4, a5⟩ := h; exact ⟨b, b2, by omega, by omega, by omega, by omega, a5⟩

/-- The call of 54, at the three effects that it may hold. -/
theorem do54 {lo hi base : Nat} {w : World} {fv v : Value} {e : Eff} {x : Ans} {b : Nat} (h : EffAt lo hi w fv e) (hf : fv = .func (.func 54) #[] #[.pointer (some ⟨b, 0, none⟩)]) (hx : AnsAt base w v x) (hbase : base ≤ w.heap.size) :
    Calls Try.prog 54 #[v, .pointer (some ⟨b, 0, none⟩)] w fun e' w' => ∃ v', e' = .returned v' ∧ AnsAt base w' v' (befall e x) ∧ Below base w w' := by
  obtain ⟨a, c, rfl, hr, hn⟩ := hx
  have hrow : ∀ k, (Value.slice a x.data.length c).ownBlock = some k → base ≤ k := fun k hk => (hr.lt k hk).1
  have two := two_below w (.int .i64 x.st) (.slice a x.data.length c) (.int .i64 x.tk)
  have hr2 : (two34 w (.int .i64 x.st) (.slice a x.data.length c) (.int .i64 x.tk)).ownsRow base 5 1 (.slice a x.data.length c) x.data.length (bytesV x.data) := row_same hr (fun k hk => two.block k (hr.lt k hk).2)
  have hbase2 : base ≤ (two34 w (.int .i64 x.st) (.slice a x.data.length c) (.int .i64 x.tk)).heap.size := by rw [two_size]; omega
  have fin : ∀ y, Calls Try.prog 54 #[.agg #[.int .i64 x.st, .slice a x.data.length c, .int .i64 x.tk], .pointer (some ⟨b, 0, none⟩)] w (fun e' w' => ∃ v', e' = .returned v' ∧ AnsAt base w' v' y ∧ w.grownBy w' (Value.slice a x.data.length c).ownBlock) →
      Calls Try.prog 54 #[.agg #[.int .i64 x.st, .slice a x.data.length c, .int .i64 x.tk], .pointer (some ⟨b, 0, none⟩)] w fun e' w' => ∃ v', e' = .returned v' ∧ AnsAt base w' v' y ∧ Below base w w' :=
    fun y hy => hy.mono fun e' w' ⟨v', h1, h2, h3⟩ => ⟨v', h1, h2, (Below.refl base w).grown h3 hbase hrow⟩
  by_cases hst : x.st = 200
  · cases e with
    | tell st => obtain ⟨b', _, _, e1, _⟩ := h; rw [hf] at e1; cases e1
    | forge l => obtain ⟨b', _, _, _, _, _, e1, _⟩ := h; rw [hf] at e1; cases e1
    | cut m =>
      obtain ⟨b', b2, _, _, _, _, e1, h6, h7⟩ := h
      rw [hf] at e1
      cases e1
      refine fin _ (eff54_68 hst h6 hr hbase (hide ?_))
      have e2 : befall (.cut m) x = ⟨200, x.data.take (min m x.data.length), 1⟩ := if_pos hst
      rw [e2]
      exact in68 ((two.cell (p := ⟨b2, 0, none⟩) (lt_of_cell h7)).trans h7) hr2 hn hbase2 _
    | flip m =>
      obtain ⟨b', b2, _, _, _, _, e1, h6, h7, h8⟩ := h
      rw [hf] at e1
      cases e1
      refine fin _ (eff54_69 hst h6 hr hbase (hide ?_))
      have e2 : befall (.flip m) x = ⟨x.st, flipL x.data m, x.tk⟩ := if_pos hst
      rw [e2]
      exact in69 ((two.cell (p := ⟨b2, 0, none⟩) (lt_of_cell h7)).trans h7) h8 hr2 hn
    | late m =>
      obtain ⟨b', b2, _, _, _, _, e1, h6, h7⟩ := h
      rw [hf] at e1
      cases e1
      refine fin _ (eff54_71 hst h6 hr hbase (hide ?_))
      have e2 : befall (.late m) x = ⟨x.st, x.data, m⟩ := if_pos hst
      rw [e2]
      exact in71 ((two.cell (p := ⟨b2, 0, none⟩) (lt_of_cell h7)).trans h7) hr2 hn _
  · have e2 : befall e x = x ∨ (∃ st, e = .tell st) ∨ (∃ l, e = .forge l) := by
      cases e with
      | tell st => exact Or.inr (Or.inl ⟨st, rfl⟩)
      | forge l => exact Or.inr (Or.inr ⟨l, rfl⟩)
      | cut m => exact Or.inl (if_neg hst)
      | flip m => exact Or.inl (if_neg hst)
      | late m => exact Or.inl (if_neg hst)
    rcases e2 with e2 | ⟨st, rfl⟩ | ⟨l, rfl⟩
    · rw [e2]
      exact fin _ (eff54_not hst hr hn)
    · obtain ⟨b', _, _, e1, _⟩ := h; rw [hf] at e1; cases e1
    · obtain ⟨b', _, _, _, _, _, e1, _⟩ := h; rw [hf] at e1; cases e1

theorem do67 {base b : Nat} {w : World} {v : Value} {x : Ans} {st : Int} (hc : w.cell? ⟨b, 0, none⟩ = some (.int .i64 st)) (hx : AnsAt base w v x) (hbase : base ≤ w.heap.size) :
    Calls Try.prog 67 #[v, .pointer (some ⟨b, 0, none⟩)] w fun e' w' => ∃ v', e' = .returned v' ∧ AnsAt base w' v' ⟨st, [], 1⟩ ∧ Below base w w' := by
  obtain ⟨a, c, rfl, hr, hn⟩ := hx
  refine (eff67 hc).mono ?_
  rintro e w' ⟨rfl, hb⟩
  exact ⟨_, rfl, ⟨none, 0, rfl, World.ownsRow_nil _ _ _ _, by simp⟩, hb.mono hbase⟩

theorem do70 {base b : Nat} {w : World} {v : Value} {x : Ans} {a : Option Addr} {n c : Nat} {l : List UInt8} (hc : w.cell? ⟨b, 0, none⟩ = some (.slice a n c)) (hl : Bytes w a n l) (hs : n ≤ 1099511627776) (hx : AnsAt base w v x) (hbase : base ≤ w.heap.size) :
    Calls Try.prog 70 #[v, .pointer (some ⟨b, 0, none⟩)] w fun e' w' => ∃ v', e' = .returned v' ∧ AnsAt base w' v' ⟨200, l, 1⟩ ∧ Below base w w' := by
  obtain ⟨a0, c0, rfl, hr, hn⟩ := hx
  refine (eff70 hc hl (by omega)).mono ?_
  rintro e w' ⟨a', c', rfl, ho, hb⟩
  have e1 := hl.len
  subst e1
  exact ⟨_, rfl, ⟨a', c', rfl, row_up ho hbase, hs⟩, hb.mono hbase⟩

end Go.Proofs.Ytmbcjdlpdibalaa
