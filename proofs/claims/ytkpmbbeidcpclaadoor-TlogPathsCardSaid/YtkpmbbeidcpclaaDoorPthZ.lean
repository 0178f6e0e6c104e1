/-
  Reading a row of tiles and a row of texts.
-/
import Derived.Test.YtkpmbbeidcpclaaDoorPthY
import Derived.Lib.FrozenHead
namespace Go.Proofs.YtkpmbbeidcpclaaDoor
open Go.RowKit

theorem tisV_at : ∀ (ts : List Ti) (k : Nat) (hk : k < ts.length),
    (tisV ts)[k * 4]? = some (.int .i64 (ts[k].h : Int)) ∧ (tisV ts)[k * 4 + 1]? = some (.int .i64 (ts[k].l : Int)) ∧ (tisV ts)[k * 4 + 2]? = some (.int .i64 (ts[k].n : Int)) ∧ (tisV ts)[k * 4 + 3]? = some (.int .i64 (ts[k].w : Int))
  | [], _, hk => by simp at hk
  | t :: r, 0, _ => ⟨rfl, rfl, rfl, rfl⟩
  | t :: r, k + 1, hk => by
    have ih := tisV_at r k (by simpa using hk)
    have e : (k + 1) * 4 = k * 4 + 4 := by omega
    rw [e]
    refine ⟨?_, ?_, ?_, ?_⟩
    · show (tisV (t :: r))[k * 4 + 4]? = _
      simpa [tisV] using ih.1
    · rw [show k * 4 + 4 + 1 = k * 4 + 1 + 4 by omega]
      simpa [tisV] using ih.2.1
    · rw [show k * 4 + 4 + 2 = k * 4 + 2 + 4 by omega]
      simpa [tisV] using ih.2.2.1
    · rw [show k * 4 + 4 + 3 = k * 4 + 3 + 4 by omega]
      simpa [tisV] using ih.2.2.2

/-- The cells of a row of tiles. -/
structure TiRd (w : World) (a : Option Addr) (ts : List Ti) : Prop where
  els : ts = [] ∨ ∃ B, a = some ⟨B, 0, none⟩ ∧ ∀ k (hk : k < ts.length), w.cell? ⟨B, k * 4, none⟩ = some (.int .i64 (ts[k].h : Int)) ∧ w.cell? ⟨B, k * 4 + 1, none⟩ = some (.int .i64 (ts[k].l : Int)) ∧ w.cell? ⟨B, k * 4 + 2, none⟩ = some (.int .i64 (ts[k].n : Int)) ∧ w.cell? ⟨B, k * 4 + 3, none⟩ = some (.int .i64 (ts[k].w : Int))

theorem TiAt.read {base : Nat} {w : World} {v : Value} {ts : List Ti} (h : TiAt base w v ts) : ∃ a c, v = .slice a ts.length c ∧ TiRd w a ts := by
  rcases h.2 with ⟨rfl, h0⟩ | ⟨g, cap, _, rfl, _⟩
  · exact ⟨none, 0, by rw [h0], ⟨Or.inl (List.length_eq_zero_iff.1 h0)⟩⟩
  · refine ⟨_, cap, rfl, ⟨Or.inr ⟨g, rfl, fun k hk => ?_⟩⟩⟩
    have hc := World.ownsRowF.cells (World.ownsRowF_of h) (g := g) rfl
    obtain ⟨a0, a1, a2, a3⟩ := tisV_at ts k hk
    have key : ∀ j u, (tisV ts)[j]? = some u → w.cell? ⟨g, j, none⟩ = some u := fun j u hj => by
      have := hc j u hj
      rw [WideShapes.add_plain, Nat.zero_add] at this
      exact this
    exact ⟨key _ _ a0, key _ _ a1, key _ _ a2, key _ _ a3⟩
theorem TxAt.read {base : Nat} {w : World} {v : Value} {xs : List ByteArray} (h : TxAt base w v xs) : ∃ a c, v = .slice a xs.length c ∧ StAt w a xs := by
  rcases h.2 with ⟨rfl, h0⟩ | ⟨g, cap, _, rfl, _⟩
  · exact ⟨none, 0, by rw [h0], ⟨Or.inl (List.length_eq_zero_iff.1 h0)⟩⟩
  · refine ⟨_, cap, rfl, ⟨Or.inr ⟨g, 0, rfl, fun k hk => ?_⟩⟩⟩
    have hc := World.ownsRowF.cells (World.ownsRowF_of h) (g := g) rfl k (.string xs[k]) (by unfold txsV; rw [List.getElem?_map, List.getElem?_eq_getElem hk]; rfl)
    rw [WideShapes.add_plain] at hc
    exact hc
end Go.Proofs.YtkpmbbeidcpclaaDoor
