/-
  Two networks beside each other: what one does leaves the other as it was.
-/
import Derived.Test.YtmbcjdlpdibalaaTot
import Derived.Test.YtmbcjdlpdibalaaHonB
namespace Go.Proofs.Ytmbcjdlpdibalaa
open Go.RowKit Go.WideMaps Go.Maps Go.MuLone

/-- A block that is none of a network's. -/
structure Off (x : Nat) (G : Gh) : Prop where
  F : x ≠ G.F
  P : x ≠ G.P
  T : x ≠ G.T
  A : x ≠ G.A
  far : ¬ (G.lo ≤ x ∧ x < G.hi)

theorem Rep.other {w w' : World} {G : Gh} {s : St} {x y : Nat} (h : Rep w G s) (hx : Off x G) (hy : Off y G) (hs : w.heap.size ≤ w'.heap.size) (hk : ∀ k, k < w.heap.size → k ≠ x → k ≠ y → w'.heap[k]? = w.heap[k]?) : Rep w' G s := by
  obtain ⟨o1, o2, o3, o4, o5, o6⟩ := h.ord
  have hC : ∀ k, G.lo ≤ k → k < G.hi → w'.heap[k]? = w.heap[k]? := fun k h1 h2 => hk k (by omega) (fun e => hx.far (by omega)) (fun e => hy.far (by omega))
  obtain ⟨DP, oP, hP⟩ := h.pages
  obtain ⟨DT, oT, hT⟩ := h.faults
  obtain ⟨DA, oA, hA⟩ := h.asked
  exact ⟨(hk _ (by omega) (fun e => hx.F e.symm) (fun e => hy.F e.symm)).trans h.blk, ⟨DP, own_same oP (hk _ (by omega) (fun e => hx.P e.symm) (fun e => hy.P e.symm)), fun v hv => (hP v hv).keep hC⟩, ⟨DT, own_same oT (hk _ (by omega) (fun e => hx.T e.symm) (fun e => hy.T e.symm)), fun v k hv hk => (hT v k hv hk).keep hC⟩, ⟨DA, own_same oA (hk _ (by omega) (fun e => hx.A e.symm) (fun e => hy.A e.symm)), hA⟩, h.small, ⟨o1, o2, o3, o4, o5, by omega⟩, h.ne⟩

/-- Two networks, neither with a block of the other's. -/
structure Pair (w : World) (G1 G2 : Gh) (s1 s2 : St) : Prop where
  one : Rep w G1 s1
  two : Rep w G2 s2
  off1 : Off G1.F G2 ∧ Off G1.A G2
  off2 : Off G2.F G1 ∧ Off G2.A G1

theorem Pair.below {w w' : World} {G1 G2 : Gh} {s1 s2 : St} (h : Pair w G1 G2 s1 s2) (hb : Below w.heap.size w w') : Pair w' G1 G2 s1 s2 := ⟨h.one.below hb, h.two.below hb, h.off1, h.off2⟩

theorem Pair.get1 {w w' : World} {G1 G2 : Gh} {s1 s2 t : St} (h : Pair w G1 G2 s1 s2) (hr : Rep w' G1 t) (hf : Fr G1 w w') : Pair w' G1 G2 t s2 :=
  ⟨hr, h.two.other h.off1.1 h.off1.2 hf.size hf.block, h.off1, h.off2⟩

theorem Pair.get2 {w w' : World} {G1 G2 : Gh} {s1 s2 t : St} (h : Pair w G1 G2 s1 s2) (hr : Rep w' G2 t) (hf : Fr G2 w w') : Pair w' G1 G2 s1 t :=
  ⟨h.one.other h.off2.1 h.off2.2 hf.size hf.block, hr, h.off1, h.off2⟩

/-- Two networks of one making, asked as often, answer alike. -/
theorem getR_same {s1 s2 : St} {u : ByteArray} (hp : s1.pg u = s2.pg u) (hf : ∀ k, s1.ft u k = s2.ft u k) (ha : s1.aq u = s2.aq u) : getR s1 u = getR s2 u := by
  unfold getR
  rw [ha, hf, hp]

end Go.Proofs.Ytmbcjdlpdibalaa
