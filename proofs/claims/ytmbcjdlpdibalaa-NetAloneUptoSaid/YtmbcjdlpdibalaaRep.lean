/-
  A network in memory: pages, faults, how often each was asked; honest.
-/
import Derived.Test.YtmbcjdlpdibalaaEff5
namespace Go.Proofs.Ytmbcjdlpdibalaa
open Go.RowKit Go.WideMaps Go.Maps

theorem zero32 (w : World) : (zeroValue 32).run Try.prog w = .ok (.slice none 0 0) w := by kernel_rfl
theorem zero84 (w : World) : (zeroValue 84).run Try.prog w = .ok .nilFunc w := by kernel_rfl
theorem zero3 (w : World) : (zeroValue 3).run Try.prog w = .ok (.int .i64 0) w := by kernel_rfl
theorem zero96 (w : World) : (zeroValue 96).run Try.prog w = .ok (.agg #[.bool false, .nilFunc]) w := by kernel_rfl
theorem keyS {u : ByteArray} (h : u.size ≤ maxLen) : keyOf Try.prog 9 (.string u) = some (.string u.data.toList) := keyOf_string_mk Try.underlying9 h

/-- What the map of pages says of a URL. -/
def PageAt (lo hi : Nat) (w : World) (D : DataW Value) (u : ByteArray) : Option (List UInt8) → Prop
  | none => Maps.has D (.string u.data.toList) = false
  | some l => Maps.has D (.string u.data.toList) = true ∧ ∃ a n c, (∀ z, D.atKey (.string u.data.toList) z = .held (.slice a n c)) ∧ Bytes w a n l ∧ n ≤ 1099511627776 ∧ ∀ ad, a = some ad → lo ≤ ad.block ∧ ad.block < hi

theorem bytes_keep {lo hi : Nat} {w w' : World} {a : Option Addr} {n : Nat} {l : List UInt8} (h : Bytes w a n l) (hin : ∀ ad, a = some ad → lo ≤ ad.block ∧ ad.block < hi) (hs : ∀ k, lo ≤ k → k < hi → w'.heap[k]? = w.heap[k]?) : Bytes w' a n l :=
  ⟨h.len, h.nil, fun ad ha i hi => by
    obtain ⟨k1, k2⟩ := hin ad ha
    have hb : (ad.add i).block = ad.block := by first | rfl | (simp [Addr.add]; done) | (unfold Addr.add; split <;> rfl)
    exact cell_same (a := ad.add i) (hs _ (by rw [hb]; exact k1) (by rw [hb]; exact k2)) (h.cell ad ha i hi)⟩

theorem PageAt.keep {lo hi : Nat} {w w' : World} {D : DataW Value} {u : ByteArray} {r : Option (List UInt8)} (h : PageAt lo hi w D u r) (hs : ∀ k, lo ≤ k → k < hi → w'.heap[k]? = w.heap[k]?) : PageAt lo hi w' D u r := by
  cases r with
  | none => exact h
  | some l => obtain ⟨h1, a, n, c, h2, h3, h4, h5⟩ := h; exact ⟨h1, a, n, c, h2, bytes_keep h3 h5 hs, h4, h5⟩

def honestR : Option (List UInt8) → Ans
  | none => ⟨404, [], 1⟩
  | some l => ⟨200, l, 1⟩

theorem held_inv {v : Value} {d : DataW Value} {ps : List MemPlace} (h : heldR v = some (d, ps)) : d = .held v := by
  unfold heldR at h
  simp at h
  exact h.1.symm

set_option maxHeartbeats 1000000 in
theorem honest_any {lo hi F P n : Nat} {w : World} {D : DataW Value} {u : ByteArray} {r : Option (List UInt8)} (c2 : w.cell? ⟨F, 2, none⟩ = some (.map (some P))) (hown : w.ownsMap Try.prog 9 heldR P n D) (hu : u.size ≤ maxLen) (hp : PageAt lo hi w D u r) :
    Calls Try.prog 32 #[.pointer (some ⟨F, 0, none⟩), .string u] w fun e w' => ∃ v, e = .returned v ∧ AnsAt w.heap.size w' v (honestR r) ∧ Below w.heap.size w w' := by
  have hkey := keyS hu
  have hF := lt_of_cell c2
  have b0 : Below w.heap.size w (w.alloc zero34) := (Below.refl _ _).alloc (Nat.le_refl _) _
  have c2' : (w.alloc zero34).cell? ⟨F, 2, none⟩ = some (.map (some P)) := (b0.cell (p := ⟨F, 2, none⟩) hF).trans c2
  have hown' := hown.alloc zero34
  have HOWN := hide hown'
  have hsz : (w.alloc zero34).heap.size = w.heap.size + 1 := by show (w.heap.push _).size = _; simp
  have hblk0 : (w.alloc zero34).heap[w.heap.size]? = some (.cells #[.int .i64 0, .slice none 0 0, .int .i64 0] 34 (0, 0)) := heap_new w _
  cases r with
  | none =>
    have hh : Maps.has D (.string u.data.toList) = false := hp
    clear hp hown hown'
    go_enter Try.func32, Try.ntmps32
    go_wp2_with (first
      | (at_lookup; refine wpList_lookup_own_ok _ rfl _ _ 70 rfl 9 32 lawS Try.underlying70 heldR (zero32 _) (.held (.slice none 0 0)) [] rfl P n D rfl (unhide HOWN) _ _ rfl hkey ?_; intro v ps hv)
      | (go_at_call 44; fail))
    refine (bare_any 404 (w.alloc zero34)).mono ?_
    rintro e w2 ⟨rfl, b2⟩
    have hblk : w2.heap[w.heap.size]? = some (.cells #[.int .i64 0, .slice none 0 0, .int .i64 0] 34 (0, 0)) := (b2.block w.heap.size (by omega)).trans hblk0
    obtain ⟨⟨d0, d1, d2⟩, f0, f1, f2⟩ := three_cells hblk
    have HD := hide (res_done hblk (B := w.heap.size) (a := w) (Nat.le_refl _) (below_trans b0 b2) (.int .i64 404) (.slice none 0 0) (.int .i64 1))
    clear hblk b2 hblk0 c2'
    go_wp2
    obtain ⟨⟨e0, e1, e2⟩, hB, _⟩ := (unhide HD) _ rfl
    exact bodyPost_ret (v := .agg #[.int .i64 404, .slice none 0 0, .int .i64 1]) (by simp [results, Try.results32, go_sem, e0, e1, e2]) rfl ⟨_, rfl, ⟨none, 0, rfl, World.ownsRow_nil _ _ _ _, by simp [honestR]⟩, hB⟩
  | some l =>
    obtain ⟨hh, a, m, c, hat, hb, hm, hin⟩ := hp
    have HW := hide (fun (c' : Nat) => whole_any c' (bytes_below hb b0) (by omega))
    have HAT := hide hat
    have HLEN := hide hb.len
    clear hown hown' hat hb hin
    go_enter Try.func32, Try.ntmps32
    go_wp2_with (first
      | (at_lookup; refine wpList_lookup_own_ok _ rfl _ _ 70 rfl 9 32 lawS Try.underlying70 heldR (zero32 _) (.held (.slice none 0 0)) [] rfl P n D rfl (unhide HOWN) _ _ rfl hkey ?_; intro v ps hv; have ev : v = .slice a m c := by { have h1 := held_inv hv; rw [unhide HAT] at h1; cases h1; rfl }; rw [ev]; clear hv ev)
      | (go_at_call 45; fail))
    refine ((unhide HW) c).mono ?_
    rintro e w2 ⟨a', c', rfl, hown2, b2⟩
    have hblk : w2.heap[w.heap.size]? = some (.cells #[.int .i64 0, .slice none 0 0, .int .i64 0] 34 (0, 0)) := (b2.block w.heap.size (by omega)).trans hblk0
    obtain ⟨⟨d0, d1, d2⟩, f0, f1, f2⟩ := three_cells hblk
    have HD := hide (res_done hblk (B := w.heap.size) (a := w) (Nat.le_refl _) (below_trans b0 b2) (.int .i64 200) (.slice a' m c') (.int .i64 1))
    have HO := hide hown2
    have HNE : Hid (∀ k, (Value.slice a' m c').ownBlock = some k → k ≠ w.heap.size) := fun k hk e => by have := (hown2.lt k hk).1; omega
    clear hblk b2 hblk0 c2' hown2 HW
    go_wp2
    obtain ⟨⟨e0, e1, e2⟩, hB, hK⟩ := (unhide HD) _ rfl
    have hl := unhide HLEN
    subst hl
    exact bodyPost_ret (v := .agg #[.int .i64 200, .slice a' l.length c', .int .i64 1]) (by simp [results, Try.results32, go_sem, e0, e1, e2]) rfl ⟨_, rfl, ⟨a', c', rfl, row_up (row_same (unhide HO) (fun k hk => hK k ((unhide HNE) k hk))) (by omega), hm⟩, hB⟩

end Go.Proofs.Ytmbcjdlpdibalaa
