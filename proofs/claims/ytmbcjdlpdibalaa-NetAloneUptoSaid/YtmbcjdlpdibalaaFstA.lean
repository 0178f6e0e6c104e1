/-
  first: what it hands in, what its network says.
-/
import Derived.Test.YtmbcjdlpdibalaaTot
import Derived.Test.YtmbcjdlpdibalaaHonB
import Derived.Lib.SlBytesConst
namespace Go.Proofs.Ytmbcjdlpdibalaa
open Go.RowKit Go.WideMaps Go.Maps Go.MuLone

abbrev ua : ByteArray := ⟨#[47, 97]⟩
abbrev ub : ByteArray := ⟨#[47, 98]⟩

abbrev fW (w : World) : World :=
  ((w.alloc (.cells #[.int .u8 97, .int .u8 98, .int .u8 99] 5 (3, 4))).alloc (.cells #[.string ua, .slice (some ⟨w.heap.size, 0, none⟩) 3 3] 68)).alloc
    (.cells #[.string ua, .int .i64 1, .int .i64 1, .int .i64 0, .slice none 0 0, .string ua, .int .i64 2, .int .i64 2, .int .i64 2, .slice none 0 0, .string ua, .int .i64 3, .int .i64 3, .int .i64 8, .slice none 0 0] 50)

abbrev fPs : List Pg := [(ua, [97, 98, 99])]
abbrev fFs : List Fa := [⟨ua, 1, 1, 0, []⟩, ⟨ua, 2, 2, 2, []⟩, ⟨ua, 3, 3, 8, []⟩]

theorem fW_blocks (w : World) : (fW w).heap[w.heap.size]? = some (.cells #[.int .u8 97, .int .u8 98, .int .u8 99] 5 (3, 4)) ∧ (fW w).heap[w.heap.size + 1]? = some (.cells #[.string ua, .slice (some ⟨w.heap.size, 0, none⟩) 3 3] 68 (0, 0)) ∧
    (fW w).heap[w.heap.size + 1 + 1]? = some (.cells #[.string ua, .int .i64 1, .int .i64 1, .int .i64 0, .slice none 0 0, .string ua, .int .i64 2, .int .i64 2, .int .i64 2, .slice none 0 0, .string ua, .int .i64 3, .int .i64 3, .int .i64 8, .slice none 0 0] 50 (0, 0)) ∧ (fW w).heap.size = w.heap.size + 3 ∧ Below w.heap.size w (fW w) := by
  obtain ⟨W1, h1⟩ : ∃ W1, w.alloc (.cells #[.int .u8 97, .int .u8 98, .int .u8 99] 5 (3, 4)) = W1 := ⟨_, rfl⟩
  obtain ⟨W2, h2⟩ : ∃ W2, W1.alloc (.cells #[.string ua, .slice (some ⟨w.heap.size, 0, none⟩) 3 3] 68) = W2 := ⟨_, rfl⟩
  have s1 : W1.heap.size = w.heap.size + 1 := by rw [← h1]; show (w.heap.push _).size = _; simp
  have s2 : W2.heap.size = w.heap.size + 1 + 1 := by rw [← h2]; show (W1.heap.push _).size = _; simp [s1]
  have x1 : W1.heap[w.heap.size]? = some (.cells #[.int .u8 97, .int .u8 98, .int .u8 99] 5 (3, 4)) := by rw [← h1]; exact heap_new w _
  have x2 : W2.heap[w.heap.size + 1]? = some (.cells #[.string ua, .slice (some ⟨w.heap.size, 0, none⟩) 3 3] 68 (0, 0)) := by rw [← h2, ← s1]; exact heap_new W1 _
  have y1 : W2.heap[w.heap.size]? = W1.heap[w.heap.size]? := by rw [← h2]; exact (World.grownBy_alloc W1 _ none).block _ (by omega) (by simp)
  have b1 : Below w.heap.size w W1 := by rw [← h1]; exact (Below.refl _ _).alloc (Nat.le_refl _) _
  have b2 : Below w.heap.size w W2 := by rw [← h2]; exact b1.alloc (by omega) _
  unfold fW
  rw [h1, h2]
  refine ⟨((World.grownBy_alloc W2 _ none).block _ (by omega) (by simp)).trans (y1.trans x1), ((World.grownBy_alloc W2 _ none).block _ (by omega) (by simp)).trans x2, by rw [← s2]; exact heap_new W2 _, by show (W2.heap.push _).size = _; simp [s2], b2.alloc (by omega) _⟩

theorem small_ua : ua.size ≤ maxLen := by decide

theorem bytes_nil (w : World) : Bytes w none 0 [] := ⟨rfl, fun _ => rfl, fun ad h => by cases h⟩

theorem first_pages (w : World) : PgsAt (fW w) (some ⟨w.heap.size + 1, 0, none⟩) 1 fPs := by
  obtain ⟨b0, b1, _, hs, _⟩ := fW_blocks w
  refine ⟨rfl, Or.inr ⟨w.heap.size + 1, 0, rfl, fun k hk => ?_⟩⟩
  have h0 : k = 0 := by simp at hk; omega
  subst h0
  have cd : (fW w).cell? ⟨w.heap.size + 1, 0 + 0 * 2 + 1, none⟩ = some (.slice (some ⟨w.heap.size, 0, none⟩) 3 3) := Lib.cell_of_heap b1 1
  refine ⟨Lib.cell_of_heap b1 0, small_ua, fun a n c h => ?_, some ⟨w.heap.size, 0, none⟩, 3, 3, cd, ⟨rfl, fun h => (by cases h), fun ad h i hi => ?_⟩, by omega, fun ad h _ => ?_⟩
  · rw [cd] at h; cases h; exact Nat.le_refl _
  · cases h
    match i, hi with
    | 0, _ => exact Lib.cell_of_heap b0 0
    | 1, _ => exact Lib.cell_of_heap b0 1
    | 2, _ => exact Lib.cell_of_heap b0 2
  · cases h
    show w.heap.size < _
    omega

theorem wf3 (x y z : Int) (h : (Lit.int .i64 x).wf = true ∧ (Lit.int .i64 y).wf = true ∧ (Lit.int .i64 z).wf = true) : (Lit.int .i64 x).wf = true ∧ (Lit.int .i64 y).wf = true ∧ (Lit.int .i64 z).wf = true := h

theorem first_faults (w : World) : FasAt (fW w) (some ⟨w.heap.size + 1 + 1, 0, none⟩) 3 fFs := by
  obtain ⟨_, _, b2, hs, _⟩ := fW_blocks w
  refine ⟨rfl, Or.inr ⟨w.heap.size + 1 + 1, 0, rfl, fun k hk => ?_⟩⟩
  match k, hk with
  | 0, _ => exact ⟨Lib.cell_of_heap b2 0, small_ua, ⟨Lib.cell_of_heap b2 1, Lib.cell_of_heap b2 2, Lib.cell_of_heap b2 3⟩, wf3 1 1 0 (by decide), none, 0, 0, Lib.cell_of_heap b2 4, bytes_nil _, by omega, fun ad h => by cases h⟩
  | 1, _ => exact ⟨Lib.cell_of_heap b2 5, small_ua, ⟨Lib.cell_of_heap b2 6, Lib.cell_of_heap b2 7, Lib.cell_of_heap b2 8⟩, wf3 2 2 2 (by decide), none, 0, 0, Lib.cell_of_heap b2 9, bytes_nil _, by omega, fun ad h => by cases h⟩
  | 2, _ => exact ⟨Lib.cell_of_heap b2 10, small_ua, ⟨Lib.cell_of_heap b2 11, Lib.cell_of_heap b2 12, Lib.cell_of_heap b2 13⟩, wf3 3 3 8 (by decide), none, 0, 0, Lib.cell_of_heap b2 14, bytes_nil _, by omega, fun ad h => by cases h⟩

def fS : St := addS (addS (addS (setS emptyS ua [97, 98, 99]) ua 1 (.tell 0)) ua 2 (.cut 2)) ua 3 (.flip 8)

theorem valid_ua : validB ua = true := by simp [validB, ByteArray.toList_eq, ByteArray.size]

theorem ub_ne : ¬ ub = ua := by decide

theorem first_new : newR fPs fFs = .ok fS := by
  have e1 : stepP emptyS (ua, [97, 98, 99]) = .ok (setS emptyS ua [97, 98, 99]) := by simp [stepP, emptyS, valid_ua]
  have e2 : ∀ s : St, s.ft ua 1 = none → stepF s ⟨ua, 1, 1, 0, []⟩ = .ok (addS s ua 1 (.tell 0)) := fun s h => by simp [stepF, valid_ua, effOf, h]
  have e3 : ∀ s : St, s.ft ua 2 = none → stepF s ⟨ua, 2, 2, 2, []⟩ = .ok (addS s ua 2 (.cut 2)) := fun s h => by simp [stepF, valid_ua, effOf, h]
  have e4 : ∀ s : St, s.ft ua 3 = none → stepF s ⟨ua, 3, 3, 8, []⟩ = .ok (addS s ua 3 (.flip 8)) := fun s h => by simp [stepF, valid_ua, effOf, h]
  simp only [newR, run, e1]
  rw [e2 _ (by simp [setS, emptyS])]
  simp only
  rw [e3 _ (by simp [addS, setS, emptyS])]
  simp only
  rw [e4 _ (by simp [addS, setS, emptyS])]
  rfl

theorem get1 : getR fS ua = ⟨0, [], 1⟩ := by simp [getR, fS, addS, setS, emptyS, befall]
theorem get2 : getR (getS fS ua) ua = ⟨200, [97, 98], 1⟩ := by simp [getR, getS, fS, addS, setS, emptyS, befall, honestR]
theorem get3 : getR (getS (getS fS ua) ua) ua = ⟨200, [97, 99, 99], 1⟩ := by
  simp [getR, getS, fS, addS, setS, emptyS, befall, honestR, flipL]
  decide
theorem get4 : getR (getS (getS (getS fS ua) ua) ua) ub = ⟨404, [], 1⟩ := by simp [getR, getS, fS, addS, setS, emptyS, honestR]

abbrev fS4 : St := getS (getS (getS (getS fS ua) ua) ua) ub

theorem asked4 : fS4.aq ua = 3 ∧ fS4.n = 8 := by
  have : ¬ ua = ub := by decide
  constructor
  · simp [getS, fS, addS, setS, emptyS, this]
  · rfl

theorem total4 : sumL fS4.aq (fun _ => true) [ua, ub] = 4 := by
  have : ¬ ua = ub := by decide
  simp [sumL, getS, fS, addS, setS, emptyS, this]

theorem zero4 (u : ByteArray) (h : u ∉ [ua, ub]) : fS4.aq u = 0 := by
  simp only [List.mem_cons, not_or] at h
  simp [getS, fS, addS, setS, emptyS, h.1, h.2.1]

end Go.Proofs.Ytmbcjdlpdibalaa
