/-
  first: its four requests.
-/
import Derived.Test.YtmbcjdlpdibalaaFstA
namespace Go.Proofs.Ytmbcjdlpdibalaa
open Go.RowKit Go.WideMaps Go.Maps Go.MuLone

/-- A request whose answer has been put into a box. -/
structure GetDone (G : Gh) (s : St) (u : ByteArray) (x : Ans) (a : Option Addr) (c : Nat) (w w' W : World) : Prop where
  rep : Rep W G (getS s u)
  box : W.heap[w'.heap.size]? = some (.cells #[.int .i64 x.st, .slice a x.data.length c, .int .i64 x.tk] 34 (0, 0))
  bytes : Bytes W a x.data.length x.data
  lies : ∀ ad, a = some ad → ∃ g, ad = ⟨g, 0, none⟩ ∧ w.heap.size ≤ g ∧ g < W.heap.size
  size : w.heap.size ≤ w'.heap.size ∧ w'.heap.size < W.heap.size
  keep : ∀ k, k < w.heap.size → k ≠ G.F → k ≠ G.A → W.heap[k]? = w.heap[k]?
  os : W.os = w.os ∧ W.tape = w.tape ∧ W.output = w.output

theorem fget {w : World} {G : Gh} {s : St} {u : ByteArray} {x : Ans} (h : Rep w G s) (hn : s.n ≤ 1000000) (hu : u.size ≤ maxLen) (hx : getR s u = x) :
    Calls Try.prog 10 #[.pointer (some ⟨G.F, 0, none⟩), .string u] w fun e w' => ∃ a c, e = .returned (.agg #[.int .i64 x.st, .slice a x.data.length c, .int .i64 x.tk]) ∧ GetDone G s u x a c w w' (w'.alloc (.cells #[.int .i64 x.st, .slice a x.data.length c, .int .i64 x.tk] 34)) := by
  refine (get_any h hn hu).mono ?_
  rintro e w' ⟨v, rfl, hans, hr, hf⟩
  rw [hx] at hans
  obtain ⟨a, c, rfl, hrow, _⟩ := hans
  obtain ⟨q1, _, _, q4⟩ := row_bytes hrow
  refine ⟨a, c, rfl, ?_⟩
  obtain ⟨W, hW⟩ : ∃ W, w'.alloc (.cells #[.int .i64 x.st, .slice a x.data.length c, .int .i64 x.tk] 34) = W := ⟨_, rfl⟩
  have al : Below w'.heap.size w' W := by rw [← hW]; exact (Below.refl _ _).alloc (Nat.le_refl _) _
  have sz : W.heap.size = w'.heap.size + 1 := by rw [← hW]; show (w'.heap.push _).size = _; simp
  have bx : W.heap[w'.heap.size]? = some (.cells #[.int .i64 x.st, .slice a x.data.length c, .int .i64 x.tk] 34 (0, 0)) := by rw [← hW]; exact heap_new w' _
  have s1 := hf.size
  rw [hW]
  exact ⟨hr.below al, bx, bytes_below q1 al, fun ad ha => by obtain ⟨g, e, g1, g2⟩ := q4 ad ha; exact ⟨g, e, g1, by omega⟩, ⟨s1, by omega⟩, fun k h1 h2 h3 => (al.block k (by omega)).trans (hf.block k h1 h2 h3), al.os.trans hf.os, al.tape.trans hf.tape, al.output.trans hf.output⟩

theorem bytes_far {w W : World} {a : Option Addr} {n lo : Nat} {l : List UInt8} (h : Bytes w a n l) (hl : ∀ ad, a = some ad → ∃ g, ad = ⟨g, 0, none⟩ ∧ lo ≤ g ∧ g < w.heap.size) (hk : ∀ k, lo ≤ k → k < w.heap.size → W.heap[k]? = w.heap[k]?) : Bytes W a n l :=
  ⟨h.len, h.nil, fun ad ha i hi => by
    obtain ⟨g, rfl, g1, g2⟩ := hl ad ha
    have := h.cell _ ha i hi
    rw [WideShapes.add_plain] at this ⊢
    exact cell_same (a := ⟨g, 0 + i, none⟩) (hk g g1 g2) this⟩

theorem to_text {w : World} {a : Option Addr} {c : Nat} {l : List UInt8} (h : Bytes w a l.length l) (hl : l ≠ []) : (convert 32 9 (.slice a l.length c)).run Try.prog w = .ok (.string ⟨l.toArray⟩) w := by
  cases a with
  | none => exact absurd (List.length_eq_zero_iff.1 (h.nil rfl)) hl
  | some ad =>
    refine run_convert_bytes_back (P := Try.prog) w 32 9 5 ad c l Try.underlying32 Try.underlying5 Try.underlying9 (fun j hj => ?_)
    have := h.cell ad rfl j hj
    rw [this]
    simp [List.getD_eq_getElem?_getD, hj]

theorem small_ub : ub.size ≤ maxLen := by decide

theorem fS_n : fS.n ≤ 1000000 := by decide

theorem nodup_ab : [ua, ub].Nodup := by
  have : ¬ ua = ub := fun e => ub_ne e.symm
  simp [this]

theorem small_ab : ∀ u ∈ [ua, ub], u.size ≤ maxLen := by
  intro u hu
  rcases List.mem_cons.1 hu with h | hu
  · rw [h]; exact small_ua
  · rcases List.mem_cons.1 hu with h | hu
    · rw [h]; exact small_ub
    · cases hu

/-- What first's last lines read. -/
structure FirstDone (w W5 : World) (F b2 b3 b4 b5 : Nat) (a3 a4 : Option Addr) (c3 c4 : Nat) : Prop where
  y2 : W5.cell? ⟨b2, 0, none⟩ = some (.int .i64 0)
  y3 : W5.cell? ⟨b3, 0, none⟩ = some (.int .i64 200) ∧ W5.cell? ⟨b3, 1, none⟩ = some (.slice a3 2 c3)
  y4 : W5.cell? ⟨b4, 1, none⟩ = some (.slice a4 3 c4)
  y5 : W5.cell? ⟨b5, 0, none⟩ = some (.int .i64 404)
  t3 : (convert 32 9 (.slice a3 2 c3)).run Try.prog W5 = .ok (.string ⟨#[97, 98]⟩) W5
  t4 : (convert 32 9 (.slice a4 3 c4)).run Try.prog W5 = .ok (.string ⟨#[97, 99, 99]⟩) W5
  ask : Calls Try.prog 12 #[.pointer (some ⟨F, 0, none⟩), .string ua] W5 fun e w' => e = .returned (.int .i64 3) ∧ Below W5.heap.size W5 w'
  tot : ∀ w6, Below W5.heap.size W5 w6 → Calls Try.prog 14 #[.pointer (some ⟨F, 0, none⟩)] w6 fun e w' => e = .returned (.int .i64 4) ∧ Below w6.heap.size w6 w'
  res : ∀ w6 w7, Below W5.heap.size W5 w6 → Below w6.heap.size w6 w7 → Below w.heap.size w w7

theorem get_low {F P T A lo hi : Nat} {w u v v' : World} {s : St} {q : ByteArray} {x : Ans} {a : Option Addr} {c : Nat} (d : GetDone ⟨F, P, T, A, lo, hi⟩ s q x a c u v v') (b : Below w.heap.size w u) (hF : w.heap.size ≤ F) (hA : w.heap.size ≤ A) : Below w.heap.size w v' := by
  have h1 := b.size
  have h2 := d.size
  exact ⟨d.os.1.trans b.os, d.os.2.1.trans b.tape, d.os.2.2.trans b.output, by omega, fun k hk => (d.keep k (by omega) (by show k ≠ F; omega) (by show k ≠ A; omega)).trans (b.block k hk)⟩

theorem first_facts {F P T A lo hi c2 c3 c4 c5 : Nat} {a2 a3 a4 a5 : Option Addr} {w w1 w2 w3 w4 w5 W2 W3 W4 W5 : World} (D2 : GetDone ⟨F, P, T, A, lo, hi⟩ fS ua ⟨0, [], 1⟩ a2 c2 w1 w2 W2) (D3 : GetDone ⟨F, P, T, A, lo, hi⟩ (getS fS ua) ua ⟨200, [97, 98], 1⟩ a3 c3 W2 w3 W3) (D4 : GetDone ⟨F, P, T, A, lo, hi⟩ (getS (getS fS ua) ua) ua ⟨200, [97, 99, 99], 1⟩ a4 c4 W3 w4 W4) (D5 : GetDone ⟨F, P, T, A, lo, hi⟩ (getS (getS (getS fS ua) ua) ua) ub ⟨404, [], 1⟩ a5 c5 W4 w5 W5) (hb : Below w.heap.size w w1) (hge : w.heap.size ≤ F ∧ w.heap.size ≤ A) (hord : F < w1.heap.size ∧ A < w1.heap.size) :
    FirstDone w W5 F w2.heap.size w3.heap.size w4.heap.size w5.heap.size a3 a4 c3 c4 := by
  obtain ⟨z1, z2⟩ := D2.size
  obtain ⟨z3, z4⟩ := D3.size
  obtain ⟨z5, z6⟩ := D4.size
  obtain ⟨z7, z8⟩ := D5.size
  obtain ⟨g1, g2⟩ := hge
  obtain ⟨o1, o2⟩ := hord
  have k5 : ∀ k, w1.heap.size ≤ k → k < W4.heap.size → W5.heap[k]? = W4.heap[k]? := fun k h1 h2 => D5.keep k h2 (by show k ≠ F; omega) (by show k ≠ A; omega)
  have k4 : ∀ k, w1.heap.size ≤ k → k < W3.heap.size → W5.heap[k]? = W3.heap[k]? := fun k h1 h2 => (k5 k h1 (by omega)).trans (D4.keep k h2 (by show k ≠ F; omega) (by show k ≠ A; omega))
  have k3 : ∀ k, w1.heap.size ≤ k → k < W2.heap.size → W5.heap[k]? = W2.heap[k]? := fun k h1 h2 => (k4 k h1 (by omega)).trans (D3.keep k h2 (by show k ≠ F; omega) (by show k ≠ A; omega))
  have x2 := (k3 w2.heap.size (by omega) (by omega)).trans D2.box
  have x3 := (k4 w3.heap.size (by omega) (by omega)).trans D3.box
  have x4 := (k5 w4.heap.size (by omega) (by omega)).trans D4.box
  have x5 := D5.box
  have hL : Below w.heap.size w W5 := get_low D5 (get_low D4 (get_low D3 (get_low D2 hb g1 g2) g1 g2) g1 g2) g1 g2
  have h5 := hL.size
  refine ⟨Lib.cell_of_heap x2 0, ⟨Lib.cell_of_heap x3 0, Lib.cell_of_heap x3 1⟩, Lib.cell_of_heap x4 1, Lib.cell_of_heap x5 0, ?_, ?_, ?_, ?_, ?_⟩
  · exact to_text (l := [97, 98]) (bytes_far D3.bytes D3.lies (fun k h1 h2 => k4 k (by omega) h2)) (by simp)
  · exact to_text (l := [97, 99, 99]) (bytes_far D4.bytes D4.lies (fun k h1 h2 => k5 k (by omega) h2)) (by simp)
  · refine (asked_any D5.rep small_ua).mono ?_
    rintro e w' ⟨rfl, hb⟩
    exact ⟨by rw [asked4.1]; rfl, hb⟩
  · intro w6 hb
    have hr : Rep w6 ⟨F, P, T, A, lo, hi⟩ fS4 := D5.rep.below hb
    have hz : ∀ u : ByteArray, u.size ≤ maxLen → u ∉ [ua, ub] → fS4.aq u = 0 := fun u _ h => zero4 u h
    have hm : ∀ u ∈ [ua, ub], u.size ≤ maxLen := small_ab
    refine (total_any hr nodup_ab hz hm total4 (by omega)).mono ?_
    rintro e w' ⟨rfl, hb⟩
    exact ⟨rfl, hb⟩
  · intro w6 w7 h1 h2
    have h6 := h1.size
    exact (hL.trans (h1.mono (by omega))).trans (h2.mono (by omega))

end Go.Proofs.Ytmbcjdlpdibalaa
