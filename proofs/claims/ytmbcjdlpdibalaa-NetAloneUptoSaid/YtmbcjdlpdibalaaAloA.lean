/-
  NetAlone: what is counted; what holds ahead of each request.
-/
import Derived.Test.YtmbcjdlpdibalaaTwo
import Derived.Test.YtmbcjdlpdibalaaFstB
import Derived.Test.YtmbcjdlpdibalaaUrls
namespace Go.Proofs.Ytmbcjdlpdibalaa
open Go.RowKit Go.WideMaps Go.Maps Go.MuLone

/-- Of all that were asked there are i requests. -/
def Cnt (s : St) (i : Nat) : Prop := ∀ us : List ByteArray, us.Nodup → (∀ u : ByteArray, u.size ≤ maxLen → u ∉ us → s.aq u = 0) → (∀ u ∈ us, u.size ≤ maxLen) → sumL s.aq (fun _ => true) us = i

theorem sum_struck {s : St} {u : ByteArray} {left : Lit → Bool} {us : List ByteArray} : sumL (getS s u).aq (strike left u) us = sumL s.aq (strike left u) us := by
  induction us with
  | nil => rfl
  | cons v us ih =>
    simp only [sumL]
    rw [ih]
    by_cases e : v = u
    · subst e; rw [strike_same]; rfl
    · have : (getS s u).aq v = s.aq v := by simp [getS, e]
      rw [this]

theorem Cnt.get {s : St} {i : Nat} {u : ByteArray} (h : Cnt s i) (hu : u.size ≤ maxLen) : Cnt (getS s u) (i + 1) := by
  intro us nd all sm
  have hmem : u ∈ us := by
    refine Classical.byContradiction fun hn => ?_
    have := all u hu hn
    simp [getS] at this
  have h1 := h us nd (fun v hv hn => by
    have h2 := all v hv hn
    by_cases e : v = u
    · exact absurd (e ▸ hmem) hn
    · simpa [getS, e] using h2) sm
  rw [sum_in nd hmem rfl] at h1 ⊢
  rw [sum_struck]
  have : (getS s u).aq u = s.aq u + 1 := by simp [getS]
  omega

theorem Cnt.zero {s : St} (h : ∀ u, s.aq u = 0) : Cnt s 0 := by
  intro us h1 h2 h3
  clear h1 h2 h3
  induction us with
  | nil => rfl
  | cons v us ih => simp [sumL, h, ih]

/-- The slice at a, of n texts, holds ts. -/
structure TextsAt (w : World) (a : Option Addr) (n : Nat) (ts : List ByteArray) : Prop where
  len : ts.length = n
  els : n = 0 ∨ ∃ b o, a = some ⟨b, o, none⟩ ∧ ∀ k (hk : k < ts.length), w.cell? ⟨b, o + k, none⟩ = some (.string ts[k]) ∧ ts[k].size ≤ maxLen

theorem TextsAt.below {w w' : World} {a : Option Addr} {n : Nat} {ts : List ByteArray} (h : TextsAt w a n ts) (hb : Below w.heap.size w w') : TextsAt w' a n ts := by
  refine ⟨h.len, ?_⟩
  rcases h.els with h0 | ⟨b, o, ha, he⟩
  · exact Or.inl h0
  · refine Or.inr ⟨b, o, ha, fun k hk => ?_⟩
    obtain ⟨h1, h2⟩ := he k hk
    have hlt := lt_of_cell h1
    simp only at hlt
    exact ⟨(hb.cell (p := ⟨b, o + k, none⟩) hlt).trans h1, h2⟩

/-- What holds ahead of each request. -/
structure AloInv (w : World) (G1 G2 : Gh) (n0 : Nat) (u : ByteArray) (k i : Nat) (wr : World) (s1 s2 : St) : Prop where
  pair : Pair wr G1 G2 s1 s2
  pg : s1.pg u = s2.pg u
  ft : ∀ j, s1.ft u j = s2.ft u j
  a1 : s1.aq u = k
  a2 : s2.aq u = k
  n1 : s1.n = n0 + i
  n2 : s2.n ≤ n0 + i
  cnt : Cnt s1 i
  low : Below w.heap.size w wr
  far : (w.heap.size ≤ G1.F ∧ w.heap.size ≤ G1.A) ∧ (w.heap.size ≤ G2.F ∧ w.heap.size ≤ G2.A)

theorem AloInv.other {w wr w' : World} {G1 G2 : Gh} {n0 k i : Nat} {u v : ByteArray} {s1 s2 : St} (h : AloInv w G1 G2 n0 u k i wr s1 s2) (hv : v.size ≤ maxLen) (hne : ¬ v = u) (hr : Rep w' G1 (getS s1 v)) (hf : Fr G1 wr w') : AloInv w G1 G2 n0 u k (i + 1) w' (getS s1 v) s2 := by
  have hn : ¬ u = v := fun e => hne e.symm
  refine ⟨h.pair.get1 hr hf, h.pg, h.ft, by simp [getS, hn, h.a1], h.a2, ?_, by have := h.n2; omega, h.cnt.get hv, hf.below h.low h.low.size h.far.1.1 h.far.1.2, h.far⟩
  show s1.n + 1 = _
  have := h.n1
  omega

theorem GetDone.fr {G : Gh} {s : St} {u : ByteArray} {x : Ans} {a : Option Addr} {c : Nat} {w w' W : World} (d : GetDone G s u x a c w w' W) : Fr G w W :=
  ⟨d.os.1, d.os.2.1, d.os.2.2, by have := d.size; omega, d.keep⟩

theorem fget2 {w : World} {G : Gh} {s : St} {u : ByteArray} {x : Ans} (h : Rep w G s) (hn : s.n ≤ 1000000) (hu : u.size ≤ maxLen) (hx : getR s u = x) :
    Calls Try.prog 10 #[.pointer (some ⟨G.F, 0, none⟩), .string u] w fun e w' => ∃ a c, e = .returned (.agg #[.int .i64 x.st, .slice a x.data.length c, .int .i64 x.tk]) ∧ GetDone G s u x a c w w' (w'.alloc (.cells #[.int .i64 x.st, .slice a x.data.length c, .int .i64 x.tk] 34)) ∧ x.data.length ≤ c ∧ x.data.length ≤ 1099511627776 := by
  refine (get_any h hn hu).mono ?_
  rintro e w' ⟨v, rfl, hans, hr, hf⟩
  rw [hx] at hans
  obtain ⟨a, c, rfl, hrow, hlen⟩ := hans
  obtain ⟨q1, q2, _, q4⟩ := row_bytes hrow
  refine ⟨a, c, rfl, ?_, q2, hlen⟩
  obtain ⟨W, hW⟩ : ∃ W, w'.alloc (.cells #[.int .i64 x.st, .slice a x.data.length c, .int .i64 x.tk] 34) = W := ⟨_, rfl⟩
  have al : Below w'.heap.size w' W := by rw [← hW]; exact (Below.refl _ _).alloc (Nat.le_refl _) _
  have sz : W.heap.size = w'.heap.size + 1 := by rw [← hW]; show (w'.heap.push _).size = _; simp
  have bx : W.heap[w'.heap.size]? = some (.cells #[.int .i64 x.st, .slice a x.data.length c, .int .i64 x.tk] 34 (0, 0)) := by rw [← hW]; exact heap_new w' _
  have s1 := hf.size
  rw [hW]
  exact ⟨hr.below al, bx, bytes_below q1 al, fun ad ha => by obtain ⟨g, e, g1, g2⟩ := q4 ad ha; exact ⟨g, e, g1, by omega⟩, ⟨s1, by omega⟩, fun k h1 h2 h3 => (al.block k (by omega)).trans (hf.block k h1 h2 h3), al.os.trans hf.os, al.tape.trans hf.tape, al.output.trans hf.output⟩

theorem AloInv.two {w wr W1 w1 : World} {G1 G2 : Gh} {n0 k i : Nat} {u : ByteArray} {s1 s2 : St} {x : Ans} {a : Option Addr} {c : Nat} (h : AloInv w G1 G2 n0 u k i wr s1 s2) (d : GetDone G1 s1 u x a c wr w1 W1) : Rep W1 G2 s2 := (h.pair.get1 d.rep d.fr).two

/-- Both are asked, one behind the other. -/
theorem AloInv.both {w wr W1 w1 W2 w2 : World} {G1 G2 : Gh} {n0 k i : Nat} {u : ByteArray} {s1 s2 : St} {x : Ans} {a a' : Option Addr} {c c' : Nat} (h : AloInv w G1 G2 n0 u k i wr s1 s2) (hu : u.size ≤ maxLen) (d : GetDone G1 s1 u x a c wr w1 W1) (d2 : GetDone G2 s2 u x a' c' W1 w2 W2) :
    AloInv w G1 G2 n0 u (k + 1) (i + 1) W2 (getS s1 u) (getS s2 u) ∧
    (W2.heap[w1.heap.size]? = some (.cells #[.int .i64 x.st, .slice a x.data.length c, .int .i64 x.tk] 34 (0, 0)) ∧ W2.heap[w2.heap.size]? = some (.cells #[.int .i64 x.st, .slice a' x.data.length c', .int .i64 x.tk] 34 (0, 0))) ∧
    Bytes W2 a x.data.length x.data ∧ Bytes W2 a' x.data.length x.data := by
  have p1 := h.pair.get1 d.rep d.fr
  have p2 := p1.get2 d2.rep d2.fr
  obtain ⟨o1, o2, o3, o4, o5, o6⟩ := h.pair.two.ord
  have z1 := d.size
  have z2 := d2.size
  have hk : ∀ q, wr.heap.size ≤ q → q < W1.heap.size → W2.heap[q]? = W1.heap[q]? := fun q h1 h2 => d2.keep q h2 (by omega) (by omega)
  have l1 := d.fr.below h.low h.low.size h.far.1.1 h.far.1.2
  have l2 := d2.fr.below l1 l1.size h.far.2.1 h.far.2.2
  refine ⟨⟨p2, h.pg, h.ft, by simp [getS, h.a1], by simp [getS, h.a2], ?_, ?_, h.cnt.get hu, l2, h.far⟩, ⟨(hk _ (by omega) (by omega)).trans d.box, d2.box⟩, bytes_far d.bytes d.lies (fun q h1 h2 => hk q h1 h2), d2.bytes⟩
  · show s1.n + 1 = _
    have := h.n1
    omega
  · show s2.n + 1 ≤ _
    have := h.n2
    omega

theorem AloInv.below {w wr w' : World} {G1 G2 : Gh} {n0 k i : Nat} {u : ByteArray} {s1 s2 : St} (h : AloInv w G1 G2 n0 u k i wr s1 s2) (hb : Below wr.heap.size wr w') : AloInv w G1 G2 n0 u k i w' s1 s2 :=
  ⟨h.pair.below hb, h.pg, h.ft, h.a1, h.a2, h.n1, h.n2, h.cnt, h.low.trans (hb.mono h.low.size), h.far⟩

theorem AloInv.same {w wr : World} {G1 G2 : Gh} {n0 k i : Nat} {u : ByteArray} {s1 s2 : St} (h : AloInv w G1 G2 n0 u k i wr s1 s2) : getR s1 u = getR s2 u := getR_same h.pg h.ft (h.a1.trans h.a2.symm)

/-- Two that were made one behind the other. -/
theorem alo_start {w w2 w3 w4 : World} {G1 G2 : Gh} {s0 : St} {u : ByteArray} (r1 : Rep w3 G1 s0) (g1 : w2.heap.size ≤ G1.F ∧ w2.heap.size ≤ G1.P ∧ w2.heap.size ≤ G1.T ∧ w2.heap.size ≤ G1.A) (b1 : Below w2.heap.size w2 w3)
    (r2 : Rep w4 G2 s0) (g2 : w3.heap.size ≤ G2.F ∧ w3.heap.size ≤ G2.P ∧ w3.heap.size ≤ G2.T ∧ w3.heap.size ≤ G2.A) (b2 : Below w3.heap.size w3 w4) (low : Below w.heap.size w w2) (hq : ∀ u, s0.aq u = 0) : AloInv w G1 G2 s0.n u 0 0 w4 s0 s0 := by
  obtain ⟨o1, o2, o3, o4, o5, o6⟩ := r1.ord
  obtain ⟨p1, p2, p3, p4, p5, p6⟩ := r2.ord
  obtain ⟨x1, x2, x3, x4⟩ := g1
  obtain ⟨y1, y2, y3, y4⟩ := g2
  have z0 := low.size
  have z1 := b1.size
  have l3 := low.trans (b1.mono low.size)
  exact ⟨⟨r1.below b2, r2, ⟨⟨by omega, by omega, by omega, by omega, by omega⟩, ⟨by omega, by omega, by omega, by omega, by omega⟩⟩, ⟨⟨by omega, by omega, by omega, by omega, by omega⟩, ⟨by omega, by omega, by omega, by omega, by omega⟩⟩⟩, rfl, fun _ => rfl, hq u, hq u, rfl, Nat.le_refl _, Cnt.zero hq, l3.trans (b2.mono l3.size), ⟨by omega, by omega⟩, ⟨by omega, by omega⟩⟩

end Go.Proofs.Ytmbcjdlpdibalaa
