/-
  Two file systems in one memory, with what lies beside them.
-/
import Derived.Test.YtbdbobikiikbgaaDoorTold
import Derived.Test.YtbdbobikiikbgaaDoorSameF
namespace Go.Proofs.YtbdbobikiikbgaaDoor
open Go.RowKit Go.WideMaps Go.Maps Go.Sort

/-- What a call leaves alone: the blocks of K. -/
structure Keep (K : Nat → Prop) (w w' : World) : Prop where
  os : w'.os = w.os
  tape : w'.tape = w.tape
  output : w'.output = w.output
  size : w.heap.size ≤ w'.heap.size
  block : ∀ b, K b → w'.heap[b]? = w.heap[b]?

theorem Keep.refl (K : Nat → Prop) (w : World) : Keep K w w := ⟨rfl, rfl, rfl, Nat.le_refl _, fun _ _ => rfl⟩
theorem Keep.trans {K : Nat → Prop} {a b c : World} (h : Keep K a b) (k : Keep K b c) : Keep K a c :=
  ⟨k.os.trans h.os, k.tape.trans h.tape, k.output.trans h.output, Nat.le_trans h.size k.size, fun x hx => (k.block x hx).trans (h.block x hx)⟩
theorem Keep.mono {K K' : Nat → Prop} {a b : World} (h : Keep K a b) (hk : ∀ x, K' x → K x) : Keep K' a b := ⟨h.os, h.tape, h.output, h.size, fun x hx => h.block x (hk x hx)⟩
theorem Keep.of_below {K : Nat → Prop} {w w' : World} (h : Below w.heap.size w w') (hk : ∀ b, K b → b < w.heap.size) : Keep K w w' := ⟨h.os, h.tape, h.output, h.size, fun b hb => h.block b (hk b hb)⟩
theorem Keep.below {w w' : World} (h : Keep (fun b => b < w.heap.size) w w') : Below w.heap.size w w' := ⟨h.os, h.tape, h.output, h.size, fun b hb => h.block b hb⟩
theorem Keep.drewN {K : Nat → Prop} {w : World} (n : Nat) : Keep K w (w.drewN n) := ⟨rfl, rfl, rfl, Nat.le_refl _, fun _ _ => rfl⟩

/-- Two file systems beside K. -/
structure TwoG (K : Nat → Prop) (w : World) (G1 G2 : Lie) (s1 s2 : AS) : Prop where
  r1 : Rep w G1 s1
  r2 : Rep w G2 s2
  k1 : ∀ b, K b → G1.role b = none
  k2 : ∀ b, K b → G2.role b = none
  ap : ∀ b, G1.role b = none ∨ G2.role b = none ∨ (G1.role b = some .cap ∧ G2.role b = some .cap)
  lt : ∀ b, K b → b < w.heap.size

def Two (K : Nat → Prop) (w : World) (F1 F2 : Nat) (s1 s2 : AS) : Prop := ∃ G1 G2, G1.F = F1 ∧ G2.F = F2 ∧ TwoG K w G1 G2 s1 s2

theorem TwoG.swap {K : Nat → Prop} {w : World} {G1 G2 : Lie} {s1 s2 : AS} (h : TwoG K w G1 G2 s1 s2) : TwoG K w G2 G1 s2 s1 :=
  ⟨h.r2, h.r1, h.k2, h.k1, fun b => by rcases h.ap b with e | e | ⟨e, f⟩; exact Or.inr (Or.inl e); exact Or.inl e; exact Or.inr (Or.inr ⟨f, e⟩), h.lt⟩
theorem Two.swap {K : Nat → Prop} {w : World} {F1 F2 : Nat} {s1 s2 : AS} (h : Two K w F1 F2 s1 s2) : Two K w F2 F1 s2 s1 := by
  obtain ⟨G1, G2, e1, e2, t⟩ := h
  exact ⟨G2, G1, e2, e1, t.swap⟩

theorem TwoG.step {K : Nat → Prop} {w w' : World} {G1 G2 G1' : Lie} {s1 s2 s1' : AS} (h : TwoG K w G1 G2 s1 s2) (hR : Rep w' G1' s1') (hW : Went w G1 w' G1') : TwoG K w' G1' G2 s1' s2 ∧ Keep K w w' := by
  have h0 : G1.role 0 = none := h.r1.r0
  refine ⟨⟨hR, h.r2.congr hW.fr.size (fun b hb => hW.fr.block b (h.r2.lt b hb) ?_) (glob_of h.r2.glob (hW.fr.block 0 h.r1.pos (Or.inl h0))), fun b hb => ?_, h.k2, fun b => ?_, fun b hb => Nat.lt_of_lt_of_le (h.lt b hb) hW.fr.size⟩, ⟨hW.fr.os, hW.fr.tape, hW.fr.output, hW.fr.size, fun b hb => hW.fr.block b (h.lt b hb) (Or.inl (h.k1 b hb))⟩⟩
  · rcases h.ap b with e | e | ⟨e, _⟩
    · exact Or.inl e
    · exact absurd e hb
    · exact Or.inr e
  · rw [hW.role b (h.lt b hb)]; exact h.k1 b hb
  · by_cases hb : b < w.heap.size
    · rw [hW.role b hb]; exact h.ap b
    · exact Or.inr (Or.inl (Classical.byContradiction fun hn => hb (h.r2.lt b hn)))

theorem TwoG.below {K : Nat → Prop} {w w' : World} {G1 G2 : Lie} {s1 s2 : AS} (h : TwoG K w G1 G2 s1 s2) (hb : Below w.heap.size w w') : TwoG (fun b => K b ∨ (w.heap.size ≤ b ∧ b < w'.heap.size)) w' G1 G2 s1 s2 := by
  have big : ∀ {G : Lie} {s : AS}, Rep w G s → ∀ b, w.heap.size ≤ b → G.role b = none := fun hR b hb => Classical.byContradiction fun hn => absurd (hR.lt b hn) (by omega)
  exact ⟨h.r1.below hb, h.r2.below hb, fun b hb' => hb'.elim (h.k1 b) (fun e => big h.r1 b e.1), fun b hb' => hb'.elim (h.k2 b) (fun e => big h.r2 b e.1), h.ap, fun b hb' => hb'.elim (fun e => Nat.lt_of_lt_of_le (h.lt b e) hb.size) (fun e => e.2)⟩
theorem Two.below {K : Nat → Prop} {w w' : World} {F1 F2 : Nat} {s1 s2 : AS} (h : Two K w F1 F2 s1 s2) (hb : Below w.heap.size w w') : Two (fun b => K b ∨ (w.heap.size ≤ b ∧ b < w'.heap.size)) w' F1 F2 s1 s2 ∧ Keep K w w' := by
  obtain ⟨G1, G2, e1, e2, t⟩ := h
  exact ⟨⟨G1, G2, e1, e2, t.below hb⟩, Keep.of_below hb t.lt⟩
theorem Two.less {K K' : Nat → Prop} {w : World} {F1 F2 : Nat} {s1 s2 : AS} (h : Two K w F1 F2 s1 s2) (hk : ∀ b, K' b → K b) : Two K' w F1 F2 s1 s2 := by
  obtain ⟨G1, G2, e1, e2, t⟩ := h
  exact ⟨G1, G2, e1, e2, t.r1, t.r2, fun b hb => t.k1 b (hk b hb), fun b hb => t.k2 b (hk b hb), t.ap, fun b hb => t.lt b (hk b hb)⟩
theorem Two.drewN {K : Nat → Prop} {w : World} {F1 F2 : Nat} {s1 s2 : AS} (h : Two K w F1 F2 s1 s2) (n : Nat) : Two K (w.drewN n) F1 F2 s1 s2 := by
  obtain ⟨G1, G2, e1, e2, t⟩ := h
  exact ⟨G1, G2, e1, e2, t.r1.drewN n, t.r2.drewN n, t.k1, t.k2, t.ap, t.lt⟩

theorem FilesAt.keep {K : Nat → Prop} {w w' : World} {base : Nat} {v : Value} {fl : List (List UInt8 × List UInt8)} (h : FilesAt w base v fl) (hk : Keep K w w') (hK : ∀ b, base ≤ b → b < w.heap.size → K b) : FilesAt w' base v fl := by
  obtain ⟨vs, h1, h2, h3⟩ := h
  have big : ∀ {e sz n : Nat} {u : Value} {xs : List Value}, w.ownsRow base e sz u n xs → w'.ownsRow base e sz u n xs := by
    intro e sz n u xs hr
    refine row_congr hr (fun g hg => hk.block g (hK g ?_ (row_lt hr g hg)))
    rcases hr.2 with ⟨e1, _⟩ | ⟨g1, _, _, e1, hb, _⟩
    · rw [e1] at hg; cases hg
    · rw [e1] at hg
      have : g1 = g := by have q : some g1 = some g := hg; simpa using q
      omega
  exact ⟨vs, h1, big h2, fun k x u hx hu => big (h3 k x u hx hu)⟩

theorem OpAt.below {w w' : World} {B x : Nat} {o : AOp} (q : OpAt w B x o) (h : Below w.heap.size w w') : OpAt w' B x o := by
  have c : ∀ {j : Nat} {v : Value}, w.cell? ⟨B, j, none⟩ = some v → w'.cell? ⟨B, j, none⟩ = some v := fun hv => (h.cell (lt_of_cell hv)).trans hv
  exact ⟨c q.kind, c q.n, c q.m, c q.name, c q.tgt, c q.b, bytes_below q.by_ h, q.nil, q.nameLe, q.tgtLe, q.bLe, q.nLe⟩
theorem OpAt.lt {w : World} {B x : Nat} {o : AOp} (q : OpAt w B x o) (ad : Addr) (ha : o.ba = some ad) (h0 : 0 < o.b.length) : ad.block < w.heap.size := by
  have := lt_of_cell (q.by_.cell ad ha 0 h0)
  have eb : (ad.add 0).block = ad.block := by unfold Addr.add; split <;> rfl
  rwa [eb] at this

/-- The first of two file systems is told an operation. -/
theorem told_two {K : Nat → Prop} {w0 w : World} {F1 F2 : Nat} {s1 s2 : AS} {k B : Nat} (h : Two K w F1 F2 s1 s2) (hb0 : Below w0.heap.size w0 w) (hK : ∀ b, b < w0.heap.size → K b) (ok : OK s1 k B) (hk : k ≤ 4095) {o : AOp} {b x : Nat} (q : OpAt w0 b x o) (hB : B + o.b.length ≤ 1048576) (h7 : o.kind ≠ 7) :
    Calls Tryd.prog 30 #[.pointer (some ⟨F1, 0, none⟩), o.val] w fun e w' => e = .returned (.int .i64 (toldR s1 o).1) ∧ Two K w' F1 F2 (toldR s1 o).2 s2 ∧ Keep K w w' := by
  obtain ⟨G1, G2, rfl, rfl, t⟩ := h
  refine (told_rep t.r1 ok hk o hB q.nameLe q.tgtLe (bytes_below q.by_ hb0) q.nil (fun ad ha h0 => t.k1 _ (hK _ (q.lt ad ha h0))) h7).mono ?_
  rintro e w' ⟨G', rfl, hR, hW⟩
  obtain ⟨t', hk'⟩ := t.step hR hW
  exact ⟨rfl, ⟨G', G2, hW.F, rfl, t'⟩, hk'⟩

theorem files_two {K : Nat → Prop} {w : World} {F1 F2 : Nat} {s1 s2 : AS} {k B : Nat} (h : Two K w F1 F2 s1 s2) (ok : OK s1 k B) (hk : k ≤ 4096) (hB : B ≤ 1048576) {fl : List (List UInt8 × List UInt8)} (hfl : fileL s1 s1.names (fun f => f.data) = fl) :
    Calls Tryd.prog 25 #[.pointer (some ⟨F1, 0, none⟩)] w fun e w' => ∃ (a : Option Addr) (c : Nat), e = .returned (.slice a fl.length c) ∧ FilesAt w' w.heap.size (.slice a fl.length c) fl ∧ Below w.heap.size w w' := by
  obtain ⟨G1, G2, rfl, rfl, t⟩ := h
  subst hfl
  exact files_rep t.r1 (ok.bd hk) (ok.getN hB t.r1.tN)
theorem durable_two {K : Nat → Prop} {w : World} {F1 F2 : Nat} {s1 s2 : AS} {k B : Nat} (h : Two K w F1 F2 s1 s2) (ok : OK s1 k B) (hk : k ≤ 4096) (hB : B ≤ 1048576) {fl : List (List UInt8 × List UInt8)} (hfl : fileL s1 s1.durable (fun f => f.data.take f.dur) = fl) :
    Calls Tryd.prog 24 #[.pointer (some ⟨F1, 0, none⟩)] w fun e w' => ∃ (a : Option Addr) (c : Nat), e = .returned (.slice a fl.length c) ∧ FilesAt w' w.heap.size (.slice a fl.length c) fl ∧ Below w.heap.size w w' := by
  obtain ⟨G1, G2, rfl, rfl, t⟩ := h
  subst hfl
  exact durable_rep t.r1 (ok.bd hk) (ok.getD hB t.r1.tD)
theorem steps_two {K : Nat → Prop} {w : World} {F1 F2 : Nat} {s1 s2 : AS} (h : Two K w F1 F2 s1 s2) : Calls Tryd.prog 29 #[.pointer (some ⟨F1, 0, none⟩)] w fun e w' => e = .returned (.int .i64 s1.steps) ∧ w' = w := by
  obtain ⟨G1, G2, rfl, rfl, t⟩ := h
  exact steps_rep t.r1
theorem down_two {K : Nat → Prop} {w : World} {F1 F2 : Nat} {s1 s2 : AS} (h : Two K w F1 F2 s1 s2) : Calls Tryd.prog 27 #[.pointer (some ⟨F1, 0, none⟩)] w fun e w' => e = .returned (.bool s1.down) ∧ w' = w := by
  obtain ⟨G1, G2, rfl, rfl, t⟩ := h
  exact down_rep t.r1
theorem arm_two {K : Nat → Prop} {w : World} {F1 F2 : Nat} {s1 s2 : AS} (h : Two K w F1 F2 s1 s2) (n : Int) : Calls Tryd.prog 19 #[.pointer (some ⟨F1, 0, none⟩), .int .i64 n] w fun e w' => e = .returned (.tuple #[]) ∧ Two K w' F1 F2 { s1 with armed := max n 0 } s2 ∧ Keep K w w' := by
  obtain ⟨G1, G2, rfl, rfl, t⟩ := h
  refine (arm_rep t.r1 n).mono ?_
  rintro e w' ⟨rfl, hR, hF⟩
  obtain ⟨t', hk'⟩ := t.step hR (Went.of_fr hF)
  exact ⟨rfl, ⟨G1, G2, rfl, rfl, t'⟩, hk'⟩

/-- No file of a list that was answered is longer than can be. -/
theorem fileL_le {s : AS} {k B : Nat} (ok : OK s k B) (hB : B ≤ 1048576) (D : DataW Unit) (tk : AF → List UInt8) (htk : ∀ f, (tk f).length ≤ f.data.length) : ∀ x ∈ fileL s D tk, x.2.length ≤ 140737488355328 := by
  intro x hx
  unfold fileL at hx
  obtain ⟨nm, _, rfl⟩ := List.mem_map.1 hx
  show (match s.files (num D ⟨nm.toArray⟩) with | some f => tk f | none => []).length ≤ _
  cases hf : s.files (num D ⟨nm.toArray⟩) with
  | none => simp
  | some f => have := ok.fl _ f hf; have := htk f; show (tk f).length ≤ _; omega

/-- A second file system is made. -/
theorem new_two {w0 w : World} {F : Nat} {s : AS} (h : Live w0 w F s) (q : Int) (hg : ∃ m, w.cell? ⟨0, 0, none⟩ = some (.int .i64 m)) : Calls Tryd.prog 28 #[.int .i64 q] w fun e w' => ∃ F2, e = .returned (.pointer (some ⟨F2, 0, none⟩)) ∧ Two (fun b => b < w0.heap.size) w' F F2 s (newS q) ∧ Below w0.heap.size w0 w' := by
  obtain ⟨G, h1, h2, h3, h4⟩ := h
  refine (new_live q w hg).mono ?_
  rintro e w' ⟨F2, rfl, G2, r1, r2, r3, r4⟩
  refine ⟨F2, rfl, ⟨G, G2, h2, r2, h1.below r4, r1, h3, fun b hb => r3 b (Nat.lt_of_lt_of_le hb h4.size), fun b => ?_, fun b hb => Nat.lt_of_lt_of_le hb (Nat.le_trans h4.size r4.size)⟩, h4.trans (r4.mono h4.size)⟩
  by_cases hb : b < w.heap.size
  · exact Or.inr (Or.inl (r3 b hb))
  · exact Or.inl (Classical.byContradiction fun hn => hb (h1.lt b hn))

end Go.Proofs.YtbdbobikiikbgaaDoor
