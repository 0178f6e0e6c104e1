/-
  Two file systems of which one is a copy, and a third one.
-/
import Derived.Test.YtbdbobikiikbgaaDoorMade
import Derived.Test.YtbdbobikiikbgaaDoorCopyW
namespace Go.Proofs.YtbdbobikiikbgaaDoor
open Go.RowKit Go.WideMaps Go.Maps Go.Sort

def tellS (s : AS) (ops : List AOp) (k : Nat) : AS := (ops.take k).foldl (fun s o => (toldR s o).2) s
theorem tellS_zero (s : AS) (ops : List AOp) : tellS s ops 0 = s := by simp [tellS]
theorem tellS_succ (s : AS) {ops : List AOp} {k : Nat} {o : AOp} (h : ops[k]? = some o) : tellS s ops (k + 1) = (toldR (tellS s ops k) o).2 := by
  unfold tellS
  rw [List.take_add_one, h]; simp
theorem tell_ok {s : AS} {k0 B0 : Nat} (h0 : OK s k0 B0) (ops : List AOp) (hs : B0 + (ops.map fun o => o.b.length).sum ≤ 1048576) (hn : ∀ (i : Nat) (o : AOp), ops[i]? = some o → o.n ≤ 9223372036854775807) : ∀ k, k ≤ ops.length → OK (tellS s ops k) (k0 + k) (B0 + sumB ops k)
  | 0, _ => by rw [tellS_zero]; simpa [sumB] using h0
  | k + 1, h => by
    obtain ⟨o, ho⟩ : ∃ o, ops[k]? = some o := ⟨ops[k]'(by omega), by simp⟩
    have ih := tell_ok h0 ops hs hn k (by omega)
    have h1 := sumB_le ops (k + 1)
    have h2 := sumB_succ ho
    rw [tellS_succ s ho, h2, ← Nat.add_assoc, ← Nat.add_assoc]
    exact ih.told o (by omega) (hn k o ho)

theorem told_two7 {K : Nat → Prop} {w0 w : World} {F1 F2 : Nat} {s1 s2 : AS} {k B : Nat} (h : Two K w F1 F2 s1 s2) (hb0 : Below w0.heap.size w0 w) (hK : ∀ b, b < w0.heap.size → K b) (ok : OK s1 k B) (hk : k ≤ 4095) {o : AOp} {b x : Nat} (q : OpAt w0 b x o) (hB : B + o.b.length ≤ 1048576) :
    Calls Tryd.prog 30 #[.pointer (some ⟨F1, 0, none⟩), .agg #[.int .i64 o.kind, .int .i64 o.n, .int .i64 o.m, .string o.name, .string o.tgt, .slice o.ba o.b.length o.bc]] w fun e w' => e = .returned (.int .i64 (toldR s1 o).1) ∧ Two K w' F1 F2 (toldR s1 o).2 s2 ∧ Keep K w w' := by
  obtain ⟨G1, G2, rfl, rfl, t⟩ := h
  refine (told_all t.r1 ok hk o hB q.nameLe q.tgtLe (bytes_below q.by_ hb0) q.nil (fun ad ha h0 => t.k1 _ (hK _ (q.lt ad ha h0)))).mono ?_
  rintro e w' ⟨G', rfl, hR, hW⟩
  obtain ⟨t', hk'⟩ := t.step hR hW
  exact ⟨rfl, ⟨G', G2, hW.F, rfl, t'⟩, hk'⟩
theorem crash_two {K : Nat → Prop} {w : World} {F1 F2 : Nat} {s1 s2 : AS} {k B : Nat} (h : Two K w F1 F2 s1 s2) (ok : OK s1 k B) (hk : k ≤ 4096) (hB : B ≤ 1048576) (n e : Int) :
    Calls Tryd.prog 13 #[.pointer (some ⟨F1, 0, none⟩), .int .i64 n, .int .i64 e] w fun en w' => en = .returned (.tuple #[]) ∧ Two K w' F1 F2 (crashS s1 n e) s2 ∧ Keep K w w' := by
  obtain ⟨G1, G2, rfl, rfl, t⟩ := h
  refine (crash_rep t.r1 ok hk hB n e).mono ?_
  rintro en w' ⟨G', rfl, hR, hW⟩
  obtain ⟨t', hk'⟩ := t.step hR hW
  exact ⟨rfl, ⟨G', G2, hW.F, rfl, t'⟩, hk'⟩
theorem copy_two {K : Nat → Prop} {w : World} {F : Nat} {s : AS} {k B : Nat} (h : One K w F s) (ok : OK s k B) (hk : k ≤ 4096) (hB : B ≤ 1048576) :
    Calls Tryd.prog 23 #[.pointer (some ⟨F, 0, none⟩)] w fun e w' => ∃ F2, e = .returned (.pointer (some ⟨F2, 0, none⟩)) ∧ Two K w' F F2 s s ∧ Below w.heap.size w w' := by
  obtain ⟨G, rfl, t⟩ := h
  refine (copy_rep t.r ok hk hB).mono ?_
  rintro e w' ⟨G2, rfl, hR2, hb, hrole⟩
  refine ⟨G2.F, rfl, ⟨G, G2, rfl, rfl, t.r.below hb, hR2, t.k, fun b hb' => (hrole b (t.lt b hb')).elim id (fun e => absurd e.2 (by rw [t.k b hb']; simp)), fun b => ?_, fun b hb' => Nat.lt_of_lt_of_le (t.lt b hb') hb.size⟩, hb⟩
  by_cases hlt : b < w.heap.size
  · exact (hrole b hlt).elim (fun e => Or.inr (Or.inl e)) (fun e => Or.inr (Or.inr ⟨e.2, e.1⟩))
  · exact Or.inl (Classical.byContradiction fun hn => hlt (t.r.lt b hn))

/-- A third file system beside two. -/
def Tri (K : Nat → Prop) (w : World) (F1 F2 F3 : Nat) (s1 s2 s3 : AS) : Prop :=
  ∃ G3, G3.F = F3 ∧ Rep w G3 s3 ∧ (∀ b, K b → G3.role b = none) ∧ K 0 ∧ Two (fun b => K b ∨ G3.role b ≠ none) w F1 F2 s1 s2

theorem Two.lt {K : Nat → Prop} {w : World} {F1 F2 : Nat} {s1 s2 : AS} (h : Two K w F1 F2 s1 s2) (b : Nat) (hb : K b) : b < w.heap.size := by
  obtain ⟨_, _, _, _, t⟩ := h
  exact t.lt b hb
theorem made_tri {K : Nat → Prop} {w w' : World} {F1 F2 F3 : Nat} {s1 s2 s3 : AS} (h : Two K w F1 F2 s1 s2) (h0 : K 0) (hM : MadeR w w' F3 s3) : Tri K w' F1 F2 F3 s1 s2 s3 := by
  obtain ⟨G3, e3, t3⟩ := hM.one
  exact ⟨G3, e3, t3.r, fun b hb => t3.k b (h.lt b hb), h0, (h.below hM.below).1.less (fun b hb => hb.elim Or.inl (fun hr => Or.inr ⟨Nat.le_of_not_lt fun hl => hr (t3.k b hl), t3.r.lt b hr⟩))⟩
theorem Tri.two {K : Nat → Prop} {w : World} {F1 F2 F3 : Nat} {s1 s2 s3 : AS} (h : Tri K w F1 F2 F3 s1 s2 s3) : Two K w F1 F2 s1 s2 := by
  obtain ⟨_, _, _, _, _, t⟩ := h
  exact t.less (fun b hb => Or.inl hb)
theorem Tri.below {K : Nat → Prop} {w w' : World} {F1 F2 F3 : Nat} {s1 s2 s3 : AS} (h : Tri K w F1 F2 F3 s1 s2 s3) (hb : Below w.heap.size w w') : Tri K w' F1 F2 F3 s1 s2 s3 := by
  obtain ⟨G3, e3, hR, hk, h0, t⟩ := h
  exact ⟨G3, e3, hR.below hb, hk, h0, (t.below hb).1.less (fun b hb' => Or.inl hb')⟩
theorem Tri.told {K : Nat → Prop} {w0 w : World} {F1 F2 F3 : Nat} {s1 s2 s3 : AS} {k B : Nat} (h : Tri K w F1 F2 F3 s1 s2 s3) (hb0 : Below w0.heap.size w0 w) (hK : ∀ b, b < w0.heap.size → K b) (ok : OK s2 k B) (hk : k ≤ 4095) {o : AOp} {b x : Nat} (q : OpAt w0 b x o) (hB : B + o.b.length ≤ 1048576) :
    Calls Tryd.prog 30 #[.pointer (some ⟨F2, 0, none⟩), .agg #[.int .i64 o.kind, .int .i64 o.n, .int .i64 o.m, .string o.name, .string o.tgt, .slice o.ba o.b.length o.bc]] w fun e w' => e = .returned (.int .i64 (toldR s2 o).1) ∧ Tri K w' F1 F2 F3 s1 (toldR s2 o).2 s3 ∧ Keep K w w' := by
  obtain ⟨G3, rfl, hR3, h3, h0, hT⟩ := h
  refine (told_two7 hT.swap hb0 (fun b hb => Or.inl (hK b hb)) ok hk q hB).mono ?_
  rintro e w' ⟨rfl, hT', hk'⟩
  exact ⟨rfl, ⟨G3, rfl, hR3.congr hk'.size (fun b hb => hk'.block b (Or.inr hb)) (glob_of hR3.glob (hk'.block 0 (Or.inl h0))), h3, h0, hT'.swap⟩, hk'.mono (fun b hb => Or.inl hb)⟩
theorem Tri.files3 {K : Nat → Prop} {w : World} {F1 F2 F3 : Nat} {s1 s2 s3 : AS} {k B : Nat} (h : Tri K w F1 F2 F3 s1 s2 s3) (ok : OK s3 k B) (hk : k ≤ 4096) (hB : B ≤ 1048576) {fl : List (List UInt8 × List UInt8)} (hfl : fileL s3 s3.names (fun f => f.data) = fl) :
    Calls Tryd.prog 25 #[.pointer (some ⟨F3, 0, none⟩)] w fun e w' => ∃ (a : Option Addr) (c : Nat), e = .returned (.slice a fl.length c) ∧ FilesAt w' w.heap.size (.slice a fl.length c) fl ∧ Below w.heap.size w w' := by
  obtain ⟨G3, rfl, hR3, _⟩ := h
  subst hfl
  exact files_rep hR3 (ok.bd hk) (ok.getN hB hR3.tN)
theorem Tri.durable3 {K : Nat → Prop} {w : World} {F1 F2 F3 : Nat} {s1 s2 s3 : AS} {k B : Nat} (h : Tri K w F1 F2 F3 s1 s2 s3) (ok : OK s3 k B) (hk : k ≤ 4096) (hB : B ≤ 1048576) {fl : List (List UInt8 × List UInt8)} (hfl : fileL s3 s3.durable (fun f => f.data.take f.dur) = fl) :
    Calls Tryd.prog 24 #[.pointer (some ⟨F3, 0, none⟩)] w fun e w' => ∃ (a : Option Addr) (c : Nat), e = .returned (.slice a fl.length c) ∧ FilesAt w' w.heap.size (.slice a fl.length c) fl ∧ Below w.heap.size w w' := by
  obtain ⟨G3, rfl, hR3, _⟩ := h
  subst hfl
  exact durable_rep hR3 (ok.bd hk) (ok.getD hB hR3.tD)

end Go.Proofs.YtbdbobikiikbgaaDoor
