/-
  That a crash keeps order and bounds; told at every operation; one file system beside other memory.
-/
import Derived.Test.YtbdbobikiikbgaaDoorCrashW
import Derived.Test.YtbdbobikiikbgaaDoorTwo
namespace Go.Proofs.YtbdbobikiikbgaaDoor
open Go.RowKit Go.WideMaps Go.Maps Go.Sort

theorem not_has_num {D : DataW Unit} {s : ByteArray} (h : Maps.has D (key s) = false) : num D s = 0 := by
  unfold num
  unfold key at h
  rw [atKey_of_not_has h]

theorem num_mem {D : DataW Unit} (hD : IsMap D) {t : ByteArray} (h : num D t ≠ 0) : num D t ∈ numsOf D := by
  have hh : Maps.has D (key t) = true := by
    cases hq : Maps.has D (key t) with
    | false => exact absurd (not_has_num hq) h
    | true => rfl
  obtain ⟨es, rfl⟩ := hD
  rw [Maps.has_eq, List.any_eq_true] at hh
  obtain ⟨p, hp, hs⟩ := hh
  have e1 : p.1 = key t := WideAt.sameKey_eq hs
  have hm : t.data.toList ∈ strKeys (.map es) := List.mem_map.2 ⟨p, hp, by rw [e1]; rfl⟩
  have hm2 : t.data.toList ∈ namesOf (.map es) := (List.mergeSort_perm _ _).mem_iff.2 hm
  refine List.mem_map.2 ⟨t.data.toList, hm2, ?_⟩
  exact num_congr (by simp)

theorem numsOf_len {D : DataW Unit} (h : Tidy D) : (numsOf D).length = Maps.size D := by
  unfold numsOf namesOf
  rw [List.length_map, (List.mergeSort_perm _ _).length_eq]
  obtain ⟨es, e, _⟩ := h
  rw [e]; simp [strKeys, Maps.size]

theorem lens_le {g : Int → Option AF} {B : Nat} (hg : ∀ n f, g n = some f → f.data.length ≤ B) (hB : B ≤ 1048576) : ∀ L : List Int, 0 ≤ (L.map (lenAt g)).sum ∧ (L.map (lenAt g)).sum ≤ (L.length : Int) * 1048576
  | [] => by simp
  | n :: L => by
    have ih := lens_le hg hB L
    have h1 : 0 ≤ lenAt g n ∧ lenAt g n ≤ 1048576 := by
      unfold lenAt
      rcases hf : g n with _ | f
      · simp
      · have := hg n f hf
        show (0 : Int) ≤ (f.data.length : Int) ∧ (f.data.length : Int) ≤ 1048576
        omega
    simp only [List.map_cons, List.sum_cons, List.length_cons]
    omega

theorem OK.downed {s : AS} {k B : Nat} (h : OK s k B) (hB : B ≤ 1048576) (e : Int) : OK (downS s e) k B := by
  have hg := h.wf.goodN
  have hfl : ∀ n f, keptF s e n = some f → f.data.length ≤ B := by
    intro n f hf
    unfold keptF at hf
    split at hf
    · rcases hq : s.files n with _ | f0
      · rw [hq] at hf; cases hf
      · rw [hq] at hf
        obtain rfl : crashF e f0 = f := by simpa using hf
        have := h.fl n f0 hq
        have : (crashF e f0).data.length ≤ f0.data.length := by simp [crashF]; omega
        omega
    · cases hf
  have hgood : Good s.durable s.newest (fun n => keptF s e n ≠ none) := by
    refine ⟨hg.tidy, hg.nz, hg.inj, fun t ht => ⟨(hg.ub t ht).1, (hg.ub t ht).2.1, ?_⟩⟩
    have h1 := (hg.ub t ht).2.2
    have h2 : (numsOf s.durable).contains (num s.durable t) = true := by simpa using num_mem hg.tidy.isMap ht
    show keptF s e (num s.durable t) ≠ none
    unfold keptF
    rw [if_pos h2]
    rcases hq : s.files (num s.durable t) with _ | f0
    · exact absurd hq h1
    · simp
  obtain ⟨z0, z1⟩ := lens_le hfl hB (numsOf s.durable)
  rw [numsOf_len hg.tidy] at z1
  have hmD := h.mD
  refine ⟨⟨⟨s.newest, hgood, Int.le_refl _⟩, rfl, ?_, h.wf.new0⟩, h.q0, h.q1, h.n1, ?_, ?_, h.t0, h.t1, by show (0 : Int) ≤ 0; omega, by show (0 : Int) ≤ _; omega, ?_, ?_, hfl⟩
  · show keptF s e 0 = none
    unfold keptF
    rw [h.wf.zero]; split <;> rfl
  · show _ ≤ ((numsOf s.durable).map (lenAt (keptF s e))).sum
    omega
  · show ((numsOf s.durable).map (lenAt (keptF s e))).sum ≤ _
    omega
  · show Maps.size s.durable + 0 ≤ k; omega
  · show Maps.size s.durable ≤ k; omega

theorem OK.crash {s : AS} {k B : Nat} (h : OK s k B) (hB : B ≤ 1048576) (n e : Int) : OK (crashS s n e) k B := (h.settled _ (by omega)).downed hB e

theorem OK.told {s : AS} {k B : Nat} (h : OK s k B) (o : AOp) (hB : B + o.b.length ≤ 1048576) (hn : o.n ≤ 9223372036854775807) : OK (toldR s o).2 (k + 1) (B + o.b.length) := by
  by_cases h5 : o.kind ≤ 5
  · exact h.told5 o hB h5
  · unfold toldR
    rw [if_neg (by omega), if_neg (by omega), if_neg (by omega), if_neg (by omega), if_neg (by omega), if_neg (by omega)]
    have hm := h.mono (Nat.le_succ k) (Nat.le_add_right B o.b.length)
    split
    · exact ⟨⟨hm.wf.chain, hm.wf.names, hm.wf.zero, hm.wf.new0⟩, hm.q0, hm.q1, hm.n1, hm.z0, hm.z1, hm.t0, hm.t1, by show 0 ≤ max o.n 0; omega, by show max o.n 0 ≤ _; omega, hm.mD, hm.mN, hm.fl⟩
    · split
      · exact hm.crash hB _ _
      · exact hm

set_option maxRecDepth 100000 in
set_option maxHeartbeats 1000000 in
theorem told_7 {w : World} {G : Lie} {s : AS} {k B : Nat} (h : Rep w G s) (ok : OK s k B) (hk : k ≤ 4096) (hB : B ≤ 1048576) (n m : Int) (name tgt : ByteArray) (ba : Option Addr) (bc : Nat) (l : List UInt8) :
    Calls Tryd.prog 30 #[.pointer (some ⟨G.F, 0, none⟩), .agg #[.int .i64 7, .int .i64 n, .int .i64 m, .string name, .string tgt, .slice ba l.length bc]] w fun e w' => ∃ G', e = .returned (.int .i64 0) ∧ Rep w' G' (crashS s n m) ∧ Went w G w' G' := by
  have HC := hide (show Calls Tryd.prog 13 _ (w.alloc (.cells #[.int .i64 7, .int .i64 n, .int .i64 m, .string name, .string tgt, .slice ba l.length bc] 50 (0, 0))) _ from crash_rep (h.below (below_box w _)) ok hk hB n m)
  clear h ok
  go_enter Tryd.func30, Tryd.ntmps30
  go_wp2_with (go_at_call 13; refine (unhide HC).mono ?_; rintro e w2 ⟨G2, rfl, hR2, hW2⟩)
  go_ret
  exact ⟨G2, rfl, hR2, Went.alloc hW2⟩

theorem told_all {w : World} {G : Lie} {s : AS} {k B : Nat} (h : Rep w G s) (ok : OK s k B) (hk : k ≤ 4095) (o : AOp) (hB : B + o.b.length ≤ 1048576) (hn : o.name.size ≤ 1048576) (ht : o.tgt.size ≤ 1048576)
    (hby : Bytes w o.ba o.b.length o.b) (hnil : o.ba = none → o.bc = 0) (hbr : ∀ ad, o.ba = some ad → 0 < o.b.length → G.role ad.block = none) :
    Calls Tryd.prog 30 #[.pointer (some ⟨G.F, 0, none⟩), o.val] w fun e w' => ∃ G', e = .returned (.int .i64 (toldR s o).1) ∧ Rep w' G' (toldR s o).2 ∧ Went w G w' G' := by
  by_cases h7 : o.kind = 7
  · obtain ⟨kd, n, m, name, tgt, ba, bc, l⟩ := o
    simp only [AOp.val] at *
    subst h7
    exact told_7 h ok (by omega) (by omega) n m name tgt ba bc l
  · exact told_rep h ok hk o hB hn ht hby hnil hbr h7

/-- One file system beside K. -/
structure OneG (K : Nat → Prop) (w : World) (G : Lie) (s : AS) : Prop where
  r : Rep w G s
  k : ∀ b, K b → G.role b = none
  lt : ∀ b, K b → b < w.heap.size
def One (K : Nat → Prop) (w : World) (F : Nat) (s : AS) : Prop := ∃ G, G.F = F ∧ OneG K w G s

theorem OneG.step {K : Nat → Prop} {w w' : World} {G G' : Lie} {s s' : AS} (h : OneG K w G s) (hR : Rep w' G' s') (hW : Went w G w' G') : OneG K w' G' s' ∧ Keep K w w' :=
  ⟨⟨hR, fun b hb => by rw [hW.role b (h.lt b hb)]; exact h.k b hb, fun b hb => Nat.lt_of_lt_of_le (h.lt b hb) hW.fr.size⟩, ⟨hW.fr.os, hW.fr.tape, hW.fr.output, hW.fr.size, fun b hb => hW.fr.block b (h.lt b hb) (Or.inl (h.k b hb))⟩⟩
theorem One.below {K : Nat → Prop} {w w' : World} {F : Nat} {s : AS} (h : One K w F s) (hb : Below w.heap.size w w') : One (fun b => K b ∨ (w.heap.size ≤ b ∧ b < w'.heap.size)) w' F s ∧ Keep K w w' := by
  obtain ⟨G, e, t⟩ := h
  refine ⟨⟨G, e, t.r.below hb, fun b hb' => hb'.elim (t.k b) (fun e => Classical.byContradiction fun hn => absurd (t.r.lt b hn) (by omega)), fun b hb' => hb'.elim (fun e => Nat.lt_of_lt_of_le (t.lt b e) hb.size) (fun e => e.2)⟩, Keep.of_below hb t.lt⟩
theorem One.less {K K' : Nat → Prop} {w : World} {F : Nat} {s : AS} (h : One K w F s) (hk : ∀ b, K' b → K b) : One K' w F s := by
  obtain ⟨G, e, t⟩ := h
  exact ⟨G, e, t.r, fun b hb => t.k b (hk b hb), fun b hb => t.lt b (hk b hb)⟩
theorem One.drewN {K : Nat → Prop} {w : World} {F : Nat} {s : AS} (h : One K w F s) (n : Nat) : One K (w.drewN n) F s := by
  obtain ⟨G, e, t⟩ := h
  exact ⟨G, e, t.r.drewN n, t.k, t.lt⟩
theorem Live.one {w0 w : World} {F : Nat} {s : AS} (h : Live w0 w F s) : One (fun b => b < w0.heap.size) w F s := by
  obtain ⟨G, h1, h2, h3, h4⟩ := h
  exact ⟨G, h2, h1, h3, fun b hb => Nat.lt_of_lt_of_le hb h4.size⟩

theorem told_one {K : Nat → Prop} {w0 w : World} {F : Nat} {s : AS} {k B : Nat} (h : One K w F s) (hb0 : Below w0.heap.size w0 w) (hK : ∀ b, b < w0.heap.size → K b) (ok : OK s k B) (hk : k ≤ 4095) {o : AOp} {b x : Nat} (q : OpAt w0 b x o) (hB : B + o.b.length ≤ 1048576) :
    Calls Tryd.prog 30 #[.pointer (some ⟨F, 0, none⟩), .agg #[.int .i64 o.kind, .int .i64 o.n, .int .i64 o.m, .string o.name, .string o.tgt, .slice o.ba o.b.length o.bc]] w fun e w' => e = .returned (.int .i64 (toldR s o).1) ∧ One K w' F (toldR s o).2 ∧ Keep K w w' := by
  obtain ⟨G, rfl, t⟩ := h
  refine (told_all t.r ok hk o hB q.nameLe q.tgtLe (bytes_below q.by_ hb0) q.nil (fun ad ha h0 => t.k _ (hK _ (q.lt ad ha h0)))).mono ?_
  rintro e w' ⟨G', rfl, hR, hW⟩
  obtain ⟨t', hk'⟩ := t.step hR hW
  exact ⟨rfl, ⟨G', hW.F, t'⟩, hk'⟩
theorem files_one {K : Nat → Prop} {w : World} {F : Nat} {s : AS} {k B : Nat} (h : One K w F s) (ok : OK s k B) (hk : k ≤ 4096) (hB : B ≤ 1048576) {fl : List (List UInt8 × List UInt8)} (hfl : fileL s s.names (fun f => f.data) = fl) :
    Calls Tryd.prog 25 #[.pointer (some ⟨F, 0, none⟩)] w fun e w' => ∃ (a : Option Addr) (c : Nat), e = .returned (.slice a fl.length c) ∧ FilesAt w' w.heap.size (.slice a fl.length c) fl ∧ Below w.heap.size w w' := by
  obtain ⟨G, rfl, t⟩ := h
  subst hfl
  exact files_rep t.r (ok.bd hk) (ok.getN hB t.r.tN)
theorem durable_one {K : Nat → Prop} {w : World} {F : Nat} {s : AS} {k B : Nat} (h : One K w F s) (ok : OK s k B) (hk : k ≤ 4096) (hB : B ≤ 1048576) {fl : List (List UInt8 × List UInt8)} (hfl : fileL s s.durable (fun f => f.data.take f.dur) = fl) :
    Calls Tryd.prog 24 #[.pointer (some ⟨F, 0, none⟩)] w fun e w' => ∃ (a : Option Addr) (c : Nat), e = .returned (.slice a fl.length c) ∧ FilesAt w' w.heap.size (.slice a fl.length c) fl ∧ Below w.heap.size w w' := by
  obtain ⟨G, rfl, t⟩ := h
  subst hfl
  exact durable_rep t.r (ok.bd hk) (ok.getD hB t.r.tD)
theorem steps_one {K : Nat → Prop} {w : World} {F : Nat} {s : AS} (h : One K w F s) : Calls Tryd.prog 29 #[.pointer (some ⟨F, 0, none⟩)] w fun e w' => e = .returned (.int .i64 s.steps) ∧ w' = w := by
  obtain ⟨G, rfl, t⟩ := h
  exact steps_rep t.r
theorem size_one {K : Nat → Prop} {w : World} {F : Nat} {s : AS} (h : One K w F s) : Calls Tryd.prog 31 #[.pointer (some ⟨F, 0, none⟩)] w fun e w' => e = .returned (.int .i64 s.size) ∧ w' = w := by
  obtain ⟨G, rfl, t⟩ := h
  exact size_rep t.r
theorem down_one {K : Nat → Prop} {w : World} {F : Nat} {s : AS} (h : One K w F s) : Calls Tryd.prog 27 #[.pointer (some ⟨F, 0, none⟩)] w fun e w' => e = .returned (.bool s.down) ∧ w' = w := by
  obtain ⟨G, rfl, t⟩ := h
  exact down_rep t.r
theorem crash_one {K : Nat → Prop} {w : World} {F : Nat} {s : AS} {k B : Nat} (h : One K w F s) (ok : OK s k B) (hk : k ≤ 4096) (hB : B ≤ 1048576) (n e : Int) :
    Calls Tryd.prog 13 #[.pointer (some ⟨F, 0, none⟩), .int .i64 n, .int .i64 e] w fun en w' => en = .returned (.tuple #[]) ∧ One K w' F (crashS s n e) ∧ Keep K w w' := by
  obtain ⟨G, rfl, t⟩ := h
  refine (crash_rep t.r ok hk hB n e).mono ?_
  rintro en w' ⟨G', rfl, hR, hW⟩
  obtain ⟨t', hk'⟩ := t.step hR hW
  exact ⟨rfl, ⟨G', hW.F, t'⟩, hk'⟩

end Go.Proofs.YtbdbobikiikbgaaDoor
