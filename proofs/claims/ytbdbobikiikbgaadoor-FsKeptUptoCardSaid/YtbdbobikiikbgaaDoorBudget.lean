/-
  How great a file system can be behind so many operations of so many bytes; an operation in plain data; that an operation keeps order and bounds.
-/
import Derived.Test.YtbdbobikiikbgaaDoorChain
namespace Go.Proofs.YtbdbobikiikbgaaDoor
open Go.RowKit Go.WideMaps Go.Maps Go.Sort

/-- In order, and behind at most k operations, no file of more than B bytes. -/
structure OK (s : AS) (k B : Nat) : Prop where
  wf : Wf s
  q0 : 0 ≤ s.quota
  q1 : s.quota ≤ 67108864
  n1 : s.newest ≤ k
  z0 : -((k : Int) * 1048576) ≤ s.size
  z1 : s.size ≤ (k : Int) * 1048576
  t0 : 0 ≤ s.steps
  t1 : s.steps ≤ k
  a0 : 0 ≤ s.armed
  a1 : s.armed ≤ 9223372036854775807
  mD : Maps.size s.durable + s.pending.length ≤ k
  mN : Maps.size s.names ≤ k
  fl : ∀ n f, s.files n = some f → f.data.length ≤ B

theorem OK.bd {s : AS} {k B : Nat} (h : OK s k B) (hk : k ≤ 4096) : Bd s :=
  ⟨h.q0, h.q1, h.wf.new0, by have := h.n1; omega, by have := h.z0; omega, by have := h.z1; omega, h.t0, by have := h.t1; omega, h.a0, h.a1, by have := h.mN; omega, by have := h.mD; omega, by have := h.mD; omega⟩
theorem OK.room {s : AS} {k B : Nat} (h : OK s k B) (hk : k ≤ 4096) (n : Nat) (hn : n ≤ 1048576) : Room s n :=
  ⟨h.bd hk, by have := h.n1; omega, by have := h.z1; omega, by have := h.t1; omega⟩
theorem OK.inv {s : AS} {k B : Nat} (h : OK s k B) (hB : B ≤ 1048576) : Inv s := h.wf.inv (fun n f hf => by have := h.fl n f hf; omega)

theorem OK.mono {s : AS} {k k' B B' : Nat} (h : OK s k B) (hk : k ≤ k') (hB : B ≤ B') : OK s k' B' :=
  ⟨h.wf, h.q0, h.q1, by have := h.n1; omega, by have := h.z0; omega, by have := h.z1; omega, h.t0, by have := h.t1; omega, h.a0, h.a1, by have := h.mD; omega, by have := h.mN; omega, fun n f hf => by have := h.fl n f hf; omega⟩

theorem ok_new (q : Int) : OK (newS q) 0 0 :=
  ⟨wf_new q, by show 0 ≤ min (max q 0) 67108864; omega, by show min (max q 0) 67108864 ≤ _; omega, Int.le_refl _, by show -(0 : Int) ≤ 0; omega, by show (0 : Int) ≤ _; omega, Int.le_refl _, Int.le_refl _, Int.le_refl _, by show (0 : Int) ≤ _; omega, Nat.le_refl _, Nat.le_refl _, fun n f hf => by cases hf⟩

theorem OK.begin {s : AS} {k B : Nat} (h : OK s k B) (own : Int) : OK (beginS s own) (k + 1) B := by
  have hm := h.mono (Nat.le_succ k) (Nat.le_refl B)
  have hw := h.wf.begin own
  unfold beginS at hw ⊢
  split at hw <;> rename_i e
  · rw [if_pos e]; exact hm
  · rw [if_neg e]
    split at hw <;> rename_i e1
    · rw [if_pos e1]
      split at hw <;> rename_i e2
      · rw [if_pos e2]
        exact ⟨hw, hm.q0, hm.q1, hm.n1, hm.z0, hm.z1, hm.t0, hm.t1, by simp, by simp, hm.mD, hm.mN, hm.fl⟩
      · rw [if_neg e2]
        exact ⟨hw, hm.q0, hm.q1, hm.n1, hm.z0, hm.z1, by have := h.t0; simp; omega, by have := h.t1; simp; omega, by simp; omega, by have := h.a1; simp; omega, hm.mD, hm.mN, hm.fl⟩
    · rw [if_neg e1]; exact hm

theorem size_lo {g : Option AF} {z : Int} {k B : Nat} (hg : ∀ f, g = some f → f.data.length ≤ B) (hB : B ≤ 1048576) (hz : -((k : Int) * 1048576) ≤ z) : -(((k + 1 : Nat) : Int) * 1048576) ≤ (match (generalizing := false) g with | none => z | some f => z - f.data.length) := by
  cases g with
  | none => show _ ≤ z; omega
  | some f => have := hg f rfl; show _ ≤ z - (f.data.length : Int); omega
theorem size_hi {g : Option AF} {z : Int} {k : Nat} (hz : z ≤ (k : Int) * 1048576) : (match g with | none => z | some f => z - f.data.length) ≤ ((k + 1 : Nat) : Int) * 1048576 := by
  cases g with
  | none => show z ≤ _; omega
  | some f => show z - (f.data.length : Int) ≤ _; omega
theorem wsize_lo {g : Option AF} {z : Int} {k B n : Nat} (hg : ∀ f, g = some f → f.data.length ≤ B + n) (hB : B + n ≤ 1048576) (hz : -((k : Int) * 1048576) ≤ z) : -(((k + 1 : Nat) : Int) * 1048576) ≤ (match (generalizing := false) g with | none => z + (n : Int) | some f => z + (n : Int) - f.data.length) := by
  cases g with
  | none => show _ ≤ z + (n : Int); omega
  | some f => have := hg f rfl; show _ ≤ z + (n : Int) - (f.data.length : Int); omega
theorem wsize_hi {g : Option AF} {z : Int} {k n : Nat} (hB : n ≤ 1048576) (hz : z ≤ (k : Int) * 1048576) : (match g with | none => z + (n : Int) | some f => z + (n : Int) - f.data.length) ≤ ((k + 1 : Nat) : Int) * 1048576 := by
  cases g with
  | none => show z + (n : Int) ≤ _; omega
  | some f => show z + (n : Int) - (f.data.length : Int) ≤ _; omega

theorem OK.altered {s : AS} {k B : Nat} (h : OK s k B) (hB : B ≤ 1048576) (a : Int) (ha0 : 0 ≤ a) (ha1 : a ≤ 9223372036854775807) (c : Chg) (hw : Wf (alterS { s with armed := a, steps := s.steps + 1 } c)) : OK (alterS { s with armed := a, steps := s.steps + 1 } c) (k + 1) B := by
  have t := h.wf.good.tidy
  refine ⟨hw, h.q0, h.q1, by show s.newest ≤ _; have := h.n1; omega, ?_, ?_, by show 0 ≤ s.steps + 1; have := h.t0; omega, by show s.steps + 1 ≤ _; have := h.t1; omega, ha0, ha1, ?_, ?_, h.fl⟩
  · exact size_lo (g := s.files (c.old s.names)) (fun f hf => h.fl _ f hf) hB h.z0
  · exact size_hi (g := s.files (c.old s.names)) h.z1
  · show Maps.size s.durable + (s.pending ++ [c]).length ≤ _
    rw [List.length_append]; have := h.mD; simp; omega
  · show Maps.size (c.act s.names) ≤ _
    have := act_size t c; have := h.mN; omega

theorem OK.write {s : AS} {k B : Nat} (h : OK s k B) (name : ByteArray) (l : List UInt8) (hB : B + l.length ≤ 1048576) : OK (writeR s name l).2 (k + 1) (B + l.length) := by
  unfold writeR
  split
  · rename_i hE
    have hw := (h.wf.begin (writeE s name l.length)).wrote name l
    have hd := begin_done hE
    rw [hd] at hw ⊢
    have t := h.wf.good.tidy
    have ha := h.a0
    have ha1 := h.a1
    refine ⟨hw, h.q0, h.q1, by show s.newest + 1 ≤ _; have := h.n1; omega, ?_, ?_, by show 0 ≤ s.steps + 1; have := h.t0; omega, by show s.steps + 1 ≤ _; have := h.t1; omega, by show 0 ≤ max (s.armed - 1) 0; omega, by show max (s.armed - 1) 0 ≤ _; omega, ?_, ?_, ?_⟩
    · exact wsize_lo (g := if num s.names name = s.newest + 1 then some (⟨l, 0⟩ : AF) else s.files (num s.names name)) (fun f hf => by
        split at hf
        · obtain rfl : (⟨l, 0⟩ : AF) = f := by simpa using hf
          show l.length ≤ _; omega
        · have := h.fl _ f hf; omega) hB h.z0
    · exact wsize_hi (g := if num s.names name = s.newest + 1 then some (⟨l, 0⟩ : AF) else s.files (num s.names name)) (by omega) h.z1
    · show Maps.size s.durable + (s.pending ++ [_]).length ≤ _
      rw [List.length_append]; have := h.mD; simp; omega
    · show Maps.size (Chg.act s.names (.put name (s.newest + 1))) ≤ _
      have := act_size t (.put name (s.newest + 1)); have := h.mN; omega
    · intro n f hf
      have hf' : (if n = s.newest + 1 then some (⟨l, 0⟩ : AF) else s.files n) = some f := hf
      split at hf'
      · obtain rfl : (⟨l, 0⟩ : AF) = f := by simpa using hf'
        show l.length ≤ _; omega
      · have := h.fl n f hf'; omega
  · exact (h.begin _).mono (Nat.le_refl _) (by omega)

theorem OK.file {s : AS} {k B : Nat} (h : OK s k B) (n : Int) (hn : n ≠ 0) (f : AF) (B' : Nat) (hB : B ≤ B') (hl : f.data.length ≤ B') (z : Int) (z0 : -(((k + 1 : Nat) : Int) * 1048576) ≤ z) (z1 : z ≤ ((k + 1 : Nat) : Int) * 1048576) (a : Int) (ha0 : 0 ≤ a) (ha1 : a ≤ 9223372036854775807) :
    OK { setFile { s with armed := a, steps := s.steps + 1 } n f with size := z } (k + 1) B' := by
  have hw : Wf (setFile { s with armed := a, steps := s.steps + 1 } n f) := Wf.setFile (⟨h.wf.chain, h.wf.names, h.wf.zero, h.wf.new0⟩ : Wf { s with armed := a, steps := s.steps + 1 }) n f hn
  refine ⟨⟨hw.chain, hw.names, hw.zero, hw.new0⟩, h.q0, h.q1, by show s.newest ≤ _; have := h.n1; omega, z0, z1, by show 0 ≤ s.steps + 1; have := h.t0; omega, by show s.steps + 1 ≤ _; have := h.t1; omega, ha0, ha1, by show Maps.size s.durable + s.pending.length ≤ _; have := h.mD; omega, by show Maps.size s.names ≤ _; have := h.mN; omega, ?_⟩
  intro m g hg
  have hg' : (if m = n then some f else s.files m) = some g := hg
  split at hg'
  · obtain rfl : f = g := by simpa using hg'
    exact hl
  · have := h.fl m g hg'; omega

theorem OK.append {s : AS} {k B : Nat} (h : OK s k B) (name : ByteArray) (l : List UInt8) (hB : B + l.length ≤ 1048576) : OK (appendR s name l).2 (k + 1) (B + l.length) := by
  unfold appendR
  split
  · rename_i hE
    have hn := (append_zero (begin_zero hE).1).1
    obtain ⟨f, hf⟩ := (h.inv (by omega)).get hn
    rw [hf]
    have hd := begin_done hE
    have ha := h.a0
    have ha1 := h.a1
    show OK (appendedS (beginS s (appendE s name l.length)) (num s.names name) f l) _ _
    rw [hd]
    have := h.fl _ f hf
    exact h.file _ hn ⟨f.data ++ l, f.dur⟩ _ (by omega) (by simp; omega) (s.size + l.length) (by have := h.z0; omega) (by have := h.z1; omega) (max (s.armed - 1) 0) (by omega) (by omega)
  · exact (h.begin _).mono (Nat.le_refl _) (by omega)

theorem OK.sync {s : AS} {k B : Nat} (h : OK s k B) (name : ByteArray) (hB : B ≤ 1048576) : OK (syncR s name).2 (k + 1) B := by
  unfold syncR
  split
  · rename_i hE
    have hn := none_zero (begin_zero hE).1
    obtain ⟨f, hf⟩ := (h.inv hB).get hn
    rw [hf]
    have hd := begin_done hE
    have ha := h.a0
    have ha1 := h.a1
    show OK (setFile (beginS s (noneE s name)) (num s.names name) ⟨f.data, f.data.length⟩) _ _
    rw [hd]
    have := h.fl _ f hf
    exact h.file _ hn ⟨f.data, f.data.length⟩ _ (Nat.le_refl _) this s.size (by have := h.z0; omega) (by have := h.z1; omega) (max (s.armed - 1) 0) (by omega) (by omega)
  · exact h.begin _

theorem OK.remove {s : AS} {k B : Nat} (h : OK s k B) (name : ByteArray) (hB : B ≤ 1048576) : OK (removeR s name).2 (k + 1) B := by
  unfold removeR
  split
  · rename_i hE
    have hw := (h.wf.begin (noneE s name)).alter (.drop name) trivial trivial rfl
    have ha := h.a0
    have ha1 := h.a1
    rw [begin_done hE] at hw ⊢
    exact h.altered hB _ (by omega) (by omega) _ hw
  · exact h.begin _

theorem rename_zero {s : AS} {fr tgt : ByteArray} (h : renameE s fr tgt = 0) : num s.names fr ≠ 0 := by
  unfold renameE at h
  split at h
  · simp at h
  · assumption

theorem OK.rename {s : AS} {k B : Nat} (h : OK s k B) (fr tgt : ByteArray) (hB : B ≤ 1048576) : OK (renameR s fr tgt).2 (k + 1) B := by
  unfold renameR
  split
  · rename_i hE
    have hn := rename_zero (begin_zero hE).1
    have hk := h.begin (renameE s fr tgt)
    have ha := h.a0
    have ha1 := h.a1
    show OK (renamedS (beginS s (renameE s fr tgt)) fr tgt) _ _
    unfold renamedS
    split
    · exact hk
    · rename_i e
      have hw := (h.wf.begin (renameE s fr tgt)).alter (.move fr tgt) (by rw [begin_done hE]; exact ⟨hn, e⟩) trivial rfl
      rw [begin_done hE] at hw ⊢
      exact h.altered hB _ (by omega) (by omega) _ hw
  · exact h.begin _

theorem OK.settled {s : AS} {k B : Nat} (h : OK s k B) (c : Nat) (hc : c ≤ s.pending.length) : OK (settleS s c) k B := by
  obtain ⟨b, hd⟩ := h.wf.goodD
  obtain ⟨_, h2⟩ := foldD_tidy s hd.tidy c hc
  refine ⟨h.wf.settled c hc, h.q0, h.q1, h.n1, h.z0, h.z1, h.t0, h.t1, h.a0, h.a1, ?_, h.mN, fun n f hf => h.fl n f (foldD_files s c n f hf)⟩
  show Maps.size (foldD s c).1 + (s.pending.drop c).length ≤ k
  rw [List.length_drop]
  have := h.mD; omega

theorem OK.syncDir {s : AS} {k B : Nat} (h : OK s k B) (d : ByteArray) : OK (syncDirR s d).2 (k + 1) B := by
  unfold syncDirR
  split
  · rename_i hE
    have hk := h.begin (syncDirE d)
    have ep : (beginS s (syncDirE d)).pending = s.pending := by rw [begin_done hE]
    have := hk.settled (lastOf d s.pending s.pending.length) (by rw [ep]; exact lastOf_le d _ _)
    exact this
  · exact h.begin _

/-- A crash of one file. -/
def crashF (e : Int) (f : AF) : AF := ⟨f.data.take (f.dur + min (max e 0).toNat (f.data.length - f.dur)), f.dur + min (max e 0).toNat (f.data.length - f.dur)⟩
/-- The numbers of a table. -/
def numsOf (D : DataW Unit) : List Int := (namesOf D).map fun l => num D ⟨l.toArray⟩
def keptF (s : AS) (e : Int) (n : Int) : Option AF := if (numsOf s.durable).contains n then (s.files n).map (crashF e) else none
def lenAt (g : Int → Option AF) (n : Int) : Int := match g n with | some f => f.data.length | none => 0
def downS (s : AS) (e : Int) : AS :=
  { s with names := s.durable, pending := [], files := keptF s e, size := ((numsOf s.durable).map (lenAt (keptF s e))).sum, armed := 0, down := false }
def crashS (s : AS) (n e : Int) : AS := downS (settleS s (min (max n 0).toNat s.pending.length)) e

/-- An operation. -/
structure AOp where
  kind : Int
  n : Int
  m : Int
  name : ByteArray
  tgt : ByteArray
  ba : Option Addr
  bc : Nat
  b : List UInt8

def toldR (s : AS) (o : AOp) : Int × AS :=
  if o.kind = 0 then writeR s o.name o.b else if o.kind = 1 then appendR s o.name o.b else if o.kind = 2 then syncR s o.name else if o.kind = 3 then renameR s o.name o.tgt else
  if o.kind = 4 then removeR s o.name else if o.kind = 5 then syncDirR s o.name else if o.kind = 6 then (0, { s with armed := max o.n 0 }) else if o.kind = 7 then (0, crashS s o.n o.m) else (0, s)

theorem OK.told5 {s : AS} {k B : Nat} (h : OK s k B) (o : AOp) (hB : B + o.b.length ≤ 1048576) (h5 : o.kind ≤ 5) : OK (toldR s o).2 (k + 1) (B + o.b.length) := by
  unfold toldR
  split
  · exact h.write _ _ hB
  split
  · exact h.append _ _ hB
  split
  · exact (h.sync _ (by omega)).mono (Nat.le_refl _) (by omega)
  split
  · exact (h.rename _ _ (by omega)).mono (Nat.le_refl _) (by omega)
  split
  · exact (h.remove _ (by omega)).mono (Nat.le_refl _) (by omega)
  split
  · exact (h.syncDir _).mono (Nat.le_refl _) (by omega)
  rw [if_neg (by omega), if_neg (by omega)]
  exact h.mono (by omega) (by omega)

theorem name_has {D : DataW Unit} {w : World} {N n : Nat} (hT : Tab w N n D) {l : List UInt8} (hl : l ∈ namesOf D) : Maps.has D (key ⟨l.toArray⟩) = true := by
  have hm : l ∈ strKeys D := (List.mergeSort_perm _ _).mem_iff.1 hl
  obtain ⟨es, rfl, hko⟩ := World.ownsMap.keysOf hT
  obtain ⟨p, hp, rfl⟩ := List.mem_map.1 hm
  obtain ⟨v, hv⟩ := hko p hp
  obtain ⟨y, _, hy, hl⟩ := Maps.keyOf_str Tryd.underlying9 hv
  have e : key ⟨(strOf p.1).toArray⟩ = p.1 := by rw [hy]; simp [key, strOf]
  rw [e, Maps.has_eq, List.any_eq_true]
  exact ⟨p, hp, WideAt.sameKey_self (by rw [hy]; exact keyStr _)⟩

theorem OK.getN {s : AS} {k B : Nat} {w : World} {N n : Nat} (h : OK s k B) (hB : B ≤ 1048576) (hT : Tab w N n s.names) : ∀ l, l ∈ namesOf s.names → ∃ f, s.files (num s.names ⟨l.toArray⟩) = some f ∧ f.data.length ≤ 1099511627776 := by
  intro l hl
  have h0 := h.wf.good.nz _ (name_has hT hl)
  have h1 := (h.wf.good.ub _ h0).2.2
  cases hf : s.files (num s.names ⟨l.toArray⟩) with
  | none => exact absurd hf h1
  | some f => exact ⟨f, rfl, by have := h.fl _ f hf; omega⟩
theorem OK.getD {s : AS} {k B : Nat} {w : World} {N n : Nat} (h : OK s k B) (hB : B ≤ 1048576) (hT : Tab w N n s.durable) : ∀ l, l ∈ namesOf s.durable → ∃ f, s.files (num s.durable ⟨l.toArray⟩) = some f ∧ f.data.length ≤ 1099511627776 := by
  intro l hl
  obtain ⟨b, hd⟩ := h.wf.goodD
  have h0 := hd.nz _ (name_has hT hl)
  have h1 := (hd.ub _ h0).2.2
  cases hf : s.files (num s.durable ⟨l.toArray⟩) with
  | none => exact absurd hf h1
  | some f => exact ⟨f, rfl, by have := h.fl _ f hf; omega⟩

end Go.Proofs.YtbdbobikiikbgaaDoor
