/-
  What the tables and the pending changes keep to, in plain data, through every write.
-/
import Derived.Test.YtbdbobikiikbgaaDoorOps
namespace Go.Proofs.YtbdbobikiikbgaaDoor
open Go.RowKit Go.WideMaps Go.Maps Go.Sort

/-- A table in order: each name has a number of its own, from 1 to b, of a file that is there. -/
structure Good (D : DataW Unit) (b : Int) (P : Int → Prop) : Prop where
  tidy : Tidy D
  nz : ∀ s, Maps.has D (key s) = true → num D s ≠ 0
  inj : ∀ s t, num D s ≠ 0 → num D s = num D t → s.data.toList = t.data.toList
  ub : ∀ s, num D s ≠ 0 → 1 ≤ num D s ∧ num D s ≤ b ∧ P (num D s)

/-- A change that may come next. -/
def Chg.Step (D : DataW Unit) (b : Int) : Chg → Prop
  | .put _ x => b < x ∧ 1 ≤ x
  | .move fr tgt => num D fr ≠ 0 ∧ fr.data.toList ≠ tgt.data.toList
  | .drop _ => True
def Chg.nxt (b : Int) : Chg → Int
  | .put _ x => x
  | _ => b
def Chg.Put (P : Int → Prop) : Chg → Prop
  | .put _ x => P x
  | _ => True

def Chn (P : Int → Prop) (hi : Int) : List Chg → DataW Unit → Int → Prop
  | [], D, b => Good D b P ∧ b ≤ hi
  | c :: cs, D, b => Good D b P ∧ c.Step D b ∧ Chn P hi cs (c.act D) (c.nxt b)

theorem num_congr' {D : DataW Unit} {s t : ByteArray} (h : t.data.toList = s.data.toList) : num D t = num D s := num_congr h
theorem key_congr {s t : ByteArray} (h : t.data.toList = s.data.toList) : key t = key s := by unfold key; rw [h]
theorem key_ne {s t : ByteArray} (h : t.data.toList ≠ s.data.toList) : key t ≠ key s := by unfold key; simpa using h

theorem num_put {D : DataW Unit} (h : IsMap D) (s t : ByteArray) (x : Int) : num (D.put (key s) (i64 x)) t = if t.data.toList = s.data.toList then x else num D t := by
  split
  · rename_i e; rw [num_congr e, num_put_same h]
  · rename_i e; exact num_put_other e x
theorem num_del {D : DataW Unit} (s t : ByteArray) : num (D.del (key s)) t = if t.data.toList = s.data.toList then 0 else num D t := by
  split
  · rename_i e; rw [num_congr e, num_del_same]
  · rename_i e; exact num_del_other e
theorem has_put {D : DataW Unit} (h : IsMap D) (s t : ByteArray) (d : DataW Unit) : Maps.has (D.put (key s) d) (key t) = if t.data.toList = s.data.toList then true else Maps.has D (key t) := by
  split
  · rename_i e; rw [key_congr e]; exact has_put_same h (keyStr _) d
  · rename_i e; exact has_put_other (key_ne e) d
theorem has_del {D : DataW Unit} (s t : ByteArray) : Maps.has (D.del (key s)) (key t) = if t.data.toList = s.data.toList then false else Maps.has D (key t) := by
  split
  · rename_i e; rw [key_congr e]; exact has_del_same
  · rename_i e; exact has_del_other (key_ne e)

theorem act_num {D : DataW Unit} (h : IsMap D) (c : Chg) (t : ByteArray) : num (c.act D) t =
    match c with
    | .put s x => if t.data.toList = s.data.toList then x else num D t
    | .move fr tgt => if t.data.toList = fr.data.toList then 0 else if t.data.toList = tgt.data.toList then num D fr else num D t
    | .drop s => if t.data.toList = s.data.toList then 0 else num D t := by
  cases c with
  | put s x => exact num_put h s t x
  | move fr tgt =>
    show num ((D.put (key tgt) (i64 (num D fr))).del (key fr)) t = _
    rw [num_del, num_put h]
  | drop s => exact num_del s t
theorem act_has {D : DataW Unit} (h : IsMap D) (c : Chg) (t : ByteArray) : Maps.has (c.act D) (key t) =
    match c with
    | .put s _ => if t.data.toList = s.data.toList then true else Maps.has D (key t)
    | .move fr tgt => if t.data.toList = fr.data.toList then false else if t.data.toList = tgt.data.toList then true else Maps.has D (key t)
    | .drop s => if t.data.toList = s.data.toList then false else Maps.has D (key t) := by
  cases c with
  | put s x => exact has_put h s t _
  | move fr tgt =>
    show Maps.has ((D.put (key tgt) (i64 (num D fr))).del (key fr)) (key t) = _
    rw [has_del, has_put h]
  | drop s => exact has_del s t

theorem Good.mono {D : DataW Unit} {b b' : Int} {P Q : Int → Prop} (h : Good D b P) (hb : b ≤ b') (hP : ∀ n, P n → Q n) : Good D b' Q :=
  ⟨h.tidy, h.nz, h.inj, fun s hs => ⟨(h.ub s hs).1, Int.le_trans (h.ub s hs).2.1 hb, hP _ (h.ub s hs).2.2⟩⟩

theorem Good.act {D : DataW Unit} {b : Int} {P : Int → Prop} (h : Good D b P) {c : Chg} (hs : c.Step D b) (hp : c.Put P) : Good (c.act D) (c.nxt b) P := by
  have hm := h.tidy.isMap
  refine ⟨act_tidy h.tidy c, fun s hh => ?_, fun s t h0 he => ?_, fun s h0 => ?_⟩
  · rw [act_has hm] at hh
    rw [act_num hm]
    cases c with
    | put u x => simp only at hh ⊢; obtain ⟨h1, h2⟩ := hs; split <;> rename_i e
                 · omega
                 · rw [if_neg e] at hh; exact h.nz s hh
    | move fr tgt =>
      simp only at hh ⊢
      split <;> rename_i e
      · rw [if_pos e] at hh; cases hh
      · rw [if_neg e] at hh
        split <;> rename_i e2
        · exact hs.1
        · rw [if_neg e2] at hh; exact h.nz s hh
    | drop u =>
      simp only at hh ⊢
      split <;> rename_i e
      · rw [if_pos e] at hh; cases hh
      · rw [if_neg e] at hh; exact h.nz s hh
  · rw [act_num hm] at h0 he
    rw [act_num hm] at he
    cases c with
    | put u x =>
      simp only at h0 he
      obtain ⟨h1, h2⟩ := hs
      by_cases e1 : s.data.toList = u.data.toList <;> by_cases e2 : t.data.toList = u.data.toList
      · rw [e1, e2]
      · rw [if_pos e1, if_neg e2] at he
        rw [if_pos e1] at h0
        have := (h.ub t (by rw [← he]; exact h0)).2.1; omega
      · rw [if_neg e1, if_pos e2] at he
        rw [if_neg e1] at h0
        have := (h.ub s h0).2.1; omega
      · rw [if_neg e1, if_neg e2] at he
        rw [if_neg e1] at h0
        exact h.inj s t h0 he
    | move fr tgt =>
      simp only at h0 he
      by_cases e1 : s.data.toList = fr.data.toList
      · rw [if_pos e1] at h0; exact absurd rfl h0
      · rw [if_neg e1] at h0 he
        by_cases e2 : t.data.toList = fr.data.toList
        · rw [if_pos e2] at he; exact absurd he h0
        · rw [if_neg e2] at he
          by_cases e3 : s.data.toList = tgt.data.toList <;> by_cases e4 : t.data.toList = tgt.data.toList
          · rw [e3, e4]
          · rw [if_pos e3, if_neg e4] at he
            exact absurd (h.inj fr t hs.1 he).symm e2
          · rw [if_neg e3] at h0
            rw [if_neg e3, if_pos e4] at he
            exact absurd (h.inj s fr h0 he) e1
          · rw [if_neg e3] at h0
            rw [if_neg e3, if_neg e4] at he
            exact h.inj s t h0 he
    | drop u =>
      simp only at h0 he
      by_cases e1 : s.data.toList = u.data.toList
      · rw [if_pos e1] at h0; exact absurd rfl h0
      · rw [if_neg e1] at h0 he
        by_cases e2 : t.data.toList = u.data.toList
        · rw [if_pos e2] at he; exact absurd he h0
        · rw [if_neg e2] at he; exact h.inj s t h0 he
  · rw [act_num hm] at h0 ⊢
    cases c with
    | put u x =>
      obtain ⟨h1, h2⟩ := hs
      simp only at h0 ⊢
      split <;> rename_i e
      · exact ⟨h2, Int.le_refl _, hp⟩
      · rw [if_neg e] at h0
        have := h.ub s h0
        exact ⟨this.1, by show num D s ≤ x; omega, this.2.2⟩
    | move fr tgt =>
      simp only at h0 ⊢
      split <;> rename_i e
      · rw [if_pos e] at h0; exact absurd rfl h0
      · rw [if_neg e] at h0
        split <;> rename_i e2
        · exact h.ub fr hs.1
        · rw [if_neg e2] at h0; exact h.ub s h0
    | drop u =>
      simp only at h0 ⊢
      split <;> rename_i e
      · rw [if_pos e] at h0; exact absurd rfl h0
      · rw [if_neg e] at h0; exact h.ub s h0

/-- The number that a change takes from its name has none behind it. -/
theorem Good.old {D : DataW Unit} {b : Int} {P : Int → Prop} (h : Good D b P) {c : Chg} (hs : c.Step D b) (s : ByteArray) (h0 : num (c.act D) s ≠ 0) : num (c.act D) s ≠ c.old D := by
  have hm := h.tidy.isMap
  rw [act_num hm] at h0 ⊢
  cases c with
  | put u x =>
    obtain ⟨h1, h2⟩ := hs
    show (if s.data.toList = u.data.toList then x else num D s) ≠ num D u
    intro he
    split at he <;> rename_i e
    · have := (h.ub u (by omega)).2.1; omega
    · simp only [if_neg e] at h0; exact e (h.inj s u h0 he)
  | move fr tgt =>
    show (if s.data.toList = fr.data.toList then 0 else if s.data.toList = tgt.data.toList then num D fr else num D s) ≠ num D tgt
    simp only at h0
    intro he
    split at he <;> rename_i e
    · rw [if_pos e] at h0; exact h0 rfl
    · rw [if_neg e] at h0
      split at he <;> rename_i e2
      · exact hs.2 (h.inj fr tgt hs.1 he)
      · rw [if_neg e2] at h0; exact e2 (h.inj s tgt h0 he)
  | drop u =>
    show (if s.data.toList = u.data.toList then 0 else num D s) ≠ num D u
    simp only at h0
    intro he
    split at he <;> rename_i e
    · rw [if_pos e] at h0; exact h0 rfl
    · rw [if_neg e] at h0; exact e (h.inj s u h0 he)

theorem Good.old_le {D : DataW Unit} {b : Int} {P : Int → Prop} (h : Good D b P) (c : Chg) : c.old D = 0 ∨ c.old D ≤ b := by
  obtain ⟨s, e⟩ := old_num D c
  rw [e]
  by_cases h0 : num D s = 0
  · exact Or.inl h0
  · exact Or.inr (h.ub s h0).2.1

theorem Step.nxt_le {D : DataW Unit} {b : Int} {c : Chg} (hs : c.Step D b) : b ≤ c.nxt b := by
  cases c with
  | put u x => exact Int.le_of_lt hs.1
  | move fr tgt => exact Int.le_refl _
  | drop u => exact Int.le_refl _

theorem Chn.mono {P Q : Int → Prop} {hi hi' : Int} (hP : ∀ n, P n → Q n) (hh : hi ≤ hi') : ∀ {cs : List Chg} {D : DataW Unit} {b : Int}, Chn P hi cs D b → Chn Q hi' cs D b
  | [], _, _, h => ⟨h.1.mono (Int.le_refl _) hP, Int.le_trans h.2 hh⟩
  | _ :: _, _, _, h => ⟨h.1.mono (Int.le_refl _) hP, h.2.1, Chn.mono hP hh h.2.2⟩

theorem Chn.first {P : Int → Prop} {hi : Int} : ∀ {cs : List Chg} {D : DataW Unit} {b : Int}, Chn P hi cs D b → Good D b P
  | [], _, _, h => h.1
  | _ :: _, _, _, h => h.1

theorem Chn.last {P : Int → Prop} {hi : Int} : ∀ {cs : List Chg} {D : DataW Unit} {b : Int}, Chn P hi cs D b → ∃ b', b' ≤ hi ∧ Good (cs.foldl Chg.act D) b' P
  | [], _, b, h => ⟨b, h.2, h.1⟩
  | _ :: _, _, _, h => by
    have := Chn.last h.2.2
    exact this

theorem Chn.snoc {P : Int → Prop} {hi : Int} {c : Chg} (hp : c.Put P) : ∀ {cs : List Chg} {D : DataW Unit} {b : Int}, Chn P hi cs D b → c.Step (cs.foldl Chg.act D) hi → Chn P (c.nxt hi) (cs ++ [c]) D b
  | [], D, b, h, hs => by
    have hs' : c.Step D b := by
      cases c with
      | put u x => exact ⟨by have := hs.1; have := h.2; omega, hs.2⟩
      | move fr tgt => exact hs
      | drop u => trivial
    refine ⟨h.1, hs', h.1.act hs' hp, ?_⟩
    cases c with
    | put u x => exact Int.le_refl _
    | move fr tgt => exact h.2
    | drop u => exact h.2
  | _ :: _, _, _, h, hs => by
    have := Chn.snoc hp h.2.2 hs
    exact ⟨h.1, h.2.1, this⟩

theorem Chn.lose {P : Int → Prop} {hi : Int} (x : Int) : ∀ {cs : List Chg} {D : DataW Unit} {b : Int}, Chn P hi cs D b → (∀ s, num D s ≠ 0 → num D s ≠ x) → (x = 0 ∨ x ≤ b) → Chn (fun n => n ≠ x ∧ P n) hi cs D b := by
  have good : ∀ {D : DataW Unit} {b : Int}, Good D b P → (∀ s, num D s ≠ 0 → num D s ≠ x) → Good D b (fun n => n ≠ x ∧ P n) :=
    fun h hx => ⟨h.tidy, h.nz, h.inj, fun s hs => ⟨(h.ub s hs).1, (h.ub s hs).2.1, hx s hs, (h.ub s hs).2.2⟩⟩
  intro cs
  induction cs with
  | nil => exact fun h hx _ => ⟨good h.1 hx, h.2⟩
  | cons c cs ih =>
    intro D b h hx hb
    refine ⟨good h.1 hx, h.2.1, ih h.2.2 (fun s h0 => ?_) (hb.imp id (fun h' => Int.le_trans h' (Step.nxt_le h.2.1)))⟩
    have hm := h.1.tidy.isMap
    rw [act_num hm] at h0 ⊢
    have hs := h.2.1
    cases c with
    | put u y =>
      obtain ⟨h1, h2⟩ := hs
      simp only at h0 ⊢
      split <;> rename_i e
      · omega
      · rw [if_neg e] at h0; exact hx s h0
    | move fr tgt =>
      simp only at h0 ⊢
      split <;> rename_i e
      · rw [if_pos e] at h0; exact absurd rfl h0
      · rw [if_neg e] at h0
        split <;> rename_i e2
        · exact hx fr hs.1
        · rw [if_neg e2] at h0; exact hx s h0
    | drop u =>
      simp only at h0 ⊢
      split <;> rename_i e
      · rw [if_pos e] at h0; exact absurd rfl h0
      · rw [if_neg e] at h0; exact hx s h0

theorem Chn.settle {P : Int → Prop} {hi b : Int} {c : Chg} {cs : List Chg} {D : DataW Unit} (h : Chn P hi (c :: cs) D b) : Chn (fun n => n ≠ c.old D ∧ P n) hi cs (c.act D) (c.nxt b) :=
  Chn.lose _ h.2.2 (fun s h0 => h.1.old h.2.1 s h0) ((h.1.old_le c).imp id (fun h' => Int.le_trans h' (Step.nxt_le h.2.1)))

theorem foldD_chn {s : AS} {b : Int} (h : Chn (fun n => s.files n ≠ none) s.newest s.pending s.durable b) : ∀ k, k ≤ s.pending.length → ∃ b', Chn (fun n => (foldD s k).2 n ≠ none) s.newest (s.pending.drop k) (foldD s k).1 b'
  | 0, _ => ⟨b, h⟩
  | k + 1, hk => by
    obtain ⟨b', h'⟩ := foldD_chn h k (by omega)
    have hc : s.pending[k]? = some (s.pending[k]'(by omega)) := by simp
    rw [List.drop_eq_getElem_cons (show k < s.pending.length by omega)] at h'
    rw [foldD_succ s k _ hc]
    refine ⟨_, (Chn.settle h').mono (fun n hn => ?_) (Int.le_refl _)⟩
    show (if n = _ then none else (foldD s k).2 n) ≠ none
    rw [if_neg hn.1]; exact hn.2

theorem foldD_fst (s : AS) (k : Nat) : (foldD s k).1 = (s.pending.take k).foldl Chg.act s.durable := by
  unfold foldD
  suffices H : ∀ (cs : List Chg) (p : DataW Unit × (Int → Option AF)), (cs.foldl stepD p).1 = cs.foldl Chg.act p.1 from H _ _
  intro cs
  induction cs with
  | nil => intro p; rfl
  | cons c cs ih => intro p; exact ih _

theorem foldD_files (s : AS) (k : Nat) (n : Int) (f : AF) (h : (foldD s k).2 n = some f) : s.files n = some f := by
  unfold foldD at h
  suffices H : ∀ (cs : List Chg) (p : DataW Unit × (Int → Option AF)), (cs.foldl stepD p).2 n = some f → p.2 n = some f from H _ _ h
  intro cs
  induction cs with
  | nil => intro p h; exact h
  | cons c cs ih =>
    intro p h
    have := ih _ h
    have h2 : (if n = c.old p.1 then none else p.2 n) = some f := this
    split at h2
    · cases h2
    · exact h2

/-- What a file system keeps to. -/
structure Wf (s : AS) : Prop where
  chain : ∃ b, Chn (fun n => s.files n ≠ none) s.newest s.pending s.durable b
  names : s.names = s.pending.foldl Chg.act s.durable
  zero : s.files 0 = none
  new0 : 0 ≤ s.newest

theorem Wf.good {s : AS} (h : Wf s) : Good s.names s.newest (fun n => s.files n ≠ none) := by
  obtain ⟨b, hc⟩ := h.chain
  obtain ⟨b', h1, h2⟩ := hc.last
  rw [h.names]
  exact h2.mono h1 (fun _ h => h)
theorem Wf.goodD {s : AS} (h : Wf s) : ∃ b, Good s.durable b (fun n => s.files n ≠ none) := by
  obtain ⟨b, hc⟩ := h.chain
  exact ⟨b, hc.first⟩

theorem Wf.inv {s : AS} (h : Wf s) (hl : ∀ n f, s.files n = some f → f.data.length ≤ 1099511627776) : Inv s := by
  obtain ⟨b, hd⟩ := h.goodD
  exact ⟨fun nm h0 => (h.good.ub nm h0).2.2, fun nm h0 => (hd.ub nm h0).2.2, h.zero, hl⟩

theorem wf_new (q : Int) : Wf (newS q) := by
  refine ⟨⟨0, ⟨tidy_empty, fun s h => ?_, fun s t h => ?_, fun s h => ?_⟩, Int.le_refl _⟩, rfl, rfl, Int.le_refl _⟩
  · exact absurd h (by simp [newS, Maps.has])
  · exact absurd (show num (.map []) s = 0 from rfl) h
  · exact absurd (show num (.map []) s = 0 from rfl) h

theorem Wf.begin {s : AS} (h : Wf s) (own : Int) : Wf (beginS s own) := by
  unfold beginS
  split
  · exact h
  · split
    · split
      · exact ⟨h.chain, h.names, h.zero, h.new0⟩
      · exact ⟨h.chain, h.names, h.zero, h.new0⟩
    · exact h

theorem Wf.setFile {s : AS} (h : Wf s) (n : Int) (f : AF) (hn : n ≠ 0) : Wf (setFile s n f) := by
  obtain ⟨b, hc⟩ := h.chain
  refine ⟨⟨b, hc.mono (fun m hm => ?_) (Int.le_refl _)⟩, h.names, ?_, h.new0⟩
  · show (if m = n then some f else s.files m) ≠ none
    split
    · simp
    · exact hm
  · show (if (0 : Int) = n then some f else s.files 0) = none
    rw [if_neg (fun e => hn e.symm)]; exact h.zero

theorem Wf.alter {s : AS} (h : Wf s) (c : Chg) (hs : c.Step s.names s.newest) (hp : c.Put (fun n => s.files n ≠ none)) (hx : c.nxt s.newest = s.newest) : Wf (alterS s c) := by
  obtain ⟨b, hc⟩ := h.chain
  refine ⟨⟨b, ?_⟩, ?_, h.zero, h.new0⟩
  · have := Chn.snoc hp hc (by rw [← h.names]; exact hs)
    rw [hx] at this; exact this
  · show c.act s.names = (s.pending ++ [c]).foldl Chg.act s.durable
    rw [List.foldl_append, ← h.names]; rfl

theorem Wf.wrote {s : AS} (h : Wf s) (name : ByteArray) (l : List UInt8) : Wf (wroteS s name l) := by
  obtain ⟨b, hc⟩ := h.chain
  have h0 := h.new0
  refine ⟨⟨b, ?_⟩, ?_, ?_, by show 0 ≤ s.newest + 1; omega⟩
  · have := Chn.snoc (c := .put name (s.newest + 1)) (P := fun n => (if n = s.newest + 1 then some (⟨l, 0⟩ : AF) else s.files n) ≠ none) (by show _ ≠ none; simp)
      (hc.mono (Q := fun n => (if n = s.newest + 1 then some (⟨l, 0⟩ : AF) else s.files n) ≠ none) (fun m hm => by
        by_cases e : m = s.newest + 1
        · simp [e]
        · simp only [if_neg e]; exact hm) (Int.le_refl s.newest)) ⟨by omega, by omega⟩
    exact this
  · show Chg.act s.names (.put name (s.newest + 1)) = (s.pending ++ [_]).foldl Chg.act s.durable
    rw [List.foldl_append, ← h.names]; rfl
  · show (if (0 : Int) = s.newest + 1 then some (⟨l, 0⟩ : AF) else s.files 0) = none
    rw [if_neg (by omega)]; exact h.zero

theorem Wf.renamed {s : AS} (h : Wf s) (fr tgt : ByteArray) (hf : num s.names fr ≠ 0) : Wf (renamedS s fr tgt) := by
  unfold renamedS
  split
  · exact h
  · rename_i e; exact h.alter _ ⟨hf, e⟩ trivial rfl

theorem Wf.settled {s : AS} (h : Wf s) (k : Nat) (hk : k ≤ s.pending.length) : Wf (settleS s k) := by
  obtain ⟨b, hc⟩ := h.chain
  obtain ⟨b', h'⟩ := foldD_chn hc k hk
  refine ⟨⟨b', h'⟩, ?_, ?_, h.new0⟩
  · show s.names = (s.pending.drop k).foldl Chg.act (foldD s k).1
    rw [foldD_fst, ← List.foldl_append, List.take_append_drop]; exact h.names
  · cases hf : (settleS s k).files 0 with
    | none => rfl
    | some f => have := foldD_files s k 0 f hf; rw [h.zero] at this; cases this

end Go.Proofs.YtbdbobikiikbgaaDoor
