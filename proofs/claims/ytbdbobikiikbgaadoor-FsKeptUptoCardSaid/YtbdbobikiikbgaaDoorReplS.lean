/-
  What a file that is written beside and renamed is behind a crash, in plain data.
-/
import Derived.Test.YtbdbobikiikbgaaDoorTold7
import Derived.Test.YtbdbobikiikbgaaDoorRefS
namespace Go.Proofs.YtbdbobikiikbgaaDoor
open Go.RowKit Go.WideMaps Go.Maps Go.Sort

theorem bytes_len (s : ByteArray) : s.data.toList.length = s.size := by
  show s.data.toList.length = s.data.size
  exact Array.length_toList

/- A name's directory is a name, or empty. -/
def cutS : List UInt8 → List (List UInt8)
  | [] => [[]]
  | b :: l => if b = 47 then [] :: cutS l else match cutS l with | [] => [[b]] | p :: ps => (b :: p) :: ps

theorem split_cut : ∀ l : List UInt8, Lib.splitK [47] 0 (Lib.count l [47]) l = cutS l
  | [] => by rw [Lib.count_miss (by simp [Lib.index])]; rfl
  | b :: l => by
    by_cases h : b = 47
    · subst h
      have hix : Lib.index (47 :: l) [47] = ((0 : Nat) : Int) := by rw [Lib.index]; simp [List.isPrefixOf]
      rw [Lib.count_cons_eq, Nat.add_comm, Lib.splitK, if_neg (by rw [hix]; decide), hix]
      have := split_cut l
      simp [cutS, this]
    · have hp : ([47] : List UInt8).isPrefixOf (b :: l) = false := by simp [List.isPrefixOf, Ne.symm h]
      have hix : Lib.index (b :: l) [47] = if Lib.index l [47] == -1 then -1 else Lib.index l [47] + 1 := by rw [Lib.index, hp]; simp
      have ih := split_cut l
      rw [Lib.count_cons_ne b 47 l h]
      simp only [cutS, if_neg h]
      by_cases hm : Lib.index l [47] = -1
      · rw [Lib.count_miss hm] at ih ⊢
        rw [← ih]; rfl
      · have hge := Lib.index_ge l [47]
        obtain ⟨j, hj⟩ : ∃ j : Nat, Lib.index l [47] = j := ⟨(Lib.index l [47]).toNat, by omega⟩
        have hc := Lib.count_hit (by simp) hj
        rw [hc, Nat.add_comm] at ih ⊢
        have hne : ¬ (Lib.index l [47] == -1) = true := fun e => hm (beq_iff_eq.1 e)
        have hix' : Lib.index (b :: l) [47] = ((j + 1 : Nat) : Int) := by rw [hix, if_neg hne, hj]; omega
        rw [Lib.splitK, if_neg hne, hj] at ih
        rw [Lib.splitK, if_neg (by rw [hix']; simp; omega), hix', ← ih]
        simp

theorem cut_app (y : List UInt8) : ∀ x : List UInt8, cutS (x ++ 47 :: y) = cutS x ++ cutS y
  | [] => by simp [cutS]
  | b :: l => by
    have ih := cut_app y l
    by_cases h : b = 47
    · subst h; simp [cutS, ih]
    · simp only [List.cons_append, cutS, if_neg h, ih]
      cases hc : cutS l with
      | nil =>
        exfalso
        cases l with
        | nil => simp [cutS] at hc
        | cons c l => simp only [cutS] at hc; split at hc <;> (try split at hc) <;> simp at hc
      | cons p ps => simp

theorem parts_data (s : ByteArray) : (partsB s).map (·.data.toList) = cutS s.data.toList := by
  unfold partsB
  rw [Lib.splitB_data]
  exact split_cut _

theorem valid_cut (s : ByteArray) : validB s = (decide (s.size ≤ 240) && (cutS s.data.toList).all elemB) := by
  unfold validB
  rw [← parts_data, List.all_map]; rfl

theorem valid_dir {s : ByteArray} (h : validB s = true) : syncDirE (dirB s) = 0 := by
  unfold syncDirE
  by_cases h0 : (dirB s).data.toList = []
  · rw [if_pos h0]
  · rw [if_neg h0, if_pos]
    unfold dirB at h0 ⊢
    rcases Lib.lastIndexByte_spec s 47 with ⟨e, _⟩ | ⟨i, hi, e, hc, _⟩
    · rw [if_pos (by omega)] at h0; exact absurd rfl h0
    · rw [if_neg (by omega), show (Lib.lastIndexByte s 47).toNat = i by omega]
      rw [valid_cut, Bool.and_eq_true] at h ⊢
      have hl : i < s.data.toList.length := by have := bytes_len s; omega
      have e1 : s.data.toList = s.data.toList.take i ++ 47 :: s.data.toList.drop (i + 1) := by
        have h2 : s.data.toList[i] = 47 := by
          have h3 : s.data[i]! = s.data.toList[i] := by
            rw [getElem!_pos s.data i (by simpa using hl)]; simp
          rw [h3] at hc
          have : s.data.toList[i].toNat = 47 := by omega
          exact UInt8.toNat_inj.1 this
        rw [← h2, List.getElem_cons_drop hl, List.take_append_drop]
      have h4 := h.2
      rw [e1, cut_app, List.all_append, Bool.and_eq_true] at h4
      have e5 : (s.extract 0 i).data.toList = s.data.toList.take i := Lib.extract_from_zero s i
      rw [e5]
      have h6 := extract_size_le s 0 i
      have h7 := of_decide_eq_true h.1
      exact ⟨by simp only [decide_eq_true_eq]; omega, h4.1⟩

/-- What a name's file is, wherever a crash comes. -/
def EndsIn (S : AS) (name : ByteArray) (P : List UInt8 → Prop) : Prop :=
  ∀ j, j ≤ S.pending.length → ∃ (x : Int) (l : List UInt8), num ((S.pending.take j).foldl Chg.act S.durable) name = x ∧ x ≠ 0 ∧ S.files x = some ⟨l, l.length⟩ ∧ P l

theorem crashF_whole (e : Int) (l : List UInt8) : crashF e ⟨l, l.length⟩ = ⟨l, l.length⟩ := by
  simp [crashF]

theorem EndsIn.crash {S : AS} {k B : Nat} {name : ByteArray} {P : List UInt8 → Prop} (h : EndsIn S name P) (ok : OK S k B) (n e : Int) :
    ∃ l, num (crashS S n e).names name ≠ 0 ∧ (crashS S n e).files (num (crashS S n e).names name) = some ⟨l, l.length⟩ ∧ P l := by
  obtain ⟨j, hj⟩ : ∃ j, j = min (max n 0).toNat S.pending.length := ⟨_, rfl⟩
  have hjl : j ≤ S.pending.length := by omega
  obtain ⟨x, l, h1, h2, h3, h4⟩ := h j hjl
  have hw := ok.wf.settled j hjl
  have e1 : crashS S n e = downS (settleS S j) e := by unfold crashS; rw [hj]
  rw [e1]
  have hD : (settleS S j).durable = (S.pending.take j).foldl Chg.act S.durable := foldD_fst S j
  have hx : num (settleS S j).durable name = x := by rw [hD]; exact h1
  obtain ⟨b, hg⟩ := hw.goodD
  have hx0 : num (settleS S j).durable name ≠ 0 := by rw [hx]; exact h2
  have hm := num_mem hg.tidy.isMap hx0
  refine ⟨l, hx0, ?_, h4⟩
  show keptF (settleS S j) e (num (settleS S j).durable name) = _
  unfold keptF
  rw [if_pos (by simpa using hm)]
  have hf := (hg.ub name hx0).2.2
  rcases hq : (settleS S j).files (num (settleS S j).durable name) with _ | f
  · exact absurd hq hf
  · have := foldD_files S j _ f hq
    rw [hx, h3] at this
    obtain rfl : (⟨l, l.length⟩ : AF) = f := by simpa using this
    simp [crashF_whole]

/-- A whole and durable file of that name, and nothing is pending. -/
structure Stands (S : AS) (name : ByteArray) (l : List UInt8) : Prop where
  pend : S.pending = []
  nz : num S.durable name ≠ 0
  file : S.files (num S.durable name) = some ⟨l, l.length⟩

theorem Wf.named {S : AS} (h : Wf S) (hp : S.pending = []) : S.names = S.durable := by
  have := h.names
  rw [hp] at this
  exact this

theorem begin_rest (s : AS) (own : Int) : (beginS s own).names = s.names ∧ (beginS s own).durable = s.durable ∧ (beginS s own).files = s.files ∧ (beginS s own).pending = s.pending ∧ (beginS s own).newest = s.newest := by
  unfold beginS
  split
  · exact ⟨rfl, rfl, rfl, rfl, rfl⟩
  · split
    · split <;> exact ⟨rfl, rfl, rfl, rfl, rfl⟩
    · exact ⟨rfl, rfl, rfl, rfl, rfl⟩

theorem EndsIn.same {S T : AS} {name : ByteArray} {P : List UInt8 → Prop} (h : EndsIn S name P) (hd : T.durable = S.durable) (hf : T.files = S.files) (hp : T.pending = S.pending) : EndsIn T name P := by
  intro j hj
  rw [hp] at hj
  obtain ⟨x, l, h1, h2, h3, h4⟩ := h j hj
  exact ⟨x, l, by rw [hp, hd]; exact h1, h2, by rw [hf]; exact h3, h4⟩
theorem EndsIn.begin {S : AS} {name : ByteArray} {P : List UInt8 → Prop} (h : EndsIn S name P) (own : Int) : EndsIn (beginS S own) name P :=
  h.same (begin_rest S own).2.1 (begin_rest S own).2.2.1 (begin_rest S own).2.2.2.1
theorem Stands.ends {S : AS} {name : ByteArray} {l : List UInt8} (h : Stands S name l) : EndsIn S name (fun x => x = l) := by
  intro j hj
  refine ⟨_, l, rfl, ?_, ?_, rfl⟩ <;> (rw [h.pend]; simp only [List.take_nil, List.foldl_nil])
  · exact h.nz
  · exact h.file

theorem settle_nil {S : AS} (h : S.pending = []) (k : Nat) : settleS S k = S := by
  unfold settleS foldD
  rw [h]
  simp only [List.take_nil, List.foldl_nil, List.drop_nil]
  cases S; simp_all

/-- The first write, synced. -/
theorem stand_first {s : AS} {k B : Nat} (ok : OK s k B) (hp : s.pending = []) (ha : s.armed = 0) (hd : s.down = false) (name : ByteArray) (hv : validB name = true) (l : List UInt8) (hB : B + l.length ≤ 1048576) :
    (writeR s name l).1 = 4 ∨ ((writeR s name l).1 = 0 ∧ (syncR (writeR s name l).2 name).1 = 0 ∧ (syncDirR (syncR (writeR s name l).2 name).2 (dirB name)).1 = 0 ∧ Stands (syncDirR (syncR (writeR s name l).2 name).2 (dirB name)).2 name l) := by
  have hE : ∀ own, beginE s own = own := by
    intro own
    unfold beginE
    rw [hd, ha]
    by_cases h : own = 0
    · subst h; simp
    · simp [h]
  have hw4 : writeE s name l.length = 0 ∨ writeE s name l.length = 4 := by
    unfold writeE
    rw [if_pos hv]
    split
    · split
      · exact Or.inr rfl
      · exact Or.inl rfl
    · split
      · exact Or.inr rfl
      · exact Or.inl rfl
  rcases hw4 with h0 | h4
  · right
    have okW := ok.write name l hB
    have okY := okW.sync name (by omega)
    have okD := okY.syncDir (dirB name)
    have hb0 : beginE s (writeE s name l.length) = 0 := by rw [hE]; exact h0
    have hbs := begin_done hb0
    have e1 : writeR s name l = (0, wroteS { s with armed := max (s.armed - 1) 0, steps := s.steps + 1 } name l) := by
      unfold writeR
      rw [if_pos hb0, hbs]
    rw [e1] at okW okY okD ⊢
    obtain ⟨s1, hs1⟩ : ∃ s1, s1 = wroteS { s with armed := max (s.armed - 1) 0, steps := s.steps + 1 } name l := ⟨_, rfl⟩
    have t1 : s1.names = s.names.put (key name) (i64 (s.newest + 1)) := by rw [hs1]; rfl
    have t2 : s1.pending = [.put name (s.newest + 1)] := by rw [hs1]; show s.pending ++ _ = _; rw [hp]; rfl
    have t3 : s1.durable = s.durable := by rw [hs1]; rfl
    have t4 : s1.files (s.newest + 1) = some ⟨l, 0⟩ := by rw [hs1]; show (if s.newest + 1 = s.newest + 1 then _ else _) = _; rw [if_pos rfl]
    have t5 : s1.armed = 0 := by rw [hs1]; show max (s.armed - 1) 0 = 0; rw [ha]; rfl
    have t6 : s1.down = false := by rw [hs1]; exact hd
    rw [← hs1] at okW okY okD ⊢
    have hn0 := ok.wf.new0
    have n1 : num s1.names name = s.newest + 1 := by rw [t1]; exact num_put_same ok.wf.good.tidy.isMap _ _
    have z1 : noneE s1 name = 0 := by unfold noneE; rw [if_neg (by rw [n1]; omega)]
    have b1 : beginE s1 (noneE s1 name) = 0 := by unfold beginE; rw [t5, t6, z1]; simp
    have d1 := begin_done b1
    have e2 : syncR s1 name = (0, setFile { s1 with armed := max (s1.armed - 1) 0, steps := s1.steps + 1 } (s.newest + 1) ⟨l, l.length⟩) := by
      unfold syncR
      rw [if_pos b1, d1, n1, t4]
    rw [e2] at okY okD ⊢
    obtain ⟨s2, hs2⟩ : ∃ s2, s2 = setFile { s1 with armed := max (s1.armed - 1) 0, steps := s1.steps + 1 } (s.newest + 1) ⟨l, l.length⟩ := ⟨_, rfl⟩
    have u2 : s2.pending = [.put name (s.newest + 1)] := by rw [hs2]; exact t2
    have u3 : s2.durable = s.durable := by rw [hs2]; exact t3
    have u4 : s2.files (s.newest + 1) = some ⟨l, l.length⟩ := by rw [hs2]; show (if s.newest + 1 = s.newest + 1 then _ else _) = _; rw [if_pos rfl]
    have u5 : s2.armed = 0 := by rw [hs2]; show max (s1.armed - 1) 0 = 0; rw [t5]; rfl
    have u6 : s2.down = false := by rw [hs2]; exact t6
    rw [← hs2] at okY okD ⊢
    have z2 := valid_dir hv
    have b2 : beginE s2 (syncDirE (dirB name)) = 0 := by unfold beginE; rw [u5, u6, z2]; simp
    have d2 := begin_done b2
    have e3 : syncDirR s2 (dirB name) = (0, settleS { s2 with armed := max (s2.armed - 1) 0, steps := s2.steps + 1 } 1) := by
      unfold syncDirR
      rw [if_pos b2, d2, u2]
      simp [lastOf, Chg.dir]
    rw [e3] at okD ⊢
    refine ⟨rfl, rfl, rfl, ?_⟩
    obtain ⟨s3, hs3⟩ : ∃ s3, s3 = settleS { s2 with armed := max (s2.armed - 1) 0, steps := s2.steps + 1 } 1 := ⟨_, rfl⟩
    have v2 : s3.pending = [] := by rw [hs3]; show s2.pending.drop 1 = []; rw [u2]; rfl
    have v3 : s3.durable = s.durable.put (key name) (i64 (s.newest + 1)) := by
      rw [hs3]; show ((s2.pending.take 1).foldl stepD (s2.durable, s2.files)).1 = _; rw [u2, u3]; rfl
    have n3 : num s3.durable name = s.newest + 1 := by
      rw [v3]
      obtain ⟨b, hg⟩ := ok.wf.goodD
      exact num_put_same hg.tidy.isMap _ _
    rw [← hs3] at okD ⊢
    obtain ⟨b, hg⟩ := okD.wf.goodD
    have nz : num s3.durable name ≠ 0 := by rw [n3]; omega
    refine ⟨v2, nz, ?_⟩
    have hf := (hg.ub name nz).2.2
    rcases hq : s3.files (num s3.durable name) with _ | f
    · exact absurd hq hf
    · rw [hs3] at hq
      have := foldD_files { s2 with armed := max (s2.armed - 1) 0, steps := s2.steps + 1 } 1 _ f hq
      rw [← hs3, n3] at this
      have h5 : s2.files (s.newest + 1) = some f := this
      rw [← h5]; exact u4
  · left
    unfold writeR
    rw [hE, h4]; rfl

/-- What is behind the write beside, the sync, the rename and the sync of the directory. -/
theorem replaced {s : AS} {k B : Nat} (ok : OK s k B) {name beside : ByteArray} {old fresh : List UInt8} (hs : Stands s name old) (hne : beside.data.toList ≠ name.data.toList) (hB : B + fresh.length ≤ 1048576) :
    ((writeR s beside fresh).1 ≠ 0 → EndsIn (writeR s beside fresh).2 name (fun x => x = old)) ∧
    ((writeR s beside fresh).1 = 0 → EndsIn (syncR (writeR s beside fresh).2 beside).2 name (fun x => x = old)) ∧
    ((writeR s beside fresh).1 = 0 → (syncR (writeR s beside fresh).2 beside).1 = 0 → (renameR (syncR (writeR s beside fresh).2 beside).2 beside name).1 ≠ 0 → EndsIn (renameR (syncR (writeR s beside fresh).2 beside).2 beside name).2 name (fun x => x = old)) ∧
    ((writeR s beside fresh).1 = 0 → (syncR (writeR s beside fresh).2 beside).1 = 0 → (renameR (syncR (writeR s beside fresh).2 beside).2 beside name).1 = 0 →
      EndsIn (syncDirR (renameR (syncR (writeR s beside fresh).2 beside).2 beside name).2 (dirB name)).2 name (fun x => x = fresh ∨ (x = old ∧ (syncDirR (renameR (syncR (writeR s beside fresh).2 beside).2 beside name).2 (dirB name)).1 ≠ 0))) := by
  have hdn := ok.wf.named hs.pend
  have hn0 := ok.wf.new0
  have hgN := ok.wf.good
  have hle := (hgN.ub name (by rw [hdn]; exact hs.nz)).2.1
  rw [hdn] at hle
  have okW := ok.write beside fresh hB
  have okY := okW.sync beside (by omega)
  by_cases hE : beginE s (writeE s beside fresh.length) = 0
  · have e1 : writeR s beside fresh = (0, wroteS { s with armed := max (s.armed - 1) 0, steps := s.steps + 1 } beside fresh) := by
      unfold writeR
      rw [if_pos hE, begin_done hE]
    rw [e1] at okW okY ⊢
    obtain ⟨s1, hs1⟩ : ∃ s1, s1 = wroteS { s with armed := max (s.armed - 1) 0, steps := s.steps + 1 } beside fresh := ⟨_, rfl⟩
    have t1 : s1.names = s.names.put (key beside) (i64 (s.newest + 1)) := by rw [hs1]; rfl
    have t2 : s1.pending = [.put beside (s.newest + 1)] := by rw [hs1]; show s.pending ++ _ = _; rw [hs.pend]; rfl
    have t3 : s1.durable = s.durable := by rw [hs1]; rfl
    have t4 : s1.files (s.newest + 1) = some ⟨fresh, 0⟩ := by rw [hs1]; show (if s.newest + 1 = s.newest + 1 then _ else _) = _; rw [if_pos rfl]
    have t5 : s1.files (num s.durable name) = some ⟨old, old.length⟩ := by rw [hs1]; show (if num s.durable name = s.newest + 1 then _ else s.files _) = _; rw [if_neg (by omega)]; exact hs.file
    rw [← hs1] at okW okY ⊢
    obtain ⟨bD, hgD⟩ := ok.wf.goodD
    have hput : ∀ D, D = s.durable.put (key beside) (i64 (s.newest + 1)) → num D name = num s.durable name := by
      intro D e; rw [e]; exact num_put_other (Ne.symm hne) _
    have ends1 : ∀ T : AS, T.pending = [.put beside (s.newest + 1)] → T.durable = s.durable → T.files (num s.durable name) = some ⟨old, old.length⟩ → EndsIn T name (fun x => x = old) := by
      intro T hp hd hf j hj
      rw [hp] at hj
      refine ⟨num s.durable name, old, ?_, hs.nz, hf, rfl⟩
      rw [hp, hd]
      have : j = 0 ∨ j = 1 := by simp at hj; omega
      rcases this with rfl | rfl
      · rfl
      · exact hput _ rfl
    have n1 : num s1.names beside = s.newest + 1 := by rw [t1]; exact num_put_same hgN.tidy.isMap _ _
    have z1 : noneE s1 beside = 0 := by unfold noneE; rw [if_neg (by rw [n1]; omega)]
    refine ⟨fun h => absurd rfl h, fun _ => ?_, fun _ => ?_, fun _ => ?_⟩
    · by_cases b1 : beginE s1 (noneE s1 beside) = 0
      · have e2 : syncR s1 beside = (0, setFile { s1 with armed := max (s1.armed - 1) 0, steps := s1.steps + 1 } (s.newest + 1) ⟨fresh, fresh.length⟩) := by
          unfold syncR
          rw [if_pos b1, begin_done b1, n1, t4]
        rw [e2]
        refine ends1 _ t2 t3 ?_
        show (if num s.durable name = s.newest + 1 then _ else s1.files _) = _
        rw [if_neg (by omega)]; exact t5
      · have e2 : syncR s1 beside = (beginE s1 (noneE s1 beside), beginS s1 (noneE s1 beside)) := by unfold syncR; rw [if_neg b1]
        rw [e2]
        exact (ends1 s1 t2 t3 t5).begin _
    all_goals
      intro h2
      have b1 : beginE s1 (noneE s1 beside) = 0 := by
        by_cases b1 : beginE s1 (noneE s1 beside) = 0
        · exact b1
        · exfalso
          have e2 : syncR s1 beside = (beginE s1 (noneE s1 beside), beginS s1 (noneE s1 beside)) := by unfold syncR; rw [if_neg b1]
          rw [e2] at h2
          exact b1 h2
      have e2 : syncR s1 beside = (0, setFile { s1 with armed := max (s1.armed - 1) 0, steps := s1.steps + 1 } (s.newest + 1) ⟨fresh, fresh.length⟩) := by
        unfold syncR
        rw [if_pos b1, begin_done b1, n1, t4]
      rw [e2] at okY ⊢
      clear h2
      obtain ⟨s2, hs2⟩ : ∃ s2, s2 = setFile { s1 with armed := max (s1.armed - 1) 0, steps := s1.steps + 1 } (s.newest + 1) ⟨fresh, fresh.length⟩ := ⟨_, rfl⟩
      have u2 : s2.pending = [.put beside (s.newest + 1)] := by rw [hs2]; exact t2
      have u3 : s2.durable = s.durable := by rw [hs2]; exact t3
      have u4 : s2.files (s.newest + 1) = some ⟨fresh, fresh.length⟩ := by rw [hs2]; show (if s.newest + 1 = s.newest + 1 then _ else _) = _; rw [if_pos rfl]
      have u5 : s2.files (num s.durable name) = some ⟨old, old.length⟩ := by
        rw [hs2]
        show (if num s.durable name = s.newest + 1 then _ else s1.files _) = _
        rw [if_neg (by omega)]; exact t5
      rw [← hs2] at okY ⊢
      have hdef : renameR s2 beside name = if beginE s2 (renameE s2 beside name) = 0 then (0, renamedS (beginS s2 (renameE s2 beside name)) beside name) else (beginE s2 (renameE s2 beside name), beginS s2 (renameE s2 beside name)) := rfl
    · intro h3
      by_cases b2 : beginE s2 (renameE s2 beside name) = 0
      · rw [hdef, if_pos b2] at h3; exact absurd rfl h3
      · rw [hdef, if_neg b2]
        exact (ends1 s2 u2 u3 u5).begin _
    · intro h3
      by_cases b2 : beginE s2 (renameE s2 beside name) = 0
      · have e3 : renameR s2 beside name = (0, alterS { s2 with armed := max (s2.armed - 1) 0, steps := s2.steps + 1 } (.move beside name)) := by
          rw [hdef, if_pos b2, begin_done b2]
          unfold renamedS
          rw [if_neg hne]
        have okR := okY.rename beside name (by omega)
        rw [e3] at okR ⊢
        obtain ⟨s3, hs3⟩ : ∃ s3, s3 = alterS { s2 with armed := max (s2.armed - 1) 0, steps := s2.steps + 1 } (.move beside name) := ⟨_, rfl⟩
        have v2 : s3.pending = [.put beside (s.newest + 1), .move beside name] := by rw [hs3]; show s2.pending ++ _ = _; rw [u2]; rfl
        have v3 : s3.durable = s.durable := by rw [hs3]; exact u3
        have v4 : s3.files (s.newest + 1) = some ⟨fresh, fresh.length⟩ := by rw [hs3]; exact u4
        have v5 : s3.files (num s.durable name) = some ⟨old, old.length⟩ := by rw [hs3]; exact u5
        rw [← hs3] at okR ⊢
        have hlast : num ((([.put beside (s.newest + 1), .move beside name] : List Chg)).foldl Chg.act s.durable) name = s.newest + 1 := by
          show num (((s.durable.put (key beside) (i64 (s.newest + 1))).put (key name) (i64 (num (s.durable.put (key beside) (i64 (s.newest + 1))) beside))).del (key beside)) name = _
          rw [num_del_other (Ne.symm hne), num_put_same (hgD.tidy.isMap.put _ _), num_put_same hgD.tidy.isMap]
        have hdef4 : syncDirR s3 (dirB name) = if beginE s3 (syncDirE (dirB name)) = 0 then (0, settleS (beginS s3 (syncDirE (dirB name))) (lastOf (dirB name) s3.pending s3.pending.length)) else (beginE s3 (syncDirE (dirB name)), beginS s3 (syncDirE (dirB name))) := rfl
        by_cases b3 : beginE s3 (syncDirE (dirB name)) = 0
        · have hl2 : lastOf (dirB name) s3.pending s3.pending.length = 2 := by rw [v2]; simp [lastOf, Chg.dir]
          have okD := okR.syncDir (dirB name)
          rw [hdef4, if_pos b3, hl2, begin_done b3] at okD ⊢
          obtain ⟨s4, hs4⟩ : ∃ s4, s4 = settleS { s3 with armed := max (s3.armed - 1) 0, steps := s3.steps + 1 } 2 := ⟨_, rfl⟩
          have x2 : s4.pending = [] := by rw [hs4]; show s3.pending.drop 2 = []; rw [v2]; rfl
          have x3 : s4.durable = ([.put beside (s.newest + 1), .move beside name] : List Chg).foldl Chg.act s.durable := by
            rw [hs4]
            show (foldD { s3 with armed := max (s3.armed - 1) 0, steps := s3.steps + 1 } 2).1 = _
            rw [foldD_fst]
            show (s3.pending.take 2).foldl Chg.act s3.durable = _
            rw [v2, v3]; rfl
          rw [← hs4] at okD ⊢
          obtain ⟨b, hg⟩ := okD.wf.goodD
          have n4 : num s4.durable name = s.newest + 1 := by rw [x3]; exact hlast
          have nz : num s4.durable name ≠ 0 := by rw [n4]; omega
          have hf := (hg.ub name nz).2.2
          have hst : Stands s4 name fresh := by
            refine ⟨x2, nz, ?_⟩
            rcases hq : s4.files (num s4.durable name) with _ | f
            · exact absurd hq hf
            · rw [hs4] at hq
              have := foldD_files { s3 with armed := max (s3.armed - 1) 0, steps := s3.steps + 1 } 2 _ f hq
              rw [← hs4, n4] at this
              have h5 : s3.files (s.newest + 1) = some f := this
              rw [← h5]; exact v4
          intro j hj
          obtain ⟨x, l, h1, h2, h3, h4⟩ := hst.ends j hj
          exact ⟨x, l, h1, h2, h3, Or.inl h4⟩
        · rw [hdef4, if_neg b3]
          refine EndsIn.begin (S := s3) ?_ _
          intro j hj
          rw [v2] at hj
          rw [v2, v3]
          have : j = 0 ∨ j = 1 ∨ j = 2 := by simp at hj; omega
          rcases this with rfl | rfl | rfl
          · exact ⟨num s.durable name, old, rfl, hs.nz, v5, Or.inr ⟨rfl, b3⟩⟩
          · exact ⟨num s.durable name, old, hput _ rfl, hs.nz, v5, Or.inr ⟨rfl, b3⟩⟩
          · exact ⟨s.newest + 1, fresh, hlast, by omega, v4, Or.inl rfl⟩
      · rw [hdef, if_neg b2] at h3; exact absurd h3 b2
  · have e1 : writeR s beside fresh = (beginE s (writeE s beside fresh.length), beginS s (writeE s beside fresh.length)) := by unfold writeR; rw [if_neg hE]
    rw [e1]
    refine ⟨fun _ => hs.ends.begin _, fun h => absurd h hE, fun h => absurd h hE, fun h => absurd h hE⟩

end Go.Proofs.YtbdbobikiikbgaaDoor
