/-
  Names of files, the program's: any text, any files.
-/
import Derived.Test.YtkablmjkffdloaaGreatDoorEleA
import Derived.Test.YtkablmjkffdloaaGreatDoorLow
import Derived.Test.YtkablmjkffdloaaGreatDoorFilA
import Derived.Maps.OwnSet
import Derived.Maps.OwnOps
import Derived.DeepKeys4
import Derived.Laws.EntriesVeiled
namespace Go.Proofs.YtkablmjkffdloaaGreatDoor
open Go.RowKit Go.WideMaps Go.Maps

theorem index_cons2 (b c : UInt8) (l : Str) : Lib.index (b :: l) [c] = if b = c then 0 else if Lib.index l [c] = -1 then -1 else Lib.index l [c] + 1 := by
  rw [Lib.index]
  by_cases h : b = c
  · subst h; simp [List.isPrefixOf]
  · have h' : ¬ c = b := fun e => h e.symm
    simp [List.isPrefixOf, h, h']

theorem splitK_cons2 (b c : UInt8) (l : Str) (h : b ≠ c) : ∀ k, ∃ p ps, Lib.splitK [c] 0 k l = p :: ps ∧ Lib.splitK [c] 0 k (b :: l) = (b :: p) :: ps
  | 0 => ⟨l, [], rfl, rfl⟩
  | k + 1 => by
    have hge := Lib.index_ge l [c]
    simp only [Lib.splitK, index_cons2, if_neg h]
    by_cases hm : Lib.index l [c] = -1
    · simp only [hm, if_true, beq_self_eq_true]
      exact ⟨l, [], rfl, rfl⟩
    · have e1 : (Lib.index l [c] == -1) = false := by simpa using hm
      have e2 : (Lib.index l [c] + 1 == -1) = false := by simp; omega
      simp only [if_neg hm, e1, e2, Bool.false_eq_true, if_false]
      have e3 : (Lib.index l [c] + 1).toNat = (Lib.index l [c]).toNat + 1 := by omega
      refine ⟨_, _, rfl, ?_⟩
      rw [e3]
      simp

theorem splitK_pieces2 (c : UInt8) : ∀ l : Str, Lib.splitK [c] 0 (Lib.count l [c]) l = pieces c l
  | [] => by rw [Lib.count_miss (by simp [Lib.index])]; rfl
  | b :: l => by
    have ih := splitK_pieces2 c l
    by_cases h : b = c
    · subst h
      rw [Lib.count_cons_eq, Nat.add_comm]
      simp only [Lib.splitK, index_cons2, if_true]
      simp [pieces, ih]
    · rw [Lib.count_cons_ne b c l h]
      obtain ⟨p, ps, e1, e2⟩ := splitK_cons2 b c l h (Lib.count l [c])
      rw [e2]
      rw [ih] at e1
      simp [pieces, h, e1]

theorem splitB_pieces2 (c : UInt8) (s : ByteArray) : Lib.splitB (ba [c]) 0 (Lib.countB s (ba [c])) s = (pieces c s.data.toList).map ba := by
  have h := Lib.splitB_data (ba [c]) 0 (Lib.countB s (ba [c])) s
  have e : Lib.countB s (ba [c]) = Lib.count s.data.toList [c] := rfl
  rw [ba_data] at h
  rw [e] at h ⊢
  rw [splitK_pieces2] at h
  rw [← h, List.map_map]
  have : (ba ∘ fun x : ByteArray => x.data.toList) = id := by funext x; exact ba_of x
  rw [this, List.map_id]


theorem lowAA {a w : World} (h : Below a.heap.size a w) (o : Obj) : Below a.heap.size a (w.alloc o) := h.alloc h.size o
theorem take_sn {α : Type} {l : List α} {i : Nat} (h : i < l.length) : l.take (i + 1) = l.take i ++ [l[i]] := by
  rw [List.take_add_one, List.getElem?_eq_getElem h]; rfl
/-- The library's variable that Split reads. -/
def Ml (w : World) : Prop := ∃ m, w.cell? ⟨0, 0, none⟩ = some (.int .i64 m)
theorem Ml.low {w w' : World} (h : Ml w) (hb : Below w.heap.size w w') : Ml w' := by
  obtain ⟨m, hm⟩ := h
  exact ⟨m, (hb.cell (lt_of_cell hm)).trans hm⟩
/-- A name in an archive. -/
def nameF (l : Bs) : Bool := decide (l.length ≤ 200) && (pieces 47 l).all elG
theorem pieces_len (c : UInt8) : ∀ l : Bs, (pieces c l).length ≤ l.length + 1
  | [] => by simp [pieces]
  | x :: l => by
    have ih := pieces_len c l
    have hn := pieces_ne c l
    rw [pieces_cons]
    split
    · simp; omega
    · cases hp : pieces c l with
      | nil => exact absurd hp hn
      | cons y ys => rw [hp] at ih; simp at ih ⊢; omega

set_option maxRecDepth 100000 in
set_option maxHeartbeats 2000000 in
theorem validName_any {l : Bs} {w : World} (hg : Ml w) : Calls Tryz.prog 48 #[.string (ba l)] w fun e w' => e = .returned (.bool (nameF l)) ∧ Below w.heap.size w w' := by
  obtain ⟨n, hn⟩ : ∃ n, l.length = n := ⟨_, rfl⟩
  have hsz : (ba l).size = n := by rw [ba_size]; exact hn
  by_cases h2 : n ≤ 200
  · have i2 : ¬ (200 : Int) < (n : Int) := by omega
    obtain ⟨m, hm⟩ := hg
    obtain ⟨P, hP⟩ : ∃ P, pieces 47 l = P := ⟨_, rfl⟩
    have hps := pieces_short 47 l
    have hpl := pieces_len 47 l
    rw [hP] at hps hpl
    have HF : Hid (nameF l = P.all elG) := hide (by unfold nameF; rw [hP, decide_eq_true (by omega), Bool.true_and])
    obtain ⟨np, hnp⟩ : ∃ np, P.length = np := ⟨_, rfl⟩
    obtain ⟨A, hA⟩ : ∃ A, w.heap.size = A := ⟨_, rfl⟩
    obtain ⟨W1, hW1⟩ : ∃ W1, w.alloc (.cells ((P.map ba).map Value.string).toArray 9) = W1 := ⟨_, rfl⟩
    have b1 : Below w.heap.size w W1 := by rw [← hW1]; exact lowAA (Below.refl _ _) _
    have e : Lib.splitB (ba [47]) 0 (Lib.countB (ba l) (ba [47])) (ba l) = P.map ba := by rw [splitB_pieces2, ba_data, hP]
    have ec : Lib.countB (ba l) (ba [47]) + 1 = np := by
      have h1 := Lib.splitB_all (ba [47]) (by decide) 0 _ (ba l) rfl
      rw [e, List.length_map, hnp] at h1
      exact h1.symm
    have K2 : Hid (Calls Tryz.prog 98 #[.string (ba l), .string ⟨#[47]⟩] w fun e w' => e = .returned (.slice (some ⟨A, 0, none⟩) np np) ∧ w' = W1) := hide (by
      have k := Tryz.strings_Split (ba l) (ba [47]) m w (by rw [ba_size]; omega) hm (by decide)
      rw [ec, hA, e] at k
      rw [← hW1]
      exact k)
    have hcl : ∀ k (hk : k < P.length), W1.cell? ⟨A, k, none⟩ = some (.string (ba P[k])) := fun k hk => by
      rw [← hW1, ← hA]
      have h1 : (w.alloc (.cells ((P.map ba).map Value.string).toArray 9)).heap[w.heap.size]? = some (.cells ((P.map ba).map Value.string).toArray 9 (0, 0)) := heap_alloc_new w _
      rw [Lib.cell_of_heap h1]
      simp [hk]
    have hnp2 : np ≤ 201 := by omega
    have HNP := hide hnp
    have HPS : Hid (∀ p ∈ P, p.length ≤ 1000000) := hide (fun p hp => by have := hps p hp; omega)
    have HCL := hide hcl
    have HB1 := hide b1
    clear hn hP hps hpl hnp hA hW1 b1 e ec hcl hm
    go_enter Tryz.func48, Tryz.ntmps48
    go_wp2_with (go_at_call 98; fail)
    refine (unhide K2).mono ?_
    rintro e wn ⟨rfl, hwn⟩
    rw [hwn]
    clear hwn wn K2
    go_wp2
    go_loop [4, 11] (fun _ v11 => ∃ k : Nat, k ≤ np ∧ v11 = .int .i64 (k : Int) ∧ Hid ((P.take k).all elG = true)) (fun _ v11 => np - (intOf v11).toNat)
    case atStart => exact ⟨0, Nat.zero_le _, rfl, hide (by simp)⟩
    case round =>
      obtain ⟨k, hk, rfl, hne⟩ := hrel
      by_cases hlt : k < np
      · have hkl : k < P.length := by rw [unhide HNP]; exact hlt
        have hlt' : (k : Int) < (np : Int) := by omega
        have c0 := unhide HCL k hkl
        have hxl := unhide HPS _ (List.getElem_mem hkl)
        have htk := take_sn hkl
        obtain ⟨x, hx⟩ : ∃ x, P[k] = x := ⟨_, rfl⟩
        rw [hx] at c0 hxl htk
        have KE := hide (element_any hxl)
        obtain ⟨el, hel⟩ : ∃ el, elG x = el := ⟨_, rfl⟩
        rw [hel] at KE
        have hmem : x ∈ P := by rw [← hx]; exact List.getElem_mem hkl
        cases el with
        | true =>
          have HT : Hid ((P.take (k + 1)).all elG = true) := hide (by rw [htk, List.all_append, unhide hne]; simp [hel])
          clear hx hel htk hxl hmem hne
          go_wp2_with (go_at_call 99; refine (unhide KE _).mono ?_; rintro e wn ⟨rfl, hwn⟩; rw [hwn]; clear hwn wn)
          go_round
          case rel => exact ⟨k + 1, hlt, by simp, HT⟩
          case measure => simp [intOf]; omega
        | false =>
          have HT : Hid (nameF l = false) := hide (by
            rw [unhide HF, Bool.eq_false_iff]
            intro h
            have := List.all_eq_true.1 h x hmem
            rw [hel] at this
            cases this)
          clear hx hel htk hxl hmem hne
          go_wp2_with (go_at_call 99; refine (unhide KE _).mono ?_; rintro e wn ⟨rfl, hwn⟩; rw [hwn]; clear hwn wn)
          go_ret
          exact ⟨by rw [unhide HT]; rfl, unhide HB1⟩
      · have hke : k = np := by omega
        subst hke
        have HT : Hid (nameF l = true) := hide (by
          rw [unhide HF]
          have h1 := unhide hne
          rw [List.take_of_length_le (Nat.le_of_eq (unhide HNP))] at h1
          exact h1)
        clear hne
        go_wp2
        go_ret
        exact ⟨by rw [unhide HT]; rfl, unhide HB1⟩
  · have i2 : (200 : Int) < (n : Int) := by omega
    have HF : Hid (nameF l = false) := hide (by unfold nameF; rw [decide_eq_false (by omega), Bool.false_and])
    clear hn
    go_enter Tryz.func48, Tryz.ntmps48
    go_wp2
    go_ret
    exact ⟨by rw [unhide HF]; rfl, Below.refl _ _⟩

theorem piece_chars : ∀ (l : Bs), (∀ p ∈ pieces 47 l, p.all chG = true) → ∀ c ∈ l, chG c = true ∨ c = 47
  | [], _, c, hc => by cases hc
  | x :: l, h, c, hc => by
    have hn := pieces_ne 47 l
    rw [pieces_cons] at h
    split at h
    · rename_i hx
      rcases List.mem_cons.1 hc with rfl | hc
      · exact Or.inr hx
      · exact piece_chars l (fun p hp => h p (by simp [hp])) c hc
    · cases hp : pieces 47 l with
      | nil => exact absurd hp hn
      | cons y ys =>
        rw [hp] at h
        have h1 := h (x :: y) (by simp)
        simp only [List.all_cons, Bool.and_eq_true] at h1
        rcases List.mem_cons.1 hc with rfl | hc
        · exact Or.inl h1.1
        · refine piece_chars l (fun p hp2 => ?_) c hc
          rw [hp] at hp2
          rcases List.mem_cons.1 hp2 with rfl | h2
          · exact h1.2
          · exact h p (by simp [h2])
theorem name_chars {l : Bs} (h : nameF l = true) : ∀ c ∈ l, chG c = true ∨ c = 47 := by
  unfold nameF at h
  simp only [Bool.and_eq_true] at h
  refine piece_chars l (fun p hp => ?_)
  have := List.all_eq_true.1 h.2 p hp
  unfold elG at this
  simp only [Bool.and_eq_true] at this
  exact this.2
theorem name_ascii {l : Bs} (h : nameF l = true) : ∀ (j : Nat) (b : UInt8), l[j]? = some b → b.toNat < 128 := fun j b hb => by
  have hm : b ∈ l := List.mem_of_getElem? hb
  rcases name_chars h b hm with h1 | rfl
  · unfold chG at h1
    simp only [Bool.and_eq_true, decide_eq_true_eq] at h1
    omega
  · decide
theorem name_len {l : Bs} (h : nameF l = true) : l.length ≤ 200 := by
  unfold nameF at h
  simp only [Bool.and_eq_true, decide_eq_true_eq] at h
  exact h.1

end Go.Proofs.YtkablmjkffdloaaGreatDoor
