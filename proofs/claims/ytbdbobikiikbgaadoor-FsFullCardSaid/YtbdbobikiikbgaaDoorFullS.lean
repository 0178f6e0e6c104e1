/-
  What FsFull's writes make of a file system, in plain data.
-/
import Derived.Test.YtbdbobikiikbgaaDoorNames
namespace Go.Proofs.YtbdbobikiikbgaaDoor
open Go.RowKit Go.WideMaps Go.Maps Go.Sort

theorem u8_inj {a b : Nat} (ha : a < 100) (hb : b < 100) (h : 97 + UInt8.ofNat a = 97 + UInt8.ofNat b) : a = b := by
  have h1 : UInt8.ofNat a = UInt8.ofNat b := by
    have := congrArg (fun x => x - 97) h
    simpa using this
  have h2 := congrArg UInt8.toNat h1
  simp at h2
  omega

theorem nm_inj {i j : Nat} (hi : i < 4002) (hj : j < 4002) (h : (nm i).data.toList = (nm j).data.toList) : i = j := by
  simp only [nm, List.cons.injEq, and_true, true_and] at h
  obtain ⟨h1, h2, h3⟩ := h
  have e1 := u8_inj (by omega) (by omega) h1
  have e2 := u8_inj (by omega) (by omega) h2
  have e3 := u8_inj (by omega) (by omega) h3
  omega

def fullS (q : Int) : Nat → AS
  | 0 => newS q
  | k + 1 => (writeR (fullS q k) (nm k) []).2

structure FullOK (q : Int) (k : Nat) (s : AS) : Prop where
  size : s.size = 0
  newest : s.newest = k
  steps : s.steps = k
  armed : s.armed = 0
  down : s.down = false
  quota : s.quota = min (max q 0) 67108864
  durable : s.durable = .map []
  pend : s.pending.length = k
  tidy : Tidy s.names
  msize : Maps.size s.names = k
  nums : ∀ j, j < k → num s.names (nm j) = j + 1
  rest : ∀ j, j < 4002 → k ≤ j → Maps.has s.names (key (nm j)) = false
  files : ∀ j : Nat, j < k → s.files (j + 1) = some ⟨[], 0⟩
  inv : Inv s

theorem num_of_not_has {D : DataW Unit} {s : ByteArray} (h : Maps.has D (key s) = false) : num D s = 0 := by
  unfold num
  unfold key at h
  rw [atKey_of_not_has h]

theorem FullOK.errZero {q : Int} {k : Nat} {s : AS} (h : FullOK q k s) (hk : k < 4000) : writeE s (nm k) (0 : Nat) = 0 := by
  have hn := num_of_not_has (h.rest k (by omega) (Nat.le_refl _))
  unfold writeE
  rw [nm_valid k (by omega), hn, h.inv.zero]
  simp only [if_true]
  rw [if_neg]
  rw [h.quota, h.size, h.msize]
  omega

theorem FullOK.errFull {q : Int} {s : AS} (h : FullOK q 4000 s) (j : Nat) (hj : j < 4002) (h4 : 4000 ≤ j) : (writeR s (nm j) []).1 = 4 ∧ (writeR s (nm j) []).2 = s := by
  have hn := num_of_not_has (h.rest j hj h4)
  have hw : writeE s (nm j) ([] : List UInt8).length = 4 := by
    unfold writeE
    rw [nm_valid j hj, hn, h.inv.zero]
    simp only [if_true]
    rw [if_pos]
    rw [h.msize]; right; omega
  unfold writeR
  rw [hw]
  have hE : beginE s 4 = 4 := by simp [beginE, h.down]
  rw [hE, if_neg (by decide)]
  exact ⟨rfl, by simp [beginS, h.down]⟩

theorem full_start (q : Int) : FullOK q 0 (newS q) :=
  ⟨rfl, rfl, rfl, rfl, rfl, rfl, rfl, rfl, tidy_empty, rfl, fun j hj => by omega, fun j _ _ => rfl, fun j hj => by omega, inv_new q⟩

theorem full_step {q : Int} {k : Nat} {s : AS} (h : FullOK q k s) (hk : k < 4000) : (writeR s (nm k) []).1 = 0 ∧ FullOK q (k + 1) (writeR s (nm k) []).2 := by
  have hE : writeE s (nm k) ([] : List UInt8).length = 0 := h.errZero hk
  have hb : beginE s 0 = 0 := by simp [beginE, h.down, h.armed]
  have hs : beginS s 0 = { s with armed := 0, steps := s.steps + 1 } := by
    simp [beginS, h.down, h.armed]; rfl
  have hn := num_of_not_has (h.rest k (by omega) (Nat.le_refl _))
  have hR : writeR s (nm k) [] = (0, wroteS { s with armed := 0, steps := s.steps + 1 } (nm k) []) := by
    unfold writeR; rw [hE, hb, hs]; rfl
  rw [hR]
  have hold : (if (num s.names (nm k)) = s.newest + 1 then some (⟨[], 0⟩ : AF) else s.files (num s.names (nm k))) = none := by
    rw [hn, if_neg (by have := h.newest; omega)]; exact h.inv.zero
  refine ⟨rfl, ?_⟩
  have hsz : (wroteS { s with armed := 0, steps := s.steps + 1 } (nm k) []).size = 0 := by
    show (match (if (num s.names (nm k)) = s.newest + 1 then some (⟨[], 0⟩ : AF) else s.files (num s.names (nm k))) with | none => s.size + (([] : List UInt8).length : Int) | some f => s.size + (([] : List UInt8).length : Int) - f.data.length) = 0
    rw [hold, h.size]; rfl
  refine ⟨hsz, ?_, ?_, rfl, h.down, h.quota, h.durable, ?_, ?_, ?_, ?_, ?_, ?_, ?_⟩
  · show s.newest + 1 = _; rw [h.newest]; omega
  · show s.steps + 1 = _; rw [h.steps]; omega
  · show (s.pending ++ [_]).length = _; rw [List.length_append, h.pend]; rfl
  · exact h.tidy.put (keyStr _) _
  · show Maps.size (s.names.put (key (nm k)) _) = _
    rw [size_put h.tidy, h.rest k (by omega) (Nat.le_refl _), h.msize]; simp
  · intro j hj
    show num (s.names.put (key (nm k)) (i64 (s.newest + 1))) (nm j) = _
    by_cases e : j = k
    · subst e; rw [num_put_same h.tidy.isMap, h.newest]
    · rw [num_put_other (fun hq => e (nm_inj (by omega) (by omega) hq))]; exact h.nums j (by omega)
  · intro j hj hkj
    show Maps.has (s.names.put (key (nm k)) _) (key (nm j)) = false
    rw [has_put_other]
    · exact h.rest j hj (by omega)
    · intro e
      have : (nm j).data.toList = (nm k).data.toList := by simpa [key] using e
      have := nm_inj hj (by omega) this
      omega
  · intro j hj
    show (if ((j : Int) + 1) = s.newest + 1 then some (⟨[], 0⟩ : AF) else s.files ((j : Int) + 1)) = _
    split
    · rfl
    · rename_i e
      exact h.files j (by have := h.newest; omega)
  · exact (show Inv { s with armed := 0, steps := s.steps + 1 } from ⟨h.inv.names, h.inv.durable, h.inv.zero, h.inv.len⟩).wrote h.tidy.isMap (by show 0 ≤ s.newest; rw [h.newest]; omega) _ _ (by decide)

theorem full_ok (q : Int) : ∀ k, k ≤ 4000 → FullOK q k (fullS q k)
  | 0, _ => full_start q
  | k + 1, h => (full_step (full_ok q k (by omega)) (by omega)).2

theorem FullOK.room {q : Int} {k : Nat} {s : AS} (h : FullOK q k s) (hk : k ≤ 4000) (n : Nat) (hn : n ≤ 100) : Room s n := by
  refine ⟨⟨?_, ?_, ?_, ?_, ?_, ?_, ?_, ?_, ?_, ?_, ?_, ?_, ?_⟩, ?_, ?_, ?_⟩
  · rw [h.quota]; omega
  · rw [h.quota]; omega
  · rw [h.newest]; omega
  · rw [h.newest]; omega
  · rw [h.size]; omega
  · rw [h.size]; omega
  · rw [h.steps]; omega
  · rw [h.steps]; omega
  · rw [h.armed]; omega
  · rw [h.armed]; omega
  · rw [h.msize]; omega
  · rw [h.durable]; simp [Maps.size]
  · rw [h.pend]; omega
  · rw [h.newest]; omega
  · rw [h.size]; omega
  · rw [h.steps]; omega

/-- What Append answers then, and that the names stay. -/
theorem full_append {q : Int} {k : Nat} {s : AS} (h : FullOK q k s) (hk : 1 ≤ k) (l : List UInt8) :
    (appendR s (nm 0) l).1 = (if (l.length : Int) ≤ min (max q 0) 67108864 then 0 else 4) ∧ (appendR s (nm 0) l).2.names = s.names := by
  have hn : num s.names (nm 0) = 1 := by have := h.nums 0 (by omega); simpa using this
  have hf : s.files 1 = some ⟨[], 0⟩ := by have := h.files 0 (by omega); simpa using this
  have hA : appendE s (nm 0) l.length = if (l.length : Int) ≤ min (max q 0) 67108864 then 0 else 4 := by
    unfold appendE
    rw [hn, if_neg (by decide), h.size, h.quota]
    by_cases e : (l.length : Int) ≤ min (max q 0) 67108864
    · rw [if_pos e, if_neg (by omega)]
    · rw [if_neg e, if_pos (by omega)]
  unfold appendR
  rw [hA, hn, hf]
  by_cases e : (l.length : Int) ≤ min (max q 0) 67108864
  · simp only [if_pos e]
    have hb : beginE s 0 = 0 := by simp [beginE, h.down, h.armed]
    rw [hb]
    exact ⟨rfl, by simp [appendedS, setFile, beginS, h.down, h.armed]⟩
  · simp only [if_neg e]
    have hb : beginE s 4 = 4 := by simp [beginE, h.down]
    rw [hb]
    exact ⟨rfl, by simp [beginS, h.down]⟩

theorem names_length {D : DataW Unit} (h : Tidy D) : (namesOf D).length = Maps.size D := by
  unfold namesOf
  rw [(List.mergeSort_perm _ _).length_eq]
  obtain ⟨es, e, _⟩ := h
  rw [e]; simp [strKeys, Maps.size]

end Go.Proofs.YtbdbobikiikbgaaDoor
