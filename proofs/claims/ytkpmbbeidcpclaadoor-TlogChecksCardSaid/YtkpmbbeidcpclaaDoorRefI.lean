/-
  The reference's SHA-256: a row of words copied; the plain facts of a block.
-/
import Derived.Test.YtkpmbbeidcpclaaDoorRefA
namespace Go.Proofs.YtkpmbbeidcpclaaDoor
open Go.RowKit

theorem info115 : (Tryd.prog.info? 115).map (fun i => (i.zero, i.size, i.bytes)) = some (some (.int .u32 0), 1, 4) := by kernel_rfl

/-- append of a row of words onto an empty one. -/
theorem app_words {w W1 : World} {hB : Nat} {hs : List UInt32} (hh : hs.length = 8) (kh : WBlk w hB hs) (hW : w.alloc (.cells #[] 115) = W1) :
    ∃ vB vc w', (Builtin.append_ #[113, 113] 113 #[.slice (some ⟨w.heap.size, 0, none⟩) 0 0, .slice (some ⟨hB, 0, none⟩) 8 8]).run Tryd.prog W1 = .ok (.slice (some ⟨vB, 0, none⟩) 8 vc) w' ∧ 8 ≤ vc ∧ vc ≤ 9223372036854775807 ∧ WAt w' vB hs ∧ Below w.heap.size w w' ∧ w.heap.size ≤ vB := by
  obtain ⟨i0, hi, hz0, hz1, hz2⟩ := info_parts info115
  have hb1 : Below w.heap.size w W1 := by rw [← hW]; exact (Below.refl _ _).alloc (Nat.le_refl _) _
  have ho : W1.ownsRow w.heap.size 115 1 (.slice (some ⟨w.heap.size, 0, none⟩) 0 0) 0 [] := by
    refine ⟨rfl, Or.inr ⟨w.heap.size, 0, #[], rfl, Nat.le_refl _, ?_, Nat.le_refl _, by unfold maxLen; omega, rfl, rfl⟩⟩
    rw [← hW]
    exact heap_alloc_new w _
  have kh1 := kh.low hb1
  obtain ⟨v', w', h1, h2, h3, _, h5⟩ := run_append_own_at (P := Tryd.prog) W1 w.heap.size 113 113 115 i0 _ 1 4 Tryd.underlying113 hi hz0 hz1 hz2 rfl (by decide) (.slice (some ⟨w.heap.size, 0, none⟩) 0 0) 0 [] ho ⟨hB, 0, none⟩ 8 8 (hs.map encW) (by simp [hh]) (fun j u hu => by
    have hj : j < hs.length := by
      have := (List.getElem?_eq_some_iff.1 hu).1
      simpa using this
    have e : (⟨hB, 0, none⟩ : Addr).add j = ⟨hB, j, none⟩ := by unfold Addr.add; split <;> simp_all
    rw [e, WBlk.at (l := hs) kh1 hj]
    rw [List.getElem?_map, List.getElem?_eq_getElem hj] at hu
    exact hu) (by
      intro u hu
      obtain ⟨c, _, rfl⟩ := List.mem_map.1 hu
      rfl) (by unfold maxLen; omega) (by omega) hb1.size
  rcases h2.2 with ⟨_, h0⟩ | ⟨g, cap, cur, rfl, hb, hblk, hcap, hcm, hcs, hcur⟩
  · exact absurd h0 (by decide)
  · refine ⟨g, cap, w', h1, by omega, by unfold maxLen at hcm; omega, fun k hk => ?_, ?_, hb⟩
    · have e1 : cur.toList[k]? = (hs.map encW)[k]? := by
        have hc : cur.toList.take 8 = hs.map encW := by simpa using hcur
        rw [← hc, List.getElem?_take_of_lt (by omega)]
      have e2 : cur[k]? = cur.toList[k]? := by simp
      rw [Lib.cell_of_heap hblk, e2, e1]
      simp [hk, encW]
    · refine hb1.trans ⟨h3.os, h3.tape, h3.output, h3.size, fun k hk => h3.block k (Nat.lt_of_lt_of_le hk hb1.size) ?_⟩
      intro hh
      have : (Value.slice (some ⟨w.heap.size, 0, none⟩) 0 0).ownBlock = some w.heap.size := rfl
      rw [this] at hh
      cases hh
      omega

theorem growW_take : ∀ (n : Nat) (l : List UInt32) (j : Nat), j ≤ l.length → (growW n l).take j = l.take j
  | 0, l, j, _ => rfl
  | n + 1, l, j, h => by
    unfold growW
    rw [growW_take n (l ++ [nextW l]) j (by simp; omega), List.take_append_of_le_length h]
theorem growW_at : ∀ (n : Nat) (l : List UInt32) (j : Nat), l.length ≤ j → j < l.length + n → (growW n l)[j]? = some (nextW ((growW n l).take j))
  | 0, l, j, h1, h2 => by omega
  | n + 1, l, j, h1, h2 => by
    unfold growW
    by_cases hj : j = l.length
    · subst hj
      rw [growW_take n _ l.length (by simp), List.take_left]
      have e : ((growW n (l ++ [nextW l])).take (l.length + 1))[l.length]? = (growW n (l ++ [nextW l]))[l.length]? := by
        rw [List.getElem?_take_of_lt (by omega)]
      rw [← e, growW_take n _ (l.length + 1) (by simp)]
      simp
    · exact growW_at n (l ++ [nextW l]) j (by simp; omega) (by simp; omega)

theorem sched_length {b : Bs} (h : b.length = 64) : (sched b).length = 64 := by
  unfold sched
  rw [growW_length, words_length, h]
theorem sched_front {b : Bs} (h : b.length = 64) : (sched b).take 16 = words b := by
  have hw : (words b).length = 16 := by rw [words_length, h]
  unfold sched
  rw [growW_take 48 _ 16 (by omega), ← hw, List.take_length]
theorem sched_step {b : Bs} (h : b.length = 64) (j : Nat) (hj : j + 16 < (sched b).length) : (sched b)[j + 16] = (((sched b)[j] + sg0 (sched b)[j + 1]) + (sched b)[j + 9]) + sg1 (sched b)[j + 14] := by
  have hw : (words b).length = 16 := by rw [words_length, h]
  have hl := sched_length h
  have e := growW_at 48 (words b) (j + 16) (by omega) (by omega)
  have e2 : (sched b)[j + 16]? = some (nextW ((sched b).take (j + 16))) := e
  rw [List.getElem?_eq_getElem hj] at e2
  rw [Option.some.inj e2]
  unfold nextW
  have ht : ((sched b).take (j + 16)).length = j + 16 := by rw [List.length_take]; omega
  have g : ∀ k, (hk : k < j + 16) → ((sched b).take (j + 16)).getD k 0 = (sched b)[k]'(by omega) := by
    intro k hk
    rw [List.getD_eq_getElem?_getD, List.getElem?_take_of_lt hk, List.getElem?_eq_getElem (by omega)]
    rfl
  rw [ht, g _ (by omega), g _ (by omega), g _ (by omega), g _ (by omega)]
  simp only [show j + 16 - 16 = j by omega, show j + 16 - 15 = j + 1 by omega, show j + 16 - 7 = j + 9 by omega, show j + 16 - 2 = j + 14 by omega]

theorem stL_add (s t : St) : List.zipWith (· + ·) (stL s) (stL t) = stL (addS s t) := rfl
theorem stL_len (s : St) : (stL s).length = 8 := rfl
end Go.Proofs.YtkpmbbeidcpclaaDoor
