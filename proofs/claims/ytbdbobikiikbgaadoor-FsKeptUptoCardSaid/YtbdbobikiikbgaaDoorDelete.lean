/-
  The contract of slices.Delete at the pending changes, from the head on.
-/
import Derived.Test.YtbdbobikiikbgaaDoorAppend
import Derived.Deep.RegionLaw
namespace Go.Proofs.YtbdbobikiikbgaaDoor
open Go.RowKit Go.WideMaps Go.Maps

theorem setCells_block (b : Nat) : ∀ (vs : List Value) (o : Nat) (w : World) (cur : Array Value) (e : TypeId) (fr : Nat × Nat), w.heap[b]? = some (.cells cur e fr) →
    ∃ cur', (w.setCells b o vs).heap[b]? = some (.cells cur' e fr) ∧ cur'.size = cur.size
  | [], _, _, cur, _, _, h => ⟨cur, h, rfl⟩
  | v :: r, o, w, cur, e, fr, h => by
    obtain ⟨cur', h1, h2⟩ := setCells_block b r (o + 1) (w.setCell ⟨b, o, none⟩ v) _ e fr (heap_setCell_at h v)
    exact ⟨cur', h1, by simpa using h2⟩
theorem setCells_other (b : Nat) : ∀ (vs : List Value) (o : Nat) (w : World) (k : Nat), k ≠ b → (w.setCells b o vs).heap[k]? = w.heap[k]?
  | [], _, _, _, _ => rfl
  | v :: r, o, _, k, h => (setCells_other b r (o + 1) _ k h).trans (heap_setCell_ne (a := ⟨b, o, none⟩) h v)
theorem setCells_rest (b : Nat) : ∀ (vs : List Value) (o : Nat) (w : World), (w.setCells b o vs).heap.size = w.heap.size ∧ (w.setCells b o vs).os = w.os ∧ (w.setCells b o vs).tape = w.tape ∧ (w.setCells b o vs).output = w.output
  | [], _, _ => ⟨rfl, rfl, rfl, rfl⟩
  | v :: r, o, w => by
    obtain ⟨h1, h2, h3, h4⟩ := setCells_rest b r (o + 1) (w.setCell ⟨b, o, none⟩ v)
    exact ⟨h1.trans (by simp [World.setCell]), h2, h3, h4⟩

abbrev zero2 : Array Value := #[.string ⟨#[]⟩, .nilFunc]

theorem clear_two (w : World) (ty : TypeId) (b o n c : Nat) (hc : ∀ j, j < n * 2 → (w.cell? ⟨b, o + j, none⟩).isSome = true) (hf : ∀ j, j < n * 2 → w.frozen? ⟨b, o + j, none⟩ = false) :
    (Builtin.clear_ #[63] ty #[.slice (some ⟨b, o, none⟩) n c]).run Tryd.prog w = .ok (.tuple #[]) (w.setCells b o (if n = 0 then [] else (Builtin.zeroCells zero2 n).toList)) := by
  cases n with
  | zero => simp [Builtin.clear_, run_underlying Tryd.underlying63, World.setCells]
  | succ m =>
    have hlen : (Builtin.zeroCells zero2 (m + 1)).toList.length = (m + 1) * 2 := by simp [Builtin.zeroCells]
    have hst := run_storeCells_cells (P := Tryd.prog) b o (Builtin.zeroCells zero2 (m + 1)).toList 0 w (by rw [hlen]; simpa using hc) (by rw [hlen]; simpa using hf) (by
      intro v hv
      simp [Builtin.zeroCells] at hv
      obtain ⟨k, _, rfl⟩ := hv
      rcases Nat.mod_two_eq_zero_or_one k with e | e <;> simp [e, Value.oneCell'])
    simp only [Nat.add_zero] at hst
    simp [Builtin.clear_, run_underlying Tryd.underlying63, Value.cells, hst]

theorem delete_none (a : Option Addr) (L cap : Nat) (w : World) (hL : L ≤ cap) (_hcap : cap ≤ maxLen) :
    Calls Tryd.prog 59 #[.slice a L cap, .int .i64 0, .int .i64 0] w fun e w' => e = .returned (.slice a L cap) ∧ w' = w := by
  unfold maxLen at _hcap
  cases a
  · go_enter Tryd.func59, Tryd.ntmps59
    go_wp2
    go_ret
    exact ⟨rfl, rfl⟩
  · go_enter Tryd.func59, Tryd.ntmps59
    go_wp2
    all_goals (go_ret; exact ⟨rfl, rfl⟩)

set_option maxRecDepth 100000 in
set_option maxHeartbeats 2000000 in
theorem delete_some (g L cap cnt : Nat) (cur : Array Value) (w : World) (hblk : w.heap[g]? = some (.cells cur 76 (0, 0))) (hcs : cur.size = cap * 2) (hL : L ≤ cap) (_hcap : cap ≤ maxLen) (hc : cnt ≤ L) (h0 : 0 < cnt)
    (h1 : ∀ u ∈ cur.toList.take (L * 2), u.oneCell' = true) :
    Calls Tryd.prog 59 #[.slice (some ⟨g, 0, none⟩) L cap, .int .i64 0, .int .i64 cnt] w fun e w' => e = .returned (.slice (some ⟨g, 0, none⟩) (L - cnt) cap) ∧ w.grownBy w' (some g) ∧
      ∃ cur', w'.heap[g]? = some (.cells cur' 76 (0, 0)) ∧ cur'.size = cur.size ∧ cur'.toList.take ((L - cnt) * 2) = (cur.toList.take (L * 2)).drop (cnt * 2) := by
  unfold maxLen at _hcap
  obtain ⟨i0, hi0, hz0, hz1, hz2⟩ := info_parts Tryd.info76
  have e0 : ((0 : Int) == (cnt : Int)) = false := by simp; omega
  have hlt : cur.toList.length = cap * 2 := by simpa using hcs
  have hcell : ∀ k u, cur.toList[k]? = some u → w.cell? ⟨g, k, none⟩ = some u := fun k u hu => cell_fs hblk (by simpa using hu)
  have hfree : ∀ k, w.frozen? ⟨g, k, none⟩ = false := fun k => free_fs hblk
  have hsome : ∀ k, k < cap * 2 → (w.cell? ⟨g, k, none⟩).isSome = true := by
    intro k hk
    have : k < cur.toList.length := by omega
    rw [hcell k cur.toList[k] (by simp)]; rfl
  obtain ⟨news, hnews⟩ : ∃ news, news = (cur.toList.take (L * 2)).drop (cnt * 2) := ⟨_, rfl⟩
  have hlen : news.length = (L - cnt) * 2 := by rw [hnews]; simp; omega
  obtain ⟨A, hA, hsrc⟩ : ∃ A : Addr, (if cap = cnt then some (⟨g, 0, none⟩ : Addr) else some ⟨g, cnt * 2, none⟩) = some A ∧ Hid (∀ t u, news[t]? = some u → w.drew.cell? (A.add t) = some u) := by
    by_cases hcc : cap = cnt
    · refine ⟨⟨g, 0, none⟩, by simp [hcc], fun t u hu => ?_⟩
      have h0 : news.length = 0 := by rw [hlen]; omega
      rw [List.length_eq_zero_iff.1 h0] at hu
      simp at hu
    · refine ⟨⟨g, cnt * 2, none⟩, by simp [hcc], fun t u hu => ?_⟩
      have e1 : (⟨g, cnt * 2, none⟩ : Addr).add t = ⟨g, cnt * 2 + t, none⟩ := by unfold Addr.add; split <;> simp_all
      rw [e1]
      refine hcell _ u ?_
      rw [hnews, List.getElem?_drop, List.getElem?_take] at hu
      split at hu
      · exact hu
      · cases hu
  have s1 : Hid (news.length = (L - cnt) * 2) := hlen
  have s2 : Hid (∀ u ∈ news, u.oneCell' = true) := fun u hu => h1 u (by rw [hnews] at hu; exact List.mem_of_mem_drop hu)
  have s3 : Hid (∀ t, t < news.length → (w.drew.cell? ⟨g, 0 + 0 * 2 + t, none⟩).isSome = true ∧ w.drew.frozen? ⟨g, 0 + 0 * 2 + t, none⟩ = false) := by
    intro t ht
    rw [hlen] at ht
    exact ⟨hsome _ (by omega), hfree _⟩
  have hin : ∀ j, j < news.length → (w.drew.cell? ⟨g, 0 + 0 * 2 + j, none⟩).isSome = true := fun j hj => (s3.out j hj).1
  obtain ⟨W1, hW1⟩ : ∃ W1, W1 = w.drew.setCells g (0 + 0 * 2) news := ⟨_, rfl⟩
  have hW : Hid (W1 = w.drew.setCells g (0 + 0 * 2) news) := hW1
  obtain ⟨cur1, hb1, hz1'⟩ := setCells_block g news (0 + 0 * 2) w.drew cur 76 (0, 0) hblk
  rw [← hW1] at hb1
  have hs1 : ∀ k, k < cap * 2 → (W1.cell? ⟨g, k, none⟩).isSome = true := by
    intro k hk
    have : k < cur1.size := by omega
    simp [World.cell?, hb1, this]
  obtain ⟨zs, hzs⟩ : ∃ zs : List Value, zs = (if L - (L - cnt) = 0 then [] else (Builtin.zeroCells zero2 (L - (L - cnt))).toList) := ⟨_, rfl⟩
  obtain ⟨W2, hW2⟩ : ∃ W2, W2 = W1.setCells g ((L - cnt) * 2) zs := ⟨_, rfl⟩
  have hcl : ∀ ty, (Builtin.clear_ #[63] ty #[.slice (some ⟨g, (L - cnt) * 2, none⟩) (L - (L - cnt)) (cap - (L - cnt))]).run Tryd.prog W1 = .ok (.tuple #[]) W2 := by
    intro ty
    rw [hW2, hzs]
    exact clear_two W1 ty g ((L - cnt) * 2) (L - (L - cnt)) _ (fun j hj => hs1 _ (by omega)) (fun j _ => free_fs hb1)
  obtain ⟨cur2, hb2, hz2'⟩ := setCells_block g zs ((L - cnt) * 2) W1 cur1 76 (0, 0) hb1
  rw [← hW2] at hb2
  have HFIN : Hid (w.grownBy W2 (some g) ∧ ∃ cur', W2.heap[g]? = some (.cells cur' 76 (0, 0)) ∧ cur'.size = cur.size ∧ cur'.toList.take ((L - cnt) * 2) = (cur.toList.take (L * 2)).drop (cnt * 2)) := by
    obtain ⟨a1, a2, a3, a4⟩ := setCells_rest g news (0 + 0 * 2) w.drew
    obtain ⟨b1, b2, b3, b4⟩ := setCells_rest g zs ((L - cnt) * 2) W1
    rw [← hW1] at a1 a2 a3 a4
    rw [← hW2] at b1 b2 b3 b4
    refine ⟨⟨b2.trans a2, b3.trans a3, b4.trans a4, Nat.le_of_eq (b1.trans a1).symm, fun k _ hne => ?_⟩, cur2, hb2, by omega, ?_⟩
    · have : k ≠ g := fun e => hne (by rw [e])
      rw [hW2, hW1]
      exact (setCells_other g zs _ _ k this).trans (setCells_other g news _ _ k this)
    · rw [← hnews]
      apply List.ext_getElem?
      intro k
      rw [List.getElem?_take]
      split
      · rename_i hk
        have c2 : W2.cell? ⟨g, k, none⟩ = W1.cell? ⟨g, k, none⟩ := by rw [hW2]; exact World.cell?_setCells_out g zs _ W1 _ (fun _ _ => Or.inl hk)
        have c1 : W1.cell? ⟨g, k, none⟩ = some (news[k]'(by omega)) := by
          have := World.cell?_setCells_in g news (0 + 0 * 2) w.drew hin k (by omega)
          rw [← hW1] at this
          simpa using this
        have c3 : W2.cell? ⟨g, k, none⟩ = cur2[k]? := by simp [World.cell?, hb2]
        rw [c3, c1] at c2
        rw [Array.getElem?_toList, c2]
        simp
      · rw [List.getElem?_eq_none (by omega)]
  have hlL : (L : Int) - (cnt : Int) ≤ cap := by omega
  clear hlt hcell hfree hsome hnews hlen hW1 hblk hcs h1 hin hb1 hz1' hs1 hzs hW2 hb2 hz2'
  go_enter Tryd.func59, Tryd.ntmps59
  go_wp2_with fail
  go_region_law (refine step_append_room rfl (.tmp 22) (.tmp 25) 63 rfl 76 i0 2 Tryd.underlying63 hi0 hz1 g 0 0 cap (by simp [Act.eval, Act.put]) A (L - cnt) (cap - cnt) news (by simp [Act.eval, Act.put]) s1.out hsrc.out s2.out (by omega) s3.out ?_; rw [← hW.out])
  go_wp2
  go_ret
  exact ⟨rfl, HFIN.out⟩

end Go.Proofs.YtbdbobikiikbgaaDoor
