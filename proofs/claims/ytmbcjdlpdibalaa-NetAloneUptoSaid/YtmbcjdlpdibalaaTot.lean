/-
  Asked, Total.
-/
import Derived.Test.YtmbcjdlpdibalaaNewB
import Derived.Maps.RangeWalk
namespace Go.Proofs.Ytmbcjdlpdibalaa
open Go.RowKit Go.WideMaps Go.Maps Go.MuLone

/-- Behind the lock and its release all is as it was. -/
theorem unlocked {w w1 w6 : World} {G : Gh} {s : St} (h : Rep w G s) (hb : w1.heap[G.F]? = some (.cells (netCells 1 G) 81 (0, 0))) (hs : w.heap.size ≤ w1.heap.size) (hk : ∀ k, k < w.heap.size → k ≠ G.F → w1.heap[k]? = w.heap[k]?) (he : w1.os = w.os ∧ w1.tape = w.tape ∧ w1.output = w.output) (hw6 : w6 = w1.setCell ⟨G.F, 0, none⟩ (.int .i32 0)) : Below w.heap.size w w6 := by
  have blk6 : w6.heap[G.F]? = some (.cells (netCells 0 G) 81 (0, 0)) := by rw [hw6]; exact heap_set_at hb _
  have k6 : ∀ q, q ≠ G.F → w6.heap[q]? = w1.heap[q]? := fun q hq => by rw [hw6]; exact Below.heap_setCell _ _ _ _ hq
  have s6 : w6.heap.size = w1.heap.size := by rw [hw6]; simp [World.setCell]
  have e6 : w6.os = w1.os ∧ w6.tape = w1.tape ∧ w6.output = w1.output := by rw [hw6]; exact ⟨rfl, rfl, rfl⟩
  refine ⟨e6.1.trans he.1, e6.2.1.trans he.2.1, e6.2.2.trans he.2.2, by omega, fun q hq => ?_⟩
  by_cases hqF : q = G.F
  · rw [hqF, blk6]; exact h.blk.symm
  · exact (k6 q hqF).trans (hk q hq hqF)

theorem asked_any {w : World} {G : Gh} {s : St} {u : ByteArray} (h : Rep w G s) (hu : u.size ≤ maxLen) :
    Calls Try.prog 12 #[.pointer (some ⟨G.F, 0, none⟩), .string u] w fun e w' => e = .returned (.int .i64 (s.aq u : Int)) ∧ Below w.heap.size w w' := by
  obtain ⟨F, P, T, A, lo, hi⟩ := G
  obtain ⟨DA, oA, hA⟩ := h.asked
  obtain ⟨o1, o2, o3, o4, o5, o6⟩ := h.ord
  obtain ⟨n1, n2, n3, n4, n5, n6⟩ := h.ne
  simp only at o1 o2 o3 o4 o5 o6 n1 n2 n3 n4 n5 n6 oA
  have hblk : w.heap[F]? = some (.cells (netCells 0 ⟨F, P, T, A, lo, hi⟩) 81 (0, 0)) := h.blk
  have c0 : w.cell? ⟨F, 0, none⟩ = some (.int .i32 0) := Lib.cell_of_heap hblk 0
  have f0 : w.frozen? ⟨F, 0, none⟩ = false := Lib.frozen_of_heap hblk 0
  obtain ⟨w1, hw1⟩ : ∃ w1, w.setCell ⟨F, 0, none⟩ (.int .i32 1) = w1 := ⟨_, rfl⟩
  have blk1 : w1.heap[F]? = some (.cells (netCells 1 ⟨F, P, T, A, lo, hi⟩) 81 (0, 0)) := by rw [← hw1]; exact heap_set_at hblk _
  have s1 : w1.heap.size = w.heap.size := by rw [← hw1]; simp [World.setCell]
  have k1 : ∀ k, k ≠ F → w1.heap[k]? = w.heap[k]? := fun k hk => by rw [← hw1]; exact Below.heap_setCell _ _ _ _ hk
  have e1 : w1.os = w.os ∧ w1.tape = w.tape ∧ w1.output = w.output := by rw [← hw1]; exact ⟨rfl, rfl, rfl⟩
  have c4 : w1.cell? ⟨F, 4, none⟩ = some (.map (some A)) := Lib.cell_of_heap blk1 4
  have lA : (Instr.lookup 72 (.map (some A)) (.string u) false).run Try.prog w1 = .ok (.int .i64 (s.aq u : Int)) w1 := look_int (own_same oA (k1 A (fun e => n6 e.symm))) hu (hA u hu)
  have HH := hide h
  have HB1 := hide blk1
  have HK1 := hide k1
  have HE1 := hide e1
  have HW1 := hide hw1
  have HS1 := hide s1
  clear h hw1 hblk k1 e1 s1 oA hA
  go_enter_defers Try.func12, Try.ntmps12
  go_wp2_with (go_at_call 30; fail)
  refine (lock_free Try.muLib ⟨F, 0, none⟩ _ c0 f0).mono ?_
  rintro e w' ⟨rfl, hw⟩
  rw [hw, unhide HW1]; clear hw w' c0 f0
  go_wp2
  refine leaves_cons (f := 31) (args := #[.pointer (some ⟨F, 0, none⟩)]) (by simp) (by simp [go_sem]) ?_
  refine (unlock_deferred Try.muLib ⟨F, 0, none⟩ .returning _ (Lib.cell_of_heap (unhide HB1) 0) (Lib.frozen_of_heap (unhide HB1) 0)).mono ?_
  rintro e u' w6 ⟨rfl, rfl, hw6⟩
  exact ⟨_, results_tmp rfl _ _ _, rfl, unlocked (unhide HH) (unhide HB1) (by rw [unhide HS1]; exact Nat.le_refl _) (fun k _ hk => (unhide HK1) k hk) (unhide HE1) hw6⟩

theorem keyS_inv {key : Value} {kl : Lit} (h : keyOf Try.prog 9 key = some kl) : ∃ u, key = .string u ∧ kl = .string u.data.toList ∧ u.size ≤ maxLen := by
  cases key <;> simp [keyOf, Try.underlying9, mapKey] at h
  rename_i u
  exact ⟨u, rfl, h.2.symm, by simpa using h.1⟩

/-- What is left to count. -/
def sumL (aq : ByteArray → Nat) (left : Lit → Bool) : List ByteArray → Nat
  | [] => 0
  | u :: us => (if left (.string u.data.toList) then aq u else 0) + sumL aq left us

def strike (left : Lit → Bool) (x : ByteArray) : Lit → Bool := fun z => left z && !z.sameKey (.string x.data.toList)

theorem strike_other {left : Lit → Bool} {x u : ByteArray} (h : u ≠ x) : strike left x (.string u.data.toList) = left (.string u.data.toList) := by
  have : ¬ u.data = x.data := fun e => h (str_inj (by rw [e]))
  simp [strike, Lit.sameKey, this]

theorem strike_same {left : Lit → Bool} {x : ByteArray} : strike left x (.string x.data.toList) = false := by simp [strike, Lit.sameKey]

theorem sum_out {aq : ByteArray → Nat} {left : Lit → Bool} {x : ByteArray} {us : List ByteArray} (h : x ∉ us) : sumL aq (strike left x) us = sumL aq left us := by
  induction us with
  | nil => rfl
  | cons u us ih =>
    simp only [List.mem_cons, not_or] at h
    simp only [sumL]
    rw [strike_other (fun e => h.1 e.symm), ih h.2]

theorem sum_in {aq : ByteArray → Nat} {left : Lit → Bool} {x : ByteArray} {us : List ByteArray} (hd : us.Nodup) (h : x ∈ us) (hl : left (.string x.data.toList) = true) : sumL aq left us = aq x + sumL aq (strike left x) us := by
  induction us with
  | nil => cases h
  | cons u us ih =>
    rw [List.nodup_cons] at hd
    simp only [sumL]
    by_cases e : u = x
    · subst e
      rw [strike_same, hl, sum_out hd.1]
      simp
    · have h2 : x ∈ us := by
        rcases List.mem_cons.1 h with rfl | h
        · exact absurd rfl e
        · exact h
      rw [strike_other e, ih hd.2 h2]
      omega

theorem sum_none {aq : ByteArray → Nat} {left : Lit → Bool} {us : List ByteArray} (h : ∀ kl, left kl = false) : sumL aq left us = 0 := by
  induction us with
  | nil => rfl
  | cons u us ih => simp [sumL, h, ih]

theorem sum_all {aq : ByteArray → Nat} {left : Lit → Bool} {us : List ByteArray} (h : ∀ u ∈ us, left (.string u.data.toList) = false → aq u = 0) : sumL aq left us = sumL aq (fun _ => true) us := by
  induction us with
  | nil => rfl
  | cons u us ih =>
    simp only [sumL]
    rw [ih fun v hv => h v (List.mem_cons_of_mem _ hv)]
    cases hl : left (.string u.data.toList) with
    | true => rfl
    | false => simp [h u List.mem_cons_self hl]

structure TotInv (w1 : World) (A n : Nat) (D : DataW Value) (aq : ByteArray → Nat) (us : List ByteArray) (S : Nat) (t : Nat) (left : Lit → Bool) (cnt : Nat) (wr : World) : Prop where
  rg : wr.ranges Try.prog 9 heldR A w1.heap.size n D left cnt
  sum : t + sumL aq left us = S
  size : w1.heap.size ≤ wr.heap.size
  keep : ∀ k, k < w1.heap.size → wr.heap[k]? = w1.heap[k]?
  os : wr.os = w1.os ∧ wr.tape = w1.tape ∧ wr.output = w1.output

theorem TotInv.next {w1 wr wn : World} {A n : Nat} {D : DataW Value} {aq : ByteArray → Nat} {us : List ByteArray} {S t : Nat} {left : Lit → Bool} {cnt cnt2 : Nat} {x : ByteArray} (h : TotInv w1 A n D aq us S t left cnt wr) (hd : us.Nodup) (hus : x ∉ us → aq x = 0) (hlk : left (.string x.data.toList) = true)
    (hrg : wn.ranges Try.prog 9 heldR A w1.heap.size n D (fun z => left z && !z.sameKey (.string x.data.toList)) cnt2) (hg : wr.grownBy wn (some w1.heap.size)) (hs : wn.heap.size = wr.heap.size) : TotInv w1 A n D aq us S (t + aq x) (strike left x) cnt2 wn := by
  refine ⟨hrg, ?_, by have := h.size; omega, fun k hk => (hg.block k (by have := h.size; omega) (by simp; omega)).trans (h.keep k hk), hg.os.trans h.os.1, hg.tape.trans h.os.2.1, hg.output.trans h.os.2.2⟩
  have h1 := h.sum
  by_cases hx : x ∈ us
  · rw [sum_in hd hx hlk] at h1; omega
  · rw [sum_out hx, hus hx]; omega

set_option maxHeartbeats 2000000 in
theorem total_any {w : World} {G : Gh} {s : St} {us : List ByteArray} {S : Nat} (h : Rep w G s) (hd : us.Nodup) (hus : ∀ u : ByteArray, u.size ≤ maxLen → u ∉ us → s.aq u = 0) (hsz : ∀ u ∈ us, u.size ≤ maxLen) (hS : sumL s.aq (fun _ => true) us = S) (hS2 : S ≤ 1000000) :
    Calls Try.prog 14 #[.pointer (some ⟨G.F, 0, none⟩)] w fun e w' => e = .returned (.int .i64 (S : Int)) ∧ Below w.heap.size w w' := by
  obtain ⟨F, P, T, A, lo, hi⟩ := G
  obtain ⟨DA, oA, hA⟩ := h.asked
  obtain ⟨o1, o2, o3, o4, o5, o6⟩ := h.ord
  obtain ⟨n1, n2, n3, n4, n5, n6⟩ := h.ne
  simp only at o1 o2 o3 o4 o5 o6 n1 n2 n3 n4 n5 n6 oA
  have hblk : w.heap[F]? = some (.cells (netCells 0 ⟨F, P, T, A, lo, hi⟩) 81 (0, 0)) := h.blk
  have c0 : w.cell? ⟨F, 0, none⟩ = some (.int .i32 0) := Lib.cell_of_heap hblk 0
  have f0 : w.frozen? ⟨F, 0, none⟩ = false := Lib.frozen_of_heap hblk 0
  obtain ⟨w1, hw1⟩ : ∃ w1, w.setCell ⟨F, 0, none⟩ (.int .i32 1) = w1 := ⟨_, rfl⟩
  have blk1 : w1.heap[F]? = some (.cells (netCells 1 ⟨F, P, T, A, lo, hi⟩) 81 (0, 0)) := by rw [← hw1]; exact heap_set_at hblk _
  have s1 : w1.heap.size = w.heap.size := by rw [← hw1]; simp [World.setCell]
  have k1 : ∀ k, k ≠ F → w1.heap[k]? = w.heap[k]? := fun k hk => by rw [← hw1]; exact Below.heap_setCell _ _ _ _ hk
  have e1 : w1.os = w.os ∧ w1.tape = w.tape ∧ w1.output = w.output := by rw [← hw1]; exact ⟨rfl, rfl, rfl⟩
  have c4 : w1.cell? ⟨F, 4, none⟩ = some (.map (some A)) := Lib.cell_of_heap blk1 4
  have oA1 : w1.ownsMap Try.prog 9 heldR A s.n DA := own_same oA (k1 A (fun e => n6 e.symm))
  have HST : Hid (sumL s.aq (Maps.has DA) us = S) := by
    show sumL s.aq (Maps.has DA) us = S
    rw [← hS]
    refine sum_all fun u hu hl => ?_
    have h1 := hA u (hsz u hu)
    rw [atKey_of_not_has hl] at h1
    simp at h1
    omega
  have HA := hide hA
  have HO := hide oA1
  have HH := hide h
  have HB1 := hide blk1
  have HK1 := hide k1
  have HE1 := hide e1
  have HW1 := hide hw1
  have HS1 := hide s1
  have HUS := hide hus
  clear h hw1 hblk k1 e1 s1 oA hA oA1 hS hus hsz
  go_enter_defers Try.func14, Try.ntmps14
  go_wp2_with (go_at_call 30; fail)
  refine (lock_free Try.muLib ⟨F, 0, none⟩ _ c0 f0).mono ?_
  rintro e w' ⟨rfl, hw⟩
  rw [hw, unhide HW1]; clear hw w' c0 f0
  go_wp2_with (first
    | (at_range; refine wpList_range_own _ rfl _ 72 rfl 9 3 lawS Try.underlying72 _ A _ _ rfl (unhide HO) ?_; intro w7 hrg7 hg7 hs7)
    | go_in)
  go_frame
  have HI0 : Hid (TotInv w1 A s.n DA s.aq us S 0 (Maps.has DA) (Maps.size DA) w7) := ⟨hrg7, by rw [unhide HST]; omega, by omega, fun k hk => hg7.block k hk (by simp), hg7.os, hg7.tape, hg7.output⟩
  clear hrg7 hg7 hs7
  go_loopw [3, 5] (fun v3 _ wr => ∃ (t : Nat) (left : Lit → Bool) (cnt : Nat), v3 = .int .i64 t ∧ TotInv w1 A s.n DA s.aq us S t left cnt wr) (fun _ _ wr => wr.rangeLeft A w1.heap.size)
  case atStart => exact ⟨0, _, _, rfl, unhide HI0⟩
  case round =>
    obtain ⟨t, left, cnt, rfl, hT⟩ := hrel
    go_wp2_with (first
      | (at_next; refine wpList_next_ranges _ rfl _ rfl 9 lawS heldR Value.string id (fun key kl hk => by obtain ⟨u, hu, _⟩ := keyS_inv hk; exact ⟨u, hu⟩) (fun v _ _ => ⟨v, rfl⟩) A w1.heap.size _ _ _ _ rfl hT.rg ?_ ?_)
      | go_in)
    · intro hc0 hl0
      have hTS : t = S := by have := hT.sum; rw [sum_none hl0] at this; omega
      subst hTS
      have HT := hide hT
      clear hT hc0 hl0
      go_wp2
      have hB : wr.heap[F]? = some (.cells (netCells 1 ⟨F, P, T, A, lo, hi⟩) 81 (0, 0)) := ((unhide HT).keep F (by rw [unhide HS1]; omega)).trans (unhide HB1)
      refine leaves_cons (f := 31) (args := #[.pointer (some ⟨F, 0, none⟩)]) (by simp) (by simp [go_sem]) ?_
      refine (unlock_deferred Try.muLib ⟨F, 0, none⟩ .returning _ (Lib.cell_of_heap hB 0) (Lib.frozen_of_heap hB 0)).mono ?_
      rintro e u' w6 ⟨rfl, rfl, hw6⟩
      have hs1 := unhide HS1
      have he1 := unhide HE1
      have ht := unhide HT
      have hz := ht.size
      exact ⟨_, results_tmp rfl _ _ _, rfl, unlocked (unhide HH) hB (by omega) (fun k h1 h2 => (ht.keep k (by omega)).trans ((unhide HK1) k h2)) ⟨ht.os.1.trans he1.1, ht.os.2.1.trans he1.2.1, ht.os.2.2.trans he1.2.2⟩ hw6⟩
    · intro x c kl yd yp wn cnt2 hkey hlk hv hat hrg2 hlt hg2 hs2 hen
      obtain ⟨x', ex, rfl, hxs⟩ := keyS_inv hkey
      obtain rfl : x = x' := by simpa using ex
      have hc : c = .int .i64 (s.aq x : Int) := by
        have h1 := (unhide HA) x hxs
        rw [hat, show yd = .held c from held_inv hv] at h1
        simpa using h1
      subst hc
      have HN := hide (hT.next hd (fun hx => (unhide HUS) x hxs hx) hlk hrg2 hg2 hs2)
      have HLT := hide hlt
      have HTT := hide hT
      have hbd : t + s.aq x ≤ 1000000 := by have := (unhide HN).sum; omega
      clear hT hrg2 hg2 hs2 hlk hat hv hkey ex hlt
      go_wp2
      go_roundw
      case rel => exact ⟨t + s.aq x, _, _, by simp, unhide HN⟩
      case measure => rw [(unhide HN).rg.left_eq, (unhide HTT).rg.left_eq]; exact unhide HLT

end Go.Proofs.Ytmbcjdlpdibalaa
