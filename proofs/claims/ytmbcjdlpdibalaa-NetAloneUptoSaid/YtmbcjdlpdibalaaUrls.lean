/-
  URLs.
-/
import Derived.Test.YtmbcjdlpdibalaaTot
import Derived.Test.YtmbcjdlpdibalaaIter
import Derived.Sort.KeysCollected
namespace Go.Proofs.Ytmbcjdlpdibalaa
open Go.RowKit Go.WideMaps Go.Maps Go.MuLone Go.Sort Go.Shelf

theorem keys_facts {w : World} {b n : Nat} {D : DataW Value} (hown : w.ownsMap Try.prog 9 heldR b n D) : (strKeys D).Nodup ∧ ∀ x, x ∈ strKeys D ↔ has D (.string x) = true := by
  obtain ⟨es, hD, hpw, _⟩ := hown.entries lawS
  obtain ⟨es', hD', hko⟩ := hown.keysOf
  obtain rfl : es = es' := by rw [hD] at hD'; simpa using hD'
  subst hD
  have hk : ∀ p ∈ es, ∃ x, p.1 = .string x := fun p hp => by obtain ⟨v, hv⟩ := hko p hp; obtain ⟨x, _, hx, _⟩ := Maps.keyOf_str Try.underlying9 hv; exact ⟨x, hx⟩
  constructor
  · show (es.map fun p => strOf p.1).Nodup
    refine List.pairwise_map.2 (hpw.imp_of_mem fun {p q} hp' hq' hne e => hne ?_)
    obtain ⟨a, ha⟩ := hk p hp'
    obtain ⟨b, hb⟩ := hk q hq'
    rw [ha, hb] at e ⊢
    exact congrArg _ e
  · intro x
    rw [has_eq, List.any_eq_true]
    show x ∈ es.map (fun p => strOf p.1) ↔ _
    rw [List.mem_map]
    constructor
    · rintro ⟨p, hp', rfl⟩
      obtain ⟨a, ha⟩ := hk p hp'
      exact ⟨p, hp', by rw [ha]; simp [Lit.sameKey, strOf]⟩
    · rintro ⟨p, hp', hs⟩
      obtain ⟨a, ha⟩ := hk p hp'
      rw [ha] at hs
      exact ⟨p, hp', by rw [ha]; simpa [Lit.sameKey, strOf] using hs⟩

/-- What URLs answers. -/
structure UrlsAt (w w' : World) (s : St) (v : Value) (us : List ByteArray) : Prop where
  nd : us.Nodup
  all : ∀ u : ByteArray, u.size ≤ maxLen → u ∉ us → s.aq u = 0
  small : ∀ u ∈ us, u.size ≤ maxLen
  row : w'.ownsRow w.heap.size 9 1 v us.length (us.map Value.string)
  few : us.length ≤ s.n
  low : Below w.heap.size w w'

def toBa (x : List UInt8) : ByteArray := ⟨x.toArray⟩
theorem toBa_data (x : List UInt8) : (toBa x).data.toList = x := by simp [toBa]
theorem toBa_inj {x y : List UInt8} (h : toBa x = toBa y) : x = y := by rw [← toBa_data x, ← toBa_data y, h]
theorem toBa_of (u : ByteArray) : toBa u.data.toList = u := str_inj (toBa_data _)

theorem urls_of {w w1 w' : World} {G : Gh} {s : St} {D : DataW Value} {v : Value} {ss : List (List UInt8)} (hown : w1.ownsMap Try.prog 9 heldR G.A s.n D) (hD : ∀ u : ByteArray, u.size ≤ maxLen → D.atKey (.string u.data.toList) (.held (.int .i64 0)) = .held (.int .i64 (s.aq u : Int)))
    (hp : ss.Perm (strKeys D)) (hrow : w'.ownsRow w.heap.size 9 1 v ss.length ((ss.mergeSort leB).map encStr)) (hb : Below w.heap.size w w') : UrlsAt w w' s v ((ss.mergeSort leB).map toBa) := by
  obtain ⟨k1, k2⟩ := keys_facts hown
  have hp2 : (ss.mergeSort leB).Perm (strKeys D) := (List.mergeSort_perm _ _).trans hp
  have hlen : ((ss.mergeSort leB).map toBa).length = ss.length := by rw [List.length_map, (List.mergeSort_perm _ _).length_eq]
  refine ⟨?_, ?_, ?_, ?_, ?_, hb⟩
  · exact List.Pairwise.map _ (fun a b h e => h (toBa_inj e)) (hp2.nodup_iff.2 k1)
  · intro u hu hn
    have h1 : has D (.string u.data.toList) = false := by
      cases hh : has D (.string u.data.toList) with
      | false => rfl
      | true => exact absurd (List.mem_map.2 ⟨_, hp2.mem_iff.2 ((k2 _).2 hh), toBa_of u⟩) hn
    have h2 := hD u hu
    rw [atKey_of_not_has h1] at h2
    simp at h2
    omega
  · intro u hu
    obtain ⟨x, hx, rfl⟩ := List.mem_map.1 hu
    have := strKeys_le hown Try.underlying9 x (hp2.mem_iff.1 hx)
    have e : (toBa x).size = x.length := by simp [toBa, ByteArray.size]
    omega
  · rw [hlen, List.map_map]
    exact hrow
  · rw [hlen, hp.length_eq]
    have := hown.size_le
    obtain ⟨es, rfl, _⟩ := hown.keysOf
    show (es.map fun p => strOf p.1).length ≤ _
    simpa [Maps.size] using this

set_option maxHeartbeats 2000000 in
theorem urls_any {w : World} {G : Gh} {s : St} (h : Rep w G s) (hn : s.n ≤ 1000000) :
    Calls Try.prog 13 #[.pointer (some ⟨G.F, 0, none⟩)] w fun e w' => ∃ v us, e = .returned v ∧ UrlsAt w w' s v us := by
  obtain ⟨F, P, T, A, lo, hi⟩ := G
  obtain ⟨DA, oA, hA⟩ := h.asked
  obtain ⟨o1, o2, o3, o4, o5, o6⟩ := h.ord
  obtain ⟨n1, n2, n3, n4, n5, n6⟩ := h.ne
  simp only at o1 o2 o3 o4 o5 o6 n1 n2 n3 n4 n5 n6 oA
  have hblk : w.heap[F]? = some (.cells (netCells 0 ⟨F, P, T, A, lo, hi⟩) 81 (0, 0)) := h.blk
  have c0 : w.cell? ⟨F, 0, none⟩ = some (.int .i32 0) := Lib.cell_of_heap hblk 0
  have f0 : w.frozen? ⟨F, 0, none⟩ = false := Lib.frozen_of_heap hblk 0
  obtain ⟨w1, hw1⟩ : ∃ w1, w.setCell ⟨F, 0, none⟩ (.int .i32 1) = w1 := ⟨_, rfl⟩
  have blk1 : w1.heap[F]? = some (.cells (netCells 1 ⟨F, P, T, A, lo, hi⟩) 81 (0, 0)) := by rw [← hw1]; exact heap_set_at hblk _
  have s1 : w1.heap.size = w.heap.size := by rw [← hw1]; simp [World.setCell]
  have k1 : ∀ k, k ≠ F → w1.heap[k]? = w.heap[k]? := fun k hk => by rw [← hw1]; exact Below.heap_setCell _ _ _ _ hk
  have e1 : w1.os = w.os ∧ w1.tape = w.tape ∧ w1.output = w.output := by rw [← hw1]; exact ⟨rfl, rfl, rfl⟩
  have c4 : w1.cell? ⟨F, 4, none⟩ = some (.map (some A)) := Lib.cell_of_heap blk1 4
  have oA1 : w1.ownsMap Try.prog 9 heldR A s.n DA := own_same oA (k1 A (fun e => n6 e.symm))
  have hsz := oA1.size_le
  have HC := hide (callsIn_wide.1 (Try.slices_Sorted_keys_33_34 A s.n DA heldR w1 oA1 (by unfold maxLen; omega) (by omega)))
  have HA := hide hA
  have HO := hide oA1
  have HH := hide h
  have HB1 := hide blk1
  have HK1 := hide k1
  have HE1 := hide e1
  have HW1 := hide hw1
  have HS1 := hide s1
  clear h hw1 hblk k1 e1 s1 oA hA oA1 hsz
  go_enter_defers Try.func13, Try.ntmps13
  go_wp2_with (go_at_call 30; fail)
  refine (lock_free Try.muLib ⟨F, 0, none⟩ _ c0 f0).mono ?_
  rintro e w' ⟨rfl, hw⟩
  rw [hw, unhide HW1]; clear hw w' c0 f0
  go_wp2_with (go_at_call 34; fail)
  refine (callsIn_wide.1 (Try.maps_Keys_34 (some A) w1)).mono ?_
  rintro e w2 ⟨rfl, hw2⟩
  rw [hw2]; clear hw2 w2
  go_wp2_with (go_at_call 33; fail)
  refine (unhide HC).mono ?_
  rintro e w3 ⟨v, ss, rfl, hS, hrow, hnil, hb⟩
  have s2 : (w1.alloc (.cells #[.map (some A)] 72)).heap.size = w1.heap.size + 1 := by show (w1.heap.push _).size = _; simp
  have k3 : ∀ k, k < w1.heap.size → w3.heap[k]? = w1.heap[k]? := fun k hk => (hb.block k (by omega)).trans (Below.heap_alloc _ _ k hk)
  have e3 : w3.os = w1.os ∧ w3.tape = w1.tape ∧ w3.output = w1.output := ⟨hb.os, hb.tape, hb.output⟩
  have z3 := hb.size
  have hB : w3.heap[F]? = some (.cells (netCells 1 ⟨F, P, T, A, lo, hi⟩) 81 (0, 0)) := (k3 F (by rw [unhide HS1]; omega)).trans (unhide HB1)
  have HROW := hide hrow
  have HS := hide hS
  have HK3 := hide k3
  have HE3 := hide e3
  clear hrow hS hnil hb k3 e3 HC
  go_wp2
  refine leaves_cons (f := 31) (args := #[.pointer (some ⟨F, 0, none⟩)]) (by simp) (by simp [go_sem]) ?_
  refine (unlock_deferred Try.muLib ⟨F, 0, none⟩ .returning _ (Lib.cell_of_heap hB 0) (Lib.frozen_of_heap hB 0)).mono ?_
  rintro e u' w6 ⟨rfl, rfl, hw6⟩
  have hs1 := unhide HS1
  have he1 := unhide HE1
  have he3 := unhide HE3
  have hlow : Below w.heap.size w w6 := unlocked (unhide HH) hB (by omega) (fun k h1 h2 => ((unhide HK3) k (by omega)).trans ((unhide HK1) k h2)) ⟨he3.1.trans he1.1, he3.2.1.trans he1.2.1, he3.2.2.trans he1.2.2⟩ hw6
  have hrow6 : w6.ownsRow w.heap.size 9 1 v ss.length ((ss.mergeSort leB).map encStr) := by
    refine row_up (row_same (unhide HROW) (fun k hk => ?_)) (by omega)
    have h1 := ((unhide HROW).lt k hk).1
    rw [hw6]; exact Below.heap_setCell _ _ _ _ (by show k ≠ F; omega)
  exact ⟨_, results_tmp rfl _ _ _, v, _, rfl, urls_of (G := ⟨F, P, T, A, lo, hi⟩) (unhide HO) (unhide HA) (unhide HS) hrow6 hlow⟩

end Go.Proofs.Ytmbcjdlpdibalaa
