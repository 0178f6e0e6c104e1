/-
  The reference's key: its number and its signatures.
-/
import Derived.Test.YtkablmjkffdloaaGreatDoorKeyQ
import Derived.Test.YtkablmjkffdloaaGreatDoorNamQ
import Derived.Lib.AppendStr
import Derived.Test.YtkablmjkffdloaaGreatDoorRefY
namespace Go.Proofs.YtkablmjkffdloaaGreatDoor
open Go.RowKit

theorem run_storeCells_atG (P : Program) (g o : Nat) (t : TypeId) (fz : Nat × Nat) : ∀ (vs : List Value) (i : Nat) (cur : Array Value) (w : World), w.heap[g]? = some (.cells cur t fz) → (∀ j, j < cur.size → ¬ (fz.1 ≤ j ∧ j < fz.2)) → o + i + vs.length ≤ cur.size → (∀ v ∈ vs, v.oneCell' = true) →
    (storeCells ⟨g, o, none⟩ vs i).run P w = .ok () (w.setRow g (cur.toList.take (o + i) ++ vs ++ cur.toList.drop (o + i + vs.length)).toArray)
  | [], i, cur, w, hg, _, _, _ => by
    simp only [storeCells, List.append_nil, List.length_nil, Nat.add_zero, List.take_append_drop, Array.toArray_toList]
    rw [setRow_self w g cur t fz hg]
    rfl
  | v :: rest, i, cur, w, hg, hfz, hl, h1 => by
    have hi : o + i < cur.size := by simp at hl; omega
    have hadd : (⟨g, o, none⟩ : Addr).add i = ⟨g, o + i, none⟩ := by unfold Addr.add; split <;> simp_all
    have hcell : w.cell? ⟨g, o + i, none⟩ = some cur[o + i] := by simp [World.cell?, hg, hi]
    have hfro : w.frozen? ⟨g, o + i, none⟩ = false := by
      have hf := hfz (o + i) hi
      obtain ⟨lo, hi'⟩ := fz
      simp only [World.frozen?, hg, Bool.and_eq_false_iff, decide_eq_false_iff_not]
      simp only at hf
      omega
    have hst : (store ((⟨g, o, none⟩ : Addr).add i) v).run P w = .ok () (w.setRow g (cur.setIfInBounds (o + i) v)) := by
      rw [hadd, run_store P w _ v _ (h1 v (by simp)), hcell]
      simp [hfro, setCell_eq_setRow w g (o + i) cur t fz v hg]
    have ih := run_storeCells_atG P g o t fz rest (i + 1) (cur.setIfInBounds (o + i) v) (w.setRow g (cur.setIfInBounds (o + i) v)) (setRow_heap w g cur _ t _ hg) (fun j hj => hfz j (by simpa using hj)) (by simp at hl ⊢; omega) (fun x hx => h1 x (by simp [hx]))
    simp only [storeCells, Sem.run_bind, hst, Result.andThen_ok, ih, setRow_setRow]
    congr 3
    have e := list_seg_step cur.toList (o + i) v rest (by simp at hl ⊢; omega)
    simpa [Array.toList_setIfInBounds, Nat.add_assoc] using e

/-- A row of bytes of our own, none of whose cells is marked. -/
def OwM (base : Nat) (w : World) (v : Value) (l : Bs) : Prop :=
  ∃ g cap cur fz, v = .slice (some ⟨g, 0, none⟩) l.length cap ∧ base ≤ g ∧ w.heap[g]? = some (.cells cur 5 fz) ∧ (∀ j, j < cur.size → ¬ (fz.1 ≤ j ∧ j < fz.2)) ∧ l.length ≤ cap ∧ cap ≤ maxLen ∧ cur.size = cap ∧ cur.toList.take l.length = l.map byteV
theorem OwM.at {B : Nat} {w : World} {v : Value} {l : Bs} (h : OwM B w v l) : ∃ g c, v = .slice (some ⟨g, 0, none⟩) l.length c ∧ BAt w (some ⟨g, 0, none⟩) l ∧ l.length ≤ c ∧ c ≤ maxLen := by
  obtain ⟨g, cap, cur, fz, rfl, hb, hblk, _, hcap, hcm, hcs, hcur⟩ := h
  refine ⟨g, cap, rfl, ⟨Or.inr ⟨g, 0, rfl, fun k hk => ?_⟩⟩, hcap, hcm⟩
  have h1 : cur.toList[k]? = (l.map byteV)[k]? := by rw [← hcur, List.getElem?_take_of_lt hk]
  have h2 : cur[k]? = cur.toList[k]? := by simp
  rw [Nat.zero_add, Lib.cell_of_heap hblk, h2, h1]
  simp [hk, byteV]
theorem OwM.low {B : Nat} {w w' : World} {v : Value} {l : Bs} (h : OwM B w v l) (b : Below w.heap.size w w') : OwM B w' v l := by
  obtain ⟨g, cap, cur, fz, e, hb, hblk, r⟩ := h
  exact ⟨g, cap, cur, fz, e, hb, (b.block g (Array.getElem?_eq_some_iff.1 hblk).1).trans hblk, r⟩
theorem OwM.base {B : Nat} {w : World} {v : Value} {l : Bs} (h : OwM B w v l) : ∀ g, v.ownBlock = some g → B ≤ g := by
  obtain ⟨g, cap, cur, fz, rfl, hb, _⟩ := h
  intro k hk
  have : g = k := Option.some.inj hk
  omega

/-- A string's bytes. -/
theorem conv_m (w : World) (l : Bs) (hl : l.length ≤ 1073741824) : ∃ v w1, (convert 9 23 (.string (ba l))).run Tryz.prog w = .ok v w1 ∧ OwM w.heap.size w1 v l ∧ Below w.heap.size w w1 := by
  have hs := ba_size l
  have hr := Lib.run_convert_string_bytes (P := Tryz.prog) w 9 23 5 (ba l) Tryz.underlying9 Tryz.underlying23 Tryz.underlying5
  have hge := grownCap_ge w l.length 0 5
  have hle := grownCap_le_maxLen w l.length 0 5 (by unfold maxLen; omega)
  have hsz : (Lib.bytesCells w 5 (ba l)).size = grownCap w l.length 0 5 := by
    unfold Lib.bytesCells
    rw [hs]
    simp [ba]
    omega
  rw [hs] at hr
  refine ⟨_, _, hr, ⟨_, _, _, _, rfl, Nat.le_refl _, Lib.bytesWorld_at_new w 5 (ba l), fun j hj => by simp only; omega, hge, hle, hsz, ?_⟩, ⟨rfl, rfl, rfl, ?_, fun j hj => Lib.bytesWorld_at_old _ _ _ j hj⟩⟩
  · apply List.ext_getElem?
    intro j
    by_cases hj : j < l.length
    · have hc := Lib.bytesWorld_cell w 5 (ba l) j (by rw [hs]; exact hj)
      rw [Lib.cell_of_heap (Lib.bytesWorld_at_new w 5 (ba l))] at hc
      rw [List.getElem?_take_of_lt hj, ← Array.getElem?_toList] at *
      simp only [Array.getElem?_toList] at *
      rw [hc, List.getElem?_map, List.getElem?_eq_getElem hj, ba_data, List.getD_eq_getElem?_getD, List.getElem?_eq_getElem hj]
      rfl
    · rw [List.getElem?_eq_none (by simp; omega), List.getElem?_eq_none (by simp; omega)]
  · rw [Lib.bytesWorld_size]
    omega

/-- append of bytes that lie somewhere. -/
theorem app_m {B : Nat} {w : World} {v : Value} {l r : Bs} {A O m c : Nat} (hm : r.length = m) (hr : BAt w (some ⟨A, O, none⟩) r) (ho : OwM B w v l) (hB : B ≤ w.heap.size) (hl : l.length + m ≤ 4294967296) :
    ∃ v' w', (Builtin.append_ #[23, 23] 23 #[v, .slice (some ⟨A, O, none⟩) m c]).run Tryz.prog w = .ok v' w' ∧ OwM B w' v' (l ++ r) ∧ GrB w w' v v' := by
  obtain ⟨i, hi, hz0, hz1, hz2⟩ := info_parts info5
  have hat := OwM.at ho
  obtain ⟨g, cap, cur, fz, rfl, hbg, hg, hfz, hnc, hcm, hcs, htake⟩ := ho
  have hnews : ∀ j u, (r.map byteV)[j]? = some u → w.cell? ((⟨A, O, none⟩ : Addr).add j) = some u := fun j u hu => by
    rw [List.getElem?_map] at hu
    by_cases hj : j < r.length
    · rw [List.getElem?_eq_getElem hj] at hu
      simp only [Option.map_some, Option.some.injEq] at hu
      rw [← hu]
      obtain ⟨B', O', e, hc⟩ := hr.at hj
      cases e
      have hadd : (⟨A, O, none⟩ : Addr).add j = ⟨A, O + j, none⟩ := by unfold Addr.add; split <;> simp_all
      rw [hadd]
      exact hc
    · rw [List.getElem?_eq_none (by omega)] at hu
      cases hu
  have hnl : (r.map byteV).length = m * i.size := by rw [hz1]; simp [hm]
  have hll : (l ++ r).length = l.length + m := by rw [List.length_append, hm]
  by_cases hroom : l.length + m ≤ cap
  · have hf := run_firstCells_some (P := Tryz.prog) w i.size m ⟨A, O, none⟩ m c (r.map byteV) hnl hnews
    have hst := run_storeCells_atG Tryz.prog g (l.length * i.size) 5 fz (r.map byteV) 0 cur w hg hfz (by rw [hz1]; simp [hm]; omega) (byteV_one r)
    simp only [Nat.add_zero] at hst
    have hrun : (Builtin.append_ #[23, 23] 23 #[.slice (some ⟨g, 0, none⟩) l.length cap, .slice (some ⟨A, O, none⟩) m c]).run Tryz.prog w = .ok (.slice (some ⟨g, 0, none⟩) (l.length + m) cap) (w.setRow g (cur.toList.take (l.length * i.size) ++ r.map byteV ++ cur.toList.drop (l.length * i.size + (r.map byteV).length)).toArray) := by
      simp [Builtin.append_, run_underlying Tryz.underlying23, sizeOf, typeInfo, hi, Builtin.lenOf, hroom, hf, Addr.add_lit, hst]
    refine ⟨_, _, hrun, ⟨g, cap, _, fz, by rw [hll], hbg, setRow_heap w g cur _ 5 _ hg, ?_, by omega, hcm, ?_, ?_⟩, ⟨rfl, rfl, rfl, by simp, fun k _ hk => setRow_other w g k _ (fun e => hk (by simp [Value.ownBlock, e])), Or.inl rfl⟩⟩
    · intro j hj
      refine hfz j ?_
      simp only [List.size_toArray, List.length_append, List.length_take, List.length_drop, Array.length_toList, List.length_map, hz1, hm] at hj
      omega
    · simp only [List.size_toArray, List.length_append, List.length_take, List.length_drop, Array.length_toList, List.length_map, hz1, hm]
      omega
    · rw [hz1, Nat.mul_one, htake, List.map_append]
      have : (l ++ r).length = (l.map byteV ++ r.map byteV).length := by simp
      rw [this]
      exact List.take_left
  · have hgrow := run_append_grow (P := Tryz.prog) w 23 23 5 i (.int .u8 0) Tryz.underlying23 hi hz0 ⟨g, 0, none⟩ l.length cap (l.map byteV) (by rw [hz1]; simp) (fun j u hu => by
        obtain ⟨g', c', e, hb, _, _⟩ := hat
        cases e
        rw [List.getElem?_map] at hu
        by_cases hj : j < l.length
        · rw [List.getElem?_eq_getElem hj] at hu
          simp only [Option.map_some, Option.some.injEq] at hu
          rw [← hu]
          obtain ⟨B', O', e, hc⟩ := hb.at hj
          cases e
          have hadd : (⟨g, 0, none⟩ : Addr).add j = ⟨g, 0 + j, none⟩ := by unfold Addr.add; split <;> simp_all
          rw [hadd]
          exact hc
        · rw [List.getElem?_eq_none (by omega)] at hu
          cases hu) ⟨A, O, none⟩ m c (r.map byteV) hnl hnews (by omega) (by omega) (growslice_fits (by omega) (by rw [hz2]; omega))
    have hge := grownCap_ge w (l.length + m) cap 5
    have hcm2 : grownCap w (l.length + m) cap 5 ≤ maxLen := grownCap_le_maxLen w (l.length + m) cap 5 (by unfold maxLen; omega)
    refine ⟨_, _, hgrow, ⟨w.heap.size, _, _, (0, 0), by rw [hll], hB, heap_alloc_new w.drew _, fun j _ => by simp only; omega, by rw [hll]; exact hge, hcm2, ?_, ?_⟩, ⟨rfl, rfl, rfl, by simp, fun k hk _ => Below.heap_alloc w.drew _ _ hk, Or.inr ⟨_, rfl, Nat.le_refl _⟩⟩⟩
    · have hz : (Value.int IntKind.u8 0).cells.size = 1 := rfl
      simp only [Array.size_append, List.size_toArray, size_zeroCells, hz, List.length_map, hm]
      omega
    · simp only [Array.toList_append, List.append_assoc, List.map_append]
      have : (l ++ r).length = (l.map byteV ++ r.map byteV).length := by simp
      rw [this, ← List.append_assoc]
      exact List.take_left

/-- What the reference has of a key. -/
def goodB (nm sec : Bs) : Bool := nameB nm && (decide (1 ≤ sec.length) && decide (sec.length ≤ 64))
abbrev wkV (nm : Bs) (a : Option Addr) (n c : Nat) : Value := .agg #[.string (ba nm), .slice a n c]

set_option maxRecDepth 100000 in
set_option maxHeartbeats 2000000 in
theorem refGood_any {nm sec : Bs} {a : Option Addr} {n c : Nat} (hl : nm.length ≤ 2000000) (hn : sec.length = n) (w : World) : Calls Tryz.prog 103 #[wkV nm a n c] w fun e w' => e = .returned (.bool (goodB nm sec)) ∧ Below w.heap.size w w' := by
  obtain ⟨A, hA⟩ : ∃ A, w.heap.size = A := ⟨_, rfl⟩
  obtain ⟨W1, hW1⟩ : ∃ W1, w.alloc (.cells #[.string (ba nm), .slice a n c] 90) = W1 := ⟨_, rfl⟩
  have b1 : Below w.heap.size w W1 := by rw [← hW1]; exact lowA (Below.refl _ _) _
  have q1 : Blk W1 A #[.string (ba nm), .slice a n c] 90 := by rw [← hW1, ← hA]; exact Blk.new _ _ _
  have k0 : W1.cell? ⟨A, 0, none⟩ = some (.string (ba nm)) := q1.cell 0
  have k1 : W1.cell? ⟨A, 1, none⟩ = some (.slice a n c) := q1.cell 1
  have KN := hide (refName_all hl W1)
  obtain ⟨p, hp⟩ : ∃ p, nameB nm = p := ⟨_, rfl⟩
  rw [hp] at KN
  have HG : Hid (goodB nm sec = (p && (decide (1 ≤ n) && decide (n ≤ 64)))) := hide (by unfold goodB; rw [hp, hn])
  have HB := hide b1
  have HW := hide hW1
  have HA := hide hA
  clear b1 q1 hW1 hp hn hl hA
  cases p with
  | false =>
    go_enter Tryz.func103, Tryz.ntmps103
    go_wp2_with (go_at_call 152; fail)
    rw [unhide HW, unhide HA]
    go_wp2_with (go_at_call 152; fail)
    refine (unhide KN).mono ?_
    rintro e wn ⟨rfl, hwn⟩
    rw [hwn]
    clear hwn wn
    go_wp2
    go_ret
    exact ⟨by rw [unhide HG]; rfl, unhide HB⟩
  | true =>
    by_cases h1 : 1 ≤ n
    · have a1 : (1 : Int) ≤ (n : Int) := by omega
      by_cases h2 : n ≤ 64
      · have a2 : (n : Int) ≤ 64 := by omega
        go_enter Tryz.func103, Tryz.ntmps103
        go_wp2_with (go_at_call 152; fail)
        rw [unhide HW, unhide HA]
        go_wp2_with (go_at_call 152; fail)
        refine (unhide KN).mono ?_
        rintro e wn ⟨rfl, hwn⟩
        rw [hwn]
        clear hwn wn
        go_wp2
        go_ret
        exact ⟨by rw [unhide HG]; simp [h1, h2], unhide HB⟩
      · have a2 : ¬ (n : Int) ≤ 64 := by omega
        go_enter Tryz.func103, Tryz.ntmps103
        go_wp2_with (go_at_call 152; fail)
        rw [unhide HW, unhide HA]
        go_wp2_with (go_at_call 152; fail)
        refine (unhide KN).mono ?_
        rintro e wn ⟨rfl, hwn⟩
        rw [hwn]
        clear hwn wn
        go_wp2
        go_ret
        exact ⟨by rw [unhide HG, decide_eq_false h2]; simp; first | exact a2 | (have := a2; simp at this; exact this) | exact_mod_cast a2, unhide HB⟩
    · have a1 : ¬ (1 : Int) ≤ (n : Int) := by omega
      go_enter Tryz.func103, Tryz.ntmps103
      go_wp2_with (go_at_call 152; fail)
      rw [unhide HW, unhide HA]
      go_wp2_with (go_at_call 152; fail)
      refine (unhide KN).mono ?_
      rintro e wn ⟨rfl, hwn⟩
      rw [hwn]
      clear hwn wn
      go_wp2
      go_ret
      exact ⟨by rw [unhide HG]; simp [h1], unhide HB⟩
end Go.Proofs.YtkablmjkffdloaaGreatDoor

namespace Go.Proofs.YtkablmjkffdloaaGreatDoor
open Go.RowKit

/-- append of a string's bytes. -/
theorem app_str {B : Nat} {w : World} {v : Value} {l r : Bs} (ho : OwnB B w v l) (hB : B ≤ w.heap.size) (hl : l.length + r.length ≤ 4294967296) :
    ∃ v' w', (Builtin.append_ #[23, 9] 23 #[v, .string (ba r)]).run Tryz.prog w = .ok v' w' ∧ OwnB B w' v' (l ++ r) ∧ Below B w w' := by
  obtain ⟨i, hi, hz0, hz1, hz2⟩ := info_parts info5
  have hs := ba_size r
  obtain ⟨v', w', h1, h2, h3, -⟩ := Lib.run_append_own_string (P := Tryz.prog) w B 23 9 23 5 i Tryz.underlying23 Tryz.underlying9 hi hz0 hz1 hz2 v l.length (l.map byteV) ho (ba r) (by rw [hs]; unfold maxLen; omega) (by rw [hs]; omega) hB
  have e : Lib.strCells (ba r) = r.map byteV := by
    unfold Lib.strCells
    rw [ba_data]
    rfl
  rw [hs, e] at h2
  exact ⟨v', w', h1, ownB_cat h2, ⟨h3.os, h3.tape, h3.output, h3.size, fun k hk => h3.block k (by omega) (fun e => by have := OwnB.base ho k e.symm; omega)⟩⟩
/-- The first bytes of a row. -/
theorem OwnB.cut {B : Nat} {w : World} {g n cap : Nat} {l : Bs} (h : OwnB B w (.slice (some ⟨g, 0, none⟩) n cap) l) (k : Nat) (hk : k ≤ l.length) : OwnB B w (.slice (some ⟨g, 0, none⟩) k cap) (l.take k) := by
  have hlen : (l.take k).length = k := by rw [List.length_take]; omega
  refine ⟨by simp, ?_⟩
  rcases h.2 with ⟨e, _⟩ | ⟨g', cap', cur, e, hb, hh, h1, h2, h3, h4⟩
  · cases e
  · cases e
    refine Or.inr ⟨g, cap, cur, by rw [hlen], hb, hh, by omega, h2, h3, ?_⟩
    rw [hlen, Nat.mul_one, List.map_take, ← h4, List.take_take]
    congr 1
    omega
theorem own_two (W : World) : OwnB W.heap.size (W.alloc (.cells #[.int .u8 2] 5)) (.slice (some ⟨W.heap.size, 0, none⟩) 1 1) [2] := by
  refine ⟨rfl, Or.inr ⟨W.heap.size, 1, #[.int .u8 2], rfl, Nat.le_refl _, ?_, Nat.le_refl _, by decide, rfl, rfl⟩⟩
  exact Blk.new _ _ _

set_option maxRecDepth 100000 in
set_option maxHeartbeats 2000000 in
theorem refSig_any {w : World} {nm sec text : Bs} {a : Option Addr} {n c : Nat} (hn : sec.length = n) (hN : n ≤ 1000000) (ht : text.length ≤ 1000000) (h : BAt w a sec) :
    Calls Tryz.prog 61 #[wkV nm a n c, .string (ba text)] w fun e w' => ∃ v, e = .returned v ∧ OwnB w.heap.size w' v (sigL sec text) ∧ Below w.heap.size w w' := by
  obtain ⟨A, hA⟩ : ∃ A, w.heap.size = A := ⟨_, rfl⟩
  obtain ⟨W1, hW1⟩ : ∃ W1, w.alloc (.cells #[.string (ba nm), .slice a n c] 90) = W1 := ⟨_, rfl⟩
  have b1 : Below w.heap.size w W1 := by rw [← hW1]; exact lowA (Below.refl _ _) _
  have q1 : Blk W1 A #[.string (ba nm), .slice a n c] 90 := by rw [← hW1, ← hA]; exact Blk.new _ _ _
  have s1 : W1.heap.size = A + 1 := by rw [← hW1, ← hA]; simp
  obtain ⟨W2, hW2⟩ : ∃ W2, W1.alloc (.cells #[.int .u8 2] 5) = W2 := ⟨_, rfl⟩
  have b2 : Below W1.heap.size W1 W2 := by rw [← hW2]; exact lowA (Below.refl _ _) _
  have o2 := own_two W1
  rw [hW2, s1] at o2
  have q12 := q1.low b2
  have k1 : W2.cell? ⟨A, 1, none⟩ = some (.slice a n c) := q12.cell 1
  have HK := hide (refSha_any (c := c) hn (by omega) (h.low (low_trans b1 b2)))
  have HB2 := hide (low_trans b1 b2)
  have HO2 := hide o2
  have HW1 := hide hW1
  have HW2 := hide hW2
  have HA := hide hA
  have HS1 := hide s1
  have HHT := hide ht
  have HZ2 : Hid (A + 1 ≤ W2.heap.size) := hide (by rw [← s1]; exact b2.size)
  clear b1 b2 q1 q12 hW1 hW2 s1 h hn ht o2
  go_enter Tryz.func61, Tryz.ntmps61
  go_wp2_with (go_at_call 28; fail)
  rw [unhide HW1, unhide HW2]
  go_wp2_with (go_at_call 28; fail)
  refine (unhide HK).mono ?_
  rintro e w3 ⟨v3, rfl, o3, b3⟩
  obtain ⟨g3, c3, rfl, at3, -, -⟩ := OwnB.adr2 o3 (sha32 _)
  have z3 : A + 1 ≤ w3.heap.size := Nat.le_trans (unhide HZ2) b3.size
  obtain ⟨v4, w4, happ, o4, g4⟩ := app_at (c := c3) (sha32 sec) at3 (OwnB.low (unhide HO2) b3) z3 (by simp)
  have b4 : Below w.heap.size w w4 := (low_trans (unhide HB2) b3).trans ((g4.low (B := A + 1) z3 (OwnB.base (OwnB.low (unhide HO2) b3))).mono (by have := unhide HA; omega))
  have o4' : OwnB w.heap.size w4 v4 ([2] ++ shaL sec) := OwnB.less (by have := unhide HA; omega) o4
  obtain ⟨v5, w5, happ2, o5, b5⟩ := app_str (r := text) o4' b4.size (by have := unhide HHT; simp [sha32]; omega)
  have e5 : ([2] ++ shaL sec) ++ text = [2] ++ (shaL sec ++ text) := List.append_assoc _ _ _
  rw [e5] at o5
  obtain ⟨a5, c5, rfl, at5, -, -⟩ := OwnB.at o5
  have HS := hide (refSha_any (c := c5) rfl (by have := unhide HHT; simp [sha32]; omega) at5)
  have HB5 : Hid (Below w.heap.size w w5) := hide (b4.trans b5)
  obtain ⟨L5, hL5⟩ : ∃ L5, ([2] ++ (shaL sec ++ text)).length = L5 := ⟨_, rfl⟩
  rw [hL5] at happ2 HS
  clear o3 b3 z3 at3 o4 g4 b4 o4' o5 b5 at5 e5 hL5 HK
  go_wp2_with (first
    | (at_builtin; refine Lib.wpList_append_run _ rfl _ _ _ _ rfl _ _ rfl rfl _ _ happ ?_; clear happ)
    | (at_builtin; refine Lib.wpList_append_run _ rfl _ _ _ _ rfl _ _ rfl rfl _ _ happ2 ?_; clear happ2)
    | (go_at_call 28; fail))
  refine (unhide HS).mono ?_
  rintro e w7 ⟨v7, rfl, o7, b7⟩
  have HD : Hid (OwnB w.heap.size w7 v7 (sigL sec text) ∧ Below w.heap.size w w7) := hide ⟨OwnB.less (unhide HB5).size o7, low_trans (unhide HB5) b7⟩
  clear o7 b7 HS
  go_wp2
  go_ret
  exact ⟨_, rfl, (unhide HD).1, (unhide HD).2⟩

set_option maxRecDepth 100000 in
set_option maxHeartbeats 2000000 in
theorem refID_any {w : World} {nm sec : Bs} {a : Option Addr} {n c : Nat} (hl : nm.length ≤ 1000000) (hn : sec.length = n) (hN : n ≤ 1000000) (h : BAt w a sec) :
    Calls Tryz.prog 116 #[wkV nm a n c] w fun e w' => ∃ g cap, e = .returned (.slice (some ⟨g, 0, none⟩) 4 cap) ∧ OwnB w.heap.size w' (.slice (some ⟨g, 0, none⟩) 4 cap) ((idH nm sec).take 4) ∧ Below w.heap.size w w' := by
  obtain ⟨A, hA⟩ : ∃ A, w.heap.size = A := ⟨_, rfl⟩
  obtain ⟨W1, hW1⟩ : ∃ W1, w.alloc (.cells #[.string (ba nm), .slice a n c] 90) = W1 := ⟨_, rfl⟩
  have b1 : Below w.heap.size w W1 := by rw [← hW1]; exact lowA (Below.refl _ _) _
  have q1 : Blk W1 A #[.string (ba nm), .slice a n c] 90 := by rw [← hW1, ← hA]; exact Blk.new _ _ _
  have k0 : W1.cell? ⟨A, 0, none⟩ = some (.string (ba nm)) := q1.cell 0
  obtain ⟨v2, W2, hcv, o2, b2⟩ := conv_m W1 nm (by omega)
  obtain ⟨W3, hW3⟩ : ∃ W3, W2.alloc (.cells #[.int .u8 10, .int .u8 1] 5) = W3 := ⟨_, rfl⟩
  have b3 : Below W2.heap.size W2 W3 := by rw [← hW3]; exact lowA (Below.refl _ _) _
  have at3 := at_two W2
  rw [hW3] at at3
  obtain ⟨v4, w4, happ, o4, g4⟩ := app_m (c := 2) (m := 2) rfl at3 (o2.low b3) (Nat.le_trans b2.size b3.size) (by simp; omega)
  have b13 := low_trans b2 b3
  have b4 : Below W1.heap.size W1 w4 := b13.trans (g4.low b13.size (OwM.base (o2.low b3)))
  have q14 := q1.low b4
  have k1 : w4.cell? ⟨A, 1, none⟩ = some (.slice a n c) := q14.cell 1
  have HK := hide (refSha_any (c := c) hn (by omega) (h.low (low_trans b1 b4)))
  have HW1 := hide hW1
  have HW3 := hide hW3
  have HB1 := hide b1
  have HB4 := hide b4
  have HO4 := hide o4
  have HL := hide hl
  clear b1 q1 hW1 o2 b2 hW3 b3 at3 o4 g4 b13 b4 q14 h hn hl
  go_enter Tryz.func116, Tryz.ntmps116
  go_wp2_with (go_at_call 28; fail)
  rw [unhide HW1, hcv]
  go_wp2_with (first
    | (at_builtin; rw [unhide HW3]; refine Lib.wpList_append_run _ rfl _ _ _ _ rfl _ _ rfl rfl _ _ happ ?_; clear happ)
    | (go_at_call 28; fail))
  refine (unhide HK).mono ?_
  rintro e w5 ⟨v5, rfl, o5, b5⟩
  obtain ⟨g5, c5, rfl, at5, -, -⟩ := OwnB.adr2 o5 (sha32 _)
  obtain ⟨v6, w6, happ2, o6, g6⟩ := app_m (c := c5) (sha32 sec) at5 ((unhide HO4).low b5) (Nat.le_trans (unhide HB4).size b5.size) (by have := unhide HL; simp; omega)
  have b6 : Below W1.heap.size W1 w6 := (low_trans (unhide HB4) b5).trans (g6.low (Nat.le_trans (unhide HB4).size b5.size) (OwM.base ((unhide HO4).low b5)))
  have e6 : (nm ++ [10, 1]) ++ shaL sec = nm ++ ([10, 1] ++ shaL sec) := List.append_assoc _ _ _
  rw [e6] at o6
  obtain ⟨g7, c7, rfl, at7, -, -⟩ := OwM.at o6
  have HS := hide (refSha_any (c := c7) rfl (by have := unhide HL; simp [sha32]; omega) at7)
  have HB6 : Hid (Below w.heap.size w w6) := hide (low_trans (unhide HB1) b6)
  obtain ⟨L7, hL7⟩ : ∃ L7, (nm ++ ([10, 1] ++ shaL sec)).length = L7 := ⟨_, rfl⟩
  rw [hL7] at happ2 HS
  clear o5 b5 at5 o6 g6 b6 e6 at7 hL7 HK
  go_wp2_with (first
    | (at_builtin; refine Lib.wpList_append_run _ rfl _ _ _ _ rfl _ _ rfl rfl _ _ happ2 ?_; clear happ2)
    | (go_at_call 28; fail))
  refine (unhide HS).mono ?_
  rintro e w8 ⟨v8, rfl, o8, b8⟩
  obtain ⟨g8, c8, rfl, at8, hc8, hm8⟩ := OwnB.adr2 o8 (sha32 _)
  have hc9 : (4 : Int) ≤ (c8 : Int) := by omega
  have hc10 : 4 ≤ c8 := by omega
  have hm9 : c8 ≤ 9223372036854775807 := hm8
  have HD : Hid (OwnB w.heap.size w8 (.slice (some ⟨g8, 0, none⟩) 4 c8) ((idH nm sec).take 4) ∧ Below w.heap.size w w8) := hide ⟨OwnB.cut (OwnB.less (unhide HB6).size o8) 4 (by rw [sha32]; omega), low_trans (unhide HB6) b8⟩
  clear o8 b8 at8 HS
  go_wp2
  go_ret
  exact ⟨_, _, rfl, (unhide HD).1, (unhide HD).2⟩

set_option maxRecDepth 100000 in
set_option maxHeartbeats 2000000 in
theorem refNumber_any {w : World} {nm sec : Bs} {a : Option Addr} {n c : Nat} (hl : nm.length ≤ 1000000) (hn : sec.length = n) (hN : n ≤ 1000000) (h : BAt w a sec) :
    Calls Tryz.prog 105 #[wkV nm a n c] w fun e w' => e = .returned (.int .u32 ((idN nm sec).toNat : Int)) ∧ Below w.heap.size w w' := by
  obtain ⟨A, hA⟩ : ∃ A, w.heap.size = A := ⟨_, rfl⟩
  obtain ⟨W1, hW1⟩ : ∃ W1, w.alloc (.cells #[.string (ba nm), .slice a n c] 90) = W1 := ⟨_, rfl⟩
  have b1 : Below w.heap.size w W1 := by rw [← hW1]; exact lowA (Below.refl _ _) _
  have q1 : Blk W1 A #[.string (ba nm), .slice a n c] 90 := by rw [← hW1, ← hA]; exact Blk.new _ _ _
  have k0 : W1.cell? ⟨A, 0, none⟩ = some (.string (ba nm)) := q1.cell 0
  have k1 : W1.cell? ⟨A, 1, none⟩ = some (.slice a n c) := q1.cell 1
  have HK := hide (refID_any (c := c) hl hn hN (h.low b1))
  have HW1 := hide hW1
  have HB1 := hide b1
  obtain ⟨N, hNN⟩ : ∃ N : Int, ((idN nm sec).toNat : Int) = N := ⟨_, rfl⟩
  rw [hNN]
  have HNN := hide hNN
  clear b1 q1 hW1 h hn hl hNN
  go_enter Tryz.func105, Tryz.ntmps105
  go_wp2_with (go_at_call 116; fail)
  rw [unhide HW1]
  go_wp2_with (go_at_call 116; fail)
  refine (unhide HK).mono ?_
  rintro e w3 ⟨g, cap, rfl, o3, b3⟩
  obtain ⟨x0, x1, x2, x3, t, hx⟩ : ∃ x0 x1 x2 x3 t, idH nm sec = x0 :: x1 :: x2 :: x3 :: t := by
    have hlen : (idH nm sec).length = 32 := sha32 _
    match idH nm sec, hlen with
    | x0 :: x1 :: x2 :: x3 :: t, _ => exact ⟨x0, x1, x2, x3, t, rfl⟩
  have hE : idN nm sec = be32 x0 x1 x2 x3 := by unfold idN; rw [hx]; rfl
  rw [hx] at o3
  obtain ⟨a4, c4, e4, at4, -, -⟩ := OwnB.at o3
  cases e4
  have hc : ∀ k (hk : k < (List.take 4 (x0 :: x1 :: x2 :: x3 :: t)).length), w3.cell? ⟨g, 0 + k, none⟩ = some (.int .u8 (((List.take 4 (x0 :: x1 :: x2 :: x3 :: t))[k]).toNat : Int)) := fun k hk => by
    obtain ⟨B', O', e, h'⟩ := at4.at hk
    cases e
    exact h'
  have c0 : w3.cell? ⟨g, 0, none⟩ = some (.int .u8 (x0.toNat : Int)) := hc 0 (by simp)
  have c1 : w3.cell? ⟨g, 1, none⟩ = some (.int .u8 (x1.toNat : Int)) := hc 1 (by simp)
  have c2 : w3.cell? ⟨g, 2, none⟩ = some (.int .u8 (x2.toNat : Int)) := hc 2 (by simp)
  have c3 : w3.cell? ⟨g, 3, none⟩ = some (.int .u8 (x3.toNat : Int)) := hc 3 (by simp)
  have HE : Hid (((be32 x0 x1 x2 x3).toNat : Int) = N) := hide (by rw [← hE]; exact unhide HNN)
  rw [← be32_eq] at HE
  have l1 := u8_lt x0
  have l2 := u8_lt x1
  have l3 := u8_lt x2
  have l4 := u8_lt x3
  have HB3 := hide (low_trans (unhide HB1) b3)
  clear hE o3 b3 hx hc at4
  go_wp2
  go_region
  all_goals
    go_wp2
    go_ret
    exact ⟨by rw [← unhide HE]; rfl, (unhide HB3).drew⟩
end Go.Proofs.YtkablmjkffdloaaGreatDoor
