/-
  The reference's ParseVendor: what a line does, as the reference sees it.
-/
import Derived.Test.YthcafeoamabkgaaGreatDoorRvX
namespace Go.Proofs.YthcafeoamabkgaaGreatDoor
open Go.RowKit

theorem modE_mem {ms ns : List Md} {m : Md} (h : ∀ a, a ∈ ms ↔ a ∈ ns) : modE ms m = modE ns m := by
  unfold modE
  by_cases h1 : m ∈ ms
  · rw [if_pos h1, if_pos ((h m).1 h1)]
  · rw [if_neg h1, if_neg (fun h2 => h1 ((h m).2 h2))]
theorem impE_mem {path p : Str} {ps qs : List Str} (h : ∀ a, a ∈ ps ↔ a ∈ qs) : impE path ps p = impE path qs p := by
  unfold impE
  by_cases h1 : p ∈ ps
  · rw [if_pos h1, if_pos ((h p).1 h1)]
  · rw [if_neg h1, if_neg (fun h2 => h1 ((h p).2 h2))]

/-- What is asked of the packages of a list that comes in. -/
def PacksM (w : World) (zs : List VE) : Prop := ∀ z ∈ zs, z.1.pk.length = z.2.2.1 ∧ z.2.2.1 ≤ 100000 ∧ RowS w z.2.1 z.1.pk
theorem PacksM.low {w w' : World} {zs : List VE} (h : PacksM w zs) (b : Below w.heap.size w w') : PacksM w' zs := fun z hz => by
  obtain ⟨h1, h2, h3⟩ := h z hz
  exact ⟨h1, h2, h3.low b⟩

theorem ZRow.at {B : Nat} {w : World} {v : Value} {zs : List VZ} (h : ZRow B w v zs) : ∃ a c, v = .slice a zs.length c ∧ RowZ w a zs := by
  by_cases hv : v = .slice none 0 0
  · rcases h.2 with ⟨_, h0⟩ | ⟨_, _, _, e, _⟩
    · exact ⟨none, 0, by rw [hv, h0], Or.inl (List.length_eq_zero_iff.1 h0)⟩
    · rw [hv] at e; cases e
  · obtain ⟨g, cap, e, _, hr⟩ := own_rowZ h hv
    exact ⟨_, cap, e, hr⟩
theorem SRow.at {B : Nat} {w : World} {v : Value} {zs : List Str} (h : SRow B w v zs) : ∃ a c, v = .slice a zs.length c ∧ RowS w a zs := by
  by_cases hv : v = .slice none 0 0
  · rcases h.2 with ⟨_, h0⟩ | ⟨_, _, _, e, _⟩
    · exact ⟨none, 0, by rw [hv, h0], Or.inl (List.length_eq_zero_iff.1 h0)⟩
    · rw [hv] at e; cases e
  · obtain ⟨g, cap, e, _, hr⟩ := own_rowS h hv
    exact ⟨_, cap, e, hr⟩

/-- An element's module, in a world that has grown. -/
abbrev HeldN (W : World) (B o : Nat) (p v : Str) (wq : World) : Prop :=
  wq.cell? ⟨B, o, none⟩ = some (.string (ba p)) ∧ wq.cell? ⟨B, o + 1, none⟩ = some (.string (ba v)) ∧ Below W.heap.size W wq
theorem HeldN.on {W wq w' : World} {B o : Nat} {p v : Str} (h : HeldN W B o p v wq) (b : Below wq.heap.size wq w') : HeldN W B o p v w' :=
  ⟨keep_cell b h.1, keep_cell b h.2.1, low_trans h.2.2 b⟩
theorem HeldN.drew {W wq : World} {B o : Nat} {p v : Str} (h : HeldN W B o p v wq) : HeldN W B o p v wq.drew := h.on (Below.refl _ _).drew
theorem mod_held {W wq : World} {B o : Nat} {p v : Str} {args : Array Value} {E : Int} (hf : ∀ wx, Below W.heap.size W wx → Calls Tryz.prog 73 args wx fun e w' => e = .returned (.int .i64 E) ∧ Below wx.heap.size wx w') (h : HeldN W B o p v wq) :
    Calls Tryz.prog 73 args wq fun e w' => e = .returned (.int .i64 E) ∧ HeldN W B o p v w' := by
  refine (hf wq h.2.2).mono ?_
  rintro e w' ⟨rfl, b⟩
  exact ⟨rfl, h.on b⟩

/-- An element's module and one of its packages. -/
abbrev HeldO (W : World) (B o : Nat) (p v : Str) (s : Value) (B2 o2 : Nat) (q : Str) (wq : World) : Prop :=
  wq.cell? ⟨B, o, none⟩ = some (.string (ba p)) ∧ wq.cell? ⟨B, o + 1, none⟩ = some (.string (ba v)) ∧ wq.cell? ⟨B, o + 3, none⟩ = some s ∧ wq.cell? ⟨B2, o2, none⟩ = some (.string (ba q)) ∧ Below W.heap.size W wq
theorem HeldO.on {W wq w' : World} {B o B2 o2 : Nat} {p v q : Str} {s : Value} (h : HeldO W B o p v s B2 o2 q wq) (b : Below wq.heap.size wq w') : HeldO W B o p v s B2 o2 q w' :=
  ⟨keep_cell b h.1, keep_cell b h.2.1, keep_cell b h.2.2.1, keep_cell b h.2.2.2.1, low_trans h.2.2.2.2 b⟩
theorem HeldO.drew {W wq : World} {B o B2 o2 : Nat} {p v q : Str} {s : Value} (h : HeldO W B o p v s B2 o2 q wq) : HeldO W B o p v s B2 o2 q wq.drew := h.on (Below.refl _ _).drew
theorem pack_held {W wq : World} {B o B2 o2 : Nat} {p v q : Str} {s : Value} {args : Array Value} {E : Int} (hf : ∀ wx, Below W.heap.size W wx → Calls Tryz.prog 74 args wx fun e w' => e = .returned (.int .i64 E) ∧ Below wx.heap.size wx w') (h : HeldO W B o p v s B2 o2 q wq) :
    Calls Tryz.prog 74 args wq fun e w' => e = .returned (.int .i64 E) ∧ HeldO W B o p v s B2 o2 q w' := by
  refine (hf wq h.2.2.2.2).mono ?_
  rintro e w' ⟨rfl, b⟩
  exact ⟨rfl, h.on b⟩

theorem RowV.front {w : World} {a : Option Addr} {zs : List VE} (h : RowV w a zs) (k : Nat) : RowV w a (zs.take k) := by
  rcases h with h | ⟨B, O, h1, h2, h3⟩
  · exact Or.inl (by rw [h, List.take_nil])
  · refine Or.inr ⟨B, O, h1, h2, fun j u hu => h3 j u ?_⟩
    conv => lhs; rw [← List.take_append_drop k zs, List.map_append, vdsV_append]
    rw [List.getElem?_append_left (List.getElem?_eq_some_iff.1 hu).1]
    exact hu
theorem RowS.take {w : World} {a : Option Addr} {ps : List Str} (h : RowS w a ps) (k : Nat) : RowS w a (ps.take k) := by
  rw [← List.take_append_drop k ps] at h
  exact h.front

theorem vend_next {LS : List Vd} {i : Nat} (hi : i < LS.length) {E : Int} (h : vendE ((LS.take i).map (·.m)).reverse (LS.drop i) = E) :
    E = if modE ((LS.take i).map (·.m)) LS[i].m ≠ 0 then modE ((LS.take i).map (·.m)) LS[i].m else if pksE LS[i].m.1 [] LS[i].pk ≠ 0 then pksE LS[i].m.1 [] LS[i].pk else vendE ((LS.take (i + 1)).map (·.m)).reverse (LS.drop (i + 1)) := by
  have e1 : modE ((LS.take i).map (·.m)).reverse LS[i].m = modE ((LS.take i).map (·.m)) LS[i].m := modE_mem fun a => List.mem_reverse
  have e2 : LS[i].m :: ((LS.take i).map (·.m)).reverse = ((LS.take (i + 1)).map (·.m)).reverse := by
    rw [List.take_succ_eq_append_getElem hi, List.map_append, List.reverse_append]
    rfl
  rw [← h, List.drop_eq_getElem_cons hi]
  conv => lhs; unfold vendE
  rw [e1, e2]

theorem mid_text (y : Vd) (k : Nat) : vdT y = ((headT y.m ++ [10]) ++ (if y.x = true then explL ++ [10] else [])) ++ frontL (y.pk.take k ++ y.pk.drop k) := by
  rw [List.take_append_drop]
  unfold vdT vdLs
  have e : ∀ (a : Str) (l : List Str), frontL (a :: l) = (a ++ [10]) ++ frontL l := fun a l => by simp [frontL]
  rw [e, frontL_append, ← List.append_assoc]
  congr 2
  split
  · simp [frontL]
  · rfl

end Go.Proofs.YthcafeoamabkgaaGreatDoor

namespace Go.Proofs.YthcafeoamabkgaaGreatDoor
open Go.RowKit

/-- The modules of a row, as they can be read. -/
def RowMd (w : World) (a : Option Addr) (ms : List Md) : Prop := ms = [] ∨ ∃ B O, a = some ⟨B, O, none⟩ ∧ B < w.heap.size ∧ ∀ i (hi : i < ms.length), w.cell? ⟨B, O + i * 4, none⟩ = some (.string (ba ms[i].1)) ∧ w.cell? ⟨B, O + i * 4 + 1, none⟩ = some (.string (ba ms[i].2))
theorem RowMd.low {w w' : World} {a : Option Addr} {ms : List Md} (h : RowMd w a ms) (b : Below w.heap.size w w') : RowMd w' a ms := by
  rcases h with h | ⟨B, O, h1, h2, h3⟩
  · exact Or.inl h
  · exact Or.inr ⟨B, O, h1, Nat.lt_of_lt_of_le h2 b.size, fun i hi => ⟨keep_cell b (h3 i hi).1, keep_cell b (h3 i hi).2⟩⟩
theorem RowMd.at {w : World} {a : Option Addr} {ms : List Md} (h : RowMd w a ms) {i : Nat} (hi : i < ms.length) : ∃ B O, a = some ⟨B, O, none⟩ ∧ w.cell? ⟨B, O + i * 4, none⟩ = some (.string (ba ms[i].1)) ∧ w.cell? ⟨B, O + i * 4 + 1, none⟩ = some (.string (ba ms[i].2)) := by
  rcases h with h | ⟨B, O, h1, _, h3⟩
  · rw [h] at hi; cases hi
  · exact ⟨B, O, h1, (h3 i hi).1, (h3 i hi).2⟩
theorem RowZ.mods {w : World} {a : Option Addr} {zs : List VZ} (h : RowZ w a zs) : RowMd w a (zs.map fun z => z.1.m) := by
  by_cases h0 : zs = []
  · exact Or.inl (by rw [h0]; rfl)
  · rcases id h with h1 | ⟨B, O, e, hB, _⟩
    · exact absurd h1 h0
    · refine Or.inr ⟨B, O, e, hB, fun i hi => ?_⟩
      rw [List.length_map] at hi
      obtain ⟨B', O', e', c1, c2, _, _⟩ := h.at hi
      rw [e] at e'
      cases e'
      rw [List.getElem_map]
      exact ⟨c1, c2⟩

set_option maxRecDepth 100000 in
set_option maxHeartbeats 4000000 in
/-- module, of the reference. -/
theorem refModuleM_any {w : World} {a : Option Addr} {n c : Nat} {zs : List Md} {m : Md} (hn : zs.length = n) (hN : n ≤ 1000000) (h : RowMd w a zs) (hp : m.1.length < 4294967281) :
    Calls Tryz.prog 73 #[.slice a n c, modV m] w fun e w' => e = .returned (.int .i64 (modE zs m)) ∧ Below w.heap.size w w' := by
  obtain ⟨mp, mv⟩ := m
  obtain ⟨W0, hW0⟩ : ∃ W0, w.alloc (.cells #[.string (ba mp), .string (ba mv)] 36) = W0 := ⟨_, rfl⟩
  have b0 : Below w.heap.size w W0 := by rw [← hW0]; exact (Below.refl _ _).alloc (Nat.le_refl _) _
  have k0 : Blk W0 w.heap.size #[.string (ba mp), .string (ba mv)] 36 := by rw [← hW0]; exact Blk.new _ _ _
  have g0 : W0.cell? ⟨w.heap.size, 0, none⟩ = some (.string (ba mp)) := k0.cell 0
  have g1 : W0.cell? ⟨w.heap.size, 1, none⟩ = some (.string (ba mv)) := k0.cell 1
  obtain ⟨C, hC⟩ : ∃ C, checkR mp mv = C := ⟨_, rfl⟩
  have HC := hide (refCheck_is hC hp W0)
  obtain ⟨E, hE⟩ : ∃ E, modE zs (mp, mv) = E := ⟨_, rfl⟩
  have HE : Hid (E = if C ≠ 0 then (C : Int) else if (mp, mv) ∈ zs then 12 else 0) := hide (by rw [← hE, ← hC]; rfl)
  rw [hE]
  have HN := hide hn
  have H := hide (h.low b0)
  have HB := hide b0
  have HK := hide k0
  have HW0 := hide hW0
  clear hn h k0 hW0 b0 hC hE hp
  go_enter Tryz.func73, Tryz.ntmps73
  go_wp2_with (go_at_call 107; fail)
  rw [unhide HW0]
  refine (unhide HC).mono ?_
  rintro e w1 ⟨rfl, b1⟩
  have H1 := hide ((unhide H).low b1)
  have HB1 := hide (low_trans (unhide HB) b1)
  have HK1 := hide ((unhide HK).low b1)
  have l0 : w1.cell? ⟨w.heap.size, 0, none⟩ = some (.string (ba mp)) := (unhide HK1).cell 0
  have l1 : w1.cell? ⟨w.heap.size, 1, none⟩ = some (.string (ba mv)) := (unhide HK1).cell 1
  clear b1 HC H HB HK g0 g1
  by_cases hc0 : C = 0
  · have hcz : ((C : Int) != 0) = false := by rw [hc0]; rfl
    have hcz2 : (C : Int) = 0 := by omega
    have HE2 : Hid (E = if (mp, mv) ∈ zs then 12 else 0) := hide (by rw [unhide HE, if_neg (by omega)])
    clear hc0
    go_wp2
    go_loopw [6] (fun v6 wr => ∃ i q : Nat, i ≤ n ∧ v6 = .int .i64 i ∧ (mp, mv) ∉ (zs.take i) ∧ wr = w1.drewN q) (fun v6 _ => n - (intOf v6).toNat)
    case atStart => exact ⟨0, 0, Nat.zero_le _, rfl, by simp, rfl⟩
    case round =>
      rename World => wr
      obtain ⟨i, q, hi, rfl, hf, hwr⟩ := hrel
      have HF := hide hf
      have HW := hide hwr
      clear hf
      by_cases hlt : i < n
      · have hit : i < zs.length := by rw [unhide HN]; exact hlt
        obtain ⟨B, O, rfl, m1, m2⟩ := (unhide H1).at hit
        have htk : zs.take (i + 1) = zs.take i ++ [zs[i]] := List.take_succ_eq_append_getElem hit
        have hmem := List.getElem_mem hit
        obtain ⟨z, hz⟩ : ∃ z, zs[i] = z := ⟨_, rfl⟩
        rw [hz] at m1 m2 htk hmem
        obtain ⟨p, v⟩ := z
        simp only at m1 m2
        have q1 : wr.cell? ⟨B, O + i * 4, none⟩ = some (.string (ba p)) := by rw [hwr]; exact m1
        have q2 : wr.cell? ⟨B, O + i * 4 + 1, none⟩ = some (.string (ba v)) := by rw [hwr]; exact m2
        have q5 : wr.cell? ⟨w.heap.size, 0, none⟩ = some (.string (ba mp)) := by rw [hwr]; exact l0
        have q6 : wr.cell? ⟨w.heap.size, 1, none⟩ = some (.string (ba mv)) := by rw [hwr]; exact l1
        have hin : p = mp → v = mv → (mp, mv) ∈ zs := fun e1 e2 => by
          have := hmem
          rwa [e1, e2] at this
        have hno : ¬ (p = mp ∧ v = mv) → (mp, mv) ∉ (zs.take (i + 1)) := fun hne h => by
          rw [htk] at h
          rcases List.mem_append.1 h with h | h
          · exact unhide HF h
          · simp at h
            exact hne ⟨h.1.symm, h.2.symm⟩
        have HIN := hide hin
        have HNO := hide hno
        clear hz htk hmem m1 m2 hwr hin hno
        rcases mod_part p v mp mv with ⟨e1, e2, f1, f2⟩ | ⟨e1, f1⟩ | ⟨e1, e2, f1, f2⟩
        · have HD : Hid (E = 12) := hide (by rw [unhide HE2, if_pos (unhide HIN e1 e2)])
          clear e1 e2
          go_wp2
          go_quiet (fail)
          go_wp2
          go_ret
          rw [unhide HD]
          exact ⟨rfl, by rw [unhide HW]; exact low_drewN (low_drewN (unhide HB1) _) _⟩
        · have HD := hide (unhide HNO (fun h => e1 h.1))
          clear e1
          go_wp2
          go_quiet (fail)
          go_wp2
          go_roundw
          case rel => exact ⟨i + 1, q + nq, hlt, by simp, unhide HD, by rw [unhide HW, World.drewN_drewN]⟩
          case measure => simp [intOf]; omega
        · have HD := hide (unhide HNO (fun h => e2 h.2))
          clear e1 e2
          go_wp2
          go_quiet (fail)
          go_wp2
          go_roundw
          case rel => exact ⟨i + 1, q + nq, hlt, by simp, unhide HD, by rw [unhide HW, World.drewN_drewN]⟩
          case measure => simp [intOf]; omega
      · have hin : zs.take i = zs := List.take_of_length_le (by rw [unhide HN]; omega)
        have HD : Hid (E = 0) := hide (by
          have := unhide HF
          rw [hin] at this
          rw [unhide HE2, if_neg this])
        clear hin hwr
        go_wp2
        go_ret
        rw [unhide HD]
        exact ⟨rfl, by rw [unhide HW]; exact low_drewN (unhide HB1) _⟩
  · have hcz : ((C : Int) != 0) = true := by simpa using hc0
    have HF : Hid (E = (C : Int)) := hide (by rw [unhide HE, if_pos hc0])
    go_wp2
    go_ret
    rw [unhide HF]
    exact ⟨rfl, unhide HB1⟩

end Go.Proofs.YthcafeoamabkgaaGreatDoor

namespace Go.Proofs.YthcafeoamabkgaaGreatDoor
open Go.RowKit

/-- What is left of a text's lines, and what comes of them. -/
def LeftV (ps : List Str) (q : Nat) (z : Str) (ms : List Md) (xs : List Vd) (y : Option Vd) (i : Nat) (R : List Vd × Nat × Int) : Prop :=
  (i ≤ q ∧ vndF ms xs y (i + 1) (ps.drop i) = R) ∨ (i = q + 1 ∧ z ≠ [] ∧ R = ([], q + 1, 11))

/-- What a line does to what is left. -/
def LineDo (ps : List Str) (q : Nat) (z : Str) (ms : List Md) (xs : List Vd) (y : Option Vd) (i : Nat) (R : List Vd × Nat × Int) : VAct → Prop
  | .bad e => R = ([], i + 1, e)
  | .new a => LeftV ps q z (a :: ms) (xs ++ y.toList) (some ⟨a, false, []⟩) (i + 1) R
  | .same y' => LeftV ps q z ms xs (some y') (i + 1) R

theorem line_do {ps qs : List Str} {q K : Nat} {z l : Str} {ms : List Md} {xs : List Vd} {y : Option Vd} {i : Nat} {R : List Vd × Nat × Int} (hp : ps = qs ++ [z]) (hq : qs.length = q) (hK : (if z = [] then q else q + 1) = K) (hi : i < K) (hip : i < ps.length) (hl : ps[i] = l) (h : LeftV ps q z ms xs y i R) : LineDo ps q z ms xs y i R (stepV ms y l) := by
  have hlen : ps.length = q + 1 := by rw [hp]; simp [hq]
  rcases h with ⟨hiq, hv⟩ | ⟨hiq, hz, _⟩
  · rw [List.drop_eq_getElem_cons hip, hl] at hv
    by_cases hlt : i < q
    · obtain ⟨m, ls, hm⟩ : ∃ m ls, ps.drop (i + 1) = m :: ls := by
        have h1 : i + 1 < ps.length := by omega
        exact ⟨_, _, List.drop_eq_getElem_cons h1⟩
      rw [hm] at hv
      unfold vndF at hv
      cases hs : stepV ms y l with
      | bad e => rw [hs] at hv; exact hv.symm
      | new a => rw [hs] at hv; exact Or.inl ⟨hlt, by rw [hm]; exact hv⟩
      | same y' => rw [hs] at hv; exact Or.inl ⟨hlt, by rw [hm]; exact hv⟩
    · have hiq2 : i = q := by omega
      subst hiq2
      have hz : z ≠ [] := fun e => by rw [if_pos e] at hK; omega
      have hlz : l = z := by
        rw [← hl]
        subst hp
        rw [List.getElem_append_right (by omega)]
        simp
      have hd : ps.drop (i + 1) = [] := List.drop_eq_nil_of_le (by omega)
      rw [hd] at hv
      unfold vndF at hv
      rw [if_neg (by rw [hlz]; exact hz)] at hv
      cases hs : stepV ms y l with
      | bad e => rw [hs] at hv; exact hv.symm
      | new a => rw [hs] at hv; exact Or.inr ⟨rfl, hz, hv.symm⟩
      | same y' => rw [hs] at hv; exact Or.inr ⟨rfl, hz, hv.symm⟩
  · rw [if_neg hz] at hK
    omega

/-- What comes of the lines, at their end. -/
theorem left_end {ps qs : List Str} {q K : Nat} {z : Str} {ms : List Md} {xs : List Vd} {y : Option Vd} {R : List Vd × Nat × Int} (hp : ps = qs ++ [z]) (hq : qs.length = q) (hK : (if z = [] then q else q + 1) = K) (h : LeftV ps q z ms xs y K R) : (z = [] ∧ R = (xs ++ y.toList, 0, 0)) ∨ (z ≠ [] ∧ R = ([], K, 11)) := by
  by_cases hz : z = []
  · rw [if_pos hz] at hK
    subst hK
    rcases h with ⟨_, hv⟩ | ⟨_, hz2, _⟩
    · refine Or.inl ⟨hz, ?_⟩
      have hd : ps.drop q = [z] := by rw [hp, ← hq, List.drop_left]
      rw [hd, hz] at hv
      rw [← hv]
      simp [vndF]
    · exact absurd hz hz2
  · rw [if_neg hz] at hK
    subst hK
    rcases h with ⟨h1, _⟩ | ⟨_, _, hv⟩
    · omega
    · exact Or.inr ⟨hz, hv⟩

/-- Whether nothing but its own line has been read of the last module. -/
def freshB : Option Vd → Bool
  | none => false
  | some y => !y.x && y.pk.isEmpty

/-- How far the reference's reading has come. -/
structure ZSt (w0 w : World) (v : Value) (ms : List Md) (xs : List Vd) (y : Option Vd) (i : Nat) : Prop where
  low : Below w0.heap.size w0 w
  mm : ∀ a, a ∈ ms ↔ a ∈ (xs ++ y.toList).map (·.m)
  len : (xs ++ y.toList).length ≤ i
  st : (y = none ∧ xs = [] ∧ v = .slice none 0 0) ∨ ∃ y1 zs s, y = some y1 ∧ zs.map Prod.fst = xs ∧ y1.m.1.length ≤ 65536 ∧ y1.pk.length ≤ i ∧
    ZRow w0.heap.size w v (zs ++ [(y1, s)]) ∧ PAll w0.heap.size w zs ∧ SRow w0.heap.size w s y1.pk ∧ ∀ z ∈ zs, ∀ g, s.ownBlock = some g → z.2.ownBlock ≠ some g

theorem ZSt.on {w0 w w' : World} {v : Value} {ms : List Md} {xs : List Vd} {y : Option Vd} {i : Nat} (h : ZSt w0 w v ms xs y i) (b : Below w.heap.size w w') : ZSt w0 w' v ms xs y i := by
  refine ⟨low_trans h.low b, h.mm, h.len, ?_⟩
  rcases h.st with h1 | ⟨y1, zs, s, h1, h2, h3, h4, h5, h6, h7, h8⟩
  · exact Or.inl h1
  · exact Or.inr ⟨y1, zs, s, h1, h2, h3, h4, rowT_low h5 b, h6.low b, srow_low h7 b, h8⟩

/-- The whole list. -/
theorem ZSt.row {w0 w : World} {v : Value} {ms : List Md} {xs : List Vd} {y : Option Vd} {i : Nat} (h : ZSt w0 w v ms xs y i) : ∃ zs : List VZ, zs.map Prod.fst = xs ++ y.toList ∧ ZRow w0.heap.size w v zs ∧ PAll w0.heap.size w zs := by
  rcases h.st with ⟨rfl, rfl, rfl⟩ | ⟨y1, zs, s, rfl, rfl, _, _, h5, h6, h7, _⟩
  · exact ⟨[], rfl, ⟨rfl, Or.inl ⟨rfl, rfl⟩⟩, fun z hz => by cases hz⟩
  · refine ⟨zs ++ [(y1, s)], by simp, h5, fun z hz => ?_⟩
    rcases List.mem_append.1 hz with hz | hz
    · exact h6 z hz
    · rw [List.mem_singleton] at hz
      subst hz
      exact h7

/-- A new module. -/
theorem ZSt.new {w0 w w' : World} {v v' : Value} {ms : List Md} {xs : List Vd} {y : Option Vd} {i : Nat} {a : Md} {zs : List VZ} (h : ZSt w0 w v ms xs y i) (hz : zs.map Prod.fst = xs ++ y.toList) (ha : PAll w0.heap.size w' zs) (hr : ZRow w0.heap.size w' v' (zs ++ [((⟨a, false, []⟩ : Vd), .slice none 0 0)])) (hl : a.1.length ≤ 65536) (hb : Below w0.heap.size w0 w') : ZSt w0 w' v' (a :: ms) (xs ++ y.toList) (some ⟨a, false, []⟩) (i + 1) := by
  refine ⟨hb, fun b => ?_, ?_, Or.inr ⟨_, zs, _, rfl, hz, hl, Nat.zero_le _, hr, ha, ⟨rfl, Or.inl ⟨rfl, rfl⟩⟩, fun z _ g hg => by cases hg⟩⟩
  · have := h.mm b
    simp only [List.mem_cons, List.map_append, List.mem_append, Option.toList_some, List.map_cons, List.map_nil, List.not_mem_nil, or_false] at this ⊢
    rw [this, or_comm]
  · have := h.len
    rw [List.length_append]
    simp only [Option.toList_some, List.length_singleton]
    omega

theorem vdz_set2 (zs : List VZ) (y : Vd) (s : Value) (b : Bool) : (vdsV (zs ++ [(y, s)])).set (zs.length * 4 + 2) (.bool b) = vdsV (zs ++ [(⟨y.m, b, y.pk⟩, s)]) := vds_set2 zs y s b

/-- The last element is marked. -/
theorem zst_mark {w0 w : World} {ms : List Md} {i g n cap : Nat} {zs : List VZ} {y : Vd} {s : Value} (hlow : Below w0.heap.size w0 w) (mm : ∀ a, a ∈ ms ↔ a ∈ ((zs.map Prod.fst) ++ [y]).map (·.m)) (len : ((zs.map Prod.fst) ++ [y]).length ≤ i) (hl : y.m.1.length ≤ 65536) (hp : y.pk.length ≤ i)
    (hr : ZRow w0.heap.size w (.slice (some ⟨g, 0, none⟩) n cap) (zs ++ [(y, s)])) (hn : n = zs.length + 1) (ha : PAll w0.heap.size w zs) (hs : SRow w0.heap.size w s y.pk) (hne : ∀ z ∈ zs, ∀ g, s.ownBlock = some g → z.2.ownBlock ≠ some g) :
    ZSt w0 (w.setCell ⟨g, zs.length * 4 + 2, none⟩ (.bool true)) (.slice (some ⟨g, 0, none⟩) n cap) ms (zs.map Prod.fst) (some ⟨y.m, true, y.pk⟩) (i + 1) := by
  have hlen : (zs ++ [(y, s)]).length = zs.length + 1 := by simp
  subst hn
  have hg := (rowT hr (g := g) rfl)
  obtain ⟨hg0, cur, hc⟩ := hg
  have far : ∀ k, k ≠ g → (w.setCell ⟨g, zs.length * 4 + 2, none⟩ (.bool true)).heap[k]? = w.heap[k]? := fun k hk => Below.heap_setCell _ _ _ _ hk
  have h9 : ∀ {A : Nat} {v : Value} {m : Nat} {xs : List Value}, w.ownsRow A 9 1 v m xs → (w.setCell ⟨g, zs.length * 4 + 2, none⟩ (.bool true)).ownsRow A 9 1 v m xs := fun h => rowT_same h fun b hb => far b (fun e => by
    obtain ⟨_, c2, hc2⟩ := rowT h hb
    rw [e, hc] at hc2
    simp at hc2)
  have hr2 : w.ownsRow w0.heap.size 119 4 (.slice (some ⟨g, 0, none⟩) (zs.length + 1) cap) (zs ++ [(y, s)]).length (vdsV (zs ++ [(y, s)])) := hr
  rw [hlen] at hr2
  have hset := rowT_set (j := zs.length * 4 + 2) hr2 (by omega) (.bool true)
  rw [vds_set2] at hset
  refine ⟨hlow.setCell (p := ⟨g, zs.length * 4 + 2, none⟩) hg0 _, ?_, by simpa using Nat.le_succ_of_le len, Or.inr ⟨_, zs, s, rfl, rfl, hl, Nat.le_succ_of_le hp, ?_, fun z hz => h9 (ha z hz), h9 hs, hne⟩⟩
  · intro a
    rw [mm a]
    simp
  · show World.ownsRow _ _ _ _ _ (zs ++ [((⟨y.m, true, y.pk⟩ : Vd), s)]).length _
    have : (zs ++ [((⟨y.m, true, y.pk⟩ : Vd), s)]).length = zs.length + 1 := by simp
    rw [this]
    exact hset

/-- A package is appended to the last element's, and stored. -/
theorem zst_pack {w0 w w4 : World} {ms : List Md} {i g n cap : Nat} {zs : List VZ} {y : Vd} {s s' : Value} {l : Str} (hlow : Below w0.heap.size w0 w) (mm : ∀ a, a ∈ ms ↔ a ∈ ((zs.map Prod.fst) ++ [y]).map (·.m)) (len : ((zs.map Prod.fst) ++ [y]).length ≤ i) (hl : y.m.1.length ≤ 65536) (hp : y.pk.length ≤ i)
    (hr : ZRow w0.heap.size w (.slice (some ⟨g, 0, none⟩) n cap) (zs ++ [(y, s)])) (hn : n = zs.length + 1) (ha : PAll w0.heap.size w zs) (hs : SRow w0.heap.size w s y.pk) (hne : ∀ z ∈ zs, ∀ g, s.ownBlock = some g → z.2.ownBlock ≠ some g)
    (hs4 : SRow w0.heap.size w4 s' (y.pk ++ [l])) (hg4 : w.grownBy w4 s.ownBlock) (hat : s'.ownBlock = s.ownBlock ∨ s'.ownBlock = some w.heap.size) :
    ZSt w0 (w4.setCell ⟨g, zs.length * 4 + 3, none⟩ s') (.slice (some ⟨g, 0, none⟩) n cap) ms (zs.map Prod.fst) (some ⟨y.m, y.x, y.pk ++ [l]⟩) (i + 1) := by
  have hlen : (zs ++ [(y, s)]).length = zs.length + 1 := by simp
  subst hn
  obtain ⟨hg0, cur, hc⟩ := rowT hr (g := g) rfl
  have hgl := rowT_lt hr (g := g) rfl
  have hgs : s.ownBlock ≠ some g := fun e => by
    obtain ⟨_, c2, hc2⟩ := rowT hs e
    rw [hc] at hc2
    simp at hc2
  have hc4 : w4.heap[g]? = some (.cells cur 119 (0, 0)) := (hg4.block g hgl (fun e => hgs e.symm)).trans hc
  have low4 : Below w0.heap.size w0 w4 := hlow.grown hg4 hlow.size (fun j hj => (rowT hs hj).1)
  have far : ∀ k, k ≠ g → (w4.setCell ⟨g, zs.length * 4 + 3, none⟩ s').heap[k]? = w4.heap[k]? := fun k hk => Below.heap_setCell _ _ _ _ hk
  have h9 : ∀ {A : Nat} {v : Value} {m : Nat} {xs : List Value}, w4.ownsRow A 9 1 v m xs → (w4.setCell ⟨g, zs.length * 4 + 3, none⟩ s').ownsRow A 9 1 v m xs := fun h => rowT_same h fun b hb => far b (fun e => by
    obtain ⟨_, c2, hc2⟩ := rowT h hb
    rw [e, hc4] at hc2
    simp at hc2)
  have hr4 : w4.ownsRow w0.heap.size 119 4 (.slice (some ⟨g, 0, none⟩) (zs.length + 1) cap) (zs.length + 1) (vdsV (zs ++ [(y, s)])) := by
    have hr2 : w.ownsRow w0.heap.size 119 4 (.slice (some ⟨g, 0, none⟩) (zs.length + 1) cap) (zs ++ [(y, s)]).length (vdsV (zs ++ [(y, s)])) := hr
    rw [hlen] at hr2
    exact rowT_same hr2 fun b hb => by
      cases hb
      exact hg4.block g hgl (fun e => hgs e.symm)
  have hset := rowT_set (j := zs.length * 4 + 3) hr4 (by omega) s'
  rw [vds_set3 zs y s s' (y.pk ++ [l])] at hset
  have ha4 : PAll w0.heap.size w4 zs := fun z hz => rowT_same (ha z hz) fun b hb => hg4.block b (rowT_lt (ha z hz) hb) (fun e => hne z hz b e.symm hb)
  refine ⟨low4.setCell (p := ⟨g, zs.length * 4 + 3, none⟩) hg0 _, ?_, by simpa using Nat.le_succ_of_le len, Or.inr ⟨_, zs, s', rfl, rfl, hl, by show (y.pk ++ [l]).length ≤ _; rw [List.length_append]; simpa using hp, ?_, fun z hz => h9 (ha4 z hz), h9 hs4, fun z hz b hb e => ?_⟩⟩
  · intro a
    rw [mm a]
    simp
  · show World.ownsRow _ _ _ _ _ (zs ++ [((⟨y.m, y.x, y.pk ++ [l]⟩ : Vd), s')]).length _
    have : (zs ++ [((⟨y.m, y.x, y.pk ++ [l]⟩ : Vd), s')]).length = zs.length + 1 := by simp
    rw [this]
    exact hset
  · rcases hat with h | h
    · rw [h] at hb
      exact hne z hz b hb e
    · rw [h] at hb
      have := rowT_lt (ha z hz) e
      cases hb
      omega

end Go.Proofs.YthcafeoamabkgaaGreatDoor

namespace Go.Proofs.YthcafeoamabkgaaGreatDoor
open Go.RowKit

/-- What ParseVendor of the reference answers. -/
def FinV (w : World) (R : List Vd × Nat × Int) (e : Ending) (w' : World) : Prop :=
  ∃ v rs, e = .returned (.tuple #[v, .int .i64 (R.2.1 : Nat), .int .i64 R.2.2]) ∧ ZRow w.heap.size w' v rs ∧ PAll w.heap.size w' rs ∧ VSort R.1 (rs.map Prod.fst) ∧ Below w.heap.size w w'
theorem fin_bad {w w' : World} {R : List Vd × Nat × Int} {n : Nat} {e0 m : Int} (h : R = ([], n, e0)) (hm : m = (n : Int)) (b : Below w.heap.size w w') : FinV w R (.returned (.tuple #[.slice none 0 0, .int .i64 m, .int .i64 e0])) w' := by
  subst h hm
  exact ⟨_, [], rfl, ⟨rfl, Or.inl ⟨rfl, rfl⟩⟩, (fun z hz => by cases hz), ⟨[], List.Perm.refl _, List.Pairwise.nil, .nil⟩, b⟩

theorem step_expl (ms : List Md) (y : Option Vd) : stepV ms y explL = if freshB y = true then (match y with | some y1 => .same ⟨y1.m, true, y1.pk⟩ | none => .bad 11) else .bad 11 := by
  have hm : modL explL = none := by decide
  unfold stepV
  rw [hm]
  cases y with
  | none => rfl
  | some y1 =>
    simp only
    by_cases h : y1.x = false ∧ y1.pk = []
    · rw [if_pos ⟨trivial, h⟩, if_pos (by unfold freshB; simp [h.1, h.2])]
    · have hf : ¬ freshB (some y1) = true := fun hf => by
        unfold freshB at hf
        simp at hf
        exact h hf
      rw [if_neg (fun h2 => h h2.2), if_neg (by decide), if_neg hf]
theorem step_bad {ms : List Md} {y : Option Vd} {l : Str} (hm : modL l = none) (hx : l ≠ explL) (h : y = none ∨ l = [] ∨ Lib.hasPrefix l [35] = true) : stepV ms y l = .bad 11 := by
  unfold stepV
  rw [hm]
  cases y with
  | none => rfl
  | some y1 =>
    simp only
    rw [if_neg (fun h2 => hx h2.1), if_neg]
    rintro ⟨h1, h2⟩
    rcases h with h | h | h
    · cases h
    · exact h1 h
    · rw [h2] at h; cases h
theorem step_pk {ms : List Md} {y1 : Vd} {l : Str} (hm : modL l = none) (hx : l ≠ explL) (h1 : l ≠ []) (h2 : Lib.hasPrefix l [35] = false) : stepV ms (some y1) l = if impE y1.m.1 y1.pk l = 0 then .same ⟨y1.m, y1.x, y1.pk ++ [l]⟩ else .bad (impE y1.m.1 y1.pk l) := by
  unfold stepV
  rw [hm]
  simp only
  rw [if_neg (fun h => hx h.1), if_pos ⟨h1, h2⟩, impE_mem (ps := y1.pk.reverse) (qs := y1.pk) (fun a => List.mem_reverse)]
theorem step_mod {ms : List Md} {y : Option Vd} {l : Str} {m : Md} (hm : modL l = some m) : stepV ms y l = if modE ms m = 0 then .new m else .bad (modE ms m) := by
  unfold stepV
  rw [hm]

theorem head_two {l : Str} (h : Lib.hasPrefix l [35, 32] = true) : Lib.hasPrefix l [35] = true ∧ l ≠ explL ∧ l ≠ [] ∧ ∃ r, l = [35, 32] ++ r := by
  obtain ⟨r, hr⟩ : ∃ r, l = [35, 32] ++ r := ⟨_, prefix_split h⟩
  subst hr
  exact ⟨by simp [Lib.hasPrefix, List.isPrefixOf], by simp [explL], by simp, r, rfl⟩
theorem mod_two {r : Str} : modL ([35, 32] ++ r) = if fullB 2 (pieces 32 r) = true then some ((pieces 32 r).getD 0 [], (pieces 32 r).getD 1 []) else none := by
  have h1 : Lib.hasPrefix ([35, 32] ++ r) [35, 32] = true := by simp [Lib.hasPrefix, List.isPrefixOf]
  have h2 : Lib.trimPrefix ([35, 32] ++ r) [35, 32] = r := by
    unfold Lib.trimPrefix
    rw [if_pos h1]
    rfl
  unfold modL
  rw [h2]
  by_cases h : fullB 2 (pieces 32 r) = true
  · rw [if_pos ⟨h1, h⟩, if_pos h]
  · rw [if_neg (fun h3 => h h3.2), if_neg h]

/-- append of one text, with where it lies. -/
theorem app_text {B : Nat} {w : World} {v : Value} {zs : List Str} {x : Str} (hz : SRow B w v zs) (hB : B ≤ w.heap.size) (hl : zs.length ≤ 1000000) :
    ∃ g c w', (Builtin.append_ #[69, 69] 69 #[v, .slice (some ⟨w.heap.size, 0, none⟩) 1 1]).run Tryz.prog (w.alloc (.cells #[.string (ba x)] 9)) = .ok (.slice (some ⟨g, 0, none⟩) (zs.length + 1) c) w' ∧ SRow B w' (.slice (some ⟨g, 0, none⟩) (zs.length + 1) c) (zs ++ [x]) ∧ (w.alloc (.cells #[.string (ba x)] 9)).grownBy w' v.ownBlock ∧ (some g = v.ownBlock ∨ some g = some (w.alloc (.cells #[.string (ba x)] 9)).heap.size) := by
  obtain ⟨i0, hi, hz0, hz1, hz2⟩ := info_parts info9s
  have hz' : SRow B (w.alloc (.cells #[.string (ba x)] 9)) v zs := World.ownsRow.alloc hz _
  have hs : B ≤ (w.alloc (.cells #[.string (ba x)] 9)).heap.size := Nat.le_trans hB ((Below.refl B w).alloc hB _).size
  obtain ⟨v', w', h1, h2, h3, _, h5⟩ := run_append_own_at (P := Tryz.prog) (w.alloc (.cells #[.string (ba x)] 9)) B 69 69 9 i0 _ 1 16 Tryz.underlying69 hi hz0 hz1 hz2 rfl (by decide) v zs.length (strsV zs) hz' ⟨w.heap.size, 0, none⟩ 1 1 (strsV [x]) (by rw [strsV_length]; rfl) ((rowS_one w x).news rfl) (strsV_one [x]) (by unfold maxLen; omega) (by omega) hs
  have hr : SRow B w' v' (zs ++ [x]) := by
    show w'.ownsRow B 9 1 v' (zs ++ [x]).length (strsV (zs ++ [x]))
    rw [List.length_append, strsV_app]
    exact h2
  obtain ⟨g, c, e, _⟩ := srow_at hr (by simp)
  have hl2 : (zs ++ [x]).length = zs.length + 1 := by simp
  rw [hl2] at e
  subst e
  exact ⟨g, c, w', h1, hr, h3, h5⟩

end Go.Proofs.YthcafeoamabkgaaGreatDoor
