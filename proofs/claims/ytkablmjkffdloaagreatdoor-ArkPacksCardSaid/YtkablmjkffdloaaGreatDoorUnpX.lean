/-
  Files that were read, looked at one by one; the program's.
-/
import Derived.Test.YtkablmjkffdloaaGreatDoorShaX
import Derived.Test.YtkablmjkffdloaaGreatDoorPure
import Derived.Test.YtkablmjkffdloaaGreatDoorFst
import Derived.Test.YtkablmjkffdloaaGreatDoorArcQ
import Derived.Deep.RegionHeld3
import Derived.BigQuiet
import Derived.Test.YtkablmjkffdloaaGreatDoorNamE
import Derived.Test.YtkablmjkffdloaaGreatDoorRByN
namespace Go.Proofs.YtkablmjkffdloaaGreatDoor
open Go.RowKit

theorem baL_list (l : Bs) : (ba l).toList = l := by rw [Lib.toList_data, ba_data]
/-- A number, the low byte first. -/
def getN : Bs → Nat
  | [] => 0
  | c :: r => c.toNat + 256 * getN r
theorem getN_lt : ∀ l : Bs, getN l < 256 ^ l.length
  | [] => by simp [getN]
  | c :: r => by
    have := getN_lt r
    have h := u8_lt c
    simp only [getN, List.length_cons, Nat.pow_succ]
    omega
theorem getN_snoc : ∀ (l : Bs) (c : UInt8), getN (l ++ [c]) = getN l + c.toNat * 256 ^ l.length
  | [], c => by simp [getN]
  | x :: l, c => by
    simp only [List.cons_append, getN, getN_snoc l c, List.length_cons]
    rw [Nat.pow_succ, Nat.mul_add, ← Nat.add_assoc, Nat.mul_left_comm 256 c.toNat, Nat.mul_comm 256 (256 ^ l.length)]

/-- A file as it stands in an archive. -/
structure Sf where
  nm : Bs
  d : Bs
  crc : Nat
def nmN (b : Bs) : Nat := getN ((b.drop 26).take 2)
def daN (b : Bs) : Nat := getN ((b.drop 18).take 4)
def crN (b : Bs) : Nat := getN ((b.drop 14).take 4)
def sfOf (b : Bs) : Sf := ⟨(b.drop 30).take (nmN b), ((b.drop 30).drop (nmN b)).take (daN b), crN b⟩
def restOf (b : Bs) : Bs := ((b.drop 30).drop (nmN b)).drop (daN b)
/-- The heads at the front: none where the bytes end within one. -/
def headsR (b : Bs) : Option (List Sf) :=
  if b.take 4 = [80, 75, 3, 4] then
    if _h : b.length < 30 then none
    else if b.length - 30 < nmN b + daN b then none
    else (headsR (restOf b)).map fun l => sfOf b :: l
  else some []
termination_by b.length
decreasing_by
  unfold restOf
  simp only [List.length_drop]
  omega

/-- Where a slice begins that is cut. -/
def cutA (a : Option Addr) (c m : Nat) : Option Addr := if c = m then a else a.map fun x => x.add m
theorem size5 : (Tryz.prog.info? 5).map (fun i => i.size) = some 1 := by kernel_rfl
theorem slice_from {a : Option Addr} {n c m : Nat} {k : IntKind} (h : m ≤ n) (_h2 : n ≤ c) (w : World) : (Instr.slice 23 (.slice a n c) (some (.int k (m : Int))) none none).run Tryz.prog w = .ok (.slice (cutA a c m) (n - m) (c - m)) w := by
  simp [Instr.slice, Instr.sliceBounds, Instr.sliceBound, asIntOf, run_underlying Tryz.underlying23, go_sem]
  unfold cutA
  rw [if_pos h]
theorem slice_to {a : Option Addr} {n c m : Nat} {k : IntKind} (h : m ≤ n) (h2 : n ≤ c) (w : World) : (Instr.slice 23 (.slice a n c) none (some (.int k (m : Int))) none).run Tryz.prog w = .ok (.slice a m c) w := by
  simp [Instr.slice, Instr.sliceBounds, Instr.sliceBound, asIntOf, run_underlying Tryz.underlying23, go_sem]
  intro h5
  omega
theorem slice_in {a : Option Addr} {n c l m : Nat} {k : IntKind} (h : l ≤ m) (h2 : m ≤ c) (w : World) : (Instr.slice 23 (.slice a n c) (some (.int k (l : Int))) (some (.int k (m : Int))) none).run Tryz.prog w = .ok (.slice (cutA a c l) (m - l) (c - l)) w := by
  simp [Instr.slice, Instr.sliceBounds, Instr.sliceBound, asIntOf, run_underlying Tryz.underlying23, go_sem]
  unfold cutA
  rw [if_pos h2, if_pos h]
theorem cut_at {w : World} {a : Option Addr} {n c m : Nat} {xs : Bs} (hn : xs.length = n) (h2 : n ≤ c) (h : BAt w a xs) : BAt w (cutA a c m) (xs.drop m) := by
  unfold cutA
  by_cases hm : n ≤ m
  · exact ⟨Or.inl (List.drop_of_length_le (by omega))⟩
  · rw [if_neg (by omega)]
    rcases h.els with h0 | ⟨B, O, rfl, he⟩
    · rw [h0] at hn; simp at hn; omega
    · refine ⟨Or.inr ⟨B, O + m, by simp [WideShapes.add_plain], fun k hk => ?_⟩⟩
      rw [List.length_drop] at hk
      rw [Nat.add_assoc, he (m + k) (by omega)]
      simp
theorem cut_form {a : Option Addr} {c m : Nat} (h : a = none ∨ ∃ B O, a = some ⟨B, O, none⟩) : cutA a c m = none ∨ ∃ B O, cutA a c m = some ⟨B, O, none⟩ := by
  unfold cutA
  split
  · exact h
  · rcases h with rfl | ⟨B, O, rfl⟩
    · exact Or.inl rfl
    · exact Or.inr ⟨B, O + m, by simp [WideShapes.add_plain]⟩

theorem get_next {l : Bs} {i : Nat} (h : i < l.length) : getN (l.take (i + 1)) = getN (l.take i) + l[i].toNat * 2 ^ (8 * i) := by
  have e : l.take (i + 1) = l.take i ++ [l[i]] := by simp
  rw [e, getN_snoc, List.length_take, Nat.min_eq_left (Nat.le_of_lt h), Nat.pow_mul]
theorem get_or {l : Bs} {i : Nat} (h : i < l.length) : getN (l.take i) ||| l[i].toNat * 2 ^ (8 * i) = getN (l.take (i + 1)) := by
  have h1 := getN_lt (l.take i)
  rw [List.length_take, Nat.min_eq_left (Nat.le_of_lt h), show (256 : Nat) = 2 ^ 8 from rfl, ← Nat.pow_mul] at h1
  rw [get_next h, Nat.or_comm, Nat.mul_comm, Nat.add_comm]
  exact (Nat.two_pow_add_eq_or_of_lt h1 _).symm

set_option maxRecDepth 100000 in
set_option maxHeartbeats 2000000 in
theorem numberL_any {w : World} {a : Option Addr} {n c : Nat} {l : Bs} (hn : l.length = n) (h4 : n ≤ 4) (h : BAt w a l) :
    Calls Tryz.prog 133 #[.slice a n c] w fun e w' => e = .returned (.int .u32 ((getN l : Nat) : Int)) ∧ w' = w := by
  have HN := hide hn
  have HA := hide h
  obtain ⟨RES, hR⟩ : ∃ RES, getN l = RES := ⟨_, rfl⟩
  rw [hR]
  have HR := hide hR
  clear hn h hR
  go_enter Tryz.func133, Tryz.ntmps133
  go_wp2
  go_loop [3, 4, 5, 8] (fun v3 _ _ v8 => ∃ j A : Nat, j ≤ n ∧ v8 = .int .i64 (j : Int) ∧ v3 = .int .u32 (A : Int) ∧ Hid (A = getN (l.take j))) (fun _ _ _ v8 => n - (intOf v8).toNat)
  case atStart => exact ⟨0, 0, Nat.zero_le _, rfl, rfl, hide rfl⟩
  case round =>
    obtain ⟨j, A, hj, rfl, rfl, hA⟩ := hrel
    by_cases hlt : j < n
    · have hjl : j < l.length := by rw [unhide HN]; exact hlt
      obtain ⟨B, O, rfl, k1⟩ := (unhide HA).at hjl
      have hor := get_or hjl
      have hlt4 : ∀ i, i ≤ n → getN (l.take i) < 4294967296 := fun i hi => by
        have h1 := getN_lt (l.take i)
        rw [List.length_take, Nat.min_eq_left (by rw [unhide HN]; exact hi)] at h1
        have : 256 ^ i ≤ 256 ^ 4 := Nat.pow_le_pow_right (by decide) (by omega)
        exact Nat.lt_of_lt_of_le h1 this
      have hb1 := hlt4 j hj
      have hb2 := hlt4 (j + 1) hlt
      have hnx := get_next hjl
      obtain ⟨x, hx⟩ : ∃ x, l[j] = x := ⟨_, rfl⟩
      rw [hx] at k1 hor hnx
      obtain ⟨A2, hA2⟩ : ∃ A2, getN (l.take (j + 1)) = A2 := ⟨_, rfl⟩
      have hx8 := u8_lt x
      obtain ⟨q, hq⟩ : ∃ q, 8 * j = q := ⟨_, rfl⟩
      obtain ⟨sh, hsh⟩ : ∃ sh, x.toNat * 2 ^ q = sh := ⟨_, rfl⟩
      have hAe := unhide hA
      rw [← hAe, hq, hsh, hA2] at hor
      rw [← hAe] at hb1
      rw [hA2] at hb2
      rw [← hAe, hq, hsh, hA2] at hnx
      have e0 : (8 : Int) * (j : Int) = (q : Int) := by omega
      have q24 : q ≤ 24 := by omega
      have hsb : sh < 4294967296 := by omega
      have e3 : (x.toNat : Int) * 2 ^ q % 4294967296 = (sh : Int) := by
        rw [pow_int, show (x.toNat : Int) * ((2 ^ q : Nat) : Int) = ((x.toNat * 2 ^ q : Nat) : Int) by push_cast; rfl, hsh]
        omega
      have e4 : bits .or .u32 (A : Int) (sh : Int) = (A2 : Int) := by
        have := u32_or_nat A sh hb1 hsb
        rw [hor] at this
        exact this
      have HF : Hid (A2 = getN (l.take (j + 1))) := hide hA2.symm
      clear hx hor hnx hq hsh hA2 hAe hA hlt4
      go_wp2
      go_round
      case rel => exact ⟨j + 1, A2, hlt, by push_cast; rfl, rfl, HF⟩
      case measure => simp [intOf]; omega
    · have hjn : j = n := by omega
      subst hjn
      have hF : A = RES := by
        rw [unhide hA, ← unhide HR, List.take_of_length_le (by rw [unhide HN]; exact Nat.le_refl _)]
      subst hF
      clear hA
      go_wp2
      go_ret
      exact ⟨rfl, rfl⟩
end Go.Proofs.YtkablmjkffdloaaGreatDoor

namespace Go.Proofs.YtkablmjkffdloaaGreatDoor
open Go.RowKit

theorem u_row_ge {w : World} {base n sz : Nat} {e : TypeId} {v : Value} {xs : List Value} {g : Nat} (h : w.ownsRow base e sz v n xs) (hg : v.ownBlock = some g) : base ≤ g ∧ ∃ cur, w.heap[g]? = some (.cells cur e (0, 0)) := by
  rcases h.2 with ⟨rfl, _⟩ | ⟨g', cap, cur, rfl, hb, hh, _⟩
  · cases hg
  · cases hg; exact ⟨hb, cur, hh⟩
theorem u_row_keep {w w' : World} {m base sz : Nat} {e : TypeId} {v : Value} {xs : List Value} (hr : w.ownsRow base e sz v m xs) (hb : ∀ g, v.ownBlock = some g → w'.heap[g]? = w.heap[g]?) : w'.ownsRow base e sz v m xs := by
  refine ⟨hr.1, hr.2.imp id ?_⟩
  rintro ⟨g, cap, cur, rfl, h2, h3, h4⟩
  exact ⟨g, cap, cur, rfl, h2, (hb g rfl).trans h3, h4⟩
theorem u_row_low {w w' : World} {m base sz : Nat} {e : TypeId} {v : Value} {xs : List Value} (hr : w.ownsRow base e sz v m xs) (hb : Below w.heap.size w w') : w'.ownsRow base e sz v m xs :=
  u_row_keep hr fun g hg => by
    obtain ⟨_, cur, hc⟩ := u_row_ge hr hg
    exact hb.block g (Array.getElem?_eq_some_iff.1 hc).1
theorem u_row_cell {w : World} {base n sz : Nat} {e : TypeId} {xs : List Value} {g cap : Nat} (h : w.ownsRow base e sz (.slice (some ⟨g, 0, none⟩) n cap) n xs) {j : Nat} {u : Value} (hj : xs[j]? = some u) : w.cell? ⟨g, j, none⟩ = some u := by
  rcases h.2 with ⟨e, _⟩ | ⟨g', cap', cur, e, hb, hblk, hcap, hcm, hcs, hcur⟩
  · cases e
  · cases e
    rw [Lib.cell_of_heap hblk]
    rw [← hcur, List.getElem?_take] at hj
    split at hj
    · simpa using hj
    · cases hj
theorem u_conv_at {w : World} {B O n c : Nat} {l : Bs} (hn : l.length = n) (h : BAt w (some ⟨B, O, none⟩) l) : (convert 23 9 (.slice (some ⟨B, O, none⟩) n c)).run Tryz.prog w = .ok (.string (ba l)) w := by
  subst hn
  refine run_convert_bytes_back w 23 9 5 _ _ l Tryz.underlying23 Tryz.underlying5 Tryz.underlying9 (fun j hj => ?_)
  obtain ⟨B', O', e, hc⟩ := h.at hj
  cases e
  by_cases h0 : j = 0
  · subst h0
    simpa [Addr.add] using hc
  · simpa [Addr.add, h0] using hc
theorem u_in_of {w : World} {a : Option Addr} {b : Bs} {n : Nat} (hn : b.length = n) (h : BAt w a b) : Lib.BytesIn w a n (b.map fun x => (x.toNat : Int)) := fun h0 => by
  rcases h.els with e | ⟨B, O, rfl, hc⟩
  · subst e; simp at hn; omega
  · refine ⟨B, O, rfl, fun i hi => ?_⟩
    rw [hc i (by omega), List.getD_eq_getElem?_getD, List.getElem?_map, List.getElem?_eq_getElem (by omega)]
    rfl
theorem u_bytesOf_map (b : Bs) : Lib.bytesOf (b.map fun x => (x.toNat : Int)) = b := by
  unfold Lib.bytesOf
  rw [List.map_map]
  conv => rhs; rw [← List.map_id b]
  apply List.map_congr_left
  intro x _
  simp
/-- bytes.Equal. -/
theorem u_equal_any {w : World} {a a2 : Option Addr} {n c n2 c2 : Nat} {b b2 : Bs} (hn : b.length = n) (hn2 : b2.length = n2) (h : BAt w a b) (h2 : BAt w a2 b2) :
    Calls Tryz.prog 75 #[.slice a n c, .slice a2 n2 c2] w fun e w' => e = .returned (.bool (decide (b = b2))) ∧ w' = w := by
  refine (Tryz.bytes_Equal_all a a2 n c n2 c2 _ _ w (by simpa using hn) (by simpa using hn2) (u_in_of hn h) (u_in_of hn2 h2)).mono ?_
  rintro e w' ⟨rfl, rfl⟩
  refine ⟨?_, rfl⟩
  rw [u_bytesOf_map, u_bytesOf_map]
  congr 2
  rw [Bool.eq_iff_iff]; simp

theorem u_lowq {w : World} (q : Nat) : Below w.heap.size w (w.drewN q) := ⟨rfl, rfl, rfl, Nat.le_refl _, fun _ _ => rfl⟩
/-- A file as read: a name, bytes, where they lie, the sum that is said. -/
structure Sd where
  nm : Bs
  d : Bs
  a : Option Addr
  c : Nat
  crc : Nat
def sdF (x : Sd) : Sf := ⟨x.nm, x.d, x.crc⟩
def sdC : List Sd → List Value
  | [] => []
  | x :: l => .string (ba x.nm) :: .slice x.a x.d.length x.c :: .int .u32 (x.crc : Int) :: sdC l
theorem sdC_append (l m : List Sd) : sdC (l ++ m) = sdC l ++ sdC m := by
  induction l with
  | nil => rfl
  | cons x l ih => simp [sdC, ih]
theorem sdC_at : ∀ (l : List Sd) (k : Nat) (hk : k < l.length), (sdC l)[k * 3]? = some (.string (ba l[k].nm)) ∧ (sdC l)[k * 3 + 1]? = some (.slice l[k].a l[k].d.length l[k].c) ∧ (sdC l)[k * 3 + 2]? = some (.int .u32 (l[k].crc : Int))
  | [], k, hk => by simp at hk
  | x :: l, 0, _ => by simp [sdC]
  | x :: l, k + 1, hk => by
    have := sdC_at l k (by simpa using hk)
    have e1 : (k + 1) * 3 = k * 3 + 1 + 1 + 1 := by omega
    rw [e1]
    simpa [sdC] using this
abbrev DOwn (base : Nat) (w : World) (v : Value) (l : List Sd) : Prop := w.ownsRow base 181 3 v l.length (sdC l)
theorem info181 : (Tryz.prog.info? 181).map (fun i => (i.zero, i.size, i.bytes)) = some (some (.agg #[.string ⟨#[]⟩, .slice none 0 0, .int .u32 0]), 3, 48) := by kernel_rfl
/-- append of a file that was read. -/
theorem app_sd {B : Nat} {w W1 : World} {v : Value} {l : List Sd} {x : Sd} {n : Nat} (hn : x.d.length = n) (ho : DOwn B w v l) (hB : B ≤ w.heap.size) (hl : l.length ≤ 10000000) (hW : w.alloc (.cells #[.string (ba x.nm), .slice x.a n x.c, .int .u32 (x.crc : Int)] 181) = W1) :
    ∃ v' w', (Builtin.append_ #[108, 108] 108 #[v, .slice (some ⟨w.heap.size, 0, none⟩) 1 1]).run Tryz.prog W1 = .ok v' w' ∧ DOwn B w' v' (l ++ [x]) ∧ Below B w w' := by
  subst hn
  obtain ⟨i0, hi, hz0, hz1, hz2⟩ := info_parts info181
  have b1 : Below w.heap.size w W1 := by rw [← hW]; exact lowB (Below.refl _ _) _
  have hz : Blk W1 w.heap.size #[.string (ba x.nm), .slice x.a x.d.length x.c, .int .u32 (x.crc : Int)] 181 := by rw [← hW]; exact Blk.new _ _ _
  obtain ⟨v', w', r1, r2, r3, _, _⟩ := run_append_own_at (P := Tryz.prog) W1 B 108 108 181 i0 _ 3 48 Tryz.underlying108 hi hz0 hz1 hz2 rfl (by decide) v l.length (sdC l) (u_row_low ho b1) ⟨w.heap.size, 0, none⟩ 1 1 (sdC [x]) rfl (fun j u hj => by
    rw [WideShapes.add_plain, Nat.zero_add, hz.cell j]
    match j, hj with
    | 0, hj => exact hj
    | 1, hj => exact hj
    | 2, hj => exact hj
    | j + 3, hj => simp [sdC] at hj) (fun u hu => by
      simp [sdC] at hu
      rcases hu with rfl | rfl | rfl <;> rfl) (by unfold maxLen; omega) (by omega) (Nat.le_trans hB b1.size)
  refine ⟨v', w', r1, ?_, ⟨r3.os.trans b1.os, r3.tape.trans b1.tape, r3.output.trans b1.output, Nat.le_trans b1.size r3.size, fun k hk => ?_⟩⟩
  · unfold DOwn
    rw [sdC_append, List.length_append]
    exact r2
  · rw [r3.block k (Nat.lt_of_lt_of_le hk (Nat.le_trans hB b1.size)) (fun e => by
      have := (u_row_ge ho e.symm).1
      omega), b1.block k (Nat.lt_of_lt_of_le hk hB)]
theorem conv_bytes {w : World} {a : Option Addr} {n c : Nat} {l : Bs} (hn : l.length = n) (hf : a = none ∨ ∃ B O, a = some ⟨B, O, none⟩) (h : BAt w a l) : (convert 23 9 (.slice a n c)).run Tryz.prog w = .ok (.string (ba l)) w := by
  rcases hf with rfl | ⟨B, O, rfl⟩
  · rcases h.els with h0 | ⟨B, O, e, _⟩
    · subst h0
      exact run_convert_bytes_nil w 23 5 Tryz.underlying23 Tryz.underlying5 _ _ 9 Tryz.underlying9
    · cases e
  · exact u_conv_at hn h
theorem pre_any {w : World} {a a2 : Option Addr} {n c c2 : Nat} {b : Bs} (hn : b.length = n) (hc : n ≤ c) (h : BAt w a b) (h2 : BAt w a2 [80, 75, 3, 4]) :
    Calls Tryz.prog 132 #[.slice a n c, .slice a2 4 c2] w fun e w' => e = .returned (.bool (decide (b.take 4 = [80, 75, 3, 4]))) ∧ w' = w := by
  refine (Tryz.bytes_HasPrefix_all a a2 n c 4 c2 _ _ w (by simpa using hn) (by rfl) hc (u_in_of hn h) (u_in_of rfl h2)).mono ?_
  rintro e w' ⟨rfl, rfl⟩
  refine ⟨?_, rfl⟩
  rw [u_bytesOf_map, u_bytesOf_map]
  congr 2
  rw [← Lib.hasPrefix_of_take]
  by_cases h1 : b.take 4 = [80, 75, 3, 4]
  · have h3 : 4 ≤ b.length := by
      have := congrArg List.length h1
      rw [List.length_take] at this
      simp at this
      omega
    simp [h1, h3]
  · simp [h1]

theorem headsR_no {b : Bs} (h : ¬ b.take 4 = [80, 75, 3, 4]) : headsR b = some [] := by
  rw [headsR, if_neg h]
theorem headsR_cut {b : Bs} (h : b.take 4 = [80, 75, 3, 4]) (h2 : b.length < 30) : headsR b = none := by
  rw [headsR, if_pos h, dif_pos h2]
theorem headsR_short {b : Bs} (h : b.take 4 = [80, 75, 3, 4]) (h2 : ¬ b.length < 30) (h3 : b.length - 30 < nmN b + daN b) : headsR b = none := by
  rw [headsR, if_pos h, dif_neg h2, if_pos h3]
theorem headsR_next {b : Bs} (h : b.take 4 = [80, 75, 3, 4]) (h2 : ¬ b.length < 30) (h3 : ¬ b.length - 30 < nmN b + daN b) : headsR b = (headsR (restOf b)).map fun l => sfOf b :: l := by
  rw [headsR, if_pos h, dif_neg h2, if_neg h3]
def bhs (acc : List Sd) (o : Option (List Sf)) : Option (List Sf) := o.map fun q => acc.map sdF ++ q
/-- The files' bytes lie where they are said to. -/
def SdsOk (w : World) (l : List Sd) : Prop := ∀ x ∈ l, x.d.length ≤ x.c ∧ x.c ≤ 9223372036854775807 ∧ (x.a = none ∨ ∃ B O, x.a = some ⟨B, O, none⟩) ∧ BAt w x.a x.d
theorem SdsOk.low {w w' : World} {l : List Sd} (h : SdsOk w l) (b : Below w.heap.size w w') : SdsOk w' l := fun x hx => ⟨(h x hx).1, (h x hx).2.1, (h x hx).2.2.1, (h x hx).2.2.2.low b⟩
structure NumF (w : World) (a : Option Addr) (n N : Nat) : Prop where
  ex : ∃ l, l.length = n ∧ BAt w a l ∧ getN l = N
  le : n ≤ 4
theorem BAt.take2 {w : World} {a : Option Addr} {xs : Bs} (h : BAt w a xs) (m : Nat) : BAt w a (xs.take m) := by
  rcases h.els with h0 | ⟨B, O, ha, he⟩
  · exact ⟨Or.inl (by rw [h0]; simp)⟩
  · refine ⟨Or.inr ⟨B, O, ha, fun k hk => ?_⟩⟩
    have hk' : k < xs.length := by rw [List.length_take] at hk; omega
    rw [he k hk', List.getElem_take]
def lenS : Value → Nat
  | .slice _ n _ => n
  | _ => 0
/-- What the heads at the front say. -/
def RhS (base : Nat) (w0 : World) (b : Bs) (e : Ending) (w' : World) : Prop :=
  (headsR b = none ∧ e = .returned (.tuple #[.slice none 0 0, .int .i64 17])) ∨
  ∃ v acc, headsR b = some (acc.map sdF) ∧ e = .returned (.tuple #[v, .int .i64 0]) ∧ DOwn base w' v acc ∧ SdsOk w0 acc ∧ ∀ x ∈ acc, x.d.length ≤ b.length

set_option maxRecDepth 100000 in
set_option maxHeartbeats 4000000 in
theorem readHeads_any {w : World} {a : Option Addr} {n c : Nat} {b : Bs} (hn : b.length = n) (hN : n ≤ 1048576) (hc : n ≤ c) (hcm : c ≤ 9223372036854775807) (hf : a = none ∨ ∃ B O, a = some ⟨B, O, none⟩) (h : BAt w a b) :
    Calls Tryz.prog 73 #[.slice a n c] w fun e w' => RhS w.heap.size w b e w' ∧ Below w.heap.size w w' := by
  have HN := hide hn
  have HA := hide h
  have HF := hide hf
  clear hn h hf
  go_enter Tryz.func73, Tryz.ntmps73
  go_wp2
  go_loopw [0, 4, 5, 6, 7, 8, 9] (fun v0 v4 _ _ _ _ _ wr => ∃ (a' : Option Addr) (m c' : Nat) (r : Bs) (acc : List Sd), v0 = .slice a' m c' ∧ Hid (r.length = m) ∧ m ≤ c' ∧ c' ≤ 9223372036854775807 ∧ acc.length + m ≤ n ∧ Hid (a' = none ∨ ∃ B O, a' = some ⟨B, O, none⟩) ∧ Hid (BAt w a' r) ∧ Hid (DOwn w.heap.size wr v4 acc) ∧ Hid (SdsOk w acc) ∧ Hid (∀ x ∈ acc, x.d.length ≤ n) ∧ Hid (headsR b = bhs acc (headsR r)) ∧ Hid (Below w.heap.size w wr)) (fun v0 _ _ _ _ _ _ _ => lenS v0)
  case atStart => exact ⟨a, n, c, b, [], rfl, HN, hc, hcm, by simp, HF, HA, hide (World.ownsRow_nil _ _ _ _), hide (fun x hx => by cases hx), hide (fun x hx => by cases hx), hide (by unfold bhs; cases headsR b <;> simp), hide (Below.refl _ _)⟩
  case round =>
    rename World => wr
    obtain ⟨a, m, c, r, acc, rfl, hm, hmc, hcm2, hacc, hf, hat, hown, hsd, hdl, hhd, hbw⟩ := hrel
    clear hc hcm HA HF
    obtain ⟨W1, hW1, cv1, at1, b1⟩ := const_row wr [80, 75, 3, 4] #[.int .u8 80, .int .u8 75, .int .u8 3, .int .u8 4] rfl
    have cv1' : (convert 23 23 (.slice (some ⟨wr.heap.size, 0, none⟩) 4 4)).run Tryz.prog (wr.alloc (.cells #[.int .u8 80, .int .u8 75, .int .u8 3, .int .u8 4] 5)) = .ok (.slice (some ⟨wr.heap.size, 0, none⟩) 4 4) W1 := cv1
    have hbw1 := low_trans (unhide hbw) b1
    obtain ⟨mk, hmk⟩ : ∃ mk, decide (r.take 4 = [80, 75, 3, 4]) = mk := ⟨_, rfl⟩
    have KP := hide (pre_any (c := c) (c2 := 4) (unhide hm) hmc ((unhide hat).low hbw1) at1)
    rw [hmk] at KP
    have HMK := hide hmk
    have HB1 := hide hbw1
    have HO1 := hide (show DOwn _ _ _ _ from u_row_low (unhide hown) b1)
    clear cv1 at1 b1 hbw1 hmk hW1 hown
    go_wp2_with (go_at_call 132; fail)
    refine (unhide KP).mono ?_
    rintro e wn ⟨rfl, hwn⟩
    rw [hwn]
    clear hwn wn KP cv1'
    cases mk with
    | false =>
      have HZ : Hid (headsR b = some (acc.map sdF)) := hide (by
        rw [unhide hhd, headsR_no (of_decide_eq_false (unhide HMK))]
        simp [bhs])
      have HL : Hid (∀ x ∈ acc, x.d.length ≤ b.length) := hide (fun x hx => by rw [unhide HN]; exact unhide hdl x hx)
      clear HMK hhd hat hm
      go_wp2
      go_ret2
      exact ⟨Or.inr ⟨_, acc, unhide HZ, rfl, unhide HO1, unhide hsd, unhide HL⟩, unhide HB1⟩
    | true =>
      have hmark := of_decide_eq_true (unhide HMK)
      by_cases h30 : m < 30
      · have h30' : (m : Int) < 30 := by omega
        have HZ : Hid (headsR b = none) := hide (by
          rw [unhide hhd, headsR_cut hmark (by rw [unhide hm]; exact h30)]
          rfl)
        clear HMK hhd hat hm hmark
        go_wp2
        go_ret2
        exact ⟨Or.inl ⟨unhide HZ, rfl⟩, unhide HB1⟩
      have h30' : ¬ (m : Int) < 30 := by omega
      obtain ⟨CR, hCR⟩ : ∃ x, crN r = x := ⟨_, rfl⟩
      obtain ⟨DA, hDA⟩ : ∃ x, daN r = x := ⟨_, rfl⟩
      obtain ⟨NM, hNM⟩ : ∃ x, nmN r = x := ⟨_, rfl⟩
      obtain ⟨a14, ha14⟩ : ∃ x, cutA a c 14 = x := ⟨_, rfl⟩
      obtain ⟨a18, ha18⟩ : ∃ x, cutA a c 18 = x := ⟨_, rfl⟩
      obtain ⟨a26, ha26⟩ : ∃ x, cutA a c 26 = x := ⟨_, rfl⟩
      obtain ⟨a1, ha1⟩ : ∃ x, cutA a c 30 = x := ⟨_, rfl⟩
      obtain ⟨c14, hc14⟩ : ∃ x, c - 14 = x := ⟨_, rfl⟩
      obtain ⟨c18, hc18⟩ : ∃ x, c - 18 = x := ⟨_, rfl⟩
      obtain ⟨c26, hc26⟩ : ∃ x, c - 26 = x := ⟨_, rfl⟩
      obtain ⟨c1, hc1⟩ : ∃ x, c - 30 = x := ⟨_, rfl⟩
      obtain ⟨n1, hn1⟩ : ∃ x, m - 30 = x := ⟨_, rfl⟩
      have s14 : ∀ W, (Instr.slice 23 (.slice a m c) (some (.int .i64 14)) (some (.int .i64 18)) none).run Tryz.prog W = .ok (.slice a14 4 c14) W := fun W => by
        rw [← ha14, ← hc14]; exact slice_in (l := 14) (m := 18) (by omega) (by omega) W
      have s18 : ∀ W, (Instr.slice 23 (.slice a m c) (some (.int .i64 18)) (some (.int .i64 22)) none).run Tryz.prog W = .ok (.slice a18 4 c18) W := fun W => by
        rw [← ha18, ← hc18]; exact slice_in (l := 18) (m := 22) (by omega) (by omega) W
      have s26 : ∀ W, (Instr.slice 23 (.slice a m c) (some (.int .i64 26)) (some (.int .i64 28)) none).run Tryz.prog W = .ok (.slice a26 2 c26) W := fun W => by
        rw [← ha26, ← hc26]; exact slice_in (l := 26) (m := 28) (by omega) (by omega) W
      have s30 : ∀ W, (Instr.slice 23 (.slice a m c) (some (.int .i64 30)) none none).run Tryz.prog W = .ok (.slice a1 n1 c1) W := fun W => by
        rw [← ha1, ← hc1, ← hn1]; exact slice_from (m := 30) (by omega) (by omega) W
      have hlr := unhide hm
      have N14 : NumF w a14 4 CR := ⟨⟨(r.drop 14).take 4, by rw [List.length_take, List.length_drop]; omega, by rw [← ha14]; exact (cut_at hlr hmc (unhide hat)).take2 4, hCR⟩, by omega⟩
      have N18 : NumF w a18 4 DA := ⟨⟨(r.drop 18).take 4, by rw [List.length_take, List.length_drop]; omega, by rw [← ha18]; exact (cut_at hlr hmc (unhide hat)).take2 4, hDA⟩, by omega⟩
      have N26 : NumF w a26 2 NM := ⟨⟨(r.drop 26).take 2, by rw [List.length_take, List.length_drop]; omega, by rw [← ha26]; exact (cut_at hlr hmc (unhide hat)).take2 2, hNM⟩, by omega⟩
      have H1 : Hid (BAt w a1 (r.drop 30) ∧ (r.drop 30).length = n1 ∧ (a1 = none ∨ ∃ B O, a1 = some ⟨B, O, none⟩)) := hide ⟨by rw [← ha1]; exact cut_at hlr hmc (unhide hat), by rw [List.length_drop]; omega, by rw [← ha1]; exact cut_form (unhide hf)⟩
      have KN : Hid (∀ nq aX nX cX N, NumF w aX nX N → Calls Tryz.prog 133 #[.slice aX nX cX] (W1.drewN nq) fun e w' => e = .returned (.int .u32 (N : Int)) ∧ ∃ q, w' = (W1.drewN nq).drewN q) := hide (fun nq aX nX cX N hN => by
        obtain ⟨⟨l, h1, h2, h3⟩, h4⟩ := hN
        refine (numberL_any h1 h4 (h2.low (low_trans (unhide HB1) (u_lowq nq)))).mono ?_
        rintro e w' ⟨rfl, rfl⟩
        exact ⟨by rw [h3], 0, rfl⟩)
      have bCR : CR < 4294967296 := by
        rw [← hCR]
        have := getN_lt ((r.drop 14).take 4)
        rw [List.length_take, List.length_drop, Nat.min_eq_left (by omega)] at this
        exact this
      have bDA : DA < 4294967296 := by
        rw [← hDA]
        have := getN_lt ((r.drop 18).take 4)
        rw [List.length_take, List.length_drop, Nat.min_eq_left (by omega)] at this
        exact this
      have bNM : NM < 65536 := by
        rw [← hNM]
        have := getN_lt ((r.drop 26).take 2)
        rw [List.length_take, List.length_drop, Nat.min_eq_left (by omega)] at this
        exact this
      have hn1c : n1 ≤ c1 := by omega
      have hn1m : n1 + 30 = m := by omega
      have hc1m : c1 ≤ c := by omega
      obtain ⟨S, hS⟩ : ∃ S, NM + DA = S := ⟨_, rfl⟩
      have eS : (NM : Int) + (DA : Int) = (S : Int) := by omega
      have w1 : IntKind.u64.wrap (n1 : Int) = (n1 : Int) := by simp [IntKind.wrap, IntKind.bits, IntKind.signed]; omega
      have w2 : IntKind.u64.wrap (NM : Int) = (NM : Int) := by simp [IntKind.wrap, IntKind.bits, IntKind.signed]; omega
      have w3 : IntKind.u64.wrap (DA : Int) = (DA : Int) := by simp [IntKind.wrap, IntKind.bits, IntKind.signed]; omega
      have w4 : IntKind.u64.wrap (S : Int) = (S : Int) := by simp [IntKind.wrap, IntKind.bits, IntKind.signed]; omega
      have HNX : Hid (n1 < S → headsR r = none) := hide (fun hlt => headsR_short hmark (by omega) (by rw [hlr, hNM, hDA]; omega))
      have HNY : Hid (¬ n1 < S → headsR r = (headsR (restOf r)).map fun l => sfOf r :: l) := hide (fun hlt => headsR_next hmark (by omega) (by rw [hlr, hNM, hDA]; omega))
      have HE := hide (And.intro hCR (And.intro hDA hNM))
      clear hCR hDA hNM ha14 ha18 ha26 ha1 hc14 hc18 hc26 hc1 hn1 hmark HMK hlr hf hat hm
      go_wp2
      go_quiet ((go_at_call 133; exact Calls.quiet_of (unhide KN _ _ _ _ _ (by assumption))))
      clear s14 s18 s26 N14 N18 N26 KN
      obtain ⟨W2, hW2⟩ : ∃ x, W1.drewN nq = x := ⟨_, rfl⟩
      have b12 : Below W1.heap.size W1 W2 := by rw [← hW2]; exact u_lowq _
      rw [hW2]
      have HB2 := hide (low_trans (unhide HB1) b12)
      have HO2 := hide (show DOwn _ _ _ _ from u_row_low (unhide HO1) b12)
      clear hW2 b12
      by_cases hs : n1 < S
      · have hs' : (n1 : Int) < (S : Int) := by omega
        have HZ : Hid (headsR b = none) := hide (by
          rw [unhide hhd, unhide HNX hs]
          rfl)
        clear hhd HNX HNY
        go_wp2
        go_ret2
        exact ⟨Or.inl ⟨unhide HZ, rfl⟩, unhide HB2⟩
      have hs' : ¬ (n1 : Int) < (S : Int) := by omega
      obtain ⟨a2, ha2⟩ : ∃ x, cutA a1 c1 NM = x := ⟨_, rfl⟩
      obtain ⟨c2, hc2⟩ : ∃ x, c1 - NM = x := ⟨_, rfl⟩
      obtain ⟨n2, hn2⟩ : ∃ x, n1 - NM = x := ⟨_, rfl⟩
      obtain ⟨a3, ha3⟩ : ∃ x, cutA a2 c2 DA = x := ⟨_, rfl⟩
      obtain ⟨c3, hc3⟩ : ∃ x, c2 - DA = x := ⟨_, rfl⟩
      obtain ⟨n3, hn3⟩ : ∃ x, n2 - DA = x := ⟨_, rfl⟩
      have t1 : ∀ W, (Instr.slice 23 (.slice a1 n1 c1) none (some (.int .u32 (NM : Int))) none).run Tryz.prog W = .ok (.slice a1 NM c1) W := fun W => slice_to (by omega) hn1c W
      have t2 : ∀ W, (Instr.slice 23 (.slice a1 n1 c1) (some (.int .u32 (NM : Int))) none none).run Tryz.prog W = .ok (.slice a2 n2 c2) W := fun W => by
        rw [← ha2, ← hc2, ← hn2]; exact slice_from (by omega) hn1c W
      have t3 : ∀ W, (Instr.slice 23 (.slice a2 n2 c2) none (some (.int .u32 (DA : Int))) none).run Tryz.prog W = .ok (.slice a2 DA c2) W := fun W => slice_to (by omega) (by omega) W
      have t4 : ∀ W, (Instr.slice 23 (.slice a2 n2 c2) (some (.int .u32 (DA : Int))) none none).run Tryz.prog W = .ok (.slice a3 n3 c3) W := fun W => by
        rw [← ha3, ← hc3, ← hn3]; exact slice_from (by omega) (by omega) W
      obtain ⟨h1a, h1l, h1f⟩ := unhide H1
      have h2a : BAt w a2 ((r.drop 30).drop NM) := by rw [← ha2]; exact cut_at h1l hn1c h1a
      have h2f : a2 = none ∨ ∃ B O, a2 = some ⟨B, O, none⟩ := by rw [← ha2]; exact cut_form h1f
      have h2l : ((r.drop 30).drop NM).length = n2 := by rw [List.length_drop, h1l]; exact hn2
      have h3a : BAt w a3 (((r.drop 30).drop NM).drop DA) := by rw [← ha3]; exact cut_at h2l (by omega) h2a
      have h3f : a3 = none ∨ ∃ B O, a3 = some ⟨B, O, none⟩ := by rw [← ha3]; exact cut_form h2f
      have h3l : (((r.drop 30).drop NM).drop DA).length = n3 := by rw [List.length_drop, h2l]; exact hn3
      obtain ⟨nm, hnm⟩ : ∃ x, (r.drop 30).take NM = x := ⟨_, rfl⟩
      obtain ⟨d, hd⟩ : ∃ x, ((r.drop 30).drop NM).take DA = x := ⟨_, rfl⟩
      have hnml : nm.length = NM := by rw [← hnm, List.length_take, h1l]; omega
      have hdl2 : d.length = DA := by rw [← hd, List.length_take, h2l]; omega
      have KV : Hid (∀ W, Below w.heap.size w W → (convert 23 9 (.slice a1 NM c1)).run Tryz.prog W = .ok (.string (ba nm)) W) := hide (fun W hW => conv_bytes hnml h1f ((by rw [← hnm]; exact h1a.take2 NM : BAt w a1 nm).low hW))
      have HAP : Hid (∀ Wa W3, Below W2.heap.size W2 Wa → Wa.alloc (.cells #[.string (ba nm), .slice a2 DA c2, .int .u32 (CR : Int)] 181) = W3 → ∃ v' w', (Builtin.append_ #[108, 108] 108 #[u4, .slice (some ⟨Wa.heap.size, 0, none⟩) 1 1]).run Tryz.prog W3 = .ok v' w' ∧ Hid (DOwn w.heap.size w' v' (acc ++ [⟨nm, d, a2, c2, CR⟩]) ∧ Below w.heap.size w w')) := hide (fun Wa W3 hW h3 => by
        have hbw2 := low_trans (unhide HB2) hW
        obtain ⟨v', w', g1, g2, g3⟩ := app_sd (x := ⟨nm, d, a2, c2, CR⟩) hdl2 (u_row_low (unhide HO2) hW) hbw2.size (by omega) h3
        exact ⟨v', w', g1, hide ⟨g2, hbw2.trans g3⟩⟩)
      have HSD : Hid (SdsOk w (acc ++ [⟨nm, d, a2, c2, CR⟩]) ∧ ∀ x ∈ acc ++ [(⟨nm, d, a2, c2, CR⟩ : Sd)], x.d.length ≤ n) := hide ⟨fun x hx => by
        rcases List.mem_append.1 hx with h | h
        · exact unhide hsd x h
        · simp at h
          subst h
          exact ⟨by show d.length ≤ c2; omega, by show c2 ≤ 9223372036854775807; omega, h2f, by show BAt w a2 d; rw [← hd]; exact h2a.take2 DA⟩, fun x hx => by
        rcases List.mem_append.1 hx with h | h
        · exact unhide hdl x h
        · simp at h
          subst h
          show d.length ≤ n
          omega⟩
      have HHD : Hid (headsR b = bhs (acc ++ [⟨nm, d, a2, c2, CR⟩]) (headsR (((r.drop 30).drop NM).drop DA))) := hide (by
        obtain ⟨e1, e2, e3⟩ := unhide HE
        have e4 : restOf r = ((r.drop 30).drop NM).drop DA := by unfold restOf; rw [e2, e3]
        have e5 : sfOf r = sdF ⟨nm, d, a2, c2, CR⟩ := by unfold sfOf sdF; rw [e1, e2, e3, hnm, hd]
        rw [unhide hhd, unhide HNY hs, e4, e5]
        cases headsR (((r.drop 30).drop NM).drop DA) with
        | none => rfl
        | some q => simp [bhs])
      have H3 : Hid ((((r.drop 30).drop NM).drop DA).length = n3 ∧ BAt w a3 (((r.drop 30).drop NM).drop DA) ∧ (a3 = none ∨ ∃ B O, a3 = some ⟨B, O, none⟩)) := hide ⟨h3l, h3a, h3f⟩
      have hn3c : n3 ≤ c3 := by omega
      have hc3m : c3 ≤ 9223372036854775807 := by omega
      have hac3 : (acc ++ [(⟨nm, d, a2, c2, CR⟩ : Sd)]).length + n3 ≤ n := by rw [List.length_append]; simp; omega
      have hm3 : n3 < m := by omega
      obtain ⟨r3, hr3⟩ : ∃ x, ((r.drop 30).drop NM).drop DA = x := ⟨_, rfl⟩
      rw [hr3] at HHD H3
      clear ha2 hc2 hn2 ha3 hc3 hn3 h1a h1l h1f h2a h2f h2l h3a h3f h3l hnm hd hnml hdl2 hr3 H1 HE HNX HNY hhd hsd hdl hs
      go_wp2
      go_quiet (fail)
      obtain ⟨W3, hW3⟩ : ∃ x, W2.drewN nq = x := ⟨_, rfl⟩
      have b23 : Below W2.heap.size W2 W3 := by rw [← hW3]; exact u_lowq _
      rw [hW3]
      have cv3 : ∀ W, Below w.heap.size w W → (convert 23 9 (.slice a1 NM c1)).run Tryz.prog W = .ok (.string (ba nm)) W := unhide KV
      have hS : Below w.heap.size w W3 := low_trans (unhide HB2) b23
      have bal : ∀ o, Below w.heap.size w ((W3.alloc o).drew) := fun o => (lowB hS o).drew
      obtain ⟨v9, w9, happ0, hv9⟩ := unhide HAP W3.drew ((W3.alloc (.cells #[.string (ba nm), .slice a2 DA c2, .int .u32 (CR : Int)] 181)).drew) b23.drew rfl
      have happ : (Builtin.append_ #[108, 108] 108 #[u4, .slice (some ⟨W3.heap.size, 0, none⟩) 1 1]).run Tryz.prog ((W3.alloc (.cells #[.string (ba nm), .slice a2 DA c2, .int .u32 (CR : Int)] 181)).drew) = .ok v9 w9 := happ0
      have hS9 := (unhide hv9).2
      have HV9 := hide (unhide hv9)
      clear happ0 hv9 b23 HAP KV
      go_wp2
      go_region_held3 (fun wx => Below w.heap.size w wx)
        (first | assumption | exact hS | exact hS.drew | exact bal _)
        ((refine Lib.wp_append_run _ (.tmp 43) (.tmp 52) 108 108 (by rfl) u4 (.slice (some ⟨W3.heap.size, 0, none⟩) 1 1) (by kernel_rfl) (by kernel_rfl) v9 w9 happ ?_))
      all_goals
        clear happ hS bal cv3
        go_wp2
        go_roundw
        case rel => exact ⟨a3, n3, c3, r3, acc ++ [⟨nm, d, a2, c2, CR⟩], rfl, hide (unhide H3).1, hn3c, hc3m, hac3, hide (unhide H3).2.2, hide (unhide H3).2.1, hide (unhide HV9).1, hide (unhide HSD).1, hide (unhide HSD).2, HHD, hide (unhide HV9).2⟩
        case measure => simp [lenS]; omega
end Go.Proofs.YtkablmjkffdloaaGreatDoor

namespace Go.Proofs.YtkablmjkffdloaaGreatDoor
open Go.RowKit

/-- The first error of files that were read. -/
def chkE : List Bs → List Sf → Int
  | _, [] => 0
  | seen, s :: r => if nameF s.nm = false then 1 else if lowL s.nm ∈ seen then 12 else if (crcL s.d).toNat ≠ s.crc then 16 else chkE (lowL s.nm :: seen) r
def sdFl (x : Sd) : Fl := ⟨x.nm, x.a, x.d.length, x.c⟩
/-- Files that were read lie at a slice. -/
structure DRow (w : World) (a : Option Addr) (l : List Sd) : Prop where
  els : l = [] ∨ ∃ B O, a = some ⟨B, O, none⟩ ∧ ∀ k (hk : k < l.length), w.cell? ⟨B, O + k * 3, none⟩ = some (.string (ba l[k].nm)) ∧ w.cell? ⟨B, O + k * 3 + 1, none⟩ = some (.slice l[k].a l[k].d.length l[k].c) ∧ w.cell? ⟨B, O + k * 3 + 2, none⟩ = some (.int .u32 (l[k].crc : Int))
theorem DRow.low {w w' : World} {a : Option Addr} {l : List Sd} (h : DRow w a l) (hb : Below w.heap.size w w') : DRow w' a l := by
  rcases h.els with h0 | ⟨B, O, ha, he⟩
  · exact ⟨Or.inl h0⟩
  · refine ⟨Or.inr ⟨B, O, ha, fun k hk => ?_⟩⟩
    obtain ⟨h1, h2, h3⟩ := he k hk
    exact ⟨(hb.cell (lt_of_cell h1)).trans h1, (hb.cell (lt_of_cell h2)).trans h2, (hb.cell (lt_of_cell h3)).trans h3⟩
theorem DRow.get {w : World} {a : Option Addr} {l : List Sd} (h : DRow w a l) {k : Nat} (hk : k < l.length) : ∃ B O, a = some ⟨B, O, none⟩ ∧ w.cell? ⟨B, O + k * 3, none⟩ = some (.string (ba l[k].nm)) ∧ w.cell? ⟨B, O + k * 3 + 1, none⟩ = some (.slice l[k].a l[k].d.length l[k].c) ∧ w.cell? ⟨B, O + k * 3 + 2, none⟩ = some (.int .u32 (l[k].crc : Int)) := by
  rcases h.els with h0 | ⟨B, O, ha, he⟩
  · rw [h0] at hk; simp at hk
  · exact ⟨B, O, ha, he k hk⟩
theorem DOwn.at {B : Nat} {w : World} {v : Value} {l : List Sd} (h : DOwn B w v l) : ∃ a c, v = .slice a l.length c ∧ DRow w a l := by
  rcases h.2 with ⟨e, h0⟩ | ⟨g, cap, cur, e, hb, hblk, hr⟩
  · exact ⟨none, 0, by rw [e, h0], ⟨Or.inl (List.length_eq_zero_iff.1 h0)⟩⟩
  · subst e
    refine ⟨_, cap, rfl, ⟨Or.inr ⟨g, 0, rfl, fun k hk => ?_⟩⟩⟩
    obtain ⟨h1, h2, h3⟩ := sdC_at l k hk
    rw [Nat.zero_add]
    exact ⟨u_row_cell h h1, u_row_cell h h2, u_row_cell h h3⟩
theorem FRow.keep {base : Nat} {w w' : World} {v : Value} {xs : List Fl} (h : FRow base w v xs) (hk : ∀ g, v.ownBlock = some g → w'.heap[g]? = w.heap[g]?) : FRow base w' v xs := u_row_keep h hk
theorem StAt.keep {w w' : World} {M n : Nat} {ks : List Bs} (h : StAt w M n ks) (hb : w'.heap[M]? = w.heap[M]?) : StAt w' M n ks := by
  obtain ⟨D, h1, h2⟩ := h.own
  exact ⟨⟨D, ownF_same h1 hb, h2⟩⟩
/-- append of a file, laid into a block of its own: what stays. -/
theorem app_Fg {B : Nat} {w W1 : World} {v : Value} {xs : List Fl} {x : Fl} (ho : FRow B w v xs) (hB : B ≤ w.heap.size) (hl : xs.length ≤ 1000000) (hW : w.alloc (.cells #[.string (ba x.nm), .slice x.a x.n x.c] 56) = W1) :
    ∃ v' w', (Builtin.append_ #[22, 22] 22 #[v, .slice (some ⟨w.heap.size, 0, none⟩) 1 1]).run Tryz.prog W1 = .ok v' w' ∧ FRow B w' v' (xs ++ [x]) ∧ GrB w w' v v' := by
  obtain ⟨i0, hi, hz0, hz1, hz2⟩ := info_parts info56
  have b1 : Below w.heap.size w W1 := by rw [← hW]; exact lowB (Below.refl _ _) _
  have hz : Blk W1 w.heap.size #[.string (ba x.nm), .slice x.a x.n x.c] 56 := by rw [← hW]; exact Blk.new _ _ _
  obtain ⟨v', w', r1, r2, r3, _, r5⟩ := run_append_own_at (P := Tryz.prog) W1 B 22 22 56 i0 _ 2 40 Tryz.underlying22 hi hz0 hz1 hz2 rfl (by decide) v xs.length (flsV xs) (u_row_low ho b1) ⟨w.heap.size, 0, none⟩ 1 1 [.string (ba x.nm), .slice x.a x.n x.c] rfl (fun j u hj => by
    match j, hj with
    | 0, hj => simp at hj; rw [← hj]; exact hz.cell 0
    | 1, hj => simp at hj; rw [← hj]; exact hz.cell 1) (fun u hu => by simp at hu; rcases hu with rfl | rfl <;> rfl) (by unfold maxLen; omega) (by omega) (Nat.le_trans hB b1.size)
  refine ⟨v', w', r1, ?_, ⟨r3.os.trans b1.os, r3.tape.trans b1.tape, r3.output.trans b1.output, Nat.le_trans b1.size r3.size, fun k hk hne => (r3.block k (Nat.lt_of_lt_of_le hk b1.size) hne).trans (b1.block k hk), ?_⟩⟩
  · unfold FRow
    rw [flsV_append, List.length_append]
    exact r2
  · rcases r5 with e | e
    · exact Or.inl e
    · exact Or.inr ⟨_, e, b1.size⟩
def ChkR (base : Nat) (acc : List Sd) (e : Ending) (w' : World) : Prop :=
  (chkE [] (acc.map sdF) ≠ 0 ∧ e = .returned (.tuple #[.slice none 0 0, .int .i64 (chkE [] (acc.map sdF))])) ∨
  (chkE [] (acc.map sdF) = 0 ∧ ∃ v, e = .returned (.tuple #[v, .int .i64 0]) ∧ FRow base w' v (acc.map sdFl))

set_option maxRecDepth 100000 in
set_option maxHeartbeats 4000000 in
theorem checked_any {w : World} {a : Option Addr} {n c : Nat} {acc : List Sd} (hg : Ml w) (hx : acc.length = n) (hn : n ≤ 100) (hd : ∀ x ∈ acc, x.d.length ≤ 1048576) (hs : SdsOk w acc) (h : DRow w a acc) :
    Calls Tryz.prog 74 #[.slice a n c] w fun e w' => ChkR w.heap.size acc e w' ∧ Below w.heap.size w w' := by
  have KC := hide (nameCheck_any w)
  have HG := hide hg
  have HX := hide hx
  have HA := hide h
  have HS := hide hs
  have HD := hide hd
  obtain ⟨RES, hR⟩ : ∃ RES, chkE [] (acc.map sdF) = RES := ⟨_, rfl⟩
  have HR := hide hR
  clear hg hx h hs hd hR
  unfold ChkR
  rw [unhide HR]
  go_enter Tryz.func74, Tryz.ntmps74
  go_wp2_with (go_at_call 125; fail)
  refine (unhide KC).mono ?_
  rintro e w1 ⟨⟨K, M, rfl, hK, hS, hM, hKl, hKM⟩, b1⟩
  have HK := hide hK
  have HSM := hide hS
  have HB1 := hide b1
  clear hK hS b1 KC
  go_wp2
  go_loopw [5, 7, 8, 12] (fun v5 _ _ v12 wr => ∃ (i : Nat) (seen : List Bs), i ≤ n ∧ v12 = .int .i64 (i : Int) ∧ FRow w.heap.size wr v5 ((acc.take i).map sdFl) ∧ StAt wr M i seen ∧ wr.cell? ⟨K, 0, none⟩ = some (.map (some M)) ∧ Hid (v5.ownBlock ≠ some K ∧ v5.ownBlock ≠ some M) ∧ Hid (RES = chkE seen ((acc.drop i).map sdF)) ∧ Below w.heap.size w wr) (fun _ _ _ v12 _ => n - (intOf v12).toNat)
  case atStart => exact ⟨0, [], Nat.zero_le _, rfl, World.ownsRow_nil _ _ _ _, unhide HSM, unhide HK, hide ⟨by simp [Value.ownBlock], by simp [Value.ownBlock]⟩, hide (by rw [← unhide HR]; rfl), unhide HB1⟩
  case round =>
    rename World => wr
    obtain ⟨i, seen, hi, rfl, hF, hS, hK, hne, hres, hbw⟩ := hrel
    by_cases hlt : i < n
    · have hil : i < acc.length := by rw [unhide HX]; exact hlt
      have hlt' : (i : Int) < (n : Int) := by omega
      obtain ⟨B, O, rfl, g0, g1, g2⟩ := ((unhide HA).low hbw).get hil
      have hdr : acc.drop i = acc[i] :: acc.drop (i + 1) := List.drop_eq_getElem_cons hil
      have hres2 := unhide hres
      rw [hdr, List.map_cons] at hres2
      simp only [chkE] at hres2
      have hsok := unhide HS _ (List.getElem_mem hil)
      have hdl := unhide HD _ (List.getElem_mem hil)
      have htk : acc.take (i + 1) = acc.take i ++ [acc[i]] := take_sn hil
      obtain ⟨x, hxx⟩ : ∃ x, acc[i] = x := ⟨_, rfl⟩
      rw [hxx] at g0 g1 g2 hres2 hsok hdl htk
      obtain ⟨nm, d, xa, xc, cr⟩ := x
      simp only [sdF] at g0 g1 g2 hres2 hsok hdl
      obtain ⟨xn, hxn⟩ : ∃ xn, d.length = xn := ⟨_, rfl⟩
      rw [hxn] at g1
      obtain ⟨S, hS0⟩ : ∃ S, wr.heap.size = S := ⟨_, rfl⟩
      obtain ⟨W2, hW2⟩ : ∃ W2, wr.alloc (.cells #[.string (ba nm), .slice xa xn xc, .int .u32 (cr : Int)] 181) = W2 := ⟨_, rfl⟩
      have b2 : Below wr.heap.size wr W2 := by rw [← hW2]; exact lowAA (Below.refl _ _) _
      have q2 : Blk W2 S #[.string (ba nm), .slice xa xn xc, .int .u32 (cr : Int)] 181 := by rw [← hW2, ← hS0]; exact Blk.new _ _ _
      have k0 := q2.cell 0
      have hK2 : W2.cell? ⟨K, 0, none⟩ = some (.map (some M)) := (b2.cell (lt_of_cell hK)).trans hK
      have hS2 := hS.low b2
      have hg2 := (unhide HG).low (low_trans hbw b2)
      have KK := hide (nmCheck_any (l := nm) hg2 hK2 hS2 (by omega))
      have HBW := hide hbw
      have HB2 := hide (low_trans hbw b2)
      have HK2 := hide hK2
      have HW2 := hide hW2
      have HS0 := hide hS0
      have HQ2 := hide q2
      have HXN := hide hxn
      have HTK := hide htk
      have HSO := hide hsok
      have HDL : Hid (xn ≤ 1048576) := hide (by rw [← hxn]; exact hdl)
      have HF2 := hide (show FRow _ _ _ _ from u_row_low hF b2)
      have HSZ : Hid (w.heap.size ≤ W2.heap.size) := hide (low_trans hbw b2).size
      have HFM : Hid (∀ w3, ButM M W2 w3 → w3.heap[S]? = W2.heap[S]?) := hide (fun w3 hb => hb.block S (q2.lt) (by have := hS.lt; omega))
      have HFB : Hid (∀ w3, ButM M W2 w3 → FRow w.heap.size w3 u5 ((acc.take i).map sdFl)) := hide (fun w3 hb => (unhide HF2).keep fun g hg => hb.block g (by have := (u_row_ge (unhide HF2) hg).2; obtain ⟨cur, hc⟩ := this; exact (Array.getElem?_eq_some_iff.1 hc).1) (fun e => (unhide hne).2 (by rw [hg, e])))
      obtain ⟨CK, hCK⟩ : ∃ x, (crcL d).toNat = x := ⟨_, rfl⟩
      have hres3 : RES = if nameF nm = false then 1 else if lowL nm ∈ seen then 12 else if CK ≠ cr then 16 else chkE (lowL nm :: seen) ((acc.drop (i + 1)).map sdF) := by
        rw [← hCK]
        exact hres2
      have HRE := hide hres3
      clear hres3
      have HCC : Hid (∀ W, Below w.heap.size w W → Calls Tryz.prog 29 #[.slice xa xn xc] W fun e w' => e = .returned (.int .u32 (CK : Int)) ∧ w' = W) := hide (fun W hW => by
        have k := crc_any (c := xc) hxn (by omega) (hsok.2.2.2.low hW)
        rw [hCK] at k
        exact k)
      clear hdr hres hres2 hxx hS0 hW2 b2 hK2 hS2 hg2 hS hK hbw q2 hxn htk hsok hdl hF hCK
      go_wp2_with (go_at_call 170; fail)
      rw [unhide HW2, unhide HS0]
      refine (unhide KK).mono ?_
      rintro e w3 ⟨⟨E, rfl, hch⟩, hbut⟩
      have HB3 : Hid (Below w.heap.size w w3) := hide (hbut.low (unhide HB2) (unhide HSZ) hM)
      have hK3 := hbut.cell hKM (unhide HK2)
      have q3 : Blk w3 S #[.string (ba nm), .slice xa xn xc, .int .u32 (cr : Int)] 181 := (unhide HFM w3 hbut).trans (unhide HQ2)
      have hF3 := unhide HFB w3 hbut
      clear hbut KK
      rcases hch with ⟨rfl, h1⟩ | ⟨rfl, h1, h2⟩ | ⟨rfl, h1, h2, h3⟩
      · have HF : Hid (RES = 1) := hide (by rw [unhide HRE, if_pos h1])
        clear h1 hK3 q3 hF3
        go_wp2
        go_ret2
        exact ⟨Or.inl ⟨by rw [unhide HF]; decide, by rw [unhide HF]; rfl⟩, unhide HB3⟩
      · have HF : Hid (RES = 12) := hide (by rw [unhide HRE, if_neg (by rw [h1]; simp), if_pos h2])
        clear h1 h2 hK3 q3 hF3
        go_wp2
        go_ret2
        exact ⟨Or.inl ⟨by rw [unhide HF]; decide, by rw [unhide HF]; rfl⟩, unhide HB3⟩
      · have HRE2 : Hid (RES = if CK ≠ cr then 16 else chkE (lowL nm :: seen) ((acc.drop (i + 1)).map sdF)) := hide (by rw [unhide HRE, if_neg (by rw [h1]; simp), if_neg h2])
        have HS3 := hide h3
        have HK3 := hide hK3
        have HQ3 := hide q3
        have HF3 := hide hF3
        have HC : Hid (∀ nq, Calls Tryz.prog 29 #[.slice xa xn xc] (w3.drewN nq) fun e w' => e = .returned (.int .u32 (CK : Int)) ∧ ∃ m, w' = (w3.drewN nq).drewN m) := hide (fun nq => by
          refine (unhide HCC (w3.drewN nq) (low_trans (unhide HB3) (u_lowq nq))).mono ?_
          rintro e w' ⟨rfl, rfl⟩
          exact ⟨rfl, 0, rfl⟩)
        have k1 := q3.cell 1
        have k2 := q3.cell 2
        clear h1 h2 h3 hK3 q3 hF3 HRE
        by_cases hcr : CK = cr
        · subst hcr
          have cc : ((CK : Int) != (CK : Int)) = false := by simp
          have HRE3 : Hid (RES = chkE (lowL nm :: seen) ((acc.drop (i + 1)).map sdF)) := hide (by rw [unhide HRE2, if_neg (by simp)])
          clear HRE2
          go_wp2
          go_quiet ((go_at_call 29; exact Calls.quiet_of (unhide HC _)))
          obtain ⟨W4, hW4⟩ : ∃ x, w3.drewN nq = x := ⟨_, rfl⟩
          have b34 : Below w3.heap.size w3 W4 := by rw [← hW4]; exact u_lowq _
          rw [hW4]
          have q4 := (unhide HQ3).low b34
          have j0 := q4.cell 0
          have j1 := q4.cell 1
          obtain ⟨W5, hW5⟩ : ∃ W5, W4.alloc (.cells #[.string (ba nm), .slice xa xn xc] 56) = W5 := ⟨_, rfl⟩
          have hbw4 := low_trans (unhide HB3) b34
          have hF4 : FRow w.heap.size W4 u5 ((acc.take i).map sdFl) := u_row_low (unhide HF3) b34
          obtain ⟨v6, w6, happ, hr6, g6⟩ := app_Fg (x := ⟨nm, xa, xn, xc⟩) hF4 hbw4.size (by simp; omega) hW5
          have hS4 := (unhide HS3).low b34
          have hK4 : W4.cell? ⟨K, 0, none⟩ = some (.map (some M)) := (b34.cell (lt_of_cell (unhide HK3))).trans (unhide HK3)
          have hS6 : StAt w6 M (i + 1) (lowL nm :: seen) := hS4.keep (g6.block M hS4.lt (fun e => (unhide hne).2 e.symm))
          have hK6 : w6.cell? ⟨K, 0, none⟩ = some (.map (some M)) := by
            have e : w6.heap[K]? = W4.heap[K]? := g6.block K (lt_of_cell hK4) (fun e => (unhide hne).1 e.symm)
            rw [← hK4]
            unfold World.cell?
            simp only [e]
          have hb6 : Below w.heap.size w w6 := hbw4.trans (g6.low hbw4.size (fun g hg => (u_row_ge hF4 hg).1))
          have hne6 : v6.ownBlock ≠ some K ∧ v6.ownBlock ≠ some M := by
            rcases g6.own with e | ⟨g, e, hg⟩
            · rw [e]; exact unhide hne
            · rw [e]
              have h1 := lt_of_cell hK4
              have h2 := hS4.lt
              simp only at h1
              exact ⟨fun e => by cases e; omega, fun e => by cases e; omega⟩
          have HR6 : Hid (FRow w.heap.size w6 v6 ((acc.take (i + 1)).map sdFl)) := hide (by
            rw [unhide HTK, List.map_append]
            have e : [(⟨nm, d, xa, xc, CK⟩ : Sd)].map sdFl = [(⟨nm, xa, xn, xc⟩ : Fl)] := by
              show [(⟨nm, xa, d.length, xc⟩ : Fl)] = _
              rw [unhide HXN]
            rw [e]
            exact hr6)
          have HZ6 := hide (And.intro hS6 (And.intro hK6 (And.intro hb6 hne6)))
          have HW5 := hide hW5
          clear hr6 g6 hS4 hK4 hS6 hK6 hb6 hne6 hbw4 hF4 hW5 b34 hW4 q4 k1 k2 hne cc HC
          go_wp2_with (at_builtin; rw [unhide HW5]; refine Lib.wpList_append_run _ rfl (.tmp 31) (.tmp 34) 22 22 rfl _ _ rfl rfl _ _ happ ?_; clear happ)
          go_roundw
          case rel => exact ⟨i + 1, lowL nm :: seen, hlt, by push_cast; rfl, unhide HR6, (unhide HZ6).1, (unhide HZ6).2.1, hide (unhide HZ6).2.2.2, HRE3, (unhide HZ6).2.2.1⟩
          case measure => simp [intOf]; omega
        · have cc : ((CK : Int) != (cr : Int)) = true := by simp; omega
          have HRE3 : Hid (RES = 16) := hide (by rw [unhide HRE2, if_pos hcr])
          have HB4 : Hid (∀ q, Below w.heap.size w (w3.drewN q)) := hide (fun q => low_trans (unhide HB3) (u_lowq q))
          clear HRE2 hcr
          go_wp2
          go_quiet ((go_at_call 29; exact Calls.quiet_of (unhide HC _)))
          go_wp2
          go_ret2
          exact ⟨Or.inl ⟨by rw [unhide HRE3]; decide, by rw [unhide HRE3]; rfl⟩, unhide HB4 _⟩
    · have hie : i = n := by omega
      subst hie
      have HF : Hid (RES = 0) := hide (by rw [unhide hres, List.drop_of_length_le (by rw [unhide HX]; exact Nat.le_refl _)]; rfl)
      have HFF : Hid (FRow w.heap.size wr u5 (acc.map sdFl)) := hide (by rw [List.take_of_length_le (by rw [unhide HX]; exact Nat.le_refl _)] at hF; exact hF)
      have HBW := hide hbw
      clear hres hS hK hbw hF
      go_wp2
      go_ret2
      exact ⟨Or.inr ⟨unhide HF, _, rfl, unhide HFF⟩, unhide HBW⟩
end Go.Proofs.YtkablmjkffdloaaGreatDoor
