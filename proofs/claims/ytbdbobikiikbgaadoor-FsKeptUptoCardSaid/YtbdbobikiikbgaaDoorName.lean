/-
  The contracts of validElement, Valid, Dir.
-/
import Derived.Test.YtbdbobikiikbgaaDoorBase
import Derived.Test.YtbdbobikiikbgaaDoorShelf
namespace Go.Proofs.YtbdbobikiikbgaaDoor
open Go.RowKit Go.WideMaps Go.Maps

def okByte (c : UInt8) : Bool := 33 ≤ c && c ≤ 126 && c != 92
def elemB (l : List UInt8) : Bool := !l.isEmpty && l != [46] && l != [46, 46] && l.all okByte

theorem toList_data (s : ByteArray) : s.toList = s.data.toList := by
  obtain ⟨⟨l⟩⟩ := s
  exact ByteArray.toList_mk l

theorem okByte_no1 {c : UInt8} (h : (c.toNat : Int) < 33) : okByte c = false := by
  have : ¬ (33 ≤ c) := by rw [UInt8.le_iff_toNat_le]; simp; omega
  simp [okByte, this]
theorem okByte_no2 {c : UInt8} (h : 126 < (c.toNat : Int)) : okByte c = false := by
  have : ¬ (c ≤ 126) := by rw [UInt8.le_iff_toNat_le]; simp; omega
  simp [okByte, this]
theorem okByte_no3 {c : UInt8} (h : (c.toNat : Int) = 92) : okByte c = false := by
  have : c = 92 := by apply UInt8.toNat_inj.1; simp; omega
  simp [okByte, this]
theorem okByte_yes {c : UInt8} (h1 : 33 ≤ (c.toNat : Int)) (h2 : (c.toNat : Int) ≤ 126) (h3 : ¬ (c.toNat : Int) = 92) : okByte c = true := by
  have a : 33 ≤ c := by rw [UInt8.le_iff_toNat_le]; simp; omega
  have b : c ≤ 126 := by rw [UInt8.le_iff_toNat_le]; simp; omega
  have d : c ≠ 92 := by intro e; subst e; simp at h3
  simp [okByte, a, b, d]

theorem elem_no {l : List UInt8} (k : Nat) (h : k < l.length) (hc : okByte l[k] = false) : elemB l = false := by
  unfold elemB
  have : l.all okByte = false := by
    rw [List.all_eq_false]; exact ⟨l[k], List.getElem_mem h, by simp [hc]⟩
  simp [this]

theorem way_bad {n : Int} (h1 : 33 ≤ n) (h2 : n ≤ 126) (h : (n < 33 ∨ 126 < n) ∨ (n == 92) = true) : n = 92 := by
  rcases h with (h | h) | h
  · omega
  · omega
  · simpa using h
theorem way_good {n : Int} (h : (33 ≤ n ∧ n ≤ 126) ∧ (n == 92) = false) : ¬ n = 92 := by simpa using h.2
theorem ret_bool {a b : Bool} (h : a = b) : Ending.returned (.bool a) = .returned (.bool b) := by rw [h]

set_option maxHeartbeats 400000 in
theorem elem_loop (s : ByteArray) (w : World) (hs : s.size ≤ maxLen) (h0 : s.toList.isEmpty = false) (h1 : (s.toList == [46]) = false) (h2 : (s.toList == [46, 46]) = false) :
    Calls Tryd.prog 35 #[.string s] w fun e w' => e = .returned (.bool (elemB s.data.toList)) ∧ w' = w := by
  have HE : Hid (∀ b : Bool, (s.data.toList.all okByte) = b → elemB s.data.toList = b) := by
    intro b hb
    rw [toList_data] at h0 h1 h2
    unfold elemB
    simp [h0, h1, h2, hb, bne]
  unfold maxLen at hs
  go_enter Tryd.func35, Tryd.ntmps35
  go_wp2
  go_loop [17] (fun i => ∃ k : Nat, k ≤ s.size ∧ i = .int .i64 k ∧ ∀ j (hj : j < s.data.toList.length), j < k → okByte s.data.toList[j] = true) (fun i => s.size - (intOf i).toNat)
  case atStart => exact ⟨0, Nat.zero_le _, rfl, fun _ _ h => by omega⟩
  case round =>
    obtain ⟨k, hk, rfl, hall⟩ := hrel
    have HA : Hid (∀ j (hj : j < s.data.toList.length), j < k → okByte s.data.toList[j] = true) := hall
    clear hall
    by_cases hlt : k < s.size
    · have hkl : k < s.data.toList.length := by simp; exact hlt
      have HN : Hid (okByte s[k] = false → elemB s.data.toList = false) := fun h => elem_no k hkl h
      have HY : Hid (okByte s[k] = true → ∀ j (hj : j < s.data.toList.length), j < k + 1 → okByte s.data.toList[j] = true) := by
        intro h j hj hjk
        by_cases e : j < k
        · exact HA.out j hj e
        · have : j = k := by omega
          subst this; exact h
      go_wp2
      · go_ret
        exact ⟨ret_bool (HN.out (okByte_no3 (way_bad (by assumption) (by assumption) (by assumption)))).symm, rfl⟩
      · go_round
        case rel => exact ⟨k + 1, by omega, by go_num, HY.out (okByte_yes (by assumption) (by assumption) (way_good (by assumption)))⟩
        case measure => simp [intOf]; omega
      · go_ret
        exact ⟨ret_bool (HN.out (okByte_no2 (by assumption))).symm, rfl⟩
      · go_ret
        exact ⟨ret_bool (HN.out (okByte_no1 (by assumption))).symm, rfl⟩
    · go_wp2
      go_ret
      refine ⟨ret_bool (HE.out true ?_).symm, rfl⟩
      rw [List.all_eq_true]
      intro c hc
      obtain ⟨j, hj, rfl⟩ := List.mem_iff_getElem.1 hc
      exact HA.out j hj (by simp at hj; have : s.data.size = s.size := rfl; omega)

set_option maxHeartbeats 400000 in
theorem elem_any (s : ByteArray) (w : World) (hs : s.size ≤ maxLen) :
    Calls Tryd.prog 35 #[.string s] w fun e w' => e = .returned (.bool (elemB s.data.toList)) ∧ w' = w := by
  by_cases h0 : s.toList = []
  · have e0 : s.toList.isEmpty = true := by simp [h0]
    have HE : Hid (elemB s.data.toList = false) := by rw [toList_data] at h0; show elemB _ = false; rw [h0]; rfl
    clear h0
    go_enter Tryd.func35, Tryd.ntmps35
    go_wp2
    go_ret
    exact ⟨ret_bool HE.out.symm, rfl⟩
  have e0 : s.toList.isEmpty = false := by simp [h0]
  by_cases h1 : s.toList = [46]
  · have e1 : (s.toList == [46]) = true := by simp [h1]
    have HE : Hid (elemB s.data.toList = false) := by rw [toList_data] at h1; show elemB _ = false; rw [h1]; rfl
    clear h0 h1
    go_enter Tryd.func35, Tryd.ntmps35
    go_wp2
    go_ret
    exact ⟨ret_bool HE.out.symm, rfl⟩
  have e1 : (s.toList == [46]) = false := by simp [h1]
  by_cases h2 : s.toList = [46, 46]
  · have e2 : (s.toList == [46, 46]) = true := by simp [h2]
    have HE : Hid (elemB s.data.toList = false) := by rw [toList_data] at h2; show elemB _ = false; rw [h2]; rfl
    clear h0 h1 h2
    go_enter Tryd.func35, Tryd.ntmps35
    go_wp2
    go_ret
    exact ⟨ret_bool HE.out.symm, rfl⟩
  have e2 : (s.toList == [46, 46]) = false := by simp [h2]
  exact elem_loop s w hs e0 e1 e2

def slashB : ByteArray := ⟨#[47]⟩
def partsB (s : ByteArray) : List ByteArray := Lib.splitB slashB 0 (Lib.countB s slashB) s
def validB (s : ByteArray) : Bool := s.size ≤ 240 && (partsB s).all fun p => elemB p.data.toList

theorem extract_size_le (s : ByteArray) (a b : Nat) : (s.extract a b).size ≤ s.size := by
  simp [ByteArray.size_extract]; omega

theorem splitB_sizes (sep : ByteArray) : ∀ (k : Nat) (s : ByteArray), ∀ p ∈ Lib.splitB sep 0 k s, p.size ≤ s.size
  | 0, s => by intro p hp; simp [Lib.splitB] at hp; subst hp; exact Nat.le_refl _
  | k + 1, s => by
    intro p hp
    unfold Lib.splitB at hp
    split at hp
    · simp at hp; subst hp; exact Nat.le_refl _
    · simp only [List.mem_cons] at hp
      rcases hp with rfl | hp
      · exact extract_size_le _ _ _
      · exact Nat.le_trans (splitB_sizes sep k _ p hp) (extract_size_le _ _ _)

theorem parts_length (s : ByteArray) : (partsB s).length = Lib.countB s slashB + 1 := Lib.splitB_all slashB (by decide) 0 _ s rfl
theorem parts_size (s : ByteArray) (p : ByteArray) (h : p ∈ partsB s) : p.size ≤ s.size := splitB_sizes _ _ _ p h

theorem valid_long (s : ByteArray) (w : World) (h : 240 < s.size) (hs : s.size ≤ maxLen) :
    Calls Tryd.prog 11 #[.string s] w fun e w' => e = .returned (.bool (validB s)) ∧ Below w.heap.size w w' := by
  have HE : Hid (validB s = false) := by simp [Hid, validB]; omega
  unfold maxLen at hs
  go_enter Tryd.func11, Tryd.ntmps11
  go_wp2_with fail
  go_ret
  exact ⟨ret_bool HE.out.symm, Below.refl _ _⟩

theorem split_slash (s : ByteArray) (w : World) (m : Int) (hs : s.size < 4294967281) (hm : w.cell? ⟨0, 0, none⟩ = some (.int .i64 m)) (L : Nat) (hL : L = (partsB s).length) (Pf : Nat → ByteArray) (hP : ∀ k, Pf k = (partsB s).getD k ByteArray.empty) :
    Calls Tryd.prog 34 #[.string s, .string ⟨#[47]⟩] w fun e w' => e = .returned (.slice (some ⟨w.heap.size, 0, none⟩) L L) ∧ (∀ k, k < L → w'.cell? ⟨w.heap.size, k, none⟩ = some (.string (Pf k))) ∧ Below w.heap.size w w' := by
  refine (Tryd.strings_Split s ⟨#[47]⟩ m w hs hm (by decide)).mono ?_
  rintro e w' ⟨rfl, rfl⟩
  have hlen := parts_length s
  refine ⟨by rw [hL, hlen]; rfl, fun k hk => ?_, (Below.refl _ _).alloc (Nat.le_refl _) _⟩
  have hk' : k < (partsB s).length := by omega
  have e1 : ((w.alloc (.cells ((partsB s).map Value.string).toArray 9)).heap)[w.heap.size]? = some (.cells ((partsB s).map Value.string).toArray 9) := (MapKept.heap_alloc w _).1
  show (w.alloc (.cells ((partsB s).map Value.string).toArray 9)).cell? _ = _
  simp only [World.cell?, e1]
  simp [hk', hP]

set_option maxHeartbeats 400000 in
theorem valid_short (s : ByteArray) (w : World) (m : Int) (h : s.size ≤ 240) (hm : w.cell? ⟨0, 0, none⟩ = some (.int .i64 m)) :
    Calls Tryd.prog 11 #[.string s] w fun e w' => e = .returned (.bool (validB s)) ∧ Below w.heap.size w w' := by
  obtain ⟨L, hL⟩ : ∃ L, L = (partsB s).length := ⟨_, rfl⟩
  obtain ⟨Pf, hP⟩ : ∃ Pf : Nat → ByteArray, ∀ k, Pf k = (partsB s).getD k ByteArray.empty := ⟨_, fun _ => rfl⟩
  have hL2 : L ≤ 241 := by
    have := Lib.countB_le slashB (by decide) s.size s (Nat.le_refl _)
    have := parts_length s; omega
  have hsz : ∀ k, (Pf k).size ≤ 240 := by
    intro k; rw [hP]
    by_cases hk : k < (partsB s).length
    · have := parts_size s (partsB s)[k] (List.getElem_mem hk)
      simp [hk]; omega
    · simp [hk]
  have HY : Hid ((∀ k, k < L → elemB (Pf k).data.toList = true) → validB s = true) := by
    intro hall
    simp only [validB, h, decide_true, Bool.true_and, List.all_eq_true]
    intro p hp
    obtain ⟨j, hj, rfl⟩ := List.mem_iff_getElem.1 hp
    have := hall j (by omega)
    rw [hP] at this; simpa [hj] using this
  have HN : Hid (∀ k, k < L → elemB (Pf k).data.toList = false → validB s = false) := by
    intro k hk hb
    have hk' : k < (partsB s).length := by omega
    simp only [validB, h, decide_true, Bool.true_and, List.all_eq_false]
    refine ⟨(partsB s)[k], List.getElem_mem hk', ?_⟩
    rw [hP] at hb; simpa [hk'] using hb
  have hc := split_slash s w m (by omega) hm L hL Pf hP
  have HC := hide hc
  clear hc hP hL
  go_enter Tryd.func11, Tryd.ntmps11
  go_wp2_with (go_at_call 34; refine (unhide HC).mono ?_; rintro e w1 ⟨rfl, hcell, hb⟩)
  go_loop [11] (fun i => ∃ k : Nat, k ≤ L ∧ i = .int .i64 k ∧ ∀ j, j < k → elemB (Pf j).data.toList = true) (fun i => L - (intOf i).toNat)
  case atStart => exact ⟨0, Nat.zero_le _, rfl, fun _ h => by omega⟩
  case round =>
    obtain ⟨k, hk, rfl, hall⟩ := hrel
    have HA := hide hall
    clear hall
    by_cases hlt : k < L
    · have hck := hcell k hlt
      have hpz := hsz k
      have HCL := hide hcell
      clear hcell
      obtain ⟨p, hp⟩ : ∃ p, p = Pf k := ⟨_, rfl⟩
      rw [← hp] at hck hpz
      have HP := hide hp
      clear hp
      cases hb2 : elemB p.data.toList
      · go_wp2_with (go_at_call 35; refine (elem_any p _ (by unfold maxLen; omega)).mono ?_; rintro e w2 ⟨rfl, rfl⟩)
        go_ret
        exact ⟨ret_bool (HN.out k hlt (by rw [← unhide HP]; exact hb2)).symm, hb⟩
      · go_wp2_with (go_at_call 35; refine (elem_any p _ (by unfold maxLen; omega)).mono ?_; rintro e w2 ⟨rfl, rfl⟩)
        go_round
        case rel =>
          refine ⟨k + 1, by omega, by go_num, fun j hj => ?_⟩
          by_cases e : j < k
          · exact (unhide HA) j e
          · have : j = k := by omega
            rw [this, ← unhide HP]; exact hb2
        case measure => simp [intOf]; omega
    · have hkL : k = L := by omega
      have HK := hide hkL
      clear hkL
      go_wp2_with fail
      go_ret
      exact ⟨ret_bool (HY.out (by rw [← unhide HK]; exact unhide HA)).symm, hb⟩

theorem valid_any (s : ByteArray) (w : World) (m : Int) (hs : s.size ≤ maxLen) (hm : w.cell? ⟨0, 0, none⟩ = some (.int .i64 m)) :
    Calls Tryd.prog 11 #[.string s] w fun e w' => e = .returned (.bool (validB s)) ∧ Below w.heap.size w w' := by
  by_cases h : s.size ≤ 240
  · exact valid_short s w m h hm
  · exact valid_long s w (by omega) hs

/- Dir: what stands ahead of the last slash. -/
def dirB (s : ByteArray) : ByteArray := if Lib.lastIndexByte s 47 < 0 then ByteArray.empty else s.extract 0 (Lib.lastIndexByte s 47).toNat

theorem last_le (s : ByteArray) : Lib.lastIndexByte s 47 = -1 ∨ ∃ i : Nat, i < s.size ∧ Lib.lastIndexByte s 47 = i := by
  rcases Lib.lastIdx_spec s 47 s.size with h | ⟨i, h, e, _⟩
  · exact Or.inl h.1
  · exact Or.inr ⟨i, h, e⟩

theorem dir_any (s : ByteArray) (w : World) (hs : s.size < 4611686018427387904) :
    Calls Tryd.prog 17 #[.string s] w fun e w' => e = .returned (.string (dirB s)) ∧ w' = w := by
  rcases last_le s with h | ⟨i, hi, h⟩
  · have HE : Hid (dirB s = ByteArray.empty) := by simp [Hid, dirB, h]
    go_enter Tryd.func17, Tryd.ntmps17
    go_wp2_with (go_at_call 47; refine (Tryd.strings_LastIndexByte _ _ (by omega) _).mono ?_; rintro e w1 ⟨rfl, rfl⟩)
    go_ret
    exact ⟨by rw [HE.out]; rfl, rfl⟩
  · have HE : Hid (dirB s = s.extract 0 i) := by
      have : ¬ ((i : Int) < 0) := by omega
      simp [Hid, dirB, h, this]
    go_enter Tryd.func17, Tryd.ntmps17
    go_wp2_with (go_at_call 47; refine (Tryd.strings_LastIndexByte _ _ (by omega) _).mono ?_; rintro e w1 ⟨rfl, rfl⟩)
    go_ret
    exact ⟨by rw [HE.out]; rfl, rfl⟩

end Go.Proofs.YtbdbobikiikbgaaDoor
