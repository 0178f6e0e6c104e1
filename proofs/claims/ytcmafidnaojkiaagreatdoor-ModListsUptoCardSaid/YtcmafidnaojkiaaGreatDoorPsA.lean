/-
  The contracts of release, validRevision, validTime.
-/
import Derived.Test.YtcmafidnaojkiaaGreatDoorPathB
import Derived.Test.YtcmafidnaojkiaaGreatDoorPure5
import Derived.Test.YtcmafidnaojkiaaGreatDoorCmpD
namespace Go.Proofs.YtcmafidnaojkiaaGreatDoor
open Go.RowKit

theorem grow_below (w : World) (k : Nat) (os : Array Obj) : Below w.heap.size w (Go.Sort.grow (w.drewN k) os) := by
  refine ⟨rfl, rfl, rfl, ?_, fun j hj => ?_⟩
  · show w.heap.size ≤ (w.heap ++ os).size
    simp
  · show (w.heap ++ os)[j]? = w.heap[j]?
    rw [Array.getElem?_append_left hj]

theorem itoa_any {n : Nat} {A : Str} (hA : Lib.decDigits n = A) (h : n ≤ 9223372036854775807) {w : World} (hg : Gd w) : Gives 69 #[.int .i64 (n : Int)] w (.string (ba A)) := by
  refine (Tryz.strconv_Itoa (n : Int) (by omega) (by omega) w hg.tab).mono ?_
  rintro e w' ⟨rfl, k, os, rfl⟩
  refine ⟨?_, grow_below w k os⟩
  have : Lib.itoa (n : Int) = Lib.decDigits n := by unfold Lib.itoa; rw [if_neg (by omega)]; rfl
  rw [this, hA]; rfl

theorem ba_add (a b : Str) : ba a ++ ba b = ba (a ++ b) := by
  apply ByteArray.ext
  rw [ByteArray.data_append]
  simp [ba]
/-- Two texts joined, under a name. -/
theorem cat (a b : Str) : ∃ c, c = a ++ b ∧ ba a ++ ba b = ba c ∧ (ba c).size = c.length ∧ c.length = a.length + b.length := ⟨a ++ b, rfl, ba_add a b, ba_size _, by simp⟩

theorem decDigits_length10 {u : Nat} (h : u ≤ 1000000000) : (Lib.decDigits u).length ≤ 10 := by
  by_cases h9 : u ≤ 999999999
  · have := decDigits_length h9; omega
  · have e : u = 1000000000 := by omega
    subst e
    rw [Lib.decDigits, dif_neg (by omega), List.length_append]
    have := decDigits_length (u := 1000000000 / 10) (by decide)
    simp; omega

theorem release_any {a b c : Nat} (ha : a ≤ 1000000000) (hb : b ≤ 1000000000) (hc : c ≤ 1000000000) {w : World} (hg : Gd w) : Gives 111 #[.int .i64 (a : Int), .int .i64 (b : Int), .int .i64 (c : Int)] w (.string (ba (releaseL a b c))) := by
  unfold Gives
  have lA := decDigits_length10 ha
  have lB := decDigits_length10 hb
  have lC := decDigits_length10 hc
  have er : releaseL a b c = [118] ++ Lib.decDigits a ++ [46] ++ Lib.decDigits b ++ [46] ++ Lib.decDigits c := by simp [releaseL]
  obtain ⟨A, hA⟩ : ∃ A, Lib.decDigits a = A := ⟨_, rfl⟩
  obtain ⟨B, hB⟩ : ∃ B, Lib.decDigits b = B := ⟨_, rfl⟩
  obtain ⟨C, hC⟩ : ∃ C, Lib.decDigits c = C := ⟨_, rfl⟩
  rw [hA] at lA er; rw [hB] at lB er; rw [hC] at lC er
  obtain ⟨x1, y1, z1, u1, v1⟩ := cat [118] A
  obtain ⟨x2, y2, z2, u2, v2⟩ := cat x1 [46]
  obtain ⟨x3, y3, z3, u3, v3⟩ := cat x2 B
  obtain ⟨x4, y4, z4, u4, v4⟩ := cat x3 [46]
  obtain ⟨x5, y5, z5, u5, v5⟩ := cat x4 C
  have er : releaseL a b c = x5 := by rw [er, y5, y4, y3, y2, y1]
  rw [er]
  have qA := ba_size A
  have qB := ba_size B
  have qC := ba_size C
  have z1 : (⟨#[118]⟩ : ByteArray) ++ ba A = ba x1 := z1
  have z2 : ba x1 ++ (⟨#[46]⟩ : ByteArray) = ba x2 := z2
  have z4 : ba x3 ++ (⟨#[46]⟩ : ByteArray) = ba x4 := z4
  have HA := hide hA
  have HB := hide hB
  have HC := hide hC
  simp only [List.length_cons, List.length_nil, Nat.zero_add] at v1 v2 v4
  clear y1 y2 y3 y4 y5 hA hB hC er
  go_enter Tryz.func111, Tryz.ntmps111
  go_wp2_with (go_at_call 69; fail)
  refine (itoa_any (unhide HA) (by omega) hg).mono ?_
  rintro e w1 ⟨rfl, b1⟩
  go_wp2_with (go_at_call 69; fail)
  refine (itoa_any (unhide HB) (by omega) (hg.below b1)).mono ?_
  rintro e w2 ⟨rfl, b2⟩
  have b2' := below_trans b1 b2
  clear b1 b2
  go_wp2_with (go_at_call 69; fail)
  refine (itoa_any (unhide HC) (by omega) (hg.below b2')).mono ?_
  rintro e w3 ⟨rfl, b3⟩
  have b3' := below_trans b2' b3
  clear b2' b3
  go_wp2
  go_ret
  exact ⟨rfl, b3'⟩

theorem rev_any {r : Str} (hl : r.length ≤ 4294967281) (w : World) : Calls Tryz.prog 65 #[.string (ba r)] w fun e w' => e = .returned (.bool (revB r)) ∧ w' = w := by
  have hsz : (ba r).size = r.length := ba_size r
  by_cases h : r.length = 12
  · have HV : Hid (revB r = r.all hexB) := by show revB r = _; unfold revB; simp [h]
    have hq : (r.length : Int) = 12 := by omega
    clear h
    go_enter Tryz.func65, Tryz.ntmps65
    go_wp2_with (go_at_call 86; refine (every_any hex_asks (enters_of Tryz.func110 (by kernel_rfl) rfl) r hl _).mono ?_; rintro e w1 ⟨rfl, hw⟩; rw [hw]; clear hw w1)
    go_ret
    exact ⟨ret_bool (unhide HV).symm, rfl⟩
  · have HV : Hid (revB r = false) := by show revB r = _; unfold revB; simp [h]
    have hq : ¬ (r.length : Int) = 12 := by omega
    clear h
    go_enter Tryz.func65, Tryz.ntmps65
    go_wp2
    go_ret
    exact ⟨ret_bool (unhide HV).symm, rfl⟩

theorem time_len {t : Str} (_hl : t.length ≤ 4294967281) (h : t.length ≠ 14) (w : World) : Calls Tryz.prog 64 #[.string (ba t)] w fun e w' => e = .returned (.bool false) ∧ w' = w := by
  have hsz : (ba t).size = t.length := ba_size t
  have hq : ¬ (t.length : Int) = 14 := by omega
  clear h
  go_enter Tryz.func64, Tryz.ntmps64
  go_wp2
  go_ret
  exact ⟨rfl, rfl⟩
theorem time_digits {t : Str} (hl : t.length ≤ 4294967281) (h : t.length = 14) (hd : digitsB t = false) (w : World) : Calls Tryz.prog 64 #[.string (ba t)] w fun e w' => e = .returned (.bool false) ∧ w' = w := by
  have hsz : (ba t).size = t.length := ba_size t
  have hq : (t.length : Int) = 14 := by omega
  have HD := hide hd
  clear h hd
  go_enter Tryz.func64, Tryz.ntmps64
  go_wp2_with (go_at_call 109; refine (digits_is (unhide HD) hl _).mono ?_; rintro e w1 ⟨rfl, hw⟩; rw [hw]; clear hw w1)
  go_ret
  exact ⟨rfl, rfl⟩

theorem sub_at (t : Str) (i j : Nat) : (ba t).extract i j = ba ((t.drop i).take (j - i)) := by
  rw [Lib.extract_eq, ba_data]; rfl

def leB (a b : Str) : Bool := Op.bytesLess a b || a == b

theorem le_two {a b c d : UInt8} (ha : digitB a = true) (hb : digitB b = true) (hc : digitB c = true) (hd : digitB d = true) : leB [a, b] [c, d] = decide (numVal [a, b] ≤ numVal [c, d]) := by
  rw [digitB_iff] at ha hb hc hd
  have hlt : ∀ u v : UInt8, u < v ↔ u.toNat < v.toNat := fun u v => UInt8.lt_iff_toNat_lt
  have heq : ∀ u v : UInt8, u = v ↔ u.toNat = v.toNat := fun u v => UInt8.toNat_inj.symm
  rw [Bool.eq_iff_iff, decide_eq_true_iff]
  simp only [leB, Op.bytesLess, numVal, List.foldl_cons, List.foldl_nil, Bool.or_eq_true, Bool.and_eq_true, decide_eq_true_eq, beq_iff_eq, List.cons.injEq, and_true, Bool.and_false, Bool.or_false, hlt, heq]
  omega

/-- Two digits. -/
def Two (s : Str) : Prop := s.length = 2 ∧ s.all digitB = true
theorem le_list {x y : Str} (hx : Two x) (hy : Two y) : leB x y = decide (numVal x ≤ numVal y) := by
  obtain ⟨lx, dx⟩ := hx
  obtain ⟨ly, dy⟩ := hy
  match x, y, lx, ly with
  | [a, b], [c, d], _, _ =>
    simp only [List.all_cons, List.all_nil, Bool.and_true, Bool.and_eq_true] at dx dy
    exact le_two dx.1 dx.2 dy.1 dy.2
theorem two_sub {t : Str} (hl : t.length = 14) (hd : t.all digitB = true) (i : Nat) (hi : i + 2 ≤ 14) : Two ((t.drop i).take 2) := by
  refine ⟨by simp; omega, ?_⟩
  rw [List.all_eq_true] at hd ⊢
  intro c hc
  exact hd c (List.mem_of_mem_drop (List.mem_of_mem_take hc))

set_option maxHeartbeats 1000000 in
theorem time_at {t m d h n s : Str} {B1 B2 B3 B4 B5 B6 B7 : Bool} (hl : t.length = 14) (hd : digitsB t = true) (em : (ba t).extract 4 6 = ba m) (ed : (ba t).extract 6 8 = ba d) (eh : (ba t).extract 8 10 = ba h) (en : (ba t).extract 10 12 = ba n) (es : (ba t).extract 12 14 = ba s)
    (b1 : (Op.bytesLess [48, 49] (ba m).toList || [48, 49] == (ba m).toList) = B1) (b2 : (Op.bytesLess (ba m).toList [49, 50] || (ba m).toList == [49, 50]) = B2) (b3 : (Op.bytesLess [48, 49] (ba d).toList || [48, 49] == (ba d).toList) = B3) (b4 : (Op.bytesLess (ba d).toList [51, 49] || (ba d).toList == [51, 49]) = B4)
    (b5 : (Op.bytesLess (ba h).toList [50, 51] || (ba h).toList == [50, 51]) = B5) (b6 : (Op.bytesLess (ba n).toList [53, 57] || (ba n).toList == [53, 57]) = B6) (b7 : (Op.bytesLess (ba s).toList [53, 57] || (ba s).toList == [53, 57]) = B7) (w : World) :
    Calls Tryz.prog 64 #[.string (ba t)] w fun e w' => e = .returned (.bool (B1 && B2 && B3 && B4 && B5 && B6 && B7)) ∧ Below w.heap.size w w' := by
  have hsz : (ba t).size = 14 := by rw [ba_size]; exact hl
  have HD := hide hd
  clear hd
  go_enter Tryz.func64, Tryz.ntmps64
  go_wp2_with (go_at_call 109; refine (digits_is (unhide HD) (by omega) _).mono ?_; rintro e w1 ⟨rfl, hw⟩; rw [hw]; clear hw w1)
  go_quiet (fail)
  go_wp2
  go_quiet (fail)
  clear em ed eh en es
  go_wp2
  all_goals
    go_ret
    refine ⟨ret_bool ?_, below_drewN (Below.refl _ _) _⟩
    clear b1 b2 b3 b4 b5 b6 b7
    simp_all

theorem time_any {t : Str} (hl : t.length ≤ 4294967281) (w : World) : Gives 64 #[.string (ba t)] w (.bool (timeB t)) := by
  unfold Gives
  by_cases h14 : t.length = 14
  · cases hd : digitsB t with
    | false =>
      have e : timeB t = false := by unfold timeB; rw [hd]; simp
      rw [e]
      refine (time_digits hl h14 hd w).mono ?_
      rintro e w' ⟨rfl, rfl⟩
      exact ⟨rfl, Below.refl _ _⟩
    | true =>
      have hall : t.all digitB = true := by simp only [digitsB, Bool.and_eq_true] at hd; exact hd.2
      have tm := two_sub h14 hall 4 (by omega)
      have td := two_sub h14 hall 6 (by omega)
      have th := two_sub h14 hall 8 (by omega)
      have tn := two_sub h14 hall 10 (by omega)
      have ts := two_sub h14 hall 12 (by omega)
      have l1 : Two [48, 49] := ⟨rfl, by decide⟩
      have l2 : Two [49, 50] := ⟨rfl, by decide⟩
      have l3 : Two [51, 49] := ⟨rfl, by decide⟩
      have l4 : Two [50, 51] := ⟨rfl, by decide⟩
      have l5 : Two [53, 57] := ⟨rfl, by decide⟩
      have h := time_at (w := w) h14 hd (sub_at t 4 6) (sub_at t 6 8) (sub_at t 8 10) (sub_at t 10 12) (sub_at t 12 14)
        (B1 := leB [48, 49] ((t.drop 4).take 2)) (B2 := leB ((t.drop 4).take 2) [49, 50]) (B3 := leB [48, 49] ((t.drop 6).take 2)) (B4 := leB ((t.drop 6).take 2) [51, 49])
        (B5 := leB ((t.drop 8).take 2) [50, 51]) (B6 := leB ((t.drop 10).take 2) [53, 57]) (B7 := leB ((t.drop 12).take 2) [53, 57])
        (by rw [ba_list]; rfl) (by rw [ba_list]; rfl) (by rw [ba_list]; rfl) (by rw [ba_list]; rfl) (by rw [ba_list]; rfl) (by rw [ba_list]; rfl) (by rw [ba_list]; rfl)
      rw [le_list l1 tm, le_list tm l2, le_list l1 td, le_list td l3, le_list th l4, le_list tn l5, le_list ts l5] at h
      have e : timeB t = (decide (numVal [48, 49] ≤ numVal ((t.drop 4).take 2)) && decide (numVal ((t.drop 4).take 2) ≤ numVal [49, 50]) && decide (numVal [48, 49] ≤ numVal ((t.drop 6).take 2)) && decide (numVal ((t.drop 6).take 2) ≤ numVal [51, 49]) && decide (numVal ((t.drop 8).take 2) ≤ numVal [50, 51]) && decide (numVal ((t.drop 10).take 2) ≤ numVal [53, 57]) && decide (numVal ((t.drop 12).take 2) ≤ numVal [53, 57])) := by
        unfold timeB betw
        rw [hd, h14]
        have e1 : numVal [48, 49] = 1 := by decide
        have e2 : numVal [49, 50] = 12 := by decide
        have e3 : numVal [51, 49] = 31 := by decide
        have e4 : numVal [50, 51] = 23 := by decide
        have e5 : numVal [53, 57] = 59 := by decide
        rw [e1, e2, e3, e4, e5]
        simp [Bool.and_assoc]
      rw [e]
      exact h
  · have e : timeB t = false := by unfold timeB; simp [h14]
    rw [e]
    refine (time_len hl h14 w).mono ?_
    rintro e w' ⟨rfl, rfl⟩
    exact ⟨rfl, Below.refl _ _⟩

end Go.Proofs.YtcmafidnaojkiaaGreatDoor
