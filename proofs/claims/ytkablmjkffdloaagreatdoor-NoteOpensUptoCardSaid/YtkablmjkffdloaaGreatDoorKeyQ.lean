/-
  The line of a signature, the program's.
-/
import Derived.Test.YtkablmjkffdloaaGreatDoorNamQ
import Derived.Test.YtkablmjkffdloaaGreatDoorLeaf
import Derived.Lib.ConvBytes
import Derived.Deep.RegionHeld3
import Derived.Test.YtkablmjkffdloaaGreatDoorShelf
import Derived.Test.YtkablmjkffdloaaGreatDoorB64W
import Derived.Test.YtkablmjkffdloaaGreatDoorSumA
namespace Go.Proofs.YtkablmjkffdloaaGreatDoor
open Go.RowKit

theorem conv_s (w : World) (l : Bs) (hl : l.length ≤ 1073741824) : ∃ cap w1, (convert 9 23 (.string (ba l))).run Tryz.prog w = .ok (.slice (some ⟨w.heap.size, 0, none⟩) l.length cap) w1 ∧ BAt w1 (some ⟨w.heap.size, 0, none⟩) l ∧ l.length ≤ cap ∧ cap ≤ maxLen ∧ Below w.heap.size w w1 := by
  have hs := ba_size l
  have hr := Lib.run_convert_string_bytes (P := Tryz.prog) w 9 23 5 (ba l) Tryz.underlying9 Tryz.underlying23 Tryz.underlying5
  rw [hs] at hr
  refine ⟨_, _, hr, ⟨Or.inr ⟨_, 0, rfl, fun k hk => ?_⟩⟩, grownCap_ge _ _ _ _, grownCap_le_maxLen _ _ _ _ (by unfold maxLen; omega), ⟨rfl, rfl, rfl, ?_, fun j hj => Lib.bytesWorld_at_old _ _ _ j hj⟩⟩
  · rw [Nat.zero_add, Lib.bytesWorld_cell w 5 (ba l) k (by rw [hs]; exact hk), ba_data, List.getD_eq_getElem?_getD, List.getElem?_eq_getElem hk]
    rfl
  · rw [Lib.bytesWorld_size]
    omega
theorem sha32 (b : Bs) : (shaL b).length = 32 := by
  unfold shaL
  simp only [List.length_flatMap, be4, List.length_cons, List.length_nil]
  simp [stL]

/-- The number whose four bytes a text begins with. -/
def numU (b : Bs) : UInt32 := be32 (b.getD 0 0) (b.getD 1 0) (b.getD 2 0) (b.getD 3 0)
/-- What is hashed for a key's number. -/
def idH (nm sec : Bs) : Bs := shaL (nm ++ ([10, 1] ++ shaL sec))
def idN (nm sec : Bs) : UInt32 := numU (idH nm sec)
/-- A text's signature. -/
def sigL (sec text : Bs) : Bs := shaL ([2] ++ (shaL sec ++ text))
/-- A key, as a value. -/
def keyV (nm sec : Bs) : Value := .agg #[.string (ba nm), .string (ba sec)]

set_option maxRecDepth 100000 in
set_option maxHeartbeats 2000000 in
theorem number_any {w : World} {B O n c : Nat} {b : Bs} (hn : b.length = n) (h4 : 4 ≤ n) (hN : n ≤ 1000000000) (h : BAt w (some ⟨B, O, none⟩) b) :
    Calls Tryz.prog 153 #[.slice (some ⟨B, O, none⟩) n c] w fun e w' => e = .returned (.int .u32 ((numU b).toNat : Int)) ∧ Below w.heap.size w w' := by
  obtain ⟨x0, x1, x2, x3, t, rfl⟩ : ∃ x0 x1 x2 x3 t, b = x0 :: x1 :: x2 :: x3 :: t := by
    match b, hn with
    | [], e => simp at e; omega
    | [_], e => simp at e; omega
    | [_, _], e => simp at e; omega
    | [_, _, _], e => simp at e; omega
    | x0 :: x1 :: x2 :: x3 :: t, _ => exact ⟨x0, x1, x2, x3, t, rfl⟩
  have hc : ∀ k (hk : k < (x0 :: x1 :: x2 :: x3 :: t).length), w.cell? ⟨B, O + k, none⟩ = some (.int .u8 (((x0 :: x1 :: x2 :: x3 :: t)[k]).toNat : Int)) := fun k hk => by
    obtain ⟨B', O', e, h'⟩ := h.at hk
    cases e
    exact h'
  have c0 : w.cell? ⟨B, O, none⟩ = some (.int .u8 (x0.toNat : Int)) := hc 0 (by simp)
  have c1 : w.cell? ⟨B, O + 1, none⟩ = some (.int .u8 (x1.toNat : Int)) := hc 1 (by simp)
  have c2 : w.cell? ⟨B, O + 2, none⟩ = some (.int .u8 (x2.toNat : Int)) := hc 2 (by simp)
  have c3 : w.cell? ⟨B, O + 3, none⟩ = some (.int .u8 (x3.toNat : Int)) := hc 3 (by simp)
  have hE : numU (x0 :: x1 :: x2 :: x3 :: t) = be32 x0 x1 x2 x3 := rfl
  rw [hE, ← be32_eq]
  have i0 : (0 : Int) < (n : Int) := by omega
  have i1 : (1 : Int) < (n : Int) := by omega
  have i2 : (2 : Int) < (n : Int) := by omega
  have i3 : (3 : Int) < (n : Int) := by omega
  have l1 := u8_lt x0
  have l2 := u8_lt x1
  have l3 := u8_lt x2
  have l4 := u8_lt x3
  clear hn hc h hE
  go_enter Tryz.func153, Tryz.ntmps153
  go_wp2
  go_region
  all_goals
    go_wp2
    go_ret
    exact ⟨rfl, (Below.refl _ _).drew⟩

set_option maxRecDepth 100000 in
set_option maxHeartbeats 2000000 in
theorem secretSum_any {nm sec : Bs} (hs : sec.length ≤ 1000000) (w : World) : Calls Tryz.prog 118 #[keyV nm sec] w fun e w' => ∃ v, e = .returned v ∧ OwnB w.heap.size w' v (shaL sec) ∧ Below w.heap.size w w' := by
  obtain ⟨W1, hW1⟩ : ∃ W1, w.alloc (.cells #[.string (ba nm), .string (ba sec)] 75) = W1 := ⟨_, rfl⟩
  have b1 : Below w.heap.size w W1 := by rw [← hW1]; exact (Below.refl _ _).alloc (Nat.le_refl _) _
  have q1 : Blk W1 w.heap.size #[.string (ba nm), .string (ba sec)] 75 := by rw [← hW1]; exact Blk.new _ _ _
  have k1 : W1.cell? ⟨w.heap.size, 1, none⟩ = some (.string (ba sec)) := q1.cell 1
  obtain ⟨cap, W2, hcv, hat, hc1, hc2, b2⟩ := conv_s W1 sec (by omega)
  have HS := hide (sha_any (w := W2) rfl (by omega) hc1 (by unfold maxLen at hc2; omega) (Or.inr ⟨_, _, rfl⟩) hat)
  have HB := hide (low_trans b1 b2)
  have HW := hide hW1
  clear hat b1 b2 q1 hc1 hc2 hW1
  unfold keyV
  go_enter Tryz.func118, Tryz.ntmps118
  go_wp2_with (go_at_call 27; fail)
  rw [unhide HW, hcv]
  go_wp2_with (go_at_call 27; fail)
  refine (unhide HS).mono ?_
  rintro e w3 ⟨v3, rfl, o3, b3⟩
  have HD : Hid (OwnB w.heap.size w3 v3 (shaL sec) ∧ Below w.heap.size w w3) := hide ⟨OwnB.less (unhide HB).size o3, low_trans (unhide HB) b3⟩
  clear o3 b3 HS
  go_wp2
  go_ret
  exact ⟨_, rfl, (unhide HD).1, (unhide HD).2⟩
end Go.Proofs.YtkablmjkffdloaaGreatDoor

namespace Go.Proofs.YtkablmjkffdloaaGreatDoor
open Go.RowKit

theorem own_at0 {base : Nat} {w : World} {v : Value} {l : Bs} (h : OwnB base w v l) (hl : 1 ≤ l.length) : ∃ g cap, v = .slice (some ⟨g, 0, none⟩) l.length cap := by
  rcases h.2 with ⟨_, e⟩ | ⟨g, cap, cur, e, _⟩
  · omega
  · exact ⟨g, cap, e⟩
theorem OwnB.adr2 {B : Nat} {w : World} {v : Value} {b : Bs} (h : OwnB B w v b) (hl : b.length = 32) : ∃ g c, v = .slice (some ⟨g, 0, none⟩) 32 c ∧ BAt w (some ⟨g, 0, none⟩) b ∧ 32 ≤ c ∧ c ≤ maxLen := by
  obtain ⟨g, cap, rfl⟩ := own_at0 h (by omega)
  obtain ⟨a, c, e, hb, h1, h2⟩ := OwnB.at h
  obtain ⟨e1, e2, e3⟩ := Value.slice.inj e
  subst e3
  rw [← e1] at hb
  rw [hl] at h1 ⊢
  exact ⟨g, cap, rfl, hb, h1, h2⟩

set_option maxRecDepth 100000 in
set_option maxHeartbeats 2000000 in
theorem keySign_any {nm sec text : Bs} (hs : sec.length ≤ 1000000) (ht : text.length ≤ 1000000) (w : World) : Calls Tryz.prog 60 #[keyV nm sec, .string (ba text)] w fun e w' => ∃ v, e = .returned v ∧ OwnB w.heap.size w' v (sigL sec text) ∧ Below w.heap.size w w' := by
  obtain ⟨W1, hW1⟩ : ∃ W1, w.alloc (.cells #[.string (ba nm), .string (ba sec)] 75) = W1 := ⟨_, rfl⟩
  have b1 : Below w.heap.size w W1 := by rw [← hW1]; exact (Below.refl _ _).alloc (Nat.le_refl _) _
  have q1 : Blk W1 w.heap.size #[.string (ba nm), .string (ba sec)] 75 := by rw [← hW1]; exact Blk.new _ _ _
  have s1 : W1.heap.size = w.heap.size + 1 := by rw [← hW1]; simp
  obtain ⟨W2, hW2⟩ : ∃ W2, W1.alloc (.cells #[.int .u8 2] 5) = W2 := ⟨_, rfl⟩
  have b2 : Below W1.heap.size W1 W2 := by rw [← hW2]; exact (Below.refl _ _).alloc (Nat.le_refl _) _
  have q2 : Blk W2 (w.heap.size + 1) #[.int .u8 2] 5 := by rw [← s1, ← hW2]; exact Blk.new _ _ _
  have q12 := q1.low b2
  have k0 : W2.cell? ⟨w.heap.size, 0, none⟩ = some (.string (ba nm)) := q12.cell 0
  have k1 : W2.cell? ⟨w.heap.size, 1, none⟩ = some (.string (ba sec)) := q12.cell 1
  have at2 : BAt W2 (some ⟨w.heap.size + 1, 0, none⟩) [2] := ⟨Or.inr ⟨w.heap.size + 1, 0, rfl, fun k hk => by
    have : k = 0 := by simp at hk; exact hk
    subst this
    exact q2.cell 0⟩⟩
  have HK := hide (secretSum_any (nm := nm) hs W2)
  unfold keyV at HK
  have HW1 := hide hW1
  have HW2 := hide hW2
  have HB2 := hide (low_trans b1 b2)
  have HA2 := hide at2
  have HS1 := hide s1
  clear b1 b2 q1 q2 q12 at2 hW1 hW2 s1
  unfold keyV
  go_enter Tryz.func60, Tryz.ntmps60
  go_wp2_with (go_at_call 118; fail)
  rw [unhide HW1, unhide HW2]
  go_wp2_with (go_at_call 118; fail)
  refine (unhide HK).mono ?_
  rintro e w3 ⟨v3, rfl, o3, b3⟩
  obtain ⟨g3, c3, rfl, at3, -, -⟩ := OwnB.adr2 o3 (sha32 sec)
  obtain ⟨cap, w4, hcv, at4, -, -, b4⟩ := conv_s w3 text (by omega)
  obtain ⟨tl, htl⟩ : ∃ tl, text.length = tl := ⟨_, rfl⟩
  rw [htl] at hcv
  obtain ⟨Z, hZ⟩ : ∃ Z, w4.heap.size = Z := ⟨_, rfl⟩
  obtain ⟨W5, hW5⟩ : ∃ W5, w4.alloc (.cells #[.slice (some ⟨w.heap.size + 1, 0, none⟩) 1 1, .slice (some ⟨g3, 0, none⟩) 32 c3, .slice (some ⟨w3.heap.size, 0, none⟩) tl cap] 23) = W5 := ⟨_, rfl⟩
  have b5 : Below w4.heap.size w4 W5 := by rw [← hW5]; exact (Below.refl _ _).alloc (Nat.le_refl _) _
  have q5 : Blk W5 Z #[.slice (some ⟨w.heap.size + 1, 0, none⟩) 1 1, .slice (some ⟨g3, 0, none⟩) 32 c3, .slice (some ⟨w3.heap.size, 0, none⟩) tl cap] 23 := by rw [← hZ, ← hW5]; exact Blk.new _ _ _
  have HP : Hid (Parts W5 Z [[2], shaL sec, text]) := by
    intro k hk
    have : k = 0 ∨ k = 1 ∨ k = 2 := by simp at hk; omega
    rcases this with rfl | rfl | rfl
    · exact ⟨_, 1, q5.cell 0, (unhide HA2).low (low_trans (low_trans b3 b4) b5)⟩
    · refine ⟨_, c3, ?_, at3.low (low_trans b4 b5)⟩
      show W5.cell? _ = some (.slice _ (shaL sec).length c3)
      rw [sha32]
      exact q5.cell 1
    · refine ⟨_, cap, ?_, at4.low b5⟩
      show W5.cell? _ = some (.slice _ text.length cap)
      rw [htl]
      exact q5.cell 2
  have hfl : ([[2], shaL sec, text] : List Bs).flatten = [2] ++ (shaL sec ++ text) := by simp
  have hfn : ([[2], shaL sec, text] : List Bs).flatten.length ≤ 1073741824 := by rw [hfl]; simp [sha32]; omega
  have HC := hide (concat_any (Z := Z) (q := 3) (ps := [[2], shaL sec, text]) rfl (by decide) hfn (unhide HP))
  rw [hfl] at HC
  have HB5 := hide (low_trans (low_trans (low_trans (unhide HB2) b3) b4) b5)
  have HFN : Hid (([2] ++ (shaL sec ++ text)).length ≤ 1073741824) := hide (by rw [← hfl]; exact hfn)
  have HW5 := hide hW5
  have HZ := hide hZ
  clear o3 b3 at3 at4 b4 b5 q5 hW5 hZ hfl hfn htl HP HK
  go_wp2_with (go_at_call 117; fail)
  rw [unhide HW5, unhide HZ]
  refine (unhide HC).mono ?_
  rintro e w6 ⟨v6, rfl, o6, b6⟩
  have HO := hide (sha_own o6 (unhide HFN))
  have HB6 := hide (low_trans (unhide HB5) b6)
  clear o6 b6 HC
  go_wp2_with (go_at_call 27; fail)
  refine (unhide HO).mono ?_
  rintro e w7 ⟨v7, rfl, o7, b7⟩
  have HD : Hid (OwnB w.heap.size w7 v7 (sigL sec text) ∧ Below w.heap.size w w7) := hide ⟨OwnB.less (unhide HB6).size o7, low_trans (unhide HB6) b7⟩
  clear o7 b7 HO
  go_wp2
  go_ret
  exact ⟨_, rfl, (unhide HD).1, (unhide HD).2⟩
end Go.Proofs.YtkablmjkffdloaaGreatDoor

namespace Go.Proofs.YtkablmjkffdloaaGreatDoor
open Go.RowKit

theorem lowA {a w : World} (h : Below a.heap.size a w) (o : Obj) : Below a.heap.size a (w.alloc o) := h.alloc h.size o
theorem lowD {a w : World} (h : Below a.heap.size a w) : Below a.heap.size a w.drew := h.drew

/-- Three parts joined. -/
theorem concat3 {X : World} {Z : Nat} (hZ : Z = X.heap.size) {a0 a1 a2 : Option Addr} {n0 n1 n2 c0 c1 c2 : Nat} {p0 p1 p2 : Bs} (h0 : BAt X a0 p0) (h1 : BAt X a1 p1) (h2 : BAt X a2 p2) (e0 : p0.length = n0) (e1 : p1.length = n1) (e2 : p2.length = n2) (hl : n0 + n1 + n2 ≤ 1073741824) :
    Calls Tryz.prog 117 #[.slice (some ⟨Z, 0, none⟩) 3 3] (X.alloc (.cells #[.slice a0 n0 c0, .slice a1 n1 c1, .slice a2 n2 c2] 23)) fun e w' => ∃ v, e = .returned v ∧ OwnB X.heap.size w' v (p0 ++ (p1 ++ p2)) ∧ Below X.heap.size X w' := by
  subst hZ
  subst e0 e1 e2
  have bb : Below X.heap.size X (X.alloc (.cells #[.slice a0 p0.length c0, .slice a1 p1.length c1, .slice a2 p2.length c2] 23)) := lowA (Below.refl _ _) _
  have q := Blk.new X #[.slice a0 p0.length c0, .slice a1 p1.length c1, .slice a2 p2.length c2] 23
  have hp : Parts (X.alloc (.cells #[.slice a0 p0.length c0, .slice a1 p1.length c1, .slice a2 p2.length c2] 23)) X.heap.size [p0, p1, p2] := by
    intro k hk
    have : k = 0 ∨ k = 1 ∨ k = 2 := by simp at hk; omega
    rcases this with rfl | rfl | rfl
    · exact ⟨_, _, q.cell 0, h0.low bb⟩
    · exact ⟨_, _, q.cell 1, h1.low bb⟩
    · exact ⟨_, _, q.cell 2, h2.low bb⟩
  have hfl : ([p0, p1, p2] : List Bs).flatten = p0 ++ (p1 ++ p2) := by simp
  refine (concat_any (q := 3) (ps := [p0, p1, p2]) rfl (by decide) (by rw [hfl]; simp; omega) hp).mono ?_
  rintro e w' ⟨v, rfl, o, b⟩
  rw [hfl] at o
  exact ⟨v, rfl, OwnB.less bb.size o, low_trans bb b⟩
/-- Two parts joined. -/
theorem concat2 {X : World} {Z : Nat} (hZ : Z = X.heap.size) {a0 a1 : Option Addr} {n0 n1 c0 c1 : Nat} {p0 p1 : Bs} (h0 : BAt X a0 p0) (h1 : BAt X a1 p1) (e0 : p0.length = n0) (e1 : p1.length = n1) (hl : n0 + n1 ≤ 1073741824) :
    Calls Tryz.prog 117 #[.slice (some ⟨Z, 0, none⟩) 2 2] (X.alloc (.cells #[.slice a0 n0 c0, .slice a1 n1 c1] 23)) fun e w' => ∃ v, e = .returned v ∧ OwnB X.heap.size w' v (p0 ++ p1) ∧ Below X.heap.size X w' := by
  subst hZ
  subst e0 e1
  have bb : Below X.heap.size X (X.alloc (.cells #[.slice a0 p0.length c0, .slice a1 p1.length c1] 23)) := lowA (Below.refl _ _) _
  have q := Blk.new X #[.slice a0 p0.length c0, .slice a1 p1.length c1] 23
  have hp : Parts (X.alloc (.cells #[.slice a0 p0.length c0, .slice a1 p1.length c1] 23)) X.heap.size [p0, p1] := by
    intro k hk
    have : k = 0 ∨ k = 1 := by simp at hk; omega
    rcases this with rfl | rfl
    · exact ⟨_, _, q.cell 0, h0.low bb⟩
    · exact ⟨_, _, q.cell 1, h1.low bb⟩
  have hfl : ([p0, p1] : List Bs).flatten = p0 ++ p1 := by simp
  refine (concat_any (q := 2) (ps := [p0, p1]) rfl (by decide) (by rw [hfl]; simp; omega) hp).mono ?_
  rintro e w' ⟨v, rfl, o, b⟩
  rw [hfl] at o
  exact ⟨v, rfl, OwnB.less bb.size o, low_trans bb b⟩

theorem at_two (W : World) : BAt (W.alloc (.cells #[.int .u8 10, .int .u8 1] 5)) (some ⟨W.heap.size, 0, none⟩) [10, 1] := ⟨Or.inr ⟨_, 0, rfl, fun k hk => by
  have q := Blk.new W #[.int .u8 10, .int .u8 1] 5
  have : k = 0 ∨ k = 1 := by simp at hk; omega
  rcases this with rfl | rfl
  · exact q.cell 0
  · exact q.cell 1⟩⟩

theorem conv_f (l : Bs) : ∃ (ad cp : World → Nat) (BW : World → World), ∀ W : World, (convert 9 23 (.string (ba l))).run Tryz.prog W = .ok (.slice (some ⟨ad W, 0, none⟩) l.length (cp W)) (BW W) ∧ BAt (BW W) (some ⟨ad W, 0, none⟩) l ∧ Below W.heap.size W (BW W) := by
  have hs := ba_size l
  refine ⟨fun W => W.heap.size, fun W => grownCap W l.length 0 5, fun W => Lib.bytesWorld W 5 (ba l), fun W => ?_⟩
  have hr := Lib.run_convert_string_bytes (P := Tryz.prog) W 9 23 5 (ba l) Tryz.underlying9 Tryz.underlying23 Tryz.underlying5
  rw [hs] at hr
  refine ⟨hr, ⟨Or.inr ⟨_, 0, rfl, fun k hk => ?_⟩⟩, ⟨rfl, rfl, rfl, ?_, fun j hj => Lib.bytesWorld_at_old _ _ _ j hj⟩⟩
  · rw [Nat.zero_add, Lib.bytesWorld_cell W 5 (ba l) k (by rw [hs]; exact hk), ba_data, List.getD_eq_getElem?_getD, List.getElem?_eq_getElem hk]
    rfl
  · rw [Lib.bytesWorld_size]
    omega

theorem key_low {A : Nat} {x y : Value} {w w' : World} (h : w.cell? ⟨A, 0, none⟩ = some x ∧ w.cell? ⟨A, 1, none⟩ = some y) (b : Below w.heap.size w w') : w'.cell? ⟨A, 0, none⟩ = some x ∧ w'.cell? ⟨A, 1, none⟩ = some y :=
  ⟨(b.cell (lt_of_cell h.1)).trans h.1, (b.cell (lt_of_cell h.2)).trans h.2⟩

set_option maxRecDepth 100000 in
set_option maxHeartbeats 4000000 in
theorem keyID_any {nm sec : Bs} (hs : sec.length ≤ 1000000) (hn : nm.length ≤ 1000000) (w : World) : Calls Tryz.prog 104 #[keyV nm sec] w fun e w' => e = .returned (.int .u32 ((idN nm sec).toNat : Int)) ∧ Below w.heap.size w w' := by
  obtain ⟨W1, hW1⟩ : ∃ W1, w.alloc (.cells #[.string (ba nm), .string (ba sec)] 75) = W1 := ⟨_, rfl⟩
  have b1 : Below w.heap.size w W1 := by rw [← hW1]; exact (Below.refl _ _).alloc (Nat.le_refl _) _
  have q1 : Blk W1 w.heap.size #[.string (ba nm), .string (ba sec)] 75 := by rw [← hW1]; exact Blk.new _ _ _
  have k0 : W1.cell? ⟨w.heap.size, 0, none⟩ = some (.string (ba nm)) := q1.cell 0
  have k1 : W1.cell? ⟨w.heap.size, 1, none⟩ = some (.string (ba sec)) := q1.cell 1
  have HK := hide (fun W => secretSum_any (nm := nm) hs W)
  unfold keyV at HK
  obtain ⟨ad, cp, BW, hC⟩ := conv_f nm
  obtain ⟨nl, hnl⟩ : ∃ nl, nm.length = nl := ⟨_, rfl⟩
  rw [hnl] at hC
  have hcv : ∀ W : World, (convert 9 23 (.string (ba nm))).run Tryz.prog W = .ok (.slice (some ⟨ad W, 0, none⟩) nl (cp W)) (BW W) := fun W => (hC W).1
  have HCA : Hid (∀ W : World, BAt (BW W) (some ⟨ad W, 0, none⟩) nm) := hide (fun W => (hC W).2.1)
  have HCB : Hid (∀ a W : World, Below a.heap.size a W → Below a.heap.size a (BW W)) := hide (by intro a W h; exact low_trans h (hC W).2.2)
  have HCK : Hid (∀ (x y : Value) (W : World), (W.cell? ⟨w.heap.size, 0, none⟩ = some x ∧ W.cell? ⟨w.heap.size, 1, none⟩ = some y) → ((BW W).cell? ⟨w.heap.size, 0, none⟩ = some x ∧ (BW W).cell? ⟨w.heap.size, 1, none⟩ = some y)) := hide (by intro x y W h; exact key_low h (hC W).2.2)
  have HNL := hide hnl
  have HW1 := hide hW1
  have HB1 := hide b1
  have hnl2 : nl ≤ 1000000 := by omega
  clear q1 hW1 hC hnl b1
  unfold keyV
  go_enter Tryz.func104, Tryz.ntmps104
  go_wp2
  rw [unhide HW1]
  clear HW1
  refine wp_region_noPanic ?_
  refine wp_region_held_drew (S := fun w' => w'.cell? ⟨w.heap.size, 0, none⟩ = some (.string (ba nm)) ∧ w'.cell? ⟨w.heap.size, 1, none⟩ = some (.string (ba sec))) (by kernel_rfl) ⟨k0, k1⟩ (fun hHeld => ?_)
  refine wpAnyH_take (i := 0) (oi := { dst := some 3, op := Op.fieldAddr 75 (Operand.tmp 1) 0, type := 0, pos := "key.go:57", after := #[], guard := none }) (v := .pointer (some ⟨w.heap.size, 0, none⟩)) rfl (by kernel_rfl) (by kernel_rfl) (by kernel_rfl) (fun _ _ _ h => h) (Or.inl ⟨by rfl, by (intro w hSw; (try dsimp only at hSw); go_simp)⟩) (by assumption) ?_
  try simp only [Act.put, List.setIfInBounds_toArray, List.set_cons_zero, List.set_cons_succ]
  refine wpAnyH_take (i := 1) (oi := { dst := some 4, op := Op.load 9 (Operand.tmp 3), type := 9, pos := "key.go:57", after := #[{ on := 0, ground := Ground.data }], guard := none }) (v := .string (ba nm)) rfl (by kernel_rfl) (by kernel_rfl) (by kernel_rfl) (fun _ _ _ h => h) (Or.inl ⟨by rfl, by (intro w hSw; (try dsimp only at hSw); go_simp)⟩) (by assumption) ?_
  try simp only [Act.put, List.setIfInBounds_toArray, List.set_cons_zero, List.set_cons_succ]
  refine wpAnyH_take (i := 4) (oi := { dst := some 7, op := Op.load 75 (Operand.tmp 1), type := 75, pos := "key.go:57", after := #[], guard := none }) (v := .agg #[.string (ba nm), .string (ba sec)]) rfl (by kernel_rfl) (by kernel_rfl) (by kernel_rfl) (fun _ _ _ h => h) (Or.inl ⟨by rfl, by (intro w hSw; (try dsimp only at hSw); go_simp)⟩) (by assumption) ?_
  try simp only [Act.put, List.setIfInBounds_toArray, List.set_cons_zero, List.set_cons_succ]
  refine wpAnyH_ready (rs := [2, 3, 5]) (by kernel_rfl) (by simp) ?_
  refine AllReadyH.cons (o := { dst := some 5, op := Op.convert 9 23 (Operand.tmp 4), type := 23, pos := "key.go:57", after := #[{ on := 1, ground := Ground.data }], guard := none }) rfl (fun K hK => ?_) (AllReadyH.cons (o := { dst := some 6, op := Op.buildSlice 23 2 #[(0, Operand.const (Value.int IntKind.u8 10)), (1, Operand.const (Value.int IntKind.u8 1))], type := 23, pos := "key.go:57", after := #[], guard := none }) rfl (fun K hK => ?_) (AllReadyH.cons (o := { dst := some 8, op := Op.call { callee := Callee.value (Operand.func 118), args := #[Operand.tmp 7], argTypes := #[75] }, type := 23, pos := "key.go:57", after := #[{ on := 4, ground := Ground.data }], guard := none }) rfl (fun K hK => ?_) AllReadyH.nil))
  · skip
    go_simp
    refine hK.out _ _ (unhide HCK _ _ _ (by assumption)) (fun hHeld => ?_)
    clear hK K
    try simp only [Act.put, List.setIfInBounds_toArray, List.set_cons_zero, List.set_cons_succ]
    refine wpAnyH_ready (rs := [3, 5]) (by kernel_rfl) (by simp) ?_
    refine AllReadyH.cons (o := { dst := some 6, op := Op.buildSlice 23 2 #[(0, Operand.const (Value.int IntKind.u8 10)), (1, Operand.const (Value.int IntKind.u8 1))], type := 23, pos := "key.go:57", after := #[], guard := none }) rfl (fun K hK => ?_) (AllReadyH.cons (o := { dst := some 8, op := Op.call { callee := Callee.value (Operand.func 118), args := #[Operand.tmp 7], argTypes := #[75] }, type := 23, pos := "key.go:57", after := #[{ on := 4, ground := Ground.data }], guard := none }) rfl (fun K hK => ?_) AllReadyH.nil)
    · skip
      go_simp
      refine hK.out _ _ (key_low (by assumption) (lowA (Below.refl _ _) _)) (fun hHeld => ?_)
      clear hK K
      try simp only [Act.put, List.setIfInBounds_toArray, List.set_cons_zero, List.set_cons_succ]
      refine wpAnyH_ready (rs := [5]) (by kernel_rfl) (by simp) ?_
      refine AllReadyH.cons (o := { dst := some 8, op := Op.call { callee := Callee.value (Operand.func 118), args := #[Operand.tmp 7], argTypes := #[75] }, type := 23, pos := "key.go:57", after := #[{ on := 4, ground := Ground.data }], guard := none }) rfl (fun K hK => ?_) AllReadyH.nil
      · skip
        go_simp
        refine (unhide HK _).mono ?_
        rintro e w3 ⟨v3, rfl, o3, b3⟩
        obtain ⟨g3, c3, rfl, at3, -, -⟩ := OwnB.adr2 o3 (sha32 sec)
        clear o3
        go_simp
        refine hK.out _ _ (key_low (by assumption) b3) (fun hHeld => ?_)
        clear hK K
        try simp only [Act.put, List.setIfInBounds_toArray, List.set_cons_zero, List.set_cons_succ]
        refine wpAnyH_ready (rs := [6]) (by kernel_rfl) (by simp) ?_
        refine AllReadyH.cons (o := { dst := some 9, op := Op.buildSlice 205 3 #[(0, Operand.tmp 5), (1, Operand.tmp 6), (2, Operand.tmp 8)], type := 205, pos := "key.go:57", after := #[{ on := 2, ground := Ground.data }, { on := 3, ground := Ground.data }, { on := 5, ground := Ground.data }], guard := none }) rfl (fun K hK => ?_) AllReadyH.nil
        go_simp
        refine hK.out _ _ (key_low (by assumption) (lowA (Below.refl _ _) _)) (fun hHeld => ?_)
        clear hK K
        try simp only [Act.put, List.setIfInBounds_toArray, List.set_cons_zero, List.set_cons_succ]
        refine wpAnyH_ready (rs := [7]) (by kernel_rfl) (by simp) ?_
        refine AllReadyH.cons (o := { dst := some 10, op := Op.call { callee := Callee.value (Operand.func 117), args := #[Operand.tmp 9], argTypes := #[205] }, type := 23, pos := "key.go:57", after := #[{ on := 6, ground := Ground.data }, { on := 5, ground := Ground.chain }], guard := none }) rfl (fun K hK => ?_) AllReadyH.nil
        go_simp
        refine (concat3 (p0 := nm) (p1 := [10, 1]) (p2 := shaL sec) (by simp) ((unhide HCA _).low (by repeat (first | exact Below.refl _ _ | refine lowA ?_ _ | refine lowD ?_ | refine unhide HCB _ _ ?_ | refine low_trans ?_ (by assumption)))) ((at_two _).low (by repeat (first | exact Below.refl _ _ | refine lowA ?_ _ | refine lowD ?_ | refine unhide HCB _ _ ?_ | refine low_trans ?_ (by assumption)))) (at3.low (by repeat (first | exact Below.refl _ _ | refine lowA ?_ _ | refine lowD ?_ | refine unhide HCB _ _ ?_ | refine low_trans ?_ (by assumption)))) (unhide HNL) rfl (sha32 sec) (by show nl + 2 + 32 ≤ _; omega)).mono ?_
        rintro e w6 ⟨v6, rfl, o6, b6⟩
        have HO := hide (sha_own o6 (by simp [sha32, unhide HNL]; omega))
        have b6t : Below W1.heap.size W1 w6 := low_trans (by repeat (first | exact Below.refl _ _ | refine lowA ?_ _ | refine lowD ?_ | refine unhide HCB _ _ ?_ | refine low_trans ?_ (by assumption))) b6
        have hk6 := key_low (by assumption) b6
        clear o6
        go_simp
        refine hK.out _ _ hk6 (fun hHeld => ?_)
        clear hK K
        try simp only [Act.put, List.setIfInBounds_toArray, List.set_cons_zero, List.set_cons_succ]
        refine wpAnyH_ready (rs := [8]) (by kernel_rfl) (by simp) ?_
        refine AllReadyH.cons (o := { dst := some 11, op := Op.call { callee := Callee.value (Operand.func 27), args := #[Operand.tmp 10], argTypes := #[23] }, type := 23, pos := "key.go:57", after := #[{ on := 7, ground := Ground.data }, { on := 7, ground := Ground.chain }], guard := none }) rfl (fun K hK => ?_) AllReadyH.nil
        go_simp
        refine (unhide HO).mono ?_
        rintro e w7 ⟨v7, rfl, o7, b7⟩
        obtain ⟨g7, c7, rfl, at7, -, -⟩ := OwnB.adr2 o7 (sha32 _)
        have HN := hide (number_any (c := c7) (sha32 _) (by omega) (by omega) at7)
        clear o7
        go_simp
        refine hK.out _ _ (key_low (by assumption) b7) (fun hHeld => ?_)
        clear hK K
        try simp only [Act.put, List.setIfInBounds_toArray, List.set_cons_zero, List.set_cons_succ]
        refine wpAnyH_ready (rs := [9]) (by kernel_rfl) (by simp) ?_
        refine AllReadyH.cons (o := { dst := some 12, op := Op.call { callee := Callee.value (Operand.func 153), args := #[Operand.tmp 11], argTypes := #[23] }, type := 39, pos := "key.go:57", after := #[{ on := 8, ground := Ground.data }, { on := 8, ground := Ground.chain }], guard := none }) rfl (fun K hK => ?_) AllReadyH.nil
        go_simp
        refine (unhide HN).mono ?_
        rintro e w8 ⟨rfl, b8⟩
        go_simp
        refine hK.out _ _ (key_low (by assumption) b8) (fun hHeld => ?_)
        clear hK K
        try simp only [Act.put, List.setIfInBounds_toArray, List.set_cons_zero, List.set_cons_succ]
        refine wpAnyH_ready (rs := [10]) (by kernel_rfl) (by simp) ?_
        refine AllReadyH.cons (o := { dst := some 2, op := Op.assign (Operand.tmp 12), type := 39, pos := "key.go:57", after := #[{ on := 9, ground := Ground.data }, { on := 9, ground := Ground.chain }, { on := 0, ground := Ground.phase }, { on := 1, ground := Ground.phase }, { on := 2, ground := Ground.phase }, { on := 3, ground := Ground.phase }, { on := 4, ground := Ground.phase }, { on := 5, ground := Ground.phase }, { on := 6, ground := Ground.phase }, { on := 7, ground := Ground.phase }, { on := 8, ground := Ground.phase }, { on := 9, ground := Ground.phase }], guard := none }) rfl (fun K hK => ?_) AllReadyH.nil
        go_simp
        refine hK.out _ _ (by assumption) (fun hHeld => ?_)
        clear hK K
        try simp only [Act.put, List.setIfInBounds_toArray, List.set_cons_zero, List.set_cons_succ]
        refine wpAnyH_done (by kernel_rfl) ?_ _
        refine NoPanic.normal ?_
        have HZ : Hid (Below w.heap.size w w8) := hide (low_trans (unhide HB1) (low_trans b6t (low_trans b7 b8)))
        clear b3 at3 b6t b7 b8 at7
        go_wp2
        go_ret
        exact ⟨by unfold idN idH; rfl, unhide HZ⟩
    · skip
      go_simp
      refine (unhide HK _).mono ?_
      rintro e w3 ⟨v3, rfl, o3, b3⟩
      obtain ⟨g3, c3, rfl, at3, -, -⟩ := OwnB.adr2 o3 (sha32 sec)
      clear o3
      go_simp
      refine hK.out _ _ (key_low (by assumption) b3) (fun hHeld => ?_)
      clear hK K
      try simp only [Act.put, List.setIfInBounds_toArray, List.set_cons_zero, List.set_cons_succ]
      refine wpAnyH_ready (rs := [3]) (by kernel_rfl) (by simp) ?_
      refine AllReadyH.cons (o := { dst := some 6, op := Op.buildSlice 23 2 #[(0, Operand.const (Value.int IntKind.u8 10)), (1, Operand.const (Value.int IntKind.u8 1))], type := 23, pos := "key.go:57", after := #[], guard := none }) rfl (fun K hK => ?_) AllReadyH.nil
      · skip
        go_simp
        refine hK.out _ _ (key_low (by assumption) (lowA (Below.refl _ _) _)) (fun hHeld => ?_)
        clear hK K
        try simp only [Act.put, List.setIfInBounds_toArray, List.set_cons_zero, List.set_cons_succ]
        refine wpAnyH_ready (rs := [6]) (by kernel_rfl) (by simp) ?_
        refine AllReadyH.cons (o := { dst := some 9, op := Op.buildSlice 205 3 #[(0, Operand.tmp 5), (1, Operand.tmp 6), (2, Operand.tmp 8)], type := 205, pos := "key.go:57", after := #[{ on := 2, ground := Ground.data }, { on := 3, ground := Ground.data }, { on := 5, ground := Ground.data }], guard := none }) rfl (fun K hK => ?_) AllReadyH.nil
        go_simp
        refine hK.out _ _ (key_low (by assumption) (lowA (Below.refl _ _) _)) (fun hHeld => ?_)
        clear hK K
        try simp only [Act.put, List.setIfInBounds_toArray, List.set_cons_zero, List.set_cons_succ]
        refine wpAnyH_ready (rs := [7]) (by kernel_rfl) (by simp) ?_
        refine AllReadyH.cons (o := { dst := some 10, op := Op.call { callee := Callee.value (Operand.func 117), args := #[Operand.tmp 9], argTypes := #[205] }, type := 23, pos := "key.go:57", after := #[{ on := 6, ground := Ground.data }, { on := 5, ground := Ground.chain }], guard := none }) rfl (fun K hK => ?_) AllReadyH.nil
        go_simp
        refine (concat3 (p0 := nm) (p1 := [10, 1]) (p2 := shaL sec) (by simp) ((unhide HCA _).low (by repeat (first | exact Below.refl _ _ | refine lowA ?_ _ | refine lowD ?_ | refine unhide HCB _ _ ?_ | refine low_trans ?_ (by assumption)))) ((at_two _).low (by repeat (first | exact Below.refl _ _ | refine lowA ?_ _ | refine lowD ?_ | refine unhide HCB _ _ ?_ | refine low_trans ?_ (by assumption)))) (at3.low (by repeat (first | exact Below.refl _ _ | refine lowA ?_ _ | refine lowD ?_ | refine unhide HCB _ _ ?_ | refine low_trans ?_ (by assumption)))) (unhide HNL) rfl (sha32 sec) (by show nl + 2 + 32 ≤ _; omega)).mono ?_
        rintro e w6 ⟨v6, rfl, o6, b6⟩
        have HO := hide (sha_own o6 (by simp [sha32, unhide HNL]; omega))
        have b6t : Below W1.heap.size W1 w6 := low_trans (by repeat (first | exact Below.refl _ _ | refine lowA ?_ _ | refine lowD ?_ | refine unhide HCB _ _ ?_ | refine low_trans ?_ (by assumption))) b6
        have hk6 := key_low (by assumption) b6
        clear o6
        go_simp
        refine hK.out _ _ hk6 (fun hHeld => ?_)
        clear hK K
        try simp only [Act.put, List.setIfInBounds_toArray, List.set_cons_zero, List.set_cons_succ]
        refine wpAnyH_ready (rs := [8]) (by kernel_rfl) (by simp) ?_
        refine AllReadyH.cons (o := { dst := some 11, op := Op.call { callee := Callee.value (Operand.func 27), args := #[Operand.tmp 10], argTypes := #[23] }, type := 23, pos := "key.go:57", after := #[{ on := 7, ground := Ground.data }, { on := 7, ground := Ground.chain }], guard := none }) rfl (fun K hK => ?_) AllReadyH.nil
        go_simp
        refine (unhide HO).mono ?_
        rintro e w7 ⟨v7, rfl, o7, b7⟩
        obtain ⟨g7, c7, rfl, at7, -, -⟩ := OwnB.adr2 o7 (sha32 _)
        have HN := hide (number_any (c := c7) (sha32 _) (by omega) (by omega) at7)
        clear o7
        go_simp
        refine hK.out _ _ (key_low (by assumption) b7) (fun hHeld => ?_)
        clear hK K
        try simp only [Act.put, List.setIfInBounds_toArray, List.set_cons_zero, List.set_cons_succ]
        refine wpAnyH_ready (rs := [9]) (by kernel_rfl) (by simp) ?_
        refine AllReadyH.cons (o := { dst := some 12, op := Op.call { callee := Callee.value (Operand.func 153), args := #[Operand.tmp 11], argTypes := #[23] }, type := 39, pos := "key.go:57", after := #[{ on := 8, ground := Ground.data }, { on := 8, ground := Ground.chain }], guard := none }) rfl (fun K hK => ?_) AllReadyH.nil
        go_simp
        refine (unhide HN).mono ?_
        rintro e w8 ⟨rfl, b8⟩
        go_simp
        refine hK.out _ _ (key_low (by assumption) b8) (fun hHeld => ?_)
        clear hK K
        try simp only [Act.put, List.setIfInBounds_toArray, List.set_cons_zero, List.set_cons_succ]
        refine wpAnyH_ready (rs := [10]) (by kernel_rfl) (by simp) ?_
        refine AllReadyH.cons (o := { dst := some 2, op := Op.assign (Operand.tmp 12), type := 39, pos := "key.go:57", after := #[{ on := 9, ground := Ground.data }, { on := 9, ground := Ground.chain }, { on := 0, ground := Ground.phase }, { on := 1, ground := Ground.phase }, { on := 2, ground := Ground.phase }, { on := 3, ground := Ground.phase }, { on := 4, ground := Ground.phase }, { on := 5, ground := Ground.phase }, { on := 6, ground := Ground.phase }, { on := 7, ground := Ground.phase }, { on := 8, ground := Ground.phase }, { on := 9, ground := Ground.phase }], guard := none }) rfl (fun K hK => ?_) AllReadyH.nil
        go_simp
        refine hK.out _ _ (by assumption) (fun hHeld => ?_)
        clear hK K
        try simp only [Act.put, List.setIfInBounds_toArray, List.set_cons_zero, List.set_cons_succ]
        refine wpAnyH_done (by kernel_rfl) ?_ _
        refine NoPanic.normal ?_
        have HZ : Hid (Below w.heap.size w w8) := hide (low_trans (unhide HB1) (low_trans b6t (low_trans b7 b8)))
        clear b3 at3 b6t b7 b8 at7
        go_wp2
        go_ret
        exact ⟨by unfold idN idH; rfl, unhide HZ⟩
  · skip
    go_simp
    refine hK.out _ _ (key_low (by assumption) (lowA (Below.refl _ _) _)) (fun hHeld => ?_)
    clear hK K
    try simp only [Act.put, List.setIfInBounds_toArray, List.set_cons_zero, List.set_cons_succ]
    refine wpAnyH_ready (rs := [2, 5]) (by kernel_rfl) (by simp) ?_
    refine AllReadyH.cons (o := { dst := some 5, op := Op.convert 9 23 (Operand.tmp 4), type := 23, pos := "key.go:57", after := #[{ on := 1, ground := Ground.data }], guard := none }) rfl (fun K hK => ?_) (AllReadyH.cons (o := { dst := some 8, op := Op.call { callee := Callee.value (Operand.func 118), args := #[Operand.tmp 7], argTypes := #[75] }, type := 23, pos := "key.go:57", after := #[{ on := 4, ground := Ground.data }], guard := none }) rfl (fun K hK => ?_) AllReadyH.nil)
    · skip
      go_simp
      refine hK.out _ _ (unhide HCK _ _ _ (by assumption)) (fun hHeld => ?_)
      clear hK K
      try simp only [Act.put, List.setIfInBounds_toArray, List.set_cons_zero, List.set_cons_succ]
      refine wpAnyH_ready (rs := [5]) (by kernel_rfl) (by simp) ?_
      refine AllReadyH.cons (o := { dst := some 8, op := Op.call { callee := Callee.value (Operand.func 118), args := #[Operand.tmp 7], argTypes := #[75] }, type := 23, pos := "key.go:57", after := #[{ on := 4, ground := Ground.data }], guard := none }) rfl (fun K hK => ?_) AllReadyH.nil
      · skip
        go_simp
        refine (unhide HK _).mono ?_
        rintro e w3 ⟨v3, rfl, o3, b3⟩
        obtain ⟨g3, c3, rfl, at3, -, -⟩ := OwnB.adr2 o3 (sha32 sec)
        clear o3
        go_simp
        refine hK.out _ _ (key_low (by assumption) b3) (fun hHeld => ?_)
        clear hK K
        try simp only [Act.put, List.setIfInBounds_toArray, List.set_cons_zero, List.set_cons_succ]
        refine wpAnyH_ready (rs := [6]) (by kernel_rfl) (by simp) ?_
        refine AllReadyH.cons (o := { dst := some 9, op := Op.buildSlice 205 3 #[(0, Operand.tmp 5), (1, Operand.tmp 6), (2, Operand.tmp 8)], type := 205, pos := "key.go:57", after := #[{ on := 2, ground := Ground.data }, { on := 3, ground := Ground.data }, { on := 5, ground := Ground.data }], guard := none }) rfl (fun K hK => ?_) AllReadyH.nil
        go_simp
        refine hK.out _ _ (key_low (by assumption) (lowA (Below.refl _ _) _)) (fun hHeld => ?_)
        clear hK K
        try simp only [Act.put, List.setIfInBounds_toArray, List.set_cons_zero, List.set_cons_succ]
        refine wpAnyH_ready (rs := [7]) (by kernel_rfl) (by simp) ?_
        refine AllReadyH.cons (o := { dst := some 10, op := Op.call { callee := Callee.value (Operand.func 117), args := #[Operand.tmp 9], argTypes := #[205] }, type := 23, pos := "key.go:57", after := #[{ on := 6, ground := Ground.data }, { on := 5, ground := Ground.chain }], guard := none }) rfl (fun K hK => ?_) AllReadyH.nil
        go_simp
        refine (concat3 (p0 := nm) (p1 := [10, 1]) (p2 := shaL sec) (by simp) ((unhide HCA _).low (by repeat (first | exact Below.refl _ _ | refine lowA ?_ _ | refine lowD ?_ | refine unhide HCB _ _ ?_ | refine low_trans ?_ (by assumption)))) ((at_two _).low (by repeat (first | exact Below.refl _ _ | refine lowA ?_ _ | refine lowD ?_ | refine unhide HCB _ _ ?_ | refine low_trans ?_ (by assumption)))) (at3.low (by repeat (first | exact Below.refl _ _ | refine lowA ?_ _ | refine lowD ?_ | refine unhide HCB _ _ ?_ | refine low_trans ?_ (by assumption)))) (unhide HNL) rfl (sha32 sec) (by show nl + 2 + 32 ≤ _; omega)).mono ?_
        rintro e w6 ⟨v6, rfl, o6, b6⟩
        have HO := hide (sha_own o6 (by simp [sha32, unhide HNL]; omega))
        have b6t : Below W1.heap.size W1 w6 := low_trans (by repeat (first | exact Below.refl _ _ | refine lowA ?_ _ | refine lowD ?_ | refine unhide HCB _ _ ?_ | refine low_trans ?_ (by assumption))) b6
        have hk6 := key_low (by assumption) b6
        clear o6
        go_simp
        refine hK.out _ _ hk6 (fun hHeld => ?_)
        clear hK K
        try simp only [Act.put, List.setIfInBounds_toArray, List.set_cons_zero, List.set_cons_succ]
        refine wpAnyH_ready (rs := [8]) (by kernel_rfl) (by simp) ?_
        refine AllReadyH.cons (o := { dst := some 11, op := Op.call { callee := Callee.value (Operand.func 27), args := #[Operand.tmp 10], argTypes := #[23] }, type := 23, pos := "key.go:57", after := #[{ on := 7, ground := Ground.data }, { on := 7, ground := Ground.chain }], guard := none }) rfl (fun K hK => ?_) AllReadyH.nil
        go_simp
        refine (unhide HO).mono ?_
        rintro e w7 ⟨v7, rfl, o7, b7⟩
        obtain ⟨g7, c7, rfl, at7, -, -⟩ := OwnB.adr2 o7 (sha32 _)
        have HN := hide (number_any (c := c7) (sha32 _) (by omega) (by omega) at7)
        clear o7
        go_simp
        refine hK.out _ _ (key_low (by assumption) b7) (fun hHeld => ?_)
        clear hK K
        try simp only [Act.put, List.setIfInBounds_toArray, List.set_cons_zero, List.set_cons_succ]
        refine wpAnyH_ready (rs := [9]) (by kernel_rfl) (by simp) ?_
        refine AllReadyH.cons (o := { dst := some 12, op := Op.call { callee := Callee.value (Operand.func 153), args := #[Operand.tmp 11], argTypes := #[23] }, type := 39, pos := "key.go:57", after := #[{ on := 8, ground := Ground.data }, { on := 8, ground := Ground.chain }], guard := none }) rfl (fun K hK => ?_) AllReadyH.nil
        go_simp
        refine (unhide HN).mono ?_
        rintro e w8 ⟨rfl, b8⟩
        go_simp
        refine hK.out _ _ (key_low (by assumption) b8) (fun hHeld => ?_)
        clear hK K
        try simp only [Act.put, List.setIfInBounds_toArray, List.set_cons_zero, List.set_cons_succ]
        refine wpAnyH_ready (rs := [10]) (by kernel_rfl) (by simp) ?_
        refine AllReadyH.cons (o := { dst := some 2, op := Op.assign (Operand.tmp 12), type := 39, pos := "key.go:57", after := #[{ on := 9, ground := Ground.data }, { on := 9, ground := Ground.chain }, { on := 0, ground := Ground.phase }, { on := 1, ground := Ground.phase }, { on := 2, ground := Ground.phase }, { on := 3, ground := Ground.phase }, { on := 4, ground := Ground.phase }, { on := 5, ground := Ground.phase }, { on := 6, ground := Ground.phase }, { on := 7, ground := Ground.phase }, { on := 8, ground := Ground.phase }, { on := 9, ground := Ground.phase }], guard := none }) rfl (fun K hK => ?_) AllReadyH.nil
        go_simp
        refine hK.out _ _ (by assumption) (fun hHeld => ?_)
        clear hK K
        try simp only [Act.put, List.setIfInBounds_toArray, List.set_cons_zero, List.set_cons_succ]
        refine wpAnyH_done (by kernel_rfl) ?_ _
        refine NoPanic.normal ?_
        have HZ : Hid (Below w.heap.size w w8) := hide (low_trans (unhide HB1) (low_trans b6t (low_trans b7 b8)))
        clear b3 at3 b6t b7 b8 at7
        go_wp2
        go_ret
        exact ⟨by unfold idN idH; rfl, unhide HZ⟩
    · skip
      go_simp
      refine (unhide HK _).mono ?_
      rintro e w3 ⟨v3, rfl, o3, b3⟩
      obtain ⟨g3, c3, rfl, at3, -, -⟩ := OwnB.adr2 o3 (sha32 sec)
      clear o3
      go_simp
      refine hK.out _ _ (key_low (by assumption) b3) (fun hHeld => ?_)
      clear hK K
      try simp only [Act.put, List.setIfInBounds_toArray, List.set_cons_zero, List.set_cons_succ]
      refine wpAnyH_ready (rs := [2]) (by kernel_rfl) (by simp) ?_
      refine AllReadyH.cons (o := { dst := some 5, op := Op.convert 9 23 (Operand.tmp 4), type := 23, pos := "key.go:57", after := #[{ on := 1, ground := Ground.data }], guard := none }) rfl (fun K hK => ?_) AllReadyH.nil
      · skip
        go_simp
        refine hK.out _ _ (unhide HCK _ _ _ (by assumption)) (fun hHeld => ?_)
        clear hK K
        try simp only [Act.put, List.setIfInBounds_toArray, List.set_cons_zero, List.set_cons_succ]
        refine wpAnyH_ready (rs := [6]) (by kernel_rfl) (by simp) ?_
        refine AllReadyH.cons (o := { dst := some 9, op := Op.buildSlice 205 3 #[(0, Operand.tmp 5), (1, Operand.tmp 6), (2, Operand.tmp 8)], type := 205, pos := "key.go:57", after := #[{ on := 2, ground := Ground.data }, { on := 3, ground := Ground.data }, { on := 5, ground := Ground.data }], guard := none }) rfl (fun K hK => ?_) AllReadyH.nil
        go_simp
        refine hK.out _ _ (key_low (by assumption) (lowA (Below.refl _ _) _)) (fun hHeld => ?_)
        clear hK K
        try simp only [Act.put, List.setIfInBounds_toArray, List.set_cons_zero, List.set_cons_succ]
        refine wpAnyH_ready (rs := [7]) (by kernel_rfl) (by simp) ?_
        refine AllReadyH.cons (o := { dst := some 10, op := Op.call { callee := Callee.value (Operand.func 117), args := #[Operand.tmp 9], argTypes := #[205] }, type := 23, pos := "key.go:57", after := #[{ on := 6, ground := Ground.data }, { on := 5, ground := Ground.chain }], guard := none }) rfl (fun K hK => ?_) AllReadyH.nil
        go_simp
        refine (concat3 (p0 := nm) (p1 := [10, 1]) (p2 := shaL sec) (by simp) ((unhide HCA _).low (by repeat (first | exact Below.refl _ _ | refine lowA ?_ _ | refine lowD ?_ | refine unhide HCB _ _ ?_ | refine low_trans ?_ (by assumption)))) ((at_two _).low (by repeat (first | exact Below.refl _ _ | refine lowA ?_ _ | refine lowD ?_ | refine unhide HCB _ _ ?_ | refine low_trans ?_ (by assumption)))) (at3.low (by repeat (first | exact Below.refl _ _ | refine lowA ?_ _ | refine lowD ?_ | refine unhide HCB _ _ ?_ | refine low_trans ?_ (by assumption)))) (unhide HNL) rfl (sha32 sec) (by show nl + 2 + 32 ≤ _; omega)).mono ?_
        rintro e w6 ⟨v6, rfl, o6, b6⟩
        have HO := hide (sha_own o6 (by simp [sha32, unhide HNL]; omega))
        have b6t : Below W1.heap.size W1 w6 := low_trans (by repeat (first | exact Below.refl _ _ | refine lowA ?_ _ | refine lowD ?_ | refine unhide HCB _ _ ?_ | refine low_trans ?_ (by assumption))) b6
        have hk6 := key_low (by assumption) b6
        clear o6
        go_simp
        refine hK.out _ _ hk6 (fun hHeld => ?_)
        clear hK K
        try simp only [Act.put, List.setIfInBounds_toArray, List.set_cons_zero, List.set_cons_succ]
        refine wpAnyH_ready (rs := [8]) (by kernel_rfl) (by simp) ?_
        refine AllReadyH.cons (o := { dst := some 11, op := Op.call { callee := Callee.value (Operand.func 27), args := #[Operand.tmp 10], argTypes := #[23] }, type := 23, pos := "key.go:57", after := #[{ on := 7, ground := Ground.data }, { on := 7, ground := Ground.chain }], guard := none }) rfl (fun K hK => ?_) AllReadyH.nil
        go_simp
        refine (unhide HO).mono ?_
        rintro e w7 ⟨v7, rfl, o7, b7⟩
        obtain ⟨g7, c7, rfl, at7, -, -⟩ := OwnB.adr2 o7 (sha32 _)
        have HN := hide (number_any (c := c7) (sha32 _) (by omega) (by omega) at7)
        clear o7
        go_simp
        refine hK.out _ _ (key_low (by assumption) b7) (fun hHeld => ?_)
        clear hK K
        try simp only [Act.put, List.setIfInBounds_toArray, List.set_cons_zero, List.set_cons_succ]
        refine wpAnyH_ready (rs := [9]) (by kernel_rfl) (by simp) ?_
        refine AllReadyH.cons (o := { dst := some 12, op := Op.call { callee := Callee.value (Operand.func 153), args := #[Operand.tmp 11], argTypes := #[23] }, type := 39, pos := "key.go:57", after := #[{ on := 8, ground := Ground.data }, { on := 8, ground := Ground.chain }], guard := none }) rfl (fun K hK => ?_) AllReadyH.nil
        go_simp
        refine (unhide HN).mono ?_
        rintro e w8 ⟨rfl, b8⟩
        go_simp
        refine hK.out _ _ (key_low (by assumption) b8) (fun hHeld => ?_)
        clear hK K
        try simp only [Act.put, List.setIfInBounds_toArray, List.set_cons_zero, List.set_cons_succ]
        refine wpAnyH_ready (rs := [10]) (by kernel_rfl) (by simp) ?_
        refine AllReadyH.cons (o := { dst := some 2, op := Op.assign (Operand.tmp 12), type := 39, pos := "key.go:57", after := #[{ on := 9, ground := Ground.data }, { on := 9, ground := Ground.chain }, { on := 0, ground := Ground.phase }, { on := 1, ground := Ground.phase }, { on := 2, ground := Ground.phase }, { on := 3, ground := Ground.phase }, { on := 4, ground := Ground.phase }, { on := 5, ground := Ground.phase }, { on := 6, ground := Ground.phase }, { on := 7, ground := Ground.phase }, { on := 8, ground := Ground.phase }, { on := 9, ground := Ground.phase }], guard := none }) rfl (fun K hK => ?_) AllReadyH.nil
        go_simp
        refine hK.out _ _ (by assumption) (fun hHeld => ?_)
        clear hK K
        try simp only [Act.put, List.setIfInBounds_toArray, List.set_cons_zero, List.set_cons_succ]
        refine wpAnyH_done (by kernel_rfl) ?_ _
        refine NoPanic.normal ?_
        have HZ : Hid (Below w.heap.size w w8) := hide (low_trans (unhide HB1) (low_trans b6t (low_trans b7 b8)))
        clear b3 at3 b6t b7 b8 at7
        go_wp2
        go_ret
        exact ⟨by unfold idN idH; rfl, unhide HZ⟩
  · skip
    go_simp
    refine (unhide HK _).mono ?_
    rintro e w3 ⟨v3, rfl, o3, b3⟩
    obtain ⟨g3, c3, rfl, at3, -, -⟩ := OwnB.adr2 o3 (sha32 sec)
    clear o3
    go_simp
    refine hK.out _ _ (key_low (by assumption) b3) (fun hHeld => ?_)
    clear hK K
    try simp only [Act.put, List.setIfInBounds_toArray, List.set_cons_zero, List.set_cons_succ]
    refine wpAnyH_ready (rs := [2, 3]) (by kernel_rfl) (by simp) ?_
    refine AllReadyH.cons (o := { dst := some 5, op := Op.convert 9 23 (Operand.tmp 4), type := 23, pos := "key.go:57", after := #[{ on := 1, ground := Ground.data }], guard := none }) rfl (fun K hK => ?_) (AllReadyH.cons (o := { dst := some 6, op := Op.buildSlice 23 2 #[(0, Operand.const (Value.int IntKind.u8 10)), (1, Operand.const (Value.int IntKind.u8 1))], type := 23, pos := "key.go:57", after := #[], guard := none }) rfl (fun K hK => ?_) AllReadyH.nil)
    · skip
      go_simp
      refine hK.out _ _ (unhide HCK _ _ _ (by assumption)) (fun hHeld => ?_)
      clear hK K
      try simp only [Act.put, List.setIfInBounds_toArray, List.set_cons_zero, List.set_cons_succ]
      refine wpAnyH_ready (rs := [3]) (by kernel_rfl) (by simp) ?_
      refine AllReadyH.cons (o := { dst := some 6, op := Op.buildSlice 23 2 #[(0, Operand.const (Value.int IntKind.u8 10)), (1, Operand.const (Value.int IntKind.u8 1))], type := 23, pos := "key.go:57", after := #[], guard := none }) rfl (fun K hK => ?_) AllReadyH.nil
      · skip
        go_simp
        refine hK.out _ _ (key_low (by assumption) (lowA (Below.refl _ _) _)) (fun hHeld => ?_)
        clear hK K
        try simp only [Act.put, List.setIfInBounds_toArray, List.set_cons_zero, List.set_cons_succ]
        refine wpAnyH_ready (rs := [6]) (by kernel_rfl) (by simp) ?_
        refine AllReadyH.cons (o := { dst := some 9, op := Op.buildSlice 205 3 #[(0, Operand.tmp 5), (1, Operand.tmp 6), (2, Operand.tmp 8)], type := 205, pos := "key.go:57", after := #[{ on := 2, ground := Ground.data }, { on := 3, ground := Ground.data }, { on := 5, ground := Ground.data }], guard := none }) rfl (fun K hK => ?_) AllReadyH.nil
        go_simp
        refine hK.out _ _ (key_low (by assumption) (lowA (Below.refl _ _) _)) (fun hHeld => ?_)
        clear hK K
        try simp only [Act.put, List.setIfInBounds_toArray, List.set_cons_zero, List.set_cons_succ]
        refine wpAnyH_ready (rs := [7]) (by kernel_rfl) (by simp) ?_
        refine AllReadyH.cons (o := { dst := some 10, op := Op.call { callee := Callee.value (Operand.func 117), args := #[Operand.tmp 9], argTypes := #[205] }, type := 23, pos := "key.go:57", after := #[{ on := 6, ground := Ground.data }, { on := 5, ground := Ground.chain }], guard := none }) rfl (fun K hK => ?_) AllReadyH.nil
        go_simp
        refine (concat3 (p0 := nm) (p1 := [10, 1]) (p2 := shaL sec) (by simp) ((unhide HCA _).low (by repeat (first | exact Below.refl _ _ | refine lowA ?_ _ | refine lowD ?_ | refine unhide HCB _ _ ?_ | refine low_trans ?_ (by assumption)))) ((at_two _).low (by repeat (first | exact Below.refl _ _ | refine lowA ?_ _ | refine lowD ?_ | refine unhide HCB _ _ ?_ | refine low_trans ?_ (by assumption)))) (at3.low (by repeat (first | exact Below.refl _ _ | refine lowA ?_ _ | refine lowD ?_ | refine unhide HCB _ _ ?_ | refine low_trans ?_ (by assumption)))) (unhide HNL) rfl (sha32 sec) (by show nl + 2 + 32 ≤ _; omega)).mono ?_
        rintro e w6 ⟨v6, rfl, o6, b6⟩
        have HO := hide (sha_own o6 (by simp [sha32, unhide HNL]; omega))
        have b6t : Below W1.heap.size W1 w6 := low_trans (by repeat (first | exact Below.refl _ _ | refine lowA ?_ _ | refine lowD ?_ | refine unhide HCB _ _ ?_ | refine low_trans ?_ (by assumption))) b6
        have hk6 := key_low (by assumption) b6
        clear o6
        go_simp
        refine hK.out _ _ hk6 (fun hHeld => ?_)
        clear hK K
        try simp only [Act.put, List.setIfInBounds_toArray, List.set_cons_zero, List.set_cons_succ]
        refine wpAnyH_ready (rs := [8]) (by kernel_rfl) (by simp) ?_
        refine AllReadyH.cons (o := { dst := some 11, op := Op.call { callee := Callee.value (Operand.func 27), args := #[Operand.tmp 10], argTypes := #[23] }, type := 23, pos := "key.go:57", after := #[{ on := 7, ground := Ground.data }, { on := 7, ground := Ground.chain }], guard := none }) rfl (fun K hK => ?_) AllReadyH.nil
        go_simp
        refine (unhide HO).mono ?_
        rintro e w7 ⟨v7, rfl, o7, b7⟩
        obtain ⟨g7, c7, rfl, at7, -, -⟩ := OwnB.adr2 o7 (sha32 _)
        have HN := hide (number_any (c := c7) (sha32 _) (by omega) (by omega) at7)
        clear o7
        go_simp
        refine hK.out _ _ (key_low (by assumption) b7) (fun hHeld => ?_)
        clear hK K
        try simp only [Act.put, List.setIfInBounds_toArray, List.set_cons_zero, List.set_cons_succ]
        refine wpAnyH_ready (rs := [9]) (by kernel_rfl) (by simp) ?_
        refine AllReadyH.cons (o := { dst := some 12, op := Op.call { callee := Callee.value (Operand.func 153), args := #[Operand.tmp 11], argTypes := #[23] }, type := 39, pos := "key.go:57", after := #[{ on := 8, ground := Ground.data }, { on := 8, ground := Ground.chain }], guard := none }) rfl (fun K hK => ?_) AllReadyH.nil
        go_simp
        refine (unhide HN).mono ?_
        rintro e w8 ⟨rfl, b8⟩
        go_simp
        refine hK.out _ _ (key_low (by assumption) b8) (fun hHeld => ?_)
        clear hK K
        try simp only [Act.put, List.setIfInBounds_toArray, List.set_cons_zero, List.set_cons_succ]
        refine wpAnyH_ready (rs := [10]) (by kernel_rfl) (by simp) ?_
        refine AllReadyH.cons (o := { dst := some 2, op := Op.assign (Operand.tmp 12), type := 39, pos := "key.go:57", after := #[{ on := 9, ground := Ground.data }, { on := 9, ground := Ground.chain }, { on := 0, ground := Ground.phase }, { on := 1, ground := Ground.phase }, { on := 2, ground := Ground.phase }, { on := 3, ground := Ground.phase }, { on := 4, ground := Ground.phase }, { on := 5, ground := Ground.phase }, { on := 6, ground := Ground.phase }, { on := 7, ground := Ground.phase }, { on := 8, ground := Ground.phase }, { on := 9, ground := Ground.phase }], guard := none }) rfl (fun K hK => ?_) AllReadyH.nil
        go_simp
        refine hK.out _ _ (by assumption) (fun hHeld => ?_)
        clear hK K
        try simp only [Act.put, List.setIfInBounds_toArray, List.set_cons_zero, List.set_cons_succ]
        refine wpAnyH_done (by kernel_rfl) ?_ _
        refine NoPanic.normal ?_
        have HZ : Hid (Below w.heap.size w w8) := hide (low_trans (unhide HB1) (low_trans b6t (low_trans b7 b8)))
        clear b3 at3 b6t b7 b8 at7
        go_wp2
        go_ret
        exact ⟨by unfold idN idH; rfl, unhide HZ⟩
    · skip
      go_simp
      refine hK.out _ _ (key_low (by assumption) (lowA (Below.refl _ _) _)) (fun hHeld => ?_)
      clear hK K
      try simp only [Act.put, List.setIfInBounds_toArray, List.set_cons_zero, List.set_cons_succ]
      refine wpAnyH_ready (rs := [2]) (by kernel_rfl) (by simp) ?_
      refine AllReadyH.cons (o := { dst := some 5, op := Op.convert 9 23 (Operand.tmp 4), type := 23, pos := "key.go:57", after := #[{ on := 1, ground := Ground.data }], guard := none }) rfl (fun K hK => ?_) AllReadyH.nil
      · skip
        go_simp
        refine hK.out _ _ (unhide HCK _ _ _ (by assumption)) (fun hHeld => ?_)
        clear hK K
        try simp only [Act.put, List.setIfInBounds_toArray, List.set_cons_zero, List.set_cons_succ]
        refine wpAnyH_ready (rs := [6]) (by kernel_rfl) (by simp) ?_
        refine AllReadyH.cons (o := { dst := some 9, op := Op.buildSlice 205 3 #[(0, Operand.tmp 5), (1, Operand.tmp 6), (2, Operand.tmp 8)], type := 205, pos := "key.go:57", after := #[{ on := 2, ground := Ground.data }, { on := 3, ground := Ground.data }, { on := 5, ground := Ground.data }], guard := none }) rfl (fun K hK => ?_) AllReadyH.nil
        go_simp
        refine hK.out _ _ (key_low (by assumption) (lowA (Below.refl _ _) _)) (fun hHeld => ?_)
        clear hK K
        try simp only [Act.put, List.setIfInBounds_toArray, List.set_cons_zero, List.set_cons_succ]
        refine wpAnyH_ready (rs := [7]) (by kernel_rfl) (by simp) ?_
        refine AllReadyH.cons (o := { dst := some 10, op := Op.call { callee := Callee.value (Operand.func 117), args := #[Operand.tmp 9], argTypes := #[205] }, type := 23, pos := "key.go:57", after := #[{ on := 6, ground := Ground.data }, { on := 5, ground := Ground.chain }], guard := none }) rfl (fun K hK => ?_) AllReadyH.nil
        go_simp
        refine (concat3 (p0 := nm) (p1 := [10, 1]) (p2 := shaL sec) (by simp) ((unhide HCA _).low (by repeat (first | exact Below.refl _ _ | refine lowA ?_ _ | refine lowD ?_ | refine unhide HCB _ _ ?_ | refine low_trans ?_ (by assumption)))) ((at_two _).low (by repeat (first | exact Below.refl _ _ | refine lowA ?_ _ | refine lowD ?_ | refine unhide HCB _ _ ?_ | refine low_trans ?_ (by assumption)))) (at3.low (by repeat (first | exact Below.refl _ _ | refine lowA ?_ _ | refine lowD ?_ | refine unhide HCB _ _ ?_ | refine low_trans ?_ (by assumption)))) (unhide HNL) rfl (sha32 sec) (by show nl + 2 + 32 ≤ _; omega)).mono ?_
        rintro e w6 ⟨v6, rfl, o6, b6⟩
        have HO := hide (sha_own o6 (by simp [sha32, unhide HNL]; omega))
        have b6t : Below W1.heap.size W1 w6 := low_trans (by repeat (first | exact Below.refl _ _ | refine lowA ?_ _ | refine lowD ?_ | refine unhide HCB _ _ ?_ | refine low_trans ?_ (by assumption))) b6
        have hk6 := key_low (by assumption) b6
        clear o6
        go_simp
        refine hK.out _ _ hk6 (fun hHeld => ?_)
        clear hK K
        try simp only [Act.put, List.setIfInBounds_toArray, List.set_cons_zero, List.set_cons_succ]
        refine wpAnyH_ready (rs := [8]) (by kernel_rfl) (by simp) ?_
        refine AllReadyH.cons (o := { dst := some 11, op := Op.call { callee := Callee.value (Operand.func 27), args := #[Operand.tmp 10], argTypes := #[23] }, type := 23, pos := "key.go:57", after := #[{ on := 7, ground := Ground.data }, { on := 7, ground := Ground.chain }], guard := none }) rfl (fun K hK => ?_) AllReadyH.nil
        go_simp
        refine (unhide HO).mono ?_
        rintro e w7 ⟨v7, rfl, o7, b7⟩
        obtain ⟨g7, c7, rfl, at7, -, -⟩ := OwnB.adr2 o7 (sha32 _)
        have HN := hide (number_any (c := c7) (sha32 _) (by omega) (by omega) at7)
        clear o7
        go_simp
        refine hK.out _ _ (key_low (by assumption) b7) (fun hHeld => ?_)
        clear hK K
        try simp only [Act.put, List.setIfInBounds_toArray, List.set_cons_zero, List.set_cons_succ]
        refine wpAnyH_ready (rs := [9]) (by kernel_rfl) (by simp) ?_
        refine AllReadyH.cons (o := { dst := some 12, op := Op.call { callee := Callee.value (Operand.func 153), args := #[Operand.tmp 11], argTypes := #[23] }, type := 39, pos := "key.go:57", after := #[{ on := 8, ground := Ground.data }, { on := 8, ground := Ground.chain }], guard := none }) rfl (fun K hK => ?_) AllReadyH.nil
        go_simp
        refine (unhide HN).mono ?_
        rintro e w8 ⟨rfl, b8⟩
        go_simp
        refine hK.out _ _ (key_low (by assumption) b8) (fun hHeld => ?_)
        clear hK K
        try simp only [Act.put, List.setIfInBounds_toArray, List.set_cons_zero, List.set_cons_succ]
        refine wpAnyH_ready (rs := [10]) (by kernel_rfl) (by simp) ?_
        refine AllReadyH.cons (o := { dst := some 2, op := Op.assign (Operand.tmp 12), type := 39, pos := "key.go:57", after := #[{ on := 9, ground := Ground.data }, { on := 9, ground := Ground.chain }, { on := 0, ground := Ground.phase }, { on := 1, ground := Ground.phase }, { on := 2, ground := Ground.phase }, { on := 3, ground := Ground.phase }, { on := 4, ground := Ground.phase }, { on := 5, ground := Ground.phase }, { on := 6, ground := Ground.phase }, { on := 7, ground := Ground.phase }, { on := 8, ground := Ground.phase }, { on := 9, ground := Ground.phase }], guard := none }) rfl (fun K hK => ?_) AllReadyH.nil
        go_simp
        refine hK.out _ _ (by assumption) (fun hHeld => ?_)
        clear hK K
        try simp only [Act.put, List.setIfInBounds_toArray, List.set_cons_zero, List.set_cons_succ]
        refine wpAnyH_done (by kernel_rfl) ?_ _
        refine NoPanic.normal ?_
        have HZ : Hid (Below w.heap.size w w8) := hide (low_trans (unhide HB1) (low_trans b6t (low_trans b7 b8)))
        clear b3 at3 b6t b7 b8 at7
        go_wp2
        go_ret
        exact ⟨by unfold idN idH; rfl, unhide HZ⟩
end Go.Proofs.YtkablmjkffdloaaGreatDoor

namespace Go.Proofs.YtkablmjkffdloaaGreatDoor
open Go.RowKit

theorem low_put2 {w wa : World} {g k : Nat} {v : Value} (b : Below w.heap.size w wa) (hg : w.heap.size ≤ g) : Below w.heap.size w (wa.setCell ⟨g, k, none⟩ v) :=
  b.trans ⟨rfl, rfl, rfl, by simp [World.setCell], fun j hj => Below.heap_setCell _ _ _ _ (by show j ≠ g; omega)⟩
theorem put_far {A B : Nat} {x y u v : Value} {w : World} (hAB : A ≠ B) (h : w.cell? ⟨A, 0, none⟩ = some x ∧ w.cell? ⟨A, 1, none⟩ = some y) : ((w.setCell ⟨B, 0, none⟩ u).setCell ⟨B, 1, none⟩ v).cell? ⟨A, 0, none⟩ = some x ∧ ((w.setCell ⟨B, 0, none⟩ u).setCell ⟨B, 1, none⟩ v).cell? ⟨A, 1, none⟩ = some y := by
  have hBA : B ≠ A := fun e => hAB e.symm
  refine ⟨?_, ?_⟩
  · rw [World.cell?_setCell_far _ _ _ _ hBA, World.cell?_setCell_far _ _ _ _ hBA]; exact h.1
  · rw [World.cell?_setCell_far _ _ _ _ hBA, World.cell?_setCell_far _ _ _ _ hBA]; exact h.2

set_option maxRecDepth 100000 in
set_option maxHeartbeats 4000000 in
theorem keySigner_any {nm sec : Bs} (hs : sec.length ≤ 1000000) (hn : nm.length ≤ 1000000) (w : World) : Calls Tryz.prog 109 #[keyV nm sec] w fun e w' => e = .returned (.agg #[.string (ba nm), .int .u32 ((idN nm sec).toNat : Int)]) ∧ Below w.heap.size w w' := by
  obtain ⟨A, hA⟩ : ∃ A, w.heap.size = A := ⟨_, rfl⟩
  obtain ⟨W1, hW1⟩ : ∃ W1, w.alloc (.cells #[.string (ba nm), .string (ba sec)] 75) = W1 := ⟨_, rfl⟩
  have b1 : Below w.heap.size w W1 := by rw [← hW1]; exact (Below.refl _ _).alloc (Nat.le_refl _) _
  have s1 : W1.heap.size = A + 1 := by rw [← hW1, ← hA]; simp
  have q1 : Blk W1 A #[.string (ba nm), .string (ba sec)] 75 := by rw [← hW1, ← hA]; exact Blk.new _ _ _
  obtain ⟨W2, hW2⟩ : ∃ W2, W1.alloc (.cells #[.string ⟨#[]⟩, .int .u32 0] 154) = W2 := ⟨_, rfl⟩
  have b2 : Below W1.heap.size W1 W2 := by rw [← hW2]; exact (Below.refl _ _).alloc (Nat.le_refl _) _
  have q2 : Blk W2 (A + 1) #[.string ⟨#[]⟩, .int .u32 0] 154 := by rw [← s1, ← hW2]; exact Blk.new _ _ _
  have q12 := q1.low b2
  have k0 : W2.cell? ⟨A, 0, none⟩ = some (.string (ba nm)) := q12.cell 0
  have k1 : W2.cell? ⟨A, 1, none⟩ = some (.string (ba sec)) := q12.cell 1
  obtain ⟨N, hN⟩ : ∃ N : Nat, (idN nm sec).toNat = N := ⟨_, rfl⟩
  rw [hN]
  have HK : Hid (∀ W, Below W2.heap.size W2 W → Calls Tryz.prog 104 #[.agg #[.string (ba nm), .string (ba sec)]] W fun e w' => e = .returned (.int .u32 (N : Int)) ∧ Below W2.heap.size W2 w') := hide (fun W hW => by
    have k := keyID_any hs hn W
    rw [hN] at k
    refine k.mono ?_
    rintro e w' ⟨rfl, b⟩
    exact ⟨rfl, low_trans hW b⟩)
  have HW1 := hide hW1
  have HW2 := hide hW2
  have HA := hide hA
  have HB := hide (low_trans b1 b2)
  have HQ := hide q2
  clear q1 q2 q12 b1 b2 hW1 hW2 s1 hN
  unfold keyV
  go_enter Tryz.func109, Tryz.ntmps109
  go_wp2
  rw [unhide HW1, unhide HW2]
  clear HW1 HW2
  go_region_held3 (fun w' => w'.cell? ⟨A, 0, none⟩ = some (.string (ba nm)) ∧ w'.cell? ⟨A, 1, none⟩ = some (.string (ba sec)))
    (first | assumption | exact ⟨k0, k1⟩ | exact put_far (by omega) (by assumption))
    (first
      | (go_at_call 104; refine (unhide HK _ (Below.refl _ _).drew).mono ?_; rintro e w3 ⟨rfl, b3⟩; have S3 := key_low ⟨k0, k1⟩ b3; have q3 := (unhide HQ).low b3; have c30 := q3.cell 0; have c31 := q3.cell 1; have f30 := q3.free 0; have f31 := q3.free 1; have HB3 := hide b3; have HQ3 := hide q3; clear b3 q3))
  have qs := ((unhide HQ3).set 0 (.string (ba nm))).set 1 (.int .u32 (N : Int))
  have d0 := qs.cell 0
  have d1 := qs.cell 1
  have HL : Hid (Below w.heap.size w ((w3.setCell ⟨A + 1, 0, none⟩ (.string (ba nm))).setCell ⟨A + 1, 1, none⟩ (.int .u32 (N : Int)))) := hide (low_put2 (low_put2 (low_trans (unhide HB) (unhide HB3)) (by rw [unhide HA]; omega)) (by rw [unhide HA]; omega))
  clear qs
  go_wp2
  exact bodyPost_ret (v := .agg #[.string (ba nm), .int .u32 (N : Int)]) (by simp [results, Tryz.results109, go_sem, d0, d1]) rfl ⟨rfl, unhide HL⟩
end Go.Proofs.YtkablmjkffdloaaGreatDoor

namespace Go.Proofs.YtkablmjkffdloaaGreatDoor
open Go.RowKit

theorem conv_at {w : World} {B O n c : Nat} {l : Bs} (hn : l.length = n) (h : BAt w (some ⟨B, O, none⟩) l) : (convert 23 9 (.slice (some ⟨B, O, none⟩) n c)).run Tryz.prog w = .ok (.string (ba l)) w := by
  subst hn
  refine run_convert_bytes_back w 23 9 5 _ _ l Tryz.underlying23 Tryz.underlying5 Tryz.underlying9 (fun j hj => ?_)
  obtain ⟨B', O', e, hc⟩ := h.at hj
  cases e
  by_cases h0 : j = 0
  · subst h0
    simpa [Addr.add] using hc
  · simpa [Addr.add, h0] using hc

set_option maxRecDepth 100000 in
set_option maxHeartbeats 2000000 in
theorem newKey_ok {w : World} {B O n c : Nat} {nm sec : Bs} (hn : nameB nm = true) (hl : nm.length ≤ 1000000) (hs : sec.length = n) (h1 : 1 ≤ n) (h64 : n ≤ 64) (h : BAt w (some ⟨B, O, none⟩) sec) :
    Calls Tryz.prog 102 #[.string (ba nm), .slice (some ⟨B, O, none⟩) n c] w fun e w' => e = .returned (.tuple #[.agg #[.string (ba nm), .string (ba sec)], .int .i64 0]) ∧ Below w.heap.size w w' := by
  obtain ⟨A, hA⟩ : ∃ A, w.heap.size = A := ⟨_, rfl⟩
  obtain ⟨W1, hW1⟩ : ∃ W1, w.alloc (.cells #[.string ⟨#[]⟩, .string ⟨#[]⟩] 75) = W1 := ⟨_, rfl⟩
  have b1 : Below w.heap.size w W1 := by rw [← hW1]; exact (Below.refl _ _).alloc (Nat.le_refl _) _
  have q1 : Blk W1 A #[.string ⟨#[]⟩, .string ⟨#[]⟩] 75 := by rw [← hW1, ← hA]; exact Blk.new _ _ _
  have hcv := conv_at (c := c) hs (h.low b1)
  have KN : Hid (∀ W, Calls Tryz.prog 151 #[.string (ba nm)] W fun e w' => e = .returned (.bool true) ∧ w' = W) := hide (fun W => by have k := isKeyName_any hl W; rw [hn] at k; exact k)
  have c0 := q1.cell 0
  have c1 := q1.cell 1
  have f0 := q1.free 0
  have f1 := q1.free 1
  have qs := (q1.set 0 (.string (ba nm))).set 1 (.string (ba sec))
  have d0 := qs.cell 0
  have d1 := qs.cell 1
  have HL : Hid (Below w.heap.size w ((W1.setCell ⟨A, 0, none⟩ (.string (ba nm))).setCell ⟨A, 1, none⟩ (.string (ba sec)))) := hide (low_put2 (low_put2 b1 (by omega)) (by omega))
  have i1 : ¬ (n : Int) < 1 := by omega
  have i2 : ¬ (64 : Int) < (n : Int) := by omega
  have HW := hide hW1
  clear hn hl hs h1 h64 h b1 q1 qs hW1
  go_enter Tryz.func102, Tryz.ntmps102
  go_wp2_with (go_at_call 151; fail)
  rw [unhide HW]
  refine (unhide KN _).mono ?_
  rintro e wn ⟨rfl, hwn⟩
  rw [hwn]
  clear hwn wn
  go_wp2
  exact bodyPost_ret (v := .tuple #[.agg #[.string (ba nm), .string (ba sec)], .int .i64 0]) (by simp [results, Tryz.results102, go_sem, d0, d1]) rfl ⟨rfl, unhide HL⟩

set_option maxRecDepth 100000 in
set_option maxHeartbeats 2000000 in
theorem newKey_bad {w : World} {a : Option Addr} {n c : Nat} {nm : Bs} (hn : nameB nm = false) (hl : nm.length ≤ 1000000) :
    Calls Tryz.prog 102 #[.string (ba nm), .slice a n c] w fun e w' => e = .returned (.tuple #[.agg #[.string ⟨#[]⟩, .string ⟨#[]⟩], .int .i64 20]) ∧ Below w.heap.size w w' := by
  obtain ⟨A, hA⟩ : ∃ A, w.heap.size = A := ⟨_, rfl⟩
  obtain ⟨W1, hW1⟩ : ∃ W1, w.alloc (.cells #[.string ⟨#[]⟩, .string ⟨#[]⟩] 75) = W1 := ⟨_, rfl⟩
  have b1 : Below w.heap.size w W1 := by rw [← hW1]; exact (Below.refl _ _).alloc (Nat.le_refl _) _
  have q1 : Blk W1 A #[.string ⟨#[]⟩, .string ⟨#[]⟩] 75 := by rw [← hW1, ← hA]; exact Blk.new _ _ _
  have KN : Hid (∀ W, Calls Tryz.prog 151 #[.string (ba nm)] W fun e w' => e = .returned (.bool false) ∧ w' = W) := hide (fun W => by have k := isKeyName_any hl W; rw [hn] at k; exact k)
  have c0 := q1.cell 0
  have c1 := q1.cell 1
  have f0 := q1.free 0
  have f1 := q1.free 1
  have qs := (q1.set 0 (.string ⟨#[]⟩)).set 1 (.string ⟨#[]⟩)
  have d0 := qs.cell 0
  have d1 := qs.cell 1
  have HL : Hid (Below w.heap.size w ((W1.setCell ⟨A, 0, none⟩ (.string ⟨#[]⟩)).setCell ⟨A, 1, none⟩ (.string ⟨#[]⟩))) := hide (low_put2 (low_put2 b1 (by omega)) (by omega))
  have HW := hide hW1
  clear hn hl b1 q1 qs hW1
  go_enter Tryz.func102, Tryz.ntmps102
  go_wp2_with (go_at_call 151; fail)
  rw [unhide HW]
  refine (unhide KN _).mono ?_
  rintro e wn ⟨rfl, hwn⟩
  rw [hwn]
  clear hwn wn
  go_wp2
  exact bodyPost_ret (v := .tuple #[.agg #[.string ⟨#[]⟩, .string ⟨#[]⟩], .int .i64 20]) (by simp [results, Tryz.results102, go_sem, d0, d1]) rfl ⟨rfl, unhide HL⟩

theorem in_of {w : World} {a : Option Addr} {b : Bs} {n : Nat} (hn : b.length = n) (h : BAt w a b) : Lib.BytesIn w a n (b.map fun x => (x.toNat : Int)) := fun h0 => by
  rcases h.els with e | ⟨B, O, rfl, hc⟩
  · subst e; simp at hn; omega
  · refine ⟨B, O, rfl, fun i hi => ?_⟩
    rw [hc i (by omega), List.getD_eq_getElem?_getD, List.getElem?_map, List.getElem?_eq_getElem (by omega)]
    rfl
theorem bytesOf_map (b : Bs) : Lib.bytesOf (b.map fun x => (x.toNat : Int)) = b := by
  unfold Lib.bytesOf
  rw [List.map_map]
  conv => rhs; rw [← List.map_id b]
  apply List.map_congr_left
  intro x _
  simp
/-- bytes.Equal. -/
theorem equal_any {w : World} {a a2 : Option Addr} {n c n2 c2 : Nat} {b b2 : Bs} (hn : b.length = n) (hn2 : b2.length = n2) (h : BAt w a b) (h2 : BAt w a2 b2) :
    Calls Tryz.prog 75 #[.slice a n c, .slice a2 n2 c2] w fun e w' => e = .returned (.bool (decide (b = b2))) ∧ w' = w := by
  refine (Tryz.bytes_Equal_all a a2 n c n2 c2 _ _ w (by simpa using hn) (by simpa using hn2) (in_of hn h) (in_of hn2 h2)).mono ?_
  rintro e w' ⟨rfl, rfl⟩
  refine ⟨?_, rfl⟩
  rw [bytesOf_map, bytesOf_map]
  congr 2
  rw [Bool.eq_iff_iff]; simp

set_option maxRecDepth 100000 in
set_option maxHeartbeats 2000000 in
theorem verify_any {w : World} {nm sec text sig : Bs} {a : Option Addr} {n c : Nat} (hs : sec.length ≤ 1000000) (ht : text.length ≤ 1000000) (hn : sig.length = n) (h : BAt w a sig) :
    Calls Tryz.prog 62 #[.agg #[.string (ba nm), .string (ba sec)], .string (ba text), .slice a n c] w fun e w' => e = .returned (.bool (decide (sig = sigL sec text))) ∧ Below w.heap.size w w' := by
  obtain ⟨A, hA⟩ : ∃ A, w.heap.size = A := ⟨_, rfl⟩
  obtain ⟨W1, hW1⟩ : ∃ W1, w.alloc (.cells #[.string (ba nm), .string (ba sec)] 75) = W1 := ⟨_, rfl⟩
  have b1 : Below w.heap.size w W1 := by rw [← hW1]; exact (Below.refl _ _).alloc (Nat.le_refl _) _
  have q1 : Blk W1 A #[.string (ba nm), .string (ba sec)] 75 := by rw [← hW1, ← hA]; exact Blk.new _ _ _
  have k0 : W1.cell? ⟨A, 0, none⟩ = some (.string (ba nm)) := q1.cell 0
  have k1 : W1.cell? ⟨A, 1, none⟩ = some (.string (ba sec)) := q1.cell 1
  have HK := hide (keySign_any (nm := nm) hs ht W1)
  unfold keyV at HK
  have HW := hide hW1
  have HB := hide b1
  have HH := hide (h.low b1)
  have HN := hide hn
  clear q1 b1 hW1 h hn
  go_enter Tryz.func62, Tryz.ntmps62
  go_wp2_with (go_at_call 60; fail)
  rw [unhide HW]
  go_wp2_with (go_at_call 60; fail)
  refine (unhide HK).mono ?_
  rintro e w3 ⟨v3, rfl, o3, b3⟩
  obtain ⟨g3, c3, rfl, at3, -, -⟩ := OwnB.adr2 o3 (sha32 _)
  have HE := hide (equal_any (c := c) (c2 := c3) (unhide HN) (sha32 _) ((unhide HH).low b3) at3)
  have HB3 := hide (low_trans (unhide HB) b3)
  clear o3 b3 at3
  go_wp2_with (go_at_call 75; fail)
  refine (unhide HE).mono ?_
  rintro e wn ⟨rfl, hwn⟩
  rw [hwn]
  clear hwn wn
  go_wp2
  go_ret
  exact ⟨rfl, unhide HB3⟩
end Go.Proofs.YtkablmjkffdloaaGreatDoor

namespace Go.Proofs.YtkablmjkffdloaaGreatDoor
open Go.RowKit

def dashB : Bs := [226, 128, 148, 32]
/-- A signature's line. -/
def sigLine (nm : Bs) (id : UInt32) (sig : Bs) : Bs := dashB ++ nm ++ [32] ++ b64 (be4 id ++ sig) ++ [10]

set_option maxRecDepth 100000 in
set_option maxHeartbeats 2000000 in
theorem idBytes_any (x : UInt32) (w : World) : Calls Tryz.prog 157 #[.int .u32 (x.toNat : Int)] w fun e w' => e = .returned (.slice (some ⟨w.heap.size, 0, none⟩) 4 4) ∧ BAt w' (some ⟨w.heap.size, 0, none⟩) (be4 x) ∧ Below w.heap.size w w' := by
  have e0 := byte4_24 x
  have e1 := byte4_16 x
  have e2 := byte4_8 x
  have e3 := byte4_0 x
  obtain ⟨y0, h0⟩ : ∃ y, (x >>> 24).toUInt8 = y := ⟨_, rfl⟩
  obtain ⟨y1, h1⟩ : ∃ y, (x >>> 16).toUInt8 = y := ⟨_, rfl⟩
  obtain ⟨y2, h2⟩ : ∃ y, (x >>> 8).toUInt8 = y := ⟨_, rfl⟩
  obtain ⟨y3, h3⟩ : ∃ y, x.toUInt8 = y := ⟨_, rfl⟩
  rw [h0] at e0
  rw [h1] at e1
  rw [h2] at e2
  rw [h3] at e3
  have hE : be4 x = [y0, y1, y2, y3] := by unfold be4; rw [h0, h1, h2, h3]
  rw [hE]
  have HQ := hide (Blk.new w #[.int .u8 (y0.toNat : Int), .int .u8 (y1.toNat : Int), .int .u8 (y2.toNat : Int), .int .u8 (y3.toNat : Int)] 5)
  have HB := hide (lowA (Below.refl _ w) (.cells #[.int .u8 (y0.toNat : Int), .int .u8 (y1.toNat : Int), .int .u8 (y2.toNat : Int), .int .u8 (y3.toNat : Int)] 5))
  have lx := u32_lt x
  have e4 : (x.toNat : Int) / 16777216 = (y0.toNat : Int) := by omega
  clear h0 h1 h2 h3 hE
  go_enter Tryz.func157, Tryz.ntmps157
  go_wp2
  go_ret
  refine ⟨rfl, ⟨Or.inr ⟨w.heap.size, 0, rfl, fun k hk => ?_⟩⟩, unhide HB⟩
  match k, hk with
  | 0, _ => exact (unhide HQ).cell 0
  | 1, _ => exact (unhide HQ).cell 1
  | 2, _ => exact (unhide HQ).cell 2
  | 3, _ => exact (unhide HQ).cell 3

theorem tri_low {A : Nat} {x y z : Value} {w w' : World} (h : w.cell? ⟨A, 0, none⟩ = some x ∧ w.cell? ⟨A, 1, none⟩ = some y ∧ w.cell? ⟨A, 2, none⟩ = some z) (b : Below w.heap.size w w') : w'.cell? ⟨A, 0, none⟩ = some x ∧ w'.cell? ⟨A, 1, none⟩ = some y ∧ w'.cell? ⟨A, 2, none⟩ = some z :=
  ⟨(b.cell (lt_of_cell h.1)).trans h.1, (b.cell (lt_of_cell h.2.1)).trans h.2.1, (b.cell (lt_of_cell h.2.2)).trans h.2.2⟩

set_option maxRecDepth 100000 in
set_option maxHeartbeats 4000000 in
theorem line_any {w : World} {nm sig : Bs} {id : UInt32} {a : Option Addr} {n c : Nat} (hl : nm.length ≤ 1000) (hn : sig.length = n) (hN : n ≤ 1000) (h : BAt w a sig) :
    Calls Tryz.prog 110 #[.agg #[.string (ba nm), .int .u32 (id.toNat : Int), .slice a n c]] w fun e w' => e = .returned (.string (ba (sigLine nm id sig))) ∧ Below w.heap.size w w' := by
  obtain ⟨A, hA⟩ : ∃ A, w.heap.size = A := ⟨_, rfl⟩
  obtain ⟨W1, hW1⟩ : ∃ W1, w.alloc (.cells #[.string (ba nm), .int .u32 (id.toNat : Int), .slice a n c] 157) = W1 := ⟨_, rfl⟩
  have b1 : Below w.heap.size w W1 := by rw [← hW1]; exact (Below.refl _ _).alloc (Nat.le_refl _) _
  have q1 : Blk W1 A #[.string (ba nm), .int .u32 (id.toNat : Int), .slice a n c] 157 := by rw [← hW1, ← hA]; exact Blk.new _ _ _
  have k0 : W1.cell? ⟨A, 0, none⟩ = some (.string (ba nm)) := q1.cell 0
  have k1 : W1.cell? ⟨A, 1, none⟩ = some (.int .u32 (id.toNat : Int)) := q1.cell 1
  have k2 : W1.cell? ⟨A, 2, none⟩ = some (.slice a n c) := q1.cell 2
  have HI := hide (fun W => idBytes_any id W)
  obtain ⟨E, hE⟩ : ∃ E, b64 (be4 id ++ sig) = E := ⟨_, rfl⟩
  have hEl : E.length ≤ 1340 := by
    rw [← hE]
    exact Nat.le_trans (b64_len 335 _ (by simp [be4]; omega)) (by omega)
  obtain ⟨P1, hP1⟩ : ∃ P1, dashB ++ nm = P1 := ⟨_, rfl⟩
  obtain ⟨P2, hP2⟩ : ∃ P2, P1 ++ [32] = P2 := ⟨_, rfl⟩
  obtain ⟨P3, hP3⟩ : ∃ P3, P2 ++ E = P3 := ⟨_, rfl⟩
  obtain ⟨P4, hP4⟩ : ∃ P4, P3 ++ [10] = P4 := ⟨_, rfl⟩
  have HF : Hid (sigLine nm id sig = P4) := hide (by unfold sigLine; rw [hE, hP1, hP2, hP3, hP4])
  have c1 : (⟨#[226, 128, 148, 32]⟩ : ByteArray) ++ ba nm = ba P1 := by rw [← hP1]; exact cat dashB nm
  have c2 : ba P1 ++ (⟨#[32]⟩ : ByteArray) = ba P2 := by rw [← hP2]; exact cat _ [32]
  have c3 : ba P2 ++ ba E = ba P3 := by rw [← hP3]; exact cat _ _
  have c4 : ba P3 ++ (⟨#[10]⟩ : ByteArray) = ba P4 := by rw [← hP4]; exact cat _ [10]
  obtain ⟨x0, z0⟩ : ∃ x0, (ba nm).size = x0 := ⟨_, rfl⟩
  obtain ⟨x1, z1⟩ : ∃ x1, (ba P1).size = x1 := ⟨_, rfl⟩
  obtain ⟨x2, z2⟩ : ∃ x2, (ba P2).size = x2 := ⟨_, rfl⟩
  obtain ⟨x3, z3⟩ : ∃ x3, (ba P3).size = x3 := ⟨_, rfl⟩
  obtain ⟨x4, z4⟩ : ∃ x4, (ba E).size = x4 := ⟨_, rfl⟩
  have y0 : x0 ≤ 1000 := by rw [← z0, ba_size]; exact hl
  have y4 : x4 ≤ 1340 := by rw [← z4, ba_size]; exact hEl
  have y1 : x1 = 4 + x0 := by rw [← z1, ← z0, ba_size, ba_size, ← hP1]; simp [dashB]; omega
  have y2 : x2 = x1 + 1 := by rw [← z2, ← z1, ba_size, ba_size, ← hP2]; simp
  have y3 : x3 = x2 + x4 := by rw [← z3, ← z2, ← z4, ba_size, ba_size, ba_size, ← hP3]; simp
  have g0 : ¬ 9223372036854775807 < 4 + x0 := by omega
  have g1 : ¬ 9223372036854775807 < x1 + 1 := by omega
  have g2 : ¬ 9223372036854775807 < x2 + x4 := by omega
  have g3 : ¬ 9223372036854775807 < x3 + 1 := by omega
  have HB1 := hide b1
  have HW1 := hide hW1
  have HH := hide (h.low b1)
  have HN := hide hn
  have HE := hide hE
  obtain ⟨M, hM⟩ : ∃ M, (be4 id ++ sig).length = M := ⟨_, rfl⟩
  have hM2 : M ≤ 1004 := by rw [← hM, List.length_append, hn]; show 4 + n ≤ _; omega
  have HM := hide hM
  clear hM
  clear q1 hW1 b1 h hn y1 y2 y3 hP1 hP2 hP3 hP4 hE
  go_enter Tryz.func110, Tryz.ntmps110
  go_wp2
  rw [unhide HW1]
  clear HW1
  go_region_held3 (fun w' => w'.cell? ⟨A, 0, none⟩ = some (.string (ba nm)) ∧ w'.cell? ⟨A, 1, none⟩ = some (.int .u32 (id.toNat : Int)) ∧ w'.cell? ⟨A, 2, none⟩ = some (.slice a n c))
    (first | assumption | exact ⟨k0, k1, k2⟩ | exact tri_low (by assumption) (lowA (Below.refl _ _) _))
    (first
      | (go_at_call 157; refine (unhide HI _).mono ?_; rintro e w3 ⟨rfl, at3, b3⟩; have S3 := tri_low (by assumption) b3)
      | (go_at_call 117; refine (concat2 (p0 := be4 id) (p1 := sig) (by simp) (at3.low (Below.refl _ _)) ((unhide HH).low (low_trans (lowD (Below.refl _ _)) b3)) rfl (unhide HN) (by show 4 + n ≤ _; omega)).mono ?_; rintro e w6 ⟨v6, rfl, o6, b6⟩; have S6 := tri_low S3 b6; obtain ⟨a6, c6, hv6, at6, hc6, -⟩ := OwnB.at o6; rw [unhide HM] at hv6 hc6; subst hv6; have HX := hide (base64_any (c := c6) (unhide HM) (by omega) hc6 at6); rw [unhide HE, show (⟨E.toArray⟩ : ByteArray) = ba E from rfl] at HX; clear o6)
      | (go_at_call 25; refine (unhide HX).mono ?_; rintro e w7 ⟨rfl, b7⟩; have S7 := tri_low S6 b7))
  have HZ : Hid (Below w.heap.size w w7) := hide (low_trans (unhide HB1) (low_trans (lowD (Below.refl _ _)) (low_trans b3 (low_trans b6 b7))))
  clear b3 at3 b6 at6 b7 S3 S6 S7
  go_wp2
  go_ret
  exact ⟨by rw [unhide HF]; rfl, unhide HZ⟩
end Go.Proofs.YtkablmjkffdloaaGreatDoor
