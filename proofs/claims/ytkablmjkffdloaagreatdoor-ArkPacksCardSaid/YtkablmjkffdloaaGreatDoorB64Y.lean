/-
  A text read as base64.
-/
import Derived.Test.YtkablmjkffdloaaGreatDoorB64W
import Derived.Test.YtkablmjkffdloaaGreatDoorRefY
import Derived.Deep.RegionWith
import Derived.Room.Make
namespace Go.Proofs.YtkablmjkffdloaaGreatDoor
open Go.RowKit

/-- Letters as they come, ahead of what is laid over the last ones. -/
def rawL : Bs → Bs
  | [] => []
  | [a] => lets (num3 a 0 0) 4
  | [a, b] => lets (num3 a b 0) 4
  | a :: b :: c :: r => lets (num3 a b c) 4 ++ rawL r
/-- One to three bytes as a number, what lacks as 0. -/
def numG (g : Bs) : Nat := (g.getD 0 0).toNat * 65536 + (g.getD 1 0).toNat * 256 + (g.getD 2 0).toNat
theorem raw_app : ∀ (k : Nat) (x y : Bs), x.length = 3 * k → rawL (x ++ y) = rawL x ++ rawL y
  | 0, x, y, h => by
    have : x = [] := List.length_eq_zero_iff.1 (by omega)
    subst this
    rfl
  | k + 1, x, y, h => by
    match x, h with
    | a :: b :: c :: r, h =>
      have hr : r.length = 3 * k := by simp at h; omega
      show lets (num3 a b c) 4 ++ rawL (r ++ y) = (lets (num3 a b c) 4 ++ rawL r) ++ rawL y
      rw [raw_app k r y hr, List.append_assoc]
    | [], h => simp at h
    | [_], h => simp at h; omega
    | [_, _], h => simp at h; omega
theorem raw_grp (g : Bs) (h1 : 1 ≤ g.length) (h3 : g.length ≤ 3) : rawL g = lets (numG g) 4 := by
  match g, h1, h3 with
  | [a], _, _ => rfl
  | [a, b], _, _ => rfl
  | [a, b, c], _, _ => show lets (num3 a b c) 4 ++ [] = _; rw [List.append_nil]; rfl
theorem raw_next {b : Bs} {k i : Nat} (hi : i = 3 * k) (hlt : i < b.length) : rawL (b.take (i + 3)) = rawL (b.take i) ++ lets (numG ((b.drop i).take 3)) 4 := by
  have e : b.take (i + 3) = b.take i ++ (b.drop i).take 3 := by rw [List.take_add]
  rw [e, raw_app k _ _ (by rw [List.length_take]; omega), raw_grp ((b.drop i).take 3) (by rw [List.length_take, List.length_drop]; omega) (by rw [List.length_take]; omega)]
theorem lets_len (n : Nat) : (lets n 4).length = 4 := rfl
theorem numG_lt (g : Bs) : numG g < 16777216 := by
  unfold numG
  have h0 := UInt8.toNat_lt (g.getD 0 0)
  have h1 := UInt8.toNat_lt (g.getD 1 0)
  have h2 := UInt8.toNat_lt (g.getD 2 0)
  omega
theorem raw_len : ∀ (b : Bs), ∃ k, (rawL b).length = 4 * k ∧ k ≤ b.length ∧ (1 ≤ b.length → 1 ≤ k)
  | [] => ⟨0, rfl, Nat.le_refl _, fun h => by simp at h⟩
  | [a] => ⟨1, rfl, Nat.le_refl _, fun _ => Nat.le_refl _⟩
  | [a, b] => ⟨1, rfl, by simp, fun _ => Nat.le_refl _⟩
  | a :: b :: c :: r => by
    obtain ⟨k, h1, h2, _⟩ := raw_len r
    refine ⟨k + 1, ?_, by simp; omega, fun _ => by omega⟩
    show (lets (num3 a b c) 4 ++ rawL r).length = _
    rw [List.length_append, h1, lets_len]
    omega
theorem set_app {x y : Bs} {k : Nat} {c : UInt8} (h : x.length ≤ k) : (x ++ y).set k c = x ++ y.set (k - x.length) c := List.set_append_right _ _ h
/-- What is laid over the last letters makes it whole. -/
theorem raw_fix : ∀ (b : Bs), (b.length % 3 = 0 → rawL b = b64 b) ∧ (b.length % 3 = 1 → ((rawL b).set ((rawL b).length - 2) 61).set ((rawL b).length - 1) 61 = b64 b) ∧ (b.length % 3 = 2 → (rawL b).set ((rawL b).length - 1) 61 = b64 b)
  | [] => ⟨fun _ => rfl, fun h => by simp at h, fun h => by simp at h⟩
  | [a] => ⟨fun h => by simp at h, fun _ => rfl, fun h => by simp at h⟩
  | [a, b] => ⟨fun h => by simp at h, fun h => by simp at h, fun _ => rfl⟩
  | a :: b :: c :: r => by
    obtain ⟨h0, h1, h2⟩ := raw_fix r
    have hl : (a :: b :: c :: r).length % 3 = r.length % 3 := by simp; omega
    obtain ⟨k, hk, _, hk1⟩ := raw_len r
    have el : (lets (num3 a b c) 4 ++ rawL r).length = 4 + (rawL r).length := by rw [List.length_append, lets_len]
    rw [hl]
    refine ⟨fun h => ?_, fun h => ?_, fun h => ?_⟩
    · show lets (num3 a b c) 4 ++ rawL r = lets (num3 a b c) 4 ++ b64 r
      rw [h0 h]
    · have : 1 ≤ k := hk1 (by omega)
      show ((lets (num3 a b c) 4 ++ rawL r).set ((lets (num3 a b c) 4 ++ rawL r).length - 2) 61).set ((lets (num3 a b c) 4 ++ rawL r).length - 1) 61 = lets (num3 a b c) 4 ++ b64 r
      rw [el, set_app (by rw [lets_len]; omega), set_app (by rw [lets_len]; omega), lets_len, ← h1 h, show 4 + (rawL r).length - 2 - 4 = (rawL r).length - 2 by omega, show 4 + (rawL r).length - 1 - 4 = (rawL r).length - 1 by omega]
    · have : 1 ≤ k := hk1 (by omega)
      show (lets (num3 a b c) 4 ++ rawL r).set ((lets (num3 a b c) 4 ++ rawL r).length - 1) 61 = lets (num3 a b c) 4 ++ b64 r
      rw [el, set_app (by rw [lets_len]; omega), lets_len, ← h2 h, show 4 + (rawL r).length - 1 - 4 = (rawL r).length - 1 by omega]

theorem OwnB.put {base : Nat} {w : World} {g n cap : Nat} {l : Bs} (h : OwnB base w (.slice (some ⟨g, 0, none⟩) n cap) l) (k : Nat) (c : UInt8) : OwnB base (w.setCell ⟨g, k, none⟩ (.int .u8 (c.toNat : Int))) (.slice (some ⟨g, 0, none⟩) n cap) (l.set k c) := by
  rcases h.2 with ⟨e, _⟩ | ⟨g', cap', cur, e, hb, hh, h1, h2, h3, h4⟩
  · cases e
  · have e1 := (Value.slice.inj e).1
    cases e1
    have hs : Blk (w.setCell ⟨g, k, none⟩ (byteV c)) g (cur.setIfInBounds k (byteV c)) 5 := Blk.set hh k (byteV c)
    refine ⟨by simp, Or.inr ⟨g, cap', _, by rw [List.length_set]; exact e, hb, hs, by simpa using h1, h2, by simpa using h3, ?_⟩⟩
    rw [Array.toList_setIfInBounds, List.take_set, List.length_set, h4, List.map_set]
theorem own_free {base : Nat} {w : World} {g n cap k : Nat} {l : Bs} (h : OwnB base w (.slice (some ⟨g, 0, none⟩) n cap) l) : w.frozen? ⟨g, k, none⟩ = false ∧ base ≤ g ∧ n = l.length ∧ n ≤ cap := by
  rcases h.2 with ⟨e, _⟩ | ⟨g', cap', cur, e, hb, hh, h1, _⟩
  · cases e
  · obtain ⟨e1, e2, e3⟩ := Value.slice.inj e
    cases e1
    exact ⟨Lib.frozen_of_heap hh k, hb, e2, by omega⟩
theorem own_cell {base : Nat} {w : World} {g n cap k : Nat} {l : Bs} (h : OwnB base w (.slice (some ⟨g, 0, none⟩) n cap) l) (hk : k < l.length) : w.cell? ⟨g, k, none⟩ = some (.int .u8 (l[k].toNat : Int)) := by
  rcases h.2 with ⟨e, _⟩ | ⟨g', cap', cur, e, hb, hh, h1, h2, h3, h4⟩
  · cases e
  · obtain ⟨e1, e2, e3⟩ := Value.slice.inj e
    cases e1
    have hb2 : Blk w g cur 5 := hh
    rw [hb2.cell k]
    have h5 : (l.map byteV)[k]? = some (.int .u8 (l[k].toNat : Int)) := by rw [List.getElem?_map, List.getElem?_eq_getElem hk]; rfl
    rw [← h4, List.getElem?_take, if_pos (by omega), Array.getElem?_toList] at h5
    exact h5
theorem own_form {base : Nat} {w : World} {v : Value} {l : Bs} (h : OwnB base w v l) (hl : 1 ≤ l.length) : ∃ g cap, v = .slice (some ⟨g, 0, none⟩) l.length cap := by
  rcases h.2 with ⟨_, e⟩ | ⟨g, cap, cur, e, _⟩
  · omega
  · exact ⟨g, cap, e⟩
theorem low_put {w wa : World} {g k : Nat} {v : Value} (b : Below w.heap.size w wa) (hg : w.heap.size ≤ g) : Below w.heap.size w (wa.setCell ⟨g, k, none⟩ v) :=
  b.trans ⟨rfl, rfl, rfl, by simp [World.setCell], fun j hj => Below.heap_setCell _ _ _ _ (by show j ≠ g; omega)⟩

set_option maxRecDepth 100000 in
set_option maxHeartbeats 4000000 in
theorem refB64_any {w : World} {a : Option Addr} {n c : Nat} {b : Bs} (hn : b.length = n) (hN : n ≤ 268435456) (h : BAt w a b) :
    Calls Tryz.prog 33 #[.slice a n c] w fun e w' => e = .returned (.string ⟨(b64 b).toArray⟩) ∧ Below w.heap.size w w' := by
  have HN := hide hn
  have H := hide h
  clear hn h
  go_enter Tryz.func33, Tryz.ntmps33
  go_wp2
  go_loopw [3, 4, 5] (fun v3 v4 _ wr => ∃ i k : Nat, i = 3 * k ∧ i ≤ n + 2 ∧ v4 = .int .i64 (i : Int) ∧ OwnB w.heap.size wr v3 (rawL (b.take i)) ∧ Below w.heap.size w wr) (fun _ v4 _ _ => n + 3 - (intOf v4).toNat)
  case atStart => exact ⟨0, 0, rfl, Nat.zero_le _, rfl, World.ownsRow_nil _ _ _ _, Below.refl _ _⟩
  case round =>
    rename World => wr
    obtain ⟨i, k, hik, hin, rfl, ho, hbw⟩ := hrel
    by_cases hlt : i < n
    · have hil : i < b.length := by rw [unhide HN]; exact hlt
      have hB := (unhide H).low hbw
      obtain ⟨B, O, rfl, he⟩ : ∃ B O, a = some ⟨B, O, none⟩ ∧ ∀ k (hk : k < b.length), wr.cell? ⟨B, O + k, none⟩ = some (.int .u8 (b[k].toNat : Int)) := by
        rcases hB.els with e | h
        · rw [e] at hil; simp at hil
        · exact h
      have hnx := raw_next hik hil
      obtain ⟨x0, hx0⟩ : ∃ x, b[i] = x := ⟨_, rfl⟩
      have c0 := he i hil
      rw [hx0] at c0
      have g0 : ((b.drop i).take 3).getD 0 0 = x0 := by
        rw [List.getD_eq_getElem?_getD, List.getElem?_take, if_pos (by decide), List.getElem?_drop, Nat.add_zero, List.getElem?_eq_getElem hil, hx0]; rfl
      obtain ⟨i1, hi1⟩ : ∃ i1, i + 1 = i1 := ⟨_, rfl⟩
      obtain ⟨i2, hi2⟩ : ∃ i2, i + 2 = i2 := ⟨_, rfl⟩
      obtain ⟨i3, hi3⟩ : ∃ i3, i + 3 = i3 := ⟨_, rfl⟩
      have ei1 : (i : Int) + 1 = (i1 : Int) := by omega
      have ei2 : (i : Int) + 2 = (i2 : Int) := by omega
      have ei3 : (i : Int) + 3 = (i3 : Int) := by omega
      -- the number of the group
      obtain ⟨NG, hNG⟩ : ∃ NG, numG ((b.drop i).take 3) = NG := ⟨_, rfl⟩
      have hNGb : NG < 16777216 := by rw [← hNG]; exact numG_lt _
      obtain ⟨p0, hp0⟩ : ∃ p, NG / 262144 = p := ⟨_, rfl⟩
      obtain ⟨y1, hy1⟩ : ∃ p, NG / 4096 = p := ⟨_, rfl⟩
      obtain ⟨p1, hp1⟩ : ∃ p, y1 % 64 = p := ⟨_, rfl⟩
      obtain ⟨y2, hy2⟩ : ∃ p, NG / 64 = p := ⟨_, rfl⟩
      obtain ⟨p2, hp2⟩ : ∃ p, y2 % 64 = p := ⟨_, rfl⟩
      obtain ⟨p3, hp3⟩ : ∃ p, NG % 64 = p := ⟨_, rfl⟩
      have a0 : (NG : Int) / 262144 = (p0 : Int) := by omega
      have a1 : (NG : Int) / 4096 = (y1 : Int) := by omega
      have b1 : (y1 : Int).tmod 64 = (p1 : Int) := by rw [Int.tmod_eq_emod_of_nonneg (by omega)]; omega
      have b1' : (y1 : Int) % 64 = (p1 : Int) := by omega
      have a2 : (NG : Int) / 64 = (y2 : Int) := by omega
      have b2 : (y2 : Int).tmod 64 = (p2 : Int) := by rw [Int.tmod_eq_emod_of_nonneg (by omega)]; omega
      have b2' : (y2 : Int) % 64 = (p2 : Int) := by omega
      have b3 : (NG : Int).tmod 64 = (p3 : Int) := by rw [Int.tmod_eq_emod_of_nonneg (by omega)]; omega
      have b3' : (NG : Int) % 64 = (p3 : Int) := by omega
      have q0 : p0 < 64 := by omega
      have q1 : p1 < 64 := by omega
      have q2 : p2 < 64 := by omega
      have q3 : p3 < 64 := by omega
      have r0 : (p0 : Int) < 64 := by omega
      have r1 : (p1 : Int) < 64 := by omega
      have r2 : (p2 : Int) < 64 := by omega
      have r3 : (p3 : Int) < 64 := by omega
      have t0 := wrapI p0 (by omega)
      have t1 := wrapI y1 (by omega)
      have t2 := wrapI p1 (by omega)
      have t3 := wrapI y2 (by omega)
      have t4 := wrapI p2 (by omega)
      have t5 := wrapI p3 (by omega)
      obtain ⟨z0, hz0⟩ : ∃ z, letN p0 = z := ⟨_, rfl⟩
      obtain ⟨z1, hz1⟩ : ∃ z, letN p1 = z := ⟨_, rfl⟩
      obtain ⟨z2, hz2⟩ : ∃ z, letN p2 = z := ⟨_, rfl⟩
      obtain ⟨z3, hz3⟩ : ∃ z, letN p3 = z := ⟨_, rfl⟩
      have d0 := (let_at q0).trans hz0
      have d1 := (let_at q1).trans hz1
      have d2 := (let_at q2).trans hz2
      have d3 := (let_at q3).trans hz3
      unfold lettersB at d0 d1 d2 d3
      have hlets : lets NG 4 = [z0, z1, z2, z3] := by
        show [letN (NG / 262144 % 64), letN (NG / 4096 % 64), letN (NG / 64 % 64), letN (NG % 64)] = _
        rw [hy1, hp1, hy2, hp2, hp3, hp0, Nat.mod_eq_of_lt q0, hz0, hz1, hz2, hz3]
      rw [hNG, hlets] at hnx
      have hll : (rawL (b.take i)).length ≤ 2147483648 := by
        obtain ⟨kk, e1, e2, _⟩ := raw_len (b.take i)
        rw [List.length_take] at e2
        omega
      obtain ⟨W1, hW1⟩ : ∃ W1, wr.drew.alloc (.cells #[.int .u8 (z0.toNat : Int), .int .u8 (z1.toNat : Int), .int .u8 (z2.toNat : Int), .int .u8 (z3.toNat : Int)] 5) = W1 := ⟨_, rfl⟩
      obtain ⟨v', w', happ, hown, hgr⟩ := app_four (W1 := W1) (w := wr.drew) (ho.low (Below.refl _ _).drew) hbw.size hll hW1
      rw [← hnx, hi3] at hown
      have HP : Hid (OwnB w.heap.size w' v' (rawL (b.take i3)) ∧ Below w.heap.size w w') := hide ⟨hown, hbw.drew.trans (hgr.low hbw.size (OwnB.base ho))⟩
      have HW1 : Hid ((wr.alloc (.cells #[.int .u8 (z0.toNat : Int), .int .u8 (z1.toNat : Int), .int .u8 (z2.toNat : Int), .int .u8 (z3.toNat : Int)] 5)).drew = W1) := hide hW1
      have happ2 : (Builtin.append_ #[23, 23] 23 #[u3, .slice (some ⟨wr.heap.size, 0, none⟩) 4 4]).run Tryz.prog W1 = .ok v' w' := happ
      have mixed : Tryz.prog.follows .mixedOrders = true := by kernel_rfl
      have HIK : Hid (i3 = 3 * (k + 1)) := hide (by omega)
      have hi3n : i3 ≤ n + 2 := by omega
      have x08 := u8_lt x0
      have m1 : (x0.toNat : Int) * 65536 ≤ 16711680 := by omega
      obtain ⟨A0, hA0⟩ : ∃ A, x0.toNat * 65536 = A := ⟨_, rfl⟩
      have f0 : (x0.toNat : Int) * 65536 = (A0 : Int) := by omega
      have A0b : A0 < 16777216 := by omega
      clear m1
      by_cases h1 : i1 < n
      · have hl1 : i1 < b.length := by rw [unhide HN]; exact h1
        obtain ⟨x1, hx1⟩ : ∃ x, b[i1] = x := ⟨_, rfl⟩
        have c1 := he i1 hl1
        rw [hx1] at c1
        have g1 : ((b.drop i).take 3).getD 1 0 = x1 := by
          rw [List.getD_eq_getElem?_getD, List.getElem?_take, if_pos (by decide), List.getElem?_drop, hi1, List.getElem?_eq_getElem hl1, hx1]; rfl
        have x18 := u8_lt x1
        obtain ⟨A1, hA1⟩ : ∃ A, x1.toNat * 256 = A := ⟨_, rfl⟩
        have f1 : (x1.toNat : Int) * 256 = (A1 : Int) := by omega
        obtain ⟨S1, hS1⟩ : ∃ S, A0 + A1 = S := ⟨_, rfl⟩
        have f2 : (A0 : Int) + (A1 : Int) = (S1 : Int) := by omega
        have S1b : S1 < 16777216 := by omega
        by_cases h2 : i2 < n
        · have hl2 : i2 < b.length := by rw [unhide HN]; exact h2
          obtain ⟨x2, hx2⟩ : ∃ x, b[i2] = x := ⟨_, rfl⟩
          have c2 := he i2 hl2
          rw [hx2] at c2
          have g2 : ((b.drop i).take 3).getD 2 0 = x2 := by
            rw [List.getD_eq_getElem?_getD, List.getElem?_take, if_pos (by decide), List.getElem?_drop, hi2, List.getElem?_eq_getElem hl2, hx2]; rfl
          have x28 := u8_lt x2
          have f3 : (S1 : Int) + (x2.toNat : Int) = (NG : Int) := by
            rw [← hNG]
            unfold numG
            rw [g0, g1, g2]
            omega
          clear happ ho hbw hown hgr hW1 hnx hx0 g0 g1 g2 hx1 hx2 he hB hNG hlets hp0 hp1 hp2 hp3 hy1 hy2 hz0 hz1 hz2 hz3 hll hik hi1 hi2 hi3 hA0 hA1 hS1 hil hl1 hl2
          go_wp2
          refine wp_region_any mixed ?_
          refine wpAny_take (i := 0) (v := u3) rfl (by kernel_rfl) (by kernel_rfl) (by kernel_rfl) (fun _ _ _ h => h) (Or.inl ⟨rfl, fun _ => rfl⟩) ?_
          refine wpAny_take (i := 1) (v := .int .i64 (NG : Int)) rfl (by kernel_rfl) (by kernel_rfl) (by kernel_rfl) (fun _ _ _ h => h) (Or.inl ⟨rfl, fun _ => rfl⟩) ?_
          refine wpAny_take (i := 2) (v := .int .i64 (p0 : Int)) rfl (by kernel_rfl) (by kernel_rfl) (by kernel_rfl) (fun _ _ _ h => h) (Or.inl ⟨rfl, fun _ => by go_simp⟩) ?_
          refine wpAny_take (i := 3) (v := .int .u8 (z0.toNat : Int)) rfl (by kernel_rfl) (by kernel_rfl) (by kernel_rfl) (fun _ _ _ h => h) (Or.inl ⟨rfl, fun _ => by go_simp⟩) ?_
          go_simp
          refine wpAny_take (i := 4) (v := .int .i64 (NG : Int)) rfl (by kernel_rfl) (by kernel_rfl) (by kernel_rfl) (fun _ _ _ h => h) (Or.inl ⟨rfl, fun _ => rfl⟩) ?_
          refine wpAny_take (i := 5) (v := .int .i64 (y1 : Int)) rfl (by kernel_rfl) (by kernel_rfl) (by kernel_rfl) (fun _ _ _ h => h) (Or.inl ⟨rfl, fun _ => by go_simp⟩) ?_
          refine wpAny_take (i := 6) (v := .int .i64 (p1 : Int)) rfl (by kernel_rfl) (by kernel_rfl) (by kernel_rfl) (fun _ _ _ h => h) (Or.inl ⟨rfl, fun _ => by go_simp⟩) ?_
          refine wpAny_take (i := 7) (v := .int .u8 (z1.toNat : Int)) rfl (by kernel_rfl) (by kernel_rfl) (by kernel_rfl) (fun _ _ _ h => h) (Or.inl ⟨rfl, fun _ => by go_simp⟩) ?_
          go_simp
          refine wpAny_take (i := 8) (v := .int .i64 (NG : Int)) rfl (by kernel_rfl) (by kernel_rfl) (by kernel_rfl) (fun _ _ _ h => h) (Or.inl ⟨rfl, fun _ => rfl⟩) ?_
          refine wpAny_take (i := 9) (v := .int .i64 (y2 : Int)) rfl (by kernel_rfl) (by kernel_rfl) (by kernel_rfl) (fun _ _ _ h => h) (Or.inl ⟨rfl, fun _ => by go_simp⟩) ?_
          refine wpAny_take (i := 10) (v := .int .i64 (p2 : Int)) rfl (by kernel_rfl) (by kernel_rfl) (by kernel_rfl) (fun _ _ _ h => h) (Or.inl ⟨rfl, fun _ => by go_simp⟩) ?_
          refine wpAny_take (i := 11) (v := .int .u8 (z2.toNat : Int)) rfl (by kernel_rfl) (by kernel_rfl) (by kernel_rfl) (fun _ _ _ h => h) (Or.inl ⟨rfl, fun _ => by go_simp⟩) ?_
          go_simp
          refine wpAny_take (i := 12) (v := .int .i64 (NG : Int)) rfl (by kernel_rfl) (by kernel_rfl) (by kernel_rfl) (fun _ _ _ h => h) (Or.inl ⟨rfl, fun _ => rfl⟩) ?_
          refine wpAny_take (i := 13) (v := .int .i64 (p3 : Int)) rfl (by kernel_rfl) (by kernel_rfl) (by kernel_rfl) (fun _ _ _ h => h) (Or.inl ⟨rfl, fun _ => by go_simp⟩) ?_
          refine wpAny_take (i := 14) (v := .int .u8 (z3.toNat : Int)) rfl (by kernel_rfl) (by kernel_rfl) (by kernel_rfl) (fun _ _ _ h => h) (Or.inl ⟨rfl, fun _ => by go_simp⟩) ?_
          go_simp
          refine wpAny_ready (rs := [15]) (by kernel_rfl) (by simp) (ready_step _ rfl rfl (fun K hK => ?_) AllReady.nil)
          go_simp
          refine hK _ _ ?_
          clear hK K
          refine wpAny_ready (rs := [16]) (by kernel_rfl) (by simp) (ready_step _ rfl rfl (fun K hK => ?_) AllReady.nil)
          rw [unhide HW1]
          refine Lib.wp_append_run _ _ _ _ _ rfl _ _ rfl rfl _ _ happ2 ?_
          refine hK _ _ ?_
          clear hK K
          refine wpAny_ready (rs := [17]) (by kernel_rfl) (by simp) (ready_step _ rfl rfl (fun K hK => ?_) AllReady.nil)
          go_simp
          refine hK _ _ ?_
          clear hK K
          refine wpAny_done (by kernel_rfl) ?_ _
          go_wp2
          go_roundw
          case rel => exact ⟨i3, k + 1, unhide HIK, hi3n, rfl, (unhide HP).1, (unhide HP).2⟩
          case measure => simp [intOf]; omega
        · have f3 : S1 = NG := by
            have g2 : ((b.drop i).take 3).getD 2 0 = 0 := by
              rw [List.getD_eq_getElem?_getD, List.getElem?_take, if_pos (by decide), List.getElem?_drop, List.getElem?_eq_none (by rw [unhide HN]; omega)]; rfl
            have z : (0 : UInt8).toNat = 0 := rfl
            rw [← hNG]
            unfold numG
            rw [g0, g1, g2, z]
            omega
          subst f3
          clear happ ho hbw hown hgr hW1 hnx hx0 g0 g1 hx1 he hB hNG hlets hp0 hp1 hp2 hp3 hy1 hy2 hz0 hz1 hz2 hz3 hll hik hi1 hi2 hi3 hA0 hA1 hS1 hil hl1
          go_wp2
          refine wp_region_any mixed ?_
          refine wpAny_take (i := 0) (v := u3) rfl (by kernel_rfl) (by kernel_rfl) (by kernel_rfl) (fun _ _ _ h => h) (Or.inl ⟨rfl, fun _ => rfl⟩) ?_
          refine wpAny_take (i := 1) (v := .int .i64 (S1 : Int)) rfl (by kernel_rfl) (by kernel_rfl) (by kernel_rfl) (fun _ _ _ h => h) (Or.inl ⟨rfl, fun _ => rfl⟩) ?_
          refine wpAny_take (i := 2) (v := .int .i64 (p0 : Int)) rfl (by kernel_rfl) (by kernel_rfl) (by kernel_rfl) (fun _ _ _ h => h) (Or.inl ⟨rfl, fun _ => by go_simp⟩) ?_
          refine wpAny_take (i := 3) (v := .int .u8 (z0.toNat : Int)) rfl (by kernel_rfl) (by kernel_rfl) (by kernel_rfl) (fun _ _ _ h => h) (Or.inl ⟨rfl, fun _ => by go_simp⟩) ?_
          go_simp
          refine wpAny_take (i := 4) (v := .int .i64 (S1 : Int)) rfl (by kernel_rfl) (by kernel_rfl) (by kernel_rfl) (fun _ _ _ h => h) (Or.inl ⟨rfl, fun _ => rfl⟩) ?_
          refine wpAny_take (i := 5) (v := .int .i64 (y1 : Int)) rfl (by kernel_rfl) (by kernel_rfl) (by kernel_rfl) (fun _ _ _ h => h) (Or.inl ⟨rfl, fun _ => by go_simp⟩) ?_
          refine wpAny_take (i := 6) (v := .int .i64 (p1 : Int)) rfl (by kernel_rfl) (by kernel_rfl) (by kernel_rfl) (fun _ _ _ h => h) (Or.inl ⟨rfl, fun _ => by go_simp⟩) ?_
          refine wpAny_take (i := 7) (v := .int .u8 (z1.toNat : Int)) rfl (by kernel_rfl) (by kernel_rfl) (by kernel_rfl) (fun _ _ _ h => h) (Or.inl ⟨rfl, fun _ => by go_simp⟩) ?_
          go_simp
          refine wpAny_take (i := 8) (v := .int .i64 (S1 : Int)) rfl (by kernel_rfl) (by kernel_rfl) (by kernel_rfl) (fun _ _ _ h => h) (Or.inl ⟨rfl, fun _ => rfl⟩) ?_
          refine wpAny_take (i := 9) (v := .int .i64 (y2 : Int)) rfl (by kernel_rfl) (by kernel_rfl) (by kernel_rfl) (fun _ _ _ h => h) (Or.inl ⟨rfl, fun _ => by go_simp⟩) ?_
          refine wpAny_take (i := 10) (v := .int .i64 (p2 : Int)) rfl (by kernel_rfl) (by kernel_rfl) (by kernel_rfl) (fun _ _ _ h => h) (Or.inl ⟨rfl, fun _ => by go_simp⟩) ?_
          refine wpAny_take (i := 11) (v := .int .u8 (z2.toNat : Int)) rfl (by kernel_rfl) (by kernel_rfl) (by kernel_rfl) (fun _ _ _ h => h) (Or.inl ⟨rfl, fun _ => by go_simp⟩) ?_
          go_simp
          refine wpAny_take (i := 12) (v := .int .i64 (S1 : Int)) rfl (by kernel_rfl) (by kernel_rfl) (by kernel_rfl) (fun _ _ _ h => h) (Or.inl ⟨rfl, fun _ => rfl⟩) ?_
          refine wpAny_take (i := 13) (v := .int .i64 (p3 : Int)) rfl (by kernel_rfl) (by kernel_rfl) (by kernel_rfl) (fun _ _ _ h => h) (Or.inl ⟨rfl, fun _ => by go_simp⟩) ?_
          refine wpAny_take (i := 14) (v := .int .u8 (z3.toNat : Int)) rfl (by kernel_rfl) (by kernel_rfl) (by kernel_rfl) (fun _ _ _ h => h) (Or.inl ⟨rfl, fun _ => by go_simp⟩) ?_
          go_simp
          refine wpAny_ready (rs := [15]) (by kernel_rfl) (by simp) (ready_step _ rfl rfl (fun K hK => ?_) AllReady.nil)
          go_simp
          refine hK _ _ ?_
          clear hK K
          refine wpAny_ready (rs := [16]) (by kernel_rfl) (by simp) (ready_step _ rfl rfl (fun K hK => ?_) AllReady.nil)
          rw [unhide HW1]
          refine Lib.wp_append_run _ _ _ _ _ rfl _ _ rfl rfl _ _ happ2 ?_
          refine hK _ _ ?_
          clear hK K
          refine wpAny_ready (rs := [17]) (by kernel_rfl) (by simp) (ready_step _ rfl rfl (fun K hK => ?_) AllReady.nil)
          go_simp
          refine hK _ _ ?_
          clear hK K
          refine wpAny_done (by kernel_rfl) ?_ _
          go_wp2
          go_roundw
          case rel => exact ⟨i3, k + 1, unhide HIK, hi3n, rfl, (unhide HP).1, (unhide HP).2⟩
          case measure => simp [intOf]; omega
      · have h2 : ¬ i2 < n := by omega
        have f3 : A0 = NG := by
          have g1 : ((b.drop i).take 3).getD 1 0 = 0 := by
            rw [List.getD_eq_getElem?_getD, List.getElem?_take, if_pos (by decide), List.getElem?_drop, List.getElem?_eq_none (by rw [unhide HN]; omega)]; rfl
          have g2 : ((b.drop i).take 3).getD 2 0 = 0 := by
            rw [List.getD_eq_getElem?_getD, List.getElem?_take, if_pos (by decide), List.getElem?_drop, List.getElem?_eq_none (by rw [unhide HN]; omega)]; rfl
          have z : (0 : UInt8).toNat = 0 := rfl
          rw [← hNG]
          unfold numG
          rw [g0, g1, g2, z]
          omega
        subst f3
        clear happ ho hbw hown hgr hW1 hnx hx0 g0 he hB hNG hlets hp0 hp1 hp2 hp3 hy1 hy2 hz0 hz1 hz2 hz3 hll hik hi1 hi2 hi3 hA0 hil
        go_wp2
        refine wp_region_any mixed ?_
        refine wpAny_take (i := 0) (v := u3) rfl (by kernel_rfl) (by kernel_rfl) (by kernel_rfl) (fun _ _ _ h => h) (Or.inl ⟨rfl, fun _ => rfl⟩) ?_
        refine wpAny_take (i := 1) (v := .int .i64 (A0 : Int)) rfl (by kernel_rfl) (by kernel_rfl) (by kernel_rfl) (fun _ _ _ h => h) (Or.inl ⟨rfl, fun _ => rfl⟩) ?_
        refine wpAny_take (i := 2) (v := .int .i64 (p0 : Int)) rfl (by kernel_rfl) (by kernel_rfl) (by kernel_rfl) (fun _ _ _ h => h) (Or.inl ⟨rfl, fun _ => by go_simp⟩) ?_
        refine wpAny_take (i := 3) (v := .int .u8 (z0.toNat : Int)) rfl (by kernel_rfl) (by kernel_rfl) (by kernel_rfl) (fun _ _ _ h => h) (Or.inl ⟨rfl, fun _ => by go_simp⟩) ?_
        go_simp
        refine wpAny_take (i := 4) (v := .int .i64 (A0 : Int)) rfl (by kernel_rfl) (by kernel_rfl) (by kernel_rfl) (fun _ _ _ h => h) (Or.inl ⟨rfl, fun _ => rfl⟩) ?_
        refine wpAny_take (i := 5) (v := .int .i64 (y1 : Int)) rfl (by kernel_rfl) (by kernel_rfl) (by kernel_rfl) (fun _ _ _ h => h) (Or.inl ⟨rfl, fun _ => by go_simp⟩) ?_
        refine wpAny_take (i := 6) (v := .int .i64 (p1 : Int)) rfl (by kernel_rfl) (by kernel_rfl) (by kernel_rfl) (fun _ _ _ h => h) (Or.inl ⟨rfl, fun _ => by go_simp⟩) ?_
        refine wpAny_take (i := 7) (v := .int .u8 (z1.toNat : Int)) rfl (by kernel_rfl) (by kernel_rfl) (by kernel_rfl) (fun _ _ _ h => h) (Or.inl ⟨rfl, fun _ => by go_simp⟩) ?_
        go_simp
        refine wpAny_take (i := 8) (v := .int .i64 (A0 : Int)) rfl (by kernel_rfl) (by kernel_rfl) (by kernel_rfl) (fun _ _ _ h => h) (Or.inl ⟨rfl, fun _ => rfl⟩) ?_
        refine wpAny_take (i := 9) (v := .int .i64 (y2 : Int)) rfl (by kernel_rfl) (by kernel_rfl) (by kernel_rfl) (fun _ _ _ h => h) (Or.inl ⟨rfl, fun _ => by go_simp⟩) ?_
        refine wpAny_take (i := 10) (v := .int .i64 (p2 : Int)) rfl (by kernel_rfl) (by kernel_rfl) (by kernel_rfl) (fun _ _ _ h => h) (Or.inl ⟨rfl, fun _ => by go_simp⟩) ?_
        refine wpAny_take (i := 11) (v := .int .u8 (z2.toNat : Int)) rfl (by kernel_rfl) (by kernel_rfl) (by kernel_rfl) (fun _ _ _ h => h) (Or.inl ⟨rfl, fun _ => by go_simp⟩) ?_
        go_simp
        refine wpAny_take (i := 12) (v := .int .i64 (A0 : Int)) rfl (by kernel_rfl) (by kernel_rfl) (by kernel_rfl) (fun _ _ _ h => h) (Or.inl ⟨rfl, fun _ => rfl⟩) ?_
        refine wpAny_take (i := 13) (v := .int .i64 (p3 : Int)) rfl (by kernel_rfl) (by kernel_rfl) (by kernel_rfl) (fun _ _ _ h => h) (Or.inl ⟨rfl, fun _ => by go_simp⟩) ?_
        refine wpAny_take (i := 14) (v := .int .u8 (z3.toNat : Int)) rfl (by kernel_rfl) (by kernel_rfl) (by kernel_rfl) (fun _ _ _ h => h) (Or.inl ⟨rfl, fun _ => by go_simp⟩) ?_
        go_simp
        refine wpAny_ready (rs := [15]) (by kernel_rfl) (by simp) (ready_step _ rfl rfl (fun K hK => ?_) AllReady.nil)
        go_simp
        refine hK _ _ ?_
        clear hK K
        refine wpAny_ready (rs := [16]) (by kernel_rfl) (by simp) (ready_step _ rfl rfl (fun K hK => ?_) AllReady.nil)
        rw [unhide HW1]
        refine Lib.wp_append_run _ _ _ _ _ rfl _ _ rfl rfl _ _ happ2 ?_
        refine hK _ _ ?_
        clear hK K
        refine wpAny_ready (rs := [17]) (by kernel_rfl) (by simp) (ready_step _ rfl rfl (fun K hK => ?_) AllReady.nil)
        go_simp
        refine hK _ _ ?_
        clear hK K
        refine wpAny_done (by kernel_rfl) ?_ _
        go_wp2
        go_roundw
        case rel => exact ⟨i3, k + 1, unhide HIK, hi3n, rfl, (unhide HP).1, (unhide HP).2⟩
        case measure => simp [intOf]; omega
    · rw [List.take_of_length_le (by rw [unhide HN]; omega)] at ho
      obtain ⟨h0, h1, h2⟩ := raw_fix b
      obtain ⟨q, hq, _, hq1⟩ := raw_len b
      rw [unhide HN] at h0 h1 h2 hq1
      obtain ⟨r, hr⟩ : ∃ r, n % 3 = r := ⟨_, rfl⟩
      rw [hr] at h0 h1 h2
      have hr3 : r = 0 ∨ r = 1 ∨ r = 2 := by omega
      rcases hr3 with rfl | rfl | rfl
      · have er : (n : Int).tmod 3 = 0 := by rw [Int.tmod_eq_emod_of_nonneg (by omega)]; omega
        have er' : (n : Int) % 3 = 0 := by omega
        rw [h0 rfl] at ho
        have hcv := conv_own ho
        have HB := hide hbw
        clear ho hbw h0 h1 h2 hq hq1 hr hik
        go_wp2
        go_ret
        exact ⟨rfl, unhide HB⟩
      · have er : (n : Int).tmod 3 = 1 := by rw [Int.tmod_eq_emod_of_nonneg (by omega)]; omega
        have er' : (n : Int) % 3 = 1 := by omega
        have hq2 : 1 ≤ q := hq1 (by omega)
        obtain ⟨g, cap, rfl⟩ := own_form ho (by omega)
        obtain ⟨L, hL⟩ : ∃ L, (rawL b).length = L := ⟨_, rfl⟩
        obtain ⟨L2, hL2⟩ : ∃ x, L - 2 = x := ⟨_, rfl⟩
        obtain ⟨L1, hL1⟩ : ∃ x, L - 1 = x := ⟨_, rfl⟩
        have hfix := h1 rfl
        rw [hL, hL1, hL2] at hfix
        obtain ⟨fr2, hgb, -, hcap⟩ := own_free (k := L2) ho
        have ce2 := own_cell (k := L2) ho (by omega)
        obtain ⟨cv2, hcv2⟩ : ∃ x, Value.int .u8 (((rawL b)[L2]'(by omega)).toNat : Int) = x := ⟨_, rfl⟩
        rw [hcv2] at ce2
        have o2 := OwnB.put ho L2 61
        have ce1 := own_cell (k := L1) o2 (by rw [List.length_set]; omega)
        obtain ⟨cv1, hcv1⟩ : ∃ x, Value.int .u8 ((((rawL b).set L2 61)[L1]'(by rw [List.length_set]; omega)).toNat : Int) = x := ⟨_, rfl⟩
        rw [hcv1] at ce1
        obtain ⟨fr1, -, -, -⟩ := own_free (k := L1) o2
        have o3 := OwnB.put o2 L1 61
        rw [hfix] at o3
        rw [hL] at o3 hcap ⊢
        have hcv := conv_own o3
        have HB := hide (low_put (k := L1) (v := .int .u8 ((61 : UInt8).toNat : Int)) (low_put (k := L2) (v := .int .u8 ((61 : UInt8).toNat : Int)) hbw hgb) hgb)
        have u61 : ((61 : UInt8).toNat : Int) = 61 := rfl
        rw [u61] at HB hcv fr1 ce1
        have s2 : (L : Int) - 2 = (L2 : Int) := by omega
        have s1 : (L : Int) - 1 = (L1 : Int) := by omega
        have t2 : L2 < L := by omega
        have t1 : L1 < L := by omega
        have Lb : L ≤ 4294967296 := by
          obtain ⟨kk, e1, e2, _⟩ := raw_len b
          rw [unhide HN] at e2
          omega
        clear ho hbw h0 h1 h2 hq hq1 hr hik hfix o2 o3 hL hL1 hL2 hgb hcv1 hcv2
        go_wp2
        go_ret
        exact ⟨rfl, unhide HB⟩
      · have er : (n : Int).tmod 3 = 2 := by rw [Int.tmod_eq_emod_of_nonneg (by omega)]; omega
        have er' : (n : Int) % 3 = 2 := by omega
        have hq2 : 1 ≤ q := hq1 (by omega)
        obtain ⟨g, cap, rfl⟩ := own_form ho (by omega)
        obtain ⟨L, hL⟩ : ∃ L, (rawL b).length = L := ⟨_, rfl⟩
        obtain ⟨L1, hL1⟩ : ∃ x, L - 1 = x := ⟨_, rfl⟩
        have hfix := h2 rfl
        rw [hL, hL1] at hfix
        obtain ⟨fr1, hgb, -, hcap⟩ := own_free (k := L1) ho
        have ce1 := own_cell (k := L1) ho (by omega)
        obtain ⟨cv1, hcv1⟩ : ∃ x, Value.int .u8 (((rawL b)[L1]'(by omega)).toNat : Int) = x := ⟨_, rfl⟩
        rw [hcv1] at ce1
        have o3 := OwnB.put ho L1 61
        rw [hfix] at o3
        rw [hL] at o3 hcap ⊢
        have hcv := conv_own o3
        have HB := hide (low_put (k := L1) (v := .int .u8 ((61 : UInt8).toNat : Int)) hbw hgb)
        have u61 : ((61 : UInt8).toNat : Int) = 61 := rfl
        rw [u61] at HB hcv
        have s1 : (L : Int) - 1 = (L1 : Int) := by omega
        have t1 : L1 < L := by omega
        have Lb : L ≤ 4294967296 := by
          obtain ⟨kk, e1, e2, _⟩ := raw_len b
          rw [unhide HN] at e2
          omega
        clear ho hbw h0 h1 h2 hq hq1 hr hik hfix o3 hL hL1 hgb hcv1
        go_wp2
        go_ret
        exact ⟨rfl, unhide HB⟩
end Go.Proofs.YtkablmjkffdloaaGreatDoor

namespace Go.Proofs.YtkablmjkffdloaaGreatDoor
open Go.RowKit

theorem idx_let (x : UInt8) : Lib.indexByte lettersB.data.toList x = match posN x with | some v => (v : Int) | none => -1 := by
  have : ∀ i : Fin 256, Lib.indexByte lettersB.data.toList (UInt8.ofNat i.1) = match posN (UInt8.ofNat i.1) with | some v => (v : Int) | none => -1 := by decide +kernel
  have h := this ⟨x.toNat, UInt8.toNat_lt x⟩
  simpa using h

/-- The bytes that are told; the error. -/
def fromV (s : Bs) : Bs := (fromL s).getD []
def fromE (s : Bs) : Int := if (fromL s).isSome then 0 else 15

theorem rd_next {l : Bs} {i : Nat} {t : Rd} {v : Nat} (hi : i < l.length) (h : Rd.all ⟨[], 0, 0⟩ (l.take i) = some t) (hv : posN l[i] = some v) : Rd.all ⟨[], 0, 0⟩ (l.take (i + 1)) = some (t.next v) := by
  rw [List.take_succ_eq_append_getElem hi, Rd.all_app, h]
  show Rd.all t [l[i]] = _
  simp [Rd.all, hv]
theorem rd_stop {l : Bs} {i : Nat} {t : Rd} (hi : i < l.length) (h : Rd.all ⟨[], 0, 0⟩ (l.take i) = some t) (hv : posN l[i] = none) : Rd.all ⟨[], 0, 0⟩ l = none := by
  have e : l = l.take i ++ (l[i] :: l.drop (i + 1)) := by rw [← List.drop_eq_getElem_cons hi, List.take_append_drop]
  rw [e, Rd.all_app, h]
  show Rd.all t (l[i] :: l.drop (i + 1)) = _
  simp [Rd.all, hv]
theorem from_none {s : Bs} (h : Rd.all ⟨[], 0, 0⟩ (trimE s) = none) : fromL s = none := by
  rw [← read_is]
  unfold readL
  rw [h]
theorem from_none2 {s : Bs} {t : Rd} (h : Rd.all ⟨[], 0, 0⟩ (trimE s) = some t) (hb : b64 t.out ≠ s) : fromL s = none := by
  rw [← read_is]
  unfold readL
  rw [h]
  simp [hb]
/-- The numbers of a letter more. -/
theorem rd_nums {h r k v : Nat} (hk : k = 2 ∨ k = 4 ∨ k = 6) (hr : h % 2 ^ k = r) (hv : v < 64) : (h * 64 % 4294967296 + v) / 2 ^ (k - 2) % 256 = (r * 64 + v) / 2 ^ (k - 2) ∧ (h * 64 % 4294967296 + v) % 2 ^ (k - 2) = (r * 64 + v) % 2 ^ (k - 2) ∧ (r * 64 + v) / 2 ^ (k - 2) < 256 ∧ h * 64 % 4294967296 + v < 4294967296 := by
  rcases hk with rfl | rfl | rfl <;> simp at * <;> omega
theorem rd_or {h v : Nat} (hv : v < 64) : h * 64 % 4294967296 ||| v = h * 64 % 4294967296 + v := by
  have e : h * 64 % 4294967296 = 2 ^ 6 * (h % 67108864) := by omega
  rw [e]
  exact (Nat.two_pow_add_eq_or_of_lt (by simpa using hv) _).symm

set_option maxRecDepth 100000 in
set_option maxHeartbeats 4000000 in
theorem fromB64_any {w : World} {s : Bs} (hs : s.length ≤ 1000000) :
    Calls Tryz.prog 24 #[.string ⟨s.toArray⟩] w fun e w' => ∃ v, e = .returned (.tuple #[v, .int .i64 (fromE s)]) ∧ OwnB w.heap.size w' v (fromV s) ∧ Below w.heap.size w w' := by
  obtain ⟨i0, hi, hz0, hz1, hz2⟩ := info_parts info5
  have htr : Lib.trimRightB (⟨s.toArray⟩ : ByteArray).data.toList 61 = trimE s := rfl
  have HTR := hide (Tryz.strings_TrimRight_one ⟨s.toArray⟩ 61 (by decide) w (by show s.toArray.size ≤ _; simp; omega))
  rw [htr] at HTR
  have hll : (trimE s).length ≤ s.length := by
    unfold trimE
    rw [List.length_reverse]
    have := (List.dropWhile_suffix (l := s.reverse) (· == (61 : UInt8))).length_le
    rwa [List.length_reverse] at this
  obtain ⟨l, hl⟩ : ∃ l, trimE s = l := ⟨_, rfl⟩
  rw [hl] at HTR hll
  obtain ⟨S, hS⟩ : ∃ S : ByteArray, ⟨l.toArray⟩ = S := ⟨_, rfl⟩
  rw [hS] at HTR
  obtain ⟨m, hm⟩ : ∃ m, l.length = m := ⟨_, rfl⟩
  have hsz : S.size = m := by rw [← hS]; show l.toArray.size = m; simpa using hm
  have HSA : Hid (∀ i (h1 : i < S.size) (h2 : i < l.length), S[i]'h1 = l[i]'h2) := hide (by
    subst hS
    intro i h1 h2
    rfl)
  have HL := hide hl
  have HM := hide hm
  obtain ⟨q, hq⟩ : ∃ q, m / 4 = q := ⟨_, rfl⟩
  obtain ⟨q3, hq3⟩ : ∃ x, q * 3 = x := ⟨_, rfl⟩
  obtain ⟨q4, hq4⟩ : ∃ x, q3 + 2 = x := ⟨_, rfl⟩
  have e1 : (m : Int) / 4 = (q : Int) := by omega
  have e2 : (q : Int) * 3 = (q3 : Int) := by omega
  have e3 : (q3 : Int) + 2 = (q4 : Int) := by omega
  have q4b : q4 ≤ 1000002 := by omega
  have w4 : IntKind.i64.wrap (q4 : Int) = (q4 : Int) := wrapI q4 (by omega)
  have hmb : m ≤ 1000000 := by omega
  clear htr hl hS hm hq hq3 hq4 hll
  go_enter Tryz.func24, Tryz.ntmps24
  go_wp2_with (first | (go_at_call 78; refine (unhide HTR).mono ?_; rintro e wn ⟨rfl, hwn⟩; rw [hwn]; clear hwn wn) | (at_make; refine wpList_make_own _ rfl _ _ 23 rfl w.heap.size 5 i0 (.int .u8 0) 1 Tryz.underlying23 hi hz0 hz1 _ _ _ q4 rfl rfl rfl (by rw [hz2]; omega) (by unfold maxLen; omega) (Nat.le_refl _) ?_; intro w1 hown hgrow; have HB1 : Hid (Below w.heap.size w w1) := hide (low_grownN hgrow); have HO1 : Hid (OwnB w.heap.size w1 (.slice (some ⟨w.heap.size, 0, none⟩) 0 q4) []) := hide hown; clear hown hgrow))
  clear HTR hi hz0 hz1 hz2
  go_loopw [5, 6, 7, 8, 9, 20] (fun v5 v6 v7 _ _ v20 wr => ∃ (i h : Nat) (t : Rd), i ≤ m ∧ v20 = .int .i64 (i : Int) ∧ Rd.all ⟨[], 0, 0⟩ (l.take i) = some t ∧ t.out.length ≤ i ∧ (t.k = 0 ∨ t.k = 2 ∨ t.k = 4 ∨ t.k = 6) ∧ h % 2 ^ t.k = t.r ∧ h < 4294967296 ∧ v6 = .int .u32 (h : Int) ∧ v7 = .int .u32 (t.k : Int) ∧ OwnB w.heap.size wr v5 t.out ∧ Below w.heap.size w wr) (fun _ _ _ _ _ v20 _ => m - (intOf v20).toNat)
  case atStart => exact ⟨0, 0, ⟨[], 0, 0⟩, Nat.zero_le _, rfl, rfl, Nat.le_refl _, Or.inl rfl, rfl, by decide, rfl, rfl, unhide HO1, unhide HB1⟩
  case round =>
    rename World => wr
    obtain ⟨i, h, t, him, rfl, hrd, hol, hk, hr, hh, rfl, rfl, ho, hbw⟩ := hrel
    clear HO1 HB1
    by_cases hlt : i < m
    · have hil : i < l.length := by rw [unhide HM]; exact hlt
      have hiS : i < S.size := by rw [hsz]; exact hlt
      have hidx := unhide HSA i hiS hil
      obtain ⟨x, hx⟩ : ∃ x, l[i] = x := ⟨_, rfl⟩
      rw [hx] at hidx
      have HIB := hide (Tryz.strings_IndexByte lettersB (x.toNat : Int) wr)
      have hxx : (x.toNat : Int).toNat.toUInt8 = x := by simp
      rw [hxx, idx_let] at HIB
      unfold lettersB at HIB
      cases hp : posN x with
      | none =>
        rw [hp] at HIB
        have hn0 := from_none (s := s) (by rw [unhide HL]; exact rd_stop hil hrd (by rw [hx]; exact hp))
        have HE : Hid (fromE s = 15 ∧ fromV s = []) := hide ⟨by unfold fromE; rw [hn0]; rfl, by unfold fromV; rw [hn0]; rfl⟩
        have HBW := hide hbw
        clear hrd ho hbw hn0 hp hx hil hxx hr hol
        go_wp2_with (go_at_call 79; refine (unhide HIB).mono ?_; rintro e wn ⟨rfl, hwn⟩; rw [hwn]; clear hwn wn)
        go_ret2
        rw [(unhide HE).1, (unhide HE).2]
        exact ⟨.slice none 0 0, rfl, World.ownsRow_nil _ _ _ _, unhide HBW⟩
      | some v =>
        rw [hp] at HIB
        have hv := pos_lt hp
        have hnext := rd_next hil hrd (by rw [hx]; exact hp)
        obtain ⟨A, hA⟩ : ∃ A, h * 64 % 4294967296 = A := ⟨_, rfl⟩
        have hAb : A < 4294967296 := by omega
        have a1 : (h : Int) * 64 % 4294967296 = (A : Int) := by omega
        have hor := rd_or (h := h) hv
        rw [hA] at hor
        obtain ⟨A2, hA2⟩ : ∃ A2, A + v = A2 := ⟨_, rfl⟩
        rw [hA2] at hor
        have hA2b : A2 < 4294967296 := by omega
        have a2 : bits .or .u32 (A : Int) (v : Int) = (A2 : Int) := by
          have := u32_or_nat A v hAb (by omega)
          rw [hor] at this
          exact this
        have a3 : IntKind.u32.wrap (v : Int) = (v : Int) := by rw [IntKind.wrap_u32']; omega
        obtain ⟨kk, hkk⟩ : ∃ kk, t.k = kk := ⟨_, rfl⟩
        rw [hkk] at hk hr ⊢
        obtain ⟨k6, hk6⟩ : ∃ k6, kk + 6 = k6 := ⟨_, rfl⟩
        have a4 : (kk : Int) + 6 = (k6 : Int) := by omega
        have k6b : k6 ≤ 12 := by omega
        by_cases hk0 : kk = 0
        · subst hk0
          have hn2 : t.next v = ⟨t.out, t.r * 64 + v, 6⟩ := by unfold Rd.next; rw [hkk]; rfl
          rw [hn2] at hnext
          have k6e : k6 = 6 := by omega
          subst k6e
          have hr2 : A2 % 2 ^ 6 = t.r * 64 + v := by rw [← hr]; simp; omega
          have HR := hide (And.intro hnext (And.intro hr2 (And.intro ho hbw)))
          have hol' : t.out.length ≤ i + 1 := by omega
          clear hrd ho hbw hnext hp hx hil hxx hr hol hA hA2 hor hn2 hkk hr2 hk hk6
          go_wp2_with (go_at_call 79; refine (unhide HIB).mono ?_; rintro e wn ⟨rfl, hwn⟩; rw [hwn]; clear hwn wn)
          go_roundw
          case rel => exact ⟨i + 1, A2, ⟨t.out, t.r * 64 + v, 6⟩, hlt, by push_cast; rfl, (unhide HR).1, hol', Or.inr (Or.inr (Or.inr rfl)), (unhide HR).2.1, hA2b, rfl, rfl, (unhide HR).2.2.1, (unhide HR).2.2.2⟩
          case measure => simp [intOf]; omega
        · have hk2 : kk = 2 ∨ kk = 4 ∨ kk = 6 := by omega
          obtain ⟨n1, n2, n3, n4⟩ := rd_nums hk2 hr hv
          rw [hA, hA2] at n1 n2
          obtain ⟨k2, hk2e⟩ : ∃ k2, kk - 2 = k2 := ⟨_, rfl⟩
          rw [hk2e] at n1 n2 n3
          have hn2 : t.next v = ⟨t.out ++ [UInt8.ofNat ((t.r * 64 + v) / 2 ^ k2)], (t.r * 64 + v) % 2 ^ k2, k2⟩ := by
            unfold Rd.next
            rw [hkk, if_pos (by omega), hk2e]
          rw [hn2] at hnext
          obtain ⟨y, hy⟩ : ∃ y : UInt8, UInt8.ofNat ((t.r * 64 + v) / 2 ^ k2) = y := ⟨_, rfl⟩
          have hyn : y.toNat = (t.r * 64 + v) / 2 ^ k2 := by rw [← hy, UInt8.toNat_ofNat']; exact Nat.mod_eq_of_lt n3
          rw [hy] at hnext
          have a5 : (k6 : Int) - 8 = (k2 : Int) := by omega
          have k2b : k2 ≤ 4 := by omega
          obtain ⟨D, hD⟩ : ∃ D, A2 / 2 ^ k2 = D := ⟨_, rfl⟩
          have a6 : (A2 : Int) / 2 ^ k2 = (D : Int) := by rw [pow_int, ← Int.natCast_ediv, hD]
          have Db : D < 4294967296 := by rw [← hD]; exact Nat.lt_of_le_of_lt (Nat.div_le_self _ _) hA2b
          have a7 : IntKind.u8.wrap (D : Int) = (y.toNat : Int) := by rw [IntKind.wrap_u8, hyn, ← n1, hD]; omega
          have a8 : (D : Int) % 256 = (y.toNat : Int) := by rw [hyn, ← n1, hD]; omega
          have a9 : (8 : Int) ≤ (k6 : Int) := by omega
          obtain ⟨W1, hW1⟩ : ∃ W1, wr.alloc (.cells #[.int .u8 (y.toNat : Int)] 5) = W1 := ⟨_, rfl⟩
          have hW1' : Hid (wr.alloc (.cells #[.int .u8 (y.toNat : Int)] 5) = W1) := hide hW1
          have bW1 : Below wr.heap.size wr W1 := by rw [← hW1]; exact (Below.refl _ _).alloc (Nat.le_refl _) _
          have kW1 : Blk W1 wr.heap.size #[.int .u8 (y.toNat : Int)] 5 := by rw [← hW1]; exact Blk.new _ _ _
          obtain ⟨v', w', happ, hown, hgr⟩ := app_bytes (a := ⟨wr.heap.size, 0, none⟩) (m := [y]) (n := 1) (c := 1) (ho.low bW1) (Nat.le_trans hbw.size bW1.size) rfl (fun j hj => by
            have : j = 0 := by simp at hj; omega
            subst this
            exact kW1.cell 0) (by omega)
          have hgr2 : GrB wr w' u5 v' := (by rw [← hW1] at hgr; exact (GrB.alloc _ _ _).trans hgr)
          have HR := hide (And.intro hnext (And.intro n2 (And.intro hown (hbw.trans (hgr2.low hbw.size (OwnB.base ho))))))
          have hol' : (t.out ++ [y]).length ≤ i + 1 := by rw [List.length_append]; simp; omega
          have hk2d : k2 = 0 ∨ k2 = 2 ∨ k2 = 4 ∨ k2 = 6 := by omega
          clear hrd ho hbw hnext hp hx hil hxx hr hol hA hA2 hor hn2 hkk hk hk6 n1 n2 n3 n4 hk2e hy hyn hD hW1 bW1 kW1 hown hgr hgr2 hk2
          go_wp2_with (first | (go_at_call 79; refine (unhide HIB).mono ?_; rintro e wn ⟨rfl, hwn⟩; rw [hwn]; clear hwn wn) | (at_builtin; rw [unhide hW1']; refine Lib.wpList_append_run _ rfl (.tmp 40) (.tmp 45) 23 23 (by rfl) u5 (.slice (some ⟨wr.heap.size, 0, none⟩) 1 1) (by kernel_rfl) (by kernel_rfl) v' w' happ ?_))
          go_roundw
          case rel => exact ⟨i + 1, A2, ⟨t.out ++ [y], (t.r * 64 + v) % 2 ^ k2, k2⟩, hlt, by push_cast; rfl, (unhide HR).1, hol', hk2d, (unhide HR).2.1, hA2b, rfl, rfl, (unhide HR).2.2.1, (unhide HR).2.2.2⟩
          case measure => simp [intOf]; omega
    · have hie : i = m := by omega
      subst hie
      rw [List.take_of_length_le (by rw [unhide HM]; exact Nat.le_refl _), ← unhide HL] at hrd
      obtain ⟨oa, oc, rfl, oat, ocap, _⟩ := OwnB.at ho
      have HB6 := hide (base64_any (n := t.out.length) (c := oc) rfl (by omega) ocap oat)
      have hob : t.out.length ≤ 1000000 := by omega
      by_cases hb : b64 t.out = s
      · have hfs := from_is hb
        have HE : Hid (fromE s = 0 ∧ fromV s = t.out) := hide ⟨by unfold fromE; rw [hfs]; rfl, by unfold fromV; rw [hfs]; rfl⟩
        rw [hb] at HB6
        have HR := hide (And.intro ho hbw)
        clear hrd ho hbw hb hfs oat hr hk hol
        go_wp2_with (go_at_call 25; fail)
        refine (unhide HB6).mono ?_
        rintro e w2 ⟨rfl, b2⟩
        have HR2 := hide (And.intro (OwnB.low (unhide HR).1 b2) (low_trans (unhide HR).2 b2))
        clear b2
        go_wp2
        go_ret2
        rw [(unhide HE).1, (unhide HE).2]
        exact ⟨.slice oa t.out.length oc, rfl, (unhide HR2).1, (unhide HR2).2⟩
      · have hfs := from_none2 hrd hb
        have HE : Hid (fromE s = 15 ∧ fromV s = []) := hide ⟨by unfold fromE; rw [hfs]; rfl, by unfold fromV; rw [hfs]; rfl⟩
        have hne : (b64 t.out == s) = false := by simpa using hb
        have HBW := hide hbw
        clear hrd ho hbw hfs oat hr hk hol
        go_wp2_with (go_at_call 25; fail)
        refine (unhide HB6).mono ?_
        rintro e w2 ⟨rfl, b2⟩
        have HR2 := hide (low_trans (unhide HBW) b2)
        clear b2
        go_wp2
        go_ret2
        rw [(unhide HE).1, (unhide HE).2]
        exact ⟨.slice none 0 0, rfl, World.ownsRow_nil _ _ _ _, unhide HR2⟩
end Go.Proofs.YtkablmjkffdloaaGreatDoor
