/-
  Base64, the reference's.
-/
import Derived.Test.YtkablmjkffdloaaGreatDoorB64W
import Derived.Test.YtkablmjkffdloaaGreatDoorRefH
import Derived.Deep.RegionWith
namespace Go.Proofs.YtkablmjkffdloaaGreatDoor
open Go.RowKit

/-- Letters as they come, ahead of what is laid over the last ones. -/
def rawL : Bs → Bs
  | [] => []
  | [a] => lets (num3 a 0 0) 4
  | [a, b] => lets (num3 a b 0) 4
  | a :: b :: c :: r => lets (num3 a b c) 4 ++ rawL r
/-- One to three bytes as a number, what lacks as 0. -/
def numG (g : Bs) : Nat := (g.getD 0 0).toNat * 65536 + (g.getD 1 0).toNat * 256 + (g.getD 2 0).toNat
theorem raw_app : ∀ (k : Nat) (x y : Bs), x.length = 3 * k → rawL (x ++ y) = rawL x ++ rawL y
  | 0, x, y, h => by
    have : x = [] := List.length_eq_zero_iff.1 (by omega)
    subst this
    rfl
  | k + 1, x, y, h => by
    match x, h with
    | a :: b :: c :: r, h =>
      have hr : r.length = 3 * k := by simp at h; omega
      show lets (num3 a b c) 4 ++ rawL (r ++ y) = (lets (num3 a b c) 4 ++ rawL r) ++ rawL y
      rw [raw_app k r y hr, List.append_assoc]
    | [], h => simp at h
    | [_], h => simp at h; omega
    | [_, _], h => simp at h; omega
theorem raw_grp (g : Bs) (h1 : 1 ≤ g.length) (h3 : g.length ≤ 3) : rawL g = lets (numG g) 4 := by
  match g, h1, h3 with
  | [a], _, _ => rfl
  | [a, b], _, _ => rfl
  | [a, b, c], _, _ => show lets (num3 a b c) 4 ++ [] = _; rw [List.append_nil]; rfl
theorem raw_next {b : Bs} {k i : Nat} (hi : i = 3 * k) (hlt : i < b.length) : rawL (b.take (i + 3)) = rawL (b.take i) ++ lets (numG ((b.drop i).take 3)) 4 := by
  have e : b.take (i + 3) = b.take i ++ (b.drop i).take 3 := by rw [List.take_add]
  rw [e, raw_app k _ _ (by rw [List.length_take]; omega), raw_grp ((b.drop i).take 3) (by rw [List.length_take, List.length_drop]; omega) (by rw [List.length_take]; omega)]
theorem lets_len (n : Nat) : (lets n 4).length = 4 := rfl
theorem numG_lt (g : Bs) : numG g < 16777216 := by
  unfold numG
  have h0 := UInt8.toNat_lt (g.getD 0 0)
  have h1 := UInt8.toNat_lt (g.getD 1 0)
  have h2 := UInt8.toNat_lt (g.getD 2 0)
  omega
theorem raw_len : ∀ (b : Bs), ∃ k, (rawL b).length = 4 * k ∧ k ≤ b.length ∧ (1 ≤ b.length → 1 ≤ k)
  | [] => ⟨0, rfl, Nat.le_refl _, fun h => by simp at h⟩
  | [a] => ⟨1, rfl, Nat.le_refl _, fun _ => Nat.le_refl _⟩
  | [a, b] => ⟨1, rfl, by simp, fun _ => Nat.le_refl _⟩
  | a :: b :: c :: r => by
    obtain ⟨k, h1, h2, _⟩ := raw_len r
    refine ⟨k + 1, ?_, by simp; omega, fun _ => by omega⟩
    show (lets (num3 a b c) 4 ++ rawL r).length = _
    rw [List.length_append, h1, lets_len]
    omega
theorem set_app {x y : Bs} {k : Nat} {c : UInt8} (h : x.length ≤ k) : (x ++ y).set k c = x ++ y.set (k - x.length) c := List.set_append_right _ _ h
/-- What is laid over the last letters makes it whole. -/
theorem raw_fix : ∀ (b : Bs), (b.length % 3 = 0 → rawL b = b64 b) ∧ (b.length % 3 = 1 → ((rawL b).set ((rawL b).length - 2) 61).set ((rawL b).length - 1) 61 = b64 b) ∧ (b.length % 3 = 2 → (rawL b).set ((rawL b).length - 1) 61 = b64 b)
  | [] => ⟨fun _ => rfl, fun h => by simp at h, fun h => by simp at h⟩
  | [a] => ⟨fun h => by simp at h, fun _ => rfl, fun h => by simp at h⟩
  | [a, b] => ⟨fun h => by simp at h, fun h => by simp at h, fun _ => rfl⟩
  | a :: b :: c :: r => by
    obtain ⟨h0, h1, h2⟩ := raw_fix r
    have hl : (a :: b :: c :: r).length % 3 = r.length % 3 := by simp; omega
    obtain ⟨k, hk, _, hk1⟩ := raw_len r
    have el : (lets (num3 a b c) 4 ++ rawL r).length = 4 + (rawL r).length := by rw [List.length_append, lets_len]
    rw [hl]
    refine ⟨fun h => ?_, fun h => ?_, fun h => ?_⟩
    · show lets (num3 a b c) 4 ++ rawL r = lets (num3 a b c) 4 ++ b64 r
      rw [h0 h]
    · have : 1 ≤ k := hk1 (by omega)
      show ((lets (num3 a b c) 4 ++ rawL r).set ((lets (num3 a b c) 4 ++ rawL r).length - 2) 61).set ((lets (num3 a b c) 4 ++ rawL r).length - 1) 61 = lets (num3 a b c) 4 ++ b64 r
      rw [el, set_app (by rw [lets_len]; omega), set_app (by rw [lets_len]; omega), lets_len, ← h1 h, show 4 + (rawL r).length - 2 - 4 = (rawL r).length - 2 by omega, show 4 + (rawL r).length - 1 - 4 = (rawL r).length - 1 by omega]
    · have : 1 ≤ k := hk1 (by omega)
      show (lets (num3 a b c) 4 ++ rawL r).set ((lets (num3 a b c) 4 ++ rawL r).length - 1) 61 = lets (num3 a b c) 4 ++ b64 r
      rw [el, set_app (by rw [lets_len]; omega), lets_len, ← h2 h, show 4 + (rawL r).length - 1 - 4 = (rawL r).length - 1 by omega]

theorem OwnB.put {base : Nat} {w : World} {g n cap : Nat} {l : Bs} (h : OwnB base w (.slice (some ⟨g, 0, none⟩) n cap) l) (k : Nat) (c : UInt8) : OwnB base (w.setCell ⟨g, k, none⟩ (.int .u8 (c.toNat : Int))) (.slice (some ⟨g, 0, none⟩) n cap) (l.set k c) := by
  rcases h.2 with ⟨e, _⟩ | ⟨g', cap', cur, e, hb, hh, h1, h2, h3, h4⟩
  · cases e
  · have e1 := (Value.slice.inj e).1
    cases e1
    have hs : Blk (w.setCell ⟨g, k, none⟩ (byteV c)) g (cur.setIfInBounds k (byteV c)) 5 := Blk.set hh k (byteV c)
    refine ⟨by simp, Or.inr ⟨g, cap', _, by rw [List.length_set]; exact e, hb, hs, by simpa using h1, h2, by simpa using h3, ?_⟩⟩
    rw [Array.toList_setIfInBounds, List.take_set, List.length_set, h4, List.map_set]
theorem own_free {base : Nat} {w : World} {g n cap k : Nat} {l : Bs} (h : OwnB base w (.slice (some ⟨g, 0, none⟩) n cap) l) : w.frozen? ⟨g, k, none⟩ = false ∧ base ≤ g ∧ n = l.length ∧ n ≤ cap := by
  rcases h.2 with ⟨e, _⟩ | ⟨g', cap', cur, e, hb, hh, h1, _⟩
  · cases e
  · obtain ⟨e1, e2, e3⟩ := Value.slice.inj e
    cases e1
    exact ⟨Lib.frozen_of_heap hh k, hb, e2, by omega⟩
theorem own_cell {base : Nat} {w : World} {g n cap k : Nat} {l : Bs} (h : OwnB base w (.slice (some ⟨g, 0, none⟩) n cap) l) (hk : k < l.length) : w.cell? ⟨g, k, none⟩ = some (.int .u8 (l[k].toNat : Int)) := by
  rcases h.2 with ⟨e, _⟩ | ⟨g', cap', cur, e, hb, hh, h1, h2, h3, h4⟩
  · cases e
  · obtain ⟨e1, e2, e3⟩ := Value.slice.inj e
    cases e1
    have hb2 : Blk w g cur 5 := hh
    rw [hb2.cell k]
    have h5 : (l.map byteV)[k]? = some (.int .u8 (l[k].toNat : Int)) := by rw [List.getElem?_map, List.getElem?_eq_getElem hk]; rfl
    rw [← h4, List.getElem?_take, if_pos (by omega), Array.getElem?_toList] at h5
    exact h5
theorem own_form {base : Nat} {w : World} {v : Value} {l : Bs} (h : OwnB base w v l) (hl : 1 ≤ l.length) : ∃ g cap, v = .slice (some ⟨g, 0, none⟩) l.length cap := by
  rcases h.2 with ⟨_, e⟩ | ⟨g, cap, cur, e, _⟩
  · omega
  · exact ⟨g, cap, e⟩
theorem low_put {w wa : World} {g k : Nat} {v : Value} (b : Below w.heap.size w wa) (hg : w.heap.size ≤ g) : Below w.heap.size w (wa.setCell ⟨g, k, none⟩ v) :=
  b.trans ⟨rfl, rfl, rfl, by simp [World.setCell], fun j hj => Below.heap_setCell _ _ _ _ (by show j ≠ g; omega)⟩

set_option maxRecDepth 100000 in
set_option maxHeartbeats 4000000 in
theorem refB64_any {w : World} {a : Option Addr} {n c : Nat} {b : Bs} (hn : b.length = n) (hN : n ≤ 268435456) (h : BAt w a b) :
    Calls Tryz.prog 33 #[.slice a n c] w fun e w' => e = .returned (.string ⟨(b64 b).toArray⟩) ∧ Below w.heap.size w w' := by
  have HN := hide hn
  have H := hide h
  clear hn h
  go_enter Tryz.func33, Tryz.ntmps33
  go_wp2
  go_loopw [3, 4, 5] (fun v3 v4 _ wr => ∃ i k : Nat, i = 3 * k ∧ i ≤ n + 2 ∧ v4 = .int .i64 (i : Int) ∧ OwnB w.heap.size wr v3 (rawL (b.take i)) ∧ Below w.heap.size w wr) (fun _ v4 _ _ => n + 3 - (intOf v4).toNat)
  case atStart => exact ⟨0, 0, rfl, Nat.zero_le _, rfl, World.ownsRow_nil _ _ _ _, Below.refl _ _⟩
  case round =>
    rename World => wr
    obtain ⟨i, k, hik, hin, rfl, ho, hbw⟩ := hrel
    by_cases hlt : i < n
    · have hil : i < b.length := by rw [unhide HN]; exact hlt
      have hB := (unhide H).low hbw
      obtain ⟨B, O, rfl, he⟩ : ∃ B O, a = some ⟨B, O, none⟩ ∧ ∀ k (hk : k < b.length), wr.cell? ⟨B, O + k, none⟩ = some (.int .u8 (b[k].toNat : Int)) := by
        rcases hB.els with e | h
        · rw [e] at hil; simp at hil
        · exact h
      have hnx := raw_next hik hil
      obtain ⟨x0, hx0⟩ : ∃ x, b[i] = x := ⟨_, rfl⟩
      have c0 := he i hil
      rw [hx0] at c0
      have g0 : ((b.drop i).take 3).getD 0 0 = x0 := by
        rw [List.getD_eq_getElem?_getD, List.getElem?_take, if_pos (by decide), List.getElem?_drop, Nat.add_zero, List.getElem?_eq_getElem hil, hx0]; rfl
      obtain ⟨i1, hi1⟩ : ∃ i1, i + 1 = i1 := ⟨_, rfl⟩
      obtain ⟨i2, hi2⟩ : ∃ i2, i + 2 = i2 := ⟨_, rfl⟩
      obtain ⟨i3, hi3⟩ : ∃ i3, i + 3 = i3 := ⟨_, rfl⟩
      have ei1 : (i : Int) + 1 = (i1 : Int) := by omega
      have ei2 : (i : Int) + 2 = (i2 : Int) := by omega
      have ei3 : (i : Int) + 3 = (i3 : Int) := by omega
      -- the number of the group
      obtain ⟨NG, hNG⟩ : ∃ NG, numG ((b.drop i).take 3) = NG := ⟨_, rfl⟩
      have hNGb : NG < 16777216 := by rw [← hNG]; exact numG_lt _
      obtain ⟨p0, hp0⟩ : ∃ p, NG / 262144 = p := ⟨_, rfl⟩
      obtain ⟨y1, hy1⟩ : ∃ p, NG / 4096 = p := ⟨_, rfl⟩
      obtain ⟨p1, hp1⟩ : ∃ p, y1 % 64 = p := ⟨_, rfl⟩
      obtain ⟨y2, hy2⟩ : ∃ p, NG / 64 = p := ⟨_, rfl⟩
      obtain ⟨p2, hp2⟩ : ∃ p, y2 % 64 = p := ⟨_, rfl⟩
      obtain ⟨p3, hp3⟩ : ∃ p, NG % 64 = p := ⟨_, rfl⟩
      have a0 : (NG : Int) / 262144 = (p0 : Int) := by omega
      have a1 : (NG : Int) / 4096 = (y1 : Int) := by omega
      have b1 : (y1 : Int).tmod 64 = (p1 : Int) := by rw [Int.tmod_eq_emod_of_nonneg (by omega)]; omega
      have b1' : (y1 : Int) % 64 = (p1 : Int) := by omega
      have a2 : (NG : Int) / 64 = (y2 : Int) := by omega
      have b2 : (y2 : Int).tmod 64 = (p2 : Int) := by rw [Int.tmod_eq_emod_of_nonneg (by omega)]; omega
      have b2' : (y2 : Int) % 64 = (p2 : Int) := by omega
      have b3 : (NG : Int).tmod 64 = (p3 : Int) := by rw [Int.tmod_eq_emod_of_nonneg (by omega)]; omega
      have b3' : (NG : Int) % 64 = (p3 : Int) := by omega
      have q0 : p0 < 64 := by omega
      have q1 : p1 < 64 := by omega
      have q2 : p2 < 64 := by omega
      have q3 : p3 < 64 := by omega
      have r0 : (p0 : Int) < 64 := by omega
      have r1 : (p1 : Int) < 64 := by omega
      have r2 : (p2 : Int) < 64 := by omega
      have r3 : (p3 : Int) < 64 := by omega
      have t0 := wrapI p0 (by omega)
      have t1 := wrapI y1 (by omega)
      have t2 := wrapI p1 (by omega)
      have t3 := wrapI y2 (by omega)
      have t4 := wrapI p2 (by omega)
      have t5 := wrapI p3 (by omega)
      obtain ⟨z0, hz0⟩ : ∃ z, letN p0 = z := ⟨_, rfl⟩
      obtain ⟨z1, hz1⟩ : ∃ z, letN p1 = z := ⟨_, rfl⟩
      obtain ⟨z2, hz2⟩ : ∃ z, letN p2 = z := ⟨_, rfl⟩
      obtain ⟨z3, hz3⟩ : ∃ z, letN p3 = z := ⟨_, rfl⟩
      have d0 := (let_at q0).trans hz0
      have d1 := (let_at q1).trans hz1
      have d2 := (let_at q2).trans hz2
      have d3 := (let_at q3).trans hz3
      unfold lettersB at d0 d1 d2 d3
      have hlets : lets NG 4 = [z0, z1, z2, z3] := by
        show [letN (NG / 262144 % 64), letN (NG / 4096 % 64), letN (NG / 64 % 64), letN (NG % 64)] = _
        rw [hy1, hp1, hy2, hp2, hp3, hp0, Nat.mod_eq_of_lt q0, hz0, hz1, hz2, hz3]
      rw [hNG, hlets] at hnx
      have hll : (rawL (b.take i)).length ≤ 2147483648 := by
        obtain ⟨kk, e1, e2, _⟩ := raw_len (b.take i)
        rw [List.length_take] at e2
        omega
      obtain ⟨W1, hW1⟩ : ∃ W1, wr.drew.alloc (.cells #[.int .u8 (z0.toNat : Int), .int .u8 (z1.toNat : Int), .int .u8 (z2.toNat : Int), .int .u8 (z3.toNat : Int)] 5) = W1 := ⟨_, rfl⟩
      obtain ⟨v', w', happ, hown, hgr⟩ := app_four (W1 := W1) (w := wr.drew) (ho.low (Below.refl _ _).drew) hbw.size hll hW1
      rw [← hnx, hi3] at hown
      have HP : Hid (OwnB w.heap.size w' v' (rawL (b.take i3)) ∧ Below w.heap.size w w') := hide ⟨hown, hbw.drew.trans (hgr.low hbw.size (OwnB.base ho))⟩
      have HW1 : Hid ((wr.alloc (.cells #[.int .u8 (z0.toNat : Int), .int .u8 (z1.toNat : Int), .int .u8 (z2.toNat : Int), .int .u8 (z3.toNat : Int)] 5)).drew = W1) := hide hW1
      have happ2 : (Builtin.append_ #[23, 23] 23 #[u3, .slice (some ⟨wr.heap.size, 0, none⟩) 4 4]).run Tryz.prog W1 = .ok v' w' := happ
      have mixed : Tryz.prog.follows .mixedOrders = true := by kernel_rfl
      have HIK : Hid (i3 = 3 * (k + 1)) := hide (by omega)
      have hi3n : i3 ≤ n + 2 := by omega
      have x08 := u8_lt x0
      have m1 : (x0.toNat : Int) * 65536 ≤ 16711680 := by omega
      obtain ⟨A0, hA0⟩ : ∃ A, x0.toNat * 65536 = A := ⟨_, rfl⟩
      have f0 : (x0.toNat : Int) * 65536 = (A0 : Int) := by omega
      have A0b : A0 < 16777216 := by omega
      clear m1
      by_cases h1 : i1 < n
      · have hl1 : i1 < b.length := by rw [unhide HN]; exact h1
        obtain ⟨x1, hx1⟩ : ∃ x, b[i1] = x := ⟨_, rfl⟩
        have c1 := he i1 hl1
        rw [hx1] at c1
        have g1 : ((b.drop i).take 3).getD 1 0 = x1 := by
          rw [List.getD_eq_getElem?_getD, List.getElem?_take, if_pos (by decide), List.getElem?_drop, hi1, List.getElem?_eq_getElem hl1, hx1]; rfl
        have x18 := u8_lt x1
        obtain ⟨A1, hA1⟩ : ∃ A, x1.toNat * 256 = A := ⟨_, rfl⟩
        have f1 : (x1.toNat : Int) * 256 = (A1 : Int) := by omega
        obtain ⟨S1, hS1⟩ : ∃ S, A0 + A1 = S := ⟨_, rfl⟩
        have f2 : (A0 : Int) + (A1 : Int) = (S1 : Int) := by omega
        have S1b : S1 < 16777216 := by omega
        by_cases h2 : i2 < n
        · have hl2 : i2 < b.length := by rw [unhide HN]; exact h2
          obtain ⟨x2, hx2⟩ : ∃ x, b[i2] = x := ⟨_, rfl⟩
          have c2 := he i2 hl2
          rw [hx2] at c2
          have g2 : ((b.drop i).take 3).getD 2 0 = x2 := by
            rw [List.getD_eq_getElem?_getD, List.getElem?_take, if_pos (by decide), List.getElem?_drop, hi2, List.getElem?_eq_getElem hl2, hx2]; rfl
          have x28 := u8_lt x2
          have f3 : (S1 : Int) + (x2.toNat : Int) = (NG : Int) := by
            rw [← hNG]
            unfold numG
            rw [g0, g1, g2]
            omega
          clear happ ho hbw hown hgr hW1 hnx hx0 g0 g1 g2 hx1 hx2 he hB hNG hlets hp0 hp1 hp2 hp3 hy1 hy2 hz0 hz1 hz2 hz3 hll hik hi1 hi2 hi3 hA0 hA1 hS1 hil hl1 hl2
          go_wp2
          refine wp_region_any mixed ?_
          refine wpAny_take (i := 0) (v := u3) rfl (by kernel_rfl) (by kernel_rfl) (by kernel_rfl) (fun _ _ _ h => h) (Or.inl ⟨rfl, fun _ => rfl⟩) ?_
          refine wpAny_take (i := 1) (v := .int .i64 (NG : Int)) rfl (by kernel_rfl) (by kernel_rfl) (by kernel_rfl) (fun _ _ _ h => h) (Or.inl ⟨rfl, fun _ => rfl⟩) ?_
          refine wpAny_take (i := 2) (v := .int .i64 (p0 : Int)) rfl (by kernel_rfl) (by kernel_rfl) (by kernel_rfl) (fun _ _ _ h => h) (Or.inl ⟨rfl, fun _ => by go_simp⟩) ?_
          refine wpAny_take (i := 3) (v := .int .u8 (z0.toNat : Int)) rfl (by kernel_rfl) (by kernel_rfl) (by kernel_rfl) (fun _ _ _ h => h) (Or.inl ⟨rfl, fun _ => by go_simp⟩) ?_
          go_simp
          refine wpAny_take (i := 4) (v := .int .i64 (NG : Int)) rfl (by kernel_rfl) (by kernel_rfl) (by kernel_rfl) (fun _ _ _ h => h) (Or.inl ⟨rfl, fun _ => rfl⟩) ?_
          refine wpAny_take (i := 5) (v := .int .i64 (y1 : Int)) rfl (by kernel_rfl) (by kernel_rfl) (by kernel_rfl) (fun _ _ _ h => h) (Or.inl ⟨rfl, fun _ => by go_simp⟩) ?_
          refine wpAny_take (i := 6) (v := .int .i64 (p1 : Int)) rfl (by kernel_rfl) (by kernel_rfl) (by kernel_rfl) (fun _ _ _ h => h) (Or.inl ⟨rfl, fun _ => by go_simp⟩) ?_
          refine wpAny_take (i := 7) (v := .int .u8 (z1.toNat : Int)) rfl (by kernel_rfl) (by kernel_rfl) (by kernel_rfl) (fun _ _ _ h => h) (Or.inl ⟨rfl, fun _ => by go_simp⟩) ?_
          go_simp
          refine wpAny_take (i := 8) (v := .int .i64 (NG : Int)) rfl (by kernel_rfl) (by kernel_rfl) (by kernel_rfl) (fun _ _ _ h => h) (Or.inl ⟨rfl, fun _ => rfl⟩) ?_
          refine wpAny_take (i := 9) (v := .int .i64 (y2 : Int)) rfl (by kernel_rfl) (by kernel_rfl) (by kernel_rfl) (fun _ _ _ h => h) (Or.inl ⟨rfl, fun _ => by go_simp⟩) ?_
          refine wpAny_take (i := 10) (v := .int .i64 (p2 : Int)) rfl (by kernel_rfl) (by kernel_rfl) (by kernel_rfl) (fun _ _ _ h => h) (Or.inl ⟨rfl, fun _ => by go_simp⟩) ?_
          refine wpAny_take (i := 11) (v := .int .u8 (z2.toNat : Int)) rfl (by kernel_rfl) (by kernel_rfl) (by kernel_rfl) (fun _ _ _ h => h) (Or.inl ⟨rfl, fun _ => by go_simp⟩) ?_
          go_simp
          refine wpAny_take (i := 12) (v := .int .i64 (NG : Int)) rfl (by kernel_rfl) (by kernel_rfl) (by kernel_rfl) (fun _ _ _ h => h) (Or.inl ⟨rfl, fun _ => rfl⟩) ?_
          refine wpAny_take (i := 13) (v := .int .i64 (p3 : Int)) rfl (by kernel_rfl) (by kernel_rfl) (by kernel_rfl) (fun _ _ _ h => h) (Or.inl ⟨rfl, fun _ => by go_simp⟩) ?_
          refine wpAny_take (i := 14) (v := .int .u8 (z3.toNat : Int)) rfl (by kernel_rfl) (by kernel_rfl) (by kernel_rfl) (fun _ _ _ h => h) (Or.inl ⟨rfl, fun _ => by go_simp⟩) ?_
          go_simp
          refine wpAny_ready (rs := [15]) (by kernel_rfl) (by simp) (ready_step _ rfl rfl (fun K hK => ?_) AllReady.nil)
          go_simp
          refine hK _ _ ?_
          clear hK K
          refine wpAny_ready (rs := [16]) (by kernel_rfl) (by simp) (ready_step _ rfl rfl (fun K hK => ?_) AllReady.nil)
          rw [unhide HW1]
          refine Lib.wp_append_run _ _ _ _ _ rfl _ _ rfl rfl _ _ happ2 ?_
          refine hK _ _ ?_
          clear hK K
          refine wpAny_ready (rs := [17]) (by kernel_rfl) (by simp) (ready_step _ rfl rfl (fun K hK => ?_) AllReady.nil)
          go_simp
          refine hK _ _ ?_
          clear hK K
          refine wpAny_done (by kernel_rfl) ?_ _
          go_wp2
          go_roundw
          case rel => exact ⟨i3, k + 1, unhide HIK, hi3n, rfl, (unhide HP).1, (unhide HP).2⟩
          case measure => simp [intOf]; omega
        · have f3 : S1 = NG := by
            have g2 : ((b.drop i).take 3).getD 2 0 = 0 := by
              rw [List.getD_eq_getElem?_getD, List.getElem?_take, if_pos (by decide), List.getElem?_drop, List.getElem?_eq_none (by rw [unhide HN]; omega)]; rfl
            have z : (0 : UInt8).toNat = 0 := rfl
            rw [← hNG]
            unfold numG
            rw [g0, g1, g2, z]
            omega
          subst f3
          clear happ ho hbw hown hgr hW1 hnx hx0 g0 g1 hx1 he hB hNG hlets hp0 hp1 hp2 hp3 hy1 hy2 hz0 hz1 hz2 hz3 hll hik hi1 hi2 hi3 hA0 hA1 hS1 hil hl1
          go_wp2
          refine wp_region_any mixed ?_
          refine wpAny_take (i := 0) (v := u3) rfl (by kernel_rfl) (by kernel_rfl) (by kernel_rfl) (fun _ _ _ h => h) (Or.inl ⟨rfl, fun _ => rfl⟩) ?_
          refine wpAny_take (i := 1) (v := .int .i64 (S1 : Int)) rfl (by kernel_rfl) (by kernel_rfl) (by kernel_rfl) (fun _ _ _ h => h) (Or.inl ⟨rfl, fun _ => rfl⟩) ?_
          refine wpAny_take (i := 2) (v := .int .i64 (p0 : Int)) rfl (by kernel_rfl) (by kernel_rfl) (by kernel_rfl) (fun _ _ _ h => h) (Or.inl ⟨rfl, fun _ => by go_simp⟩) ?_
          refine wpAny_take (i := 3) (v := .int .u8 (z0.toNat : Int)) rfl (by kernel_rfl) (by kernel_rfl) (by kernel_rfl) (fun _ _ _ h => h) (Or.inl ⟨rfl, fun _ => by go_simp⟩) ?_
          go_simp
          refine wpAny_take (i := 4) (v := .int .i64 (S1 : Int)) rfl (by kernel_rfl) (by kernel_rfl) (by kernel_rfl) (fun _ _ _ h => h) (Or.inl ⟨rfl, fun _ => rfl⟩) ?_
          refine wpAny_take (i := 5) (v := .int .i64 (y1 : Int)) rfl (by kernel_rfl) (by kernel_rfl) (by kernel_rfl) (fun _ _ _ h => h) (Or.inl ⟨rfl, fun _ => by go_simp⟩) ?_
          refine wpAny_take (i := 6) (v := .int .i64 (p1 : Int)) rfl (by kernel_rfl) (by kernel_rfl) (by kernel_rfl) (fun _ _ _ h => h) (Or.inl ⟨rfl, fun _ => by go_simp⟩) ?_
          refine wpAny_take (i := 7) (v := .int .u8 (z1.toNat : Int)) rfl (by kernel_rfl) (by kernel_rfl) (by kernel_rfl) (fun _ _ _ h => h) (Or.inl ⟨rfl, fun _ => by go_simp⟩) ?_
          go_simp
          refine wpAny_take (i := 8) (v := .int .i64 (S1 : Int)) rfl (by kernel_rfl) (by kernel_rfl) (by kernel_rfl) (fun _ _ _ h => h) (Or.inl ⟨rfl, fun _ => rfl⟩) ?_
          refine wpAny_take (i := 9) (v := .int .i64 (y2 : Int)) rfl (by kernel_rfl) (by kernel_rfl) (by kernel_rfl) (fun _ _ _ h => h) (Or.inl ⟨rfl, fun _ => by go_simp⟩) ?_
          refine wpAny_take (i := 10) (v := .int .i64 (p2 : Int)) rfl (by kernel_rfl) (by kernel_rfl) (by kernel_rfl) (fun _ _ _ h => h) (Or.inl ⟨rfl, fun _ => by go_simp⟩) ?_
          refine wpAny_take (i := 11) (v := .int .u8 (z2.toNat : Int)) rfl (by kernel_rfl) (by kernel_rfl) (by kernel_rfl) (fun _ _ _ h => h) (Or.inl ⟨rfl, fun _ => by go_simp⟩) ?_
          go_simp
          refine wpAny_take (i := 12) (v := .int .i64 (S1 : Int)) rfl (by kernel_rfl) (by kernel_rfl) (by kernel_rfl) (fun _ _ _ h => h) (Or.inl ⟨rfl, fun _ => rfl⟩) ?_
          refine wpAny_take (i := 13) (v := .int .i64 (p3 : Int)) rfl (by kernel_rfl) (by kernel_rfl) (by kernel_rfl) (fun _ _ _ h => h) (Or.inl ⟨rfl, fun _ => by go_simp⟩) ?_
          refine wpAny_take (i := 14) (v := .int .u8 (z3.toNat : Int)) rfl (by kernel_rfl) (by kernel_rfl) (by kernel_rfl) (fun _ _ _ h => h) (Or.inl ⟨rfl, fun _ => by go_simp⟩) ?_
          go_simp
          refine wpAny_ready (rs := [15]) (by kernel_rfl) (by simp) (ready_step _ rfl rfl (fun K hK => ?_) AllReady.nil)
          go_simp
          refine hK _ _ ?_
          clear hK K
          refine wpAny_ready (rs := [16]) (by kernel_rfl) (by simp) (ready_step _ rfl rfl (fun K hK => ?_) AllReady.nil)
          rw [unhide HW1]
          refine Lib.wp_append_run _ _ _ _ _ rfl _ _ rfl rfl _ _ happ2 ?_
          refine hK _ _ ?_
          clear hK K
          refine wpAny_ready (rs := [17]) (by kernel_rfl) (by simp) (ready_step _ rfl rfl (fun K hK => ?_) AllReady.nil)
          go_simp
          refine hK _ _ ?_
          clear hK K
          refine wpAny_done (by kernel_rfl) ?_ _
          go_wp2
          go_roundw
          case rel => exact ⟨i3, k + 1, unhide HIK, hi3n, rfl, (unhide HP).1, (unhide HP).2⟩
          case measure => simp [intOf]; omega
      · have h2 : ¬ i2 < n := by omega
        have f3 : A0 = NG := by
          have g1 : ((b.drop i).take 3).getD 1 0 = 0 := by
            rw [List.getD_eq_getElem?_getD, List.getElem?_take, if_pos (by decide), List.getElem?_drop, List.getElem?_eq_none (by rw [unhide HN]; omega)]; rfl
          have g2 : ((b.drop i).take 3).getD 2 0 = 0 := by
            rw [List.getD_eq_getElem?_getD, List.getElem?_take, if_pos (by decide), List.getElem?_drop, List.getElem?_eq_none (by rw [unhide HN]; omega)]; rfl
          have z : (0 : UInt8).toNat = 0 := rfl
          rw [← hNG]
          unfold numG
          rw [g0, g1, g2, z]
          omega
        subst f3
        clear happ ho hbw hown hgr hW1 hnx hx0 g0 he hB hNG hlets hp0 hp1 hp2 hp3 hy1 hy2 hz0 hz1 hz2 hz3 hll hik hi1 hi2 hi3 hA0 hil
        go_wp2
        refine wp_region_any mixed ?_
        refine wpAny_take (i := 0) (v := u3) rfl (by kernel_rfl) (by kernel_rfl) (by kernel_rfl) (fun _ _ _ h => h) (Or.inl ⟨rfl, fun _ => rfl⟩) ?_
        refine wpAny_take (i := 1) (v := .int .i64 (A0 : Int)) rfl (by kernel_rfl) (by kernel_rfl) (by kernel_rfl) (fun _ _ _ h => h) (Or.inl ⟨rfl, fun _ => rfl⟩) ?_
        refine wpAny_take (i := 2) (v := .int .i64 (p0 : Int)) rfl (by kernel_rfl) (by kernel_rfl) (by kernel_rfl) (fun _ _ _ h => h) (Or.inl ⟨rfl, fun _ => by go_simp⟩) ?_
        refine wpAny_take (i := 3) (v := .int .u8 (z0.toNat : Int)) rfl (by kernel_rfl) (by kernel_rfl) (by kernel_rfl) (fun _ _ _ h => h) (Or.inl ⟨rfl, fun _ => by go_simp⟩) ?_
        go_simp
        refine wpAny_take (i := 4) (v := .int .i64 (A0 : Int)) rfl (by kernel_rfl) (by kernel_rfl) (by kernel_rfl) (fun _ _ _ h => h) (Or.inl ⟨rfl, fun _ => rfl⟩) ?_
        refine wpAny_take (i := 5) (v := .int .i64 (y1 : Int)) rfl (by kernel_rfl) (by kernel_rfl) (by kernel_rfl) (fun _ _ _ h => h) (Or.inl ⟨rfl, fun _ => by go_simp⟩) ?_
        refine wpAny_take (i := 6) (v := .int .i64 (p1 : Int)) rfl (by kernel_rfl) (by kernel_rfl) (by kernel_rfl) (fun _ _ _ h => h) (Or.inl ⟨rfl, fun _ => by go_simp⟩) ?_
        refine wpAny_take (i := 7) (v := .int .u8 (z1.toNat : Int)) rfl (by kernel_rfl) (by kernel_rfl) (by kernel_rfl) (fun _ _ _ h => h) (Or.inl ⟨rfl, fun _ => by go_simp⟩) ?_
        go_simp
        refine wpAny_take (i := 8) (v := .int .i64 (A0 : Int)) rfl (by kernel_rfl) (by kernel_rfl) (by kernel_rfl) (fun _ _ _ h => h) (Or.inl ⟨rfl, fun _ => rfl⟩) ?_
        refine wpAny_take (i := 9) (v := .int .i64 (y2 : Int)) rfl (by kernel_rfl) (by kernel_rfl) (by kernel_rfl) (fun _ _ _ h => h) (Or.inl ⟨rfl, fun _ => by go_simp⟩) ?_
        refine wpAny_take (i := 10) (v := .int .i64 (p2 : Int)) rfl (by kernel_rfl) (by kernel_rfl) (by kernel_rfl) (fun _ _ _ h => h) (Or.inl ⟨rfl, fun _ => by go_simp⟩) ?_
        refine wpAny_take (i := 11) (v := .int .u8 (z2.toNat : Int)) rfl (by kernel_rfl) (by kernel_rfl) (by kernel_rfl) (fun _ _ _ h => h) (Or.inl ⟨rfl, fun _ => by go_simp⟩) ?_
        go_simp
        refine wpAny_take (i := 12) (v := .int .i64 (A0 : Int)) rfl (by kernel_rfl) (by kernel_rfl) (by kernel_rfl) (fun _ _ _ h => h) (Or.inl ⟨rfl, fun _ => rfl⟩) ?_
        refine wpAny_take (i := 13) (v := .int .i64 (p3 : Int)) rfl (by kernel_rfl) (by kernel_rfl) (by kernel_rfl) (fun _ _ _ h => h) (Or.inl ⟨rfl, fun _ => by go_simp⟩) ?_
        refine wpAny_take (i := 14) (v := .int .u8 (z3.toNat : Int)) rfl (by kernel_rfl) (by kernel_rfl) (by kernel_rfl) (fun _ _ _ h => h) (Or.inl ⟨rfl, fun _ => by go_simp⟩) ?_
        go_simp
        refine wpAny_ready (rs := [15]) (by kernel_rfl) (by simp) (ready_step _ rfl rfl (fun K hK => ?_) AllReady.nil)
        go_simp
        refine hK _ _ ?_
        clear hK K
        refine wpAny_ready (rs := [16]) (by kernel_rfl) (by simp) (ready_step _ rfl rfl (fun K hK => ?_) AllReady.nil)
        rw [unhide HW1]
        refine Lib.wp_append_run _ _ _ _ _ rfl _ _ rfl rfl _ _ happ2 ?_
        refine hK _ _ ?_
        clear hK K
        refine wpAny_ready (rs := [17]) (by kernel_rfl) (by simp) (ready_step _ rfl rfl (fun K hK => ?_) AllReady.nil)
        go_simp
        refine hK _ _ ?_
        clear hK K
        refine wpAny_done (by kernel_rfl) ?_ _
        go_wp2
        go_roundw
        case rel => exact ⟨i3, k + 1, unhide HIK, hi3n, rfl, (unhide HP).1, (unhide HP).2⟩
        case measure => simp [intOf]; omega
    · rw [List.take_of_length_le (by rw [unhide HN]; omega)] at ho
      obtain ⟨h0, h1, h2⟩ := raw_fix b
      obtain ⟨q, hq, _, hq1⟩ := raw_len b
      rw [unhide HN] at h0 h1 h2 hq1
      obtain ⟨r, hr⟩ : ∃ r, n % 3 = r := ⟨_, rfl⟩
      rw [hr] at h0 h1 h2
      have hr3 : r = 0 ∨ r = 1 ∨ r = 2 := by omega
      rcases hr3 with rfl | rfl | rfl
      · have er : (n : Int).tmod 3 = 0 := by rw [Int.tmod_eq_emod_of_nonneg (by omega)]; omega
        have er' : (n : Int) % 3 = 0 := by omega
        rw [h0 rfl] at ho
        have hcv := conv_own ho
        have HB := hide hbw
        clear ho hbw h0 h1 h2 hq hq1 hr hik
        go_wp2
        go_ret
        exact ⟨rfl, unhide HB⟩
      · have er : (n : Int).tmod 3 = 1 := by rw [Int.tmod_eq_emod_of_nonneg (by omega)]; omega
        have er' : (n : Int) % 3 = 1 := by omega
        have hq2 : 1 ≤ q := hq1 (by omega)
        obtain ⟨g, cap, rfl⟩ := own_form ho (by omega)
        obtain ⟨L, hL⟩ : ∃ L, (rawL b).length = L := ⟨_, rfl⟩
        obtain ⟨L2, hL2⟩ : ∃ x, L - 2 = x := ⟨_, rfl⟩
        obtain ⟨L1, hL1⟩ : ∃ x, L - 1 = x := ⟨_, rfl⟩
        have hfix := h1 rfl
        rw [hL, hL1, hL2] at hfix
        obtain ⟨fr2, hgb, -, hcap⟩ := own_free (k := L2) ho
        have ce2 := own_cell (k := L2) ho (by omega)
        obtain ⟨cv2, hcv2⟩ : ∃ x, Value.int .u8 (((rawL b)[L2]'(by omega)).toNat : Int) = x := ⟨_, rfl⟩
        rw [hcv2] at ce2
        have o2 := OwnB.put ho L2 61
        have ce1 := own_cell (k := L1) o2 (by rw [List.length_set]; omega)
        obtain ⟨cv1, hcv1⟩ : ∃ x, Value.int .u8 ((((rawL b).set L2 61)[L1]'(by rw [List.length_set]; omega)).toNat : Int) = x := ⟨_, rfl⟩
        rw [hcv1] at ce1
        obtain ⟨fr1, -, -, -⟩ := own_free (k := L1) o2
        have o3 := OwnB.put o2 L1 61
        rw [hfix] at o3
        rw [hL] at o3 hcap ⊢
        have hcv := conv_own o3
        have HB := hide (low_put (k := L1) (v := .int .u8 ((61 : UInt8).toNat : Int)) (low_put (k := L2) (v := .int .u8 ((61 : UInt8).toNat : Int)) hbw hgb) hgb)
        have u61 : ((61 : UInt8).toNat : Int) = 61 := rfl
        rw [u61] at HB hcv fr1 ce1
        have s2 : (L : Int) - 2 = (L2 : Int) := by omega
        have s1 : (L : Int) - 1 = (L1 : Int) := by omega
        have t2 : L2 < L := by omega
        have t1 : L1 < L := by omega
        have Lb : L ≤ 4294967296 := by
          obtain ⟨kk, e1, e2, _⟩ := raw_len b
          rw [unhide HN] at e2
          omega
        clear ho hbw h0 h1 h2 hq hq1 hr hik hfix o2 o3 hL hL1 hL2 hgb hcv1 hcv2
        go_wp2
        go_ret
        exact ⟨rfl, unhide HB⟩
      · have er : (n : Int).tmod 3 = 2 := by rw [Int.tmod_eq_emod_of_nonneg (by omega)]; omega
        have er' : (n : Int) % 3 = 2 := by omega
        have hq2 : 1 ≤ q := hq1 (by omega)
        obtain ⟨g, cap, rfl⟩ := own_form ho (by omega)
        obtain ⟨L, hL⟩ : ∃ L, (rawL b).length = L := ⟨_, rfl⟩
        obtain ⟨L1, hL1⟩ : ∃ x, L - 1 = x := ⟨_, rfl⟩
        have hfix := h2 rfl
        rw [hL, hL1] at hfix
        obtain ⟨fr1, hgb, -, hcap⟩ := own_free (k := L1) ho
        have ce1 := own_cell (k := L1) ho (by omega)
        obtain ⟨cv1, hcv1⟩ : ∃ x, Value.int .u8 (((rawL b)[L1]'(by omega)).toNat : Int) = x := ⟨_, rfl⟩
        rw [hcv1] at ce1
        have o3 := OwnB.put ho L1 61
        rw [hfix] at o3
        rw [hL] at o3 hcap ⊢
        have hcv := conv_own o3
        have HB := hide (low_put (k := L1) (v := .int .u8 ((61 : UInt8).toNat : Int)) hbw hgb)
        have u61 : ((61 : UInt8).toNat : Int) = 61 := rfl
        rw [u61] at HB hcv
        have s1 : (L : Int) - 1 = (L1 : Int) := by omega
        have t1 : L1 < L := by omega
        have Lb : L ≤ 4294967296 := by
          obtain ⟨kk, e1, e2, _⟩ := raw_len b
          rw [unhide HN] at e2
          omega
        clear ho hbw h0 h1 h2 hq hq1 hr hik hfix o3 hL hL1 hgb hcv1
        go_wp2
        go_ret
        exact ⟨rfl, unhide HB⟩
end Go.Proofs.YtkablmjkffdloaaGreatDoor
