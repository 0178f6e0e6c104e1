/-
  The hash of leaves' hashes: the reference's way.
-/
import Derived.Test.YtkpmbbeidcpclaaGreatDoorLogP
import Derived.Test.YtkpmbbeidcpclaaGreatDoorLogQ
import Derived.Test.YtkpmbbeidcpclaaGreatDoorTwo
namespace Go.Proofs.YtkpmbbeidcpclaaGreatDoor
open Go.RowKit

/-- The hash of leaves' hashes; f: at least as many as there are. -/
def mth : Nat → List Bs → Bs
  | 0, _ => shaL []
  | f + 1, l => if l.length = 0 then shaL [] else if l.length = 1 then l.headD [] else nodeL (mth f (l.take (half l.length))) (mth f (l.drop (half l.length)))

theorem sha_len (b : Bs) : (shaL b).length = 32 := by
  unfold shaL
  simp only
  rw [List.length_flatMap]
  rfl
theorem mth_len : ∀ (f : Nat) (l : List Bs), All32 l → (mth f l).length = 32
  | 0, _, _ => sha_len _
  | f + 1, l, h => by
    unfold mth
    split
    · exact sha_len _
    · split
      · rename_i h0 h1
        cases l with
        | nil => simp at h1
        | cons x r => exact h x (by simp)
      · exact node_len _ _
theorem mth_two {f : Nat} {l : List Bs} (h : 2 ≤ l.length) : mth (f + 1) l = nodeL (mth f (l.take (half l.length))) (mth f (l.drop (half l.length))) := by
  show (if l.length = 0 then _ else _) = _
  rw [if_neg (by omega), if_neg (by omega)]

theorem PAt.back {w : World} {B O : Nat} {ps : List Bs} (h : PAt w (some ⟨B, O, none⟩) ps) (m : Nat) : PAt w (some ⟨B, O + m, none⟩) (ps.drop m) := by
  rcases h.els with h0 | ⟨B', O', ha, he⟩
  · exact ⟨Or.inl (by rw [h0]; simp)⟩
  · cases ha
    refine ⟨Or.inr ⟨B, O + m, rfl, fun k hk => ?_⟩⟩
    have hk' : m + k < ps.length := by rw [List.length_drop] at hk; omega
    obtain ⟨x, c, h1, h2⟩ := he (m + k) hk'
    refine ⟨x, c, ?_, ?_⟩
    · rw [List.getElem_drop, Nat.add_assoc]; exact h1
    · rw [List.getElem_drop]; exact h2

/-- What the hash of leaves is answered as. -/
def HashSaid (w : World) (b : Bs) (e : Ending) (w' : World) : Prop := ∃ v, e = .returned v ∧ OwnB w.heap.size w' v b ∧ Below w.heap.size w w'

set_option maxRecDepth 100000 in
set_option maxHeartbeats 2000000 in
theorem refHash_any : ∀ (f : Nat) {w : World} {a : Option Addr} {n c : Nat} {ls : List Bs} (_ : ls.length = n) (_ : n ≤ f) (_ : n ≤ 1000) (_ : n ≤ c) (_ : c ≤ maxLen) (_ : All32 ls) (_ : PAt w a ls),
    Calls Tryz.prog 53 #[.slice a n c] w (HashSaid w (mth f ls))
  | f, w, a, 0, c, ls, hn, _, _, _, _, _, _ => by
    have hl : ls = [] := List.length_eq_zero_iff.1 hn
    subst hl
    have e : mth f [] = shaL [] := by cases f <;> rfl
    rw [e]
    have HS := hide (refSha_any (w := w) (a := none) (n := 0) (c := 0) (b := []) rfl (by omega) ⟨Or.inl rfl⟩)
    go_enter Tryz.func53, Tryz.ntmps53
    go_wp2_with (go_at_call 73; fail)
    refine (unhide HS).mono ?_
    rintro e w1 ⟨v, rfl, o1, b1⟩
    have HR : Hid (HashSaid w (shaL []) (.returned v) w1) := hide ⟨v, rfl, o1, b1⟩
    clear o1 b1
    go_wp2
    go_ret
    exact unhide HR
  | 0, w, a, n + 1, c, ls, _, hf, _, _, _, _, _ => by omega
  | f + 1, w, a, 1, c, ls, hn, _, _, _, _, h32, hp => by
    obtain ⟨x, rfl⟩ : ∃ x, ls = [x] := by
      match ls, hn with
      | [x], _ => exact ⟨x, rfl⟩
    rcases hp.els with h0 | ⟨B, O, rfl, he⟩
    · cases h0
    obtain ⟨y, d, hc, hb⟩ := he 0 (by simp)
    have hx : x.length = 32 := h32 x (by simp)
    have hc' : w.cell? ⟨B, O, none⟩ = some (.slice y 32 d) := by rw [← hx]; exact hc
    have HB := hide (bytes_any (c := d) (b := x) hx (by omega) hb)
    have HE : Hid (mth (f + 1) [x] = x) := hide rfl
    clear hc hb he hp h32 hn hx
    go_enter Tryz.func53, Tryz.ntmps53
    go_wp2_with (go_at_call 70; fail)
    refine (unhide HB).mono ?_
    rintro e w1 ⟨v, rfl, o1, b1⟩
    have HR : Hid (HashSaid w (mth (f + 1) [x]) (.returned v) w1) := hide ⟨v, rfl, o1, b1⟩
    clear o1 b1
    go_wp2
    go_ret
    exact unhide HR
  | f + 1, w, a, n + 2, c, ls, hn, hf, hn1, hnc, hcm, h32, hp => by
    rcases hp.els with h0 | ⟨B, O, rfl, _⟩
    · rw [h0] at hn; simp at hn
    obtain ⟨m, hm⟩ : ∃ m, n + 2 = m := ⟨_, rfl⟩
    rw [hm] at hn hf hn1 hnc ⊢
    obtain ⟨g1, g2, _, _⟩ := half_is (n := m) (by omega) (by omega)
    have HS := hide (fun wx => refSplit_any (n := m) (by omega) (by omega) wx)
    obtain ⟨s, hs⟩ : ∃ s, half m = s := ⟨_, rfl⟩
    have hmt := mth_two (f := f) (l := ls) (by omega)
    rw [hn, hs] at hmt
    rw [hs] at g1 g2
    have s1 : 1 ≤ s := by omega
    obtain ⟨m2, hm2⟩ : ∃ m2, m - s = m2 := ⟨_, rfl⟩
    obtain ⟨c2, hc2⟩ : ∃ c2, c - s = c2 := ⟨_, rfl⟩
    have hl1 : (ls.take s).length = s := by rw [List.length_take]; omega
    have hl2 : (ls.drop s).length = m2 := by rw [List.length_drop]; omega
    have a1 : All32 (ls.take s) := fun x hx => h32 x (List.mem_of_mem_take hx)
    have a2 : All32 (ls.drop s) := fun x hx => h32 x (List.mem_of_mem_drop hx)
    have p1 := hp.front s
    have p2 := hp.back s
    have HA : Hid (∀ wx, Below w.heap.size w wx → Calls Tryz.prog 53 #[.slice (some ⟨B, O, none⟩) s c] wx fun e w' => ∃ va vc, e = .returned (.slice va 32 vc) ∧ Hid (BAt w' va (mth f (ls.take s))) ∧ Below w.heap.size w w') := hide (fun wx hb => by
      refine (refHash_any f hl1 (by omega) (by omega) (by omega) hcm a1 (p1.low hb)).mono ?_
      rintro e w' ⟨v, rfl, o, bl⟩
      obtain ⟨g, c', rfl, hb'⟩ := OwnB.adr o (mth_len f _ a1)
      exact ⟨_, c', rfl, hide hb', low_trans hb bl⟩)
    have HB : Hid (∀ wx, Below w.heap.size w wx → Calls Tryz.prog 53 #[.slice (some ⟨B, O + s, none⟩) m2 c2] wx fun e w' => ∃ va vc, e = .returned (.slice va 32 vc) ∧ Hid (BAt w' va (mth f (ls.drop s)) ∧ Below wx.heap.size wx w') ∧ Below w.heap.size w w') := hide (fun wx hb => by
      refine (refHash_any f hl2 (by omega) (by omega) (by omega) (by omega) a2 (p2.low hb)).mono ?_
      rintro e w' ⟨v, rfl, o, bl⟩
      obtain ⟨g, c', rfl, hb'⟩ := OwnB.adr o (mth_len f _ a2)
      exact ⟨_, c', rfl, hide ⟨hb', bl⟩, low_trans hb bl⟩)
    have HND : Hid (∀ w7 w8 va vc ua uc, Hid (BAt w7 va (mth f (ls.take s))) → Hid (BAt w8 ua (mth f (ls.drop s)) ∧ Below w7.heap.size w7 w8) → Below w.heap.size w w8 → Calls Tryz.prog 89 #[.slice va 32 vc, .slice ua 32 uc] w8 fun e w' => ∃ v, e = .returned v ∧ Hid (HashSaid w (mth (f + 1) ls) (.returned v) w') ∧ Below w.heap.size w w') := hide (fun w7 w8 va vc ua uc h7 h8 hb => by
      refine (refNode_any (c := vc) (c2 := uc) (mth_len f _ a1) (mth_len f _ a2) (by omega) (by omega) ((unhide h7).low (unhide h8).2) (unhide h8).1).mono ?_
      rintro e w' ⟨v, rfl, o, bl⟩
      exact ⟨v, rfl, hide ⟨v, rfl, by rw [hmt]; exact OwnB.less hb.size o, low_trans hb bl⟩, low_trans hb bl⟩)
    have hB0 : Below w.heap.size w w := Below.refl _ _
    have HH := hide hs
    have k1 : s ≤ c := by omega
    have k2 : (s : Int) ≤ (c : Int) := by omega
    have k3 : s ≤ m := by omega
    have k4 : (s : Int) ≤ (m : Int) := by omega
    have k5 : ¬ (c = s) := by omega
    have k6 : ((m : Int) == 0) = false := by simp; omega
    have k7 : ((m : Int) == 1) = false := by simp; omega
    have hcm' : c ≤ 9223372036854775807 := hcm
    clear hn hf hmt hs hl1 hl2 a1 a2 p1 p2 hp h32 hm
    go_enter Tryz.func53, Tryz.ntmps53
    go_wp2_with (go_at_call 88; fail)
    refine (unhide HS _).mono ?_
    rintro e w6 ⟨rfl, rfl⟩
    rw [unhide HH]
    go_wp2
    go_region_held3 (fun w' => Below w6.heap.size w6 w')
      (first | assumption | exact (Below.refl _ _).drew | exact Below.drew (by assumption) | go_keep)
      ((first | (go_at_call_of 53 (Value.slice (some ⟨B, O, none⟩) s c); refine (unhide HA _ (by assumption)).mono ?_; rintro e w7 ⟨va7, vc7, rfl, hv7, hb7⟩) | (go_at_call_of 53 (Value.slice (some ⟨B, O + s, none⟩) m2 c2); refine (unhide HB _ (by assumption)).mono ?_; rintro e w8 ⟨va8, vc8, rfl, hv8, hb8⟩) | (go_at_call 89; refine (unhide HND _ _ _ _ _ _ hv7 hv8 (by assumption)).mono ?_; rintro e w9 ⟨v9, rfl, hv9, hb9⟩)))
    have HV9 := hv9
    clear hv9 hv8 hv7
    go_wp2
    go_ret
    exact unhide HV9

end Go.Proofs.YtkpmbbeidcpclaaGreatDoor
