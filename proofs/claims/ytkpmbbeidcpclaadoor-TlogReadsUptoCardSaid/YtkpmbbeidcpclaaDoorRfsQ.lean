/-
  Proofs of growth: the reference's way.
-/
import Derived.Test.YtkpmbbeidcpclaaDoorSpanQ
namespace Go.Proofs.YtkpmbbeidcpclaaDoor
open Go.RowKit

/-- What a list of hashes is answered as. -/
def ListOk (w : World) (ps : List Bs) (e : Ending) (w' : World) : Prop := ∃ v, e = .returned v ∧ LvAt w.heap.size w' v ps ∧ Below w.heap.size w w'

/-- One hash in a list of its own. -/
theorem LvAt.one {base : Nat} {w : World} {a : Option Addr} {c : Nat} {h : Bs} (hu : OwnB base w (.slice a 32 c) h) (hB : base ≤ w.heap.size) : LvAt base (w.alloc (.cells #[.slice a 32 c] 29)) (.slice (some ⟨w.heap.size, 0, none⟩) 1 1) [h] := by
  have b1 : Below w.heap.size w (w.alloc (.cells #[.slice a 32 c] 29)) := (Below.refl _ _).alloc (Nat.le_refl _) _
  refine ⟨[.slice a 32 c], ⟨rfl, Or.inr ⟨w.heap.size, 1, _, rfl, hB, Blk.new w _ _, Nat.le_refl _, by unfold maxLen; omega, rfl, rfl⟩⟩, fun k hk => ?_⟩
  have : k = 0 := by simp at hk; exact hk
  subst this
  exact ⟨_, rfl, OwnB.low hu b1⟩

end Go.Proofs.YtkpmbbeidcpclaaDoor

namespace Go.Proofs.YtkpmbbeidcpclaaDoor
open Go.RowKit

set_option maxRecDepth 100000 in
set_option maxHeartbeats 2000000 in
theorem refPath_any : ∀ (k : Nat) {w : World} {a : Option Addr} {n c i : Nat} {ls : List Bs} (_ : ls.length = n) (_ : 1 ≤ n) (_ : n ≤ k) (_ : k ≤ 1000) (_ : n ≤ c) (_ : c ≤ maxLen) (_ : All32 ls) (_ : PAt w a ls) (_ : i < n),
    Calls Tryd.prog 53 #[.int .i64 (i : Int), .slice a n c] w (ListOk w (pathP k i ls))
  | 0, w, a, n, c, i, ls, _, h1, hk, _, _, _, _, _, _ => by omega
  | k + 1, w, a, n, c, i, ls, hn, h1, hk, hkb, hnc, hcm, h32, hp, hin => by
    by_cases hn1 : n = 1
    · subst hn1
      have HR : Hid (ListOk w (pathP (k + 1) i ls) (.returned (.slice none 0 0)) w) := hide ⟨_, rfl, by
        have e : pathP (k + 1) i ls = [] := by
          show (if ls.length ≤ 1 then _ else _) = _
          rw [if_pos (by rw [hn]; exact Nat.le_refl _)]
        rw [e]; exact LvAt.nil _ _, Below.refl _ _⟩
      clear hn hp h32
      go_enter Tryd.func53, Tryd.ntmps53
      go_wp2
      go_ret
      exact unhide HR
    have h2 : 2 ≤ n := by omega
    have hq : ((n : Int) == 1) = false := by simp; omega
    have hmt := pathP_two (k := k) (i := i) (l := ls) (by omega)
    rcases hp.els with h0 | ⟨B, O, rfl, _⟩
    · rw [h0] at hn; simp at hn; omega
    obtain ⟨g1, g2, _, _⟩ := half_is (n := n) h2 (by omega)
    have HS := hide (fun wx => refSplit_any (n := n) h2 (by omega) wx)
    obtain ⟨s, hs⟩ : ∃ s, half n = s := ⟨_, rfl⟩
    rw [hn, hs] at hmt
    rw [hs] at g1 g2
    have HH := hide hs
    obtain ⟨n2, hn2⟩ : ∃ n2, n - s = n2 := ⟨_, rfl⟩
    obtain ⟨c2, hc2⟩ : ∃ c2, c - s = c2 := ⟨_, rfl⟩
    have hl1 : (ls.take s).length = s := by rw [List.length_take]; omega
    have hl2 : (ls.drop s).length = n2 := by rw [List.length_drop]; omega
    have a1 : All32 (ls.take s) := fun x hx => h32 x (List.mem_of_mem_take hx)
    have a2 : All32 (ls.drop s) := fun x hx => h32 x (List.mem_of_mem_drop hx)
    have p1 := hp.front s
    have p2 := hp.back s
    have k1 : s ≤ c := by omega
    have k2 : (s : Int) ≤ (c : Int) := by omega
    have k3 : s ≤ n := by omega
    have k4 : (s : Int) ≤ (n : Int) := by omega
    have k5 : ¬ (c = s) := by omega
    have hcm' : c ≤ 9223372036854775807 := hcm
    have mixed : Tryd.prog.follows .mixedOrders = true := by kernel_rfl
    by_cases hlt : i < s
    · rw [if_pos hlt] at hmt
      have HA : Hid (∀ wx, Below w.heap.size w wx → Calls Tryd.prog 53 #[.int .i64 (i : Int), .slice (some ⟨B, O, none⟩) s c] wx fun e w' => ∃ v, e = .returned v ∧ Hid (LvAt w.heap.size w' v (pathP k i (ls.take s))) ∧ Below w.heap.size w w') := hide (fun wx hb => by
        refine (refPath_any k hl1 (by omega) (by omega) (by omega) k1 hcm a1 (p1.low hb) hlt).mono ?_
        rintro e w' ⟨v, rfl, lv, bl⟩
        exact ⟨v, rfl, hide (LvAt.less hb.size lv), low_trans hb bl⟩)
      have HB : Hid (∀ wx, Below w.heap.size w wx → Calls Tryd.prog 21 #[.slice (some ⟨B, O + s, none⟩) n2 c2] wx fun e w' => ∃ va vc, e = .returned (.slice va 32 vc) ∧ Hid (OwnB w.heap.size w' (.slice va 32 vc) (mth k (ls.drop s)) ∧ Below wx.heap.size wx w') ∧ Below w.heap.size w w') := hide (fun wx hb => by
        refine (refHash_any k hl2 (by omega) (by omega) (by omega) (by omega) a2 (p2.low hb)).mono ?_
        rintro e w' ⟨v, rfl, o, bl⟩
        obtain ⟨g, c', rfl, _⟩ := OwnB.adr o (mth_len k _ a2)
        exact ⟨_, c', rfl, hide ⟨OwnB.less hb.size o, bl⟩, low_trans hb bl⟩)
      have HAPP : Hid (∀ w7 w8 v7 va vc, Hid (LvAt w.heap.size w7 v7 (pathP k i (ls.take s))) → Hid (OwnB w.heap.size w8 (.slice va 32 vc) (mth k (ls.drop s)) ∧ Below w7.heap.size w7 w8) → Below w.heap.size w w8 → ∃ v' w', (Builtin.append_ #[22, 22] 22 #[v7, .slice (some ⟨w8.heap.size, 0, none⟩) 1 1]).run Tryd.prog (w8.alloc (.cells #[.slice va 32 vc] 29)) = .ok v' w' ∧ Hid (ListOk w (pathP (k + 1) i ls) (.returned v') w') ∧ Below w.heap.size w w') := hide (fun w7 w8 v7 va vc h7 h8 hb => by
        obtain ⟨o8, b8⟩ := unhide h8
        have hlen7 : (pathP k i (ls.take s)).length ≤ k := pathP_len _ _ _
        obtain ⟨v', w', happ, lv', low', _⟩ := app_leaf ((unhide h7).low b8) o8 hb.size (by omega) rfl
        exact ⟨v', w', happ, hide ⟨v', rfl, by rw [hmt]; exact lv', hb.trans low'⟩, hb.trans low'⟩)
      clear hn hk hmt hs hl1 hl2 a1 a2 p1 p2 hp h32
      go_enter Tryd.func53, Tryd.ntmps53
      go_wp2_with (go_at_call 57; fail)
      refine (unhide HS _).mono ?_
      rintro e w6 ⟨rfl, rfl⟩
      rw [unhide HH]
      go_wp2
      refine wp_region_any mixed ?_
      refine wpAny_take (i := 0) (v := .int .i64 (i : Int)) rfl (by kernel_rfl) (by kernel_rfl) (by kernel_rfl) (fun _ _ _ h => h) (Or.inl ⟨by kernel_rfl, fun _ => by kernel_rfl⟩) ?_
      refine wpAny_take (i := 1) (v := .slice (some ⟨B, O, none⟩) n c) rfl (by kernel_rfl) (by kernel_rfl) (by kernel_rfl) (fun _ _ _ h => h) (Or.inl ⟨by kernel_rfl, fun _ => by kernel_rfl⟩) ?_
      refine wpAny_take (i := 2) (v := .int .i64 (s : Int)) rfl (by kernel_rfl) (by kernel_rfl) (by kernel_rfl) (fun _ _ _ h => h) (Or.inl ⟨by kernel_rfl, fun _ => by kernel_rfl⟩) ?_
      go_simp
      refine wpAny_take (i := 3) (v := .slice (some ⟨B, O, none⟩) s c) rfl (by kernel_rfl) (by kernel_rfl) (by kernel_rfl) (fun _ _ _ h => h) (Or.inl ⟨by kernel_rfl, fun _ => by go_simp⟩) ?_
      refine wpAny_take (i := 5) (v := .slice (some ⟨B, O, none⟩) n c) rfl (by kernel_rfl) (by kernel_rfl) (by kernel_rfl) (fun _ _ _ h => h) (Or.inl ⟨by kernel_rfl, fun _ => by kernel_rfl⟩) ?_
      refine wpAny_take (i := 6) (v := .int .i64 (s : Int)) rfl (by kernel_rfl) (by kernel_rfl) (by kernel_rfl) (fun _ _ _ h => h) (Or.inl ⟨by kernel_rfl, fun _ => by kernel_rfl⟩) ?_
      go_simp
      refine wpAny_take (i := 7) (v := .slice (some ⟨B, O + s, none⟩) n2 c2) rfl (by kernel_rfl) (by kernel_rfl) (by kernel_rfl) (fun _ _ _ h => h) (Or.inl ⟨by kernel_rfl, fun _ => by go_simp⟩) ?_
      go_simp
      refine wpAny_ready (rs := [4]) (by kernel_rfl) (by simp) (ready_step _ rfl rfl (fun K hK => ?_) AllReady.nil)
      go_simp
      refine (unhide HA _ (Below.refl _ _).drew).mono ?_
      rintro e w7 ⟨v7, rfl, hv7, hb7⟩
      refine hK _ _ ?_
      clear hK K
      refine wpAny_ready (rs := [8]) (by kernel_rfl) (by simp) (ready_step _ rfl rfl (fun K hK => ?_) AllReady.nil)
      go_simp
      refine (unhide HB _ hb7).mono ?_
      rintro e w8 ⟨va8, vc8, rfl, hv8, hb8⟩
      refine hK _ _ ?_
      clear hK K
      refine wpAny_ready (rs := [9]) (by kernel_rfl) (by simp) (ready_step _ rfl rfl (fun K hK => ?_) AllReady.nil)
      go_simp
      refine hK _ _ ?_
      clear hK K
      obtain ⟨v', w', happ, hfin, hS⟩ := unhide HAPP _ _ _ _ _ hv7 hv8 hb8
      refine wpAny_ready (rs := [10]) (by kernel_rfl) (by simp) (ready_step _ rfl rfl (fun K hK => ?_) AllReady.nil)
      refine Lib.wp_append_run _ (.tmp 19) (.tmp 24) 22 22 rfl v7 (.slice (some ⟨w8.heap.size, 0, none⟩) 1 1) (by kernel_rfl) (by kernel_rfl) v' w' happ ?_
      refine hK _ _ ?_
      clear hK K
      refine wpAny_ready (rs := [11]) (by kernel_rfl) (by simp) (ready_step _ rfl rfl (fun K hK => ?_) AllReady.nil)
      go_simp
      refine hK _ _ ?_
      clear hK K
      refine wpAny_done (by kernel_rfl) ?_ _
      have HV := hfin
      clear hfin hv8 hv7 happ
      go_wp2
      go_ret
      exact unhide HV
    · rw [if_neg hlt] at hmt
      obtain ⟨j, hj⟩ : ∃ j, i - s = j := ⟨_, rfl⟩
      have ej : (i : Int) - (s : Int) = (j : Int) := by omega
      have wj := wrapI j (by omega)
      rw [hj] at hmt
      have j1 : j < n2 := by omega
      have j2 : j ≤ n2 := by omega
      clear hj
      have HA : Hid (∀ wx, Below w.heap.size w wx → Calls Tryd.prog 53 #[.int .i64 (j : Int), .slice (some ⟨B, O + s, none⟩) n2 c2] wx fun e w' => ∃ v, e = .returned v ∧ Hid (LvAt w.heap.size w' v (pathP k j (ls.drop s))) ∧ Below w.heap.size w w') := hide (fun wx hb => by
        refine (refPath_any k hl2 (by omega) (by omega) (by omega) (by omega) (by omega) a2 (p2.low hb) j1).mono ?_
        rintro e w' ⟨v, rfl, lv, bl⟩
        exact ⟨v, rfl, hide (LvAt.less hb.size lv), low_trans hb bl⟩)
      have HB : Hid (∀ wx, Below w.heap.size w wx → Calls Tryd.prog 21 #[.slice (some ⟨B, O, none⟩) s c] wx fun e w' => ∃ va vc, e = .returned (.slice va 32 vc) ∧ Hid (OwnB w.heap.size w' (.slice va 32 vc) (mth k (ls.take s)) ∧ Below wx.heap.size wx w') ∧ Below w.heap.size w w') := hide (fun wx hb => by
        refine (refHash_any k hl1 (by omega) (by omega) (by omega) hcm a1 (p1.low hb)).mono ?_
        rintro e w' ⟨v, rfl, o, bl⟩
        obtain ⟨g, c', rfl, _⟩ := OwnB.adr o (mth_len k _ a1)
        exact ⟨_, c', rfl, hide ⟨OwnB.less hb.size o, bl⟩, low_trans hb bl⟩)
      have HAPP : Hid (∀ w7 w8 v7 va vc, Hid (LvAt w.heap.size w7 v7 (pathP k j (ls.drop s))) → Hid (OwnB w.heap.size w8 (.slice va 32 vc) (mth k (ls.take s)) ∧ Below w7.heap.size w7 w8) → Below w.heap.size w w8 → ∃ v' w', (Builtin.append_ #[22, 22] 22 #[v7, .slice (some ⟨w8.heap.size, 0, none⟩) 1 1]).run Tryd.prog (w8.alloc (.cells #[.slice va 32 vc] 29)) = .ok v' w' ∧ Hid (ListOk w (pathP (k + 1) i ls) (.returned v') w') ∧ Below w.heap.size w w') := hide (fun w7 w8 v7 va vc h7 h8 hb => by
        obtain ⟨o8, b8⟩ := unhide h8
        have hlen7 : (pathP k j (ls.drop s)).length ≤ k := pathP_len _ _ _
        obtain ⟨v', w', happ, lv', low', _⟩ := app_leaf ((unhide h7).low b8) o8 hb.size (by omega) rfl
        exact ⟨v', w', happ, hide ⟨v', rfl, by rw [hmt]; exact lv', hb.trans low'⟩, hb.trans low'⟩)
      clear hn hk hmt hs hl1 hl2 a1 a2 p1 p2 hp h32
      go_enter Tryd.func53, Tryd.ntmps53
      go_wp2_with (go_at_call 57; fail)
      refine (unhide HS _).mono ?_
      rintro e w6 ⟨rfl, rfl⟩
      rw [unhide HH]
      go_wp2
      refine wp_region_any mixed ?_
      refine wpAny_take (i := 0) (v := .int .i64 (i : Int)) rfl (by kernel_rfl) (by kernel_rfl) (by kernel_rfl) (fun _ _ _ h => h) (Or.inl ⟨by kernel_rfl, fun _ => by kernel_rfl⟩) ?_
      refine wpAny_take (i := 1) (v := .int .i64 (s : Int)) rfl (by kernel_rfl) (by kernel_rfl) (by kernel_rfl) (fun _ _ _ h => h) (Or.inl ⟨by kernel_rfl, fun _ => by kernel_rfl⟩) ?_
      refine wpAny_take (i := 2) (v := .int .i64 (j : Int)) rfl (by kernel_rfl) (by kernel_rfl) (by kernel_rfl) (fun _ _ _ h => h) (Or.inl ⟨by kernel_rfl, fun _ => by go_simp⟩) ?_
      go_simp
      refine wpAny_take (i := 3) (v := .slice (some ⟨B, O, none⟩) n c) rfl (by kernel_rfl) (by kernel_rfl) (by kernel_rfl) (fun _ _ _ h => h) (Or.inl ⟨by kernel_rfl, fun _ => by kernel_rfl⟩) ?_
      refine wpAny_take (i := 4) (v := .int .i64 (s : Int)) rfl (by kernel_rfl) (by kernel_rfl) (by kernel_rfl) (fun _ _ _ h => h) (Or.inl ⟨by kernel_rfl, fun _ => by kernel_rfl⟩) ?_
      refine wpAny_take (i := 5) (v := .slice (some ⟨B, O + s, none⟩) n2 c2) rfl (by kernel_rfl) (by kernel_rfl) (by kernel_rfl) (fun _ _ _ h => h) (Or.inl ⟨by kernel_rfl, fun _ => by go_simp⟩) ?_
      go_simp
      refine wpAny_take (i := 7) (v := .slice (some ⟨B, O, none⟩) n c) rfl (by kernel_rfl) (by kernel_rfl) (by kernel_rfl) (fun _ _ _ h => h) (Or.inl ⟨by kernel_rfl, fun _ => by kernel_rfl⟩) ?_
      refine wpAny_take (i := 8) (v := .int .i64 (s : Int)) rfl (by kernel_rfl) (by kernel_rfl) (by kernel_rfl) (fun _ _ _ h => h) (Or.inl ⟨by kernel_rfl, fun _ => by kernel_rfl⟩) ?_
      refine wpAny_take (i := 9) (v := .slice (some ⟨B, O, none⟩) s c) rfl (by kernel_rfl) (by kernel_rfl) (by kernel_rfl) (fun _ _ _ h => h) (Or.inl ⟨by kernel_rfl, fun _ => by go_simp⟩) ?_
      go_simp
      refine wpAny_ready (rs := [6]) (by kernel_rfl) (by simp) (ready_step _ rfl rfl (fun K hK => ?_) AllReady.nil)
      go_simp
      refine (unhide HA _ (Below.refl _ _).drew).mono ?_
      rintro e w7 ⟨v7, rfl, hv7, hb7⟩
      refine hK _ _ ?_
      clear hK K
      refine wpAny_ready (rs := [10]) (by kernel_rfl) (by simp) (ready_step _ rfl rfl (fun K hK => ?_) AllReady.nil)
      go_simp
      refine (unhide HB _ hb7).mono ?_
      rintro e w8 ⟨va8, vc8, rfl, hv8, hb8⟩
      refine hK _ _ ?_
      clear hK K
      refine wpAny_ready (rs := [11]) (by kernel_rfl) (by simp) (ready_step _ rfl rfl (fun K hK => ?_) AllReady.nil)
      go_simp
      refine hK _ _ ?_
      clear hK K
      obtain ⟨v', w', happ, hfin, hS⟩ := unhide HAPP _ _ _ _ _ hv7 hv8 hb8
      refine wpAny_ready (rs := [12]) (by kernel_rfl) (by simp) (ready_step _ rfl rfl (fun K hK => ?_) AllReady.nil)
      refine Lib.wp_append_run _ (.tmp 32) (.tmp 37) 22 22 rfl v7 (.slice (some ⟨w8.heap.size, 0, none⟩) 1 1) (by kernel_rfl) (by kernel_rfl) v' w' happ ?_
      refine hK _ _ ?_
      clear hK K
      refine wpAny_ready (rs := [13]) (by kernel_rfl) (by simp) (ready_step _ rfl rfl (fun K hK => ?_) AllReady.nil)
      go_simp
      refine hK _ _ ?_
      clear hK K
      refine wpAny_done (by kernel_rfl) ?_ _
      have HV := hfin
      clear hfin hv8 hv7 happ
      go_wp2
      go_ret
      exact unhide HV

end Go.Proofs.YtkpmbbeidcpclaaDoor

namespace Go.Proofs.YtkpmbbeidcpclaaDoor
open Go.RowKit

set_option maxRecDepth 100000 in
set_option maxHeartbeats 2000000 in
theorem refSub_any : ∀ (k : Nat) {w : World} {a : Option Addr} {n c m : Nat} {wh : Bool} {ls : List Bs} (_ : ls.length = n) (_ : 1 ≤ n) (_ : n ≤ k) (_ : k ≤ 1000) (_ : n ≤ c) (_ : c ≤ maxLen) (_ : All32 ls) (_ : PAt w a ls) (_ : 1 ≤ m) (_ : m ≤ n),
    Calls Tryd.prog 54 #[.int .i64 (m : Int), .slice a n c, .bool wh] w (ListOk w (subP k m ls wh))
  | 0, w, a, n, c, m, wh, ls, _, h1, hk, _, _, _, _, _, _, _ => by omega
  | k + 1, w, a, n, c, m, wh, ls, hn, h1, hk, hkb, hnc, hcm, h32, hp, hin, hmn => by
    by_cases hmn1 : m = n
    · subst hmn1
      cases wh with
      | true =>
        have HR : Hid (ListOk w (subP (k + 1) m ls true) (.returned (.slice none 0 0)) w) := hide ⟨_, rfl, by
          have e : subP (k + 1) m ls true = [] := by
            show (if m = ls.length then _ else _) = _
            rw [if_pos hn.symm]; rfl
          rw [e]; exact LvAt.nil _ _, Below.refl _ _⟩
        clear hn hp h32
        go_enter Tryd.func54, Tryd.ntmps54
        go_wp2
        go_ret
        exact unhide HR
      | false =>
        have HH := hide (refHash_any (k + 1) hn hk (by omega) hnc hcm h32 hp)
        have HE : Hid (subP (k + 1) m ls false = [mth (k + 1) ls]) := hide (by
          show (if m = ls.length then _ else _) = _
          rw [if_pos hn.symm]; rfl)
        have HL := hide (mth_len (k + 1) ls h32)
        clear hn hp h32
        go_enter Tryd.func54, Tryd.ntmps54
        go_wp2_with (go_at_call 21; fail)
        refine (unhide HH).mono ?_
        rintro e w2 ⟨v2, rfl, o2, b2⟩
        obtain ⟨g2, c2, rfl, _⟩ := OwnB.adr o2 (unhide HL)
        have HR : Hid (ListOk w (subP (k + 1) m ls false) (.returned (.slice (some ⟨w2.heap.size, 0, none⟩) 1 1)) (w2.alloc (.cells #[.slice (some ⟨g2, 0, none⟩) 32 c2] 29))) := hide ⟨_, rfl, by rw [unhide HE]; exact LvAt.one o2 b2.size, b2.alloc b2.size _⟩
        clear o2 b2
        go_wp2
        go_ret
        exact unhide HR
    have h2 : 2 ≤ n := by omega
    have hq : ((m : Int) == (n : Int)) = false := by simp; omega
    have hmt := subP_ne (k := k) (m := m) (wh := wh) (l := ls) (by omega)
    rcases hp.els with h0 | ⟨B, O, rfl, _⟩
    · rw [h0] at hn; simp at hn; omega
    obtain ⟨g1, g2, _, _⟩ := half_is (n := n) h2 (by omega)
    have HS := hide (fun wx => refSplit_any (n := n) h2 (by omega) wx)
    obtain ⟨s, hs⟩ : ∃ s, half n = s := ⟨_, rfl⟩
    rw [hn, hs] at hmt
    rw [hs] at g1 g2
    have HH := hide hs
    obtain ⟨n2, hn2⟩ : ∃ n2, n - s = n2 := ⟨_, rfl⟩
    obtain ⟨c2, hc2⟩ : ∃ c2, c - s = c2 := ⟨_, rfl⟩
    have hl1 : (ls.take s).length = s := by rw [List.length_take]; omega
    have hl2 : (ls.drop s).length = n2 := by rw [List.length_drop]; omega
    have a1 : All32 (ls.take s) := fun x hx => h32 x (List.mem_of_mem_take hx)
    have a2 : All32 (ls.drop s) := fun x hx => h32 x (List.mem_of_mem_drop hx)
    have p1 := hp.front s
    have p2 := hp.back s
    have k1 : s ≤ c := by omega
    have k2 : (s : Int) ≤ (c : Int) := by omega
    have k3 : s ≤ n := by omega
    have k4 : (s : Int) ≤ (n : Int) := by omega
    have k5 : ¬ (c = s) := by omega
    have hcm' : c ≤ 9223372036854775807 := hcm
    have mixed : Tryd.prog.follows .mixedOrders = true := by kernel_rfl
    by_cases hlt : m ≤ s
    · rw [if_pos hlt] at hmt
      have HA : Hid (∀ wx, Below w.heap.size w wx → Calls Tryd.prog 54 #[.int .i64 (m : Int), .slice (some ⟨B, O, none⟩) s c, .bool wh] wx fun e w' => ∃ v, e = .returned v ∧ Hid (LvAt w.heap.size w' v (subP k m (ls.take s) wh)) ∧ Below w.heap.size w w') := hide (fun wx hb => by
        refine (refSub_any k (wh := wh) hl1 (by omega) (by omega) (by omega) k1 hcm a1 (p1.low hb) hin hlt).mono ?_
        rintro e w' ⟨v, rfl, lv, bl⟩
        exact ⟨v, rfl, hide (LvAt.less hb.size lv), low_trans hb bl⟩)
      have HB : Hid (∀ wx, Below w.heap.size w wx → Calls Tryd.prog 21 #[.slice (some ⟨B, O + s, none⟩) n2 c2] wx fun e w' => ∃ va vc, e = .returned (.slice va 32 vc) ∧ Hid (OwnB w.heap.size w' (.slice va 32 vc) (mth k (ls.drop s)) ∧ Below wx.heap.size wx w') ∧ Below w.heap.size w w') := hide (fun wx hb => by
        refine (refHash_any k hl2 (by omega) (by omega) (by omega) (by omega) a2 (p2.low hb)).mono ?_
        rintro e w' ⟨v, rfl, o, bl⟩
        obtain ⟨g, c', rfl, _⟩ := OwnB.adr o (mth_len k _ a2)
        exact ⟨_, c', rfl, hide ⟨OwnB.less hb.size o, bl⟩, low_trans hb bl⟩)
      have HAPP : Hid (∀ w7 w8 v7 va vc, Hid (LvAt w.heap.size w7 v7 (subP k m (ls.take s) wh)) → Hid (OwnB w.heap.size w8 (.slice va 32 vc) (mth k (ls.drop s)) ∧ Below w7.heap.size w7 w8) → Below w.heap.size w w8 → ∃ v' w', (Builtin.append_ #[22, 22] 22 #[v7, .slice (some ⟨w8.heap.size, 0, none⟩) 1 1]).run Tryd.prog (w8.alloc (.cells #[.slice va 32 vc] 29)) = .ok v' w' ∧ Hid (ListOk w (subP (k + 1) m ls wh) (.returned v') w') ∧ Below w.heap.size w w') := hide (fun w7 w8 v7 va vc h7 h8 hb => by
        obtain ⟨o8, b8⟩ := unhide h8
        have hlen7 : (subP k m (ls.take s) wh).length ≤ k := subP_len _ _ _ _
        obtain ⟨v', w', happ, lv', low', _⟩ := app_leaf ((unhide h7).low b8) o8 hb.size (by omega) rfl
        exact ⟨v', w', happ, hide ⟨v', rfl, by rw [hmt]; exact lv', hb.trans low'⟩, hb.trans low'⟩)
      clear hn hk hmt hs hl1 hl2 a1 a2 p1 p2 hp h32
      go_enter Tryd.func54, Tryd.ntmps54
      go_wp2_with (go_at_call 57; fail)
      refine (unhide HS _).mono ?_
      rintro e w6 ⟨rfl, rfl⟩
      rw [unhide HH]
      go_wp2
      refine wp_region_any mixed ?_
      refine wpAny_take (i := 0) (v := .int .i64 (m : Int)) rfl (by kernel_rfl) (by kernel_rfl) (by kernel_rfl) (fun _ _ _ h => h) (Or.inl ⟨by kernel_rfl, fun _ => by kernel_rfl⟩) ?_
      refine wpAny_take (i := 1) (v := .slice (some ⟨B, O, none⟩) n c) rfl (by kernel_rfl) (by kernel_rfl) (by kernel_rfl) (fun _ _ _ h => h) (Or.inl ⟨by kernel_rfl, fun _ => by kernel_rfl⟩) ?_
      refine wpAny_take (i := 2) (v := .int .i64 (s : Int)) rfl (by kernel_rfl) (by kernel_rfl) (by kernel_rfl) (fun _ _ _ h => h) (Or.inl ⟨by kernel_rfl, fun _ => by kernel_rfl⟩) ?_
      go_simp
      refine wpAny_take (i := 3) (v := .slice (some ⟨B, O, none⟩) s c) rfl (by kernel_rfl) (by kernel_rfl) (by kernel_rfl) (fun _ _ _ h => h) (Or.inl ⟨by kernel_rfl, fun _ => by go_simp⟩) ?_
      refine wpAny_take (i := 4) (v := .bool wh) rfl (by kernel_rfl) (by kernel_rfl) (by kernel_rfl) (fun _ _ _ h => h) (Or.inl ⟨by kernel_rfl, fun _ => by kernel_rfl⟩) ?_
      refine wpAny_take (i := 6) (v := .slice (some ⟨B, O, none⟩) n c) rfl (by kernel_rfl) (by kernel_rfl) (by kernel_rfl) (fun _ _ _ h => h) (Or.inl ⟨by kernel_rfl, fun _ => by kernel_rfl⟩) ?_
      go_simp
      refine wpAny_take (i := 7) (v := .int .i64 (s : Int)) rfl (by kernel_rfl) (by kernel_rfl) (by kernel_rfl) (fun _ _ _ h => h) (Or.inl ⟨by kernel_rfl, fun _ => by kernel_rfl⟩) ?_
      refine wpAny_take (i := 8) (v := .slice (some ⟨B, O + s, none⟩) n2 c2) rfl (by kernel_rfl) (by kernel_rfl) (by kernel_rfl) (fun _ _ _ h => h) (Or.inl ⟨by kernel_rfl, fun _ => by go_simp⟩) ?_
      go_simp
      refine wpAny_ready (rs := [5]) (by kernel_rfl) (by simp) (ready_step _ rfl rfl (fun K hK => ?_) AllReady.nil)
      go_simp
      refine (unhide HA _ (Below.refl _ _).drew).mono ?_
      rintro e w7 ⟨v7, rfl, hv7, hb7⟩
      refine hK _ _ ?_
      clear hK K
      refine wpAny_ready (rs := [9]) (by kernel_rfl) (by simp) (ready_step _ rfl rfl (fun K hK => ?_) AllReady.nil)
      go_simp
      refine (unhide HB _ hb7).mono ?_
      rintro e w8 ⟨va8, vc8, rfl, hv8, hb8⟩
      refine hK _ _ ?_
      clear hK K
      refine wpAny_ready (rs := [10]) (by kernel_rfl) (by simp) (ready_step _ rfl rfl (fun K hK => ?_) AllReady.nil)
      go_simp
      refine hK _ _ ?_
      clear hK K
      obtain ⟨v', w', happ, hfin, hS⟩ := unhide HAPP _ _ _ _ _ hv7 hv8 hb8
      refine wpAny_ready (rs := [11]) (by kernel_rfl) (by simp) (ready_step _ rfl rfl (fun K hK => ?_) AllReady.nil)
      refine Lib.wp_append_run _ (.tmp 27) (.tmp 32) 22 22 rfl v7 (.slice (some ⟨w8.heap.size, 0, none⟩) 1 1) (by kernel_rfl) (by kernel_rfl) v' w' happ ?_
      refine hK _ _ ?_
      clear hK K
      refine wpAny_ready (rs := [12]) (by kernel_rfl) (by simp) (ready_step _ rfl rfl (fun K hK => ?_) AllReady.nil)
      go_simp
      refine hK _ _ ?_
      clear hK K
      refine wpAny_done (by kernel_rfl) ?_ _
      have HV := hfin
      clear hfin hv8 hv7 happ
      go_wp2
      go_ret
      exact unhide HV
    · rw [if_neg hlt] at hmt
      obtain ⟨j, hj⟩ : ∃ j, m - s = j := ⟨_, rfl⟩
      have ej : (m : Int) - (s : Int) = (j : Int) := by omega
      have wj := wrapI j (by omega)
      rw [hj] at hmt
      have j1 : 1 ≤ j := by omega
      have j2 : j ≤ n2 := by omega
      clear hj
      have HA : Hid (∀ wx, Below w.heap.size w wx → Calls Tryd.prog 54 #[.int .i64 (j : Int), .slice (some ⟨B, O + s, none⟩) n2 c2, .bool false] wx fun e w' => ∃ v, e = .returned v ∧ Hid (LvAt w.heap.size w' v (subP k j (ls.drop s) false)) ∧ Below w.heap.size w w') := hide (fun wx hb => by
        refine (refSub_any k (wh := false) hl2 (by omega) (by omega) (by omega) (by omega) (by omega) a2 (p2.low hb) j1 j2).mono ?_
        rintro e w' ⟨v, rfl, lv, bl⟩
        exact ⟨v, rfl, hide (LvAt.less hb.size lv), low_trans hb bl⟩)
      have HB : Hid (∀ wx, Below w.heap.size w wx → Calls Tryd.prog 21 #[.slice (some ⟨B, O, none⟩) s c] wx fun e w' => ∃ va vc, e = .returned (.slice va 32 vc) ∧ Hid (OwnB w.heap.size w' (.slice va 32 vc) (mth k (ls.take s)) ∧ Below wx.heap.size wx w') ∧ Below w.heap.size w w') := hide (fun wx hb => by
        refine (refHash_any k hl1 (by omega) (by omega) (by omega) hcm a1 (p1.low hb)).mono ?_
        rintro e w' ⟨v, rfl, o, bl⟩
        obtain ⟨g, c', rfl, _⟩ := OwnB.adr o (mth_len k _ a1)
        exact ⟨_, c', rfl, hide ⟨OwnB.less hb.size o, bl⟩, low_trans hb bl⟩)
      have HAPP : Hid (∀ w7 w8 v7 va vc, Hid (LvAt w.heap.size w7 v7 (subP k j (ls.drop s) false)) → Hid (OwnB w.heap.size w8 (.slice va 32 vc) (mth k (ls.take s)) ∧ Below w7.heap.size w7 w8) → Below w.heap.size w w8 → ∃ v' w', (Builtin.append_ #[22, 22] 22 #[v7, .slice (some ⟨w8.heap.size, 0, none⟩) 1 1]).run Tryd.prog (w8.alloc (.cells #[.slice va 32 vc] 29)) = .ok v' w' ∧ Hid (ListOk w (subP (k + 1) m ls wh) (.returned v') w') ∧ Below w.heap.size w w') := hide (fun w7 w8 v7 va vc h7 h8 hb => by
        obtain ⟨o8, b8⟩ := unhide h8
        have hlen7 : (subP k j (ls.drop s) false).length ≤ k := subP_len _ _ _ _
        obtain ⟨v', w', happ, lv', low', _⟩ := app_leaf ((unhide h7).low b8) o8 hb.size (by omega) rfl
        exact ⟨v', w', happ, hide ⟨v', rfl, by rw [hmt]; exact lv', hb.trans low'⟩, hb.trans low'⟩)
      clear hn hk hmt hs hl1 hl2 a1 a2 p1 p2 hp h32
      go_enter Tryd.func54, Tryd.ntmps54
      go_wp2_with (go_at_call 57; fail)
      refine (unhide HS _).mono ?_
      rintro e w6 ⟨rfl, rfl⟩
      rw [unhide HH]
      go_wp2
      refine wp_region_any mixed ?_
      refine wpAny_take (i := 0) (v := .int .i64 (m : Int)) rfl (by kernel_rfl) (by kernel_rfl) (by kernel_rfl) (fun _ _ _ h => h) (Or.inl ⟨by kernel_rfl, fun _ => by kernel_rfl⟩) ?_
      refine wpAny_take (i := 1) (v := .int .i64 (s : Int)) rfl (by kernel_rfl) (by kernel_rfl) (by kernel_rfl) (fun _ _ _ h => h) (Or.inl ⟨by kernel_rfl, fun _ => by kernel_rfl⟩) ?_
      refine wpAny_take (i := 2) (v := .int .i64 (j : Int)) rfl (by kernel_rfl) (by kernel_rfl) (by kernel_rfl) (fun _ _ _ h => h) (Or.inl ⟨by kernel_rfl, fun _ => by go_simp⟩) ?_
      go_simp
      refine wpAny_take (i := 3) (v := .slice (some ⟨B, O, none⟩) n c) rfl (by kernel_rfl) (by kernel_rfl) (by kernel_rfl) (fun _ _ _ h => h) (Or.inl ⟨by kernel_rfl, fun _ => by kernel_rfl⟩) ?_
      refine wpAny_take (i := 4) (v := .int .i64 (s : Int)) rfl (by kernel_rfl) (by kernel_rfl) (by kernel_rfl) (fun _ _ _ h => h) (Or.inl ⟨by kernel_rfl, fun _ => by kernel_rfl⟩) ?_
      refine wpAny_take (i := 5) (v := .slice (some ⟨B, O + s, none⟩) n2 c2) rfl (by kernel_rfl) (by kernel_rfl) (by kernel_rfl) (fun _ _ _ h => h) (Or.inl ⟨by kernel_rfl, fun _ => by go_simp⟩) ?_
      go_simp
      refine wpAny_take (i := 7) (v := .slice (some ⟨B, O, none⟩) n c) rfl (by kernel_rfl) (by kernel_rfl) (by kernel_rfl) (fun _ _ _ h => h) (Or.inl ⟨by kernel_rfl, fun _ => by kernel_rfl⟩) ?_
      refine wpAny_take (i := 8) (v := .int .i64 (s : Int)) rfl (by kernel_rfl) (by kernel_rfl) (by kernel_rfl) (fun _ _ _ h => h) (Or.inl ⟨by kernel_rfl, fun _ => by kernel_rfl⟩) ?_
      refine wpAny_take (i := 9) (v := .slice (some ⟨B, O, none⟩) s c) rfl (by kernel_rfl) (by kernel_rfl) (by kernel_rfl) (fun _ _ _ h => h) (Or.inl ⟨by kernel_rfl, fun _ => by go_simp⟩) ?_
      go_simp
      refine wpAny_ready (rs := [6]) (by kernel_rfl) (by simp) (ready_step _ rfl rfl (fun K hK => ?_) AllReady.nil)
      go_simp
      refine (unhide HA _ (Below.refl _ _).drew).mono ?_
      rintro e w7 ⟨v7, rfl, hv7, hb7⟩
      refine hK _ _ ?_
      clear hK K
      refine wpAny_ready (rs := [10]) (by kernel_rfl) (by simp) (ready_step _ rfl rfl (fun K hK => ?_) AllReady.nil)
      go_simp
      refine (unhide HB _ hb7).mono ?_
      rintro e w8 ⟨va8, vc8, rfl, hv8, hb8⟩
      refine hK _ _ ?_
      clear hK K
      refine wpAny_ready (rs := [11]) (by kernel_rfl) (by simp) (ready_step _ rfl rfl (fun K hK => ?_) AllReady.nil)
      go_simp
      refine hK _ _ ?_
      clear hK K
      obtain ⟨v', w', happ, hfin, hS⟩ := unhide HAPP _ _ _ _ _ hv7 hv8 hb8
      refine wpAny_ready (rs := [12]) (by kernel_rfl) (by simp) (ready_step _ rfl rfl (fun K hK => ?_) AllReady.nil)
      refine Lib.wp_append_run _ (.tmp 40) (.tmp 45) 22 22 rfl v7 (.slice (some ⟨w8.heap.size, 0, none⟩) 1 1) (by kernel_rfl) (by kernel_rfl) v' w' happ ?_
      refine hK _ _ ?_
      clear hK K
      refine wpAny_ready (rs := [13]) (by kernel_rfl) (by simp) (ready_step _ rfl rfl (fun K hK => ?_) AllReady.nil)
      go_simp
      refine hK _ _ ?_
      clear hK K
      refine wpAny_done (by kernel_rfl) ?_ _
      have HV := hfin
      clear hfin hv8 hv7 happ
      go_wp2
      go_ret
      exact unhide HV

end Go.Proofs.YtkpmbbeidcpclaaDoor
