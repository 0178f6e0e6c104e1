/-
  The contract of FsFull: it answers true, and nothing that was there has turned.
-/
import Derived.Test.YtbdbobikiikbgaaDoorFullS
namespace Go.Proofs.YtbdbobikiikbgaaDoor
open Go.RowKit Go.WideMaps Go.Maps Go.Sort

theorem write_nil {w0 w : World} {F : Nat} {s : AS} (h : Live w0 w F s) (hi : Inv s) (name : ByteArray) (hn : name.size < 4611686018427387904) (hr : Room s 0) :
    Calls Tryd.prog 14 #[.pointer (some ⟨F, 0, none⟩), .string name, .slice none 0 0] w fun e w' => e = .returned (.int .i64 (writeR s name []).1) ∧ Live w0 w' F (writeR s name []).2 := by
  obtain ⟨G, h1, h2, h3, h4⟩ := h
  subst h2
  refine (write_rep h1 hi name hn 0 [] (⟨rfl, fun _ => rfl, fun ad ha => by cases ha⟩ : Bytes w none 0 []) (fun ad ha _ => by cases ha) (by decide) hr).mono ?_
  rintro e w' ⟨G', rfl, r1, r2⟩
  exact ⟨rfl, Live.went rfl h3 h4 r1 r2⟩

theorem append_arg {w0 w : World} {F : Nat} {s : AS} (h : Live w0 w F s) (hi : Inv s) (name : ByteArray) (hn : name.size ≤ maxLen) {a : Option Addr} (cp : Nat) (hcp : a = none → cp = 0) (l : List UInt8) (hby : Bytes w0 a l.length l) (hlt : ∀ ad, a = some ad → 0 < l.length → ad.block < w0.heap.size)
    (hl : l.length ≤ 1099511627776) (hr : Bd s) :
    Calls Tryd.prog 32 #[.pointer (some ⟨F, 0, none⟩), .string name, .slice a l.length cp] w fun e w' => e = .returned (.int .i64 (appendR s name l).1) ∧ Live w0 w' F (appendR s name l).2 := by
  obtain ⟨G, h1, h2, h3, h4⟩ := h
  subst h2
  refine (append_rep h1 hi name hn cp hcp l (bytes_below hby h4) (fun ad ha h0 => h3 _ (hlt ad ha h0)) hl hr).mono ?_
  rintro e w' ⟨G', rfl, r1, r2⟩
  exact ⟨rfl, Live.went rfl h3 h4 r1 r2⟩

theorem list_live {w0 w : World} {F : Nat} {s : AS} (h : Live w0 w F s) (hb : Bd s) :
    Calls Tryd.prog 33 #[.pointer (some ⟨F, 0, none⟩), .string ⟨#[]⟩] w fun e w' => ∃ (g cap : Nat), e = .returned (.slice (some ⟨g, 0, none⟩) (namesOf s.names).length cap) ∧ Below w.heap.size w w' := by
  obtain ⟨G, h1, h2, h3, h4⟩ := h
  subst h2
  exact (list_all h1 hb).mono (fun e w' ⟨g, cap, e1, _, e3⟩ => ⟨g, cap, e1, e3⟩)

theorem full_append_bd {q : Int} {k : Nat} {s : AS} (h : FullOK q k s) (hk : 1 ≤ k) (hk2 : k ≤ 4000) (l : List UInt8) (hl : l.length ≤ 100) : Bd (appendR s (nm 0) l).2 := by
  have hb := (h.room hk2 0 (by omega)).bd
  have hn : num s.names (nm 0) = 1 := by have := h.nums 0 (by omega); simpa using this
  have hf : s.files 1 = some ⟨[], 0⟩ := by have := h.files 0 (by omega); simpa using this
  have hbg := hb.begin (appendE s (nm 0) l.length) (by rw [h.steps]; omega)
  unfold appendR
  split
  · rw [hn, hf]
    refine ⟨hbg.q0, hbg.q1, hbg.n0, hbg.n1, ?_, ?_, hbg.t0, hbg.t1, hbg.a0, hbg.a1, hbg.mN, hbg.mD, hbg.mP⟩
    · show 0 ≤ (beginS s _).size + (l.length : Int)
      have := hbg.z0; omega
    · rename_i hE
      show (beginS s _).size + (l.length : Int) ≤ _
      rw [begin_done hE]
      show s.size + (l.length : Int) ≤ _
      rw [h.size]; omega
  · exact hbg

theorem many_bounds (m : Int) : ∃ M : Nat, wrap64 (3998 + (wrap64 (m.tmod 5 + 5)).tmod 5) = (M : Int) ∧ 3998 ≤ M ∧ M ≤ 4002 := by
  have t1 : m.tmod 5 < 5 ∧ -5 < m.tmod 5 := by
    constructor
    · exact Int.tmod_lt_of_pos _ (by decide)
    · have := Int.tmod_lt_of_pos (-m) (b := 5) (by decide)
      rw [Int.neg_tmod] at this; omega
  have e1 : wrap64 (m.tmod 5 + 5) = m.tmod 5 + 5 := IntWalk.wrap64_in _ ⟨by omega, by omega⟩
  rw [e1]
  have t2 : 0 ≤ (m.tmod 5 + 5).tmod 5 ∧ (m.tmod 5 + 5).tmod 5 < 5 := ⟨Int.tmod_nonneg _ (by omega), Int.tmod_lt_of_pos _ (by decide)⟩
  have e2 : wrap64 (3998 + (m.tmod 5 + 5).tmod 5) = 3998 + (m.tmod 5 + 5).tmod 5 := IntWalk.wrap64_in _ ⟨by omega, by omega⟩
  rw [e2]
  exact ⟨(3998 + (m.tmod 5 + 5).tmod 5).toNat, by omega, by omega, by omega⟩

set_option maxRecDepth 100000 in
set_option maxHeartbeats 4000000 in
theorem full_any (q m : Int) (a : Option Addr) (cp : Nat) (hcp : a = none → cp = 0) (l : List UInt8) (w : World) (hg : ∃ m, w.cell? ⟨0, 0, none⟩ = some (.int .i64 m)) (hby : Bytes w a l.length l) (hl : l.length ≤ 100) :
    Calls Tryd.prog 8 #[.int .i64 q, .int .i64 m, .slice a l.length cp] w fun e w' => e = .returned (.bool true) ∧ Below w.heap.size w w' := by
  have HF := hide (first_any w hg)
  have HNEW : Hid (∀ w1, Below w.heap.size w w1 → Calls Tryd.prog 28 #[.int .i64 q] w1 fun e w' => ∃ F, e = .returned (.pointer (some ⟨F, 0, none⟩)) ∧ Live w1 w' F (newS q)) := by
    intro w1 hb
    obtain ⟨m, hm⟩ := hg
    exact new_live q w1 ⟨m, (hb.cell (lt_of_cell hm)).trans hm⟩
  have HBY := hide hby
  have hll : (l.length : Int) ≤ 100 := by omega
  clear hg hby
  go_enter Tryd.func8, Tryd.ntmps8
  go_wp2_with (first | (go_at_call 9; refine (unhide HF).mono ?_; rintro e w1 ⟨rfl, hB1⟩) | (go_at_call 28; refine (unhide HNEW _ hB1).mono ?_; rintro e w2 ⟨F, rfl, hL2⟩))
  obtain ⟨M, hM, hM0, hM1⟩ := many_bounds m
  rw [hM]
  have hM0' : (3998 : Int) ≤ (M : Int) := by omega
  have hM1' : (M : Int) ≤ 4002 := by omega
  clear hM
  have HB1 := hide hB1
  clear hB1
  go_loopw [9, 10] (fun d i wr => ∃ k : Nat, k ≤ M ∧ i = .int .i64 k ∧ d = .int .i64 (min k 4000 : Nat) ∧ Live w1 wr F (fullS q (min k 4000))) (fun _ i _ => M - (intOf i).toNat)
  case atStart => exact ⟨0, Nat.zero_le _, rfl, rfl, hL2⟩
  case round =>
    obtain ⟨k, hk, rfl, rfl, hL⟩ := hrel
    by_cases hlt : k < M
    · have a1 : (0 : Int) ≤ (k : Int) := by omega
      have a3 : (k : Int) < (M : Int) := by omega
      have c1 := fun w => conv_int (97 + (k : Int) % 26) (by omega) (by omega) w
      have c2 := fun w => conv_str (97 + (k : Int) % 26) (by omega) (by omega) w
      have c3 := fun w => conv_int (97 + (k : Int) / 26 % 26) (by omega) (by omega) w
      have c4 := fun w => conv_str (97 + (k : Int) / 26 % 26) (by omega) (by omega) w
      have c5 := fun w => conv_int (97 + (k : Int) / 676) (by omega) (by omega) w
      have c6 := fun w => conv_str (97 + (k : Int) / 676) (by omega) (by omega) w
      by_cases h4 : k < 4000
      · have a2 : (k : Int) < 4000 := by omega
        have em : min k 4000 = k := by omega
        rw [em] at hL ⊢
        have ok := full_ok q k (by omega)
        obtain ⟨s1, s2⟩ := full_step ok h4
        have hc := write_nil hL ok.inv (nm k) (by show 4 < _; omega) (ok.room (by omega) 0 (by omega))
        rw [s1] at hc
        have HC := hide hc
        have HX : Hid (∀ w', Live w1 w' F (writeR (fullS q k) (nm k) []).2 → Live w1 w' F (fullS q (min (k + 1) 4000))) := by
          intro w' hw'
          rw [show min (k + 1) 4000 = k + 1 by omega]; exact hw'
        clear hc s1 s2 ok hL em
        go_wp2_with fail
        rw [nm_app]
        refine (unhide HC).mono ?_
        rintro e w3 ⟨rfl, hL3⟩
        have HL3 := hide (unhide HX w3 hL3)
        clear hL3
        go_wp2_with (go_at_call 18; refine (num_any _ _).mono ?_; rintro e w9 ⟨rfl, rfl⟩)
        go_roundw
        case rel => exact ⟨k + 1, by omega, by go_num, by rw [show min (k + 1) 4000 = k + 1 by omega]; go_num, unhide HL3⟩
        case measure => simp [intOf]; omega
      · have a2 : (4000 : Int) ≤ (k : Int) := by omega
        have em : min k 4000 = 4000 := by omega
        rw [em] at hL ⊢
        have ok := full_ok q 4000 (by omega)
        obtain ⟨s1, s2⟩ := ok.errFull k (by omega) (by omega)
        have hc := write_nil hL ok.inv (nm k) (by show 4 < _; omega) (ok.room (by omega) 0 (by omega))
        rw [s1, s2] at hc
        have HC := hide hc
        clear hc s1 s2 ok hL em
        go_wp2_with fail
        rw [nm_app]
        refine (unhide HC).mono ?_
        rintro e w3 ⟨rfl, hL3⟩
        have HL3 := hide hL3
        clear hL3
        go_wp2_with (go_at_call 18; refine (num_any _ _).mono ?_; rintro e w9 ⟨rfl, rfl⟩)
        go_roundw
        case rel => exact ⟨k + 1, by omega, by go_num, by rw [show min (k + 1) 4000 = 4000 by omega]; go_num, by rw [show min (k + 1) 4000 = 4000 by omega]; exact unhide HL3⟩
        case measure => simp [intOf]; omega
    · have hkM : k = M := by omega
      subst hkM
      obtain ⟨K, hK⟩ : ∃ K, K = min k 4000 := ⟨_, rfl⟩
      rw [← hK] at hL ⊢
      have hK1 : 1 ≤ K := by omega
      have hK2 : K ≤ 4000 := by omega
      have ok := full_ok q K hK2
      obtain ⟨b1, b2⟩ := full_append ok hK1 l
      have hbd := ok.room hK2 l.length hl
      have hc := append_arg hL ok.inv (nm 0) (by decide) cp hcp l (bytes_below (unhide HBY) (unhide HB1)) (fun ad ha h0 => by
        have hcell := (unhide HBY).cell ad ha 0 h0
        have hlt0 := lt_of_cell hcell
        have eb : (ad.add 0).block = ad.block := by unfold Addr.add; split <;> rfl
        rw [eb] at hlt0
        exact Nat.lt_of_lt_of_le hlt0 (unhide HB1).size) (by omega) hbd.bd
      rw [b1] at hc
      have HC := hide hc
      have HLs : Hid (∀ w3, Live w1 w3 F (appendR (fullS q K) (nm 0) l).2 → Calls Tryd.prog 33 #[.pointer (some ⟨F, 0, none⟩), .string ⟨#[]⟩] w3 fun e w' => ∃ (g cap : Nat), e = .returned (.slice (some ⟨g, 0, none⟩) K cap) ∧ Below w.heap.size w w') := by
        intro w3 hL3
        have hb3 : Bd (appendR (fullS q K) (nm 0) l).2 := full_append_bd ok hK1 hK2 l hl
        have en : (namesOf (appendR (fullS q K) (nm 0) l).2.names).length = K := by rw [b2, names_length ok.tidy, ok.msize]
        have := list_live hL3 hb3
        rw [en] at this
        refine this.mono (fun e w' ⟨g, cap, e1, e2⟩ => ⟨g, cap, e1, ?_⟩)
        obtain ⟨G, _, _, _, h4⟩ := hL3
        have h5 : Below w.heap.size w w3 := (unhide HB1).trans (h4.mono (unhide HB1).size)
        exact h5.trans (e2.mono h5.size)
      clear hc b1 b2 ok hbd hL
      have hKi : (1 : Int) ≤ (K : Int) := by omega
      obtain ⟨R, hR⟩ : ∃ R : Int, R = min (max q 0) 67108864 := ⟨_, rfl⟩
      rw [← hR] at HC
      by_cases hfit : (l.length : Int) ≤ R
      · rw [if_pos hfit] at HC
        rcases (show (q < 0 ∧ R = 0) ∨ (0 ≤ q ∧ q ≤ 67108864 ∧ R = q) ∨ (67108864 < q ∧ R = 67108864) by omega) with ⟨q1, rfl⟩ | ⟨q1, q2, rfl⟩ | ⟨q1, rfl⟩
        all_goals
          clear hR
          go_wp2_with (first
            | (go_at_call 32; refine (unhide HC).mono ?_; rintro e w3 ⟨rfl, hL3⟩)
            | (go_at_call 33; refine (unhide HLs _ hL3).mono ?_; rintro e w4 ⟨g, cap, rfl, hB4⟩)
            | (go_at_call 18; refine (num_any _ _).mono ?_; rintro e w9 ⟨rfl, rfl⟩))
          go_ret
          first | exact ⟨rfl, hB4⟩ | exact ⟨ret_bool (by simp; omega), hB4⟩
      · rw [if_neg hfit] at HC
        rcases (show (q < 0 ∧ R = 0) ∨ (0 ≤ q ∧ q ≤ 67108864 ∧ R = q) ∨ (67108864 < q ∧ R = 67108864) by omega) with ⟨q1, rfl⟩ | ⟨q1, q2, rfl⟩ | ⟨q1, rfl⟩
        all_goals
          clear hR
          try (exfalso; omega)
        all_goals
          go_wp2_with (first
            | (go_at_call 32; refine (unhide HC).mono ?_; rintro e w3 ⟨rfl, hL3⟩)
            | (go_at_call 33; refine (unhide HLs _ hL3).mono ?_; rintro e w4 ⟨g, cap, rfl, hB4⟩)
            | (go_at_call 18; refine (num_any _ _).mono ?_; rintro e w9 ⟨rfl, rfl⟩))
          go_ret
          first | exact ⟨rfl, hB4⟩ | exact ⟨ret_bool (by simp; omega), hB4⟩

theorem full_long (q m : Int) (a : Option Addr) (n cp : Nat) (w : World) (hg : ∃ m, w.cell? ⟨0, 0, none⟩ = some (.int .i64 m)) (hl : 100 < n) :
    Calls Tryd.prog 8 #[.int .i64 q, .int .i64 m, .slice a n cp] w fun e w' => e = .returned (.bool true) ∧ Below w.heap.size w w' := by
  have HF := hide (first_any w hg)
  have hll : (100 : Int) < (n : Int) := by omega
  clear hg
  go_enter Tryd.func8, Tryd.ntmps8
  go_wp2_with (go_at_call 9; refine (unhide HF).mono ?_; rintro e w1 ⟨rfl, hB1⟩)
  go_ret
  exact ⟨rfl, hB1⟩

end Go.Proofs.YtbdbobikiikbgaaDoor
