/-
  The reference's look at files' names: any files.
-/
import Derived.Test.YtkablmjkffdloaaGreatDoorUnpX
import Derived.Test.YtkablmjkffdloaaGreatDoorLowF
import Derived.Test.YtkablmjkffdloaaGreatDoorPakN
import Derived.Test.YtkablmjkffdloaaGreatDoorFlsA
import Derived.Lib.ConvBytes
import Derived.Deep.RegionHeld3
import Derived.Test.YtkablmjkffdloaaGreatDoorNamE
namespace Go.Proofs.YtkablmjkffdloaaGreatDoor
open Go.RowKit

set_option maxRecDepth 100000 in
set_option maxHeartbeats 2000000 in
theorem get_any2 {w : World} {a : Option Addr} {n c at0 sz : Nat} {b : Bs} (hn : b.length = n) (hN : n ≤ 1073741824) (hs : at0 + sz ≤ n) (h4 : sz ≤ 4) (h : BAt w a b) :
    Calls Tryz.prog 101 #[.slice a n c, .int .i64 (at0 : Int), .int .i64 (sz : Int)] w fun e w' => e = .returned (.int .i64 ((getN ((b.drop at0).take sz) : Nat) : Int)) ∧ w' = w := by
  have HN := hide hn
  have HA := hide h
  obtain ⟨RES, hR⟩ : ∃ R, getN ((b.drop at0).take sz) = R := ⟨_, rfl⟩
  rw [hR]
  have HR := hide hR
  clear hn h hR
  go_enter Tryz.func101, Tryz.ntmps101
  go_wp2
  go_loop [7, 8] (fun v7 v8 => ∃ r A : Nat, r ≤ sz ∧ v8 = .int .i64 ((r : Int) - 1) ∧ v7 = .int .i64 (A : Int) ∧ A < 4294967296 ∧ Hid (A = getN ((b.drop (at0 + r)).take (sz - r)))) (fun _ v8 => (intOf v8 + 1).toNat)
  case atStart => exact ⟨sz, 0, Nat.le_refl _, rfl, rfl, by decide, hide (by rw [Nat.sub_self]; rfl)⟩
  case round =>
    obtain ⟨r, A, hr, rfl, rfl, hAb, hA⟩ := hrel
    cases r with
    | succ r =>
      have e1 : ((r + 1 : Nat) : Int) - 1 = (r : Int) := by omega
      rw [e1]
      have hr0 : (0 : Int) ≤ (r : Int) := by omega
      obtain ⟨p, hp⟩ : ∃ p, at0 + r = p := ⟨_, rfl⟩
      have hpl : p < b.length := by rw [unhide HN]; omega
      obtain ⟨B, O, rfl, k0⟩ := (unhide HA).at hpl
      have ep : (at0 : Int) + (r : Int) = (p : Int) := by omega
      have hpn : (p : Int) < (n : Int) := by rw [unhide HN] at hpl; omega
      have hdr : b.drop p = b[p] :: b.drop (p + 1) := List.drop_eq_getElem_cons hpl
      obtain ⟨x, hx⟩ : ∃ x, b[p] = x := ⟨_, rfl⟩
      rw [hx] at k0 hdr
      have hx8 := u8_lt x
      obtain ⟨A2, hA2⟩ : ∃ A2, A * 256 + x.toNat = A2 := ⟨_, rfl⟩
      obtain ⟨M, hM⟩ : ∃ M, A * 256 = M := ⟨_, rfl⟩
      have m1 : (A : Int) * 256 = (M : Int) := by omega
      have m2 : (M : Int) + (x.toNat : Int) = (A2 : Int) := by omega
      have hnx : A2 = getN ((b.drop (at0 + r)).take (sz - r)) := by
        rw [hp, hdr, show sz - r = (sz - (r + 1)) + 1 by omega, List.take_succ_cons]
        simp only [getN]
        have h1 := unhide hA
        rw [show at0 + (r + 1) = p + 1 by omega] at h1
        omega
      have hA2b : A2 < 4294967296 := by
        have h1 := getN_lt ((b.drop (at0 + r)).take (sz - r))
        have h2 : ((b.drop (at0 + r)).take (sz - r)).length ≤ 4 := by rw [List.length_take]; omega
        have h3 : 256 ^ ((b.drop (at0 + r)).take (sz - r)).length ≤ 256 ^ 4 := Nat.pow_le_pow_right (by decide) h2
        rw [← hnx] at h1
        exact Nat.lt_of_lt_of_le h1 h3
      have HNX := hide hnx
      clear hp hdr hx hA2 hM hnx hA e1 hpl
      go_wp2
      go_round
      case rel => exact ⟨r, A2, by omega, rfl, rfl, hA2b, HNX⟩
      case measure => simp [intOf]
    | zero =>
      have e1 : ((0 : Nat) : Int) - 1 = -1 := by omega
      rw [e1]
      have hF : A = RES := by
        have h1 := unhide hA
        rw [Nat.add_zero, Nat.sub_zero] at h1
        rw [h1, ← unhide HR]
      subst hF
      clear hA e1
      go_wp2
      go_ret
      exact ⟨rfl, rfl⟩

set_option maxRecDepth 100000 in
set_option maxHeartbeats 2000000 in
theorem put_any {base x sz : Nat} {w : World} {v : Value} {l : Bs} (ho : OwnB base w v l) (hB : base ≤ w.heap.size) (hx : x < 4294967296) (hs : sz ≤ 4) (hl : l.length ≤ 1400000000) :
    Calls Tryz.prog 148 #[v, .int .i64 (x : Int), .int .i64 (sz : Int)] w fun e w' => ∃ v', e = .returned v' ∧ OwnB base w' v' (l ++ leN sz x) ∧ GrB w w' v v' := by
  have HO := hide ho
  clear ho
  go_enter Tryz.func148, Tryz.ntmps148
  go_wp2
  go_loopw [0, 1, 7] (fun v0 v1 v7 wr => ∃ i y : Nat, i ≤ sz ∧ v7 = .int .i64 (i : Int) ∧ v1 = .int .i64 (y : Int) ∧ Hid (y = x / 2 ^ (8 * i)) ∧ OwnB base wr v0 (l ++ leN i x) ∧ GrB w wr v v0) (fun _ _ v7 _ => sz - (intOf v7).toNat)
  case atStart => exact ⟨0, x, Nat.zero_le _, rfl, rfl, hide (by simp), by simpa [leN] using unhide HO, GrB.refl _ _⟩
  case round =>
    rename World => wr
    obtain ⟨i, y, hi, rfl, rfl, hy, hown, hgr⟩ := hrel
    by_cases hlt : i < sz
    · have hlt' : (i : Int) < (sz : Int) := by omega
      obtain ⟨cb, hcb⟩ : ∃ cb, UInt8.ofNat (y % 256) = cb := ⟨_, rfl⟩
      have hcn : cb.toNat = y % 256 := by rw [← hcb]; simp
      have hyx : y ≤ x := by rw [unhide hy]; exact Nat.div_le_self _ _
      have ew : IntKind.u8.wrap (y : Int) = (cb.toNat : Int) := by
        rw [hcn]
        simp [IntKind.wrap, IntKind.bits, IntKind.signed]
      obtain ⟨y2, hy2⟩ : ∃ y2, y / 256 = y2 := ⟨_, rfl⟩
      have q1 : (y : Int).tdiv 256 = (y2 : Int) := by
        rw [Int.tdiv_eq_ediv_of_nonneg (by omega)]
        omega
      have q2 : (y : Int) / 256 = (y2 : Int) := by omega
      have HY : Hid (y2 = x / 2 ^ (8 * (i + 1))) := hide (by
        rw [← hy2, unhide hy, show 8 * (i + 1) = 8 * i + 8 by omega, Nat.pow_add, Nat.div_div_eq_div_mul])
      have hsn : (l ++ leN i x) ++ [cb] = l ++ leN (i + 1) x := by
        show _ = l ++ (leN i x ++ [UInt8.ofNat (x / 2 ^ (8 * i) % 256)])
        rw [← unhide hy, hcb, List.append_assoc]
      have hlen : (l ++ leN i x).length ≤ 2147483648 := by rw [List.length_append, leN_len]; omega
      obtain ⟨W2, hW2⟩ : ∃ W2, wr.alloc (.cells #[.int .u8 (cb.toNat : Int)] 5) = W2 := ⟨_, rfl⟩
      obtain ⟨v3, w3, happ, hown3, hgr3⟩ := app_byte hown (Nat.le_trans hB hgr.size) hlen hW2
      rw [hsn] at hown3
      have HR := hide (And.intro hown3 (hgr.trans hgr3))
      have HW2 := hide hW2
      clear hcb hcn hy2 hsn hlen hown hgr hW2 hown3 hgr3 hy
      go_wp2_with (at_builtin; rw [unhide HW2]; refine Lib.wpList_append_run _ rfl (.tmp 13) (.tmp 16) 23 23 rfl _ _ rfl rfl _ _ happ ?_; clear happ)
      go_roundw
      case rel => exact ⟨i + 1, y2, hlt, by push_cast; rfl, rfl, HY, (unhide HR).1, (unhide HR).2⟩
      case measure => simp [intOf]; omega
    · have hie : i = sz := by omega
      subst hie
      have HR := hide (And.intro hown hgr)
      clear hown hgr hy
      go_wp2
      go_ret
      exact ⟨_, rfl, (unhide HR).1, (unhide HR).2⟩

set_option maxRecDepth 100000 in
set_option maxHeartbeats 2000000 in
theorem puts_any {base N q kc : Nat} {w : World} {v : Value} {l : Bs} {ns : List Nat} (ho : OwnB base w v l) (hB : base ≤ w.heap.size) (hq : ns.length = q) (hN : ∀ j (hj : j < ns.length), w.cell? ⟨N, j, none⟩ = some (.int .i64 ((ns[j] : Nat) : Int))) (hT : ∀ cs2 fr, w.heap[N]? ≠ some (.cells cs2 5 fr)) (hx : ∀ x ∈ ns, x < 4294967296) (hq6 : q ≤ 6) (hl : l.length ≤ 1390000000) :
    Calls Tryz.prog 147 #[v, .slice (some ⟨N, 0, none⟩) q kc] w fun e w' => ∃ v', e = .returned v' ∧ OwnB base w' v' (l ++ leAll 2 ns) ∧ GrB w w' v v' := by
  have HO := hide ho
  have HQ := hide hq
  have HN := hide hN
  have HT := hide hT
  have HX := hide hx
  clear ho hq hN hT hx
  go_enter Tryz.func147, Tryz.ntmps147
  go_wp2
  go_loopw [0, 5] (fun v0 v5 wr => ∃ j : Nat, j ≤ q ∧ v5 = .int .i64 (j : Int) ∧ OwnB base wr v0 (l ++ leAll 2 (ns.take j)) ∧ GrB w wr v v0) (fun _ v5 _ => q - (intOf v5).toNat)
  case atStart => exact ⟨0, Nat.zero_le _, rfl, by simpa [leAll] using unhide HO, GrB.refl _ _⟩
  case round =>
    rename World => wr
    obtain ⟨j, hj, rfl, hown, hgr⟩ := hrel
    by_cases hlt : j < q
    · have hjl : j < ns.length := by rw [unhide HQ]; exact hlt
      have hlt' : (j : Int) < (q : Int) := by omega
      have c0 := unhide HN j hjl
      have c1 : wr.cell? ⟨N, j, none⟩ = some (.int .i64 ((ns[j] : Nat) : Int)) := by
        have e := grB_keep (Or.inl (unhide HO)) hgr (lt_of_cell c0) (unhide HT)
        rw [← c0]
        unfold World.cell?
        simp only [e]
      have hxb := unhide HX _ (List.getElem_mem hjl)
      have hsn := leAll_snoc (wd := 2) hjl
      obtain ⟨x, hxx⟩ : ∃ x, ns[j] = x := ⟨_, rfl⟩
      rw [hxx] at c1 hxb hsn
      have KP := hide (put_any (x := x) (sz := 2) hown (Nat.le_trans hB hgr.size) hxb (by decide) (by rw [List.length_append, leAll_len, List.length_take]; omega))
      have HG := hide hgr
      have HSN := hide hsn
      clear c0 hown hgr hxx hsn
      go_wp2_with (go_at_call 148; fail)
      refine (unhide KP).mono ?_
      rintro e w3 ⟨v3, rfl, o3, g3⟩
      rw [List.append_assoc, ← unhide HSN] at o3
      have HR := hide (And.intro o3 ((unhide HG).trans g3))
      clear o3 g3 KP
      go_wp2
      go_roundw
      case rel => exact ⟨j + 1, hlt, by push_cast; rfl, (unhide HR).1, (unhide HR).2⟩
      case measure => simp [intOf]; omega
    · have hje : j = q := by omega
      subst hje
      rw [List.take_of_length_le (by rw [unhide HQ]; exact Nat.le_refl _)] at hown
      have HR := hide (And.intro hown hgr)
      clear hown hgr
      go_wp2
      go_ret
      exact ⟨_, rfl, (unhide HR).1, (unhide HR).2⟩
end Go.Proofs.YtkablmjkffdloaaGreatDoor

namespace Go.Proofs.YtkablmjkffdloaaGreatDoor
open Go.RowKit

/-- A string's bytes that may be written. -/
def Smr (w : World) (g n : Nat) (l : Bs) : Prop := l.length = n ∧ ∃ cur : Array Value, w.heap[g]? = some (.cells cur 5 (cur.size, cur.size + 1)) ∧ n ≤ cur.size ∧ cur.toList.take n = l.map byteV
theorem Smr.cell {w : World} {g n : Nat} {l : Bs} (h : Smr w g n l) {i : Nat} (hi : i < l.length) : w.cell? ⟨g, i, none⟩ = some (.int .u8 (l[i].toNat : Int)) := by
  obtain ⟨hl, cur, hb, hn, ht⟩ := h
  have h1 : cur.toList[i]? = (l.map byteV)[i]? := by rw [← ht, List.getElem?_take_of_lt (by omega)]
  have h2 : cur[i]? = cur.toList[i]? := by simp
  rw [Lib.cell_of_heap hb, h2, h1]
  simp [hi, byteV]
theorem Smr.free {w : World} {g n : Nat} {l : Bs} (h : Smr w g n l) {i : Nat} (hi : i < n) : w.frozen? ⟨g, i, none⟩ = false := by
  obtain ⟨hl, cur, hb, hn, ht⟩ := h
  simp only [World.frozen?, hb, Bool.and_eq_false_iff, decide_eq_false_iff_not]
  omega
theorem Smr.set {w : World} {g n : Nat} {l : Bs} (h : Smr w g n l) (i : Nat) (c : UInt8) : Smr (w.setCell ⟨g, i, none⟩ (.int .u8 (c.toNat : Int))) g n (l.set i c) := by
  obtain ⟨hl, cur, hb, hn, ht⟩ := h
  refine ⟨by rw [List.length_set]; exact hl, cur.setIfInBounds i (.int .u8 (c.toNat : Int)), ?_, by simpa using hn, ?_⟩
  · have := heap_setCell_at hb (.int .u8 (c.toNat : Int)) (i := i)
    simpa using this
  · rw [Array.toList_setIfInBounds, List.take_set, ht, List.map_set]
    rfl
theorem Smr.bat {w : World} {g n : Nat} {l : Bs} (h : Smr w g n l) : BAt w (some ⟨g, 0, none⟩) l := ⟨Or.inr ⟨g, 0, rfl, fun k hk => by rw [Nat.zero_add]; exact h.cell hk⟩⟩
theorem conv_sm (w : World) (l : Bs) {n : Nat} (hn : l.length = n) : ∃ cap w1, (convert 9 23 (.string (ba l))).run Tryz.prog w = .ok (.slice (some ⟨w.heap.size, 0, none⟩) n cap) w1 ∧ Smr w1 w.heap.size n l ∧ n ≤ cap ∧ Below w.heap.size w w1 := by
  have hs := ba_size l
  have hr := Lib.run_convert_string_bytes (P := Tryz.prog) w 9 23 5 (ba l) Tryz.underlying9 Tryz.underlying23 Tryz.underlying5
  rw [hs, hn] at hr
  have hcell : ∀ j (hj : j < l.length), (Lib.bytesCells w 5 (ba l))[j]? = some (byteV l[j]) := fun j hj => by
    have h1 := Lib.bytesWorld_cell w 5 (ba l) j (by rw [hs]; exact hj)
    rw [Lib.cell_of_heap (Lib.bytesWorld_at_new w 5 (ba l)), ba_data] at h1
    rw [h1]
    simp [byteV, hj]
  refine ⟨_, _, hr, ⟨hn, Lib.bytesCells w 5 (ba l), Lib.bytesWorld_at_new w 5 (ba l), ?_, ?_⟩, grownCap_ge _ _ _ _, ⟨rfl, rfl, rfl, ?_, fun j hj => Lib.bytesWorld_at_old _ _ _ j hj⟩⟩
  · cases n with
    | zero => exact Nat.zero_le _
    | succ k =>
      have h1 := hcell k (by omega)
      have := (Array.getElem?_eq_some_iff.1 h1).1
      omega
  · apply List.ext_getElem?
    intro j
    by_cases hj : j < n
    · have h1 := hcell j (by omega)
      rw [List.getElem?_take_of_lt hj]
      have h2 : (Lib.bytesCells w 5 (ba l)).toList[j]? = (Lib.bytesCells w 5 (ba l))[j]? := by simp
      rw [h2, h1]
      simp [show j < l.length by omega]
    · rw [List.getElem?_eq_none (by rw [List.length_take]; omega), List.getElem?_eq_none (by rw [List.length_map]; omega)]
  · rw [Lib.bytesWorld_size]
    omega
theorem low_w {c : UInt8} (h1 : 65 ≤ c.toNat) (h2 : c.toNat ≤ 90) : Lib.lowerB c = c + 32 ∧ (c + 32).toNat = c.toNat + 32 := by
  have e : Lib.isUpperB c = true := by
    unfold Lib.isUpperB
    simp only [Bool.and_eq_true, decide_eq_true_eq]
    exact ⟨UInt8.le_iff_toNat_le.2 h1, UInt8.le_iff_toNat_le.2 h2⟩
  refine ⟨by unfold Lib.lowerB; rw [e]; rfl, ?_⟩
  rw [UInt8.toNat_add]
  show (c.toNat + 32) % 256 = _
  omega
theorem low_n {c : UInt8} (h : ¬ (65 ≤ c.toNat ∧ c.toNat ≤ 90)) : Lib.lowerB c = c := by
  have e : Lib.isUpperB c = false := by
    unfold Lib.isUpperB
    rw [Bool.eq_false_iff]
    intro h2
    simp only [Bool.and_eq_true, decide_eq_true_eq] at h2
    exact h ⟨UInt8.le_iff_toNat_le.1 h2.1, UInt8.le_iff_toNat_le.1 h2.2⟩
  unfold Lib.lowerB
  rw [e]
  rfl
theorem low_step {l : Bs} {i : Nat} (h : i < l.length) : ((l.take i).map Lib.lowerB ++ l.drop i).set i (Lib.lowerB l[i]) = (l.take (i + 1)).map Lib.lowerB ++ l.drop (i + 1) := by
  have e : ((l.take i).map Lib.lowerB).length = i := by rw [List.length_map, List.length_take]; omega
  rw [List.set_append, e, if_neg (by omega), Nat.sub_self, take_sn h, List.map_append, List.append_assoc]
  congr 1
  rw [List.drop_eq_getElem_cons h]
  rfl

set_option maxRecDepth 100000 in
set_option maxHeartbeats 2000000 in
theorem refSmall_any {l : Bs} (hl : l.length ≤ 1000000) (w : World) : Calls Tryz.prog 146 #[.string (ba l)] w fun e w' => e = .returned (.string (ba (lowL l))) ∧ Below w.heap.size w w' := by
  obtain ⟨n, hn⟩ : ∃ n, l.length = n := ⟨_, rfl⟩
  obtain ⟨cap, W1, hcv, hsm, hcap, b1⟩ := conv_sm w l hn
  obtain ⟨g, hg⟩ : ∃ g, w.heap.size = g := ⟨_, rfl⟩
  rw [hg] at hcv hsm
  have hn2 : n ≤ 1000000 := by omega
  have HN := hide hn
  have HSM := hide hsm
  have HB1 := hide b1
  have HG := hide hg
  clear hl hn hsm b1 hg
  go_enter Tryz.func146, Tryz.ntmps146
  go_wp2
  go_loopw [4] (fun v4 wr => ∃ i : Nat, i ≤ n ∧ v4 = .int .i64 (i : Int) ∧ Smr wr g n ((l.take i).map Lib.lowerB ++ l.drop i) ∧ Below w.heap.size w wr) (fun v4 _ => n - (intOf v4).toNat)
  case atStart => exact ⟨0, Nat.zero_le _, rfl, by simpa using unhide HSM, unhide HB1⟩
  case round =>
    rename World => wr
    obtain ⟨i, hi, rfl, hsm, hbw⟩ := hrel
    by_cases hlt : i < n
    · have hil : i < l.length := by rw [unhide HN]; exact hlt
      have hlt' : (i : Int) < (n : Int) := by omega
      have hml : i < ((l.take i).map Lib.lowerB ++ l.drop i).length := by rw [hsm.1]; exact hlt
      have c0 := hsm.cell hml
      have f0 := hsm.free hlt
      have e0 : ((l.take i).map Lib.lowerB ++ l.drop i)[i]'hml = l[i] := by
        rw [List.getElem_append_right (by rw [List.length_map, List.length_take]; omega)]
        simp [show min i l.length = i by omega]
      rw [e0] at c0
      have hst := low_step hil
      obtain ⟨x, hx⟩ : ∃ x, l[i] = x := ⟨_, rfl⟩
      rw [hx] at c0 hst
      by_cases hup : 65 ≤ x.toNat ∧ x.toNat ≤ 90
      · obtain ⟨u1, u2⟩ := hup
        obtain ⟨lw1, lw2⟩ := low_w u1 u2
        rw [lw1] at hst
        have p1 : (65 : Int) ≤ (x.toNat : Int) := by omega
        have p2 : (x.toNat : Int) ≤ 90 := by omega
        obtain ⟨y, hy⟩ : ∃ y, x + 32 = y := ⟨_, rfl⟩
        rw [hy] at hst lw2
        have p3 : (x.toNat : Int) + 32 = (y.toNat : Int) := by omega
        have p4 : IntKind.u8.wrap (y.toNat : Int) = (y.toNat : Int) := by
          have := u8_lt y
          simp [IntKind.wrap, IntKind.bits, IntKind.signed]
          omega
        have hset := hsm.set i y
        rw [hst] at hset
        have hb2 : Below w.heap.size w (wr.setCell ⟨g, i, none⟩ (.int .u8 (y.toNat : Int))) := ⟨hbw.os, hbw.tape, hbw.output, by simp [World.setCell]; exact hbw.size, fun j hj => (Below.heap_setCell wr ⟨g, i, none⟩ _ j (by show j ≠ g; rw [← unhide HG]; omega)).trans (hbw.block j hj)⟩
        have HR := hide (And.intro hset hb2)
        clear hsm hbw e0 hst hx hy lw1 lw2 u1 u2 hset hb2 hml hil
        go_wp2
        go_roundw
        case rel => exact ⟨i + 1, hlt, by push_cast; rfl, (unhide HR).1, (unhide HR).2⟩
        case measure => simp [intOf]; omega
      · have lw := low_n hup
        rw [lw] at hst
        have hsame : ((l.take i).map Lib.lowerB ++ l.drop i).set i x = (l.take i).map Lib.lowerB ++ l.drop i := by
          rw [← hx, ← e0]
          exact List.set_getElem_self ..
        rw [hsame] at hst
        rw [hst] at hsm
        have HR := hide (And.intro hsm hbw)
        rcases Nat.lt_or_ge x.toNat 65 with u1 | u1
        · have p1 : ¬ (65 : Int) ≤ (x.toNat : Int) := by omega
          have p1' : (x.toNat : Int) < 65 := by omega
          clear hsm hbw e0 hst hx lw hup hsame u1 hml hil
          go_wp2
          go_roundw
          case rel => exact ⟨i + 1, hlt, by push_cast; rfl, (unhide HR).1, (unhide HR).2⟩
          case measure => simp [intOf]; omega
        · have p1 : (65 : Int) ≤ (x.toNat : Int) := by omega
          have p2 : ¬ (x.toNat : Int) ≤ 90 := by omega
          have p2' : (90 : Int) < (x.toNat : Int) := by omega
          clear hsm hbw e0 hst hx lw hup hsame u1 hml hil
          go_wp2
          go_roundw
          case rel => exact ⟨i + 1, hlt, by push_cast; rfl, (unhide HR).1, (unhide HR).2⟩
          case measure => simp [intOf]; omega
    · have hie : i = n := by omega
      subst hie
      have e : (l.take i).map Lib.lowerB ++ l.drop i = lowL l := by
        rw [List.take_of_length_le (by rw [unhide HN]; exact Nat.le_refl _), List.drop_of_length_le (by rw [unhide HN]; exact Nat.le_refl _), List.append_nil]
        rfl
      rw [e] at hsm
      have hcs := conv_bytes (c := cap) hsm.1 (Or.inr ⟨_, _, rfl⟩) hsm.bat
      have HBW := hide hbw
      clear hsm hbw e
      go_wp2
      go_ret
      exact ⟨rfl, unhide HBW⟩

theorem all_take {ps : List Bs} {i : Nat} (hi : i < ps.length) (h : (ps.take i).all elG = true) (h2 : elG ps[i] = true) : (ps.take (i + 1)).all elG = true := by
  rw [take_sn hi, List.all_append, h]
  simp [h2]
theorem all_no {ps : List Bs} {i : Nat} (hi : i < ps.length) (h2 : elG ps[i] = false) : ps.all elG = false := by
  rw [List.all_eq_false]
  exact ⟨ps[i], List.getElem_mem hi, by simp [h2]⟩
theorem ch_take {x : Bs} {i : Nat} (hi : i < x.length) (h : (x.take i).all chG = true) (h2 : chG x[i] = true) : (x.take (i + 1)).all chG = true := by
  rw [take_sn hi, List.all_append, h]
  simp [h2]
theorem ch_no {x : Bs} {i : Nat} (hi : i < x.length) (h2 : chG x[i] = false) : x.all chG = false := by
  rw [List.all_eq_false]
  exact ⟨x[i], List.getElem_mem hi, by simp [h2]⟩

set_option maxRecDepth 100000 in
set_option maxHeartbeats 4000000 in
theorem refValid_any {l : Bs} (hl : l.length ≤ 1000000) (w : World) : Calls Tryz.prog 49 #[.string (ba l)] w fun e w' => e = .returned (.bool (nameF l)) ∧ Below w.heap.size w w' := by
  obtain ⟨RES, hRES⟩ : ∃ R, nameF l = R := ⟨_, rfl⟩
  rw [hRES]
  obtain ⟨S, hS⟩ : ∃ S, ba l = S := ⟨_, rfl⟩
  obtain ⟨m, hm⟩ : ∃ m, l.length = m := ⟨_, rfl⟩
  have hsz : S.size = m := by rw [← hS, ba_size]; exact hm
  have hml : m ≤ 1000000 := by omega
  by_cases hnil : l = []
  · have hne : (S.toList == []) = true := by rw [← hS, baL_list, hnil]; rfl
    have HNX : Hid (RES = false) := hide (by rw [← hRES, hnil]; decide)
    rw [hS]
    clear hRES hS hm hnil
    go_enter Tryz.func49, Tryz.ntmps49
    go_wp2
    go_ret
    exact ⟨by rw [unhide HNX]; rfl, Below.refl _ _⟩
  have hne : (S.toList == []) = false := by rw [← hS, baL_list]; simpa using hnil
  by_cases h200 : 200 < m
  · have i2 : (200 : Int) < (m : Int) := by omega
    have HNX : Hid (RES = false) := hide (by rw [← hRES]; unfold nameF; rw [decide_eq_false (by omega)]; rfl)
    rw [hS]
    clear hRES hS hm hnil
    go_enter Tryz.func49, Tryz.ntmps49
    go_wp2
    go_ret
    exact ⟨by rw [unhide HNX]; rfl, Below.refl _ _⟩
  have i2 : ¬ (200 : Int) < (m : Int) := by omega
  have HC := hide (refCut_any 47 (l := l) (by omega) w)
  rw [hS] at HC
  obtain ⟨ps, hps⟩ : ∃ ps, pieces 47 l = ps := ⟨_, rfl⟩
  rw [hps] at HC
  have u47 : ((47 : UInt8).toNat : Int) = 47 := rfl
  rw [u47] at HC
  have hpl : ps.length ≤ 201 := by
    have := pieces_len 47 l
    rw [hps] at this
    omega
  have HR : Hid (RES = ps.all elG) := hide (by rw [← hRES]; unfold nameF; rw [decide_eq_true (by omega), hps, Bool.true_and])
  have HPS : Hid (∀ x ∈ ps, x.length ≤ m) := hide (fun x hx => by rw [← hm]; exact pieces_short 47 l x (by rw [hps]; exact hx))
  rw [hS]
  have hm2 : m ≤ 200 := by omega
  clear hRES hS hm hps u47 hnil h200 hml
  go_enter Tryz.func49, Tryz.ntmps49
  go_wp2_with (go_at_call 100; fail)
  refine (unhide HC).mono ?_
  rintro e w1 ⟨B, cp, rfl, htx, ⟨hB1, hB2⟩, b1⟩
  have HT := hide htx
  have HB1 := hide b1
  clear htx b1 hB1 hB2 HC
  obtain ⟨q, hq⟩ : ∃ q, ps.length = q := ⟨_, rfl⟩
  have HQ := hide hq
  rw [hq] at hpl ⊢
  clear hq
  go_wp2
  go_loop [4, 5, 6, 7] (fun v4 _ _ _ => ∃ i : Nat, i ≤ q ∧ v4 = .int .i64 (i : Int) ∧ Hid ((ps.take i).all elG = true)) (fun v4 _ _ _ => q - (intOf v4).toNat)
  case atStart => exact ⟨0, Nat.zero_le _, rfl, hide (by simp)⟩
  case round =>
    obtain ⟨i, hi, rfl, hall⟩ := hrel
    by_cases hlt : i < q
    · have hil : i < ps.length := by rw [unhide HQ]; exact hlt
      have hcell := unhide HT i hil
      have hyes : Hid (elG ps[i] = true → (ps.take (i + 1)).all elG = true) := hide (fun h => all_take hil (unhide hall) h)
      have hno : Hid (elG ps[i] = false → RES = false) := hide (fun h => by rw [unhide HR]; exact all_no hil h)
      have hxm := unhide HPS _ (List.getElem_mem hil)
      obtain ⟨x, hx⟩ : ∃ x, ps[i] = x := ⟨_, rfl⟩
      rw [hx] at hcell hyes hno hxm
      obtain ⟨X, hX⟩ : ∃ X, ba x = X := ⟨_, rfl⟩
      rw [hX] at hcell
      obtain ⟨k, hk⟩ : ∃ k, x.length = k := ⟨_, rfl⟩
      have hXs : X.size = k := by rw [← hX, ba_size]; exact hk
      clear hx hil hall
      by_cases x0 : x = []
      · have e0 : (X.toList == []) = true := by rw [← hX, baL_list, x0]; rfl
        have HNX := hide (unhide hno (by rw [x0]; rfl))
        clear x0 hX hk hxm hyes hno
        go_wp2
        go_ret
        exact ⟨by rw [unhide HNX]; rfl, unhide HB1⟩
      have e0 : (X.toList == []) = false := by rw [← hX, baL_list]; simpa using x0
      by_cases x1 : x = [46]
      · have e1 : (X.toList == [46]) = true := by rw [← hX, baL_list, x1]; rfl
        have HNX := hide (unhide hno (by rw [x1]; rfl))
        clear x0 x1 hX hk hxm hyes hno
        go_wp2
        go_ret
        exact ⟨by rw [unhide HNX]; rfl, unhide HB1⟩
      have e1 : (X.toList == [46]) = false := by rw [← hX, baL_list]; simpa using x1
      by_cases x2 : x = [46, 46]
      · have e2 : (X.toList == [46, 46]) = true := by rw [← hX, baL_list, x2]; rfl
        have HNX := hide (unhide hno (by rw [x2]; rfl))
        clear x0 x1 x2 hX hk hxm hyes hno
        go_wp2
        go_ret
        exact ⟨by rw [unhide HNX]; rfl, unhide HB1⟩
      have e2 : (X.toList == [46, 46]) = false := by rw [← hX, baL_list]; simpa using x2
      have hk1 : 1 ≤ k := by
        cases x with
        | nil => exact absurd rfl x0
        | cons y x => simp at hk; omega
      have HXA : Hid (∀ j (h1 : j < X.size) (h2 : j < x.length), X[j]'h1 = x[j]'h2) := hide (by
        subst hX
        intro j h1 h2
        exact ba_get x j h2)
      have hX0 : 0 < X.size := by omega
      have a0 := unhide HXA 0 hX0 (by omega)
      have hhd : x.headD 0 = x[0]'(by omega) := by
        cases x with
        | nil => exact absurd rfl x0
        | cons y x => rfl
      obtain ⟨c0, hc0⟩ : ∃ c0, x[0]'(by omega) = c0 := ⟨_, rfl⟩
      rw [hc0] at a0 hhd
      by_cases x3 : c0 = 32
      · have f0 : ((c0.toNat : Int) == 32) = true := by rw [x3]; rfl
        have HNX := hide (unhide hno (by unfold elG; rw [hhd, x3]; simp))
        clear x0 x1 x2 x3 hX hk hxm hyes hno hhd hc0
        go_wp2
        go_ret
        exact ⟨by rw [unhide HNX]; rfl, unhide HB1⟩
      have f0 : ((c0.toNat : Int) == 32) = false := by
        simp
        intro e
        exact x3 (UInt8.toNat_inj.1 (by show c0.toNat = 32; omega))
      have hkb : k ≤ 200 := by omega
      obtain ⟨k1, hk1e⟩ : ∃ k1, k - 1 = k1 := ⟨_, rfl⟩
      have s1 : (k : Int) - 1 = (k1 : Int) := by omega
      have hX1 : k1 < X.size := by omega
      have a1 := unhide HXA k1 hX1 (by omega)
      have hla : x.getLastD 0 = x[k1]'(by omega) := by
        have hlk : x.length - 1 = k1 := by omega
        have hg : x[x.length - 1]? = some (x[k1]'(by omega)) := by rw [hlk]; exact List.getElem?_eq_getElem (by omega)
        rw [List.getLastD_eq_getLast?, List.getLast?_eq_getElem?, hg]
        rfl
      obtain ⟨c1, hc1⟩ : ∃ c1, x[k1]'(by omega) = c1 := ⟨_, rfl⟩
      rw [hc1] at a1 hla
      by_cases x4 : c1 = 32
      · have f1 : ((c1.toNat : Int) == 32) = true := by rw [x4]; rfl
        have HNX := hide (unhide hno (by unfold elG; rw [hla, x4]; simp))
        have k1k : k1 < k := by omega
        clear x0 x1 x2 x3 x4 hX hk hxm hyes hno hhd hc0 hla hc1 hk1e
        go_wp2
        go_ret
        exact ⟨by rw [unhide HNX]; rfl, unhide HB1⟩
      have f1 : ((c1.toNat : Int) == 32) = false := by
        simp
        intro e
        exact x4 (UInt8.toNat_inj.1 (by show c1.toNat = 32; omega))
      have k1k : k1 < k := by omega
      have HEL : Hid (elG x = x.all chG) := hide (by
        unfold elG
        rw [hhd, hla]
        simp [x0, x1, x2, x3, x4])
      have HK := hide hk
      clear x0 x1 x2 x3 x4 hX hk hc0 hc1 hk1e hhd hla hxm
      go_wp2
      go_loop [6, 7] (fun v6 _ => ∃ j : Nat, j ≤ k ∧ v6 = .int .i64 (j : Int) ∧ Hid ((x.take j).all chG = true)) (fun v6 _ => k - (intOf v6).toNat)
      case atStart => exact ⟨0, Nat.zero_le _, rfl, hide (by simp)⟩
      case round =>
        obtain ⟨j, hj, rfl, hch⟩ := hrel
        by_cases hjk : j < k
        · have hjX : j < X.size := by omega
          have hjx : j < x.length := by rw [unhide HK]; exact hjk
          have aj := unhide HXA j hjX hjx
          have hcy : Hid (chG x[j] = true → (x.take (j + 1)).all chG = true) := hide (fun h => ch_take hjx (unhide hch) h)
          have hcn : Hid (chG x[j] = false → RES = false) := hide (fun h => unhide hno (by rw [unhide HEL]; exact ch_no hjx h))
          obtain ⟨cj, hcj⟩ : ∃ cj, x[j] = cj := ⟨_, rfl⟩
          rw [hcj] at aj hcy hcn
          have hjk' : (j : Int) < (k : Int) := by omega
          cases hgc : chG cj with
          | true =>
            have HCY := hide (unhide hcy hgc)
            unfold chG at hgc
            simp only [Bool.and_eq_true, decide_eq_true_eq] at hgc
            have r0 : ¬ ((cj.toNat : Int) < 32) := by omega
            have r1 : ¬ ((126 : Int) < (cj.toNat : Int)) := by omega
            have t92 : ((cj.toNat : Int) == 92) = false := by simp; omega
            have t58 : ((cj.toNat : Int) == 58) = false := by simp; omega
            have t42 : ((cj.toNat : Int) == 42) = false := by simp; omega
            have t63 : ((cj.toNat : Int) == 63) = false := by simp; omega
            have t34 : ((cj.toNat : Int) == 34) = false := by simp; omega
            have t60 : ((cj.toNat : Int) == 60) = false := by simp; omega
            have t62 : ((cj.toNat : Int) == 62) = false := by simp; omega
            have t124 : ((cj.toNat : Int) == 124) = false := by simp; omega
            clear hgc hcj hcy hcn hch
            go_wp2
            go_round
            case rel => exact ⟨j + 1, hjk, by push_cast; rfl, HCY⟩
            case measure => simp [intOf]; omega
          | false =>
            have HNX := hide (unhide hcn hgc)
            clear hcy hcn hch
            rcases Nat.lt_or_ge cj.toNat 32 with r0 | r0
            · have s0 : (cj.toNat : Int) < 32 := by omega
              clear r0 hgc hcj
              go_wp2
              go_ret
              exact ⟨by rw [unhide HNX]; rfl, unhide HB1⟩
            have s0 : ¬ ((cj.toNat : Int) < 32) := by omega
            rcases Nat.lt_or_ge 126 cj.toNat with r1 | r1
            · have s1 : (126 : Int) < (cj.toNat : Int) := by omega
              clear r0 r1 hgc hcj
              go_wp2
              go_ret
              exact ⟨by rw [unhide HNX]; rfl, unhide HB1⟩
            have s1 : ¬ ((126 : Int) < (cj.toNat : Int)) := by omega
            by_cases d92 : cj.toNat = 92
            · have t92 : ((cj.toNat : Int) == 92) = true := by simp; omega
              clear d92 r0 r1 hgc hcj
              go_wp2
              go_ret
              exact ⟨by rw [unhide HNX]; rfl, unhide HB1⟩
            have t92 : ((cj.toNat : Int) == 92) = false := by simp; omega
            by_cases d58 : cj.toNat = 58
            · have t58 : ((cj.toNat : Int) == 58) = true := by simp; omega
              clear d58 r0 r1 hgc hcj
              go_wp2
              go_ret
              exact ⟨by rw [unhide HNX]; rfl, unhide HB1⟩
            have t58 : ((cj.toNat : Int) == 58) = false := by simp; omega
            by_cases d42 : cj.toNat = 42
            · have t42 : ((cj.toNat : Int) == 42) = true := by simp; omega
              clear d42 r0 r1 hgc hcj
              go_wp2
              go_ret
              exact ⟨by rw [unhide HNX]; rfl, unhide HB1⟩
            have t42 : ((cj.toNat : Int) == 42) = false := by simp; omega
            by_cases d63 : cj.toNat = 63
            · have t63 : ((cj.toNat : Int) == 63) = true := by simp; omega
              clear d63 r0 r1 hgc hcj
              go_wp2
              go_ret
              exact ⟨by rw [unhide HNX]; rfl, unhide HB1⟩
            have t63 : ((cj.toNat : Int) == 63) = false := by simp; omega
            by_cases d34 : cj.toNat = 34
            · have t34 : ((cj.toNat : Int) == 34) = true := by simp; omega
              clear d34 r0 r1 hgc hcj
              go_wp2
              go_ret
              exact ⟨by rw [unhide HNX]; rfl, unhide HB1⟩
            have t34 : ((cj.toNat : Int) == 34) = false := by simp; omega
            by_cases d60 : cj.toNat = 60
            · have t60 : ((cj.toNat : Int) == 60) = true := by simp; omega
              clear d60 r0 r1 hgc hcj
              go_wp2
              go_ret
              exact ⟨by rw [unhide HNX]; rfl, unhide HB1⟩
            have t60 : ((cj.toNat : Int) == 60) = false := by simp; omega
            by_cases d62 : cj.toNat = 62
            · have t62 : ((cj.toNat : Int) == 62) = true := by simp; omega
              clear d62 r0 r1 hgc hcj
              go_wp2
              go_ret
              exact ⟨by rw [unhide HNX]; rfl, unhide HB1⟩
            have t62 : ((cj.toNat : Int) == 62) = false := by simp; omega
            by_cases d124 : cj.toNat = 124
            · have t124 : ((cj.toNat : Int) == 124) = true := by simp; omega
              clear d124 r0 r1 hgc hcj
              go_wp2
              go_ret
              exact ⟨by rw [unhide HNX]; rfl, unhide HB1⟩
            have t124 : ((cj.toNat : Int) == 124) = false := by simp; omega
            exfalso
            unfold chG at hgc
            simp only [Bool.and_eq_false_iff, decide_eq_false_iff_not] at hgc
            omega
        · have hje : j = k := by omega
          subst hje
          have HY := hide (unhide hyes (by
            rw [unhide HEL]
            have h1 := unhide hch
            rw [List.take_of_length_le (by rw [unhide HK]; exact Nat.le_refl _)] at h1
            exact h1))
          clear hch hyes hno
          go_wp2
          go_round
          case rel => exact ⟨i + 1, hlt, by push_cast; rfl, HY⟩
          case measure => simp [intOf]; omega
    · have hie : i = q := by omega
      subst hie
      have HNX : Hid (RES = true) := hide (by
        rw [unhide HR]
        have h1 := unhide hall
        rw [List.take_of_length_le (by rw [unhide HQ]; exact Nat.le_refl _)] at h1
        exact h1)
      clear hall
      go_wp2
      go_ret
      exact ⟨by rw [unhide HNX]; rfl, unhide HB1⟩
end Go.Proofs.YtkablmjkffdloaaGreatDoor

namespace Go.Proofs.YtkablmjkffdloaaGreatDoor
open Go.RowKit

/-- Names that were looked at, the last one first. -/
def seenL (xs : List Fl) (i : Nat) : List Bs := ((xs.take i).map fun x => lowL x.nm).reverse
theorem seen_next {xs : List Fl} {i : Nat} (h : i < xs.length) : seenL xs (i + 1) = lowL xs[i].nm :: seenL xs i := by
  unfold seenL
  rw [take_sn h, List.map_append, List.reverse_append]
  rfl
theorem seen_mem {xs : List Fl} {i : Nat} {b : Bs} : b ∈ seenL xs i ↔ ∃ k, ∃ h : k < xs.length, k < i ∧ lowL xs[k].nm = b := by
  unfold seenL
  rw [List.mem_reverse, List.mem_map]
  constructor
  · rintro ⟨x, hx, rfl⟩
    obtain ⟨k, hk, rfl⟩ := List.getElem_of_mem hx
    rw [List.length_take] at hk
    exact ⟨k, by omega, by omega, by rw [List.getElem_take]⟩
  · rintro ⟨k, hk, hki, rfl⟩
    refine ⟨xs[k], ?_, rfl⟩
    rw [List.mem_take_iff_getElem]
    exact ⟨k, by omega, rfl⟩

set_option maxRecDepth 100000 in
set_option maxHeartbeats 4000000 in
theorem refNames_any {w : World} {a : Option Addr} {n c : Nat} {xs : List Fl} (hx : xs.length = n) (hn : n ≤ 1000) (hnm : ∀ x ∈ xs, x.nm.length ≤ 1000000) (h : FAt w a xs) :
    Calls Tryz.prog 93 #[.slice a n c] w fun e w' => e = .returned (.int .i64 (nmE [] (xs.map Fl.nm))) ∧ Below w.heap.size w w' := by
  have HX := hide hx
  have HA := hide h
  have HNM := hide hnm
  obtain ⟨RES, hR⟩ : ∃ RES, nmE [] (xs.map Fl.nm) = RES := ⟨_, rfl⟩
  rw [hR]
  have HR := hide hR
  clear hx h hnm hR
  go_enter Tryz.func93, Tryz.ntmps93
  go_wp2
  go_loopw [3, 4, 5] (fun v3 _ _ wr => ∃ i : Nat, i ≤ n ∧ v3 = .int .i64 (i : Int) ∧ Hid (RES = nmE (seenL xs i) ((xs.drop i).map Fl.nm)) ∧ Below w.heap.size w wr) (fun v3 _ _ _ => n - (intOf v3).toNat)
  case atStart => exact ⟨0, Nat.zero_le _, rfl, hide (by rw [← unhide HR]; rfl), Below.refl _ _⟩
  case round =>
    rename World => wr
    obtain ⟨i, hi, rfl, hres, hbw⟩ := hrel
    by_cases hlt : i < n
    · have hil : i < xs.length := by rw [unhide HX]; exact hlt
      have hlt' : (i : Int) < (n : Int) := by omega
      obtain ⟨B, O, rfl, g0, g1⟩ := ((unhide HA).low hbw).get hil
      have hdr : xs.drop i = xs[i] :: xs.drop (i + 1) := List.drop_eq_getElem_cons hil
      have hres2 := unhide hres
      rw [hdr, List.map_cons] at hres2
      simp only [nmE] at hres2
      have hsn := seen_next hil
      have hxb := unhide HNM _ (List.getElem_mem hil)
      have hz0 : ∀ wx, Below w.heap.size w wx → wx.cell? ⟨B, O + i * 2, none⟩ = some (.string (ba xs[i].nm)) := fun wx hb => by
        obtain ⟨B2, O2, e2, z0, -⟩ := ((unhide HA).low hb).get hil
        cases e2
        exact z0
      obtain ⟨x, hxx⟩ : ∃ x, xs[i] = x := ⟨_, rfl⟩
      rw [hxx] at g0 g1 hres2 hsn hxb hz0
      obtain ⟨nm, xa, xn, xc⟩ := x
      simp only at g0 g1 hres2 hsn hxb hz0
      have HZ0 := hide hz0
      have KV := hide (refValid_any (l := nm) hxb wr)
      obtain ⟨nf, hnf⟩ : ∃ nf, nameF nm = nf := ⟨_, rfl⟩
      rw [hnf] at KV hres2
      have HRE := hide hres2
      have HSN := hide hsn
      have HBW := hide hbw
      clear hdr hres hres2 hxx hsn hbw hnf hz0
      go_wp2_with (go_at_call 49; fail)
      refine (unhide KV).mono ?_
      rintro e w2 ⟨rfl, b2⟩
      have HB2 := hide (low_trans (unhide HBW) b2)
      clear b2 KV
      cases nf with
      | false =>
        have HF : Hid (RES = 1) := hide (by rw [unhide HRE, if_pos rfl])
        go_wp2
        go_ret
        exact ⟨by rw [unhide HF]; rfl, unhide HB2⟩
      | true =>
        have HREL : Hid (RES = if lowL nm ∈ seenL xs i then 12 else nmE (lowL nm :: seenL xs i) ((xs.drop (i + 1)).map Fl.nm)) := hide (by
          rw [unhide HRE, if_neg (by simp)])
        clear HRE g0 g1
        go_wp2
        go_loopw [5] (fun v5 wk => ∃ k : Nat, k ≤ i ∧ v5 = .int .i64 (k : Int) ∧ Hid (∀ j (h : j < xs.length), j < k → lowL xs[j].nm ≠ lowL nm) ∧ Below w.heap.size w wk) (fun v5 _ => i - (intOf v5).toNat)
        case atStart => exact ⟨0, Nat.zero_le _, rfl, hide (fun j _ h => by omega), unhide HB2⟩
        case round =>
          rename World => wk
          obtain ⟨k, hk, rfl, hno, hbk⟩ := hrel
          by_cases hki : k < i
          · have hkl : k < xs.length := by omega
            have hki' : (k : Int) < (i : Int) := by omega
            have hkn' : (k : Int) < (n : Int) := by omega
            obtain ⟨B1, O1, e1, y0, -⟩ := ((unhide HA).low hbk).get hkl
            cases e1
            have z0 := unhide HZ0 wk hbk
            have hyb := unhide HNM _ (List.getElem_mem hkl)
            have HNEXT : Hid (lowL xs[k].nm ≠ lowL nm → ∀ j (h : j < xs.length), j < k + 1 → lowL xs[j].nm ≠ lowL nm) := hide (fun e j h h2 => by
              by_cases e2 : j = k
              · subst e2; exact e
              · exact unhide hno j h (by omega))
            have HHIT : Hid (lowL xs[k].nm = lowL nm → RES = 12) := hide (fun e => by
              rw [unhide HREL, if_pos (seen_mem.2 ⟨k, hkl, hki, e⟩)])
            obtain ⟨y, hy⟩ : ∃ y, xs[k].nm = y := ⟨_, rfl⟩
            rw [hy] at y0 hyb HNEXT HHIT
            have hS : wk.cell? ⟨B, O + k * 2, none⟩ = some (.string (ba y)) ∧ wk.cell? ⟨B, O + i * 2, none⟩ = some (.string (ba nm)) ∧ Below w.heap.size w wk := ⟨y0, z0, hbk⟩
            have KS : Hid (∀ wx (x : Bs), (wx.cell? ⟨B, O + k * 2, none⟩ = some (.string (ba y)) ∧ wx.cell? ⟨B, O + i * 2, none⟩ = some (.string (ba nm)) ∧ Below w.heap.size w wx) → (x = y ∨ x = nm) → Calls Tryz.prog 146 #[.string (ba x)] wx fun e w' => e = .returned (.string (ba (lowL x))) ∧ (w'.cell? ⟨B, O + k * 2, none⟩ = some (.string (ba y)) ∧ w'.cell? ⟨B, O + i * 2, none⟩ = some (.string (ba nm)) ∧ Below w.heap.size w w')) := hide (fun wx x hx hor => by
              refine (refSmall_any (l := x) (by rcases hor with rfl | rfl <;> assumption) wx).mono ?_
              rintro e w' ⟨rfl, b⟩
              exact ⟨rfl, (b.cell (lt_of_cell hx.1)).trans hx.1, (b.cell (lt_of_cell hx.2.1)).trans hx.2.1, low_trans hx.2.2 b⟩)
            obtain ⟨bb, hbb⟩ : ∃ bb, decide (lowL y = lowL nm) = bb := ⟨_, rfl⟩
            have ss : ((ba (lowL y)).toList == (ba (lowL nm)).toList) = bb := by
              rw [baL_list, baL_list, ← hbb]
              rw [Bool.eq_iff_iff]
              simp
            have HBB := hide hbb
            clear hno hbk hbb hy
            cases bb with
            | true =>
              have HF := hide (unhide HHIT (of_decide_eq_true (unhide HBB)))
              clear HNEXT HHIT HBB
              go_wp2
              go_region_held3 (fun wx => wx.cell? ⟨B, O + k * 2, none⟩ = some (.string (ba y)) ∧ wx.cell? ⟨B, O + i * 2, none⟩ = some (.string (ba nm)) ∧ Below w.heap.size w wx)
                (first | assumption | exact hS | exact ⟨hS.1, hS.2.1, hS.2.2.drew⟩)
                ((go_at_call 146; refine (unhide KS _ _ (by assumption) (by first | exact Or.inl rfl | exact Or.inr rfl)).mono ?_; rintro e w9 ⟨rfl, hS9⟩))
              all_goals
                have HB9 := hide hS9.2.2
                clear hS9 hS
                go_wp2
                go_ret
                exact ⟨by rw [unhide HF]; rfl, unhide HB9⟩
            | false =>
              have HNX := hide (unhide HNEXT (of_decide_eq_false (unhide HBB)))
              clear HNEXT HHIT HBB
              go_wp2
              go_region_held3 (fun wx => wx.cell? ⟨B, O + k * 2, none⟩ = some (.string (ba y)) ∧ wx.cell? ⟨B, O + i * 2, none⟩ = some (.string (ba nm)) ∧ Below w.heap.size w wx)
                (first | assumption | exact hS | exact ⟨hS.1, hS.2.1, hS.2.2.drew⟩)
                ((go_at_call 146; refine (unhide KS _ _ (by assumption) (by first | exact Or.inl rfl | exact Or.inr rfl)).mono ?_; rintro e w9 ⟨rfl, hS9⟩))
              all_goals
                have HB9 := hide hS9.2.2
                clear hS9 hS
                go_wp2
                go_roundw
                case rel => exact ⟨k + 1, hki, by push_cast; rfl, HNX, unhide HB9⟩
                case measure => simp [intOf]; omega
          · have hke : k = i := by omega
            subst hke
            have HF : Hid (RES = nmE (seenL xs (k + 1)) ((xs.drop (k + 1)).map Fl.nm)) := hide (by
              rw [unhide HREL, if_neg (fun hm => ?_), unhide HSN]
              obtain ⟨j, hj, hjk, e⟩ := seen_mem.1 hm
              exact unhide hno j hj hjk e)
            have HBK := hide hbk
            clear hno hbk
            go_wp2
            go_roundw
            case rel => exact ⟨k + 1, hlt, by push_cast; rfl, HF, unhide HBK⟩
            case measure => simp [intOf]; omega
    · have hie : i = n := by omega
      subst hie
      have HF : Hid (RES = 0) := hide (by rw [unhide hres, List.drop_of_length_le (by rw [unhide HX]; exact Nat.le_refl _)]; rfl)
      have HBW := hide hbw
      clear hres hbw
      go_wp2
      go_ret
      exact ⟨by rw [unhide HF]; rfl, unhide HBW⟩
end Go.Proofs.YtkablmjkffdloaaGreatDoor
