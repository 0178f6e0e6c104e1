/-
  Numbers read and laid, the reference's.
-/
import Derived.Test.YtkablmjkffdloaaGreatDoorUnpX
import Derived.Test.YtkablmjkffdloaaGreatDoorLowF
import Derived.Test.YtkablmjkffdloaaGreatDoorPakN
namespace Go.Proofs.YtkablmjkffdloaaGreatDoor
open Go.RowKit

set_option maxRecDepth 100000 in
set_option maxHeartbeats 2000000 in
theorem get_any2 {w : World} {a : Option Addr} {n c at0 sz : Nat} {b : Bs} (hn : b.length = n) (hN : n ≤ 1073741824) (hs : at0 + sz ≤ n) (h4 : sz ≤ 4) (h : BAt w a b) :
    Calls Tryz.prog 101 #[.slice a n c, .int .i64 (at0 : Int), .int .i64 (sz : Int)] w fun e w' => e = .returned (.int .i64 ((getN ((b.drop at0).take sz) : Nat) : Int)) ∧ w' = w := by
  have HN := hide hn
  have HA := hide h
  obtain ⟨RES, hR⟩ : ∃ R, getN ((b.drop at0).take sz) = R := ⟨_, rfl⟩
  rw [hR]
  have HR := hide hR
  clear hn h hR
  go_enter Tryz.func101, Tryz.ntmps101
  go_wp2
  go_loop [7, 8] (fun v7 v8 => ∃ r A : Nat, r ≤ sz ∧ v8 = .int .i64 ((r : Int) - 1) ∧ v7 = .int .i64 (A : Int) ∧ A < 4294967296 ∧ Hid (A = getN ((b.drop (at0 + r)).take (sz - r)))) (fun _ v8 => (intOf v8 + 1).toNat)
  case atStart => exact ⟨sz, 0, Nat.le_refl _, rfl, rfl, by decide, hide (by rw [Nat.sub_self]; rfl)⟩
  case round =>
    obtain ⟨r, A, hr, rfl, rfl, hAb, hA⟩ := hrel
    cases r with
    | succ r =>
      have e1 : ((r + 1 : Nat) : Int) - 1 = (r : Int) := by omega
      rw [e1]
      have hr0 : (0 : Int) ≤ (r : Int) := by omega
      obtain ⟨p, hp⟩ : ∃ p, at0 + r = p := ⟨_, rfl⟩
      have hpl : p < b.length := by rw [unhide HN]; omega
      obtain ⟨B, O, rfl, k0⟩ := (unhide HA).at hpl
      have ep : (at0 : Int) + (r : Int) = (p : Int) := by omega
      have hpn : (p : Int) < (n : Int) := by rw [unhide HN] at hpl; omega
      have hdr : b.drop p = b[p] :: b.drop (p + 1) := List.drop_eq_getElem_cons hpl
      obtain ⟨x, hx⟩ : ∃ x, b[p] = x := ⟨_, rfl⟩
      rw [hx] at k0 hdr
      have hx8 := u8_lt x
      obtain ⟨A2, hA2⟩ : ∃ A2, A * 256 + x.toNat = A2 := ⟨_, rfl⟩
      obtain ⟨M, hM⟩ : ∃ M, A * 256 = M := ⟨_, rfl⟩
      have m1 : (A : Int) * 256 = (M : Int) := by omega
      have m2 : (M : Int) + (x.toNat : Int) = (A2 : Int) := by omega
      have hnx : A2 = getN ((b.drop (at0 + r)).take (sz - r)) := by
        rw [hp, hdr, show sz - r = (sz - (r + 1)) + 1 by omega, List.take_succ_cons]
        simp only [getN]
        have h1 := unhide hA
        rw [show at0 + (r + 1) = p + 1 by omega] at h1
        omega
      have hA2b : A2 < 4294967296 := by
        have h1 := getN_lt ((b.drop (at0 + r)).take (sz - r))
        have h2 : ((b.drop (at0 + r)).take (sz - r)).length ≤ 4 := by rw [List.length_take]; omega
        have h3 : 256 ^ ((b.drop (at0 + r)).take (sz - r)).length ≤ 256 ^ 4 := Nat.pow_le_pow_right (by decide) h2
        rw [← hnx] at h1
        exact Nat.lt_of_lt_of_le h1 h3
      have HNX := hide hnx
      clear hp hdr hx hA2 hM hnx hA e1 hpl
      go_wp2
      go_round
      case rel => exact ⟨r, A2, by omega, rfl, rfl, hA2b, HNX⟩
      case measure => simp [intOf]
    | zero =>
      have e1 : ((0 : Nat) : Int) - 1 = -1 := by omega
      rw [e1]
      have hF : A = RES := by
        have h1 := unhide hA
        rw [Nat.add_zero, Nat.sub_zero] at h1
        rw [h1, ← unhide HR]
      subst hF
      clear hA e1
      go_wp2
      go_ret
      exact ⟨rfl, rfl⟩

set_option maxRecDepth 100000 in
set_option maxHeartbeats 2000000 in
theorem put_any {base x sz : Nat} {w : World} {v : Value} {l : Bs} (ho : OwnB base w v l) (hB : base ≤ w.heap.size) (hx : x < 4294967296) (hs : sz ≤ 4) (hl : l.length ≤ 1400000000) :
    Calls Tryz.prog 148 #[v, .int .i64 (x : Int), .int .i64 (sz : Int)] w fun e w' => ∃ v', e = .returned v' ∧ OwnB base w' v' (l ++ leN sz x) ∧ GrB w w' v v' := by
  have HO := hide ho
  clear ho
  go_enter Tryz.func148, Tryz.ntmps148
  go_wp2
  go_loopw [0, 1, 7] (fun v0 v1 v7 wr => ∃ i y : Nat, i ≤ sz ∧ v7 = .int .i64 (i : Int) ∧ v1 = .int .i64 (y : Int) ∧ Hid (y = x / 2 ^ (8 * i)) ∧ OwnB base wr v0 (l ++ leN i x) ∧ GrB w wr v v0) (fun _ _ v7 _ => sz - (intOf v7).toNat)
  case atStart => exact ⟨0, x, Nat.zero_le _, rfl, rfl, hide (by simp), by simpa [leN] using unhide HO, GrB.refl _ _⟩
  case round =>
    rename World => wr
    obtain ⟨i, y, hi, rfl, rfl, hy, hown, hgr⟩ := hrel
    by_cases hlt : i < sz
    · have hlt' : (i : Int) < (sz : Int) := by omega
      obtain ⟨cb, hcb⟩ : ∃ cb, UInt8.ofNat (y % 256) = cb := ⟨_, rfl⟩
      have hcn : cb.toNat = y % 256 := by rw [← hcb]; simp
      have hyx : y ≤ x := by rw [unhide hy]; exact Nat.div_le_self _ _
      have ew : IntKind.u8.wrap (y : Int) = (cb.toNat : Int) := by
        rw [hcn]
        simp [IntKind.wrap, IntKind.bits, IntKind.signed]
      obtain ⟨y2, hy2⟩ : ∃ y2, y / 256 = y2 := ⟨_, rfl⟩
      have q1 : (y : Int).tdiv 256 = (y2 : Int) := by
        rw [Int.tdiv_eq_ediv_of_nonneg (by omega)]
        omega
      have q2 : (y : Int) / 256 = (y2 : Int) := by omega
      have HY : Hid (y2 = x / 2 ^ (8 * (i + 1))) := hide (by
        rw [← hy2, unhide hy, show 8 * (i + 1) = 8 * i + 8 by omega, Nat.pow_add, Nat.div_div_eq_div_mul])
      have hsn : (l ++ leN i x) ++ [cb] = l ++ leN (i + 1) x := by
        show _ = l ++ (leN i x ++ [UInt8.ofNat (x / 2 ^ (8 * i) % 256)])
        rw [← unhide hy, hcb, List.append_assoc]
      have hlen : (l ++ leN i x).length ≤ 2147483648 := by rw [List.length_append, leN_len]; omega
      obtain ⟨W2, hW2⟩ : ∃ W2, wr.alloc (.cells #[.int .u8 (cb.toNat : Int)] 5) = W2 := ⟨_, rfl⟩
      obtain ⟨v3, w3, happ, hown3, hgr3⟩ := app_byte hown (Nat.le_trans hB hgr.size) hlen hW2
      rw [hsn] at hown3
      have HR := hide (And.intro hown3 (hgr.trans hgr3))
      have HW2 := hide hW2
      clear hcb hcn hy2 hsn hlen hown hgr hW2 hown3 hgr3 hy
      go_wp2_with (at_builtin; rw [unhide HW2]; refine Lib.wpList_append_run _ rfl (.tmp 13) (.tmp 16) 23 23 rfl _ _ rfl rfl _ _ happ ?_; clear happ)
      go_roundw
      case rel => exact ⟨i + 1, y2, hlt, by push_cast; rfl, rfl, HY, (unhide HR).1, (unhide HR).2⟩
      case measure => simp [intOf]; omega
    · have hie : i = sz := by omega
      subst hie
      have HR := hide (And.intro hown hgr)
      clear hown hgr hy
      go_wp2
      go_ret
      exact ⟨_, rfl, (unhide HR).1, (unhide HR).2⟩

set_option maxRecDepth 100000 in
set_option maxHeartbeats 2000000 in
theorem puts_any {base N q kc : Nat} {w : World} {v : Value} {l : Bs} {ns : List Nat} (ho : OwnB base w v l) (hB : base ≤ w.heap.size) (hq : ns.length = q) (hN : ∀ j (hj : j < ns.length), w.cell? ⟨N, j, none⟩ = some (.int .i64 ((ns[j] : Nat) : Int))) (hT : ∀ cs2 fr, w.heap[N]? ≠ some (.cells cs2 5 fr)) (hx : ∀ x ∈ ns, x < 4294967296) (hq6 : q ≤ 6) (hl : l.length ≤ 1390000000) :
    Calls Tryz.prog 147 #[v, .slice (some ⟨N, 0, none⟩) q kc] w fun e w' => ∃ v', e = .returned v' ∧ OwnB base w' v' (l ++ leAll 2 ns) ∧ GrB w w' v v' := by
  have HO := hide ho
  have HQ := hide hq
  have HN := hide hN
  have HT := hide hT
  have HX := hide hx
  clear ho hq hN hT hx
  go_enter Tryz.func147, Tryz.ntmps147
  go_wp2
  go_loopw [0, 5] (fun v0 v5 wr => ∃ j : Nat, j ≤ q ∧ v5 = .int .i64 (j : Int) ∧ OwnB base wr v0 (l ++ leAll 2 (ns.take j)) ∧ GrB w wr v v0) (fun _ v5 _ => q - (intOf v5).toNat)
  case atStart => exact ⟨0, Nat.zero_le _, rfl, by simpa [leAll] using unhide HO, GrB.refl _ _⟩
  case round =>
    rename World => wr
    obtain ⟨j, hj, rfl, hown, hgr⟩ := hrel
    by_cases hlt : j < q
    · have hjl : j < ns.length := by rw [unhide HQ]; exact hlt
      have hlt' : (j : Int) < (q : Int) := by omega
      have c0 := unhide HN j hjl
      have c1 : wr.cell? ⟨N, j, none⟩ = some (.int .i64 ((ns[j] : Nat) : Int)) := by
        have e := grB_keep (Or.inl (unhide HO)) hgr (lt_of_cell c0) (unhide HT)
        rw [← c0]
        unfold World.cell?
        simp only [e]
      have hxb := unhide HX _ (List.getElem_mem hjl)
      have hsn := leAll_snoc (wd := 2) hjl
      obtain ⟨x, hxx⟩ : ∃ x, ns[j] = x := ⟨_, rfl⟩
      rw [hxx] at c1 hxb hsn
      have KP := hide (put_any (x := x) (sz := 2) hown (Nat.le_trans hB hgr.size) hxb (by decide) (by rw [List.length_append, leAll_len, List.length_take]; omega))
      have HG := hide hgr
      have HSN := hide hsn
      clear c0 hown hgr hxx hsn
      go_wp2_with (go_at_call 148; fail)
      refine (unhide KP).mono ?_
      rintro e w3 ⟨v3, rfl, o3, g3⟩
      rw [List.append_assoc, ← unhide HSN] at o3
      have HR := hide (And.intro o3 ((unhide HG).trans g3))
      clear o3 g3 KP
      go_wp2
      go_roundw
      case rel => exact ⟨j + 1, hlt, by push_cast; rfl, (unhide HR).1, (unhide HR).2⟩
      case measure => simp [intOf]; omega
    · have hje : j = q := by omega
      subst hje
      rw [List.take_of_length_le (by rw [unhide HQ]; exact Nat.le_refl _)] at hown
      have HR := hide (And.intro hown hgr)
      clear hown hgr
      go_wp2
      go_ret
      exact ⟨_, rfl, (unhide HR).1, (unhide HR).2⟩
end Go.Proofs.YtkablmjkffdloaaGreatDoor
