/-
  Format of locks: the contract.
-/
import Derived.Test.YthcafeoamabkgaaGreatDoorWrtX
import Derived.Test.YthcafeoamabkgaaGreatDoorBuild
import Derived.Test.YthcafeoamabkgaaGreatDoorFewX
namespace Go.Proofs.YthcafeoamabkgaaGreatDoor
open Go.RowKit

theorem But.cell2 {M : Nat} {w w' : World} (h : But M w w') {p : Addr} (hp : p.block < w.heap.size) (hne : ¬ p.block = M) : w'.cell? p = w.cell? p := by
  unfold World.cell?
  rw [h.block _ hp hne]

/-- A list's address is a plain one. -/
def PlainA (a : Option Addr) : Prop := ∀ ad, a = some ad → ∃ B O, ad = ⟨B, O, none⟩

theorem Lines.plain {B n c : Nat} {w : World} {a : Option Addr} {xs : List Ln} (h : Lines B w (.slice a n c) xs) : PlainA a := by
  rcases h.2 with ⟨e, _⟩ | ⟨g, cap, cur, e, _⟩
  · cases e
    intro ad h
    cases h
  · cases e
    intro ad h
    cases h
    exact ⟨_, _, rfl⟩

theorem LRow.cells {w : World} {B O : Nat} {xs : List Ln} (h : LRow w (some ⟨B, O, none⟩) xs) : ∀ j u, (lnsV xs)[j]? = some u → w.cell? ⟨B, O + j, none⟩ = some u := by
  intro j u hu
  have hj : j < xs.length * 4 := by
    have := (List.getElem?_eq_some_iff.1 hu).1
    rwa [lnsV_length] at this
  have hk : j / 4 < xs.length := by omega
  obtain ⟨a1, a2, a3, a4⟩ := lnL_at hk
  rcases h.els with h0 | ⟨B', O', e, he⟩
  · rw [h0] at hk; simp at hk
  · cases e
    obtain ⟨c1, c2, c3, c4⟩ := he _ hk
    have h4 : j % 4 = 0 ∨ j % 4 = 1 ∨ j % 4 = 2 ∨ j % 4 = 3 := by omega
    rcases h4 with h4 | h4 | h4 | h4
    · have ej : j / 4 * 4 = j := by omega
      rw [ej] at a1 c1
      rw [a1] at hu
      rw [c1, hu]
    · have ej : j / 4 * 4 + 1 = j := by omega
      rw [ej] at a2
      rw [Nat.add_assoc, ej] at c2
      rw [a2] at hu
      rw [c2, hu]
    · have ej : j / 4 * 4 + 2 = j := by omega
      rw [ej] at a3
      rw [Nat.add_assoc, ej] at c3
      rw [a3] at hu
      rw [c3, hu]
    · have ej : j / 4 * 4 + 3 = j := by omega
      rw [ej] at a4
      rw [Nat.add_assoc, ej] at c4
      rw [a4] at hu
      rw [c4, hu]

/-- slices.Clone of any list of lines. -/
theorem cloneR_any {w : World} {a : Option Addr} {n c : Nat} {xs : List Ln} (hn : xs.length = n) (hN : n ≤ 1000000) (hp : PlainA a) (h : LRow w a xs) :
    Calls Tryz.prog 91 #[.slice a n c] w fun e w' => ∃ v', e = .returned v' ∧ Lines w.heap.size w' v' xs ∧ Below w.heap.size w w' := by
  subst hn
  cases a with
  | none =>
    refine (AnyE.slices_Clone_nil Tryz.clone91 xs.length c w).mono ?_
    rintro e w' ⟨rfl, rfl⟩
    have h0 : xs = [] := by
      rcases h.els with h0 | ⟨_, _, e, _⟩
      · exact h0
      · cases e
    subst h0
    exact ⟨_, rfl, lines_nil _ _, Below.refl _ _⟩
  | some ad =>
    obtain ⟨B, O, rfl⟩ := hp ad rfl
    obtain ⟨i0, hi, hz0, hz1, hz2⟩ := info_parts info38
    refine (AnyE.slices_Clone Tryz.clone91 i0 _ 4 56 hi hz0 hz1 hz2 rfl (by omega) Tryz.sizeOf38 B O xs.length c (lnsV xs) w (lnsV_length xs) (by unfold maxLen; omega) (by omega) h.cells (lnsV_one xs)).mono ?_
    rintro e w' ⟨v', rfl, hown, _, hb'⟩
    exact ⟨v', rfl, hown, hb'⟩

set_option maxHeartbeats 1000000 in
theorem sortedR_any {w : World} {a : Option Addr} {n c : Nat} {xs : List Ln} (hg : Gd w) (hn : xs.length = n) (hN : n ≤ 1000000) (hp : PlainA a) (h : LRow w a xs) :
    Calls Tryz.prog 47 #[.slice a n c, .func (.func 48) #[] #[]] w fun e w' => ∃ v', e = .returned v' ∧ SortedSaid w xs v' w' := by
  have HC := hide (cloneR_any (c := c) hn hN hp h)
  have HN : Hid (xs.length ≤ 1000000) := hide (by omega)
  have HG := hide hg
  clear h hn hg hp
  go_enter Tryz.func47, Tryz.ntmps47
  go_wp2_with (go_at_call 91; fail)
  refine (unhide HC).mono ?_
  rintro e w1 ⟨v', rfl, hr, hb⟩
  have HS : Hid (Calls Tryz.prog 92 #[v', .func (.func 48) #[] #[]] w1 fun e w' => e = .returned (.tuple #[]) ∧ SortedSaid w xs v' w') := by
    rcases hr.2 with ⟨rfl, h0⟩ | ⟨g, cap, cur, rfl, hB, hblk, hcap, hcm, hcs, hcur⟩
    · refine (AnyF.slices_SortFunc_none Tryz.sort92 none 0 _ w1).mono ?_
      rintro e w' ⟨rfl, rfl⟩
      have e0 : xs = [] := List.length_eq_zero_iff.1 h0
      subst e0
      exact ⟨rfl, [], List.Perm.refl _, rising_nil, hr, hb⟩
    · refine (sort_L (unhide HG) hb hB hb.size hblk hcap hcm hcs hcur (unhide HN)).mono ?_
      rintro e w' ⟨rfl, ys, h1, h2, h3, h4⟩
      exact ⟨rfl, ys, h1, h2, h3, h4⟩
  clear hr hb HC
  go_wp2_with (go_at_call 92; fail)
  refine (unhide HS).mono ?_
  rintro e w2 ⟨rfl, hs⟩
  have HD := hide hs
  clear hs
  go_wp2
  go_ret
  exact ⟨v', rfl, unhide HD⟩

/-- Lines whose texts are short. -/
def Shorts (xs : List Ln) : Prop := ∀ x ∈ xs, x.p.length ≤ 1048576 ∧ x.v.length ≤ 1048576 ∧ x.s.length ≤ 1048576

theorem line_len {x : Ln} (h : x.p.length ≤ 1048576 ∧ x.v.length ≤ 1048576 ∧ x.s.length ≤ 1048576) : (lineT x).length ≤ 4000000 := by
  unfold lineT verT
  split
  · simp [gmL]; omega
  · simp; omega
theorem text_len : ∀ {xs : List Ln}, Shorts xs → (textL xs).length ≤ xs.length * 4000000
  | [], _ => by simp [textL]
  | x :: r, h => by
    have h1 := line_len (h x (by simp))
    have h2 := text_len (xs := r) (fun y hy => h y (by simp [hy]))
    simp only [textL, List.length_append, List.length_cons]
    omega
theorem text_snoc {xs : List Ln} {i : Nat} (hi : i < xs.length) : textL (xs.take (i + 1)) = textL (xs.take i) ++ lineT xs[i] := by
  rw [List.take_succ_eq_append_getElem hi, textL_append]
  simp [textL]

theorem str_cells (l : Str) : Lib.strCells (ba l) = Lib.byteCells l := by
  unfold Lib.strCells Lib.byteCells
  rw [show (ba l).data.toList = l from rfl]

/-- What writing answers. -/
def wrS (T : Str) : Str := if 65536 < T.length then [] else T
def wrE (T : Str) : Int := if 65536 < T.length then 13 else 0

set_option maxRecDepth 100000 in
set_option maxHeartbeats 4000000 in
theorem writeLines_any {w : World} {a : Option Addr} {n c : Nat} {xs : List Ln} (hn : xs.length = n) (hN : n ≤ 10000) (h : LRow w a xs) (hs : Shorts xs) :
    Calls Tryz.prog 46 #[.slice a n c, .func (.func 49) #[] #[]] w fun e w' => e = .returned (.tuple #[.string (ba (wrS (textL xs))), .int .i64 (wrE (textL xs))]) ∧ Below w.heap.size w w' := by
  obtain ⟨W0, hW0⟩ : ∃ W0, w.alloc (.cells #[.pointer none, .slice none 0 0] 138) = W0 := ⟨_, rfl⟩
  have b0 : Below w.heap.size w W0 := by rw [← hW0]; exact (Below.refl _ _).alloc (Nat.le_refl _) _
  have f0 : Lib.IsBuilder 138 5 w.heap.size w.heap.size (Lib.byteCells (textL (xs.take 0))) W0 := by rw [← hW0]; exact Lib.fresh_isBuilder 138 5 w
  obtain ⟨TX, hTX⟩ : ∃ T, textL xs = T := ⟨_, rfl⟩
  rw [hTX]
  have HTX := hide hTX
  have HN := hide hn
  have H := hide h
  have HS := hide hs
  have HB0 := hide b0
  have HF0 := hide f0
  have HW0 := hide hW0
  clear hn h hs b0 f0 hW0 hTX
  go_enter Tryz.func46, Tryz.ntmps46
  go_wp2
  rw [unhide HW0]
  go_loopw [8, 11] (fun _ v11 wr => ∃ i : Nat, i ≤ n ∧ v11 = .int .i64 i ∧ Lib.IsBuilder 138 5 w.heap.size w.heap.size (Lib.byteCells (textL (xs.take i))) wr ∧ Below w.heap.size w wr) (fun _ v11 _ => n - (intOf v11).toNat)
  case atStart => exact ⟨0, Nat.zero_le _, rfl, unhide HF0, unhide HB0⟩
  case round =>
    rename World => wr
    obtain ⟨i, hi, rfl, hbd, hbw⟩ := hrel
    clear HF0 HB0 HW0
    by_cases hlt : i < n
    · have hit : i < xs.length := by rw [unhide HN]; exact hlt
      obtain ⟨B, O, rfl, he⟩ : ∃ B O, a = some ⟨B, O, none⟩ ∧ ∀ k (hk : k < xs.length), LnAt wr B (O + k * 4) xs[k] := by
        rcases ((unhide H).low hbw).els with h | h
        · rw [h] at hit; simp at hit
        · exact h
      have ha := he i hit
      have hsn := text_snoc hit
      have hsh := unhide HS _ (List.getElem_mem hit)
      have htl := text_len (xs := xs.take i) (fun y hy => unhide HS y (List.mem_of_mem_take hy))
      have htl2 : (xs.take i).length ≤ 10000 := by rw [List.length_take]; omega
      obtain ⟨x, hx⟩ : ∃ x, xs[i] = x := ⟨_, rfl⟩
      rw [hx] at ha hsn hsh
      have hll := line_len hsh
      obtain ⟨m1, m2, m3, m4⟩ := ha
      obtain ⟨W4, hW4⟩ : ∃ W4, wr.alloc (.cells #[.string (ba x.p), .string (ba x.v), .int .i64 x.k, .string (ba x.s)] 38) = W4 := ⟨_, rfl⟩
      have b4 : Below wr.heap.size wr W4 := by rw [← hW4]; exact (Below.refl _ _).alloc (Nat.le_refl _) _
      have k4 : Blk W4 wr.heap.size #[.string (ba x.p), .string (ba x.v), .int .i64 x.k, .string (ba x.s)] 38 := by rw [← hW4]; exact Blk.new _ _ _
      have c1 : W4.cell? ⟨wr.heap.size, 0, none⟩ = some (.string (ba x.p)) := k4.cell 0
      have c2 : W4.cell? ⟨wr.heap.size, 1, none⟩ = some (.string (ba x.v)) := k4.cell 1
      have c3 : W4.cell? ⟨wr.heap.size, 2, none⟩ = some (.int .i64 x.k) := k4.cell 2
      have c4 : W4.cell? ⟨wr.heap.size, 3, none⟩ = some (.string (ba x.s)) := k4.cell 3
      have HWL := hide (fun wx => writeLine_any (x := x) (by omega) (by omega) (by omega) wx)
      have HBD := hide (build_low hbd b4)
      have HB4 := hide (low_trans hbw b4)
      obtain ⟨T, hT⟩ : ∃ T, textL (xs.take i) = T := ⟨_, rfl⟩
      obtain ⟨L, hL⟩ : ∃ L, lineT x = L := ⟨_, rfl⟩
      rw [hT] at hsn HBD htl
      rw [hL] at hsn HWL hll
      have HSN := hide hsn
      have HW4 := hide hW4
      have hTb : T.length ≤ 40000000000 := by omega
      obtain ⟨xp, xv, xk, xz⟩ := x
      simp only at m1 m2 m3 m4 c1 c2 c3 c4
      clear he hx k4 b4 hbd hbw hT hL hsn hW4 hsh htl htl2
      go_wp2_with (go_at_call 49; fail)
      rw [unhide HW4]
      refine (unhide HWL _).mono ?_
      rintro e w5 ⟨rfl, b5⟩
      have HB5 := hide (low_trans (unhide HB4) b5)
      have HWS := hide (writeString_any _ _ _ (ba L) w5 (build_low (unhide HBD) b5) (by rw [ba_size]; simp [Lib.byteCells]; omega) (unhide HB5).size)
      clear b5
      go_wp2_with (go_at_call 88; fail)
      refine (unhide HWS).mono ?_
      rintro e w6 ⟨rfl, h6, b6⟩
      have HD : Hid (Lib.IsBuilder 138 5 w.heap.size w.heap.size (Lib.byteCells (textL (xs.take (i + 1)))) w6 ∧ Below w.heap.size w w6) := hide ⟨by
        rw [unhide HSN, Lib.byteCells_append, ← str_cells L]
        exact Or.inr h6, (unhide HB5).trans b6⟩
      clear h6 b6
      go_wp2
      go_roundw
      case rel => exact ⟨i + 1, hlt, by simp, (unhide HD).1, (unhide HD).2⟩
      case measure => simp [intOf]; omega
    · have hin : xs.take i = xs := List.take_of_length_le (by rw [unhide HN]; omega)
      rw [hin] at hbd
      have htl := text_len (unhide HS)
      rw [unhide HN] at htl
      rw [unhide HTX] at hbd htl
      have HLE := hide (Tryz.Builder_Len _ _ _ wr hbd)
      have HST := hide (Tryz.Builder_String_any _ _ _ wr hbd hbw.size)
      have hlen : (Lib.byteCells TX).length = TX.length := by simp [Lib.byteCells]
      rw [hlen] at HLE
      have HBW := hide hbw
      clear hbd hbw hin hlen
      by_cases hbig : 65536 < TX.length
      · have hq : (65536 : Int) < (TX.length : Int) := by omega
        have HV : Hid (wrS TX = [] ∧ wrE TX = 13) := hide ⟨if_pos hbig, if_pos hbig⟩
        clear hbig
        go_wp2_with (go_at_call 89; fail)
        refine (unhide HLE).mono ?_
        rintro e w2 ⟨rfl, hw⟩
        rw [hw]; clear hw w2
        go_wp2
        go_ret2
        rw [(unhide HV).1, (unhide HV).2]
        exact ⟨rfl, unhide HBW⟩
      · have hq : ¬ (65536 : Int) < (TX.length : Int) := by omega
        have HV : Hid (wrS TX = TX ∧ wrE TX = 0) := hide ⟨if_neg hbig, if_neg hbig⟩
        clear hbig
        go_wp2_with (go_at_call 89; fail)
        refine (unhide HLE).mono ?_
        rintro e w2 ⟨rfl, hw⟩
        rw [hw]; clear hw w2
        go_wp2_with (go_at_call 90; fail)
        refine (unhide HST).mono ?_
        rintro e w2 ⟨rfl, b2⟩
        have HB2 := hide ((unhide HBW).trans b2)
        clear b2
        go_wp2
        go_ret2
        rw [(unhide HV).1, (unhide HV).2]
        exact ⟨rfl, unhide HB2⟩

set_option maxRecDepth 100000 in
set_option maxHeartbeats 4000000 in
/-- Format, at any lines. -/
theorem format_any {w : World} {a : Option Addr} {n c : Nat} {xs : List Ln} (hg : Gd w) (hn : xs.length = n) (hN : n ≤ 10000) (hp : PlainA a) (h : LRow w a xs) (hs : Shorts xs) :
    Calls Tryz.prog 14 #[.slice a n c] w fun e w' => ∃ s en, e = .returned (.tuple #[.string (ba s), .int .i64 en]) ∧ FOut xs s en ∧ Below w.heap.size w w' := by
  have HN := hide hn
  have H := hide h
  have HS := hide hs
  have HG := hide hg
  have HP := hide hp
  have HC := hide (lineCheck_any w)
  clear hn h hs hg hp
  go_enter Tryz.func14, Tryz.ntmps14
  go_wp2_with (go_at_call 45; fail)
  refine (unhide HC).mono ?_
  rintro e w1 ⟨rfl, k1, s1, b1⟩
  have hc1 : w1.cell? ⟨w.heap.size + 1, 0, none⟩ = some (.map (some w.heap.size)) := k1.cell 0
  have HC1 := hide hc1
  have HS1 := hide s1
  have HB1 := hide b1
  clear k1 s1 b1 hc1
  go_wp2
  go_loopw [6, 7, 11] (fun _ _ v11 wr => ∃ (i : Nat) (ks : List En), i ≤ n ∧ v11 = .int .i64 i ∧ Ents ks (xs.take i) ∧ fmtE (xs.take i) (xs.drop i) = fmtE [] xs ∧ SetAt wr w.heap.size i ks ∧ wr.cell? ⟨w.heap.size + 1, 0, none⟩ = some (.map (some w.heap.size)) ∧ Below w.heap.size w wr) (fun _ _ v11 _ => n - (intOf v11).toNat)
  case atStart => exact ⟨0, [], Nat.zero_le _, rfl, ents_nil, rfl, unhide HS1, unhide HC1, unhide HB1⟩
  case round =>
    rename World => wr
    obtain ⟨i, ks, hi, rfl, hen, hfm, hset, hcell, hbw⟩ := hrel
    clear HC1 HS1 HB1
    by_cases hlt : i < n
    · have hit : i < xs.length := by rw [unhide HN]; exact hlt
      obtain ⟨B, O, rfl, he⟩ : ∃ B O, a = some ⟨B, O, none⟩ ∧ ∀ k (hk : k < xs.length), LnAt wr B (O + k * 4) xs[k] := by
        rcases ((unhide H).low hbw).els with h | h
        · rw [h] at hit; simp at hit
        · exact h
      have ha := he i hit
      have hst := fmt_step hit hfm
      have hsh := unhide HS _ (List.getElem_mem hit)
      have htk : xs.take (i + 1) = xs.take i ++ [xs[i]] := List.take_succ_eq_append_getElem hit
      obtain ⟨x, hx⟩ : ∃ x, xs[i] = x := ⟨_, rfl⟩
      rw [hx] at ha hst hsh htk
      obtain ⟨m1, m2, m3, m4⟩ := ha
      obtain ⟨W4, hW4⟩ : ∃ W4, wr.alloc (.cells #[.string (ba x.p), .string (ba x.v), .int .i64 x.k, .string (ba x.s)] 38) = W4 := ⟨_, rfl⟩
      have b4 : Below wr.heap.size wr W4 := by rw [← hW4]; exact (Below.refl _ _).alloc (Nat.le_refl _) _
      have k4 : Blk W4 wr.heap.size #[.string (ba x.p), .string (ba x.v), .int .i64 x.k, .string (ba x.s)] 38 := by rw [← hW4]; exact Blk.new _ _ _
      have c1 : W4.cell? ⟨wr.heap.size, 0, none⟩ = some (.string (ba x.p)) := k4.cell 0
      have c2 : W4.cell? ⟨wr.heap.size, 1, none⟩ = some (.string (ba x.v)) := k4.cell 1
      have c3 : W4.cell? ⟨wr.heap.size, 2, none⟩ = some (.int .i64 x.k) := k4.cell 2
      have c4 : W4.cell? ⟨wr.heap.size, 3, none⟩ = some (.string (ba x.s)) := k4.cell 3
      have hc4 : W4.cell? ⟨w.heap.size + 1, 0, none⟩ = some (.map (some w.heap.size)) := (b4.cell (lt_of_cell hcell)).trans hcell
      have HCK := hide (check_any ((unhide HG).low (low_trans hbw b4)) hc4 (hset.low b4) (⟨by omega, by omega, by omega⟩ : LnOk x) (by omega))
      have HB4 := hide (low_trans hbw b4)
      have HC4 := hide hc4
      have HNM : Hid (¬ (w.heap.size + 1) = w.heap.size) := hide (by show ¬ _; omega)
      have HW4 := hide hW4
      -- the error, as the law of lines says it
      have hE : fmtE [] xs = if checkE ks x ≠ 0 then checkE ks x else fmtE (xs.take (i + 1)) (xs.drop (i + 1)) := by
        rw [hst]
        by_cases hk : x.k ≠ 0 ∧ x.k ≠ 1
        · have : checkE ks x = 7 := by unfold checkE; rw [if_pos hk]
          rw [this, if_pos hk]
          rfl
        · rw [if_neg hk, check_one hen (by omega)]
      have hK : checkE ks x = 0 → Ents (checkK ks x) (xs.take (i + 1)) := fun h0 => by
        unfold checkK
        rw [if_pos h0, htk]
        exact ents_snoc hen
      have HK := hide hK
      have HE := hide hE
      obtain ⟨E, hEE⟩ : ∃ E, checkE ks x = E := ⟨_, rfl⟩
      have HEE := hide hEE
      obtain ⟨xp, xv, xk, xz⟩ := x
      simp only at m1 m2 m3 m4 c1 c2 c3 c4
      clear he hx k4 b4 hset hcell hbw hst hsh htk hW4 hen hfm hE hK hc4 hEE
      go_wp2_with (go_at_call 84; fail)
      rw [unhide HW4]
      refine (unhide HCK).mono ?_
      rintro e w5 ⟨rfl, s5, b5⟩
      rw [unhide HEE]
      by_cases h0 : E = 0
      · have HD : Hid (Ents (checkK ks ⟨xp, xv, xk, xz⟩) (xs.take (i + 1)) ∧ fmtE (xs.take (i + 1)) (xs.drop (i + 1)) = fmtE [] xs ∧ SetAt w5 w.heap.size (i + 1) (checkK ks ⟨xp, xv, xk, xz⟩) ∧ w5.cell? ⟨w.heap.size + 1, 0, none⟩ = some (.map (some w.heap.size)) ∧ Below w.heap.size w w5) := hide ⟨unhide HK ((unhide HEE).trans h0), by
            rw [unhide HE, if_neg (by rw [unhide HEE, h0]; simp)], s5, (But.cell2 b5 (p := ⟨w.heap.size + 1, 0, none⟩) (lt_of_cell (unhide HC4)) (unhide HNM)).trans (unhide HC4), b5.low (unhide HB4) (unhide HB4).size (Nat.le_refl _)⟩
        subst h0
        clear s5 b5
        go_wp2
        go_roundw
        case rel => exact ⟨i + 1, _, hlt, by simp, (unhide HD).1, (unhide HD).2.1, (unhide HD).2.2.1, (unhide HD).2.2.2.1, (unhide HD).2.2.2.2⟩
        case measure => simp [intOf]; omega
      · have HD : Hid (FOut xs [] E ∧ Below w.heap.size w w5) := hide ⟨Or.inl ⟨by
            rw [unhide HE, if_pos (by rw [unhide HEE]; exact h0), unhide HEE]; exact h0, by rw [unhide HE, if_pos (by rw [unhide HEE]; exact h0), unhide HEE], rfl⟩, b5.low (unhide HB4) (unhide HB4).size (Nat.le_refl _)⟩
        have hne : (E != 0) = true := by simpa using h0
        clear s5 b5
        go_wp2
        go_ret2
        exact ⟨[], E, rfl, (unhide HD).1, (unhide HD).2⟩
    · have hin : xs.take i = xs := List.take_of_length_le (by rw [unhide HN]; omega)
      have hdr : xs.drop i = [] := List.drop_eq_nil_of_le (by rw [unhide HN]; omega)
      rw [hin, hdr] at hfm
      have h0 : fmtE [] xs = 0 := by rw [← hfm]; rfl
      have H0 := hide h0
      have HSO := hide (sortedR_any (c := c) ((unhide HG).low hbw) (unhide HN) (by omega) (unhide HP) ((unhide H).low hbw))
      have HBW := hide hbw
      clear hin hdr hfm h0 hset hcell hen hbw
      go_wp2_with (go_at_call 47; fail)
      refine (unhide HSO).mono ?_
      rintro e w2 ⟨v2, rfl, zs, hpz, hrz, lz, bz⟩
      obtain ⟨a2, c2, rfl, lr2, _⟩ := Lines.at lz
      have hzn : zs.length = n := by rw [hpz.length_eq]; exact unhide HN
      rw [hzn]
      have HWR := hide (writeLines_any (c := c2) hzn hN lr2 (fun y hy => unhide HS y (hpz.mem_iff.1 hy)))
      have HB2 := hide (low_trans (unhide HBW) bz)
      have HFO : Hid (FOut xs (wrS (textL zs)) (wrE (textL zs))) := hide (Or.inr ⟨unhide H0, zs, hpz, hrz, by
        by_cases hb : 65536 < (textL zs).length
        · exact Or.inl ⟨hb, if_pos hb, if_pos hb⟩
        · exact Or.inr ⟨by omega, if_neg hb, if_neg hb⟩⟩)
      clear hpz hrz lz bz lr2 hzn
      go_wp2_with (go_at_call 46; fail)
      refine (unhide HWR).mono ?_
      rintro e w3 ⟨rfl, b3⟩
      have HB3 := hide (low_trans (unhide HB2) b3)
      clear b3
      go_wp2
      go_ret2
      exact ⟨_, _, rfl, unhide HFO, unhide HB3⟩

end Go.Proofs.YthcafeoamabkgaaGreatDoor
