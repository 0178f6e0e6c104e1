/-
  The reference's Match: the same plain function.
-/
import Derived.Test.YthcafeoamabkgaaGreatDoorGlobR
import Derived.Test.YthcafeoamabkgaaGreatDoorCutR
import Derived.Test.YthcafeoamabkgaaGreatDoorFrontsP
namespace Go.Proofs.YthcafeoamabkgaaGreatDoor
open Go.RowKit

theorem glue_next {es : List Str} {k : Nat} (h1 : 1 ≤ k) (hk : k < es.length) : glue 47 (es.take (k + 1)) = glue 47 (es.take k) ++ 47 :: es[k] := by
  have e : es.take (k + 1) = es.take k ++ [es[k]] := by
    rw [List.take_add_one, List.getElem?_eq_getElem hk]
    rfl
  rw [e, glue_app 47 (fun h => by have h2 : (es.take k).length = 0 := by rw [h]; rfl
                                  rw [List.length_take] at h2; omega) (by simp)]
  rfl
theorem glue_one {es : List Str} (h : 0 < es.length) : glue 47 (es.take 1) = es[0] := by
  cases es with
  | nil => simp at h
  | cons x r => simp [glue]

set_option maxRecDepth 100000 in
set_option maxHeartbeats 4000000 in
theorem refMatch_any {w : World} {a : Option Addr} {n c : Nat} {ts : List Str} {path : Str} (ht : Row w a ts) (hn : ts.length = n) (hN : n ≤ 1099511627776) (hts : ∀ x ∈ ts, x.length ≤ 200) (hpl : path.length ≤ 1000) :
    Calls Tryz.prog 42 #[.slice a n c, .string (ba path)] w fun e w' => e = .returned (.bool (matchL ts path)) ∧ Below w.heap.size w w' := by
  have HC := hide (refCut_any 47 (l := path) (by omega) w)
  have HT := hide ht
  have HN := hide hn
  have HTS := hide hts
  have hec : (pieces 47 path).length ≤ 1002 := by
    have h1 := pieces_length 47 path
    have h2 := Lib.count_le path [47]
    omega
  have hgl : ∀ k, (glue 47 ((pieces 47 path).take k)).length ≤ path.length := fun k => by
    have h1 := glue_take_le 47 (pieces 47 path) k
    rw [glue_pieces] at h1
    exact h1
  have HPS := hide (pieces_small 47 path)
  have hpos := pieces_pos 47 path
  have HGL := hide hgl
  unfold matchL
  obtain ⟨es, hes⟩ : ∃ es, pieces 47 path = es := ⟨_, rfl⟩
  rw [hes] at HC hec HGL HPS hpos ⊢
  obtain ⟨m, hm⟩ : ∃ m, es.length = m := ⟨_, rfl⟩
  rw [hm] at HC hec hpos
  have HM := hide hm
  clear ht hn hts hgl hes hm
  go_enter Tryz.func42, Tryz.ntmps42
  go_wp2_with (go_at_call 44; fail)
  refine (unhide HC).mono ?_
  rintro e w1 ⟨E, ce, rfl, hte, hE, b1⟩
  have HTE := hide hte
  have HEE := hide hE.1
  have HB := hide b1
  clear hte hE b1 HC
  go_wp2
  go_loopw [6, 7, 8, 9, 10] (fun v6 _ _ _ _ wr => ∃ i : Nat, i ≤ n ∧ v6 = .int .i64 i ∧ (ts.take i).any (matchF es) = false ∧ Below w1.heap.size w1 wr) (fun v6 _ _ _ _ _ => n - (intOf v6).toNat)
  case atStart => exact ⟨0, Nat.zero_le _, rfl, by simp, Below.refl _ _⟩
  case round =>
    obtain ⟨i, hin, rfl, hany, hlow⟩ := hrel
    rename World => wr
    have HA := hide hany
    have HL := hide hlow
    clear hany hlow
    by_cases hlt : i < n
    · have hit : i < ts.length := by rw [unhide HN]; exact hlt
      obtain ⟨B, O, ha, he⟩ : ∃ B O, a = some ⟨B, O, none⟩ ∧ ∀ k (hk : k < ts.length), wr.cell? ⟨B, O + k, none⟩ = some (.string (ba ts[k])) := by
        rcases (((unhide HT).low (unhide HB)).low (unhide HL)).els with h | h
        · rw [h] at hit; simp at hit
        · exact h
      subst ha
      have t0 := he i hit
      obtain ⟨x, hx⟩ : ∃ x, ts[i] = x := ⟨_, rfl⟩
      rw [hx] at t0
      have hxl : x.length ≤ 200 := (unhide HTS) x (by rw [← hx]; exact List.getElem_mem _)
      have HYES : Hid (matchF es x = true → ts.any (matchF es) = true) := hide (fun h => any_yes hit (by rw [hx]; exact h))
      have HNO : Hid (matchF es x = false → (ts.take (i + 1)).any (matchF es) = false) := hide (fun h => any_take (unhide HA) hit (by rw [hx]; exact h))
      have HX := hide (refCut_any 47 (l := x) (by omega) wr)
      have hqc : (pieces 47 x).length ≤ 1002 := by
        have h1 := pieces_length 47 x
        have h2 := Lib.count_le x [47]
        omega
      have hqp := pieces_pos 47 x
      have hdef : matchF es x = (decide ((pieces 47 x).length ≤ es.length) && matchR x (glue 47 (es.take (pieces 47 x).length))) := rfl
      obtain ⟨q, hq⟩ : ∃ q, (pieces 47 x).length = q := ⟨_, rfl⟩
      rw [hq] at HX hqc hqp hdef
      rw [unhide HM] at hdef
      clear he hx hq
      go_wp2_with (go_at_call 44; fail)
      refine (unhide HX).mono ?_
      rintro e w2 ⟨X, cx, rfl, htx, hX, b2⟩
      have t2 : w2.cell? ⟨B, O + i, none⟩ = some (.string (ba x)) := (b2.cell (p := ⟨B, O + i, none⟩) (lt_of_cell t0)).trans t0
      have HB2 := hide (low_trans (unhide HL) b2)
      clear htx hX b2 t0 HX
      by_cases hqm : m < q
      · have hqm' : (m : Int) < (q : Int) := by omega
        have HN1 := hide ((unhide HNO) (by rw [hdef, decide_eq_false (by omega)]; rfl))
        clear hdef
        go_wp2
        go_roundw
        case rel => exact ⟨i + 1, hlt, by simp, unhide HN1, unhide HB2⟩
        case measure => simp [intOf]; omega
      · have hqm' : ¬ (m : Int) < (q : Int) := by omega
        rw [decide_eq_true (by omega : q ≤ m), Bool.true_and] at hdef
        have HDEF := hide hdef
        have g0 : w2.cell? ⟨E, 0, none⟩ = some (.string (ba (glue 47 (es.take 1)))) := by
          have h0 : 0 < es.length := by rw [unhide HM]; exact hpos
          rw [glue_one h0]
          exact ((unhide HTE).low (unhide HEE) (unhide HB2)) 0 h0
        clear hdef
        go_wp2
        go_loop [8, 9] (fun v8 v9 => ∃ k : Nat, 1 ≤ k ∧ k ≤ q ∧ v9 = .int .i64 k ∧ v8 = .string (ba (glue 47 (es.take k)))) (fun _ v9 => q - (intOf v9).toNat)
        case atStart => exact ⟨1, Nat.le_refl _, by omega, rfl, rfl⟩
        case round =>
          obtain ⟨k, hk1, hkq, rfl, rfl⟩ := hrel
          by_cases hkl : k < q
          · have hke : k < es.length := by rw [unhide HM]; omega
            have g1 := ((unhide HTE).low (unhide HEE) (unhide HB2)) k hke
            have hgn := glue_next hk1 hke
            have hyl : es[k].length ≤ path.length := (unhide HPS) _ (List.getElem_mem hke)
            have hfl := (unhide HGL) k
            obtain ⟨y, hy⟩ : ∃ y, es[k] = y := ⟨_, rfl⟩
            rw [hy] at g1 hgn hyl
            obtain ⟨fr, hfr⟩ : ∃ fr, glue 47 (es.take k) = fr := ⟨_, rfl⟩
            rw [hfr] at hgn hfl ⊢
            have HGN := hide hgn
            have sf := ba_size fr
            have sy := ba_size y
            have s3 : (ba (fr ++ [47])).size = fr.length + 1 := by rw [ba_size]; simp
            have j1 : ba fr ++ ⟨#[47]⟩ = ba (fr ++ [47]) := ba_app fr [47]
            have j2 : ba (fr ++ [47]) ++ ba y = ba (fr ++ 47 :: y) := by rw [ba_app]; simp
            clear hgn hy hfr
            go_wp2
            go_round
            case rel => exact ⟨k + 1, by omega, hkl, by simp, by rw [unhide HGN]⟩
            case measure => simp [intOf]; omega
          · have hkq' : k = q := by omega
            subst hkq'
            have hfl := (unhide HGL) k
            have HG := hide (refGlob_any (p := x) (s := glue 47 (es.take k)) (by omega) (by omega) w2)
            rw [← unhide HDEF] at HG
            cases hmx : matchF es x with
            | true =>
              rw [hmx] at HG
              have HV := hide ((unhide HYES) hmx)
              clear hmx
              go_wp2_with (go_at_call 40; fail)
              refine (unhide HG).mono ?_
              rintro e w3 ⟨rfl, b3⟩
              have HB3 := hide (low_trans (unhide HB) (low_trans (unhide HB2) b3))
              clear b3
              go_wp2
              go_ret
              exact ⟨ret_bool (unhide HV).symm, unhide HB3⟩
            | false =>
              rw [hmx] at HG
              have HV := hide ((unhide HNO) hmx)
              clear hmx
              go_wp2_with (go_at_call 40; fail)
              refine (unhide HG).mono ?_
              rintro e w3 ⟨rfl, b3⟩
              have HB3 := hide (low_trans (unhide HB2) b3)
              clear b3
              go_wp2
              go_roundw
              case rel => exact ⟨i + 1, hlt, by simp, unhide HV, unhide HB3⟩
              case measure => simp [intOf]; omega
    · have hkn : ts.take i = ts := List.take_of_length_le (by rw [unhide HN]; omega)
      rw [hkn] at HA
      clear hkn
      go_wp2
      go_ret
      exact ⟨ret_bool (unhide HA).symm, low_trans (unhide HB) (unhide HL)⟩

end Go.Proofs.YthcafeoamabkgaaGreatDoor
