/-
  The reference's Escape and Unescape; ModEscapes: escapes of any text.
-/
import Derived.Test.YtcmafidnaojkiaaGreatDoorBack
import Derived.Lib.SlBytesRow
import Derived.Lib.BufferRead
namespace Go.Proofs.YtcmafidnaojkiaaGreatDoor
open Go.RowKit

theorem refUpper_asks : Asks 91 upperB := by
  intro c w
  go_enter Tryz.func91, Tryz.ntmps91
  go_wp2
  all_goals
    go_ret
    refine ⟨ret_bool ?_, rfl⟩
    rw [Bool.eq_iff_iff]
    first | (simp_all [upperB]; done) | (simp_all [upperB]; omega)
theorem refLower_asks : Asks 94 lowerB := by
  intro c w
  go_enter Tryz.func94, Tryz.ntmps94
  go_wp2
  all_goals
    go_ret
    refine ⟨ret_bool ?_, rfl⟩
    rw [Bool.eq_iff_iff]
    first | (simp_all [lowerB]; done) | (simp_all [lowerB]; omega)

/-- A row of bytes of the call's own, as a string. -/
theorem conv_row {w : World} {N : Nat} {v : Value} {l : Str} (h : w.ownsRow N 5 1 v l.length (Lib.byteCells l)) : (convert 83 9 v).run Tryz.prog w = .ok (.string (ba l)) w := by
  rcases h.2 with ⟨rfl, h0⟩ | ⟨g, cap, cur, rfl, _, hb, _, _, _, ht⟩
  · have e : l = [] := List.length_eq_zero_iff.1 h0
    subst e
    exact Lib.run_convert_nil_bytes w 83 9 5 0 Tryz.underlying83 Tryz.underlying5 Tryz.underlying9
  · have hc : Lib.Bytes w g 0 (ba l) := by
      intro i hi
      rw [ba_size] at hi
      rw [Nat.zero_add, Lib.cell_of_heap hb, ba_get l i hi]
      have h1 : cur.toList[i]? = (Lib.byteCells l)[i]? := by rw [← ht, List.getElem?_take_of_lt (by omega)]
      have h2 : cur[i]? = cur.toList[i]? := by simp
      rw [h2, h1]
      simp [Lib.byteCells, hi]
    have := Lib.run_convert_whole (P := Tryz.prog) w 83 5 9 Tryz.underlying83 Tryz.underlying5 Tryz.underlying9 g 0 (ba l) hc cap
    rw [ba_size] at this
    exact this

theorem plain_not {c : UInt8} (h : plainB c = true) : ¬ (c.toNat : Int) = 33 ∧ (c.toNat : Int) < 128 := by
  simp only [plainB, asciiB, Bool.and_eq_true, Bool.not_eq_true', decide_eq_true_eq, decide_eq_false_iff_not] at h
  omega
theorem plain_no {c : UInt8} (h : plainB c = false) : (c.toNat : Int) = 33 ∨ 128 ≤ (c.toNat : Int) := by
  simp only [plainB, asciiB, Bool.and_eq_false_iff, Bool.not_eq_false', decide_eq_true_eq, decide_eq_false_iff_not] at h
  omega
theorem all_no8 {p : UInt8 → Bool} {ps : Str} {k : Nat} (hk : k < ps.length) (hp : p ps[k] = false) : ps.all p = false := by
  rw [List.all_eq_false]
  exact ⟨ps[k], List.getElem_mem hk, by rw [hp]; decide⟩
theorem all_take8 {p : UInt8 → Bool} {ps : Str} {k : Nat} (h : (ps.take k).all p = true) (hk : k < ps.length) (hp : p ps[k] = true) : (ps.take (k + 1)).all p = true := by
  rw [List.take_add_one, List.all_append, h, List.getElem?_eq_getElem hk]
  simp [hp]

/-- What an Escape answers. -/
def escV (r : Str × Nat) : Value := .tuple #[.string (ba r.1), .int .i64 (r.2 : Int)]
theorem escV_no {l : Str} (h : l.all plainB = false) : escV (escR l) = .tuple #[.string ⟨#[]⟩, .int .i64 15] := by rw [escR_no h]; rfl
theorem escV_yes {l : Str} (h : l.all plainB = true) : escV (escR l) = .tuple #[.string (ba (escL l)), .int .i64 0] := by rw [escR_yes h]; rfl

set_option maxHeartbeats 2000000 in
set_option maxRecDepth 100000 in
theorem refEsc_any {l : Str} (hl : l.length ≤ 4294967281) (w : World) : Gives 40 #[.string (ba l)] w (escV (escR l)) := by
  unfold Gives
  obtain ⟨i0, hi, hz0, hz1, hz2⟩ := info_parts info5
  have hsz : (ba l).size = l.length := ba_size l
  go_enter Tryz.func40, Tryz.ntmps40
  go_wp2
  go_loopw [4, 5] (fun v i wr => ∃ k : Nat, k ≤ l.length ∧ i = .int .i64 k ∧ (l.take k).all plainB = true ∧ wr.ownsRow w.heap.size 5 1 v (escL (l.take k)).length (Lib.byteCells (escL (l.take k))) ∧ Below w.heap.size w wr) (fun _ i _ => l.length - (intOf i).toNat)
  case atStart => exact ⟨0, Nat.zero_le _, rfl, rfl, ⟨rfl, Or.inl ⟨rfl, rfl⟩⟩, Below.refl _ _⟩
  case round =>
    obtain ⟨k, hk, rfl, hall, hown, hb⟩ := hrel
    have hle := escL_length (l.take k)
    have hlk : (escL (l.take k)).length ≤ 2 * k := by simp at hle; omega
    have hbs := hb.size
    have HA := hide hall
    have HO := hide hown
    have HB := hide hb
    clear hall hown hb hle
    by_cases hlt : k < l.length
    · have hg := ba_get l k hlt
      cases hp : plainB l[k] with
      | false =>
        have HV := hide (escV_no (all_no8 hlt hp))
        rcases plain_no hp with h33 | h128
        · go_wp2
          go_ret2
          exact ⟨retv (by rw [unhide HV]; rfl), unhide HB⟩
        · by_cases h33 : (l[k].toNat : Int) = 33
          · go_wp2
            go_ret2
            exact ⟨retv (by rw [unhide HV]; rfl), unhide HB⟩
          · go_wp2
            go_ret2
            exact ⟨retv (by rw [unhide HV]; rfl), unhide HB⟩
      | true =>
        obtain ⟨h33, h128⟩ := plain_not hp
        have q1 : ((l[k].toNat : Int) == 33) = false := by simpa using h33
        have q2 : decide (128 ≤ (l[k].toNat : Int)) = false := by simpa using h128
        clear h33 h128
        have HA' := hide (all_take8 (unhide HA) hlt hp)
        cases hu : upperB l[k] with
        | false =>
          have HE : Hid (Lib.byteCells (escL (l.take (k + 1))) = Lib.byteCells (escL (l.take k)) ++ [.int .u8 (l[k].toNat : Int)] ∧ (escL (l.take (k + 1))).length = (escL (l.take k)).length + 1) := by
            show _ ∧ _
            rw [escL_take hlt, cells_add, escC, hu]; simp [Lib.byteCells]
          have HU := hide hu
          clear hu hp HA
          go_wp2_with (first | (go_at_call 91; refine (asks_is (unhide HU) refUpper_asks _).mono ?_; rintro e w1 ⟨rfl, hw⟩; rw [hw]; clear hw w1) | (at_builtin; refine wpList_append_own _ rfl _ _ 83 rfl w.heap.size 5 i0 (.int .u8 0) 1 1 Tryz.underlying83 hi hz0 hz1 hz2 rfl (by decide) _ _ _ rfl ((unhide HO).alloc _) ⟨wr.heap.size, 0, none⟩ 1 1 [.int .u8 (l[k].toNat : Int)] rfl rfl ?cells ?kind ?room ?len ?base ?_))
          case cells =>
            intro j u hj
            match j, hj with
            | 0, hj => simp at hj; subst hj; simp [Addr.add]
          case kind => intro u hu; simp at hu; subst hu; rfl
          case room => unfold maxLen; omega
          case len => omega
          case base => simp; omega
          intro v' w2 hown' hgrow _
          have bg := hide (((unhide HB).alloc (by omega) _).grown hgrow (by simp; omega) (fun j hj => ((unhide HO).lt j hj).1))
          have HO2 := hide hown'
          clear hown' hgrow HO HB
          go_wp2
          go_roundw
          case rel => exact ⟨k + 1, hlt, by simp, unhide HA', by rw [(unhide HE).1, (unhide HE).2]; exact unhide HO2, unhide bg⟩
          case measure => simp [intOf]; omega
        | true =>
          have HE : Hid (Lib.byteCells (escL (l.take (k + 1))) = Lib.byteCells (escL (l.take k)) ++ [.int .u8 33, .int .u8 ((l[k].toNat : Int) + 32)] ∧ (escL (l.take (k + 1))).length = (escL (l.take k)).length + 2) := by
            show _ ∧ _
            have h1 := (upper_lower hu).1
            have h2 : ((UInt8.ofNat (l[k].toNat + 32)).toNat : Int) = (l[k].toNat : Int) + 32 := by omega
            rw [escL_take hlt, cells_add, escC, hu, ← h2]; simp [Lib.byteCells]
          have hub : (l[k].toNat : Int) + 32 < 256 := by
            simp only [upperB, Bool.and_eq_true, decide_eq_true_eq] at hu; omega
          have HU := hide hu
          clear hu hp HA
          go_wp2_with (first | (go_at_call 91; refine (asks_is (unhide HU) refUpper_asks _).mono ?_; rintro e w1 ⟨rfl, hw⟩; rw [hw]; clear hw w1) | (at_builtin; refine wpList_append_own _ rfl _ _ 83 rfl w.heap.size 5 i0 (.int .u8 0) 1 1 Tryz.underlying83 hi hz0 hz1 hz2 rfl (by decide) _ _ _ rfl ((unhide HO).alloc _) ⟨wr.heap.size, 0, none⟩ 2 2 [.int .u8 33, .int .u8 ((l[k].toNat : Int) + 32)] rfl rfl ?cells ?kind ?room ?len ?base ?_))
          case cells =>
            intro j u hj
            match j, hj with
            | 0, hj => simp at hj; subst hj; simp [Addr.add]
            | 1, hj => simp at hj; subst hj; simp [Addr.add]
          case kind => intro u hu; simp at hu; rcases hu with rfl | rfl <;> rfl
          case room => unfold maxLen; omega
          case len => omega
          case base => simp; omega
          intro v' w2 hown' hgrow _
          have bg := hide (((unhide HB).alloc (by omega) _).grown hgrow (by simp; omega) (fun j hj => ((unhide HO).lt j hj).1))
          have HO2 := hide hown'
          clear hown' hgrow HO HB
          go_wp2
          go_roundw
          case rel => exact ⟨k + 1, hlt, by simp, unhide HA', by rw [(unhide HE).1, (unhide HE).2]; exact unhide HO2, unhide bg⟩
          case measure => simp [intOf]; omega
    · have hke : k = l.length := by omega
      subst hke
      have HV : Hid (escV (escR l) = .tuple #[.string (ba (escL l)), .int .i64 0]) := by
        have := unhide HA
        rw [List.take_length] at this
        exact escV_yes this
      have hcv : (convert 83 9 u4).run Tryz.prog wr = .ok (.string (ba (escL l))) wr := by
        have := unhide HO
        rw [List.take_length] at this
        exact conv_row this
      clear HA HO
      go_wp2
      go_ret2
      exact ⟨retv (by rw [unhide HV]; rfl), unhide HB⟩

theorem unescV_none {l : Str} (h : unescL l = none) : escV (unescR l) = .tuple #[.string ⟨#[]⟩, .int .i64 15] := by
  unfold unescR; rw [h]; split <;> rfl
theorem unescV_bad {l : Str} (h : l.all escapedB = false) : escV (unescR l) = .tuple #[.string ⟨#[]⟩, .int .i64 15] := by
  unfold unescR; rw [h]; rfl
theorem unescV_ok {l r : Str} (h : l.all escapedB = true) (hr : unescL l = some r) : escV (unescR l) = .tuple #[.string (ba r), .int .i64 0] := by
  unfold unescR; rw [h, hr]; rfl
theorem escaped_not {c : UInt8} (h : escapedB c = true) : upperB c = false ∧ (c.toNat : Int) < 128 := by
  simp only [escapedB, asciiB, Bool.and_eq_true, Bool.not_eq_true', decide_eq_true_eq] at h
  exact ⟨h.2, by omega⟩
theorem escaped_no {c : UInt8} (h : escapedB c = false) (hu : upperB c = false) : 128 ≤ (c.toNat : Int) := by
  simp only [escapedB, asciiB, hu, Bool.not_false, Bool.and_true, decide_eq_false_iff_not] at h
  omega
theorem lower_escaped {c : UInt8} (h : lowerB c = true) : escapedB c = true := by
  simp only [lowerB, Bool.and_eq_true, decide_eq_true_eq] at h
  simp only [escapedB, asciiB, upperB, Bool.and_eq_true, decide_eq_true_eq, Bool.not_eq_true', Bool.and_eq_false_iff, decide_eq_false_iff_not]
  omega

set_option maxHeartbeats 2000000 in
set_option maxRecDepth 100000 in
theorem refUnesc_any {l : Str} (hl : l.length ≤ 4294967281) (w : World) : Gives 42 #[.string (ba l)] w (escV (unescR l)) := by
  unfold Gives
  obtain ⟨i0, hi, hz0, hz1, hz2⟩ := info_parts info5
  have hsz : (ba l).size = l.length := ba_size l
  go_enter Tryz.func42, Tryz.ntmps42
  go_wp2
  go_loopw [4, 5] (fun v i wr => ∃ (k : Nat) (r : Str), k ≤ l.length ∧ i = .int .i64 k ∧ r.length ≤ k ∧ (l.take k).all escapedB = true ∧ unescL l = (unescL (l.drop k)).map (fun t => r ++ t) ∧ wr.ownsRow w.heap.size 5 1 v r.length (Lib.byteCells r) ∧ Below w.heap.size w wr) (fun _ i _ => l.length - (intOf i).toNat)
  case atStart => exact ⟨0, [], Nat.zero_le _, rfl, Nat.le_refl _, rfl, by rw [List.drop_zero]; cases unescL l <;> rfl, ⟨rfl, Or.inl ⟨rfl, rfl⟩⟩, Below.refl _ _⟩
  case round =>
    obtain ⟨k, r, hk, rfl, hrl, hall, hun, hown, hb⟩ := hrel
    have hbs := hb.size
    have HA := hide hall
    have HUN := hide hun
    have HO := hide hown
    have HB := hide hb
    clear hall hown hb hun
    by_cases hlt : k < l.length
    · have hg := ba_get l k hlt
      have hst := unesc_at l hlt
      cases hp : escapedB l[k] with
      | false =>
        have HV := hide (unescV_bad (all_no8 hlt hp))
        cases hu : upperB l[k] with
        | true =>
          have HU := hide hu
          clear hu hp hst
          go_wp2_with (go_at_call 91; refine (asks_is (unhide HU) refUpper_asks _).mono ?_; rintro e w1 ⟨rfl, hw⟩; rw [hw]; clear hw w1)
          go_ret2
          exact ⟨retv (by rw [unhide HV]; rfl), unhide HB⟩
        | false =>
          have q2 : decide (128 ≤ (l[k].toNat : Int)) = true := by simpa using escaped_no hp hu
          have HU := hide hu
          clear hu hp hst
          go_wp2_with (go_at_call 91; refine (asks_is (unhide HU) refUpper_asks _).mono ?_; rintro e w1 ⟨rfl, hw⟩; rw [hw]; clear hw w1)
          go_ret2
          exact ⟨retv (by rw [unhide HV]; rfl), unhide HB⟩
      | true =>
        obtain ⟨hu, h128⟩ := escaped_not hp
        have q2 : decide (128 ≤ (l[k].toNat : Int)) = false := by simpa using h128
        have HU := hide hu
        have HA' := hide (all_take8 (unhide HA) hlt hp)
        clear hu h128 hp HA
        by_cases hc : l[k] = 33
        · rw [if_pos hc] at hst
          have q33 : ((l[k].toNat : Int) != 33) = false := by rw [hc]; rfl
          by_cases h1 : k + 1 < l.length
          · rw [dif_pos h1] at hst
            have hg1 := ba_get l (k + 1) h1
            have hnq : decide ((l.length : Int) ≤ (k : Int) + 1) = false := by simp; omega
            cases hlo : lowerB l[k + 1] with
            | false =>
              rw [hlo] at hst
              have HV : Hid (escV (unescR l) = .tuple #[.string ⟨#[]⟩, .int .i64 15]) := unescV_none (by rw [unhide HUN, hst]; rfl)
              have HLO := hide hlo
              clear hlo hst hc
              go_wp2_with (first | (go_at_call 91; refine (asks_is (unhide HU) refUpper_asks _).mono ?_; rintro e w1 ⟨rfl, hw⟩; rw [hw]; clear hw w1) | (go_at_call 94; refine (asks_is (unhide HLO) refLower_asks _).mono ?_; rintro e w1 ⟨rfl, hw⟩; rw [hw]; clear hw w1))
              go_ret2
              exact ⟨retv (by rw [unhide HV]; rfl), unhide HB⟩
            | true =>
              rw [hlo, if_pos rfl] at hst
              have hlb : 32 ≤ (l[k + 1].toNat : Int) ∧ (l[k + 1].toNat : Int) < 256 := by
                simp only [lowerB, Bool.and_eq_true, decide_eq_true_eq] at hlo; omega
              have HR : Hid (unescL l = (unescL (l.drop (k + 2))).map (fun t => (r ++ [UInt8.ofNat (l[k + 1].toNat - 32)]) ++ t)) := by
                show unescL l = _
                rw [unhide HUN, hst]
                cases unescL (l.drop (k + 2)) <;> simp
              have HE : Hid (Lib.byteCells (r ++ [UInt8.ofNat (l[k + 1].toNat - 32)]) = Lib.byteCells r ++ [.int .u8 ((l[k + 1].toNat : Int) - 32)] ∧ (r ++ [UInt8.ofNat (l[k + 1].toNat - 32)]).length = r.length + 1) := by
                show _ ∧ _
                have h2 : ((UInt8.ofNat (l[k + 1].toNat - 32)).toNat : Int) = (l[k + 1].toNat : Int) - 32 := by
                  simp; omega
                rw [cells_add, ← h2]; simp [Lib.byteCells]
              have HA2 := hide (all_take8 (unhide HA') h1 (lower_escaped hlo))
              have HLO := hide hlo
              clear hlo hst hc
              go_wp2_with (first | (go_at_call 91; refine (asks_is (unhide HU) refUpper_asks _).mono ?_; rintro e w1 ⟨rfl, hw⟩; rw [hw]; clear hw w1) | (go_at_call 94; refine (asks_is (unhide HLO) refLower_asks _).mono ?_; rintro e w1 ⟨rfl, hw⟩; rw [hw]; clear hw w1) | (at_builtin; refine wpList_append_own _ rfl _ _ 83 rfl w.heap.size 5 i0 (.int .u8 0) 1 1 Tryz.underlying83 hi hz0 hz1 hz2 rfl (by decide) _ _ _ rfl ((unhide HO).alloc _) ⟨wr.heap.size, 0, none⟩ 1 1 [.int .u8 ((l[k + 1].toNat : Int) - 32)] rfl rfl ?cells ?kind ?room ?len ?base ?_))
              case cells =>
                intro j u hj
                match j, hj with
                | 0, hj => simp at hj; subst hj; simp [Addr.add]
              case kind => intro u hu; simp at hu; subst hu; rfl
              case room => unfold maxLen; omega
              case len => omega
              case base => simp; omega
              intro v' w2 hown' hgrow _
              have bg := hide (((unhide HB).alloc (by omega) _).grown hgrow (by simp; omega) (fun j hj => ((unhide HO).lt j hj).1))
              have HO2 := hide hown'
              clear hown' hgrow HO HB
              go_wp2
              go_roundw
              case rel => exact ⟨k + 2, r ++ [UInt8.ofNat (l[k + 1].toNat - 32)], by omega, by simp; omega, by simp; omega, unhide HA2, unhide HR, by rw [(unhide HE).1, (unhide HE).2]; exact unhide HO2, unhide bg⟩
              case measure => simp [intOf]; omega
          · rw [dif_neg h1] at hst
            have hnq : decide ((l.length : Int) ≤ (k : Int) + 1) = true := by simp; omega
            have HV : Hid (escV (unescR l) = .tuple #[.string ⟨#[]⟩, .int .i64 15]) := unescV_none (by rw [unhide HUN, hst]; rfl)
            clear hst hc
            go_wp2_with (go_at_call 91; refine (asks_is (unhide HU) refUpper_asks _).mono ?_; rintro e w1 ⟨rfl, hw⟩; rw [hw]; clear hw w1)
            go_ret2
            exact ⟨retv (by rw [unhide HV]; rfl), unhide HB⟩
        · rw [if_neg hc] at hst
          have q33 : ((l[k].toNat : Int) != 33) = true := by
            simp only [bne_iff_ne]
            intro e
            exact hc (by apply UInt8.toNat_inj.1; have : (33 : UInt8).toNat = 33 := rfl; omega)
          have HR : Hid (unescL l = (unescL (l.drop (k + 1))).map (fun t => (r ++ [l[k]]) ++ t)) := by
            show unescL l = _
            rw [unhide HUN, hst]
            cases unescL (l.drop (k + 1)) <;> simp
          have HE : Hid (Lib.byteCells (r ++ [l[k]]) = Lib.byteCells r ++ [.int .u8 (l[k].toNat : Int)] ∧ (r ++ [l[k]]).length = r.length + 1) := by
            show _ ∧ _
            rw [cells_add]; simp [Lib.byteCells]
          clear hst hc
          go_wp2_with (first | (go_at_call 91; refine (asks_is (unhide HU) refUpper_asks _).mono ?_; rintro e w1 ⟨rfl, hw⟩; rw [hw]; clear hw w1) | (at_builtin; refine wpList_append_own _ rfl _ _ 83 rfl w.heap.size 5 i0 (.int .u8 0) 1 1 Tryz.underlying83 hi hz0 hz1 hz2 rfl (by decide) _ _ _ rfl ((unhide HO).alloc _) ⟨wr.heap.size, 0, none⟩ 1 1 [.int .u8 (l[k].toNat : Int)] rfl rfl ?cells ?kind ?room ?len ?base ?_))
          case cells =>
            intro j u hj
            match j, hj with
            | 0, hj => simp at hj; subst hj; simp [Addr.add]
          case kind => intro u hu; simp at hu; subst hu; rfl
          case room => unfold maxLen; omega
          case len => omega
          case base => simp; omega
          intro v' w2 hown' hgrow _
          have bg := hide (((unhide HB).alloc (by omega) _).grown hgrow (by simp; omega) (fun j hj => ((unhide HO).lt j hj).1))
          have HO2 := hide hown'
          clear hown' hgrow HO HB
          go_wp2
          go_roundw
          case rel => exact ⟨k + 1, r ++ [l[k]], hlt, by simp, by simp; omega, unhide HA', unhide HR, by rw [(unhide HE).1, (unhide HE).2]; exact unhide HO2, unhide bg⟩
          case measure => simp [intOf]; omega
    · have hke : k = l.length := by omega
      subst hke
      have HV : Hid (escV (unescR l) = .tuple #[.string (ba r), .int .i64 0]) := by
        have h1 := unhide HA
        rw [List.take_length] at h1
        refine unescV_ok h1 ?_
        rw [unhide HUN, List.drop_length]
        simp [unescL]
      have hcv : (convert 83 9 u4).run Tryz.prog wr = .ok (.string (ba r)) wr := conv_row (unhide HO)
      clear HA HO
      go_wp2
      go_ret2
      exact ⟨retv (by rw [unhide HV]; rfl), unhide HB⟩

end Go.Proofs.YtcmafidnaojkiaaGreatDoor
