/-
  The contracts of looksMajor and SplitMajor.
-/
import Derived.Test.YthcafeoamabkgaaGreatDoorCmpX
namespace Go.Proofs.YthcafeoamabkgaaGreatDoor
open Go.RowKit

theorem every_is {n : Nat} {p : UInt8 → Bool} {b : Bool} {l : Str} (hp : l.all p = b) (h : Asks n p) (hen : ∀ args w, (callFunc n args).run Tryz.prog w = .ok (.enter n args) w) (hl : l.length ≤ 4294967281) (w : World) :
    Calls Tryz.prog 213 #[.string (ba l), .func (.func n) #[] #[]] w fun e w' => e = .returned (.bool b) ∧ w' = w := by rw [← hp]; exact every_any h hen l hl w
theorem asks_is {n : Nat} {p : UInt8 → Bool} {b : Bool} {c : UInt8} (hp : p c = b) (h : Asks n p) (w : World) : Calls Tryz.prog n #[.int .u8 (c.toNat : Int)] w fun e w' => e = .returned (.bool b) ∧ w' = w := by rw [← hp]; exact h c w

theorem slash_none {p : Str} (h : splitLast 47 p = none) (hl : p.length < 4294967281) (w : World) : Calls Tryz.prog 214 #[.string (ba p), .int .u8 47] w fun e w' => e = .returned (.int .i64 (-1)) ∧ w' = w := by
  have := Tryz.strings_LastIndexByte (ba p) ((47 : UInt8).toNat : Int) (by rw [ba_size]; omega) w
  rw [lastIx_eq, h] at this
  exact this
theorem slash_some {p f t : Str} (h : splitLast 47 p = some (f, t)) (hl : p.length < 4294967281) (w : World) : Calls Tryz.prog 214 #[.string (ba p), .int .u8 47] w fun e w' => e = .returned (.int .i64 (f.length : Int)) ∧ w' = w := by
  have := Tryz.strings_LastIndexByte (ba p) ((47 : UInt8).toNat : Int) (by rw [ba_size]; omega) w
  rw [lastIx_eq, h] at this
  exact this
theorem cutV_any (p : Str) (c : UInt8) (w : World) : Calls Tryz.prog 65 #[.string (ba p), .string (ba [c])] w fun e w' => e = .returned (.tuple #[.string (ba (Lib.trimPrefix p [c])), .bool (Lib.hasPrefix p [c])]) ∧ w' = w := Tryz.strings_CutPrefix (ba p) (ba [c]) w

theorem drop_from (f t : Str) (c : UInt8) : (ba (f ++ c :: t)).extract (f.length + 1) (f ++ c :: t).length = ba t := by
  rw [Lib.extract_eq, ba_data]
  have : (f ++ c :: t).drop (f.length + 1) = t := by rw [List.drop_append]; simp
  rw [this, List.take_of_length_le (by simp; omega)]; rfl
theorem take_to (f t : Str) (c : UInt8) : (ba (f ++ c :: t)).extract 0 f.length = ba f := by
  rw [Lib.extract_eq, ba_data]
  simp [ba]
theorem whole_of (p : Str) : (ba p).extract 0 p.length = ba p := by
  rw [Lib.extract_eq, ba_data]
  simp [ba]

theorem looks_any {p : Str} (hl : p.length < 4294967281) (w : World) : Calls Tryz.prog 170 #[.string (ba p)] w fun e w' => e = .returned (.bool (looksB p)) ∧ w' = w := by
  have hsz : (ba p).size = p.length := ba_size p
  cases hs : splitLast 47 p with
  | none =>
    have HV : Hid (looksB p = false) := by show looksB p = false; unfold looksB; rw [hs]
    have HS := hide hs
    have hr := whole_of p
    clear hs
    go_enter Tryz.func170, Tryz.ntmps170
    go_wp2_with (first | (go_at_call 214; refine (slash_none (unhide HS) hl _).mono ?_; rintro e w1 ⟨rfl, hw⟩; rw [hw]; clear hw w1) | (go_at_call 65; refine (cutV_any p 118 _).mono ?_; rintro e w1 ⟨rfl, hw⟩; rw [hw]; clear hw w1))
    go_ret
    exact ⟨ret_bool (unhide HV).symm, rfl⟩
  | some x =>
    obtain ⟨f, t⟩ := x
    obtain ⟨e, _⟩ := splitLast_some.1 hs
    have HE := hide e
    have hle : f.length + 1 ≤ p.length := by rw [e]; simp
    have hlt : t.length ≤ p.length := by rw [e]; simp; omega
    have hr : (ba p).extract (f.length + 1) p.length = ba t := by rw [e]; exact drop_from f t 47
    have HS := hide hs
    clear hs e
    cases hp : Lib.hasPrefix t [118] with
    | false =>
      have HV : Hid (looksB p = false) := by show looksB p = false; unfold looksB; rw [unhide HS]; simp [hp]
      have HP := hide hp
      clear hp
      go_enter Tryz.func170, Tryz.ntmps170
      go_wp2_with (first | (go_at_call 214; refine (slash_some (unhide HS) hl _).mono ?_; rintro e w1 ⟨rfl, hw⟩; rw [hw]; clear hw w1) | (go_at_call 65; refine (cutV_any t 118 _).mono ?_; rintro e w1 ⟨rfl, hw⟩; rw [hw, unhide HP]; clear hw w1))
      go_ret
      exact ⟨ret_bool (unhide HV).symm, rfl⟩
    | true =>
      obtain ⟨u, hu⟩ : ∃ u, u = t.drop 1 := ⟨_, rfl⟩
      have HV : Hid (looksB p = digitsB u) := by show looksB p = _; unfold looksB; rw [unhide HS, hu]; simp [hp]
      have HP := hide hp
      have HT : Hid (Lib.trimPrefix t [118] = u) := by show Lib.trimPrefix t [118] = _; unfold Lib.trimPrefix; rw [hp, hu]; rfl
      have hul : u.length ≤ t.length := by rw [hu]; simp
      clear hp hu
      go_enter Tryz.func170, Tryz.ntmps170
      go_wp2_with (first | (go_at_call 214; refine (slash_some (unhide HS) hl _).mono ?_; rintro e w1 ⟨rfl, hw⟩; rw [hw]; clear hw w1) | (go_at_call 65; refine (cutV_any t 118 _).mono ?_; rintro e w1 ⟨rfl, hw⟩; rw [hw, unhide HP, unhide HT]; clear hw w1) | (go_at_call 216; refine (digits_any u (by omega) _).mono ?_; rintro e w1 ⟨rfl, hw⟩; rw [hw]; clear hw w1))
      go_ret
      exact ⟨ret_bool (unhide HV).symm, rfl⟩

theorem looks_is {p : Str} {b : Bool} (h : looksB p = b) (hl : p.length < 4294967281) (w : World) : Calls Tryz.prog 170 #[.string (ba p)] w fun e w' => e = .returned (.bool b) ∧ w' = w := by rw [← h]; exact looks_any hl w

theorem tail_at (f u : Str) : (ba (f ++ 47 :: 118 :: u)).extract (f.length + 2) (f ++ 47 :: 118 :: u).length = ba u := by
  have e : f ++ 47 :: 118 :: u = (f ++ [47]) ++ 118 :: u := by simp
  have := drop_from (f ++ [47]) u 118
  rw [← e] at this
  simpa using this

set_option maxHeartbeats 1000000 in
theorem major_any {p : Str} (hl : p.length < 4294967281) (w : World) : Gives 169 #[.string (ba p)] w (.tuple #[.string (ba (majorR p).1), .int .i64 ((majorR p).2 : Int)]) := by
  unfold Gives
  have hsz : (ba p).size = p.length := ba_size p
  cases hk : looksB p with
  | false =>
    have HV : Hid (majorR p = (p, 0)) := by show majorR p = _; unfold majorR; rw [hk]; rfl
    have HK := hide hk
    clear hk
    rw [unhide HV]
    go_enter Tryz.func169, Tryz.ntmps169
    go_wp2_with (go_at_call 170; refine (looks_is (unhide HK) hl _).mono ?_; rintro e w1 ⟨rfl, hw⟩; rw [hw]; clear hw w1)
    go_ret2
    exact ⟨rfl, Bel.refl _ _⟩
  | true =>
    have hk' := hk
    unfold looksB at hk'
    cases hs : splitLast 47 p with
    | none => rw [hs] at hk'; cases hk'
    | some x =>
      obtain ⟨f, t⟩ := x
      rw [hs] at hk'
      simp only [Bool.and_eq_true] at hk'
      obtain ⟨u, hu⟩ : ∃ u, u = t.drop 1 := ⟨_, rfl⟩
      have et : t = 118 :: u := by
        rw [hu]
        cases t with
        | nil => simp [Lib.hasPrefix] at hk'
        | cons b l => simp [Lib.hasPrefix, List.isPrefixOf] at hk'; simp [hk'.1]
      obtain ⟨e, _⟩ := splitLast_some.1 hs
      have hr : (ba p).extract (f.length + 2) p.length = ba u := by rw [e, et]; exact tail_at f u
      have hr2 : (ba p).extract 0 f.length = ba f := by rw [e]; exact take_to f t 47
      have hle : f.length + 2 ≤ p.length := by rw [e, et]; simp
      have hul : u.length ≤ p.length := by rw [e, et]; simp; omega
      have HS := hide hs
      have HK := hide hk
      cases hn : numOk u with
      | false =>
        have HV : Hid (majorR p = (p, 0)) := by show majorR p = _; unfold majorR; rw [hk, hs]; simp only [if_true]; rw [← hu]; simp [hn]
        have HN := hide hn
        clear hk hk' hs e et hu hn
        rw [unhide HV]
        go_enter Tryz.func169, Tryz.ntmps169
        go_wp2_with (first | (go_at_call 170; refine (looks_is (unhide HK) hl _).mono ?_; rintro e w1 ⟨rfl, hw⟩; rw [hw]; clear hw w1) | (go_at_call 214; refine (slash_some (unhide HS) hl _).mono ?_; rintro e w1 ⟨rfl, hw⟩; rw [hw]; clear hw w1) | (go_at_call 215; refine (number_no (by omega) (unhide HN) _).mono ?_))
        rintro e w2 ⟨rfl, b2⟩
        go_wp2
        go_ret2
        exact ⟨rfl, b2⟩
      | true =>
        by_cases h2 : 2 ≤ numVal u
        · have HV : Hid (majorR p = (f, numVal u)) := by show majorR p = _; unfold majorR; rw [hk, hs]; simp only [if_true]; rw [← hu]; simp [hn, h2]
          have HN := hide hn
          have hq : ¬ (numVal u : Int) < 2 := by omega
          clear hk hk' hs e et hu hn
          rw [unhide HV]
          go_enter Tryz.func169, Tryz.ntmps169
          go_wp2_with (first | (go_at_call 170; refine (looks_is (unhide HK) hl _).mono ?_; rintro e w1 ⟨rfl, hw⟩; rw [hw]; clear hw w1) | (go_at_call 214; refine (slash_some (unhide HS) hl _).mono ?_; rintro e w1 ⟨rfl, hw⟩; rw [hw]; clear hw w1) | (go_at_call 215; refine (number_ok (unhide HN) _).mono ?_))
          rintro e w2 ⟨rfl, b2⟩
          go_wp2
          go_ret2
          exact ⟨rfl, b2⟩
        · have HV : Hid (majorR p = (p, 0)) := by show majorR p = _; unfold majorR; rw [hk, hs]; simp only [if_true]; rw [← hu]; simp [h2]
          have HN := hide hn
          have hq : (numVal u : Int) < 2 := by omega
          clear hk hk' hs e et hu hn
          rw [unhide HV]
          go_enter Tryz.func169, Tryz.ntmps169
          go_wp2_with (first | (go_at_call 170; refine (looks_is (unhide HK) hl _).mono ?_; rintro e w1 ⟨rfl, hw⟩; rw [hw]; clear hw w1) | (go_at_call 214; refine (slash_some (unhide HS) hl _).mono ?_; rintro e w1 ⟨rfl, hw⟩; rw [hw]; clear hw w1) | (go_at_call 215; refine (number_ok (unhide HN) _).mono ?_))
          rintro e w2 ⟨rfl, b2⟩
          go_wp2
          go_ret2
          exact ⟨rfl, b2⟩

end Go.Proofs.YthcafeoamabkgaaGreatDoor
