/-
  Matches, Check, CheckImport.
-/
import Derived.Test.YthcafeoamabkgaaGreatDoorCmpX
import Derived.Test.YthcafeoamabkgaaGreatDoorVersX
namespace Go.Proofs.YthcafeoamabkgaaGreatDoor
open Go.RowKit

theorem every_is {n : Nat} {p : UInt8 → Bool} {b : Bool} {l : Str} (hp : l.all p = b) (h : Asks n p) (hen : ∀ args w, (callFunc n args).run Tryz.prog w = .ok (.enter n args) w) (hl : l.length ≤ 4294967281) (w : World) :
    Calls Tryz.prog 213 #[.string (ba l), .func (.func n) #[] #[]] w fun e w' => e = .returned (.bool b) ∧ w' = w := by rw [← hp]; exact every_any h hen l hl w
theorem asks_is {n : Nat} {p : UInt8 → Bool} {b : Bool} {c : UInt8} (hp : p c = b) (h : Asks n p) (w : World) : Calls Tryz.prog n #[.int .u8 (c.toNat : Int)] w fun e w' => e = .returned (.bool b) ∧ w' = w := by rw [← hp]; exact h c w

theorem slash_none {p : Str} (h : splitLast 47 p = none) (hl : p.length < 4294967281) (w : World) : Calls Tryz.prog 214 #[.string (ba p), .int .u8 47] w fun e w' => e = .returned (.int .i64 (-1)) ∧ w' = w := by
  have := Tryz.strings_LastIndexByte (ba p) ((47 : UInt8).toNat : Int) (by rw [ba_size]; omega) w
  rw [lastIx_eq, h] at this
  exact this
theorem slash_some {p f t : Str} (h : splitLast 47 p = some (f, t)) (hl : p.length < 4294967281) (w : World) : Calls Tryz.prog 214 #[.string (ba p), .int .u8 47] w fun e w' => e = .returned (.int .i64 (f.length : Int)) ∧ w' = w := by
  have := Tryz.strings_LastIndexByte (ba p) ((47 : UInt8).toNat : Int) (by rw [ba_size]; omega) w
  rw [lastIx_eq, h] at this
  exact this
theorem cutV_any (p : Str) (c : UInt8) (w : World) : Calls Tryz.prog 65 #[.string (ba p), .string (ba [c])] w fun e w' => e = .returned (.tuple #[.string (ba (Lib.trimPrefix p [c])), .bool (Lib.hasPrefix p [c])]) ∧ w' = w := Tryz.strings_CutPrefix (ba p) (ba [c]) w

theorem drop_from (f t : Str) (c : UInt8) : (ba (f ++ c :: t)).extract (f.length + 1) (f ++ c :: t).length = ba t := by
  rw [Lib.extract_eq, ba_data]
  have : (f ++ c :: t).drop (f.length + 1) = t := by rw [List.drop_append]; simp
  rw [this, List.take_of_length_le (by simp; omega)]; rfl
theorem take_to (f t : Str) (c : UInt8) : (ba (f ++ c :: t)).extract 0 f.length = ba f := by
  rw [Lib.extract_eq, ba_data]
  simp [ba]
theorem whole_of (p : Str) : (ba p).extract 0 p.length = ba p := by
  rw [Lib.extract_eq, ba_data]
  simp [ba]

theorem looks_any {p : Str} (hl : p.length < 4294967281) (w : World) : Calls Tryz.prog 170 #[.string (ba p)] w fun e w' => e = .returned (.bool (looksB p)) ∧ w' = w := by
  have hsz : (ba p).size = p.length := ba_size p
  cases hs : splitLast 47 p with
  | none =>
    have HV : Hid (looksB p = false) := by show looksB p = false; unfold looksB; rw [hs]
    have HS := hide hs
    have hr := whole_of p
    clear hs
    go_enter Tryz.func170, Tryz.ntmps170
    go_wp2_with (first | (go_at_call 214; refine (slash_none (unhide HS) hl _).mono ?_; rintro e w1 ⟨rfl, hw⟩; rw [hw]; clear hw w1) | (go_at_call 65; refine (cutV_any p 118 _).mono ?_; rintro e w1 ⟨rfl, hw⟩; rw [hw]; clear hw w1))
    go_ret
    exact ⟨ret_bool (unhide HV).symm, rfl⟩
  | some x =>
    obtain ⟨f, t⟩ := x
    obtain ⟨e, _⟩ := splitLast_some.1 hs
    have HE := hide e
    have hle : f.length + 1 ≤ p.length := by rw [e]; simp
    have hlt : t.length ≤ p.length := by rw [e]; simp; omega
    have hr : (ba p).extract (f.length + 1) p.length = ba t := by rw [e]; exact drop_from f t 47
    have HS := hide hs
    clear hs e
    cases hp : Lib.hasPrefix t [118] with
    | false =>
      have HV : Hid (looksB p = false) := by show looksB p = false; unfold looksB; rw [unhide HS]; simp [hp]
      have HP := hide hp
      clear hp
      go_enter Tryz.func170, Tryz.ntmps170
      go_wp2_with (first | (go_at_call 214; refine (slash_some (unhide HS) hl _).mono ?_; rintro e w1 ⟨rfl, hw⟩; rw [hw]; clear hw w1) | (go_at_call 65; refine (cutV_any t 118 _).mono ?_; rintro e w1 ⟨rfl, hw⟩; rw [hw, unhide HP]; clear hw w1))
      go_ret
      exact ⟨ret_bool (unhide HV).symm, rfl⟩
    | true =>
      obtain ⟨u, hu⟩ : ∃ u, u = t.drop 1 := ⟨_, rfl⟩
      have HV : Hid (looksB p = digitsB u) := by show looksB p = _; unfold looksB; rw [unhide HS, hu]; simp [hp]
      have HP := hide hp
      have HT : Hid (Lib.trimPrefix t [118] = u) := by show Lib.trimPrefix t [118] = _; unfold Lib.trimPrefix; rw [hp, hu]; rfl
      have hul : u.length ≤ t.length := by rw [hu]; simp
      clear hp hu
      go_enter Tryz.func170, Tryz.ntmps170
      go_wp2_with (first | (go_at_call 214; refine (slash_some (unhide HS) hl _).mono ?_; rintro e w1 ⟨rfl, hw⟩; rw [hw]; clear hw w1) | (go_at_call 65; refine (cutV_any t 118 _).mono ?_; rintro e w1 ⟨rfl, hw⟩; rw [hw, unhide HP, unhide HT]; clear hw w1) | (go_at_call 216; refine (digits_any u (by omega) _).mono ?_; rintro e w1 ⟨rfl, hw⟩; rw [hw]; clear hw w1))
      go_ret
      exact ⟨ret_bool (unhide HV).symm, rfl⟩

theorem looks_is {p : Str} {b : Bool} (h : looksB p = b) (hl : p.length < 4294967281) (w : World) : Calls Tryz.prog 170 #[.string (ba p)] w fun e w' => e = .returned (.bool b) ∧ w' = w := by rw [← h]; exact looks_any hl w

theorem tail_at (f u : Str) : (ba (f ++ 47 :: 118 :: u)).extract (f.length + 2) (f ++ 47 :: 118 :: u).length = ba u := by
  have e : f ++ 47 :: 118 :: u = (f ++ [47]) ++ 118 :: u := by simp
  have := drop_from (f ++ [47]) u 118
  rw [← e] at this
  simpa using this

set_option maxHeartbeats 1000000 in
theorem major_any {p : Str} (hl : p.length < 4294967281) (w : World) : Gives 169 #[.string (ba p)] w (.tuple #[.string (ba (majorR p).1), .int .i64 ((majorR p).2 : Int)]) := by
  unfold Gives
  have hsz : (ba p).size = p.length := ba_size p
  cases hk : looksB p with
  | false =>
    have HV : Hid (majorR p = (p, 0)) := by show majorR p = _; unfold majorR; rw [hk]; rfl
    have HK := hide hk
    clear hk
    rw [unhide HV]
    go_enter Tryz.func169, Tryz.ntmps169
    go_wp2_with (go_at_call 170; refine (looks_is (unhide HK) hl _).mono ?_; rintro e w1 ⟨rfl, hw⟩; rw [hw]; clear hw w1)
    go_ret2
    exact ⟨rfl, Bel.refl _ _⟩
  | true =>
    have hk' := hk
    unfold looksB at hk'
    cases hs : splitLast 47 p with
    | none => rw [hs] at hk'; cases hk'
    | some x =>
      obtain ⟨f, t⟩ := x
      rw [hs] at hk'
      simp only [Bool.and_eq_true] at hk'
      obtain ⟨u, hu⟩ : ∃ u, u = t.drop 1 := ⟨_, rfl⟩
      have et : t = 118 :: u := by
        rw [hu]
        cases t with
        | nil => simp [Lib.hasPrefix] at hk'
        | cons b l => simp [Lib.hasPrefix, List.isPrefixOf] at hk'; simp [hk'.1]
      obtain ⟨e, _⟩ := splitLast_some.1 hs
      have hr : (ba p).extract (f.length + 2) p.length = ba u := by rw [e, et]; exact tail_at f u
      have hr2 : (ba p).extract 0 f.length = ba f := by rw [e]; exact take_to f t 47
      have hle : f.length + 2 ≤ p.length := by rw [e, et]; simp
      have hul : u.length ≤ p.length := by rw [e, et]; simp; omega
      have HS := hide hs
      have HK := hide hk
      cases hn : numOk u with
      | false =>
        have HV : Hid (majorR p = (p, 0)) := by show majorR p = _; unfold majorR; rw [hk, hs]; simp only [if_true]; rw [← hu]; simp [hn]
        have HN := hide hn
        clear hk hk' hs e et hu hn
        rw [unhide HV]
        go_enter Tryz.func169, Tryz.ntmps169
        go_wp2_with (first | (go_at_call 170; refine (looks_is (unhide HK) hl _).mono ?_; rintro e w1 ⟨rfl, hw⟩; rw [hw]; clear hw w1) | (go_at_call 214; refine (slash_some (unhide HS) hl _).mono ?_; rintro e w1 ⟨rfl, hw⟩; rw [hw]; clear hw w1) | (go_at_call 215; refine (number_no (by omega) (unhide HN) _).mono ?_))
        rintro e w2 ⟨rfl, b2⟩
        go_wp2
        go_ret2
        exact ⟨rfl, b2⟩
      | true =>
        by_cases h2 : 2 ≤ numVal u
        · have HV : Hid (majorR p = (f, numVal u)) := by show majorR p = _; unfold majorR; rw [hk, hs]; simp only [if_true]; rw [← hu]; simp [hn, h2]
          have HN := hide hn
          have hq : ¬ (numVal u : Int) < 2 := by omega
          clear hk hk' hs e et hu hn
          rw [unhide HV]
          go_enter Tryz.func169, Tryz.ntmps169
          go_wp2_with (first | (go_at_call 170; refine (looks_is (unhide HK) hl _).mono ?_; rintro e w1 ⟨rfl, hw⟩; rw [hw]; clear hw w1) | (go_at_call 214; refine (slash_some (unhide HS) hl _).mono ?_; rintro e w1 ⟨rfl, hw⟩; rw [hw]; clear hw w1) | (go_at_call 215; refine (number_ok (unhide HN) _).mono ?_))
          rintro e w2 ⟨rfl, b2⟩
          go_wp2
          go_ret2
          exact ⟨rfl, b2⟩
        · have HV : Hid (majorR p = (p, 0)) := by show majorR p = _; unfold majorR; rw [hk, hs]; simp only [if_true]; rw [← hu]; simp [h2]
          have HN := hide hn
          have hq : (numVal u : Int) < 2 := by omega
          clear hk hk' hs e et hu hn
          rw [unhide HV]
          go_enter Tryz.func169, Tryz.ntmps169
          go_wp2_with (first | (go_at_call 170; refine (looks_is (unhide HK) hl _).mono ?_; rintro e w1 ⟨rfl, hw⟩; rw [hw]; clear hw w1) | (go_at_call 214; refine (slash_some (unhide HS) hl _).mono ?_; rintro e w1 ⟨rfl, hw⟩; rw [hw]; clear hw w1) | (go_at_call 215; refine (number_ok (unhide HN) _).mono ?_))
          rintro e w2 ⟨rfl, b2⟩
          go_wp2
          go_ret2
          exact ⟨rfl, b2⟩

end Go.Proofs.YthcafeoamabkgaaGreatDoor

namespace Go.Proofs.YthcafeoamabkgaaGreatDoor
open Go.RowKit

theorem prefix_is {l : Str} {c : UInt8} {b : Bool} (h : Lib.hasPrefix l [c] = b) (w : World) : Calls Tryz.prog 106 #[.string (ba l), .string (ba [c])] w fun e w' => e = .returned (.bool b) ∧ w' = w := by
  rw [← h]; exact Tryz.strings_HasPrefix (ba l) (ba [c]) w
theorem suffix_is {l : Str} {c : UInt8} {b : Bool} (h : Lib.hasSuffix l [c] = b) (hl : l.length ≤ 4294967281) (w : World) : Calls Tryz.prog 247 #[.string (ba l), .string (ba [c])] w fun e w' => e = .returned (.bool b) ∧ w' = w := by
  rw [← h]; exact Tryz.strings_HasSuffix (ba l) (ba [c]) w (by rw [ba_size]; omega)
theorem has_is {l : Str} {c : UInt8} {b : Bool} (h : l.contains c = b) (hl : l.length < 4294967281) {w : World} (hg : Gd w) : Calls Tryz.prog 212 #[.string (ba l), .string (ba [c])] w fun e w' => e = .returned (.bool b) ∧ w' = w := by
  obtain ⟨m, hm⟩ := hg.ml
  have := Tryz.strings_Contains (ba l) (ba [c]) m w (by rw [ba_size]; exact hl) hm
  rw [ba_data, ba_data, contains_eq, h] at this
  exact this

theorem elem_any {n : Nat} {p : UInt8 → Bool} (h : Asks n p) (hen : ∀ args w, (callFunc n args).run Tryz.prog w = .ok (.enter n args) w) {l : Str} (hl : l.length ≤ 4294967281) (w : World) :
    Calls Tryz.prog 209 #[.string (ba l), .func (.func n) #[] #[]] w fun e w' => e = .returned (.bool (elemB p l)) ∧ w' = w := by
  have hli := ba_list l
  cases h0 : l.isEmpty with
  | true =>
    have HV : Hid (elemB p l = false) := by show elemB p l = false; unfold elemB; rw [h0]; rfl
    go_enter Tryz.func209, Tryz.ntmps209
    go_wp2
    go_ret
    exact ⟨ret_bool (unhide HV).symm, rfl⟩
  | false =>
    cases he : l.all p with
    | false =>
      have HV : Hid (elemB p l = false) := by show elemB p l = false; unfold elemB; rw [he]; simp
      have HE := hide he
      clear he
      go_enter Tryz.func209, Tryz.ntmps209
      go_wp2_with (first | (go_at_call 213; refine (every_is (unhide HE) h hen hl _).mono ?_; rintro e w1 ⟨rfl, hw⟩; rw [hw]; clear hw w1))
      go_ret
      exact ⟨ret_bool (unhide HV).symm, rfl⟩
    | true =>
      cases hp : Lib.hasPrefix l [46] with
      | true =>
        have HV : Hid (elemB p l = false) := by show elemB p l = false; unfold elemB; rw [hp]; simp
        have HE := hide he
        have HP := hide hp
        clear he hp
        go_enter Tryz.func209, Tryz.ntmps209
        go_wp2_with (first | (go_at_call 213; refine (every_is (unhide HE) h hen hl _).mono ?_; rintro e w1 ⟨rfl, hw⟩; rw [hw]; clear hw w1) | (go_at_call 106; refine (prefix_is (unhide HP) _).mono ?_; rintro e w1 ⟨rfl, hw⟩; rw [hw]; clear hw w1))
        go_ret
        exact ⟨ret_bool (unhide HV).symm, rfl⟩
      | false =>
        cases hs : Lib.hasSuffix l [46] with
        | true =>
          have HV : Hid (elemB p l = false) := by show elemB p l = false; unfold elemB; rw [hs]; simp
          have HE := hide he
          have HP := hide hp
          have HS := hide hs
          clear he hp hs
          go_enter Tryz.func209, Tryz.ntmps209
          go_wp2_with (first | (go_at_call 213; refine (every_is (unhide HE) h hen hl _).mono ?_; rintro e w1 ⟨rfl, hw⟩; rw [hw]; clear hw w1) | (go_at_call 106; refine (prefix_is (unhide HP) _).mono ?_; rintro e w1 ⟨rfl, hw⟩; rw [hw]; clear hw w1) | (go_at_call 247; refine (suffix_is (unhide HS) hl _).mono ?_; rintro e w1 ⟨rfl, hw⟩; rw [hw]; clear hw w1))
          go_ret
          exact ⟨ret_bool (unhide HV).symm, rfl⟩
        | false =>
          have HV : Hid (elemB p l = true) := by show elemB p l = true; unfold elemB; rw [h0, he, hp, hs]; rfl
          have HE := hide he
          have HP := hide hp
          have HS := hide hs
          clear he hp hs
          go_enter Tryz.func209, Tryz.ntmps209
          go_wp2_with (first | (go_at_call 213; refine (every_is (unhide HE) h hen hl _).mono ?_; rintro e w1 ⟨rfl, hw⟩; rw [hw]; clear hw w1) | (go_at_call 106; refine (prefix_is (unhide HP) _).mono ?_; rintro e w1 ⟨rfl, hw⟩; rw [hw]; clear hw w1) | (go_at_call 247; refine (suffix_is (unhide HS) hl _).mono ?_; rintro e w1 ⟨rfl, hw⟩; rw [hw]; clear hw w1))
          go_ret
          exact ⟨ret_bool (unhide HV).symm, rfl⟩

theorem elem_is {n : Nat} {p : UInt8 → Bool} {b : Bool} {l : Str} (hb : elemB p l = b) (h : Asks n p) (hen : ∀ args w, (callFunc n args).run Tryz.prog w = .ok (.enter n args) w) (hl : l.length ≤ 4294967281) (w : World) :
    Calls Tryz.prog 209 #[.string (ba l), .func (.func n) #[] #[]] w fun e w' => e = .returned (.bool b) ∧ w' = w := by rw [← hb]; exact elem_any h hen hl w

set_option maxHeartbeats 1000000 in
theorem elems_any {n : Nat} {p : UInt8 → Bool} (h : Asks n p) (hen : ∀ args w, (callFunc n args).run Tryz.prog w = .ok (.enter n args) w) {l : Str} (hl : l.length < 4294967281) {w : World} (hg : Gd w) :
    Gives 166 #[.string (ba l), .func (.func n) #[] #[]] w (.bool (elemsB p l)) := by
  unfold Gives
  rw [show elemsB p l = (pieces 47 l).all (elemB p) from rfl]
  have HS : Hid (∀ q ∈ pieces 47 l, q.length ≤ 4294967281) := fun q hq => by have := pieces_small 47 l q hq; omega
  have HN : Hid ((pieces 47 l).length ≤ 4294967282) := by
    show (pieces 47 l).length ≤ 4294967282
    rw [pieces_length]; have := Lib.count_one 47 l; have := List.count_le_length (a := (47 : UInt8)) (l := l); omega
  go_enter Tryz.func166, Tryz.ntmps166
  go_wp2_with (go_at_call 76; refine (split_any 47 hl hg).mono ?_)
  rintro e w1 ⟨B, rfl, ht, hB, hb⟩
  have hn := unhide HN
  have HT := hide ht
  clear ht
  go_wp2
  go_loop [10] (fun i => ∃ k : Nat, k ≤ (pieces 47 l).length ∧ i = .int .i64 k ∧ ((pieces 47 l).take k).all (elemB p) = true) (fun i => (pieces 47 l).length - (intOf i).toNat)
  case atStart => exact ⟨0, Nat.zero_le _, rfl, rfl⟩
  case round =>
    obtain ⟨k, hk, rfl, hall⟩ := hrel
    have HA := hide hall
    clear hall
    by_cases hlt : k < (pieces 47 l).length
    · have hc := (unhide HT) k hlt
      cases hv : elemB p (pieces 47 l)[k] with
      | false =>
        have HF := hide (all_no hlt hv)
        have HV := hide hv
        clear hv
        go_wp2_with (go_at_call 209; refine (elem_is (unhide HV) h hen ((unhide HS) _ (List.getElem_mem hlt)) _).mono ?_; rintro e w2 ⟨rfl, hw⟩; rw [hw]; clear hw w2)
        go_ret
        exact ⟨ret_bool (unhide HF).symm, hb⟩
      | true =>
        have HF := hide (all_take (unhide HA) hlt hv)
        have HV := hide hv
        clear HA hv
        go_wp2_with (go_at_call 209; refine (elem_is (unhide HV) h hen ((unhide HS) _ (List.getElem_mem hlt)) _).mono ?_; rintro e w2 ⟨rfl, hw⟩; rw [hw]; clear hw w2)
        go_round
        case rel => exact ⟨k + 1, hlt, by simp, unhide HF⟩
        case measure => simp [intOf]; omega
    · have hke : k = (pieces 47 l).length := by omega
      subst hke
      have HF : Hid ((pieces 47 l).all (elemB p) = true) := by
        have := unhide HA
        rw [List.take_length] at this
        exact this
      go_wp2
      go_ret
      exact ⟨ret_bool (unhide HF).symm, hb⟩

theorem host_any {l : Str} (hl : l.length < 4294967281) {w : World} (hg : Gd w) : Calls Tryz.prog 168 #[.string (ba l)] w fun e w' => e = .returned (.bool (hostOk l)) ∧ w' = w := by
  cases hc : l.contains 46 with
  | false =>
    have HV : Hid (hostOk l = false) := by show hostOk l = false; unfold hostOk; rw [hc]; rfl
    have HC := hide hc
    clear hc
    go_enter Tryz.func168, Tryz.ntmps168
    go_wp2_with (go_at_call 212; refine (has_is (unhide HC) hl hg).mono ?_; rintro e w1 ⟨rfl, hw⟩; rw [hw]; clear hw w1)
    go_ret
    exact ⟨ret_bool (unhide HV).symm, rfl⟩
  | true =>
    cases hp : Lib.hasPrefix l [45] with
    | true =>
      have HV : Hid (hostOk l = false) := by show hostOk l = false; unfold hostOk; rw [hp]; simp
      have HC := hide hc
      have HP := hide hp
      clear hc hp
      go_enter Tryz.func168, Tryz.ntmps168
      go_wp2_with (first | (go_at_call 212; refine (has_is (unhide HC) hl hg).mono ?_; rintro e w1 ⟨rfl, hw⟩; rw [hw]; clear hw w1) | (go_at_call 106; refine (prefix_is (unhide HP) _).mono ?_; rintro e w1 ⟨rfl, hw⟩; rw [hw]; clear hw w1))
      go_ret
      exact ⟨ret_bool (unhide HV).symm, rfl⟩
    | false =>
      cases he : l.all hostB with
      | false =>
        have HV : Hid (hostOk l = false) := by show hostOk l = false; unfold hostOk; rw [he]; simp
        have HC := hide hc
        have HP := hide hp
        have HE := hide he
        clear hc hp he
        go_enter Tryz.func168, Tryz.ntmps168
        go_wp2_with (first | (go_at_call 212; refine (has_is (unhide HC) hl hg).mono ?_; rintro e w1 ⟨rfl, hw⟩; rw [hw]; clear hw w1) | (go_at_call 106; refine (prefix_is (unhide HP) _).mono ?_; rintro e w1 ⟨rfl, hw⟩; rw [hw]; clear hw w1) | (go_at_call 213; refine (every_is (unhide HE) host_asks (enters_of Tryz.func210 (by kernel_rfl) rfl) (by omega) _).mono ?_; rintro e w1 ⟨rfl, hw⟩; rw [hw]; clear hw w1))
        go_ret
        exact ⟨ret_bool (unhide HV).symm, rfl⟩
      | true =>
        have HV : Hid (hostOk l = true) := by show hostOk l = true; unfold hostOk; rw [hc, hp, he]; rfl
        have HC := hide hc
        have HP := hide hp
        have HE := hide he
        clear hc hp he
        go_enter Tryz.func168, Tryz.ntmps168
        go_wp2_with (first | (go_at_call 212; refine (has_is (unhide HC) hl hg).mono ?_; rintro e w1 ⟨rfl, hw⟩; rw [hw]; clear hw w1) | (go_at_call 106; refine (prefix_is (unhide HP) _).mono ?_; rintro e w1 ⟨rfl, hw⟩; rw [hw]; clear hw w1) | (go_at_call 213; refine (every_is (unhide HE) host_asks (enters_of Tryz.func210 (by kernel_rfl) rfl) (by omega) _).mono ?_; rintro e w1 ⟨rfl, hw⟩; rw [hw]; clear hw w1))
        go_ret
        exact ⟨ret_bool (unhide HV).symm, rfl⟩

theorem import_any {p : Str} {w : World} (hl : p.length < 4294967281) (hg : Gd w) : Gives 143 #[.string (ba p)] w (.int .i64 (importR p : Int)) := by
  unfold Gives
  have hsz : (ba p).size = p.length := ba_size p
  by_cases h1 : 100 < p.length
  · have HV : Hid (importR p = 13) := by show importR p = 13; unfold importR; rw [if_pos h1]
    have hq : (100 : Int) < p.length := by omega
    rw [unhide HV]
    go_enter Tryz.func143, Tryz.ntmps143
    go_wp2
    go_ret
    exact ⟨rfl, Bel.refl _ _⟩
  · have hq : ¬ (100 : Int) < p.length := by omega
    cases he : elemsB importB p with
    | true =>
      have HV : Hid (importR p = 0) := by show importR p = 0; unfold importR; rw [if_neg h1, he]; rfl
      have HE := hide he
      clear he
      rw [unhide HV]
      go_enter Tryz.func143, Tryz.ntmps143
      go_wp2_with (go_at_call 166; fail)
      refine (elems_any import_asks (enters_of Tryz.func186 (by kernel_rfl) rfl) hl hg).mono ?_
      rintro e w1 ⟨rfl, b1⟩
      rw [unhide HE]
      go_wp2
      go_ret
      exact ⟨rfl, b1⟩
    | false =>
      have HV : Hid (importR p = 9) := by show importR p = 9; unfold importR; rw [if_neg h1, he]; rfl
      have HE := hide he
      clear he
      rw [unhide HV]
      go_enter Tryz.func143, Tryz.ntmps143
      go_wp2_with (go_at_call 166; fail)
      refine (elems_any import_asks (enters_of Tryz.func186 (by kernel_rfl) rfl) hl hg).mono ?_
      rintro e w1 ⟨rfl, b1⟩
      rw [unhide HE]
      go_wp2
      go_ret
      exact ⟨rfl, b1⟩

theorem host_is {l : Str} {b : Bool} (h : hostOk l = b) (hl : l.length < 4294967281) {w : World} (hg : Gd w) : Calls Tryz.prog 168 #[.string (ba l)] w fun e w' => e = .returned (.bool b) ∧ w' = w := by rw [← h]; exact host_any hl hg

set_option maxHeartbeats 1000000 in
theorem path_any {p : Str} {w : World} (hl : p.length < 4294967281) (hg : Gd w) : Gives 133 #[.string (ba p)] w (.int .i64 (pathR p : Int)) := by
  unfold Gives
  have hsz : (ba p).size = p.length := ba_size p
  by_cases h1 : 100 < p.length
  · have HV : Hid (pathR p = 13) := by show pathR p = 13; unfold pathR; rw [if_pos h1]
    have hq : (100 : Int) < p.length := by omega
    rw [unhide HV]
    go_enter Tryz.func133, Tryz.ntmps133
    go_wp2
    go_ret
    exact ⟨rfl, Bel.refl _ _⟩
  · have hq : ¬ (100 : Int) < p.length := by omega
    cases he : elemsB pathB p with
    | false =>
      have HV : Hid (pathR p = 9) := by show pathR p = 9; unfold pathR; rw [if_neg h1, he]; rfl
      have HE := hide he
      clear he
      rw [unhide HV]
      go_enter Tryz.func133, Tryz.ntmps133
      go_wp2_with (go_at_call 96; fail)
      refine (cut_any 47 hl hg).mono ?_
      rintro e w1 ⟨rfl, b1⟩
      go_wp2_with (go_at_call 166; fail)
      refine (elems_any path_asks (enters_of Tryz.func167 (by kernel_rfl) rfl) hl (hg.below b1)).mono ?_
      rintro e w2 ⟨rfl, b2⟩
      rw [unhide HE]
      have B2 := hide (below_trans b1 b2)
      have hal := ahead_le 47 p
      have hg2 := hg.below (unhide B2)
      clear b1 b2
      go_wp2
      go_ret
      exact ⟨rfl, unhide B2⟩
    | true =>
      cases hh : hostOk (ahead 47 p) with
      | false =>
        have HV : Hid (pathR p = 9) := by show pathR p = 9; unfold pathR; rw [if_neg h1, he, hh]; rfl
        have HE := hide he
        have HH := hide hh
        clear he hh
        rw [unhide HV]
        go_enter Tryz.func133, Tryz.ntmps133
        go_wp2_with (go_at_call 96; fail)
        refine (cut_any 47 hl hg).mono ?_
        rintro e w1 ⟨rfl, b1⟩
        go_wp2_with (go_at_call 166; fail)
        refine (elems_any path_asks (enters_of Tryz.func167 (by kernel_rfl) rfl) hl (hg.below b1)).mono ?_
        rintro e w2 ⟨rfl, b2⟩
        rw [unhide HE]
        have B2 := hide (below_trans b1 b2)
        have hal := ahead_le 47 p
        have hg2 := hg.below (unhide B2)
        clear b1 b2
        go_wp2_with (go_at_call 168; refine (host_is (unhide HH) (by omega) hg2).mono ?_; rintro e w3 ⟨rfl, hw⟩; rw [hw]; clear hw w3)
        go_ret
        exact ⟨rfl, unhide B2⟩
      | true =>
        by_cases hm : (majorR p).2 = 0
        · cases hk : looksB p with
          | true =>
            have HV : Hid (pathR p = 10) := by show pathR p = 10; unfold pathR; rw [if_neg h1, he, hh, hm, hk]; rfl
            have HE := hide he
            have HH := hide hh
            have HM := hide hm
            have HK := hide hk
            clear he hh hm hk
            rw [unhide HV]
            go_enter Tryz.func133, Tryz.ntmps133
            go_wp2_with (go_at_call 96; fail)
            refine (cut_any 47 hl hg).mono ?_
            rintro e w1 ⟨rfl, b1⟩
            go_wp2_with (go_at_call 166; fail)
            refine (elems_any path_asks (enters_of Tryz.func167 (by kernel_rfl) rfl) hl (hg.below b1)).mono ?_
            rintro e w2 ⟨rfl, b2⟩
            rw [unhide HE]
            have B2 := hide (below_trans b1 b2)
            have hal := ahead_le 47 p
            have hg2 := hg.below (unhide B2)
            clear b1 b2
            go_wp2_with (first | (go_at_call 168; refine (host_is (unhide HH) (by omega) hg2).mono ?_; rintro e w3 ⟨rfl, hw⟩; rw [hw]; clear hw w3) | (go_at_call 169; fail))
            refine (major_any hl _).mono ?_
            rintro e w3 ⟨rfl, b3⟩
            rw [unhide HM]
            have B3 := hide ((unhide B2).trans (b3.mono (unhide B2).size))
            clear b3
            go_wp2_with (go_at_call 170; refine (looks_is (unhide HK) hl _).mono ?_; rintro e w3 ⟨rfl, hw⟩; rw [hw]; clear hw w3)
            go_ret
            exact ⟨rfl, unhide B3⟩
          | false =>
            have HV : Hid (pathR p = 0) := by show pathR p = 0; unfold pathR; rw [if_neg h1, he, hh, hm, hk]; rfl
            have HE := hide he
            have HH := hide hh
            have HM := hide hm
            have HK := hide hk
            clear he hh hm hk
            rw [unhide HV]
            go_enter Tryz.func133, Tryz.ntmps133
            go_wp2_with (go_at_call 96; fail)
            refine (cut_any 47 hl hg).mono ?_
            rintro e w1 ⟨rfl, b1⟩
            go_wp2_with (go_at_call 166; fail)
            refine (elems_any path_asks (enters_of Tryz.func167 (by kernel_rfl) rfl) hl (hg.below b1)).mono ?_
            rintro e w2 ⟨rfl, b2⟩
            rw [unhide HE]
            have B2 := hide (below_trans b1 b2)
            have hal := ahead_le 47 p
            have hg2 := hg.below (unhide B2)
            clear b1 b2
            go_wp2_with (first | (go_at_call 168; refine (host_is (unhide HH) (by omega) hg2).mono ?_; rintro e w3 ⟨rfl, hw⟩; rw [hw]; clear hw w3) | (go_at_call 169; fail))
            refine (major_any hl _).mono ?_
            rintro e w3 ⟨rfl, b3⟩
            rw [unhide HM]
            have B3 := hide ((unhide B2).trans (b3.mono (unhide B2).size))
            clear b3
            go_wp2_with (go_at_call 170; refine (looks_is (unhide HK) hl _).mono ?_; rintro e w3 ⟨rfl, hw⟩; rw [hw]; clear hw w3)
            go_ret
            exact ⟨rfl, unhide B3⟩
        · have HV : Hid (pathR p = 0) := by show pathR p = 0; unfold pathR; rw [if_neg h1, he, hh]; simp [hm]
          have HE := hide he
          have HH := hide hh
          have hmi : ¬ ((majorR p).2 : Int) = 0 := by omega
          clear he hh hm
          rw [unhide HV]
          go_enter Tryz.func133, Tryz.ntmps133
          go_wp2_with (go_at_call 96; fail)
          refine (cut_any 47 hl hg).mono ?_
          rintro e w1 ⟨rfl, b1⟩
          go_wp2_with (go_at_call 166; fail)
          refine (elems_any path_asks (enters_of Tryz.func167 (by kernel_rfl) rfl) hl (hg.below b1)).mono ?_
          rintro e w2 ⟨rfl, b2⟩
          rw [unhide HE]
          have B2 := hide (below_trans b1 b2)
          have hal := ahead_le 47 p
          have hg2 := hg.below (unhide B2)
          clear b1 b2
          go_wp2_with (first | (go_at_call 168; refine (host_is (unhide HH) (by omega) hg2).mono ?_; rintro e w3 ⟨rfl, hw⟩; rw [hw]; clear hw w3) | (go_at_call 169; fail))
          refine (major_any hl _).mono ?_
          rintro e w3 ⟨rfl, b3⟩
          have B3 := hide ((unhide B2).trans (b3.mono (unhide B2).size))
          clear b3
          go_wp2
          go_ret
          exact ⟨rfl, unhide B3⟩

end Go.Proofs.YthcafeoamabkgaaGreatDoor

namespace Go.Proofs.YthcafeoamabkgaaGreatDoor
open Go.RowKit

theorem parts_none {v : Str} (h : parseV v = none) {w : World} (hg : Gd w) : Gives 172 #[.string (ba v)] w (.tuple #[.int .i64 0, .int .i64 0, .int .i64 0, .string ⟨#[]⟩, .bool false]) := by
  have := parts_any (v := v) hg
  rw [h] at this
  exact this
theorem parts_some {v : Str} {x : Ver} (h : parseV v = some x) {w : World} (hg : Gd w) : Gives 172 #[.string (ba v)] w (.tuple #[.int .i64 (x.a : Int), .int .i64 (x.b : Int), .int .i64 (x.c : Int), .string (ba x.pre), .bool true]) := by
  have := parts_any (v := v) hg
  rw [h] at this
  exact this
theorem path_is {p : Str} {n : Nat} (h : pathR p = n) (hl : p.length < 4294967281) {w : World} (hg : Gd w) : Gives 133 #[.string (ba p)] w (.int .i64 (n : Int)) := by rw [← h]; exact path_any hl hg
theorem valid_is {v : Str} {b : Bool} (h : (parseV v).isSome = b) {w : World} (hg : Gd w) : Gives 134 #[.string (ba v)] w (.bool b) := by rw [← h]; exact valid_any hg
theorem boxed {w w1 : World} {a b : Value} {t : TypeId} (h : Bel (w.alloc (.cells #[a, b] t)).heap.size (w.alloc (.cells #[a, b] t)) w1) : w1.cell? ⟨w.heap.size, 0, none⟩ = some a ∧ w1.cell? ⟨w.heap.size, 1, none⟩ = some b ∧ Bel w.heap.size w w1 := by
  have hlt : w.heap.size < (w.alloc (.cells #[a, b] t)).heap.size := by
    show w.heap.size < (w.heap.push _).size
    simp
  have h0 := heap_new w (.cells #[a, b] t)
  refine ⟨?_, ?_, ?_⟩
  · rw [h.cell (p := ⟨w.heap.size, 0, none⟩) hlt, Lib.cell_of_heap h0]; rfl
  · rw [h.cell (p := ⟨w.heap.size, 1, none⟩) hlt, Lib.cell_of_heap h0]; rfl
  · have b0 : Bel w.heap.size w (w.alloc (.cells #[a, b] t)) := (Bel.refl _ _).alloc (Nat.le_refl _) _
    exact below_trans b0 h

theorem kept {w1 w2 : World} {B k : Nat} {a : Value} (h : w1.cell? ⟨B, k, none⟩ = some a) (hB : B < w1.heap.size) (hb : Bel w1.heap.size w1 w2) : w2.cell? ⟨B, k, none⟩ = some a := (hb.cell (p := ⟨B, k, none⟩) hB).trans h

theorem boxed_in {w w1 : World} {a b : Value} {t : TypeId} (h : Bel (w.alloc (.cells #[a, b] t)).heap.size (w.alloc (.cells #[a, b] t)) w1) : w.heap.size < w1.heap.size := by
  have := h.size
  have hlt : w.heap.size < (w.alloc (.cells #[a, b] t)).heap.size := by
    show w.heap.size < (w.heap.push _).size
    simp
  omega

theorem gd_alloc {w : World} (hg : Gd w) (o : Obj) : Gd (w.alloc o) := hg.below ((Bel.refl _ _).alloc (Nat.le_refl _) _)


theorem matches_none {v p : Str} (h : parseV v = none) {w : World} (hg : Gd w) : Gives 135 #[.string (ba v), .string (ba p)] w (.bool (matchesR v p)) := by
  unfold Gives
  have e : matchesR v p = false := by unfold matchesR; rw [h]
  rw [e]
  have H := hide h
  clear h
  go_enter Tryz.func135, Tryz.ntmps135
  go_wp2_with (go_at_call 172; fail)
  refine (parts_none (unhide H) hg).mono ?_
  rintro e w1 ⟨rfl, b1⟩
  go_wp2
  go_ret
  exact ⟨rfl, b1⟩

theorem matches_some {v p : Str} {x : Ver} (h : parseV v = some x) (hl : p.length < 4294967281) {w : World} (hg : Gd w) : Gives 135 #[.string (ba v), .string (ba p)] w (.bool (matchesR v p)) := by
  unfold Gives
  have e : matchesR v p = if (majorR p).2 = 0 then decide (x.a ≤ 1) else decide (x.a = (majorR p).2) := by unfold matchesR; rw [h]
  have H := hide h
  clear h
  by_cases h0 : (majorR p).2 = 0
  · have HE : Hid (matchesR v p = decide ((x.a : Int) ≤ 1)) := by
      show matchesR v p = _
      rw [e, if_pos h0, Bool.eq_iff_iff]; simp; omega
    have h0i : ((majorR p).2 : Int) = 0 := by omega
    clear e h0
    rw [unhide HE]
    go_enter Tryz.func135, Tryz.ntmps135
    go_wp2_with (go_at_call 172; fail)
    refine (parts_some (unhide H) hg).mono ?_
    rintro e w1 ⟨rfl, b1⟩
    go_wp2_with (go_at_call 169; fail)
    refine (major_any hl _).mono ?_
    rintro e w2 ⟨rfl, b2⟩
    have b2 := below_trans b1 b2
    clear b1
    go_wp2
    go_ret
    exact ⟨rfl, b2⟩
  · have HE : Hid (matchesR v p = ((x.a : Int) == ((majorR p).2 : Int))) := by
      show matchesR v p = _
      rw [e, if_neg h0, Bool.eq_iff_iff]; simp; omega
    have h0i : ¬ ((majorR p).2 : Int) = 0 := by omega
    clear e h0
    rw [unhide HE]
    go_enter Tryz.func135, Tryz.ntmps135
    go_wp2_with (go_at_call 172; fail)
    refine (parts_some (unhide H) hg).mono ?_
    rintro e w1 ⟨rfl, b1⟩
    go_wp2_with (go_at_call 169; fail)
    refine (major_any hl _).mono ?_
    rintro e w2 ⟨rfl, b2⟩
    have b2 := below_trans b1 b2
    clear b1
    go_wp2
    go_ret
    exact ⟨rfl, b2⟩

theorem matches_any {v p : Str} (hl : p.length < 4294967281) {w : World} (hg : Gd w) : Gives 135 #[.string (ba v), .string (ba p)] w (.bool (matchesR v p)) := by
  cases h : parseV v with
  | none => exact matches_none h hg
  | some x => exact matches_some h hl hg
theorem matches_is {v p : Str} {b : Bool} (h : matchesR v p = b) (hl : p.length < 4294967281) {w : World} (hg : Gd w) : Gives 135 #[.string (ba v), .string (ba p)] w (.bool b) := by rw [← h]; exact matches_any hl hg
theorem major_is {p f : Str} {n : Nat} (h : majorR p = (f, n)) (hl : p.length < 4294967281) (w : World) : Gives 169 #[.string (ba p)] w (.tuple #[.string (ba f), .int .i64 (n : Int)]) := by
  have := major_any hl w
  rw [h] at this; exact this
theorem import_is {p : Str} {n : Nat} (h : importR p = n) (hl : p.length < 4294967281) {w : World} (hg : Gd w) : Gives 143 #[.string (ba p)] w (.int .i64 (n : Int)) := by rw [← h]; exact import_any hl hg
theorem check_path {p v : Str} (h : pathR p ≠ 0) (hl : p.length < 4294967281) {w : World} (hg : Gd w) : Gives 85 #[.agg #[.string (ba p), .string (ba v)]] w (.int .i64 (checkR p v : Int)) := by
  unfold Gives
  have HM : Hid (checkR p v = pathR p) := by show checkR p v = pathR p; unfold checkR; rw [if_pos h]
  rw [unhide HM]
  obtain ⟨n, hn⟩ : ∃ n, pathR p = n := ⟨_, rfl⟩
  rw [hn] at h ⊢
  have hnn : ¬ (n : Int) = 0 := by omega
  have HN := hide hn
  clear hn h HM
  go_enter Tryz.func85, Tryz.ntmps85
  go_wp2_with (go_at_call 133; fail)
  refine (path_is (unhide HN) hl (gd_alloc hg _)).mono ?_
  rintro e w1 ⟨rfl, b1⟩
  obtain ⟨c0, c1, b2⟩ := boxed b1
  clear b1
  go_wp2
  go_ret
  exact ⟨rfl, b2⟩

theorem check_version {p v : Str} (h : pathR p = 0) (hv : parseV v = none) (hl : p.length < 4294967281) {w : World} (hg : Gd w) : Gives 85 #[.agg #[.string (ba p), .string (ba v)]] w (.int .i64 (checkR p v : Int)) := by
  unfold Gives
  have HM : Hid (checkR p v = 8) := by show checkR p v = 8; unfold checkR; rw [if_neg (by simp [h]), hv]; rfl
  rw [unhide HM]
  have hv2 : (parseV v).isSome = false := by rw [hv]; rfl
  have HN := hide h
  have HV := hide hv2
  clear h hv hv2 HM
  go_enter Tryz.func85, Tryz.ntmps85
  go_wp2_with (go_at_call 133; fail)
  refine (path_is (unhide HN) hl (gd_alloc hg _)).mono ?_
  rintro e w1 ⟨rfl, b1⟩
  obtain ⟨c0, c1, b2⟩ := boxed b1
  clear b1
  go_wp2_with (go_at_call 134; fail)
  refine (valid_is (unhide HV) (hg.below b2)).mono ?_
  rintro e w2 ⟨rfl, b3⟩
  have b3 := below_trans b2 b3
  clear b2
  go_wp2
  go_ret
  exact ⟨rfl, b3⟩

theorem check_match {p v : Str} (h : pathR p = 0) (hv : (parseV v).isSome = true) (hl : p.length < 4294967281) {w : World} (hg : Gd w) : Gives 85 #[.agg #[.string (ba p), .string (ba v)]] w (.int .i64 (checkR p v : Int)) := by
  unfold Gives
  have hn : (parseV v).isNone = false := by
    cases hh : parseV v with
    | none => rw [hh] at hv; cases hv
    | some x => rfl
  have hm : checkR p v = if matchesR v p then 0 else 10 := by unfold checkR; rw [if_neg (by simp [h]), hn]; rfl
  rw [hm]
  have HN := hide h
  have HV := hide hv
  cases hmm : matchesR v p with
  | false =>
    have HM := hide hmm
    clear h hv hm hn hmm
    go_enter Tryz.func85, Tryz.ntmps85
    go_wp2_with (go_at_call 133; fail)
    refine (path_is (unhide HN) hl (gd_alloc hg _)).mono ?_
    rintro e w1 ⟨rfl, b1⟩
    obtain ⟨c0, c1, b2⟩ := boxed b1
    have hin := boxed_in b1
    clear b1
    go_wp2_with (go_at_call 134; fail)
    refine (valid_is (unhide HV) (hg.below b2)).mono ?_
    rintro e w2 ⟨rfl, b3⟩
    have d0 := kept c0 hin b3
    have d1 := kept c1 hin b3
    have b3 := below_trans b2 b3
    clear b2 c0 c1
    go_wp2_with (go_at_call 135; fail)
    refine (matches_is (unhide HM) hl (hg.below b3)).mono ?_
    rintro e w3 ⟨rfl, b4⟩
    have b4 := below_trans b3 b4
    clear b3
    go_wp2
    go_ret
    exact ⟨rfl, b4⟩
  | true =>
    have HM := hide hmm
    clear h hv hm hn hmm
    go_enter Tryz.func85, Tryz.ntmps85
    go_wp2_with (go_at_call 133; fail)
    refine (path_is (unhide HN) hl (gd_alloc hg _)).mono ?_
    rintro e w1 ⟨rfl, b1⟩
    obtain ⟨c0, c1, b2⟩ := boxed b1
    have hin := boxed_in b1
    clear b1
    go_wp2_with (go_at_call 134; fail)
    refine (valid_is (unhide HV) (hg.below b2)).mono ?_
    rintro e w2 ⟨rfl, b3⟩
    have d0 := kept c0 hin b3
    have d1 := kept c1 hin b3
    have b3 := below_trans b2 b3
    clear b2 c0 c1
    go_wp2_with (go_at_call 135; fail)
    refine (matches_is (unhide HM) hl (hg.below b3)).mono ?_
    rintro e w3 ⟨rfl, b4⟩
    have b4 := below_trans b3 b4
    clear b3
    go_wp2
    go_ret
    exact ⟨rfl, b4⟩

theorem check_is {p v : Str} {n : Nat} (h : checkR p v = n) (hl : p.length < 4294967281) {w : World} (hg : Gd w) : Gives 85 #[.agg #[.string (ba p), .string (ba v)]] w (.int .i64 (n : Int)) := by
  rw [← h]
  by_cases h0 : pathR p = 0
  · cases hv : parseV v with
    | none => exact check_version h0 hv hl hg
    | some x => exact check_match h0 (by rw [hv]; rfl) hl hg
  · exact check_path h0 hl hg


end Go.Proofs.YthcafeoamabkgaaGreatDoor
