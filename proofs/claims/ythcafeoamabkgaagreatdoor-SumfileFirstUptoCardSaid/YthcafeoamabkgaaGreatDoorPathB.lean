/-
  The contracts of validElement, validElements, validHost, CheckPath, CheckImport.
-/
import Derived.Test.YthcafeoamabkgaaGreatDoorPathA
import Derived.Test.YthcafeoamabkgaaGreatDoorVersX
namespace Go.Proofs.YthcafeoamabkgaaGreatDoor
open Go.RowKit

theorem prefix_is {l : Str} {c : UInt8} {b : Bool} (h : Lib.hasPrefix l [c] = b) (w : World) : Calls Tryz.prog 106 #[.string (ba l), .string (ba [c])] w fun e w' => e = .returned (.bool b) ∧ w' = w := by
  rw [← h]; exact Tryz.strings_HasPrefix (ba l) (ba [c]) w
theorem suffix_is {l : Str} {c : UInt8} {b : Bool} (h : Lib.hasSuffix l [c] = b) (hl : l.length ≤ 4294967281) (w : World) : Calls Tryz.prog 247 #[.string (ba l), .string (ba [c])] w fun e w' => e = .returned (.bool b) ∧ w' = w := by
  rw [← h]; exact Tryz.strings_HasSuffix (ba l) (ba [c]) w (by rw [ba_size]; omega)
theorem has_is {l : Str} {c : UInt8} {b : Bool} (h : l.contains c = b) (hl : l.length < 4294967281) {w : World} (hg : Gd w) : Calls Tryz.prog 212 #[.string (ba l), .string (ba [c])] w fun e w' => e = .returned (.bool b) ∧ w' = w := by
  obtain ⟨m, hm⟩ := hg.ml
  have := Tryz.strings_Contains (ba l) (ba [c]) m w (by rw [ba_size]; exact hl) hm
  rw [ba_data, ba_data, contains_eq, h] at this
  exact this

theorem elem_any {n : Nat} {p : UInt8 → Bool} (h : Asks n p) (hen : ∀ args w, (callFunc n args).run Tryz.prog w = .ok (.enter n args) w) {l : Str} (hl : l.length ≤ 4294967281) (w : World) :
    Calls Tryz.prog 209 #[.string (ba l), .func (.func n) #[] #[]] w fun e w' => e = .returned (.bool (elemB p l)) ∧ w' = w := by
  have hli := ba_list l
  cases h0 : l.isEmpty with
  | true =>
    have HV : Hid (elemB p l = false) := by show elemB p l = false; unfold elemB; rw [h0]; rfl
    go_enter Tryz.func209, Tryz.ntmps209
    go_wp2
    go_ret
    exact ⟨ret_bool (unhide HV).symm, rfl⟩
  | false =>
    cases he : l.all p with
    | false =>
      have HV : Hid (elemB p l = false) := by show elemB p l = false; unfold elemB; rw [he]; simp
      have HE := hide he
      clear he
      go_enter Tryz.func209, Tryz.ntmps209
      go_wp2_with (first | (go_at_call 213; refine (every_is (unhide HE) h hen hl _).mono ?_; rintro e w1 ⟨rfl, hw⟩; rw [hw]; clear hw w1))
      go_ret
      exact ⟨ret_bool (unhide HV).symm, rfl⟩
    | true =>
      cases hp : Lib.hasPrefix l [46] with
      | true =>
        have HV : Hid (elemB p l = false) := by show elemB p l = false; unfold elemB; rw [hp]; simp
        have HE := hide he
        have HP := hide hp
        clear he hp
        go_enter Tryz.func209, Tryz.ntmps209
        go_wp2_with (first | (go_at_call 213; refine (every_is (unhide HE) h hen hl _).mono ?_; rintro e w1 ⟨rfl, hw⟩; rw [hw]; clear hw w1) | (go_at_call 106; refine (prefix_is (unhide HP) _).mono ?_; rintro e w1 ⟨rfl, hw⟩; rw [hw]; clear hw w1))
        go_ret
        exact ⟨ret_bool (unhide HV).symm, rfl⟩
      | false =>
        cases hs : Lib.hasSuffix l [46] with
        | true =>
          have HV : Hid (elemB p l = false) := by show elemB p l = false; unfold elemB; rw [hs]; simp
          have HE := hide he
          have HP := hide hp
          have HS := hide hs
          clear he hp hs
          go_enter Tryz.func209, Tryz.ntmps209
          go_wp2_with (first | (go_at_call 213; refine (every_is (unhide HE) h hen hl _).mono ?_; rintro e w1 ⟨rfl, hw⟩; rw [hw]; clear hw w1) | (go_at_call 106; refine (prefix_is (unhide HP) _).mono ?_; rintro e w1 ⟨rfl, hw⟩; rw [hw]; clear hw w1) | (go_at_call 247; refine (suffix_is (unhide HS) hl _).mono ?_; rintro e w1 ⟨rfl, hw⟩; rw [hw]; clear hw w1))
          go_ret
          exact ⟨ret_bool (unhide HV).symm, rfl⟩
        | false =>
          have HV : Hid (elemB p l = true) := by show elemB p l = true; unfold elemB; rw [h0, he, hp, hs]; rfl
          have HE := hide he
          have HP := hide hp
          have HS := hide hs
          clear he hp hs
          go_enter Tryz.func209, Tryz.ntmps209
          go_wp2_with (first | (go_at_call 213; refine (every_is (unhide HE) h hen hl _).mono ?_; rintro e w1 ⟨rfl, hw⟩; rw [hw]; clear hw w1) | (go_at_call 106; refine (prefix_is (unhide HP) _).mono ?_; rintro e w1 ⟨rfl, hw⟩; rw [hw]; clear hw w1) | (go_at_call 247; refine (suffix_is (unhide HS) hl _).mono ?_; rintro e w1 ⟨rfl, hw⟩; rw [hw]; clear hw w1))
          go_ret
          exact ⟨ret_bool (unhide HV).symm, rfl⟩

theorem elem_is {n : Nat} {p : UInt8 → Bool} {b : Bool} {l : Str} (hb : elemB p l = b) (h : Asks n p) (hen : ∀ args w, (callFunc n args).run Tryz.prog w = .ok (.enter n args) w) (hl : l.length ≤ 4294967281) (w : World) :
    Calls Tryz.prog 209 #[.string (ba l), .func (.func n) #[] #[]] w fun e w' => e = .returned (.bool b) ∧ w' = w := by rw [← hb]; exact elem_any h hen hl w

set_option maxHeartbeats 1000000 in
theorem elems_any {n : Nat} {p : UInt8 → Bool} (h : Asks n p) (hen : ∀ args w, (callFunc n args).run Tryz.prog w = .ok (.enter n args) w) {l : Str} (hl : l.length < 4294967281) {w : World} (hg : Gd w) :
    Gives 166 #[.string (ba l), .func (.func n) #[] #[]] w (.bool (elemsB p l)) := by
  unfold Gives
  rw [show elemsB p l = (pieces 47 l).all (elemB p) from rfl]
  have HS : Hid (∀ q ∈ pieces 47 l, q.length ≤ 4294967281) := fun q hq => by have := pieces_small 47 l q hq; omega
  have HN : Hid ((pieces 47 l).length ≤ 4294967282) := by
    show (pieces 47 l).length ≤ 4294967282
    rw [pieces_length]; have := Lib.count_one 47 l; have := List.count_le_length (a := (47 : UInt8)) (l := l); omega
  go_enter Tryz.func166, Tryz.ntmps166
  go_wp2_with (go_at_call 76; refine (split_any 47 hl hg).mono ?_)
  rintro e w1 ⟨B, rfl, ht, hB, hb⟩
  have hn := unhide HN
  have HT := hide ht
  clear ht
  go_wp2
  go_loop [10] (fun i => ∃ k : Nat, k ≤ (pieces 47 l).length ∧ i = .int .i64 k ∧ ((pieces 47 l).take k).all (elemB p) = true) (fun i => (pieces 47 l).length - (intOf i).toNat)
  case atStart => exact ⟨0, Nat.zero_le _, rfl, rfl⟩
  case round =>
    obtain ⟨k, hk, rfl, hall⟩ := hrel
    have HA := hide hall
    clear hall
    by_cases hlt : k < (pieces 47 l).length
    · have hc := (unhide HT) k hlt
      cases hv : elemB p (pieces 47 l)[k] with
      | false =>
        have HF := hide (all_no hlt hv)
        have HV := hide hv
        clear hv
        go_wp2_with (go_at_call 209; refine (elem_is (unhide HV) h hen ((unhide HS) _ (List.getElem_mem hlt)) _).mono ?_; rintro e w2 ⟨rfl, hw⟩; rw [hw]; clear hw w2)
        go_ret
        exact ⟨ret_bool (unhide HF).symm, hb⟩
      | true =>
        have HF := hide (all_take (unhide HA) hlt hv)
        have HV := hide hv
        clear HA hv
        go_wp2_with (go_at_call 209; refine (elem_is (unhide HV) h hen ((unhide HS) _ (List.getElem_mem hlt)) _).mono ?_; rintro e w2 ⟨rfl, hw⟩; rw [hw]; clear hw w2)
        go_round
        case rel => exact ⟨k + 1, hlt, by simp, unhide HF⟩
        case measure => simp [intOf]; omega
    · have hke : k = (pieces 47 l).length := by omega
      subst hke
      have HF : Hid ((pieces 47 l).all (elemB p) = true) := by
        have := unhide HA
        rw [List.take_length] at this
        exact this
      go_wp2
      go_ret
      exact ⟨ret_bool (unhide HF).symm, hb⟩

theorem host_any {l : Str} (hl : l.length < 4294967281) {w : World} (hg : Gd w) : Calls Tryz.prog 168 #[.string (ba l)] w fun e w' => e = .returned (.bool (hostOk l)) ∧ w' = w := by
  cases hc : l.contains 46 with
  | false =>
    have HV : Hid (hostOk l = false) := by show hostOk l = false; unfold hostOk; rw [hc]; rfl
    have HC := hide hc
    clear hc
    go_enter Tryz.func168, Tryz.ntmps168
    go_wp2_with (go_at_call 212; refine (has_is (unhide HC) hl hg).mono ?_; rintro e w1 ⟨rfl, hw⟩; rw [hw]; clear hw w1)
    go_ret
    exact ⟨ret_bool (unhide HV).symm, rfl⟩
  | true =>
    cases hp : Lib.hasPrefix l [45] with
    | true =>
      have HV : Hid (hostOk l = false) := by show hostOk l = false; unfold hostOk; rw [hp]; simp
      have HC := hide hc
      have HP := hide hp
      clear hc hp
      go_enter Tryz.func168, Tryz.ntmps168
      go_wp2_with (first | (go_at_call 212; refine (has_is (unhide HC) hl hg).mono ?_; rintro e w1 ⟨rfl, hw⟩; rw [hw]; clear hw w1) | (go_at_call 106; refine (prefix_is (unhide HP) _).mono ?_; rintro e w1 ⟨rfl, hw⟩; rw [hw]; clear hw w1))
      go_ret
      exact ⟨ret_bool (unhide HV).symm, rfl⟩
    | false =>
      cases he : l.all hostB with
      | false =>
        have HV : Hid (hostOk l = false) := by show hostOk l = false; unfold hostOk; rw [he]; simp
        have HC := hide hc
        have HP := hide hp
        have HE := hide he
        clear hc hp he
        go_enter Tryz.func168, Tryz.ntmps168
        go_wp2_with (first | (go_at_call 212; refine (has_is (unhide HC) hl hg).mono ?_; rintro e w1 ⟨rfl, hw⟩; rw [hw]; clear hw w1) | (go_at_call 106; refine (prefix_is (unhide HP) _).mono ?_; rintro e w1 ⟨rfl, hw⟩; rw [hw]; clear hw w1) | (go_at_call 213; refine (every_is (unhide HE) host_asks (enters_of Tryz.func210 (by kernel_rfl) rfl) (by omega) _).mono ?_; rintro e w1 ⟨rfl, hw⟩; rw [hw]; clear hw w1))
        go_ret
        exact ⟨ret_bool (unhide HV).symm, rfl⟩
      | true =>
        have HV : Hid (hostOk l = true) := by show hostOk l = true; unfold hostOk; rw [hc, hp, he]; rfl
        have HC := hide hc
        have HP := hide hp
        have HE := hide he
        clear hc hp he
        go_enter Tryz.func168, Tryz.ntmps168
        go_wp2_with (first | (go_at_call 212; refine (has_is (unhide HC) hl hg).mono ?_; rintro e w1 ⟨rfl, hw⟩; rw [hw]; clear hw w1) | (go_at_call 106; refine (prefix_is (unhide HP) _).mono ?_; rintro e w1 ⟨rfl, hw⟩; rw [hw]; clear hw w1) | (go_at_call 213; refine (every_is (unhide HE) host_asks (enters_of Tryz.func210 (by kernel_rfl) rfl) (by omega) _).mono ?_; rintro e w1 ⟨rfl, hw⟩; rw [hw]; clear hw w1))
        go_ret
        exact ⟨ret_bool (unhide HV).symm, rfl⟩

theorem import_any {p : Str} {w : World} (hl : p.length < 4294967281) (hg : Gd w) : Gives 143 #[.string (ba p)] w (.int .i64 (importR p : Int)) := by
  unfold Gives
  have hsz : (ba p).size = p.length := ba_size p
  by_cases h1 : 100 < p.length
  · have HV : Hid (importR p = 13) := by show importR p = 13; unfold importR; rw [if_pos h1]
    have hq : (100 : Int) < p.length := by omega
    rw [unhide HV]
    go_enter Tryz.func143, Tryz.ntmps143
    go_wp2
    go_ret
    exact ⟨rfl, Bel.refl _ _⟩
  · have hq : ¬ (100 : Int) < p.length := by omega
    cases he : elemsB importB p with
    | true =>
      have HV : Hid (importR p = 0) := by show importR p = 0; unfold importR; rw [if_neg h1, he]; rfl
      have HE := hide he
      clear he
      rw [unhide HV]
      go_enter Tryz.func143, Tryz.ntmps143
      go_wp2_with (go_at_call 166; fail)
      refine (elems_any import_asks (enters_of Tryz.func186 (by kernel_rfl) rfl) hl hg).mono ?_
      rintro e w1 ⟨rfl, b1⟩
      rw [unhide HE]
      go_wp2
      go_ret
      exact ⟨rfl, b1⟩
    | false =>
      have HV : Hid (importR p = 9) := by show importR p = 9; unfold importR; rw [if_neg h1, he]; rfl
      have HE := hide he
      clear he
      rw [unhide HV]
      go_enter Tryz.func143, Tryz.ntmps143
      go_wp2_with (go_at_call 166; fail)
      refine (elems_any import_asks (enters_of Tryz.func186 (by kernel_rfl) rfl) hl hg).mono ?_
      rintro e w1 ⟨rfl, b1⟩
      rw [unhide HE]
      go_wp2
      go_ret
      exact ⟨rfl, b1⟩

theorem host_is {l : Str} {b : Bool} (h : hostOk l = b) (hl : l.length < 4294967281) {w : World} (hg : Gd w) : Calls Tryz.prog 168 #[.string (ba l)] w fun e w' => e = .returned (.bool b) ∧ w' = w := by rw [← h]; exact host_any hl hg

set_option maxHeartbeats 1000000 in
theorem path_any {p : Str} {w : World} (hl : p.length < 4294967281) (hg : Gd w) : Gives 133 #[.string (ba p)] w (.int .i64 (pathR p : Int)) := by
  unfold Gives
  have hsz : (ba p).size = p.length := ba_size p
  by_cases h1 : 100 < p.length
  · have HV : Hid (pathR p = 13) := by show pathR p = 13; unfold pathR; rw [if_pos h1]
    have hq : (100 : Int) < p.length := by omega
    rw [unhide HV]
    go_enter Tryz.func133, Tryz.ntmps133
    go_wp2
    go_ret
    exact ⟨rfl, Bel.refl _ _⟩
  · have hq : ¬ (100 : Int) < p.length := by omega
    cases he : elemsB pathB p with
    | false =>
      have HV : Hid (pathR p = 9) := by show pathR p = 9; unfold pathR; rw [if_neg h1, he]; rfl
      have HE := hide he
      clear he
      rw [unhide HV]
      go_enter Tryz.func133, Tryz.ntmps133
      go_wp2_with (go_at_call 96; fail)
      refine (cut_any 47 hl hg).mono ?_
      rintro e w1 ⟨rfl, b1⟩
      go_wp2_with (go_at_call 166; fail)
      refine (elems_any path_asks (enters_of Tryz.func167 (by kernel_rfl) rfl) hl (hg.below b1)).mono ?_
      rintro e w2 ⟨rfl, b2⟩
      rw [unhide HE]
      have B2 := hide (below_trans b1 b2)
      have hal := ahead_le 47 p
      have hg2 := hg.below (unhide B2)
      clear b1 b2
      go_wp2
      go_ret
      exact ⟨rfl, unhide B2⟩
    | true =>
      cases hh : hostOk (ahead 47 p) with
      | false =>
        have HV : Hid (pathR p = 9) := by show pathR p = 9; unfold pathR; rw [if_neg h1, he, hh]; rfl
        have HE := hide he
        have HH := hide hh
        clear he hh
        rw [unhide HV]
        go_enter Tryz.func133, Tryz.ntmps133
        go_wp2_with (go_at_call 96; fail)
        refine (cut_any 47 hl hg).mono ?_
        rintro e w1 ⟨rfl, b1⟩
        go_wp2_with (go_at_call 166; fail)
        refine (elems_any path_asks (enters_of Tryz.func167 (by kernel_rfl) rfl) hl (hg.below b1)).mono ?_
        rintro e w2 ⟨rfl, b2⟩
        rw [unhide HE]
        have B2 := hide (below_trans b1 b2)
        have hal := ahead_le 47 p
        have hg2 := hg.below (unhide B2)
        clear b1 b2
        go_wp2_with (go_at_call 168; refine (host_is (unhide HH) (by omega) hg2).mono ?_; rintro e w3 ⟨rfl, hw⟩; rw [hw]; clear hw w3)
        go_ret
        exact ⟨rfl, unhide B2⟩
      | true =>
        by_cases hm : (majorR p).2 = 0
        · cases hk : looksB p with
          | true =>
            have HV : Hid (pathR p = 10) := by show pathR p = 10; unfold pathR; rw [if_neg h1, he, hh, hm, hk]; rfl
            have HE := hide he
            have HH := hide hh
            have HM := hide hm
            have HK := hide hk
            clear he hh hm hk
            rw [unhide HV]
            go_enter Tryz.func133, Tryz.ntmps133
            go_wp2_with (go_at_call 96; fail)
            refine (cut_any 47 hl hg).mono ?_
            rintro e w1 ⟨rfl, b1⟩
            go_wp2_with (go_at_call 166; fail)
            refine (elems_any path_asks (enters_of Tryz.func167 (by kernel_rfl) rfl) hl (hg.below b1)).mono ?_
            rintro e w2 ⟨rfl, b2⟩
            rw [unhide HE]
            have B2 := hide (below_trans b1 b2)
            have hal := ahead_le 47 p
            have hg2 := hg.below (unhide B2)
            clear b1 b2
            go_wp2_with (first | (go_at_call 168; refine (host_is (unhide HH) (by omega) hg2).mono ?_; rintro e w3 ⟨rfl, hw⟩; rw [hw]; clear hw w3) | (go_at_call 169; fail))
            refine (major_any hl _).mono ?_
            rintro e w3 ⟨rfl, b3⟩
            rw [unhide HM]
            have B3 := hide ((unhide B2).trans (b3.mono (unhide B2).size))
            clear b3
            go_wp2_with (go_at_call 170; refine (looks_is (unhide HK) hl _).mono ?_; rintro e w3 ⟨rfl, hw⟩; rw [hw]; clear hw w3)
            go_ret
            exact ⟨rfl, unhide B3⟩
          | false =>
            have HV : Hid (pathR p = 0) := by show pathR p = 0; unfold pathR; rw [if_neg h1, he, hh, hm, hk]; rfl
            have HE := hide he
            have HH := hide hh
            have HM := hide hm
            have HK := hide hk
            clear he hh hm hk
            rw [unhide HV]
            go_enter Tryz.func133, Tryz.ntmps133
            go_wp2_with (go_at_call 96; fail)
            refine (cut_any 47 hl hg).mono ?_
            rintro e w1 ⟨rfl, b1⟩
            go_wp2_with (go_at_call 166; fail)
            refine (elems_any path_asks (enters_of Tryz.func167 (by kernel_rfl) rfl) hl (hg.below b1)).mono ?_
            rintro e w2 ⟨rfl, b2⟩
            rw [unhide HE]
            have B2 := hide (below_trans b1 b2)
            have hal := ahead_le 47 p
            have hg2 := hg.below (unhide B2)
            clear b1 b2
            go_wp2_with (first | (go_at_call 168; refine (host_is (unhide HH) (by omega) hg2).mono ?_; rintro e w3 ⟨rfl, hw⟩; rw [hw]; clear hw w3) | (go_at_call 169; fail))
            refine (major_any hl _).mono ?_
            rintro e w3 ⟨rfl, b3⟩
            rw [unhide HM]
            have B3 := hide ((unhide B2).trans (b3.mono (unhide B2).size))
            clear b3
            go_wp2_with (go_at_call 170; refine (looks_is (unhide HK) hl _).mono ?_; rintro e w3 ⟨rfl, hw⟩; rw [hw]; clear hw w3)
            go_ret
            exact ⟨rfl, unhide B3⟩
        · have HV : Hid (pathR p = 0) := by show pathR p = 0; unfold pathR; rw [if_neg h1, he, hh]; simp [hm]
          have HE := hide he
          have HH := hide hh
          have hmi : ¬ ((majorR p).2 : Int) = 0 := by omega
          clear he hh hm
          rw [unhide HV]
          go_enter Tryz.func133, Tryz.ntmps133
          go_wp2_with (go_at_call 96; fail)
          refine (cut_any 47 hl hg).mono ?_
          rintro e w1 ⟨rfl, b1⟩
          go_wp2_with (go_at_call 166; fail)
          refine (elems_any path_asks (enters_of Tryz.func167 (by kernel_rfl) rfl) hl (hg.below b1)).mono ?_
          rintro e w2 ⟨rfl, b2⟩
          rw [unhide HE]
          have B2 := hide (below_trans b1 b2)
          have hal := ahead_le 47 p
          have hg2 := hg.below (unhide B2)
          clear b1 b2
          go_wp2_with (first | (go_at_call 168; refine (host_is (unhide HH) (by omega) hg2).mono ?_; rintro e w3 ⟨rfl, hw⟩; rw [hw]; clear hw w3) | (go_at_call 169; fail))
          refine (major_any hl _).mono ?_
          rintro e w3 ⟨rfl, b3⟩
          have B3 := hide ((unhide B2).trans (b3.mono (unhide B2).size))
          clear b3
          go_wp2
          go_ret
          exact ⟨rfl, unhide B3⟩

end Go.Proofs.YthcafeoamabkgaaGreatDoor
