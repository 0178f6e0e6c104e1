/-
  What a sum is, as a plain function; ValidSum.
-/
import Derived.Test.YthcafeoamabkgaaGreatDoorBase
namespace Go.Proofs.YthcafeoamabkgaaGreatDoor
open Go.RowKit

def headL : Str := [104, 49, 58]
def signsL : Str := [65, 66, 67, 68, 69, 70, 71, 72, 73, 74, 75, 76, 77, 78, 79, 80, 81, 82, 83, 84, 85, 86, 87, 88, 89, 90, 97, 98, 99, 100, 101, 102, 103, 104, 105, 106, 107, 108, 109, 110, 111, 112, 113, 114, 115, 116, 117, 118, 119, 120, 121, 122, 48, 49, 50, 51, 52, 53, 54, 55, 56, 57, 43, 47]

/-- The place of a sign among the signs, or -1. -/
def signAt (c : UInt8) : Int := Lib.indexByte signsL c

/-- The place of the last of these signs, 0 of none; none, if one is no sign. -/
def lastOf : Str → Int → Option Int
  | [], l => some l
  | c :: s, _ => if signAt c < 0 then none else lastOf s (signAt c)

/-- The last sign's spare bits are not set. -/
def endB (l : Int) : Bool := bits BinOp.and IntKind.i64 l 3 == 0

def sumB (s : Str) : Bool :=
  Lib.hasPrefix s headL && Lib.hasSuffix (Lib.trimPrefix s headL) [61] && decide ((Lib.trimSuffix (Lib.trimPrefix s headL) [61]).length = 43) &&
    match lastOf (Lib.trimSuffix (Lib.trimPrefix s headL) [61]) 0 with
    | none => false
    | some l => endB l

theorem last_next {c : Str} {k : Nat} {l : Int} (hk : k < c.length) (h : lastOf (c.take k) 0 = some l) (hs : ¬ signAt c[k] < 0) : lastOf (c.take (k + 1)) 0 = some (signAt c[k]) := by
  rw [List.take_succ_eq_append_getElem hk]
  generalize c.take k = d at h
  have : ∀ (d : Str) (z : Int), lastOf d z = some l → lastOf (d ++ [c[k]]) z = some (signAt c[k]) := by
    intro d
    induction d with
    | nil => intro z _; simp [lastOf, hs]
    | cons x d ih =>
      intro z hz
      simp only [lastOf, List.cons_append] at hz ⊢
      split at hz
      · cases hz
      · rename_i hx; rw [if_neg hx]; exact ih _ hz
  exact this d 0 h
theorem last_none {c : Str} {k : Nat} {l : Int} (hk : k < c.length) (h : lastOf (c.take k) 0 = some l) (hs : signAt c[k] < 0) : lastOf c 0 = none := by
  have e : c = c.take k ++ c[k] :: c.drop (k + 1) := by rw [List.getElem_cons_drop, List.take_append_drop]
  have : ∀ (d r : Str) (z : Int), lastOf d z = some l → lastOf (d ++ c[k] :: r) z = none := by
    intro d
    induction d with
    | nil => intro r z _; simp [lastOf, hs]
    | cons x d ih =>
      intro r z hz
      simp only [lastOf, List.cons_append] at hz ⊢
      split at hz
      · cases hz
      · rename_i hx; rw [if_neg hx]; exact ih _ _ hz
  rw [e]
  exact this _ _ 0 h

set_option maxHeartbeats 1000000 in
theorem validSum_any (s : Str) (hs : s.length ≤ 1099511627776) (w : World) :
    Calls Tryz.prog 25 #[.string (ba s)] w fun e w' => e = .returned (.bool (sumB s)) ∧ w' = w := by
  have hb := Lib.trimPrefix_le s headL
  have hb2 := Lib.trimSuffix_le (Lib.trimPrefix s headL) [61]
  obtain ⟨b, hbb⟩ : ∃ b, Lib.trimPrefix s headL = b := ⟨_, rfl⟩
  rw [hbb] at hb hb2
  obtain ⟨c, hc⟩ : ∃ c, Lib.trimSuffix b [61] = c := ⟨_, rfl⟩
  rw [hc] at hb2
  obtain ⟨b1, h1⟩ : ∃ b1, Lib.hasPrefix s headL = b1 := ⟨_, rfl⟩
  obtain ⟨b2, h2⟩ : ∃ b2, Lib.hasSuffix b [61] = b2 := ⟨_, rfl⟩
  have HV : Hid (sumB s = (b1 && b2 && decide (c.length = 43) && match lastOf c 0 with | none => false | some l => endB l)) := by
    show sumB s = _
    unfold sumB
    rw [hbb, h1, h2, hc]
  have P1 : Hid (∀ w, Calls Tryz.prog 65 #[.string (ba s), .string (ba headL)] w fun e w' => e = .returned (.tuple #[.string (ba b), .bool b1]) ∧ w' = w) := fun w => by
    have := Tryz.strings_CutPrefix (ba s) (ba headL) w
    rw [ba_data, ba_data, h1, hbb] at this
    exact this
  have P2 : Hid (∀ w, Calls Tryz.prog 66 #[.string (ba b), .string (ba [61])] w fun e w' => e = .returned (.tuple #[.string (ba c), .bool b2]) ∧ w' = w) := fun w => by
    have := Tryz.strings_CutSuffix (ba b) (ba [61]) w (by rw [ba_size]; omega)
    rw [ba_data, ba_data, h2, hc] at this
    exact this
  have P3 : Hid (∀ (x : UInt8) w, Calls Tryz.prog 67 #[.string (ba signsL), .int .u8 (x.toNat : Int)] w fun e w' => e = .returned (.int .i64 (signAt x)) ∧ w' = w) := fun x w => by
    have := Tryz.strings_IndexByte (ba signsL) (x.toNat : Int) w
    rw [ba_data, Int.toNat_natCast, show x.toNat.toUInt8 = x by simp] at this
    exact this
  have hsz : (ba c).size = c.length := ba_size c
  clear h1 h2 hc hbb hb
  by_cases hall : b1 = true ∧ b2 = true ∧ c.length = 43
  · obtain ⟨rfl, rfl, hl⟩ := hall
    have HV' : Hid (sumB s = match lastOf c 0 with | none => false | some l => endB l) := by have := unhide HV; rw [hl] at this; exact hide (by simpa using this)
    clear HV
    go_enter Tryz.func25, Tryz.ntmps25
    go_wp2_with (go_at_call 65; fail)
    refine (unhide P1 _).mono ?_
    rintro e w1 ⟨rfl, hw⟩
    rw [hw]; clear hw w1
    go_wp2_with (go_at_call 66; fail)
    refine (unhide P2 _).mono ?_
    rintro e w1 ⟨rfl, hw⟩
    rw [hw]; clear hw w1
    go_wp2
    go_loop [7, 8, 32] (fun v7 _ v32 => ∃ (k : Nat) (l : Int), k ≤ 43 ∧ v32 = .int .i64 k ∧ v7 = .int .i64 l ∧ lastOf (c.take k) 0 = some l) (fun _ _ v32 => 43 - (intOf v32).toNat)
    case atStart => exact ⟨0, 0, Nat.zero_le _, rfl, rfl, rfl⟩
    case round =>
      obtain ⟨k, l, hk, rfl, rfl, hlast⟩ := hrel
      have HL := hide hlast
      clear hlast
      by_cases hlt : k < 43
      · have hkc : k < c.length := by omega
        have gx : (ba c)[k]'(by omega) = c[k] := ba_get c k hkc
        obtain ⟨x, hx⟩ : ∃ x, c[k] = x := ⟨_, rfl⟩
        rw [hx] at gx
        by_cases hneg : signAt x < 0
        · have HN := hide (last_none hkc (unhide HL) (by rw [hx]; exact hneg))
          rw [unhide HN] at HV'
          clear hx
          go_wp2_with (go_at_call 67; fail)
          refine (unhide P3 x _).mono ?_
          rintro e w1 ⟨rfl, hw⟩
          rw [hw]; clear hw w1
          go_wp2
          go_ret
          exact ⟨ret_bool (unhide HV').symm, rfl⟩
        · have HN := hide (last_next hkc (unhide HL) (by rw [hx]; exact hneg))
          rw [hx] at HN
          have hpos : 0 ≤ signAt x := by omega
          clear hx hneg
          go_wp2_with (go_at_call 67; fail)
          refine (unhide P3 x _).mono ?_
          rintro e w1 ⟨rfl, hw⟩
          rw [hw]; clear hw w1
          go_wp2
          go_round
          case rel => exact ⟨k + 1, signAt x, hlt, by simp, rfl, unhide HN⟩
          case measure => simp [intOf]; omega
      · have hkc : c.take k = c := List.take_of_length_le (by omega)
        rw [hkc] at HL
        rw [unhide HL] at HV'
        clear hkc
        go_wp2
        go_ret
        exact ⟨ret_bool (by rw [unhide HV']; rfl), rfl⟩
  · have HV' : Hid (sumB s = false) := by
      show sumB s = false
      rw [unhide HV]
      cases b1 <;> cases b2 <;> simp at hall ⊢
      simp [hall]
    clear HV
    cases b1 with
    | false =>
      go_enter Tryz.func25, Tryz.ntmps25
      go_wp2_with (go_at_call 65; fail)
      refine (unhide P1 _).mono ?_
      rintro e w1 ⟨rfl, hw⟩
      rw [hw]; clear hw w1
      go_wp2_with (go_at_call 66; fail)
      refine (unhide P2 _).mono ?_
      rintro e w1 ⟨rfl, hw⟩
      rw [hw]; clear hw w1
      go_wp2
      go_ret
      exact ⟨ret_bool (unhide HV').symm, rfl⟩
    | true =>
      cases b2 with
      | false =>
        go_enter Tryz.func25, Tryz.ntmps25
        go_wp2_with (go_at_call 65; fail)
        refine (unhide P1 _).mono ?_
        rintro e w1 ⟨rfl, hw⟩
        rw [hw]; clear hw w1
        go_wp2_with (go_at_call 66; fail)
        refine (unhide P2 _).mono ?_
        rintro e w1 ⟨rfl, hw⟩
        rw [hw]; clear hw w1
        go_wp2
        go_ret
        exact ⟨ret_bool (unhide HV').symm, rfl⟩
      | true =>
        have hl : ¬ c.length = 43 := by simpa using hall
        have hl2 : ((c.length : Int) != 43) = true := by simp; omega
        clear hall
        go_enter Tryz.func25, Tryz.ntmps25
        go_wp2_with (go_at_call 65; fail)
        refine (unhide P1 _).mono ?_
        rintro e w1 ⟨rfl, hw⟩
        rw [hw]; clear hw w1
        go_wp2_with (go_at_call 66; fail)
        refine (unhide P2 _).mono ?_
        rintro e w1 ⟨rfl, hw⟩
        rw [hw]; clear hw w1
        go_wp2
        go_ret
        exact ⟨ret_bool (unhide HV').symm, rfl⟩

end Go.Proofs.YthcafeoamabkgaaGreatDoor
