/-
  The contracts of standsFor and Glob.
-/
import Derived.Test.YthcafeoamabkgaaGreatDoorGlobQ
import Derived.Test.YthcafeoamabkgaaGreatDoorBase
namespace Go.Proofs.YthcafeoamabkgaaGreatDoor
open Go.RowKit

theorem stands_any (c d : UInt8) (w : World) : Calls Tryz.prog 78 #[.int .u8 (c.toNat : Int), .int .u8 (d.toNat : Int)] w fun e w' => e = .returned (.bool (standsB c d)) ∧ w' = w := by
  have hin : ∀ x y : UInt8, ((x.toNat : Int) = (y.toNat : Int)) ↔ x = y := fun x y => ⟨fun h => UInt8.toNat_inj.1 (by omega), fun h => by rw [h]⟩
  have e1 : ((c.toNat : Int) == 63) = decide (c = 63) := by
    rw [Bool.eq_iff_iff]; simp only [beq_iff_eq, decide_eq_true_eq]; exact hin c 63
  have e2 : ((d.toNat : Int) != 47) = (d != 47) := by
    rw [Bool.eq_iff_iff]; simp only [bne_iff_ne, ne_eq]; exact not_congr (hin d 47)
  have e3 : ((c.toNat : Int) == (d.toNat : Int)) = (c == d) := by
    rw [Bool.eq_iff_iff]; simp only [beq_iff_eq]; exact hin c d
  by_cases h : c = 63
  · have HV : Hid (standsB c d = (d != 47)) := by show standsB c d = _; unfold standsB; rw [if_pos h]
    have hq : ((c.toNat : Int) == 63) = true := by rw [e1]; simpa using h
    have hq2 : (c.toNat : Int) = 63 := by simpa using hq
    clear e1 e3 h hq hin
    go_enter Tryz.func78, Tryz.ntmps78
    go_wp2
    go_ret
    exact ⟨ret_bool (by rw [unhide HV, ← e2]), rfl⟩
  · have HV : Hid (standsB c d = (c == d)) := by show standsB c d = _; unfold standsB; rw [if_neg h]
    have hq : ((c.toNat : Int) == 63) = false := by rw [e1]; simpa using h
    have hq2 : ¬ (c.toNat : Int) = 63 := by simpa using hq
    clear e1 e2 h hin
    go_enter Tryz.func78, Tryz.ntmps78
    go_wp2
    go_ret
    exact ⟨ret_bool (by rw [unhide HV, ← e3]), rfl⟩

theorem stands_is {c d : UInt8} {b : Bool} (h : standsB c d = b) (w : World) : Calls Tryz.prog 78 #[.int .u8 (c.toNat : Int), .int .u8 (d.toNat : Int)] w fun e w' => e = .returned (.bool b) ∧ w' = w := by rw [← h]; exact stands_any c d w

theorem u8_ne {c : UInt8} {k : Nat} (hk : k < 256) (h : c ≠ UInt8.ofNat k) : ¬ (c.toNat : Int) = (k : Int) := by
  intro e
  apply h
  apply UInt8.toNat_inj.1
  rw [UInt8.toNat_ofNat']
  omega

set_option maxHeartbeats 4000000 in
theorem glob_any {P S : Str} (hP : P.length ≤ 1099511627776) (hS : S.length ≤ 1099511627776) (w : World) :
    Calls Tryz.prog 39 #[.string (ba P), .string (ba S)] w fun e w' => e = .returned (.bool (matchR P S)) ∧ ∃ n, w' = w.drewN n := by
  have hszP : (ba P).size = P.length := ba_size P
  have hszS : (ba S).size = S.length := ba_size S
  go_enter Tryz.func39, Tryz.ntmps39
  go_wp2
  go_loopw [5, 6, 7, 8, 13, 28, 46] (fun v5 v6 v7 v8 _ _ _ wr => ∃ (p i tk : Nat) (bs : Int) (nr : Nat), v5 = .int .i64 p ∧ v6 = .int .i64 i ∧ v7 = .int .i64 bs ∧ v8 = .int .i64 tk ∧ wr = w.drewN nr ∧ GInv P S p i bs tk) (fun v5 _ v7 v8 _ _ _ _ => gM P.length S.length (intOf v5).toNat (intOf v8).toNat (intOf v7 + 1).toNat)
  case atStart => exact ⟨0, 0, 0, -1, 0, rfl, rfl, rfl, rfl, rfl, ginv_start P S⟩
  case round =>
    obtain ⟨p, i, tk, bs, nr, rfl, rfl, rfl, rfl, hwr, hinv⟩ := hrel
    rename World => wr
    have hp := hinv.hp
    have hi := hinv.hi
    have htk := ginv_take hinv
    have hbs := ginv_bs hinv
    have HI := hide hinv
    have HW := hide hwr
    clear hinv hwr
    by_cases hlt : i < S.length
    · have gs : (ba S)[i]'(by omega) = S[i] := ba_get S i hlt
      obtain ⟨d, hd⟩ : ∃ d, S[i] = d := ⟨_, rfl⟩
      rw [hd] at gs
      by_cases hpl : p < P.length
      · have gp : (ba P)[p]'(by omega) = P[p] := ba_get P p hpl
        obtain ⟨c, hc⟩ : ∃ c, P[p] = c := ⟨_, rfl⟩
        rw [hc] at gp
        by_cases hst : c = 42
        · have hq : (c.toNat : Int) = 42 := by rw [hst]; rfl
          have HN := hide (ginv_star (unhide HI) hpl (hc.trans hst))
          have HM := hide (gM_star (np := P.length) (ns := S.length) (p := p) (tk := tk) (tk' := i) (b1 := (bs + 1).toNat) hpl (by omega))
          clear hst hc hd hbs
          go_wp2
          go_roundw
          case rel => exact ⟨p + 1, i, i, ((p + 1 : Nat) : Int), nr, by simp, rfl, by simp, rfl, unhide HW, unhide HN⟩
          case measure =>
            have e1 : ((p : Int) + 1).toNat = p + 1 := by omega
            have e2 : ((p : Int) + 1 + 1).toNat = p + 2 := by omega
            simp only [intOf, Int.toNat_natCast]
            rw [e1, e2]
            exact unhide HM
        · have hq : ¬ (c.toNat : Int) = 42 := u8_ne (k := 42) (by omega) hst
          have hq' : ((c.toNat : Int) == 42) = false := by simpa using hq
          cases hsb : standsB c d with
          | true =>
            have HS := hide hsb
            have HN := hide (ginv_lit (unhide HI) hpl hlt (by rw [hc]; exact hst) (by rw [hc, hd]; exact hsb))
            have HM := hide (gM_lit (np := P.length) (ns := S.length) (p := p) (tk := tk) (b1 := (bs + 1).toNat) hpl)
            clear hst hc hd hbs hsb
            go_wp2
            go_quiet ((go_at_call 78; exact Calls.quiet_of_same (stands_is (unhide HS) _)))
            go_wp2
            go_roundw
            case rel => exact ⟨p + 1, i + 1, tk, bs, nr + nq, by simp, by simp, rfl, rfl, by rw [unhide HW, World.drewN_drewN], unhide HN⟩
            case measure =>
              have e1 : ((p : Int) + 1).toNat = p + 1 := by omega
              simp only [intOf, Int.toNat_natCast]
              rw [e1]
              exact unhide HM
          | false =>
            have HS := hide hsb
            have HMISS := hide (miss_lit hpl hlt (by rw [hc]; exact hst) (by rw [hc, hd]; exact hsb))
            clear hst hc hd hsb
            have hbs' := hbs
            rcases hbs' with hb | ⟨b, hb, hbp⟩
            · subst hb
              have HV := hide (ginv_none (unhide HI) (unhide HMISS))
              go_wp2
              go_quiet ((go_at_call 78; exact Calls.quiet_of_same (stands_is (unhide HS) _)))
              go_wp2
              go_ret
              exact ⟨ret_bool (unhide HV).symm, nr + nq, by rw [unhide HW, World.drewN_drewN]⟩
            · subst hb
              have htl : tk < S.length := by omega
              have gt : (ba S)[tk]'(by omega) = S[tk] := ba_get S tk htl
              obtain ⟨x, hx⟩ : ∃ x, S[tk] = x := ⟨_, rfl⟩
              rw [hx] at gt
              have hb0 : (0 : Int) ≤ (b : Int) := by omega
              by_cases hsl : x = 47
              · have HV := hide (ginv_slash (unhide HI) (unhide HMISS) htl (hx.trans hsl))
                have hq3 : (x.toNat : Int) = 47 := by rw [hsl]; rfl
                clear hx hsl
                go_wp2
                go_quiet ((go_at_call 78; exact Calls.quiet_of_same (stands_is (unhide HS) _)))
                go_wp2
                go_ret
                exact ⟨ret_bool (unhide HV).symm, nr + nq, by rw [unhide HW, World.drewN_drewN]⟩
              · have HN := hide (ginv_back (unhide HI) hlt (unhide HMISS) htl (by rw [hx]; exact hsl))
                have hq3 : ¬ (x.toNat : Int) = 47 := u8_ne (k := 47) (by omega) hsl
                have HM := hide (gM_back (np := P.length) (ns := S.length) (p := p) (p' := b) (tk := tk) (b1 := b + 1) htl)
                clear hx hsl
                go_wp2
                go_quiet ((go_at_call 78; exact Calls.quiet_of_same (stands_is (unhide HS) _)))
                go_wp2
                go_roundw
                case rel => exact ⟨b, tk + 1, tk + 1, (b : Int), nr + nq, rfl, by simp, rfl, by simp, by rw [unhide HW, World.drewN_drewN], unhide HN⟩
                case measure =>
                  have e1 : ((tk : Int) + 1).toNat = tk + 1 := by omega
                  have e2 : ((b : Int) + 1).toNat = b + 1 := by omega
                  simp only [intOf, Int.toNat_natCast]
                  rw [e1, e2]
                  exact unhide HM
      · have HMISS := hide (miss_end (P := P) (S := S) (p := p) (i := i) (by omega) hlt)
        have hpe : ¬ (p : Int) < (P.length : Int) := by omega
        have hpe2 : decide (p < P.length) = false := by simpa using hpl
        clear hd
        have hbs' := hbs
        rcases hbs' with hb | ⟨b, hb, hbp⟩
        · subst hb
          have HV := hide (ginv_none (unhide HI) (unhide HMISS))
          go_wp2
          go_quiet (fail)
          go_wp2
          go_ret
          exact ⟨ret_bool (unhide HV).symm, nr + nq, by rw [unhide HW, World.drewN_drewN]⟩
        · subst hb
          have htl : tk < S.length := by omega
          have gt : (ba S)[tk]'(by omega) = S[tk] := ba_get S tk htl
          obtain ⟨x, hx⟩ : ∃ x, S[tk] = x := ⟨_, rfl⟩
          rw [hx] at gt
          have hb0 : (0 : Int) ≤ (b : Int) := by omega
          by_cases hsl : x = 47
          · have HV := hide (ginv_slash (unhide HI) (unhide HMISS) htl (hx.trans hsl))
            have hq3 : (x.toNat : Int) = 47 := by rw [hsl]; rfl
            clear hx hsl
            go_wp2
            go_quiet (fail)
            go_wp2
            go_ret
            exact ⟨ret_bool (unhide HV).symm, nr + nq, by rw [unhide HW, World.drewN_drewN]⟩
          · have HN := hide (ginv_back (unhide HI) hlt (unhide HMISS) htl (by rw [hx]; exact hsl))
            have hq3 : ¬ (x.toNat : Int) = 47 := u8_ne (k := 47) (by omega) hsl
            have HM := hide (gM_back (np := P.length) (ns := S.length) (p := p) (p' := b) (tk := tk) (b1 := b + 1) htl)
            clear hx hsl
            go_wp2
            go_quiet (fail)
            go_wp2
            go_roundw
            case rel => exact ⟨b, tk + 1, tk + 1, (b : Int), nr + nq, rfl, by simp, rfl, by simp, by rw [unhide HW, World.drewN_drewN], unhide HN⟩
            case measure =>
              have e1 : ((tk : Int) + 1).toNat = tk + 1 := by omega
              have e2 : ((b : Int) + 1).toNat = b + 1 := by omega
              simp only [intOf, Int.toNat_natCast]
              rw [e1, e2]
              exact unhide HM
    · obtain rfl : i = S.length := by omega
      have HV := hide (ginv_end (unhide HI))
      have hsl : (ba P).extract p P.length = ba (P.drop p) := by
        rw [Lib.extract_eq, ba_data, List.take_of_length_le (by rw [List.length_drop]; omega)]; rfl
      have HT := hide (fun w => Tryz.strings_Trim_one (ba (P.drop p)) 42 (by decide) w (by rw [ba_size, List.length_drop]; omega))
      clear hbs
      go_wp2_with (go_at_call 79; fail)
      refine (unhide HT _).mono ?_
      rintro e w1 ⟨rfl, hw1⟩
      rw [ba_data]
      have HW1 : Hid (∃ n, w1 = w.drewN n) := by
        rcases hw1 with h | h
        · exact ⟨nr, by rw [h]; exact unhide HW⟩
        · exact ⟨nr + 1, by rw [h, unhide HW]; rfl⟩
      clear hw1
      have hq : ((⟨(Lib.trimB (P.drop p) 42).toArray⟩ : ByteArray).toList == (⟨#[]⟩ : ByteArray).toList) = matchR P S := by
        rw [unhide HV, ← trim_stars]
        have e1 : (⟨(Lib.trimB (P.drop p) 42).toArray⟩ : ByteArray).toList = Lib.trimB (P.drop p) 42 := ba_list _
        have e2 : (⟨#[]⟩ : ByteArray).toList = [] := ba_list []
        rw [e1, e2]
      go_wp2
      go_ret
      exact ⟨ret_bool (by simpa using hq), unhide HW1⟩

end Go.Proofs.YthcafeoamabkgaaGreatDoor
