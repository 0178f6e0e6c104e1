/-
  The reference's Glob: the same plain function.
-/
import Derived.Test.YthcafeoamabkgaaGreatDoorGlobS
import Derived.Test.YthcafeoamabkgaaGreatDoorGlob
import Derived.Test.YthcafeoamabkgaaGreatDoorMatch
import Derived.OwnWalk
namespace Go.Proofs.YthcafeoamabkgaaGreatDoor
open Go.RowKit

theorem low_grown {w0 w w' : World} {B : Nat} (h : Below B w0 w) (hB : B ≤ w.heap.size) (hg : w.grownBy w' none) : Below B w0 w' := h.grown hg hB (by intro k hk; cases hk)

theorem u8_beq {c : UInt8} {k : Nat} (hk : k < 256) (h : c ≠ UInt8.ofNat k) : ((c.toNat : Int) == (k : Int)) = false := by
  have := u8_ne hk h
  simpa using this
theorem u8_bne47 {c : UInt8} (h : ¬ c = 47) : ((c.toNat : Int) != 47) = true := by
  have := u8_ne (k := 47) (by omega) h
  simpa using this
theorem u8_neq {c d : UInt8} (h : ¬ c = d) : ((c.toNat : Int) == (d.toNat : Int)) = false := by
  have : ¬ c.toNat = d.toNat := fun e => h (UInt8.toNat_inj.1 e)
  simp
  omega

/-- The second loop, as it goes on. -/
def Gl2 (p s : Str) (w : World) (v5 v7 : Value) (wr : World) : Prop :=
  ∃ k b : Nat, k ≤ s.length ∧ v7 = .int .i64 k ∧ v5 = .slice (some ⟨b, 0, none⟩) (p.length + 1) (p.length + 1) ∧ w.heap.size ≤ b ∧ BRow wr b (p.length + 1) (fun j => matchR (p.take j) (s.take k)) ∧ Below w.heap.size w wr

/-- The third loop, as it goes on. -/
def Gl3 (p s : Str) (w : World) (k b c : Nat) (v9 : Value) (wr : World) : Prop :=
  ∃ i : Nat, i ≤ p.length ∧ v9 = .int .i64 i ∧ BRow wr c (p.length + 1) (gF p s k i) ∧ BRow wr b (p.length + 1) (fun j => matchR (p.take j) (s.take k)) ∧ Below w.heap.size w wr

theorem gl3_next {p s : Str} {w wr : World} {k b c i : Nat} {v : Bool} (hc : w.heap.size ≤ c) (hne : b ≠ c) (hi : i < p.length) (hv : matchR (p.take (i + 1)) (s.take (k + 1)) = v) (h1 : BRow wr c (p.length + 1) (gF p s k i)) (h2 : BRow wr b (p.length + 1) (fun j => matchR (p.take j) (s.take k))) (h3 : Below w.heap.size w wr) :
    Gl3 p s w k b c (.int .i64 ((i : Int) + 1)) (wr.setCell ⟨c, i + 1, none⟩ (.bool v)) :=
  ⟨i + 1, hi, by simp, (h1.set (i + 1) v).cong (fun j _ => gF_next hv), h2.other hne _, h3.setCell hc _⟩

theorem Gl3.drew {p s : Str} {w wr : World} {k b c : Nat} {v : Value} (h : Gl3 p s w k b c v wr) : Gl3 p s w k b c v wr.drew := by
  obtain ⟨i, h1, h2, h3, h4, h5⟩ := h
  exact ⟨i, h1, h2, h3.same rfl, h4.same rfl, h5.drew⟩

set_option maxRecDepth 100000 in
set_option maxHeartbeats 8000000 in
theorem refGlob_any {p s : Str} (hP : p.length ≤ 1099511627776) (hS : s.length ≤ 1099511627776) (w : World) :
    Calls Tryz.prog 40 #[.string (ba p), .string (ba s)] w fun e w' => e = .returned (.bool (matchR p s)) ∧ Below w.heap.size w w' := by
  obtain ⟨i0, hi, hz0, hz1, hz2⟩ := info_parts info4
  have hp := ba_size p
  have hs := ba_size s
  go_enter Tryz.func40, Tryz.ntmps40
  go_wp2_with (at_make; refine wpList_make_full _ rfl _ _ 127 rfl w.heap.size 4 i0 (.bool false) 1 Tryz.underlying127 hi hz0 hz1 _ _ _ _ (p.length + 1) rfl rfl (by simp) (by simp) (by rw [hz2]; omega) (by unfold maxLen; omega) (Nat.le_refl _) ?_; intro w1 hown hgrow; have HR := hide (BRow.made hown); have HL := hide (low_grown (Below.refl w.heap.size w) (Nat.le_refl _) hgrow); have c0 := (unhide HR).cell (i := 0) (by omega); have f0 := (unhide HR).free 0; clear hown hgrow)
  have HR1 : Hid (BRow (w1.setCell ⟨w.heap.size, 0, none⟩ (.bool true)) w.heap.size (p.length + 1) (fun j => decide (j ≤ 0))) := hide (((unhide HR).set 0 true).cong (fun j _ => by by_cases h : j = 0 <;> simp [h]))
  have HL1 := hide ((unhide HL).setCell (p := ⟨w.heap.size, 0, none⟩) (Nat.le_refl _) (.bool true))
  clear c0 f0 HR HL
  go_loopw [6] (fun v6 wr => ∃ i : Nat, i ≤ p.length ∧ v6 = .int .i64 i ∧ (p.take i).all (fun c => c == 42) = true ∧ BRow wr w.heap.size (p.length + 1) (fun j => decide (j ≤ i)) ∧ Below w.heap.size w wr) (fun v6 _ => p.length - (intOf v6).toNat)
  case atStart => exact ⟨0, Nat.zero_le _, rfl, by simp, unhide HR1, unhide HL1⟩
  case round =>
    obtain ⟨i, hip, rfl, hall, hrow, hlow⟩ := hrel
    rename World => wr
    clear HR1 HL1
    have HA := hide hall
    have HR := hide hrow
    have HL := hide hlow
    clear hall hrow hlow
    by_cases hst : ∃ h : i < p.length, p[i] = 42
    · obtain ⟨hlt, hc⟩ := hst
      have gx : (ba p)[i]'(by omega) = 42 := by rw [ba_get p i hlt, hc]
      have c1 := (unhide HR).cell (i := i + 1) (by omega)
      have f1 := (unhide HR).free (i + 1)
      have HA1 : Hid ((p.take (i + 1)).all (fun c => c == 42) = true) := hide (by rw [take_snoc hlt, List.all_append, unhide HA, hc]; rfl)
      have HR1 : Hid (BRow (wr.setCell ⟨w.heap.size, i + 1, none⟩ (.bool true)) w.heap.size (p.length + 1) (fun j => decide (j ≤ i + 1))) := hide (((unhide HR).set (i + 1) true).cong (fun j _ => by
        by_cases h : j = i + 1
        · rw [if_pos h]; simp [h]
        · rw [if_neg h]
          by_cases h2 : j ≤ i
          · have h3 : j ≤ i + 1 := by omega
            rw [decide_eq_true h2, decide_eq_true h3]
          · have h3 : ¬ j ≤ i + 1 := by omega
            rw [decide_eq_false h2, decide_eq_false h3]))
      have HL1 := hide ((unhide HL).setCell (p := ⟨w.heap.size, i + 1, none⟩) (Nat.le_refl _) (.bool true))
      clear hc
      go_wp2
      go_roundw
      case rel => exact ⟨i + 1, hlt, by simp, unhide HA1, unhide HR1, unhide HL1⟩
      case measure => simp [intOf]; omega
    · have HF : Hid (BRow wr w.heap.size (p.length + 1) (fun j => matchR (p.take j) (s.take 0))) := hide ((unhide HR).cong (fun j hj => first_row (unhide HA) (fun h e => hst ⟨h, e⟩) j (by omega)))
      have hex : (¬ i < p.length) ∨ ∃ (h : i < p.length) (c : UInt8), p[i] = c ∧ ((c.toNat : Int) == 42) = false := by
        by_cases hlt : i < p.length
        · exact Or.inr ⟨hlt, p[i], rfl, u8_beq (k := 42) (by omega) (fun e => hst ⟨hlt, e⟩)⟩
        · exact Or.inl hlt
      clear hst HA HR
      rcases hex with hlt | ⟨hlt, c, hc, hcn⟩
      · go_wp2
        go_loopw [5, 7, 8, 9, 68, 91] (fun v5 v7 _ _ _ _ wr => Gl2 p s w v5 v7 wr) (fun _ v7 _ _ _ _ _ => s.length - (intOf v7).toNat)
        case atStart => exact ⟨0, w.heap.size, Nat.zero_le _, rfl, rfl, Nat.le_refl _, unhide HF, unhide HL⟩
        case round =>
          rename World => wq
          obtain ⟨k, b, hk, rfl, rfl, hb, hrow, hlow⟩ := hrel
          have HR2 := hide hrow
          have HL2 := hide hlow
          clear hrow hlow
          by_cases hks : k < s.length
          · have gs : (ba s)[k]'(by omega) = s[k] := ba_get s k hks
            obtain ⟨d, hd⟩ : ∃ d, s[k] = d := ⟨_, rfl⟩
            rw [hd] at gs
            have HD := hide hd
            clear hd
            have hcw : w.heap.size ≤ wq.heap.size := (unhide HL2).size
            have hne : b ≠ wq.heap.size := Nat.ne_of_lt (unhide HR2).lt
            go_wp2_with (at_make; refine wpList_make_full _ rfl _ _ 127 rfl w.heap.size 4 i0 (.bool false) 1 Tryz.underlying127 hi hz0 hz1 _ _ _ _ (p.length + 1) rfl rfl (by simp) (by simp) (by rw [hz2]; omega) (by unfold maxLen; omega) hcw ?_; intro w3 hown3 hgrow3; have HC3 := hide ((BRow.made hown3).cong (g := gF p s k 0) (fun j _ => (gF_zero hks j).symm)); have HB3 := hide ((unhide HR2).same (hgrow3.block b (unhide HR2).lt (by simp))); have HL3 := hide (low_grown (unhide HL2) (unhide HL2).size hgrow3); clear hown3 hgrow3)
            go_loopw [9, 68, 91] (fun v9 _ _ wr => Gl3 p s w k b wq.heap.size v9 wr) (fun v9 _ _ _ => p.length - (intOf v9).toNat)
            case atStart => exact ⟨0, Nat.zero_le _, rfl, unhide HC3, unhide HB3, unhide HL3⟩
            case round =>
              rename World => w4
              obtain ⟨i, hip, rfl, h1, h2, h3⟩ := hrel
              have HC4 := hide h1
              have HB4 := hide h2
              have HL4 := hide h3
              clear h1 h2 h3 HC3 HB3 HL3
              by_cases hlt : i < p.length
              · have gp : (ba p)[i]'(by omega) = p[i] := ba_get p i hlt
                have k1 := (unhide HC4).cell (i := i) (by omega)
                have k2 := (unhide HC4).cell (i := i + 1) (by omega)
                have fz := (unhide HC4).free (i + 1)
                have m1 := (unhide HB4).cell (i := i) (by omega)
                have m2 := (unhide HB4).cell (i := i + 1) (by omega)
                have hs1 := gl_star hlt hks
                have hl1 := gl_lit hlt hks
                rw [gF_here] at k1
                obtain ⟨e, he⟩ : ∃ e, p[i] = e := ⟨_, rfl⟩
                rw [he] at gp
                rw [he, unhide HD] at hs1 hl1
                clear he
                by_cases e42 : e = 42
                · have q42 : ((e.toNat : Int) == 42) = true := by rw [e42]; rfl
                  have hv := hs1 e42
                  clear hs1 hl1 e42 m1
                  cases x1 : matchR (p.take i) (s.take (k + 1)) with
                  | true =>
                    rw [x1] at k1 hv
                    have HV : Hid (matchR (p.take (i + 1)) (s.take (k + 1)) = true) := hide (by rw [hv]; rfl)
                    clear hv x1
                    go_wp2
                    go_roundw
                    case rel => exact gl3_next hcw hne hlt (unhide HV) (unhide HC4) (unhide HB4) (unhide HL4)
                    case measure => simp [intOf]; omega
                  | false =>
                    rw [x1] at k1 hv
                    cases x2 : matchR (p.take (i + 1)) (s.take k) with
                    | false =>
                      rw [x2] at m2 hv
                      have HV : Hid (matchR (p.take (i + 1)) (s.take (k + 1)) = false) := hide (by rw [hv]; rfl)
                      clear hv x1 x2
                      go_wp2
                      go_roundw
                      case rel => exact gl3_next hcw hne hlt (unhide HV) (unhide HC4) (unhide HB4) (unhide HL4)
                      case measure => simp [intOf]; omega
                    | true =>
                      rw [x2] at m2 hv
                      by_cases d47 : d = 47
                      · have qd : ((d.toNat : Int) != 47) = false := by rw [d47]; rfl
                        have HV : Hid (matchR (p.take (i + 1)) (s.take (k + 1)) = false) := hide (by rw [hv, d47]; rfl)
                        clear hv x1 x2 d47
                        go_wp2
                        go_roundw
                        case rel => exact gl3_next hcw hne hlt (unhide HV) (unhide HC4) (unhide HB4) (unhide HL4)
                        case measure => simp [intOf]; omega
                      · have qd : ((d.toNat : Int) != 47) = true := u8_bne47 d47
                        have HV : Hid (matchR (p.take (i + 1)) (s.take (k + 1)) = true) := hide (by rw [hv]; simp [d47])
                        clear hv x1 x2 d47
                        go_wp2
                        go_roundw
                        case rel => exact gl3_next hcw hne hlt (unhide HV) (unhide HC4) (unhide HB4) (unhide HL4)
                        case measure => simp [intOf]; omega
                · have q42 : ((e.toNat : Int) == 42) = false := u8_beq (k := 42) (by omega) e42
                  have hv := hl1 e42
                  clear hs1 hl1 k1 m2
                  by_cases e63 : e = 63
                  · have q63 : ((e.toNat : Int) == 63) = true := by rw [e63]; rfl
                    rw [e63] at hv
                    cases x3 : matchR (p.take i) (s.take k) with
                    | false =>
                      rw [x3] at m1 hv
                      have HV : Hid (matchR (p.take (i + 1)) (s.take (k + 1)) = false) := hide (by rw [hv]; rfl)
                      clear hv x3 e63 e42
                      go_wp2
                      go_roundw
                      case rel => exact gl3_next hcw hne hlt (unhide HV) (unhide HC4) (unhide HB4) (unhide HL4)
                      case measure => simp [intOf]; omega
                    | true =>
                      rw [x3] at m1 hv
                      by_cases d47 : d = 47
                      · have qd : ((d.toNat : Int) != 47) = false := by rw [d47]; rfl
                        have HV : Hid (matchR (p.take (i + 1)) (s.take (k + 1)) = false) := hide (by rw [hv, d47]; rfl)
                        clear hv x3 d47 e63 e42
                        go_wp2
                        go_roundw
                        case rel => exact gl3_next hcw hne hlt (unhide HV) (unhide HC4) (unhide HB4) (unhide HL4)
                        case measure => simp [intOf]; omega
                      · have qd : ((d.toNat : Int) != 47) = true := u8_bne47 d47
                        have HV : Hid (matchR (p.take (i + 1)) (s.take (k + 1)) = true) := hide (by rw [hv]; simp [standsB, d47])
                        clear hv x3 d47 e63 e42
                        go_wp2
                        go_roundw
                        case rel => exact gl3_next hcw hne hlt (unhide HV) (unhide HC4) (unhide HB4) (unhide HL4)
                        case measure => simp [intOf]; omega
                  · have q63 : ((e.toNat : Int) == 63) = false := u8_beq (k := 63) (by omega) e63
                    cases x3 : matchR (p.take i) (s.take k) with
                    | false =>
                      rw [x3] at m1 hv
                      have HV : Hid (matchR (p.take (i + 1)) (s.take (k + 1)) = false) := hide (by rw [hv]; rfl)
                      clear hv x3 e63 e42
                      go_wp2
                      go_region
                      all_goals
                        go_wp2
                        go_roundw
                        case rel => exact (gl3_next hcw hne hlt (unhide HV) (unhide HC4) (unhide HB4) (unhide HL4)).drew
                        case measure => simp [intOf]; omega
                    | true =>
                      rw [x3] at m1 hv
                      by_cases de : d = e
                      · have qd : ((d.toNat : Int) == (e.toNat : Int)) = true := by rw [de]; simp
                        have HV : Hid (matchR (p.take (i + 1)) (s.take (k + 1)) = true) := hide (by rw [hv]; simp [standsB, e63, de])
                        clear hv x3 de e63 e42
                        go_wp2
                        go_region
                        all_goals
                          go_wp2
                          go_roundw
                          case rel => exact (gl3_next hcw hne hlt (unhide HV) (unhide HC4) (unhide HB4) (unhide HL4)).drew
                          case measure => simp [intOf]; omega
                      · have qd : ((d.toNat : Int) == (e.toNat : Int)) = false := u8_neq de
                        have HV : Hid (matchR (p.take (i + 1)) (s.take (k + 1)) = false) := hide (by rw [hv]; simp [standsB, e63]; exact fun h => de h.symm)
                        clear hv x3 de e63 e42
                        go_wp2
                        go_region
                        all_goals
                          go_wp2
                          go_roundw
                          case rel => exact (gl3_next hcw hne hlt (unhide HV) (unhide HC4) (unhide HB4) (unhide HL4)).drew
                          case measure => simp [intOf]; omega
              · have hie : i = p.length := by omega
                have HC5 : Hid (BRow w4 wq.heap.size (p.length + 1) (fun j => matchR (p.take j) (s.take (k + 1)))) := hide ((unhide HC4).cong (fun j hj => gF_full (by omega)))
                go_wp2
                go_roundw
                case rel => exact ⟨k + 1, wq.heap.size, hks, by simp, rfl, hcw, unhide HC5, unhide HL4⟩
                case measure => simp [intOf]; omega
          · have hke : s.take k = s := List.take_of_length_le (by omega)
            have cf := (unhide HR2).cell (i := p.length) (by omega)
            rw [hke, List.take_length] at cf
            obtain ⟨r, hr⟩ : ∃ r, matchR p s = r := ⟨_, rfl⟩
            rw [hr] at cf
            have HRR := hide hr
            clear hke hr
            go_wp2
            go_ret
            exact ⟨ret_bool (unhide HRR).symm, unhide HL2⟩
      · have gx : (ba p)[i]'(by omega) = c := by rw [ba_get p i hlt, hc]
        clear hc
        go_wp2
        go_loopw [5, 7, 8, 9, 68, 91] (fun v5 v7 _ _ _ _ wr => Gl2 p s w v5 v7 wr) (fun _ v7 _ _ _ _ _ => s.length - (intOf v7).toNat)
        case atStart => exact ⟨0, w.heap.size, Nat.zero_le _, rfl, rfl, Nat.le_refl _, unhide HF, unhide HL⟩
        case round =>
          rename World => wq
          obtain ⟨k, b, hk, rfl, rfl, hb, hrow, hlow⟩ := hrel
          have HR2 := hide hrow
          have HL2 := hide hlow
          clear hrow hlow
          by_cases hks : k < s.length
          · have gs : (ba s)[k]'(by omega) = s[k] := ba_get s k hks
            obtain ⟨d, hd⟩ : ∃ d, s[k] = d := ⟨_, rfl⟩
            rw [hd] at gs
            have HD := hide hd
            clear hd
            have hcw : w.heap.size ≤ wq.heap.size := (unhide HL2).size
            have hne : b ≠ wq.heap.size := Nat.ne_of_lt (unhide HR2).lt
            go_wp2_with (at_make; refine wpList_make_full _ rfl _ _ 127 rfl w.heap.size 4 i0 (.bool false) 1 Tryz.underlying127 hi hz0 hz1 _ _ _ _ (p.length + 1) rfl rfl (by simp) (by simp) (by rw [hz2]; omega) (by unfold maxLen; omega) hcw ?_; intro w3 hown3 hgrow3; have HC3 := hide ((BRow.made hown3).cong (g := gF p s k 0) (fun j _ => (gF_zero hks j).symm)); have HB3 := hide ((unhide HR2).same (hgrow3.block b (unhide HR2).lt (by simp))); have HL3 := hide (low_grown (unhide HL2) (unhide HL2).size hgrow3); clear hown3 hgrow3)
            go_loopw [9, 68, 91] (fun v9 _ _ wr => Gl3 p s w k b wq.heap.size v9 wr) (fun v9 _ _ _ => p.length - (intOf v9).toNat)
            case atStart => exact ⟨0, Nat.zero_le _, rfl, unhide HC3, unhide HB3, unhide HL3⟩
            case round =>
              rename World => w4
              obtain ⟨i, hip, rfl, h1, h2, h3⟩ := hrel
              have HC4 := hide h1
              have HB4 := hide h2
              have HL4 := hide h3
              clear h1 h2 h3 HC3 HB3 HL3
              by_cases hlt : i < p.length
              · have gp : (ba p)[i]'(by omega) = p[i] := ba_get p i hlt
                have k1 := (unhide HC4).cell (i := i) (by omega)
                have k2 := (unhide HC4).cell (i := i + 1) (by omega)
                have fz := (unhide HC4).free (i + 1)
                have m1 := (unhide HB4).cell (i := i) (by omega)
                have m2 := (unhide HB4).cell (i := i + 1) (by omega)
                have hs1 := gl_star hlt hks
                have hl1 := gl_lit hlt hks
                rw [gF_here] at k1
                obtain ⟨e, he⟩ : ∃ e, p[i] = e := ⟨_, rfl⟩
                rw [he] at gp
                rw [he, unhide HD] at hs1 hl1
                clear he
                by_cases e42 : e = 42
                · have q42 : ((e.toNat : Int) == 42) = true := by rw [e42]; rfl
                  have hv := hs1 e42
                  clear hs1 hl1 e42 m1
                  cases x1 : matchR (p.take i) (s.take (k + 1)) with
                  | true =>
                    rw [x1] at k1 hv
                    have HV : Hid (matchR (p.take (i + 1)) (s.take (k + 1)) = true) := hide (by rw [hv]; rfl)
                    clear hv x1
                    go_wp2
                    go_roundw
                    case rel => exact gl3_next hcw hne hlt (unhide HV) (unhide HC4) (unhide HB4) (unhide HL4)
                    case measure => simp [intOf]; omega
                  | false =>
                    rw [x1] at k1 hv
                    cases x2 : matchR (p.take (i + 1)) (s.take k) with
                    | false =>
                      rw [x2] at m2 hv
                      have HV : Hid (matchR (p.take (i + 1)) (s.take (k + 1)) = false) := hide (by rw [hv]; rfl)
                      clear hv x1 x2
                      go_wp2
                      go_roundw
                      case rel => exact gl3_next hcw hne hlt (unhide HV) (unhide HC4) (unhide HB4) (unhide HL4)
                      case measure => simp [intOf]; omega
                    | true =>
                      rw [x2] at m2 hv
                      by_cases d47 : d = 47
                      · have qd : ((d.toNat : Int) != 47) = false := by rw [d47]; rfl
                        have HV : Hid (matchR (p.take (i + 1)) (s.take (k + 1)) = false) := hide (by rw [hv, d47]; rfl)
                        clear hv x1 x2 d47
                        go_wp2
                        go_roundw
                        case rel => exact gl3_next hcw hne hlt (unhide HV) (unhide HC4) (unhide HB4) (unhide HL4)
                        case measure => simp [intOf]; omega
                      · have qd : ((d.toNat : Int) != 47) = true := u8_bne47 d47
                        have HV : Hid (matchR (p.take (i + 1)) (s.take (k + 1)) = true) := hide (by rw [hv]; simp [d47])
                        clear hv x1 x2 d47
                        go_wp2
                        go_roundw
                        case rel => exact gl3_next hcw hne hlt (unhide HV) (unhide HC4) (unhide HB4) (unhide HL4)
                        case measure => simp [intOf]; omega
                · have q42 : ((e.toNat : Int) == 42) = false := u8_beq (k := 42) (by omega) e42
                  have hv := hl1 e42
                  clear hs1 hl1 k1 m2
                  by_cases e63 : e = 63
                  · have q63 : ((e.toNat : Int) == 63) = true := by rw [e63]; rfl
                    rw [e63] at hv
                    cases x3 : matchR (p.take i) (s.take k) with
                    | false =>
                      rw [x3] at m1 hv
                      have HV : Hid (matchR (p.take (i + 1)) (s.take (k + 1)) = false) := hide (by rw [hv]; rfl)
                      clear hv x3 e63 e42
                      go_wp2
                      go_roundw
                      case rel => exact gl3_next hcw hne hlt (unhide HV) (unhide HC4) (unhide HB4) (unhide HL4)
                      case measure => simp [intOf]; omega
                    | true =>
                      rw [x3] at m1 hv
                      by_cases d47 : d = 47
                      · have qd : ((d.toNat : Int) != 47) = false := by rw [d47]; rfl
                        have HV : Hid (matchR (p.take (i + 1)) (s.take (k + 1)) = false) := hide (by rw [hv, d47]; rfl)
                        clear hv x3 d47 e63 e42
                        go_wp2
                        go_roundw
                        case rel => exact gl3_next hcw hne hlt (unhide HV) (unhide HC4) (unhide HB4) (unhide HL4)
                        case measure => simp [intOf]; omega
                      · have qd : ((d.toNat : Int) != 47) = true := u8_bne47 d47
                        have HV : Hid (matchR (p.take (i + 1)) (s.take (k + 1)) = true) := hide (by rw [hv]; simp [standsB, d47])
                        clear hv x3 d47 e63 e42
                        go_wp2
                        go_roundw
                        case rel => exact gl3_next hcw hne hlt (unhide HV) (unhide HC4) (unhide HB4) (unhide HL4)
                        case measure => simp [intOf]; omega
                  · have q63 : ((e.toNat : Int) == 63) = false := u8_beq (k := 63) (by omega) e63
                    cases x3 : matchR (p.take i) (s.take k) with
                    | false =>
                      rw [x3] at m1 hv
                      have HV : Hid (matchR (p.take (i + 1)) (s.take (k + 1)) = false) := hide (by rw [hv]; rfl)
                      clear hv x3 e63 e42
                      go_wp2
                      go_region
                      all_goals
                        go_wp2
                        go_roundw
                        case rel => exact (gl3_next hcw hne hlt (unhide HV) (unhide HC4) (unhide HB4) (unhide HL4)).drew
                        case measure => simp [intOf]; omega
                    | true =>
                      rw [x3] at m1 hv
                      by_cases de : d = e
                      · have qd : ((d.toNat : Int) == (e.toNat : Int)) = true := by rw [de]; simp
                        have HV : Hid (matchR (p.take (i + 1)) (s.take (k + 1)) = true) := hide (by rw [hv]; simp [standsB, e63, de])
                        clear hv x3 de e63 e42
                        go_wp2
                        go_region
                        all_goals
                          go_wp2
                          go_roundw
                          case rel => exact (gl3_next hcw hne hlt (unhide HV) (unhide HC4) (unhide HB4) (unhide HL4)).drew
                          case measure => simp [intOf]; omega
                      · have qd : ((d.toNat : Int) == (e.toNat : Int)) = false := u8_neq de
                        have HV : Hid (matchR (p.take (i + 1)) (s.take (k + 1)) = false) := hide (by rw [hv]; simp [standsB, e63]; exact fun h => de h.symm)
                        clear hv x3 de e63 e42
                        go_wp2
                        go_region
                        all_goals
                          go_wp2
                          go_roundw
                          case rel => exact (gl3_next hcw hne hlt (unhide HV) (unhide HC4) (unhide HB4) (unhide HL4)).drew
                          case measure => simp [intOf]; omega
              · have hie : i = p.length := by omega
                have HC5 : Hid (BRow w4 wq.heap.size (p.length + 1) (fun j => matchR (p.take j) (s.take (k + 1)))) := hide ((unhide HC4).cong (fun j hj => gF_full (by omega)))
                go_wp2
                go_roundw
                case rel => exact ⟨k + 1, wq.heap.size, hks, by simp, rfl, hcw, unhide HC5, unhide HL4⟩
                case measure => simp [intOf]; omega
          · have hke : s.take k = s := List.take_of_length_le (by omega)
            have cf := (unhide HR2).cell (i := p.length) (by omega)
            rw [hke, List.take_length] at cf
            obtain ⟨r, hr⟩ : ∃ r, matchR p s = r := ⟨_, rfl⟩
            rw [hr] at cf
            have HRR := hide hr
            clear hke hr
            go_wp2
            go_ret
            exact ⟨ret_bool (unhide HRR).symm, unhide HL2⟩

end Go.Proofs.YthcafeoamabkgaaGreatDoor
