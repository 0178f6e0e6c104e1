/-
  The check of a lock's lines, as they come.
-/
import Derived.Test.YthcafeoamabkgaaGreatDoorSet
import Derived.Test.YthcafeoamabkgaaGreatDoorModC
import Derived.Deep.RegionHeld3
namespace Go.Proofs.YthcafeoamabkgaaGreatDoor
open Go.RowKit Go.WideMaps Go.Maps

def enOf (x : Ln) : En := (x.p, x.v, x.k)
/-- The error of a line, with those ahead. -/
def checkE (ks : List En) (x : Ln) : Int :=
  if x.k ≠ 0 ∧ x.k ≠ 1 then 7 else if checkR x.p x.v ≠ 0 then (checkR x.p x.v : Int) else if sumB x.s then (if enOf x ∈ ks then 12 else 0) else 16
def checkK (ks : List En) (x : Ln) : List En := if checkE ks x = 0 then enOf x :: ks else ks

structure LnOk (x : Ln) : Prop where
  p : x.p.length < 4294967281
  v : x.v.length < 4294967281
  s : x.s.length < 4294967281

theorem LnOk.en {x : Ln} (h : LnOk x) (hk : x.k = 0 ∨ x.k = 1) : EnOk (enOf x) := by
  refine ⟨?_, ?_, ?_⟩
  · have := h.p; show x.p.length ≤ maxLen; unfold maxLen; omega
  · have := h.v; show x.v.length ≤ maxLen; unfold maxLen; omega
  · show (Lit.int .i64 x.k).wf = true
    rcases hk with e | e <;> (rw [e]; decide)

theorem SetAt.up {w : World} {M n : Nat} {ks : List En} (h : SetAt w M n ks) : SetAt w M (n + 1) ks := by
  obtain ⟨D, h1, h2⟩ := h.own
  exact ⟨⟨D, h1.mono (Nat.le_succ _), h2⟩⟩

/-- What the check leaves. -/
def Checked (M n : Nat) (ks : List En) (x : Ln) (w : World) (e : Ending) (w' : World) : Prop := e = .returned (.int .i64 (checkE ks x)) ∧ SetAt w' M (n + 1) (checkK ks x) ∧ But M w w'


theorem box_line {w : World} (x : Ln) {w1 : World} (b1 : Below (w.alloc (.cells (lnC x) 38)).heap.size (w.alloc (.cells (lnC x) 38)) w1) : Blk w1 w.heap.size (lnC x) 38 ∧ Below w.heap.size w w1 := by
  have a : Below w.heap.size w (w.alloc (.cells (lnC x) 38)) := (Below.refl _ _).alloc (Nat.le_refl _) _
  exact ⟨(Blk.new w _ _).low b1, a.trans (b1.mono a.size)⟩

/-- What the check reads, as it goes on. -/
abbrev HeldC (w : World) (c M : Nat) (x : Ln) (wq : World) : Prop :=
  wq.cell? ⟨c, 0, none⟩ = some (.map (some M)) ∧ wq.cell? ⟨w.heap.size, 0, none⟩ = some (.string (ba x.p)) ∧ wq.cell? ⟨w.heap.size, 1, none⟩ = some (.string (ba x.v)) ∧ wq.cell? ⟨w.heap.size, 2, none⟩ = some (.int .i64 x.k) ∧ wq.cell? ⟨w.heap.size, 3, none⟩ = some (.string (ba x.s)) ∧ Blk wq w.heap.size (lnC x) 38 ∧ Below w.heap.size w wq

theorem HeldC.mk' {w wq : World} {c M : Nat} {x : Ln} (hc : w.cell? ⟨c, 0, none⟩ = some (.map (some M))) (k : Blk wq w.heap.size (lnC x) 38) (b : Below w.heap.size w wq) : HeldC w c M x wq :=
  ⟨(b.cell (p := ⟨c, 0, none⟩) (lt_of_cell hc)).trans hc, k.cell 0, k.cell 1, k.cell 2, k.cell 3, k, b⟩
theorem HeldC.on {w wq w' : World} {c M : Nat} {x : Ln} (hc : w.cell? ⟨c, 0, none⟩ = some (.map (some M))) (h : HeldC w c M x wq) (b : Below wq.heap.size wq w') : HeldC w c M x w' :=
  HeldC.mk' hc (h.2.2.2.2.2.1.low b) (low_trans h.2.2.2.2.2.2 b)
theorem HeldC.drew {w wq : World} {c M : Nat} {x : Ln} (h : HeldC w c M x wq) : HeldC w c M x wq.drew := ⟨h.1, h.2.1, h.2.2.1, h.2.2.2.1, h.2.2.2.2.1, h.2.2.2.2.2.1, h.2.2.2.2.2.2.drew⟩

theorem entry_held {w wq : World} {c M : Nat} {x : Ln} (hc : w.cell? ⟨c, 0, none⟩ = some (.map (some M))) (h : HeldC w c M x wq) :
    Calls Tryz.prog 53 #[.agg #[.string (ba x.p), .string (ba x.v), .int .i64 x.k, .string (ba x.s)]] wq fun e w' => e = .returned (.agg #[.string (ba x.p), .string (ba x.v), .int .i64 x.k]) ∧ HeldC w c M x w' := by
  refine (entryOf_any (x := x) wq).mono ?_
  rintro e w' ⟨rfl, b⟩
  exact ⟨rfl, h.on hc b⟩

theorem has_held {w wq : World} {c M n : Nat} {ks : List En} {x : Ln} {r : Bool} (hc : w.cell? ⟨c, 0, none⟩ = some (.map (some M))) (hs : SetAt w M n ks) (hx : EnOk (enOf x)) (hr : decide (enOf x ∈ ks) = r) (h : HeldC w c M x wq) :
    Calls Tryz.prog 86 #[.map (some M), .agg #[.string (ba x.p), .string (ba x.v), .int .i64 x.k]] wq fun e w' => e = .returned (.bool r) ∧ HeldC w c M x w' := by
  refine (has_any (x := enOf x) (hs.low h.2.2.2.2.2.2) hx).mono ?_
  rintro e w' ⟨rfl, b⟩
  exact ⟨ret_bool hr, h.on hc b⟩

set_option maxHeartbeats 2000000 in
theorem check_any {w : World} {c M n : Nat} {ks : List En} {x : Ln} (hg : Gd w) (hc : w.cell? ⟨c, 0, none⟩ = some (.map (some M))) (hs : SetAt w M n ks) (hx : LnOk x) (hn : n ≤ 1000000) :
    Calls Tryz.prog 84 #[lnV x, .pointer (some ⟨c, 0, none⟩)] w (Checked M n ks x w) := by
  have a0 : Below w.heap.size w (w.alloc (.cells (lnC x) 38)) := (Below.refl _ _).alloc (Nat.le_refl _) _
  have HA0 := hide a0
  by_cases hk : x.k ≠ 0 ∧ x.k ≠ 1
  · have HV : Hid (checkE ks x = 7) := by show checkE ks x = 7; unfold checkE; rw [if_pos hk]
    have HF : Hid (∀ w', Below w.heap.size w w' → Checked M n ks x w (.returned (.int .i64 7)) w') := fun w' b => ⟨by rw [unhide HV], by unfold checkK; rw [unhide HV, if_neg (by decide)]; exact (hs.low b).up, But.of b⟩
    obtain ⟨h0, h1⟩ := hk
    obtain ⟨p, v, k, s⟩ := x
    simp only at h0 h1
    have e0 : (k != 0) = true := by simpa using h0
    have e1 : (k != 1) = true := by simpa using h1
    clear hg hc hs hx a0 HV
    go_enter Tryz.func84, Tryz.ntmps84
    go_wp2
    go_ret
    exact (unhide HF) _ (unhide HA0)
  · have hk01 : x.k = 0 ∨ x.k = 1 := by omega
    have hen := hx.en hk01
    have HG := hide hg
    have HC := hide hc
    have HS := hide hs
    have HX := hide hx
    have HEN := hide hen
    have HE : Hid (checkE ks x = if checkR x.p x.v ≠ 0 then (checkR x.p x.v : Int) else if sumB x.s then (if enOf x ∈ ks then 12 else 0) else 16) := by show checkE ks x = _; unfold checkE; rw [if_neg hk]
    have HF : Hid (∀ z w', checkE ks x = z → z ≠ 0 → Below w.heap.size w w' → Checked M n ks x w (.returned (.int .i64 z)) w') := fun z w' hz h0 b => ⟨by rw [hz], by unfold checkK; rw [hz, if_neg h0]; exact ((unhide HS).low b).up, But.of b⟩
    obtain ⟨m, hm⟩ : ∃ m, checkR x.p x.v = m := ⟨_, rfl⟩
    have HM := hide (check_is hm hx.p (hg.low a0))
    rw [hm] at HE
    have hk2 : x.k = 0 ∨ ¬ x.k = 0 ∧ x.k = 1 := by omega
    clear hg hc hs hx hen hm a0
    by_cases hm0 : m = 0
    · subst hm0
      have HE' : Hid (checkE ks x = if sumB x.s then (if enOf x ∈ ks then 12 else 0) else 16) := by have := unhide HE; exact hide (by simpa using this)
      have hxs : x.s.length ≤ 1099511627776 := by have := (unhide HX).s; omega
      have HS1 := hide (fun w => validSum_any x.s hxs w)
      cases hsb : sumB x.s with
      | false =>
        have HF2 : Hid (∀ w', Below w.heap.size w w' → Checked M n ks x w (.returned (.int .i64 16)) w') := fun w' b => (unhide HF) _ w' (by rw [unhide HE', hsb]; rfl) (by omega) b
        rw [hsb] at HS1
        obtain ⟨p, v, k, s⟩ := x
        simp only at hk2 HM HS1 hxs
        clear HE HE' HF HG HC HS HX HEN hk hk01 hsb
        rcases hk2 with rfl | ⟨_, rfl⟩
        all_goals
          go_enter Tryz.func84, Tryz.ntmps84
          go_wp2_with (go_at_call 85; fail)
          refine (unhide HM).mono ?_
          rintro e w1 ⟨rfl, b1⟩
          obtain ⟨k1, hlow⟩ := box_line _ b1.low
          have c3 : w1.cell? ⟨w.heap.size, 3, none⟩ = some (.string (ba s)) := k1.cell 3
          have HB := hide hlow
          clear b1 k1 hlow
          go_wp2_with (go_at_call 25; fail)
          refine (unhide HS1 _).mono ?_
          rintro e w2 ⟨rfl, hw⟩
          rw [hw]; clear hw w2
          go_wp2
          go_ret
          exact (unhide HF2) _ (unhide HB)
      | true =>
        rw [hsb] at HS1
        obtain ⟨r, hr⟩ : ∃ r, decide (enOf x ∈ ks) = r := ⟨_, rfl⟩
        have HR := hide hr
        cases r with
        | true =>
          have HF2 : Hid (∀ w', Below w.heap.size w w' → Checked M n ks x w (.returned (.int .i64 12)) w') := fun w' b => (unhide HF) _ w' (by rw [unhide HE', hsb, if_pos rfl, if_pos (by simpa using hr)]) (by omega) b
          clear HE HE' HF HG HX hk hk01 hsb hr
          obtain ⟨p, v, k, s⟩ := x
          simp only at hk2 HM HS1 hxs
          rcases hk2 with rfl | ⟨_, rfl⟩
          · go_enter Tryz.func84, Tryz.ntmps84
            go_wp2_with (go_at_call 85; fail)
            refine (unhide HM).mono ?_
            rintro e w1 ⟨rfl, b1⟩
            obtain ⟨k1, hlow⟩ := box_line _ b1.low
            have H1 : HeldC w c M ⟨p, v, 0, s⟩ w1 := HeldC.mk' (unhide HC) k1 hlow
            obtain ⟨q0, q1, q2, q3, q4, _, _⟩ := id H1
            clear b1 k1 hlow
            go_wp2_with (go_at_call 25; fail)
            refine (unhide HS1 _).mono ?_
            rintro e w2 ⟨rfl, hw⟩
            rw [hw]; clear hw w2
            go_wp2
            go_region_held3 (fun w' => w'.cell? ⟨c, 0, none⟩ = some (.map (some M)) ∧ w'.cell? ⟨w.heap.size, 0, none⟩ = some (.string (ba p)) ∧ w'.cell? ⟨w.heap.size, 1, none⟩ = some (.string (ba v)) ∧ w'.cell? ⟨w.heap.size, 2, none⟩ = some (.int .i64 0) ∧ w'.cell? ⟨w.heap.size, 3, none⟩ = some (.string (ba s)) ∧ Blk w' w.heap.size (lnC ⟨p, v, 0, s⟩) 38 ∧ Below w.heap.size w w')
              (first | assumption | exact HeldC.drew (by assumption) | exact H1 | exact HeldC.drew H1)
              (first
                | (go_at_call 53; refine (entry_held (x := ⟨p, v, 0, s⟩) (unhide HC) (by assumption)).mono ?_; rintro e w' ⟨rfl, k⟩)
                | (go_at_call 86; refine (has_held (x := ⟨p, v, 0, s⟩) (unhide HC) (unhide HS) (unhide HEN) (unhide HR) (by assumption)).mono ?_; rintro e w' ⟨rfl, k⟩))
            have kz := k
            have HB : Hid (Below w.heap.size w w') := kz.2.2.2.2.2.2
            go_wp2
            go_ret
            exact (unhide HF2) _ (unhide HB)
          · go_enter Tryz.func84, Tryz.ntmps84
            go_wp2_with (go_at_call 85; fail)
            refine (unhide HM).mono ?_
            rintro e w1 ⟨rfl, b1⟩
            obtain ⟨k1, hlow⟩ := box_line _ b1.low
            have H1 : HeldC w c M ⟨p, v, 1, s⟩ w1 := HeldC.mk' (unhide HC) k1 hlow
            obtain ⟨q0, q1, q2, q3, q4, _, _⟩ := id H1
            clear b1 k1 hlow
            go_wp2_with (go_at_call 25; fail)
            refine (unhide HS1 _).mono ?_
            rintro e w2 ⟨rfl, hw⟩
            rw [hw]; clear hw w2
            go_wp2
            go_region_held3 (fun w' => w'.cell? ⟨c, 0, none⟩ = some (.map (some M)) ∧ w'.cell? ⟨w.heap.size, 0, none⟩ = some (.string (ba p)) ∧ w'.cell? ⟨w.heap.size, 1, none⟩ = some (.string (ba v)) ∧ w'.cell? ⟨w.heap.size, 2, none⟩ = some (.int .i64 1) ∧ w'.cell? ⟨w.heap.size, 3, none⟩ = some (.string (ba s)) ∧ Blk w' w.heap.size (lnC ⟨p, v, 1, s⟩) 38 ∧ Below w.heap.size w w')
              (first | assumption | exact HeldC.drew (by assumption) | exact H1 | exact HeldC.drew H1)
              (first
                | (go_at_call 53; refine (entry_held (x := ⟨p, v, 1, s⟩) (unhide HC) (by assumption)).mono ?_; rintro e w' ⟨rfl, k⟩)
                | (go_at_call 86; refine (has_held (x := ⟨p, v, 1, s⟩) (unhide HC) (unhide HS) (unhide HEN) (unhide HR) (by assumption)).mono ?_; rintro e w' ⟨rfl, k⟩))
            have kz := k
            have HB : Hid (Below w.heap.size w w') := kz.2.2.2.2.2.2
            go_wp2
            go_ret
            exact (unhide HF2) _ (unhide HB)
        | false =>
          have HZ : Hid (checkE ks x = 0) := by show checkE ks x = 0; rw [unhide HE', hsb, if_pos rfl, if_neg (by simpa using hr)]
          have HF3 : Hid (∀ w8 w9, Below w.heap.size w w8 → SetAt w9 M (n + 1) (enOf x :: ks) → But M w8 w9 → Checked M n ks x w (.returned (.int .i64 0)) w9) := fun w8 w9 b h9 k9 => ⟨by rw [unhide HZ], by unfold checkK; rw [unhide HZ, if_pos rfl]; exact h9, (But.of b).trans k9⟩
          clear HZ
          clear HE HE' HF HG HX hk hk01 hsb hr
          obtain ⟨p, v, k, s⟩ := x
          simp only at hk2 HM HS1 hxs
          rcases hk2 with rfl | ⟨_, rfl⟩
          · go_enter Tryz.func84, Tryz.ntmps84
            go_wp2_with (go_at_call 85; fail)
            refine (unhide HM).mono ?_
            rintro e w1 ⟨rfl, b1⟩
            obtain ⟨k1, hlow⟩ := box_line _ b1.low
            have H1 : HeldC w c M ⟨p, v, 0, s⟩ w1 := HeldC.mk' (unhide HC) k1 hlow
            obtain ⟨q0, q1, q2, q3, q4, _, _⟩ := id H1
            clear b1 k1 hlow
            go_wp2_with (go_at_call 25; fail)
            refine (unhide HS1 _).mono ?_
            rintro e w2 ⟨rfl, hw⟩
            rw [hw]; clear hw w2
            go_wp2
            go_region_held3 (fun w' => w'.cell? ⟨c, 0, none⟩ = some (.map (some M)) ∧ w'.cell? ⟨w.heap.size, 0, none⟩ = some (.string (ba p)) ∧ w'.cell? ⟨w.heap.size, 1, none⟩ = some (.string (ba v)) ∧ w'.cell? ⟨w.heap.size, 2, none⟩ = some (.int .i64 0) ∧ w'.cell? ⟨w.heap.size, 3, none⟩ = some (.string (ba s)) ∧ Blk w' w.heap.size (lnC ⟨p, v, 0, s⟩) 38 ∧ Below w.heap.size w w')
              (first | assumption | exact HeldC.drew (by assumption) | exact H1 | exact HeldC.drew H1)
              (first
                | (go_at_call 53; refine (entry_held (x := ⟨p, v, 0, s⟩) (unhide HC) (by assumption)).mono ?_; rintro e w' ⟨rfl, k⟩)
                | (go_at_call 86; refine (has_held (x := ⟨p, v, 0, s⟩) (unhide HC) (unhide HS) (unhide HEN) (unhide HR) (by assumption)).mono ?_; rintro e w' ⟨rfl, k⟩))
            have kz := k
            have HB : Hid (Below w.heap.size w w') := kz.2.2.2.2.2.2
            obtain ⟨r0, r1, r2, r3, r4, r5, r6⟩ := id kz
            clear kz H1
            go_wp2
            go_region_with (first
              | (go_at_call 53; refine (entryOf_any (x := ⟨p, v, 0, s⟩) _).mono ?_; rintro e w8 ⟨rfl, b8⟩; have p0 : w8.cell? ⟨c, 0, none⟩ = some (.map (some M)) := (b8.cell (p := ⟨c, 0, none⟩) (lt_of_cell r0)).trans r0; have HB8 : Hid (Below w.heap.size w w8) := low_trans r6.drew b8)
              | (go_at_call 87; refine (add_any (x := (p, v, 0)) ((unhide HS).low (unhide HB8)) (unhide HEN) (by omega)).mono ?_; rintro e w9 ⟨rfl, hs9, but9⟩; have HD := hide ((unhide HF3) w8 w9 (unhide HB8) hs9 but9)))
            all_goals
              go_wp2
              go_ret
              exact unhide HD
          · go_enter Tryz.func84, Tryz.ntmps84
            go_wp2_with (go_at_call 85; fail)
            refine (unhide HM).mono ?_
            rintro e w1 ⟨rfl, b1⟩
            obtain ⟨k1, hlow⟩ := box_line _ b1.low
            have H1 : HeldC w c M ⟨p, v, 1, s⟩ w1 := HeldC.mk' (unhide HC) k1 hlow
            obtain ⟨q0, q1, q2, q3, q4, _, _⟩ := id H1
            clear b1 k1 hlow
            go_wp2_with (go_at_call 25; fail)
            refine (unhide HS1 _).mono ?_
            rintro e w2 ⟨rfl, hw⟩
            rw [hw]; clear hw w2
            go_wp2
            go_region_held3 (fun w' => w'.cell? ⟨c, 0, none⟩ = some (.map (some M)) ∧ w'.cell? ⟨w.heap.size, 0, none⟩ = some (.string (ba p)) ∧ w'.cell? ⟨w.heap.size, 1, none⟩ = some (.string (ba v)) ∧ w'.cell? ⟨w.heap.size, 2, none⟩ = some (.int .i64 1) ∧ w'.cell? ⟨w.heap.size, 3, none⟩ = some (.string (ba s)) ∧ Blk w' w.heap.size (lnC ⟨p, v, 1, s⟩) 38 ∧ Below w.heap.size w w')
              (first | assumption | exact HeldC.drew (by assumption) | exact H1 | exact HeldC.drew H1)
              (first
                | (go_at_call 53; refine (entry_held (x := ⟨p, v, 1, s⟩) (unhide HC) (by assumption)).mono ?_; rintro e w' ⟨rfl, k⟩)
                | (go_at_call 86; refine (has_held (x := ⟨p, v, 1, s⟩) (unhide HC) (unhide HS) (unhide HEN) (unhide HR) (by assumption)).mono ?_; rintro e w' ⟨rfl, k⟩))
            have kz := k
            have HB : Hid (Below w.heap.size w w') := kz.2.2.2.2.2.2
            obtain ⟨r0, r1, r2, r3, r4, r5, r6⟩ := id kz
            clear kz H1
            go_wp2
            go_region_with (first
              | (go_at_call 53; refine (entryOf_any (x := ⟨p, v, 1, s⟩) _).mono ?_; rintro e w8 ⟨rfl, b8⟩; have p0 : w8.cell? ⟨c, 0, none⟩ = some (.map (some M)) := (b8.cell (p := ⟨c, 0, none⟩) (lt_of_cell r0)).trans r0; have HB8 : Hid (Below w.heap.size w w8) := low_trans r6.drew b8)
              | (go_at_call 87; refine (add_any (x := (p, v, 1)) ((unhide HS).low (unhide HB8)) (unhide HEN) (by omega)).mono ?_; rintro e w9 ⟨rfl, hs9, but9⟩; have HD := hide ((unhide HF3) w8 w9 (unhide HB8) hs9 but9)))
            all_goals
              go_wp2
              go_ret
              exact unhide HD
    · have HF2 : Hid (∀ w', Below w.heap.size w w' → Checked M n ks x w (.returned (.int .i64 (m : Int))) w') := fun w' b => (unhide HF) _ w' (by rw [unhide HE, if_pos hm0]) (by omega) b
      have hmi : ¬ (m : Int) = 0 := by omega
      have hmb : ((m : Int) != 0) = true := by simpa using hmi
      obtain ⟨p, v, k, s⟩ := x
      simp only at hk2 HM
      clear HE HF hm0 HG HC HS HX HEN hk hk01
      rcases hk2 with rfl | ⟨_, rfl⟩
      all_goals
        go_enter Tryz.func84, Tryz.ntmps84
        go_wp2_with (go_at_call 85; fail)
        refine (unhide HM).mono ?_
        rintro e w1 ⟨rfl, b1⟩
        have HB := hide (box_line _ b1.low).2
        clear b1
        go_wp2
        go_ret
        exact (unhide HF2) _ (unhide HB)

end Go.Proofs.YthcafeoamabkgaaGreatDoor
