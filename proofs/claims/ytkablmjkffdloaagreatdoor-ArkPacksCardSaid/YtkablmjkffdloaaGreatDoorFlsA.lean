/-
  Files: whether they are few and small; whether they are the same; their sum.
-/
import Derived.Test.YtkablmjkffdloaaGreatDoorNamE
import Derived.Test.YtkablmjkffdloaaGreatDoorSumG
import Derived.Test.YtkablmjkffdloaaGreatDoorSameB
import Derived.BigQuiet
namespace Go.Proofs.YtkablmjkffdloaaGreatDoor
open Go.RowKit

/-- The files' bytes, one by one. -/
structure DAt (w : World) (xs : List Fl) (ds : List Bs) : Prop where
  len : ds.length = xs.length
  one : ∀ k (h1 : k < xs.length) (h2 : k < ds.length), ds[k].length = xs[k].n ∧ BAt w xs[k].a ds[k]
theorem DAt.low {w w' : World} {xs : List Fl} {ds : List Bs} (h : DAt w xs ds) (b : Below w.heap.size w w') : DAt w' xs ds := ⟨h.len, fun k h1 h2 => ⟨(h.one k h1 h2).1, (h.one k h1 h2).2.low b⟩⟩
theorem DatG.one {w : World} {xs : List Fl} {dat : Fl → Bs} (h : DatG w xs dat) : DAt w xs (xs.map dat) := ⟨by simp, fun k h1 h2 => by
  rw [List.getElem_map]
  exact ⟨h.len _ (List.getElem_mem h1), h.at_ _ (List.getElem_mem h1)⟩⟩
theorem low_q {w : World} (q : Nat) : Below w.heap.size w (w.drewN q) := ⟨rfl, rfl, rfl, Nat.le_refl _, fun _ _ => rfl⟩

/-- What Few answers. -/
def FewS (xs : List Fl) (e : Ending) : Prop := ∃ b, e = .returned (.bool b) ∧ (b = true → ∀ x ∈ xs, x.n ≤ 4000 ∧ x.nm.length ≤ 4000)
set_option maxRecDepth 100000 in
set_option maxHeartbeats 4000000 in
theorem fewF_any {w : World} {a : Option Addr} {n c : Nat} {xs : List Fl} (hx : xs.length = n) (hn : n ≤ 9223372036854775807) (h : FAt w a xs) :
    Calls Tryz.prog 17 #[.slice a n c, .int .i64 4000] w fun e w' => FewS xs e ∧ w' = w := by
  have HX := hide hx
  have HA := hide h
  clear hx h
  go_enter Tryz.func17, Tryz.ntmps17
  go_wp2
  go_loop [5, 6] (fun v5 v6 => ∃ i u : Nat, i ≤ n ∧ u ≤ 4000 ∧ v6 = .int .i64 (i : Int) ∧ v5 = .int .i64 (u : Int) ∧ Hid (∀ x ∈ xs.take i, x.n ≤ 4000 ∧ x.nm.length ≤ 4000)) (fun _ v6 => n - (intOf v6).toNat)
  case atStart => exact ⟨0, 0, Nat.zero_le _, by omega, rfl, rfl, hide (by simp)⟩
  case round =>
    obtain ⟨i, u, hi, hu, rfl, rfl, hall⟩ := hrel
    by_cases hlt : i < n
    · have hil : i < xs.length := by rw [unhide HX]; exact hlt
      have hlt' : (i : Int) < (n : Int) := by omega
      obtain ⟨B, O, rfl, g0, g1⟩ := (unhide HA).get hil
      have htk := take_sn hil
      obtain ⟨x, hxx⟩ : ∃ x, xs[i] = x := ⟨_, rfl⟩
      rw [hxx] at g0 g1 htk
      have HTK := hide htk
      have HAL := hide (unhide hall)
      clear htk hxx hall
      obtain ⟨nm, xa, xn, xc⟩ := x
      simp only at g0 g1
      obtain ⟨z, hz⟩ : ∃ z, nm.length = z := ⟨_, rfl⟩
      have hsz : (ba nm).size = z := by rw [ba_size]; exact hz
      obtain ⟨r, hr⟩ : ∃ r, 4000 - u = r := ⟨_, rfl⟩
      have y1 : (4000 : Int) - (u : Int) = (r : Int) := by omega
      have y1w : IntKind.i64.wrap (r : Int) = (r : Int) := by rw [IntKind.wrap_i64]; omega
      by_cases h1 : r < xn
      · have i1 : (r : Int) < (xn : Int) := by omega
        clear hr hz
        go_wp2
        go_ret
        exact ⟨⟨false, rfl, fun h => by cases h⟩, rfl⟩
      · have i1 : ¬ (r : Int) < (xn : Int) := by omega
        obtain ⟨u1, hu1⟩ : ∃ u1, u + xn = u1 := ⟨_, rfl⟩
        have y2 : (u : Int) + (xn : Int) = (u1 : Int) := by omega
        have y2w : IntKind.i64.wrap (u1 : Int) = (u1 : Int) := by rw [IntKind.wrap_i64]; omega
        obtain ⟨r1, hr1⟩ : ∃ r1, 4000 - u1 = r1 := ⟨_, rfl⟩
        have y3 : (4000 : Int) - (u1 : Int) = (r1 : Int) := by omega
        have y3w : IntKind.i64.wrap (r1 : Int) = (r1 : Int) := by rw [IntKind.wrap_i64]; omega
        by_cases h2 : r1 < z
        · have i2 : (r1 : Int) < (z : Int) := by omega
          clear hr hz hr1 hu1
          go_wp2
          go_ret
          exact ⟨⟨false, rfl, fun h => by cases h⟩, rfl⟩
        · have i2 : ¬ (r1 : Int) < (z : Int) := by omega
          obtain ⟨u2, hu2⟩ : ∃ u2, u1 + z = u2 := ⟨_, rfl⟩
          have y4 : (u1 : Int) + (z : Int) = (u2 : Int) := by omega
          have y4w : IntKind.i64.wrap (u2 : Int) = (u2 : Int) := by rw [IntKind.wrap_i64]; omega
          have hu22 : u2 ≤ 4000 := by omega
          obtain ⟨i', hi'⟩ : ∃ i', i + 1 = i' := ⟨_, rfl⟩
          have y5 : (i : Int) + 1 = (i' : Int) := by omega
          have y5w : IntKind.i64.wrap (i' : Int) = (i' : Int) := by rw [IntKind.wrap_i64]; omega
          have HF : Hid (∀ x ∈ xs.take i', x.n ≤ 4000 ∧ x.nm.length ≤ 4000) := hide (fun x hx => by
            rw [← hi', unhide HTK] at hx
            rcases List.mem_append.1 hx with h | h
            · exact unhide HAL x h
            · simp at h
              subst h
              exact ⟨by show xn ≤ 4000; omega, by show nm.length ≤ 4000; omega⟩)
          have hi2 : i' ≤ n := by omega
          clear hr hz hr1 hu1 hu2 HAL HTK
          go_wp2
          go_round
          case rel => exact ⟨i', u2, hi2, hu22, rfl, rfl, HF⟩
          case measure => simp [intOf]; omega
    · have hie : i = n := by omega
      subst hie
      have HF : Hid (∀ x ∈ xs, x.n ≤ 4000 ∧ x.nm.length ≤ 4000) := hide (by
        have h1 := unhide hall
        rw [List.take_of_length_le (by rw [unhide HX]; exact Nat.le_refl _)] at h1
        exact h1)
      clear hall
      go_wp2
      go_ret
      exact ⟨⟨true, rfl, fun _ => unhide HF⟩, rfl⟩

set_option maxRecDepth 100000 in
set_option maxHeartbeats 4000000 in
theorem sameFiles_any {w : World} {a a2 : Option Addr} {n c c2 : Nat} {xs ys : List Fl} {ds : List Bs} (hx : xs.length = n) (hy : ys.length = n) (hn : n ≤ 1000000) (hd : ∀ d ∈ ds, d.length ≤ 1073741824) (hnm : xs.map Fl.nm = ys.map Fl.nm) (h : FAt w a xs) (h2 : FAt w a2 ys) (hd1 : DAt w xs ds) (hd2 : DAt w ys ds) :
    Calls Tryz.prog 21 #[.slice a n c, .slice a2 n c2] w fun e w' => e = .returned (.bool true) ∧ ∃ q, w' = w.drewN q := by
  have HX := hide hx
  have HY := hide hy
  have HA := hide h
  have HA2 := hide h2
  have HD1 := hide hd1
  have HD2 := hide hd2
  have HNM := hide hnm
  have HD := hide hd
  clear hx hy h h2 hd1 hd2 hnm hd
  go_enter Tryz.func21, Tryz.ntmps21
  go_wp2
  go_loopw [5] (fun v5 wr => ∃ k q : Nat, k ≤ n ∧ v5 = .int .i64 (k : Int) ∧ wr = w.drewN q) (fun v5 _ => n - (intOf v5).toNat)
  case atStart => exact ⟨0, 0, Nat.zero_le _, rfl, rfl⟩
  case round =>
    rename World => wr
    obtain ⟨k, q, hk, rfl, hwr⟩ := hrel
    have HWR := hide hwr
    by_cases hlt : k < n
    · have hkx : k < xs.length := by rw [unhide HX]; exact hlt
      have hky : k < ys.length := by rw [unhide HY]; exact hlt
      have hkd : k < ds.length := by rw [(unhide HD1).len]; exact hkx
      have hlt' : (k : Int) < (n : Int) := by omega
      have hbw : Below w.heap.size w wr := by rw [hwr]; exact low_q _
      obtain ⟨B, O, rfl, g0, g1⟩ := ((unhide HA).low hbw).get hkx
      obtain ⟨B2, O2, rfl, k0, k1⟩ := ((unhide HA2).low hbw).get hky
      obtain ⟨l1, t1⟩ := ((unhide HD1).low hbw).one k hkx hkd
      obtain ⟨l2, t2⟩ := ((unhide HD2).low hbw).one k hky hkd
      have hdl := unhide HD _ (List.getElem_mem hkd)
      have hne : xs[k].nm = ys[k].nm := by
        have h1 : (xs.map Fl.nm)[k]? = (ys.map Fl.nm)[k]? := by rw [unhide HNM]
        simp [hkx, hky] at h1
        exact h1
      obtain ⟨x, hxx⟩ : ∃ x, xs[k] = x := ⟨_, rfl⟩
      obtain ⟨y, hyy⟩ : ∃ y, ys[k] = y := ⟨_, rfl⟩
      rw [hxx] at g0 g1 l1 t1 hne
      rw [hyy] at k0 k1 l2 t2 hne
      rw [← hne] at k0
      obtain ⟨nm, xa, xn, xc⟩ := x
      obtain ⟨nm2, ya, yn, yc⟩ := y
      simp only at g0 g1 l1 t1 k0 k1 l2 t2
      have HC : Hid (∀ nq, Calls Tryz.prog 23 #[.slice xa xn xc, .slice ya yn yc] (wr.drewN nq) fun e w' => e = .returned (.bool true) ∧ ∃ m, w' = (wr.drewN nq).drewN m) := hide (fun nq => by
        have kk := sameBytes_any (w := wr.drewN nq) (c := xc) (c2 := yc) l1 l2 (by omega) (by omega) (t1.low (low_q _)) (t2.low (low_q _))
        rw [decide_eq_true rfl] at kk
        exact kk)
      have ss : ((ba nm).toList != (ba nm).toList) = false := by simp
      clear hxx hyy hne l1 t1 l2 t2 hdl hwr hbw hkx hky hkd
      go_wp2
      go_quiet ((go_at_call 23; exact Calls.quiet_of (unhide HC _)))
      go_wp2
      go_roundw
      case rel => exact ⟨k + 1, q + nq, hlt, by push_cast; rfl, by rw [unhide HWR, World.drewN_drewN]⟩
      case measure => simp [intOf]; omega
    · have hkn : k = n := by omega
      subst hkn
      clear hwr
      go_wp2
      go_ret
      exact ⟨rfl, q, unhide HWR⟩

/-- What H1 answers. -/
def H1Said (dat : Fl → Bs) (xs : List Fl) (e : Ending) : Prop :=
  (nmE [] (xs.map Fl.nm) = 0 ∧ ∃ ys, ys.Perm xs ∧ Rising ys ∧ e = .returned (.tuple #[.string (ba (sumF dat ys)), .int .i64 0])) ∨
  (nmE [] (xs.map Fl.nm) ≠ 0 ∧ e = .returned (.tuple #[.string ⟨#[]⟩, .int .i64 (nmE [] (xs.map Fl.nm))]))
set_option maxRecDepth 100000 in
set_option maxHeartbeats 2000000 in
theorem h1_any {w : World} {a : Option Addr} {n c : Nat} {xs : List Fl} {dat : Fl → Bs} (hg : Ml w) (hx : xs.length = n) (hform : (a = none ∧ n = 0 ∧ c = 0) ∨ ∃ B O, a = some ⟨B, O, none⟩) (h : FAt w a xs) (hn : n ≤ 1000) (hc : n ≤ c) (hd : DatG w xs dat) :
    Calls Tryz.prog 40 #[.slice a n c] w fun e w' => H1Said dat xs e ∧ Below w.heap.size w w' := by
  have KC := hide (checkNames_any (c := c) hg hx (by omega) h)
  obtain ⟨E, hE⟩ : ∃ E, nmE [] (xs.map Fl.nm) = E := ⟨_, rfl⟩
  rw [hE] at KC
  have HE := hide hE
  have KS : Hid (∀ W, Below w.heap.size w W → Calls Tryz.prog 91 #[.slice a n c] W fun e w' => ∃ ys, ys.Perm xs ∧ Rising ys ∧ e = .returned (.string (ba (sumF dat ys))) ∧ Below W.heap.size W w') := hide (fun W hW => sumG_any hx hform (h.low hW) hn hc (hd.low hW))
  clear hg hx hform h hc hd hE
  go_enter Tryz.func40, Tryz.ntmps40
  go_wp2_with (go_at_call 69; fail)
  refine (unhide KC).mono ?_
  rintro e w1 ⟨rfl, b1⟩
  have HB1 := hide b1
  clear b1 KC
  by_cases h0 : E = 0
  · subst h0
    go_wp2_with (go_at_call 91; fail)
    refine (unhide KS _ (unhide HB1)).mono ?_
    rintro e w2 ⟨ys, hp, hri, rfl, b2⟩
    have HB2 := hide (low_trans (unhide HB1) b2)
    go_wp2
    go_ret2
    exact ⟨Or.inl ⟨unhide HE, ys, hp, hri, rfl⟩, unhide HB2⟩
  · have hb : (E != 0) = true := by simpa using h0
    go_wp2
    go_ret2
    exact ⟨Or.inr ⟨by rw [unhide HE]; exact h0, by rw [unhide HE]; rfl⟩, unhide HB1⟩
end Go.Proofs.YtkablmjkffdloaaGreatDoor
