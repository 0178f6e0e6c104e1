/-
  small: whether a vendor list that came in is small.
-/
import Derived.Test.YthcafeoamabkgaaGreatDoorOpenX
import Derived.Test.YthcafeoamabkgaaGreatDoorVenV
import Derived.Test.YthcafeoamabkgaaGreatDoorVfX
import Derived.Deep.QuietTactic
namespace Go.Proofs.YthcafeoamabkgaaGreatDoor
open Go.ChangeShapes Go.WideShapes Go.ChangeAt Go.RowKit

theorem cell_spot {W : World} {a : Addr} {v : Value} (h : W.cell? a = some v) : a.spot = none := by
  unfold World.cell? at h
  split at h
  · split at h
    · cases h
    · rename_i hs; simpa using hs
  · cases h

/-- A list of texts that stands in a cell. -/
theorem open_inner {H : Type} {enc : TypeId × Value → H} {W : World} {fuel : Nat} {cs : List Value} {y : DataW H × List MemPlace} (h : DataW.trod enc Tryz.prog W 0 (fun _ => true) true fuel 69 cs = some y) :
    ∃ (a : Option Addr) (c : Nat) (ps : List Str), cs = [.slice a ps.length c] ∧ (ps = [] ∨ PlainA a) ∧ RowS W a ps ∧ ps.length ≤ Rows.uptoBulk y.1 ∧ ∀ p ∈ ps, p.length ≤ Rows.uptoBulk y.1 := by
  rcases Deep.open_slice1 Tryz.underlying69 (by kernel_rfl) h with ⟨hcs, _⟩ | ⟨x, len, cap, m, n, V, D, Pl, hcs, _, hl, hm, hmm, hx, hel⟩
  · exact ⟨none, 0, [], hcs, Or.inl rfl, Or.inl rfl, Nat.zero_le _, fun p hp => by cases hp⟩
  · have hmm' : m = cap := by simpa using hmm
    subst hmm'
    obtain ⟨f, hfx⟩ := Deep.choose_lt (α := Str) (n := len) (p := fun i s => W.cell? (x.add i) = some (.string (ba s)) ∧ s.length ≤ Rows.uptoBulk (D i)) (fun i hi => by
      obtain ⟨h1, h2⟩ := hel i (by omega)
      obtain ⟨s, e, f0, _⟩ := DataW.trod_string Tryz.underlying9 h2
      simp at e
      rw [e] at h1
      refine ⟨s.data.toList, by rw [ba_of]; exact h1, ?_⟩
      simp only [Prod.mk.injEq] at f0
      rw [f0.1]
      simp [Rows.uptoBulk])
    have hlen : ((List.range len).map f).length = len := by simp
    rw [hx]
    simp only
    have hb2 := bulk_slice (Nat.le_refl (Rows.uptoBulk (.slice ((List.range len).map D) ((List.range (m - len)).map fun j => D (len + j)))))
    have hb3 := bulk_len ((List.range len).map D)
    rw [List.length_map, List.length_range] at hb3
    refine ⟨some x, m, (List.range len).map f, by rw [hlen]; exact hcs, ?_, ?_, by rw [hlen]; omega, ?_⟩
    · by_cases h0 : len = 0
      · exact Or.inl (by rw [h0]; rfl)
      · refine Or.inr ?_
        have hsp : x.spot = none := by have := cell_spot (hfx 0 (by omega)).1; simpa [Addr.add] using this
        obtain ⟨B, O, sp⟩ := x
        have hsp' : sp = none := hsp
        subst hsp'
        intro ad h
        cases h
        exact ⟨B, O, rfl⟩
    · by_cases h0 : len = 0
      · exact Or.inl (by rw [h0]; rfl)
      · have hsp : x.spot = none := by have := cell_spot (hfx 0 (by omega)).1; simpa [Addr.add] using this
        obtain ⟨B, O, sp⟩ := x
        have hsp' : sp = none := hsp
        subst hsp'
        refine Or.inr ⟨B, O, rfl, ?_, fun j hj => ?_⟩
        · have h1 := (hfx 0 (by omega)).1
          rw [WideShapes.add_plain] at h1
          exact lt_of_cell h1
        · rw [hlen] at hj
          have h1 := (hfx j hj).1
          rw [WideShapes.add_plain] at h1
          have e : ((List.range len).map f)[j]'(by rw [hlen]; exact hj) = f j := by simp
          rw [e]
          exact h1
    · intro p hp
      obtain ⟨i, hi, rfl⟩ := List.mem_map.1 hp
      have h1 := (hfx i (List.mem_range.1 hi)).2
      have h2 : Rows.uptoBulk (D i) ≤ Rows.uptoBulkAll ((List.range len).map D) := bulk_mem (List.mem_map.2 ⟨i, hi, rfl⟩)
      omega

set_option maxRecDepth 100000 in
theorem plain_ok {t e : TypeId} {W : World} {base : Nat} {a : Option Addr} {len cap : Nat} (ht : Tryz.prog.underlying t = some (.slice e)) (h : Value.okWide Tryz.prog W .any base t (.slice a len cap)) : PlainA a := by
  intro ad had
  subst had
  obtain ⟨hs, _⟩ := slice_ok ht h
  obtain ⟨B, O, sp⟩ := ad
  have hsp : sp = none := hs
  subst hsp
  exact ⟨B, O, rfl⟩

/-- An element as it came in. -/
def VdIn (W : World) (z : VE) (n : Nat) : Prop := z.1.pk.length = z.2.2.1 ∧ (z.1.pk = [] ∨ PlainA z.2.1) ∧ RowS W z.2.1 z.1.pk ∧ z.1.m.1.length + z.1.m.2.length ≤ n ∧ z.1.pk.length ≤ n ∧ ∀ p ∈ z.1.pk, p.length ≤ n
theorem VdIn.mono {W : World} {z : VE} {n m : Nat} (h : VdIn W z n) (hm : n ≤ m) : VdIn W z m := by
  obtain ⟨h1, h2, h3, h4, h5, h6⟩ := h
  exact ⟨h1, h2, h3, by omega, by omega, fun p hp => by have := h6 p hp; omega⟩

set_option maxRecDepth 100000 in
theorem open_vd {H : Type} {enc : TypeId × Value → H} {W : World} {fuel : Nat} {cs : List Value} {y : DataW H × List MemPlace} (h : DataW.trod enc Tryz.prog W 0 (fun _ => true) true fuel 81 cs = some y) :
    ∃ z : VE, cs = vdE z ∧ VdIn W z (Rows.uptoBulk y.1) := by
  obtain ⟨xs, k, _, hxy, hcl, hxl, hf⟩ := DataW.trod_struct Tryz.underlying81 h
  have c81 : Tryz.prog.cellsOf 81 = 4 := by kernel_rfl
  have c36 : Tryz.prog.cellsOf 36 = 2 := by kernel_rfl
  have c4 : Tryz.prog.cellsOf 4 = 1 := by kernel_rfl
  have c69 : Tryz.prog.cellsOf 69 = 1 := by kernel_rfl
  rw [c81] at hcl
  have hxl2 : xs.length = 3 := hxl
  match xs, hxl2, cs, hcl with
  | [y0, y1, y2], _, [v0, v1, v2, v3], _ =>
    have g0 := hf 0 _ rfl
    have g1 := hf 1 _ rfl
    have g2 := hf 2 _ rfl
    simp [c36, c4, c69] at g0 g1 g2
    obtain ⟨m, em, hm⟩ := open_mod g0
    obtain ⟨b, e1, _⟩ := DataW.trod_bool Tryz.underlying4 g1
    obtain ⟨a, c, ps, e2, h1, h2, h3, h4⟩ := open_inner g2
    simp at em e1 e2
    obtain ⟨em0, em1⟩ := em
    subst em0 em1 e1 e2
    refine ⟨((⟨m, b, ps⟩ : Vd), a, ps.length, c), rfl, ?_⟩
    have hle : Rows.uptoBulk y0.1 ≤ Rows.uptoBulk y.1 ∧ Rows.uptoBulk y2.1 ≤ Rows.uptoBulk y.1 := by
      rw [hxy]
      simp only [List.map_cons, List.map_nil, Rows.uptoBulk, Rows.uptoBulkAll]
      omega
    exact ⟨rfl, h1, h2, by show m.1.length + m.2.length ≤ _; omega, by show ps.length ≤ _; omega, fun p hp => by have := h4 p hp; omega⟩

set_option maxRecDepth 100000 in
theorem open_vends {H : Type} {enc : TypeId × Value → H} {W : World} {base : Nat} {a : Option Addr} {len cap : Nat} {d : DataW H} {p : List MemPlace} (hv : Value.okWide Tryz.prog W .any base 23 (.slice a len cap))
    (h : DataW.Trod enc Tryz.prog W 0 (fun _ => true) true 23 (.slice a len cap) d p) :
    ∃ zs : List VE, len = zs.length ∧ PlainA a ∧ RowV W a zs ∧ ∀ z ∈ zs, VdIn W z (Rows.uptoBulk d) := by
  obtain ⟨fuel, hf⟩ := h
  rcases Deep.open_slice Tryz.underlying23 hf with ⟨hcs, _⟩ | ⟨x, len', cap', m, n, D, Pl, hcs, _, hl, hm, hmm, hx, hel⟩
  · simp [Value.cells] at hcs
    obtain ⟨ha, h2, _⟩ := hcs
    subst ha
    exact ⟨[], h2, ⟨(fun ad h => by cases h), Or.inl rfl, fun z hz => by cases hz⟩⟩
  · simp [Value.cells] at hcs
    obtain ⟨rfl, rfl, rfl⟩ := hcs
    obtain ⟨hs, hb⟩ := slice_ok Tryz.underlying23 hv
    obtain ⟨B, O, sp⟩ := x
    have hsp : sp = none := hs
    subst hsp
    have hmm' : m = cap := by simpa using hmm
    subst hmm'
    have c81 : Tryz.prog.cellsOf 81 = 4 := by kernel_rfl
    rw [c81] at hel
    simp only [Prod.mk.injEq] at hx
    rw [hx.1]
    have hb2 := bulk_slice (Nat.le_refl (Rows.uptoBulk (.slice ((List.range len).map D) ((List.range (m - len)).map fun j => D (len + j)))))
    obtain ⟨f, hfx⟩ := Deep.choose_lt (α := VE) (n := len) (p := fun i z => (∀ r, r < 4 → W.cell? ⟨B, O + (i * 4 + r), none⟩ = some ((vdE z)[r]!)) ∧ VdIn W z (Rows.uptoBulk (D i))) (fun i hi => by
      obtain ⟨cs, h1, h2⟩ := hel i (by omega)
      obtain ⟨z, rfl, hz⟩ := open_vd h2
      obtain ⟨_, _, hcell⟩ := World.cells?_some h1
      refine ⟨z, fun r hr => ?_, hz⟩
      have z0 := hcell r (by show r < 4; exact hr)
      rw [WideShapes.add_plain, WideShapes.add_plain] at z0
      rw [← Nat.add_assoc, z0]
      have : r < (vdE z).length := hr
      simp [this])
    refine ⟨(List.range len).map f, by simp, fun ad h => by cases h; exact ⟨_, _, rfl⟩, Or.inr ⟨B, O, rfl, hb, fun j u hu => ?_⟩, ?_⟩
    · have hj : j < len * 4 := by
        have := (List.getElem?_eq_some_iff.1 hu).1
        rw [vdsV_lenM] at this
        simpa using this
      have hg := vdsV_get ((List.range len).map f) j (by simpa using hj)
      rw [hu] at hg
      have hk : j / 4 < len := by omega
      have e1 : ((List.range len).map f).toArray[j / 4]! = f (j / 4) := by simp [hk]
      rw [e1] at hg
      have h1 := (hfx (j / 4) hk).1 (j % 4) (Nat.mod_lt _ (by omega))
      have e2 : j / 4 * 4 + j % 4 = j := by omega
      rw [e2] at h1
      rw [h1, ← hg]
    · intro z hz
      obtain ⟨i, hi, rfl⟩ := List.mem_map.1 hz
      have h1 := (hfx i (List.mem_range.1 hi)).2
      have h2 : Rows.uptoBulk (D i) ≤ Rows.uptoBulkAll ((List.range len).map D) := bulk_mem (List.mem_map.2 ⟨i, hi, rfl⟩)
      exact h1.mono (by omega)

end Go.Proofs.YthcafeoamabkgaaGreatDoor

namespace Go.Proofs.YthcafeoamabkgaaGreatDoor
open Go.RowKit

theorem RowS.at {w : World} {a : Option Addr} {ps : List Str} (h : RowS w a ps) {k : Nat} (hk : k < ps.length) : ∃ B O, a = some ⟨B, O, none⟩ ∧ w.cell? ⟨B, O + k, none⟩ = some (.string (ba ps[k])) := by
  rcases h with rfl | ⟨B, O, e, _, h⟩
  · cases hk
  · exact ⟨B, O, e, h k hk⟩

/-- What small answers. -/
def SmallSaid (m : Nat) (zs : List VE) (e : Ending) : Prop := ∃ r, e = .returned (.bool r) ∧ (r = true → m ≤ 60 ∧ ∀ z ∈ zs, z.1.pk.length ≤ 60)

set_option maxRecDepth 100000 in
set_option maxHeartbeats 4000000 in
theorem small_any {w : World} {b : Option Addr} {m c N : Nat} {zs : List VE} (hm : zs.length = m) (h : RowV w b zs) (hk : ∀ z ∈ zs, VdIn w z N) (hN : N ≤ 1048576) :
    Calls Tryz.prog 13 #[.slice b m c] w fun e w' => SmallSaid m zs e ∧ ∃ q, w' = w.drewN q := by
  have HM := hide hm
  have H := hide h
  have HK := hide hk
  clear hm h hk
  go_enter Tryz.func13, Tryz.ntmps13
  go_wp2
  go_loopw [3, 4, 5] (fun s i _ wr => ∃ (k nr : Nat) (t : Int), k ≤ m ∧ k ≤ 61 ∧ i = .int .i64 k ∧ s = .int .i64 t ∧ 0 ≤ t ∧ t ≤ 16000 ∧ (∀ z ∈ zs.take k, z.1.pk.length ≤ 60) ∧ wr = w.drewN nr) (fun _ i _ _ => m - (intOf i).toNat)
  case atStart => exact ⟨0, 0, 0, Nat.zero_le _, Nat.zero_le _, rfl, rfl, by omega, by omega, (fun z hz => by cases hz), rfl⟩
  case round =>
    obtain ⟨k, nr, t, hk, hk3, rfl, rfl, ht0, ht1, hall, hwr⟩ := hrel
    have HWR := hide hwr
    have HALL := hide hall
    clear hall
    by_cases hlt : k < m
    · by_cases hlt3 : k ≤ 60
      · have hkt : k < zs.length := by rw [unhide HM]; exact hlt
        obtain ⟨B, O, rfl, m1, m2, m3, m4⟩ := (unhide H).at hkt
        have hin := unhide HK _ (List.getElem_mem hkt)
        have htk : zs.take (k + 1) = zs.take k ++ [zs[k]] := List.take_succ_eq_append_getElem hkt
        obtain ⟨z, hz⟩ : ∃ z, zs[k] = z := ⟨_, rfl⟩
        rw [hz] at m1 m2 m3 m4 hin htk
        obtain ⟨⟨⟨p, v⟩, x, pk⟩, az, nz, cz⟩ := z
        obtain ⟨q1, q2, q3, q4, q5, q6⟩ := hin
        simp only at m1 m2 m3 m4 q1 q2 q3 q4 q5 q6
        have l1 : wr.cell? ⟨B, O + k * 4, none⟩ = some (.string (ba p)) := by rw [hwr]; exact m1
        have l2 : wr.cell? ⟨B, O + k * 4 + 1, none⟩ = some (.string (ba v)) := by rw [hwr]; exact m2
        have l3 : wr.cell? ⟨B, O + k * 4 + 3, none⟩ = some (.slice az nz cz) := by rw [hwr]; exact m4
        have hlt3' : (k : Int) ≤ 60 := by omega
        have hp1 := ba_size p
        have hv1 := ba_size v
        have HTK := hide htk
        have HQ3 := hide q3
        have HQ1 := hide q1
        have HQ6 := hide q6
        have HM4 := hide m4
        clear hz hwr q1 q3 q6 q2 m1 m2 m3 m4 htk
        by_cases h60 : nz ≤ 60
        · have h60' : ¬ (60 : Int) < (nz : Int) := by omega
          go_wp2
          go_quiet (fail)
          go_wp2
          go_loopw [3, 5] (fun s j wq => ∃ (i nq : Nat) (t : Int), i ≤ nz ∧ j = .int .i64 i ∧ s = .int .i64 t ∧ 0 ≤ t ∧ t ≤ 16000 ∧ wq = w.drewN nq) (fun _ j _ => nz - (intOf j).toNat)
          case atStart => exact ⟨0, nr + nq, _, Nat.zero_le _, rfl, rfl, by omega, by omega, by rw [unhide HWR, World.drewN_drewN]⟩
          case round =>
            rename World => wq
            rename_i ht0b ht1b
            obtain ⟨i, ni, t2, hi, rfl, rfl, hs0, hs1, hwq⟩ := hrel
            have HWQ := hide hwq
            have l5 : wq.cell? ⟨B, O + k * 4 + 3, none⟩ = some (.slice az nz cz) := by rw [hwq]; exact unhide HM4
            by_cases hlt2 : i < nz
            · have hit : i < pk.length := by rw [unhide HQ1]; exact hlt2
              obtain ⟨B2, O2, rfl, hc⟩ := (unhide HQ3).at hit
              have l6 : wq.cell? ⟨B2, O2 + i, none⟩ = some (.string (ba pk[i])) := by rw [hwq]; exact hc
              have hsl := unhide HQ6 pk[i] (List.getElem_mem hit)
              obtain ⟨q, hq⟩ : ∃ q, pk[i] = q := ⟨_, rfl⟩
              rw [hq] at l6 hsl
              have hqs := ba_size q
              clear hq hc hwq
              go_wp2
              go_roundw
              case rel => exact ⟨i + 1, ni, _, hlt2, by simp, rfl, by omega, by omega, unhide HWQ⟩
              case measure => simp [intOf]; omega
            · clear hwq
              go_wp2
              go_roundw
              case rel => exact ⟨k + 1, ni, t2, hlt, by omega, by simp, rfl, hs0, hs1, (fun z hz => by
                rw [unhide HTK] at hz
                rcases List.mem_append.1 hz with hz | hz
                · exact unhide HALL z hz
                · rw [List.mem_singleton] at hz
                  subst hz
                  show pk.length ≤ 60
                  rw [unhide HQ1]
                  exact h60), unhide HWQ⟩
              case measure => simp [intOf]; omega
        · have h60' : (60 : Int) < (nz : Int) := by omega
          go_wp2
          go_quiet (fail)
          go_wp2
          go_ret
          exact ⟨⟨false, rfl, fun h => by cases h⟩, nr + nq, by rw [unhide HWR, World.drewN_drewN]⟩
      · have hk' : k = 61 := by omega
        subst hk'
        clear hwr
        have hn3 : ¬ (m : Int) ≤ 60 := by omega
        go_wp2
        go_ret
        exact ⟨⟨false, rfl, fun h => by cases h⟩, nr, unhide HWR⟩
    · have hkn : k = m := by omega
      subst hkn
      clear hwr
      have hfin : zs.take k = zs := List.take_of_length_le (by rw [unhide HM]; omega)
      have HF : Hid (∀ z ∈ zs, z.1.pk.length ≤ 60) := hide (by rw [← hfin]; exact unhide HALL)
      clear hfin
      by_cases h100 : k ≤ 60
      · have h100' : (k : Int) ≤ 60 := by omega
        go_wp2
        all_goals
          go_ret
          exact ⟨⟨_, rfl, fun _ => ⟨h100, unhide HF⟩⟩, nr, unhide HWR⟩
      · have h100' : ¬ (k : Int) ≤ 60 := by omega
        go_wp2
        all_goals
          go_ret
          exact ⟨⟨false, rfl, fun h => by cases h⟩, nr, unhide HWR⟩

end Go.Proofs.YthcafeoamabkgaaGreatDoor
