/-
  A list of vendored modules that came in, opened.
-/
import Derived.Test.YthcafeoamabkgaaGreatDoorOpenX
import Derived.Test.YthcafeoamabkgaaGreatDoorVenV
namespace Go.Proofs.YthcafeoamabkgaaGreatDoor
open Go.ChangeShapes Go.WideShapes Go.ChangeAt Go.RowKit

theorem cell_spot {W : World} {a : Addr} {v : Value} (h : W.cell? a = some v) : a.spot = none := by
  unfold World.cell? at h
  split at h
  · split at h
    · cases h
    · rename_i hs; simpa using hs
  · cases h

/-- A list of texts that stands in a cell. -/
theorem open_inner {H : Type} {enc : TypeId × Value → H} {W : World} {fuel : Nat} {cs : List Value} {y : DataW H × List MemPlace} (h : DataW.trod enc Tryz.prog W 0 (fun _ => true) true fuel 69 cs = some y) :
    ∃ (a : Option Addr) (c : Nat) (ps : List Str), cs = [.slice a ps.length c] ∧ (ps = [] ∨ PlainA a) ∧ RowS W a ps ∧ ps.length ≤ Rows.uptoBulk y.1 ∧ ∀ p ∈ ps, p.length ≤ Rows.uptoBulk y.1 := by
  rcases Deep.open_slice1 Tryz.underlying69 (by kernel_rfl) h with ⟨hcs, _⟩ | ⟨x, len, cap, m, n, V, D, Pl, hcs, _, hl, hm, hmm, hx, hel⟩
  · exact ⟨none, 0, [], hcs, Or.inl rfl, Or.inl rfl, Nat.zero_le _, fun p hp => by cases hp⟩
  · have hmm' : m = cap := by simpa using hmm
    subst hmm'
    obtain ⟨f, hfx⟩ := Deep.choose_lt (α := Str) (n := len) (p := fun i s => W.cell? (x.add i) = some (.string (ba s)) ∧ s.length ≤ Rows.uptoBulk (D i)) (fun i hi => by
      obtain ⟨h1, h2⟩ := hel i (by omega)
      obtain ⟨s, e, f0, _⟩ := DataW.trod_string Tryz.underlying9 h2
      simp at e
      rw [e] at h1
      refine ⟨s.data.toList, by rw [ba_of]; exact h1, ?_⟩
      simp only [Prod.mk.injEq] at f0
      rw [f0.1]
      simp [Rows.uptoBulk])
    have hlen : ((List.range len).map f).length = len := by simp
    rw [hx]
    simp only
    have hb2 := bulk_slice (Nat.le_refl (Rows.uptoBulk (.slice ((List.range len).map D) ((List.range (m - len)).map fun j => D (len + j)))))
    have hb3 := bulk_len ((List.range len).map D)
    rw [List.length_map, List.length_range] at hb3
    refine ⟨some x, m, (List.range len).map f, by rw [hlen]; exact hcs, ?_, ?_, by rw [hlen]; omega, ?_⟩
    · by_cases h0 : len = 0
      · exact Or.inl (by rw [h0]; rfl)
      · refine Or.inr ?_
        have hsp : x.spot = none := by have := cell_spot (hfx 0 (by omega)).1; simpa [Addr.add] using this
        obtain ⟨B, O, sp⟩ := x
        have hsp' : sp = none := hsp
        subst hsp'
        intro ad h
        cases h
        exact ⟨B, O, rfl⟩
    · by_cases h0 : len = 0
      · exact Or.inl (by rw [h0]; rfl)
      · have hsp : x.spot = none := by have := cell_spot (hfx 0 (by omega)).1; simpa [Addr.add] using this
        obtain ⟨B, O, sp⟩ := x
        have hsp' : sp = none := hsp
        subst hsp'
        refine Or.inr ⟨B, O, rfl, ?_, fun j hj => ?_⟩
        · have h1 := (hfx 0 (by omega)).1
          rw [WideShapes.add_plain] at h1
          exact lt_of_cell h1
        · rw [hlen] at hj
          have h1 := (hfx j hj).1
          rw [WideShapes.add_plain] at h1
          have e : ((List.range len).map f)[j]'(by rw [hlen]; exact hj) = f j := by simp
          rw [e]
          exact h1
    · intro p hp
      obtain ⟨i, hi, rfl⟩ := List.mem_map.1 hp
      have h1 := (hfx i (List.mem_range.1 hi)).2
      have h2 : Rows.uptoBulk (D i) ≤ Rows.uptoBulkAll ((List.range len).map D) := bulk_mem (List.mem_map.2 ⟨i, hi, rfl⟩)
      omega

set_option maxRecDepth 100000 in
theorem plain_ok {t e : TypeId} {W : World} {base : Nat} {a : Option Addr} {len cap : Nat} (ht : Tryz.prog.underlying t = some (.slice e)) (h : Value.okWide Tryz.prog W .any base t (.slice a len cap)) : PlainA a := by
  intro ad had
  subst had
  obtain ⟨hs, _⟩ := slice_ok ht h
  obtain ⟨B, O, sp⟩ := ad
  have hsp : sp = none := hs
  subst hsp
  exact ⟨B, O, rfl⟩

/-- An element as it came in. -/
def VdIn (W : World) (z : VE) (n : Nat) : Prop := z.1.pk.length = z.2.2.1 ∧ (z.1.pk = [] ∨ PlainA z.2.1) ∧ RowS W z.2.1 z.1.pk ∧ z.1.m.1.length + z.1.m.2.length ≤ n ∧ z.1.pk.length ≤ n ∧ ∀ p ∈ z.1.pk, p.length ≤ n
theorem VdIn.mono {W : World} {z : VE} {n m : Nat} (h : VdIn W z n) (hm : n ≤ m) : VdIn W z m := by
  obtain ⟨h1, h2, h3, h4, h5, h6⟩ := h
  exact ⟨h1, h2, h3, by omega, by omega, fun p hp => by have := h6 p hp; omega⟩

set_option maxRecDepth 100000 in
theorem open_vd {H : Type} {enc : TypeId × Value → H} {W : World} {fuel : Nat} {cs : List Value} {y : DataW H × List MemPlace} (h : DataW.trod enc Tryz.prog W 0 (fun _ => true) true fuel 81 cs = some y) :
    ∃ z : VE, cs = vdE z ∧ VdIn W z (Rows.uptoBulk y.1) := by
  obtain ⟨xs, k, _, hxy, hcl, hxl, hf⟩ := DataW.trod_struct Tryz.underlying81 h
  have c81 : Tryz.prog.cellsOf 81 = 4 := by kernel_rfl
  have c36 : Tryz.prog.cellsOf 36 = 2 := by kernel_rfl
  have c4 : Tryz.prog.cellsOf 4 = 1 := by kernel_rfl
  have c69 : Tryz.prog.cellsOf 69 = 1 := by kernel_rfl
  rw [c81] at hcl
  have hxl2 : xs.length = 3 := hxl
  match xs, hxl2, cs, hcl with
  | [y0, y1, y2], _, [v0, v1, v2, v3], _ =>
    have g0 := hf 0 _ rfl
    have g1 := hf 1 _ rfl
    have g2 := hf 2 _ rfl
    simp [c36, c4, c69] at g0 g1 g2
    obtain ⟨m, em, hm⟩ := open_mod g0
    obtain ⟨b, e1, _⟩ := DataW.trod_bool Tryz.underlying4 g1
    obtain ⟨a, c, ps, e2, h1, h2, h3, h4⟩ := open_inner g2
    simp at em e1 e2
    obtain ⟨em0, em1⟩ := em
    subst em0 em1 e1 e2
    refine ⟨((⟨m, b, ps⟩ : Vd), a, ps.length, c), rfl, ?_⟩
    have hle : Rows.uptoBulk y0.1 ≤ Rows.uptoBulk y.1 ∧ Rows.uptoBulk y2.1 ≤ Rows.uptoBulk y.1 := by
      rw [hxy]
      simp only [List.map_cons, List.map_nil, Rows.uptoBulk, Rows.uptoBulkAll]
      omega
    exact ⟨rfl, h1, h2, by show m.1.length + m.2.length ≤ _; omega, by show ps.length ≤ _; omega, fun p hp => by have := h4 p hp; omega⟩

set_option maxRecDepth 100000 in
theorem open_vends {H : Type} {enc : TypeId × Value → H} {W : World} {base : Nat} {a : Option Addr} {len cap : Nat} {d : DataW H} {p : List MemPlace} (hv : Value.okWide Tryz.prog W .any base 23 (.slice a len cap))
    (h : DataW.Trod enc Tryz.prog W 0 (fun _ => true) true 23 (.slice a len cap) d p) :
    ∃ zs : List VE, len = zs.length ∧ PlainA a ∧ RowV W a zs ∧ ∀ z ∈ zs, VdIn W z (Rows.uptoBulk d) := by
  obtain ⟨fuel, hf⟩ := h
  rcases Deep.open_slice Tryz.underlying23 hf with ⟨hcs, _⟩ | ⟨x, len', cap', m, n, D, Pl, hcs, _, hl, hm, hmm, hx, hel⟩
  · simp [Value.cells] at hcs
    obtain ⟨ha, h2, _⟩ := hcs
    subst ha
    exact ⟨[], h2, ⟨(fun ad h => by cases h), Or.inl rfl, fun z hz => by cases hz⟩⟩
  · simp [Value.cells] at hcs
    obtain ⟨rfl, rfl, rfl⟩ := hcs
    obtain ⟨hs, hb⟩ := slice_ok Tryz.underlying23 hv
    obtain ⟨B, O, sp⟩ := x
    have hsp : sp = none := hs
    subst hsp
    have hmm' : m = cap := by simpa using hmm
    subst hmm'
    have c81 : Tryz.prog.cellsOf 81 = 4 := by kernel_rfl
    rw [c81] at hel
    simp only [Prod.mk.injEq] at hx
    rw [hx.1]
    have hb2 := bulk_slice (Nat.le_refl (Rows.uptoBulk (.slice ((List.range len).map D) ((List.range (m - len)).map fun j => D (len + j)))))
    obtain ⟨f, hfx⟩ := Deep.choose_lt (α := VE) (n := len) (p := fun i z => (∀ r, r < 4 → W.cell? ⟨B, O + (i * 4 + r), none⟩ = some ((vdE z)[r]!)) ∧ VdIn W z (Rows.uptoBulk (D i))) (fun i hi => by
      obtain ⟨cs, h1, h2⟩ := hel i (by omega)
      obtain ⟨z, rfl, hz⟩ := open_vd h2
      obtain ⟨_, _, hcell⟩ := World.cells?_some h1
      refine ⟨z, fun r hr => ?_, hz⟩
      have z0 := hcell r (by show r < 4; exact hr)
      rw [WideShapes.add_plain, WideShapes.add_plain] at z0
      rw [← Nat.add_assoc, z0]
      have : r < (vdE z).length := hr
      simp [this])
    refine ⟨(List.range len).map f, by simp, fun ad h => by cases h; exact ⟨_, _, rfl⟩, Or.inr ⟨B, O, rfl, hb, fun j u hu => ?_⟩, ?_⟩
    · have hj : j < len * 4 := by
        have := (List.getElem?_eq_some_iff.1 hu).1
        rw [vdsV_lenM] at this
        simpa using this
      have hg := vdsV_get ((List.range len).map f) j (by simpa using hj)
      rw [hu] at hg
      have hk : j / 4 < len := by omega
      have e1 : ((List.range len).map f).toArray[j / 4]! = f (j / 4) := by simp [hk]
      rw [e1] at hg
      have h1 := (hfx (j / 4) hk).1 (j % 4) (Nat.mod_lt _ (by omega))
      have e2 : j / 4 * 4 + j % 4 = j := by omega
      rw [e2] at h1
      rw [h1, ← hg]
    · intro z hz
      obtain ⟨i, hi, rfl⟩ := List.mem_map.1 hz
      have h1 := (hfx i (List.mem_range.1 hi)).2
      have h2 : Rows.uptoBulk (D i) ≤ Rows.uptoBulkAll ((List.range len).map D) := bulk_mem (List.mem_map.2 ⟨i, hi, rfl⟩)
      exact h1.mono (by omega)

end Go.Proofs.YthcafeoamabkgaaGreatDoor
