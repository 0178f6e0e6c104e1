/-
  Pages and faults that came in, opened.
-/
import Derived.Test.YtmbcjdlpdibalaaRows
import Derived.Test.YtmbcjdlpdibalaaNewP
import Derived.Deep.Slices
import Derived.ProofKit
import Derived.OpenShut
namespace Go.Proofs.Ytmbcjdlpdibalaa
open Go.ChangeShapes Go.WideShapes Go.ChangeAt Go.RowKit

theorem bulk_one {H : Type} (d : DataW H) : 1 ≤ Rows.uptoBulk d := by
  cases d with
  | lit l => cases l <;> simp [Rows.uptoBulk]
  | _ => simp [Rows.uptoBulk]

theorem bulk_len {H : Type} (l : List (DataW H)) : l.length ≤ Rows.uptoBulkAll l := by
  induction l with
  | nil => simp [Rows.uptoBulkAll]
  | cons x r ih => have := bulk_one x; simp only [Rows.uptoBulkAll, List.length_cons]; omega

theorem bulk_mem {H : Type} {d : DataW H} {l : List (DataW H)} (h : d ∈ l) : Rows.uptoBulk d ≤ Rows.uptoBulkAll l := by
  induction l with
  | nil => cases h
  | cons x r ih =>
    simp only [Rows.uptoBulkAll]
    cases List.mem_cons.1 h with
    | inl e => subst e; omega
    | inr e => have := ih e; omega

set_option maxRecDepth 100000 in
theorem bulk_bound {H : Type} {l : List (DataW H)} (hk : Rows.uptoSmall H l = true) : Rows.uptoBulkAll l ≤ 1048576 := of_decide_eq_true hk

theorem bulk_slice {H : Type} {elems spare : List (DataW H)} {n : Nat} (h : Rows.uptoBulk (.slice elems spare) ≤ n) : Rows.uptoBulkAll elems ≤ n := by
  simp only [Rows.uptoBulk] at h
  omega

theorem bytes_size (s : ByteArray) : s.data.toList.length = s.size := by
  show s.data.toList.length = s.data.size
  exact Array.length_toList

theorem cell_spot {W : World} {a : Addr} {v : Value} (h : W.cell? a = some v) : a.spot = none := by
  unfold World.cell? at h
  split at h
  · split at h
    · cases h
    · rename_i hs; simpa using hs
  · cases h

theorem open_bytes1 {H : Type} {enc : TypeId × Value → H} {W : World} {fuel : Nat} {cs : List Value} {y : DataW H × List MemPlace} (h : DataW.trod enc Try.prog W 0 (fun _ => true) true fuel 32 cs = some y) :
    ∃ (a : Option Addr) (cap : Nat) (l : List UInt8), cs = [.slice a l.length cap] ∧ Bytes W a l.length l ∧ l.length ≤ cap ∧ l.length ≤ Rows.uptoBulk y.1 := by
  rcases open_ints Try.underlying32 Try.underlying5 (by kernel_rfl) h with ⟨hcs, _⟩ | ⟨x, len, cap, zs, hcs, _, hl, hm, hz, hy, hcell, hwz⟩
  · exact ⟨none, 0, [], hcs, ⟨rfl, fun _ => rfl, fun ad ha => (by cases ha)⟩, Nat.le_refl _, by simp⟩
  · have hzl : zs.length = cap := by simpa using hz
    have hlen : ((zs.take len).map fun z => z.toNat.toUInt8).length = len := by simp; omega
    refine ⟨some x, cap, (zs.take len).map fun z => z.toNat.toUInt8, by rw [hlen]; exact hcs, ⟨rfl, (by simp), fun ad ha i hi => ?_⟩, by rw [hlen]; exact hl, ?_⟩
    · rw [hlen] at hi
      obtain rfl : x = ad := by simpa using ha
      have hi2 : i < zs.length := by omega
      rw [hcell i hi2]
      have hw := hwz zs[i] (List.getElem_mem hi2)
      have hb : 0 ≤ zs[i] ∧ zs[i] ≤ 255 := by simpa [Lit.wf, IntKind.min, IntKind.max, IntKind.signed, IntKind.bits] using hw
      have e1 : zs.getD i 0 = zs[i] := by simp [List.getD, hi2]
      have e2 : ((zs.take len).map fun z => z.toNat.toUInt8).getD i 0 = zs[i].toNat.toUInt8 := by simp [List.getD, hi2, hi]
      rw [e1, e2]
      have e3 : (zs[i].toNat.toUInt8.toNat : Int) = zs[i] := by simp; omega
      rw [e3]
    · rw [hlen, hy]
      simp only [Rows.uptoBulk]
      have := bulk_len (H := H) (lits .u8 (zs.take len))
      have hll : (lits (H := H) .u8 (zs.take len)).length = len := by simp [lits]; omega
      omega

theorem bytes_lt {W : World} {a : Option Addr} {n : Nat} {l : List UInt8} (h : Bytes W a n l) : ∀ ad, a = some ad → 0 < n → ad.block < W.heap.size := fun ad ha h0 => by
  have := lt_of_cell (h.cell ad ha 0 h0)
  have hb : (ad.add 0).block = ad.block := by first | rfl | (simp [Addr.add]; done) | (unfold Addr.add; split <;> rfl)
  rwa [hb] at this

set_option maxRecDepth 100000 in
theorem open_page {H : Type} {enc : TypeId × Value → H} {W : World} {fuel : Nat} {cs : List Value} {y : DataW H × List MemPlace} (h : DataW.trod enc Try.prog W 0 (fun _ => true) true fuel 68 cs = some y) :
    ∃ (p : Pg) (a : Option Addr) (c : Nat), cs = [.string p.1, .slice a p.2.length c] ∧ Bytes W a p.2.length p.2 ∧ p.2.length ≤ c ∧ p.1.size + p.2.length ≤ Rows.uptoBulk y.1 := by
  obtain ⟨xs, k, _, hxy, hcl, hxl, hf⟩ := DataW.trod_struct Try.underlying68 h
  have c68 : Try.prog.cellsOf 68 = 2 := by kernel_rfl
  have c9 : Try.prog.cellsOf 9 = 1 := by kernel_rfl
  have c32 : Try.prog.cellsOf 32 = 1 := by kernel_rfl
  rw [c68] at hcl
  have hxl2 : xs.length = 2 := hxl
  match xs, hxl2, cs, hcl with
  | [y0, y1], _, [v0, v1], _ =>
    have g0 := hf 0 _ rfl
    have g1 := hf 1 _ rfl
    simp [c9, c32] at g0 g1
    obtain ⟨s0, e0, f0, _⟩ := DataW.trod_string Try.underlying9 g0
    obtain ⟨a, cap, l, e1, hb, hn, hl⟩ := open_bytes1 g1
    simp at e0 e1
    subst e0 e1
    refine ⟨(s0, l), a, cap, rfl, hb, hn, ?_⟩
    rw [hxy]
    simp only [List.map_cons, List.map_nil, Rows.uptoBulk, Rows.uptoBulkAll, f0]
    have := bytes_size s0
    show s0.size + l.length ≤ _
    omega

set_option maxRecDepth 100000 in
theorem open_fault {H : Type} {enc : TypeId × Value → H} {W : World} {fuel : Nat} {cs : List Value} {y : DataW H × List MemPlace} (h : DataW.trod enc Try.prog W 0 (fun _ => true) true fuel 50 cs = some y) :
    ∃ (f : Fa) (a : Option Addr) (c : Nat), cs = [.string f.u, .int .i64 f.k, .int .i64 f.kd, .int .i64 f.m, .slice a f.l.length c] ∧ Bytes W a f.l.length f.l ∧ ((Lit.int .i64 f.k).wf = true ∧ (Lit.int .i64 f.kd).wf = true ∧ (Lit.int .i64 f.m).wf = true) ∧ f.u.size + f.l.length ≤ Rows.uptoBulk y.1 := by
  obtain ⟨xs, k, _, hxy, hcl, hxl, hf⟩ := DataW.trod_struct Try.underlying50 h
  have c50 : Try.prog.cellsOf 50 = 5 := by kernel_rfl
  have c3 : Try.prog.cellsOf 3 = 1 := by kernel_rfl
  have c9 : Try.prog.cellsOf 9 = 1 := by kernel_rfl
  have c32 : Try.prog.cellsOf 32 = 1 := by kernel_rfl
  rw [c50] at hcl
  have hxl5 : xs.length = 5 := hxl
  match xs, hxl5, cs, hcl with
  | [y0, y1, y2, y3, y4], _, [v0, v1, v2, v3, v4], _ =>
    have g0 := hf 0 _ rfl
    have g1 := hf 1 _ rfl
    have g2 := hf 2 _ rfl
    have g3 := hf 3 _ rfl
    have g4 := hf 4 _ rfl
    simp [c3, c9, c32] at g0 g1 g2 g3 g4
    obtain ⟨s0, e0, f0, _⟩ := DataW.trod_string Try.underlying9 g0
    obtain ⟨n1, e1, _, wf1⟩ := DataW.trod_int Try.underlying3 g1
    obtain ⟨n2, e2, _, wf2⟩ := DataW.trod_int Try.underlying3 g2
    obtain ⟨n3, e3, _, wf3⟩ := DataW.trod_int Try.underlying3 g3
    obtain ⟨a, cap, l, e4, hb, hn, hl⟩ := open_bytes1 g4
    simp at e0 e1 e2 e3 e4
    subst e0 e1 e2 e3 e4
    refine ⟨⟨s0, n1, n2, n3, l⟩, a, cap, rfl, hb, ⟨wf1, wf2, wf3⟩, ?_⟩
    rw [hxy]
    simp only [List.map_cons, List.map_nil, Rows.uptoBulk, Rows.uptoBulkAll, f0]
    have := bytes_size s0
    show s0.size + l.length ≤ _
    omega

instance : Inhabited Fa := ⟨⟨⟨#[]⟩, 0, 0, 0, []⟩⟩

theorem open_pages {H : Type} {enc : TypeId × Value → H} {W : World} {a : Option Addr} {len cap : Nat} {d : DataW H} {p : List MemPlace} (h : DataW.Trod enc Try.prog W 0 (fun _ => true) true 22 (.slice a len cap) d p) (hb : Rows.uptoBulk d ≤ 1048576) :
    ∃ ps : List Pg, PgsAt W a len ps ∧ len ≤ 1099511627776 := by
  obtain ⟨fuel, hf⟩ := h
  rcases Deep.open_slice Try.underlying22 hf with ⟨hcs, _⟩ | ⟨x, len', cap', m, n, D, Pl, hcs, _, hl, hm, hmm, hx, hel⟩
  · simp [Value.cells] at hcs
    obtain ⟨rfl, rfl, rfl⟩ := hcs
    exact ⟨[], ⟨rfl, Or.inl rfl⟩, by omega⟩
  · simp [Value.cells] at hcs
    obtain ⟨rfl, rfl, rfl⟩ := hcs
    have hmm' : m = cap := by simpa using hmm
    subst hmm'
    have c68 : Try.prog.cellsOf 68 = 2 := by kernel_rfl
    rw [c68] at hel
    by_cases h0 : len = 0
    · subst h0
      exact ⟨[], ⟨rfl, Or.inl rfl⟩, by omega⟩
    obtain ⟨cs0, z1, z2⟩ := hel 0 (by omega)
    obtain ⟨o0, oa, oc, rfl, _⟩ := open_page z2
    have hspot : x.spot = none := cell_spot (a := x) (v := .string o0.1) (by have := (World.cells?_some z1).2.2 0 (by omega); simpa [Addr.add] using this)
    obtain ⟨B, O, sp⟩ := x
    have hsp : sp = none := hspot
    subst hsp
    simp only [Prod.mk.injEq] at hx
    rw [hx.1] at hb
    have hb2 : Rows.uptoBulkAll ((List.range len).map D) ≤ 1048576 := bulk_slice hb
    have hbl := bulk_len ((List.range len).map D)
    simp at hbl
    obtain ⟨ps, hps⟩ := Deep.choose_lt (α := Pg) (n := len) (p := fun i o => PgAt W B (O + i * 2) o) (fun i hi => by
      obtain ⟨cs, h1, h2⟩ := hel i (by omega)
      obtain ⟨o, a, c, rfl, ho1, ho2, ho3⟩ := open_page h2
      obtain ⟨_, _, hcell⟩ := World.cells?_some h1
      have ho4 : o.1.size + o.2.length ≤ Rows.uptoBulk (D i) := ho3
      have hmem : Rows.uptoBulk (D i) ≤ Rows.uptoBulkAll ((List.range len).map D) := bulk_mem (List.mem_map.2 ⟨i, List.mem_range.2 hi, rfl⟩)
      have cc : ∀ j v, j < 2 → [Value.string o.1, .slice a o.2.length c][j]? = some v → W.cell? ⟨B, O + i * 2 + j, none⟩ = some v := by
        intro j v hj hv
        have := hcell j hj
        rw [hv, WideShapes.add_plain, WideShapes.add_plain] at this
        exact this
      have c1 := cc 1 _ (by omega) rfl
      refine ⟨o, cc 0 _ (by omega) rfl, by unfold maxLen; omega, fun a' n' c' hq => ?_, a, o.2.length, c, c1, ho1, by omega, bytes_lt ho1⟩
      rw [c1] at hq
      cases hq
      exact ho2)
    refine ⟨(List.range len).map ps, ⟨by simp, Or.inr ⟨B, O, rfl, fun k hk => ?_⟩⟩, by omega⟩
    have hk' : k < len := by simpa using hk
    have := hps k hk'
    simpa using this

theorem open_faults {H : Type} {enc : TypeId × Value → H} {W : World} {a : Option Addr} {len cap : Nat} {d : DataW H} {p : List MemPlace} (h : DataW.Trod enc Try.prog W 0 (fun _ => true) true 23 (.slice a len cap) d p) (hb : Rows.uptoBulk d ≤ 1048576) :
    ∃ fs : List Fa, FasAt W a len fs ∧ len ≤ 1099511627776 := by
  obtain ⟨fuel, hf⟩ := h
  rcases Deep.open_slice Try.underlying23 hf with ⟨hcs, _⟩ | ⟨x, len', cap', m, n, D, Pl, hcs, _, hl, hm, hmm, hx, hel⟩
  · simp [Value.cells] at hcs
    obtain ⟨rfl, rfl, rfl⟩ := hcs
    exact ⟨[], ⟨rfl, Or.inl rfl⟩, by omega⟩
  · simp [Value.cells] at hcs
    obtain ⟨rfl, rfl, rfl⟩ := hcs
    have hmm' : m = cap := by simpa using hmm
    subst hmm'
    have c50 : Try.prog.cellsOf 50 = 5 := by kernel_rfl
    rw [c50] at hel
    by_cases h0 : len = 0
    · subst h0
      exact ⟨[], ⟨rfl, Or.inl rfl⟩, by omega⟩
    obtain ⟨cs0, z1, z2⟩ := hel 0 (by omega)
    obtain ⟨o0, oa, oc, rfl, _⟩ := open_fault z2
    have hspot : x.spot = none := cell_spot (a := x) (v := .string o0.u) (by have := (World.cells?_some z1).2.2 0 (by omega); simpa [Addr.add] using this)
    obtain ⟨B, O, sp⟩ := x
    have hsp : sp = none := hspot
    subst hsp
    simp only [Prod.mk.injEq] at hx
    rw [hx.1] at hb
    have hb2 : Rows.uptoBulkAll ((List.range len).map D) ≤ 1048576 := bulk_slice hb
    have hbl := bulk_len ((List.range len).map D)
    simp at hbl
    obtain ⟨fs, hfs⟩ := Deep.choose_lt (α := Fa) (n := len) (p := fun i o => FaAt W B (O + i * 5) o) (fun i hi => by
      obtain ⟨cs, h1, h2⟩ := hel i (by omega)
      obtain ⟨o, a, c, rfl, ho1, hw, ho3⟩ := open_fault h2
      obtain ⟨_, _, hcell⟩ := World.cells?_some h1
      have ho4 : o.u.size + o.l.length ≤ Rows.uptoBulk (D i) := ho3
      have hmem : Rows.uptoBulk (D i) ≤ Rows.uptoBulkAll ((List.range len).map D) := bulk_mem (List.mem_map.2 ⟨i, List.mem_range.2 hi, rfl⟩)
      have cc : ∀ j v, j < 5 → [Value.string o.u, .int .i64 o.k, .int .i64 o.kd, .int .i64 o.m, .slice a o.l.length c][j]? = some v → W.cell? ⟨B, O + i * 5 + j, none⟩ = some v := by
        intro j v hj hv
        have := hcell j hj
        rw [hv, WideShapes.add_plain, WideShapes.add_plain] at this
        exact this
      exact ⟨o, cc 0 _ (by omega) rfl, by unfold maxLen; omega, ⟨cc 1 _ (by omega) rfl, cc 2 _ (by omega) rfl, cc 3 _ (by omega) rfl⟩, hw, a, o.l.length, c, cc 4 _ (by omega) rfl, ho1, by omega, bytes_lt ho1⟩)
    refine ⟨(List.range len).map fs, ⟨by simp, Or.inr ⟨B, O, rfl, fun k hk => ?_⟩⟩, by omega⟩
    have hk' : k < len := by simpa using hk
    have := hfs k hk'
    simpa using this

end Go.Proofs.Ytmbcjdlpdibalaa
