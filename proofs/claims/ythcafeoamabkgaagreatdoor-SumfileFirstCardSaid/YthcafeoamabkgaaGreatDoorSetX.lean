/-
  The check of a lock's lines, as they come.
-/
import Derived.Test.YthcafeoamabkgaaGreatDoorLineX
import Derived.Maps.OwnSet
import Derived.Maps.OwnOps
import Derived.DeepKeys4
import Derived.Laws.EntriesVeiled
import Derived.Test.YthcafeoamabkgaaGreatDoorPthX
import Derived.Deep.RegionHeld3
namespace Go.Proofs.YthcafeoamabkgaaGreatDoor
open Go.RowKit Go.WideMaps Go.Maps

/-- A module and a kind. -/
abbrev En := Str × Str × Int
abbrev enV (x : En) : Value := .agg #[.string (ba x.1), .string (ba x.2.1), .int .i64 x.2.2]
abbrev enK (x : En) : Lit := .string (keyBytes [.string x.1, .string x.2.1, .int .i64 x.2.2])
/-- It may be a key. -/
def EnOk (x : En) : Prop := x.1.length ≤ maxLen ∧ x.2.1.length ≤ maxLen ∧ (Lit.int .i64 x.2.2).wf = true

def heldR (v : Value) : Option (DataW Value × List MemPlace) := some (.held v, [])
theorem held_inv {v : Value} {d : DataW Value} {ps : List MemPlace} (h : heldR v = some (d, ps)) : d = .held v := by
  simp [heldR] at h; exact h.1.symm

theorem law93 : Keyed Tryz.prog 93 := Keyed.of_law (deep_law_laid (by kernel_rfl) (m := 3) (by omega) (by decide +kernel) (by kernel_rfl) (by rw [Tryz.underlying93]))

set_option maxRecDepth 100000 in
theorem key93 {x : En} (h : EnOk x) : keyOf Tryz.prog 93 (enV x) = some (enK x) := by
  obtain ⟨p, v, k⟩ := x
  obtain ⟨h1, h2, h3⟩ := h
  simp only at h1 h2 h3
  have s1 : (ba p).size ≤ maxLen := by rw [ba_size]; exact h1
  have s2 : (ba v).size ≤ maxLen := by rw [ba_size]; exact h2
  have hkt : Tryz.prog.keyType 93 = true := by kernel_rfl
  obtain ⟨m, hm⟩ : ∃ m, Tryz.prog.types.size = m + 2 := ⟨_, (by kernel_rfl : Tryz.prog.types.size = (Tryz.prog.types.size - 2) + 2)⟩
  have c93 : Tryz.prog.cellsOf 93 = 3 := by kernel_rfl
  have c36 : Tryz.prog.cellsOf 36 = 2 := by kernel_rfl
  have c9 : Tryz.prog.cellsOf 9 = 1 := by kernel_rfl
  have c3 : Tryz.prog.cellsOf 3 = 1 := by kernel_rfl
  unfold keyOf
  simp only [Tryz.underlying93]
  rw [if_pos (by simp [hkt, Value.formed, Tryz.underlying93, c93]), hm]
  unfold Program.keyLits
  simp only [Tryz.underlying93, Value.cells]
  rw [if_pos (by simp [c93])]
  simp [Program.keyLits, Tryz.underlying36, Tryz.underlying9, Tryz.underlying3, c36, c9, c3, s1, s2, h3, ba_data]
  rw [if_pos (by decide)]
  rfl

theorem enK_inj {x y : En} (hx : EnOk x) (hy : EnOk y) (h : enK x = enK y) : x = y := by
  have h1 := key93 hx
  have h2 := key93 hy
  rw [h] at h1
  have h3 := law93.inj h1 h2
  obtain ⟨p, v, k⟩ := x
  obtain ⟨p', v', k'⟩ := y
  simp [ba_inj] at h3
  obtain ⟨rfl, rfl, rfl⟩ := h3
  rfl

/-- The map at block M has these. -/
structure SetAt (w : World) (M n : Nat) (ks : List En) : Prop where
  own : ∃ D, w.ownsMap Tryz.prog 93 heldR M n D ∧ (∀ x, EnOk x → Maps.has D (enK x) = decide (x ∈ ks)) ∧ ∀ x, EnOk x → D.atKey (enK x) (.held (.agg #[])) = .held (.agg #[])

theorem own_same {w w' : World} {k : TypeId} {b n : Nat} {D : DataW Value} (h : w.ownsMap Tryz.prog k heldR b n D) (hs : w'.heap[b]? = w.heap[b]?) : w'.ownsMap Tryz.prog k heldR b n D := by
  obtain ⟨es, clock, hb, r⟩ := h
  exact ⟨es, clock, hs.trans hb, r⟩

theorem SetAt.same {w w' : World} {M n : Nat} {ks : List En} (h : SetAt w M n ks) (hs : w'.heap[M]? = w.heap[M]?) : SetAt w' M n ks := by
  obtain ⟨D, h1, h2⟩ := h.own
  exact ⟨⟨D, own_same h1 hs, h2⟩⟩

theorem SetAt.lt {w : World} {M n : Nat} {ks : List En} (h : SetAt w M n ks) : M < w.heap.size := by
  obtain ⟨D, h1, _⟩ := h.own
  exact h1.lt

theorem SetAt.low {w w' : World} {M n : Nat} {ks : List En} (h : SetAt w M n ks) (hb : Below w.heap.size w w') : SetAt w' M n ks := h.same (hb.block M h.lt)

theorem zero172 (w : World) : (zeroValue 172).run Tryz.prog w = .ok (.agg #[]) w := by kernel_rfl

theorem look_en {w : World} {M n : Nat} {D : DataW Value} {x : En} (h : w.ownsMap Tryz.prog 93 heldR M n D) (hx : EnOk x) {b : Bool} (hb : Maps.has D (enK x) = b) (hat : D.atKey (enK x) (.held (.agg #[])) = .held (.agg #[])) : (Instr.lookup 132 (.map (some M)) (enV x) true).run Tryz.prog w = .ok (.tuple #[.agg #[], .bool b]) w := by
  obtain ⟨v, ps, h1, h2⟩ := h.look_ok law93 Tryz.underlying132 (zero172 w) (zd := .held (.agg #[])) (zp := []) rfl (key93 hx)
  have h3 := held_inv h2
  rw [hat] at h3
  cases h3
  rw [hb] at h1
  exact h1

theorem turned_size {w w' : World} {b : Nat} (h : w.mapTurned w' b) : w'.heap.size = w.heap.size := by
  obtain ⟨es, clock, es', clock', _, rfl⟩ := h
  simp [Go.ChangeMaps.setBlock]

theorem entryOf_any {x : Ln} (w : World) : Calls Tryz.prog 53 #[lnV x] w fun e w' => e = .returned (enV (x.p, x.v, x.k)) ∧ Below w.heap.size w w' := by
  obtain ⟨p, v, k, s⟩ := x
  go_enter Tryz.func53, Tryz.ntmps53
  go_wp2
  exact bodyPost_ret (v := enV (p, v, k)) (by simp [results, Tryz.results53, go_sem]) rfl ⟨rfl, ((Below.refl _ _).alloc (Nat.le_refl _) _).alloc (by simp) _⟩

theorem has_any {w : World} {M n : Nat} {ks : List En} {x : En} (h : SetAt w M n ks) (hx : EnOk x) : Calls Tryz.prog 86 #[.map (some M), enV x] w fun e w' => e = .returned (.bool (decide (x ∈ ks))) ∧ Below w.heap.size w w' := by
  obtain ⟨D, h1, h2, h3⟩ := h.own
  obtain ⟨b, hb⟩ : ∃ b, decide (x ∈ ks) = b := ⟨_, rfl⟩
  have hl : ∀ o, (Instr.lookup 132 (.map (some M)) (enV x) true).run Tryz.prog (w.alloc o) = .ok (.tuple #[.agg #[], .bool b]) (w.alloc o) := fun o => look_en (h1.alloc o) hx (by rw [h2 x hx, hb]) (h3 x hx)
  rw [hb]
  clear h h1 h2 h3 hb hx
  obtain ⟨p, v, k⟩ := x
  go_enter Tryz.func86, Tryz.ntmps86
  go_wp2
  go_ret
  exact ⟨rfl, ((Below.refl _ _).alloc (Nat.le_refl _) _).alloc (by simp) _⟩

/-- All but one block is as it was. -/
structure But (M : Nat) (w w' : World) : Prop where
  os : w'.os = w.os
  tape : w'.tape = w.tape
  output : w'.output = w.output
  size : w.heap.size ≤ w'.heap.size
  block : ∀ k, k < w.heap.size → k ≠ M → w'.heap[k]? = w.heap[k]?

theorem But.of {M : Nat} {w w' : World} (h : Below w.heap.size w w') : But M w w' := ⟨h.os, h.tape, h.output, h.size, fun k hk _ => h.block k hk⟩
theorem But.trans {M : Nat} {a b c : World} (h : But M a b) (k : But M b c) : But M a c := ⟨k.os.trans h.os, k.tape.trans h.tape, k.output.trans h.output, Nat.le_trans h.size k.size, fun i hi hne => (k.block i (Nat.lt_of_lt_of_le hi h.size) hne).trans (h.block i hi hne)⟩
theorem But.low {M B : Nat} {w0 w w' : World} (h : But M w w') (hb : Below B w0 w) (hB : B ≤ w.heap.size) (hM : B ≤ M) : Below B w0 w' :=
  ⟨h.os.trans hb.os, h.tape.trans hb.tape, h.output.trans hb.output, Nat.le_trans hb.size h.size, fun k hk => (h.block k (by omega) (by omega)).trans (hb.block k hk)⟩

set_option maxHeartbeats 1000000 in
theorem add_any {w : World} {M n : Nat} {ks : List En} {x : En} (h : SetAt w M n ks) (hx : EnOk x) (hn : n ≤ 1099511627776) : Calls Tryz.prog 87 #[.map (some M), enV x] w fun e w' => e = .returned (.tuple #[]) ∧ SetAt w' M (n + 1) (x :: ks) ∧ But M w w' := by
  obtain ⟨D, h1, h2, h3⟩ := h.own
  have hk := key93 hx
  have hlt := h1.lt
  have HO : ∀ o, (w.alloc o).ownsMap Tryz.prog 93 heldR M n D := fun o => h1.alloc o
  have HO := hide HO
  have H1 := hide h1
  have H2 := hide h2
  have H3 := hide h3
  have HX := hide hx
  clear h h1 h2 h3 hx
  obtain ⟨p, v, k⟩ := x
  go_enter Tryz.func87, Tryz.ntmps87
  go_wp2_with (at_mapUpdate; refine wpList_mapUpdate_in _ rfl _ _ _ 132 rfl 93 172 law93 Tryz.underlying132 heldR M n D rfl (unhide HO _) (by unfold maxLen; omega) _ _ _ rfl rfl hk _ [] rfl ?_; intro w2 hown2 hturn2)
  go_end0
  have g2 := hturn2.grown
  have sz : w2.heap.size = w.heap.size + 1 := by rw [turned_size hturn2]; show (w.heap.push _).size = _; simp
  refine ⟨rfl, ⟨⟨_, hown2, fun y hy => ?_, fun y hy => ?_⟩⟩, ⟨g2.os, g2.tape, g2.output, by omega, fun j hj hne => ?_⟩⟩
  · by_cases e : y = (p, v, k)
    · subst e
      rw [has_put_same (unhide H1).isMap (law93.key hk)]
      simp
    · rw [has_put_other (fun e2 => e (enK_inj hy (unhide HX) e2)), (unhide H2) y hy]
      simp [e]
  · by_cases e : y = (p, v, k)
    · subst e
      rw [atKey_put_same (unhide H1).isMap (law93.key hk)]
      rfl
    · rw [atKey_put_other (fun e2 => e (enK_inj hy (unhide HX) e2)), (unhide H3) y hy]
  · rw [g2.block j (by show j < (w.heap.push _).size; simp; omega) (by simpa using hne)]
    exact Below.heap_alloc _ _ j hj

end Go.Proofs.YthcafeoamabkgaaGreatDoor

namespace Go.Proofs.YthcafeoamabkgaaGreatDoor
open Go.RowKit Go.WideMaps Go.Maps

def enOf (x : Ln) : En := (x.p, x.v, x.k)
/-- The error of a line, with those ahead. -/
def checkE (ks : List En) (x : Ln) : Int :=
  if x.k ≠ 0 ∧ x.k ≠ 1 then 7 else if checkR x.p x.v ≠ 0 then (checkR x.p x.v : Int) else if sumB x.s then (if enOf x ∈ ks then 12 else 0) else 16
def checkK (ks : List En) (x : Ln) : List En := if checkE ks x = 0 then enOf x :: ks else ks

structure LnOk (x : Ln) : Prop where
  p : x.p.length < 4294967281
  v : x.v.length < 4294967281
  s : x.s.length < 4294967281

theorem LnOk.en {x : Ln} (h : LnOk x) (hk : x.k = 0 ∨ x.k = 1) : EnOk (enOf x) := by
  refine ⟨?_, ?_, ?_⟩
  · have := h.p; show x.p.length ≤ maxLen; unfold maxLen; omega
  · have := h.v; show x.v.length ≤ maxLen; unfold maxLen; omega
  · show (Lit.int .i64 x.k).wf = true
    rcases hk with e | e <;> (rw [e]; decide)

theorem SetAt.up {w : World} {M n : Nat} {ks : List En} (h : SetAt w M n ks) : SetAt w M (n + 1) ks := by
  obtain ⟨D, h1, h2⟩ := h.own
  exact ⟨⟨D, h1.mono (Nat.le_succ _), h2⟩⟩

/-- What the check leaves. -/
def Checked (M n : Nat) (ks : List En) (x : Ln) (w : World) (e : Ending) (w' : World) : Prop := e = .returned (.int .i64 (checkE ks x)) ∧ SetAt w' M (n + 1) (checkK ks x) ∧ But M w w'


theorem box_line {w : World} (x : Ln) {w1 : World} (b1 : Below (w.alloc (.cells (lnC x) 38)).heap.size (w.alloc (.cells (lnC x) 38)) w1) : Blk w1 w.heap.size (lnC x) 38 ∧ Below w.heap.size w w1 := by
  have a : Below w.heap.size w (w.alloc (.cells (lnC x) 38)) := (Below.refl _ _).alloc (Nat.le_refl _) _
  exact ⟨(Blk.new w _ _).low b1, a.trans (b1.mono a.size)⟩

/-- What the check reads, as it goes on. -/
abbrev HeldC (w : World) (c M : Nat) (x : Ln) (wq : World) : Prop :=
  wq.cell? ⟨c, 0, none⟩ = some (.map (some M)) ∧ wq.cell? ⟨w.heap.size, 0, none⟩ = some (.string (ba x.p)) ∧ wq.cell? ⟨w.heap.size, 1, none⟩ = some (.string (ba x.v)) ∧ wq.cell? ⟨w.heap.size, 2, none⟩ = some (.int .i64 x.k) ∧ wq.cell? ⟨w.heap.size, 3, none⟩ = some (.string (ba x.s)) ∧ Blk wq w.heap.size (lnC x) 38 ∧ Below w.heap.size w wq

theorem HeldC.mk' {w wq : World} {c M : Nat} {x : Ln} (hc : w.cell? ⟨c, 0, none⟩ = some (.map (some M))) (k : Blk wq w.heap.size (lnC x) 38) (b : Below w.heap.size w wq) : HeldC w c M x wq :=
  ⟨(b.cell (p := ⟨c, 0, none⟩) (lt_of_cell hc)).trans hc, k.cell 0, k.cell 1, k.cell 2, k.cell 3, k, b⟩
theorem HeldC.on {w wq w' : World} {c M : Nat} {x : Ln} (hc : w.cell? ⟨c, 0, none⟩ = some (.map (some M))) (h : HeldC w c M x wq) (b : Below wq.heap.size wq w') : HeldC w c M x w' :=
  HeldC.mk' hc (h.2.2.2.2.2.1.low b) (low_trans h.2.2.2.2.2.2 b)
theorem HeldC.drew {w wq : World} {c M : Nat} {x : Ln} (h : HeldC w c M x wq) : HeldC w c M x wq.drew := ⟨h.1, h.2.1, h.2.2.1, h.2.2.2.1, h.2.2.2.2.1, h.2.2.2.2.2.1, h.2.2.2.2.2.2.drew⟩

theorem entry_held {w wq : World} {c M : Nat} {x : Ln} (hc : w.cell? ⟨c, 0, none⟩ = some (.map (some M))) (h : HeldC w c M x wq) :
    Calls Tryz.prog 53 #[.agg #[.string (ba x.p), .string (ba x.v), .int .i64 x.k, .string (ba x.s)]] wq fun e w' => e = .returned (.agg #[.string (ba x.p), .string (ba x.v), .int .i64 x.k]) ∧ HeldC w c M x w' := by
  refine (entryOf_any (x := x) wq).mono ?_
  rintro e w' ⟨rfl, b⟩
  exact ⟨rfl, h.on hc b⟩

theorem has_held {w wq : World} {c M n : Nat} {ks : List En} {x : Ln} {r : Bool} (hc : w.cell? ⟨c, 0, none⟩ = some (.map (some M))) (hs : SetAt w M n ks) (hx : EnOk (enOf x)) (hr : decide (enOf x ∈ ks) = r) (h : HeldC w c M x wq) :
    Calls Tryz.prog 86 #[.map (some M), .agg #[.string (ba x.p), .string (ba x.v), .int .i64 x.k]] wq fun e w' => e = .returned (.bool r) ∧ HeldC w c M x w' := by
  refine (has_any (x := enOf x) (hs.low h.2.2.2.2.2.2) hx).mono ?_
  rintro e w' ⟨rfl, b⟩
  exact ⟨ret_bool hr, h.on hc b⟩

set_option maxHeartbeats 2000000 in
theorem check_any {w : World} {c M n : Nat} {ks : List En} {x : Ln} (hg : Gd w) (hc : w.cell? ⟨c, 0, none⟩ = some (.map (some M))) (hs : SetAt w M n ks) (hx : LnOk x) (hn : n ≤ 1000000) :
    Calls Tryz.prog 84 #[lnV x, .pointer (some ⟨c, 0, none⟩)] w (Checked M n ks x w) := by
  have a0 : Below w.heap.size w (w.alloc (.cells (lnC x) 38)) := (Below.refl _ _).alloc (Nat.le_refl _) _
  have HA0 := hide a0
  by_cases hk : x.k ≠ 0 ∧ x.k ≠ 1
  · have HV : Hid (checkE ks x = 7) := by show checkE ks x = 7; unfold checkE; rw [if_pos hk]
    have HF : Hid (∀ w', Below w.heap.size w w' → Checked M n ks x w (.returned (.int .i64 7)) w') := fun w' b => ⟨by rw [unhide HV], by unfold checkK; rw [unhide HV, if_neg (by decide)]; exact (hs.low b).up, But.of b⟩
    obtain ⟨h0, h1⟩ := hk
    obtain ⟨p, v, k, s⟩ := x
    simp only at h0 h1
    have e0 : (k != 0) = true := by simpa using h0
    have e1 : (k != 1) = true := by simpa using h1
    clear hg hc hs hx a0 HV
    go_enter Tryz.func84, Tryz.ntmps84
    go_wp2
    go_ret
    exact (unhide HF) _ (unhide HA0)
  · have hk01 : x.k = 0 ∨ x.k = 1 := by omega
    have hen := hx.en hk01
    have HG := hide hg
    have HC := hide hc
    have HS := hide hs
    have HX := hide hx
    have HEN := hide hen
    have HE : Hid (checkE ks x = if checkR x.p x.v ≠ 0 then (checkR x.p x.v : Int) else if sumB x.s then (if enOf x ∈ ks then 12 else 0) else 16) := by show checkE ks x = _; unfold checkE; rw [if_neg hk]
    have HF : Hid (∀ z w', checkE ks x = z → z ≠ 0 → Below w.heap.size w w' → Checked M n ks x w (.returned (.int .i64 z)) w') := fun z w' hz h0 b => ⟨by rw [hz], by unfold checkK; rw [hz, if_neg h0]; exact ((unhide HS).low b).up, But.of b⟩
    obtain ⟨m, hm⟩ : ∃ m, checkR x.p x.v = m := ⟨_, rfl⟩
    have HM := hide (check_is hm hx.p (hg.low a0))
    rw [hm] at HE
    have hk2 : x.k = 0 ∨ ¬ x.k = 0 ∧ x.k = 1 := by omega
    clear hg hc hs hx hen hm a0
    by_cases hm0 : m = 0
    · subst hm0
      have HE' : Hid (checkE ks x = if sumB x.s then (if enOf x ∈ ks then 12 else 0) else 16) := by have := unhide HE; exact hide (by simpa using this)
      have hxs : x.s.length ≤ 1099511627776 := by have := (unhide HX).s; omega
      have HS1 := hide (fun w => validSum_any x.s hxs w)
      cases hsb : sumB x.s with
      | false =>
        have HF2 : Hid (∀ w', Below w.heap.size w w' → Checked M n ks x w (.returned (.int .i64 16)) w') := fun w' b => (unhide HF) _ w' (by rw [unhide HE', hsb]; rfl) (by omega) b
        rw [hsb] at HS1
        obtain ⟨p, v, k, s⟩ := x
        simp only at hk2 HM HS1 hxs
        clear HE HE' HF HG HC HS HX HEN hk hk01 hsb
        rcases hk2 with rfl | ⟨_, rfl⟩
        all_goals
          go_enter Tryz.func84, Tryz.ntmps84
          go_wp2_with (go_at_call 85; fail)
          refine (unhide HM).mono ?_
          rintro e w1 ⟨rfl, b1⟩
          obtain ⟨k1, hlow⟩ := box_line _ b1.low
          have c3 : w1.cell? ⟨w.heap.size, 3, none⟩ = some (.string (ba s)) := k1.cell 3
          have HB := hide hlow
          clear b1 k1 hlow
          go_wp2_with (go_at_call 25; fail)
          refine (unhide HS1 _).mono ?_
          rintro e w2 ⟨rfl, hw⟩
          rw [hw]; clear hw w2
          go_wp2
          go_ret
          exact (unhide HF2) _ (unhide HB)
      | true =>
        rw [hsb] at HS1
        obtain ⟨r, hr⟩ : ∃ r, decide (enOf x ∈ ks) = r := ⟨_, rfl⟩
        have HR := hide hr
        cases r with
        | true =>
          have HF2 : Hid (∀ w', Below w.heap.size w w' → Checked M n ks x w (.returned (.int .i64 12)) w') := fun w' b => (unhide HF) _ w' (by rw [unhide HE', hsb, if_pos rfl, if_pos (by simpa using hr)]) (by omega) b
          clear HE HE' HF HG HX hk hk01 hsb hr
          obtain ⟨p, v, k, s⟩ := x
          simp only at hk2 HM HS1 hxs
          rcases hk2 with rfl | ⟨_, rfl⟩
          · go_enter Tryz.func84, Tryz.ntmps84
            go_wp2_with (go_at_call 85; fail)
            refine (unhide HM).mono ?_
            rintro e w1 ⟨rfl, b1⟩
            obtain ⟨k1, hlow⟩ := box_line _ b1.low
            have H1 : HeldC w c M ⟨p, v, 0, s⟩ w1 := HeldC.mk' (unhide HC) k1 hlow
            obtain ⟨q0, q1, q2, q3, q4, _, _⟩ := id H1
            clear b1 k1 hlow
            go_wp2_with (go_at_call 25; fail)
            refine (unhide HS1 _).mono ?_
            rintro e w2 ⟨rfl, hw⟩
            rw [hw]; clear hw w2
            go_wp2
            go_region_held3 (fun w' => w'.cell? ⟨c, 0, none⟩ = some (.map (some M)) ∧ w'.cell? ⟨w.heap.size, 0, none⟩ = some (.string (ba p)) ∧ w'.cell? ⟨w.heap.size, 1, none⟩ = some (.string (ba v)) ∧ w'.cell? ⟨w.heap.size, 2, none⟩ = some (.int .i64 0) ∧ w'.cell? ⟨w.heap.size, 3, none⟩ = some (.string (ba s)) ∧ Blk w' w.heap.size (lnC ⟨p, v, 0, s⟩) 38 ∧ Below w.heap.size w w')
              (first | assumption | exact HeldC.drew (by assumption) | exact H1 | exact HeldC.drew H1)
              (first
                | (go_at_call 53; refine (entry_held (x := ⟨p, v, 0, s⟩) (unhide HC) (by assumption)).mono ?_; rintro e w' ⟨rfl, k⟩)
                | (go_at_call 86; refine (has_held (x := ⟨p, v, 0, s⟩) (unhide HC) (unhide HS) (unhide HEN) (unhide HR) (by assumption)).mono ?_; rintro e w' ⟨rfl, k⟩))
            have kz := k
            have HB : Hid (Below w.heap.size w w') := kz.2.2.2.2.2.2
            go_wp2
            go_ret
            exact (unhide HF2) _ (unhide HB)
          · go_enter Tryz.func84, Tryz.ntmps84
            go_wp2_with (go_at_call 85; fail)
            refine (unhide HM).mono ?_
            rintro e w1 ⟨rfl, b1⟩
            obtain ⟨k1, hlow⟩ := box_line _ b1.low
            have H1 : HeldC w c M ⟨p, v, 1, s⟩ w1 := HeldC.mk' (unhide HC) k1 hlow
            obtain ⟨q0, q1, q2, q3, q4, _, _⟩ := id H1
            clear b1 k1 hlow
            go_wp2_with (go_at_call 25; fail)
            refine (unhide HS1 _).mono ?_
            rintro e w2 ⟨rfl, hw⟩
            rw [hw]; clear hw w2
            go_wp2
            go_region_held3 (fun w' => w'.cell? ⟨c, 0, none⟩ = some (.map (some M)) ∧ w'.cell? ⟨w.heap.size, 0, none⟩ = some (.string (ba p)) ∧ w'.cell? ⟨w.heap.size, 1, none⟩ = some (.string (ba v)) ∧ w'.cell? ⟨w.heap.size, 2, none⟩ = some (.int .i64 1) ∧ w'.cell? ⟨w.heap.size, 3, none⟩ = some (.string (ba s)) ∧ Blk w' w.heap.size (lnC ⟨p, v, 1, s⟩) 38 ∧ Below w.heap.size w w')
              (first | assumption | exact HeldC.drew (by assumption) | exact H1 | exact HeldC.drew H1)
              (first
                | (go_at_call 53; refine (entry_held (x := ⟨p, v, 1, s⟩) (unhide HC) (by assumption)).mono ?_; rintro e w' ⟨rfl, k⟩)
                | (go_at_call 86; refine (has_held (x := ⟨p, v, 1, s⟩) (unhide HC) (unhide HS) (unhide HEN) (unhide HR) (by assumption)).mono ?_; rintro e w' ⟨rfl, k⟩))
            have kz := k
            have HB : Hid (Below w.heap.size w w') := kz.2.2.2.2.2.2
            go_wp2
            go_ret
            exact (unhide HF2) _ (unhide HB)
        | false =>
          have HZ : Hid (checkE ks x = 0) := by show checkE ks x = 0; rw [unhide HE', hsb, if_pos rfl, if_neg (by simpa using hr)]
          have HF3 : Hid (∀ w8 w9, Below w.heap.size w w8 → SetAt w9 M (n + 1) (enOf x :: ks) → But M w8 w9 → Checked M n ks x w (.returned (.int .i64 0)) w9) := fun w8 w9 b h9 k9 => ⟨by rw [unhide HZ], by unfold checkK; rw [unhide HZ, if_pos rfl]; exact h9, (But.of b).trans k9⟩
          clear HZ
          clear HE HE' HF HG HX hk hk01 hsb hr
          obtain ⟨p, v, k, s⟩ := x
          simp only at hk2 HM HS1 hxs
          rcases hk2 with rfl | ⟨_, rfl⟩
          · go_enter Tryz.func84, Tryz.ntmps84
            go_wp2_with (go_at_call 85; fail)
            refine (unhide HM).mono ?_
            rintro e w1 ⟨rfl, b1⟩
            obtain ⟨k1, hlow⟩ := box_line _ b1.low
            have H1 : HeldC w c M ⟨p, v, 0, s⟩ w1 := HeldC.mk' (unhide HC) k1 hlow
            obtain ⟨q0, q1, q2, q3, q4, _, _⟩ := id H1
            clear b1 k1 hlow
            go_wp2_with (go_at_call 25; fail)
            refine (unhide HS1 _).mono ?_
            rintro e w2 ⟨rfl, hw⟩
            rw [hw]; clear hw w2
            go_wp2
            go_region_held3 (fun w' => w'.cell? ⟨c, 0, none⟩ = some (.map (some M)) ∧ w'.cell? ⟨w.heap.size, 0, none⟩ = some (.string (ba p)) ∧ w'.cell? ⟨w.heap.size, 1, none⟩ = some (.string (ba v)) ∧ w'.cell? ⟨w.heap.size, 2, none⟩ = some (.int .i64 0) ∧ w'.cell? ⟨w.heap.size, 3, none⟩ = some (.string (ba s)) ∧ Blk w' w.heap.size (lnC ⟨p, v, 0, s⟩) 38 ∧ Below w.heap.size w w')
              (first | assumption | exact HeldC.drew (by assumption) | exact H1 | exact HeldC.drew H1)
              (first
                | (go_at_call 53; refine (entry_held (x := ⟨p, v, 0, s⟩) (unhide HC) (by assumption)).mono ?_; rintro e w' ⟨rfl, k⟩)
                | (go_at_call 86; refine (has_held (x := ⟨p, v, 0, s⟩) (unhide HC) (unhide HS) (unhide HEN) (unhide HR) (by assumption)).mono ?_; rintro e w' ⟨rfl, k⟩))
            have kz := k
            have HB : Hid (Below w.heap.size w w') := kz.2.2.2.2.2.2
            obtain ⟨r0, r1, r2, r3, r4, r5, r6⟩ := id kz
            clear kz H1
            go_wp2
            go_region_with (first
              | (go_at_call 53; refine (entryOf_any (x := ⟨p, v, 0, s⟩) _).mono ?_; rintro e w8 ⟨rfl, b8⟩; have p0 : w8.cell? ⟨c, 0, none⟩ = some (.map (some M)) := (b8.cell (p := ⟨c, 0, none⟩) (lt_of_cell r0)).trans r0; have HB8 : Hid (Below w.heap.size w w8) := low_trans r6.drew b8)
              | (go_at_call 87; refine (add_any (x := (p, v, 0)) ((unhide HS).low (unhide HB8)) (unhide HEN) (by omega)).mono ?_; rintro e w9 ⟨rfl, hs9, but9⟩; have HD := hide ((unhide HF3) w8 w9 (unhide HB8) hs9 but9)))
            all_goals
              go_wp2
              go_ret
              exact unhide HD
          · go_enter Tryz.func84, Tryz.ntmps84
            go_wp2_with (go_at_call 85; fail)
            refine (unhide HM).mono ?_
            rintro e w1 ⟨rfl, b1⟩
            obtain ⟨k1, hlow⟩ := box_line _ b1.low
            have H1 : HeldC w c M ⟨p, v, 1, s⟩ w1 := HeldC.mk' (unhide HC) k1 hlow
            obtain ⟨q0, q1, q2, q3, q4, _, _⟩ := id H1
            clear b1 k1 hlow
            go_wp2_with (go_at_call 25; fail)
            refine (unhide HS1 _).mono ?_
            rintro e w2 ⟨rfl, hw⟩
            rw [hw]; clear hw w2
            go_wp2
            go_region_held3 (fun w' => w'.cell? ⟨c, 0, none⟩ = some (.map (some M)) ∧ w'.cell? ⟨w.heap.size, 0, none⟩ = some (.string (ba p)) ∧ w'.cell? ⟨w.heap.size, 1, none⟩ = some (.string (ba v)) ∧ w'.cell? ⟨w.heap.size, 2, none⟩ = some (.int .i64 1) ∧ w'.cell? ⟨w.heap.size, 3, none⟩ = some (.string (ba s)) ∧ Blk w' w.heap.size (lnC ⟨p, v, 1, s⟩) 38 ∧ Below w.heap.size w w')
              (first | assumption | exact HeldC.drew (by assumption) | exact H1 | exact HeldC.drew H1)
              (first
                | (go_at_call 53; refine (entry_held (x := ⟨p, v, 1, s⟩) (unhide HC) (by assumption)).mono ?_; rintro e w' ⟨rfl, k⟩)
                | (go_at_call 86; refine (has_held (x := ⟨p, v, 1, s⟩) (unhide HC) (unhide HS) (unhide HEN) (unhide HR) (by assumption)).mono ?_; rintro e w' ⟨rfl, k⟩))
            have kz := k
            have HB : Hid (Below w.heap.size w w') := kz.2.2.2.2.2.2
            obtain ⟨r0, r1, r2, r3, r4, r5, r6⟩ := id kz
            clear kz H1
            go_wp2
            go_region_with (first
              | (go_at_call 53; refine (entryOf_any (x := ⟨p, v, 1, s⟩) _).mono ?_; rintro e w8 ⟨rfl, b8⟩; have p0 : w8.cell? ⟨c, 0, none⟩ = some (.map (some M)) := (b8.cell (p := ⟨c, 0, none⟩) (lt_of_cell r0)).trans r0; have HB8 : Hid (Below w.heap.size w w8) := low_trans r6.drew b8)
              | (go_at_call 87; refine (add_any (x := (p, v, 1)) ((unhide HS).low (unhide HB8)) (unhide HEN) (by omega)).mono ?_; rintro e w9 ⟨rfl, hs9, but9⟩; have HD := hide ((unhide HF3) w8 w9 (unhide HB8) hs9 but9)))
            all_goals
              go_wp2
              go_ret
              exact unhide HD
    · have HF2 : Hid (∀ w', Below w.heap.size w w' → Checked M n ks x w (.returned (.int .i64 (m : Int))) w') := fun w' b => (unhide HF) _ w' (by rw [unhide HE, if_pos hm0]) (by omega) b
      have hmi : ¬ (m : Int) = 0 := by omega
      have hmb : ((m : Int) != 0) = true := by simpa using hmi
      obtain ⟨p, v, k, s⟩ := x
      simp only at hk2 HM
      clear HE HF hm0 HG HC HS HX HEN hk hk01
      rcases hk2 with rfl | ⟨_, rfl⟩
      all_goals
        go_enter Tryz.func84, Tryz.ntmps84
        go_wp2_with (go_at_call 85; fail)
        refine (unhide HM).mono ?_
        rintro e w1 ⟨rfl, b1⟩
        have HB := hide (box_line _ b1.low).2
        clear b1
        go_wp2
        go_ret
        exact (unhide HF2) _ (unhide HB)

end Go.Proofs.YthcafeoamabkgaaGreatDoor
