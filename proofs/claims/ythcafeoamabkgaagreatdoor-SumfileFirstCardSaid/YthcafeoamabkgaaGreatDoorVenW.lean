/-
  readModule, justBegun.
-/
import Derived.Test.YthcafeoamabkgaaGreatDoorKeepM
import Derived.Test.YthcafeoamabkgaaGreatDoorPthX
import Derived.StringKeys
import Derived.Deep.RegionWith
import Derived.Test.YthcafeoamabkgaaGreatDoorFrsX
import Derived.Test.YthcafeoamabkgaaGreatDoorLineX
namespace Go.Proofs.YthcafeoamabkgaaGreatDoor

section
open Go.RowKit Go.WideMaps Go.Maps
theorem law9 : Keyed Tryz.prog 9 := string_keyed Tryz.underlying9
theorem key9 {s : Str} (h : s.length ≤ maxLen) : keyOf Tryz.prog 9 (.string (ba s)) = some (.string s) := by
  have := keyOf_string_mk Tryz.underlying9 (s := ba s) (by rw [ba_size]; exact h)
  rwa [ba_data] at this

/-- The map at block M has these texts. -/
structure SetSAt (w : World) (M n : Nat) (ks : List Str) : Prop where
  own : ∃ D, w.ownsMap Tryz.prog 9 heldR M n D ∧ (∀ x : Str, Maps.has D (.string x) = decide (x ∈ ks)) ∧ ∀ x : Str, D.atKey (.string x) (.held (.agg #[])) = .held (.agg #[])

theorem SetSAt.same {w w' : World} {M n : Nat} {ks : List Str} (h : SetSAt w M n ks) (hs : w'.heap[M]? = w.heap[M]?) : SetSAt w' M n ks := by
  obtain ⟨D, ⟨es, clock, hb, rest⟩, h2⟩ := h.own
  exact ⟨⟨D, ⟨es, clock, by rw [hs]; exact hb, rest⟩, h2⟩⟩
theorem SetSAt.lt {w : World} {M n : Nat} {ks : List Str} (h : SetSAt w M n ks) : M < w.heap.size := by
  obtain ⟨D, h1, _⟩ := h.own
  exact h1.lt
theorem SetSAt.low {w w' : World} {M n : Nat} {ks : List Str} (h : SetSAt w M n ks) (hb : Below w.heap.size w w') : SetSAt w' M n ks := h.same (hb.block M h.lt)
theorem SetSAt.but {w w' : World} {M n g : Nat} {ks : List Str} (h : SetSAt w M n ks) (hb : But g w w') (hne : M ≠ g) : SetSAt w' M n ks := h.same (hb.block M h.lt hne)
theorem mapS_not {w : World} {M n : Nat} {ks : List Str} (h : SetSAt w M n ks) {cs : Array Value} {t : TypeId} : ¬ w.heap[M]? = some (.cells cs t (0, 0)) := by
  obtain ⟨D, ⟨es, clock, hb, _⟩, _⟩ := h.own
  rw [hb]; simp
theorem setS_new (w : World) : SetSAt (w.alloc (.map #[] 0)) w.heap.size 0 [] :=
  ⟨⟨.map [], World.ownsMap_made w Tryz.prog 9 heldR, fun x => by simp [Maps.has], fun x => by rfl⟩⟩

theorem look_s {w : World} {M n : Nat} {D : DataW Value} {x : Str} (h : w.ownsMap Tryz.prog 9 heldR M n D) (hx : x.length ≤ maxLen) {b : Bool} (hb : Maps.has D (.string x) = b) (hat : D.atKey (.string x) (.held (.agg #[])) = .held (.agg #[])) : (Instr.lookup 153 (.map (some M)) (.string (ba x)) true).run Tryz.prog w = .ok (.tuple #[.agg #[], .bool b]) w := by
  obtain ⟨v, ps, h1, h2⟩ := h.look_ok law9 Tryz.underlying153 (zero172 w) (zd := .held (.agg #[])) (zp := []) rfl (key9 hx)
  have h3 := held_inv h2
  rw [hat] at h3
  cases h3
  rw [hb] at h1
  exact h1

theorem hasS_any {w : World} {M n : Nat} {ks : List Str} {x : Str} (h : SetSAt w M n ks) (hx : x.length ≤ maxLen) : Calls Tryz.prog 144 #[.map (some M), .string (ba x)] w fun e w' => e = .returned (.bool (decide (x ∈ ks))) ∧ Below w.heap.size w w' := by
  obtain ⟨D, h1, h2, h3⟩ := h.own
  obtain ⟨b, hb⟩ : ∃ b, decide (x ∈ ks) = b := ⟨_, rfl⟩
  have hl : (Instr.lookup 153 (.map (some M)) (.string (ba x)) true).run Tryz.prog w = .ok (.tuple #[.agg #[], .bool b]) w := look_s h1 hx (by rw [h2 x, hb]) (h3 x)
  rw [hb]
  clear h h1 h2 h3 hb hx
  go_enter Tryz.func144, Tryz.ntmps144
  go_wp2
  go_ret
  exact ⟨rfl, (Below.refl _ _).alloc (Nat.le_refl _) _⟩

set_option maxHeartbeats 1000000 in
theorem addS_any {w : World} {M n : Nat} {ks : List Str} {x : Str} (h : SetSAt w M n ks) (hx : x.length ≤ maxLen) (hn : n ≤ 1099511627776) : Calls Tryz.prog 145 #[.map (some M), .string (ba x)] w fun e w' => e = .returned (.tuple #[]) ∧ SetSAt w' M (n + 1) (x :: ks) ∧ But M w w' := by
  obtain ⟨D, h1, h2, h3⟩ := h.own
  have hk := key9 hx
  have H1 := hide h1
  have H2 := hide h2
  have H3 := hide h3
  clear h h1 h2 h3 hx
  go_enter Tryz.func145, Tryz.ntmps145
  go_wp2_with (at_mapUpdate; refine wpList_mapUpdate_in _ rfl _ _ _ 153 rfl 9 172 law9 Tryz.underlying153 heldR M n D rfl (unhide H1) (by unfold maxLen; omega) _ _ _ rfl rfl hk _ [] rfl ?_; intro w2 hown2 hturn2)
  go_end0
  have g2 := hturn2.grown
  have sz : w2.heap.size = w.heap.size := turned_size hturn2
  refine ⟨rfl, ⟨⟨_, hown2, fun y => ?_, fun y => ?_⟩⟩, ⟨g2.os, g2.tape, g2.output, by omega, fun j hj hne => ?_⟩⟩
  · by_cases e : y = x
    · subst e
      rw [has_put_same (unhide H1).isMap (law9.key hk)]
      simp
    · rw [has_put_other (fun e2 => e (by simpa using e2)), (unhide H2) y]
      simp [e]
  · by_cases e : y = x
    · subst e
      rw [atKey_put_same (unhide H1).isMap (law9.key hk)]
      rfl
    · rw [atKey_put_other (fun e2 => e (by simpa using e2)), (unhide H3) y]
  · exact g2.block j hj (by simpa using hne)

/-- A module's error, with those ahead. -/
def modE (ms : List Md) (m : Md) : Int := if checkR m.1 m.2 ≠ 0 then (checkR m.1 m.2 : Int) else if m ∈ ms then 12 else 0
/-- A package's error, with those ahead. -/
def impE (path : Str) (pk : List Str) (p : Str) : Int := if importR p ≠ 0 then (importR p : Int) else if p ≠ path ∧ Lib.hasPrefix p (path ++ [47]) = false then 15 else if p ∈ pk then 12 else 0

/-- The check, as it lies in memory: the modules so far, the last one's path, its packages. -/
structure VChk (w0 w : World) (ck M n : Nat) (ms : List Md) (path : Str) (pv : Value) : Prop where
  low : Below w0.heap.size w0 w
  blk : Blk w ck #[.map (some M), .string (ba path), pv] 155
  set : SetMAt w M n ms
  ck0 : w0.heap.size ≤ ck
  m0 : w0.heap.size ≤ M

theorem VChk.on {w0 w w' : World} {ck M n : Nat} {ms : List Md} {path : Str} {pv : Value} (h : VChk w0 w ck M n ms path pv) (b : Below w.heap.size w w') : VChk w0 w' ck M n ms path pv :=
  ⟨low_trans h.low b, h.blk.low b, h.set.low b, h.ck0, h.m0⟩

set_option maxRecDepth 100000 in
set_option maxHeartbeats 4000000 in
/-- module, of the check. -/
theorem module_any {w0 w : World} {ck M n : Nat} {ms : List Md} {path : Str} {pv : Value} {m : Md} (hg : Gd w0) (h : VChk w0 w ck M n ms path pv) (hm : MdOk m) (hp : m.1.length < 4294967281) (hn : n ≤ 1000000) :
    Calls Tryz.prog 98 #[.pointer (some ⟨ck, 0, none⟩), modV m] w fun e w' => e = .returned (.int .i64 (modE ms m)) ∧ (modE ms m ≠ 0 → Below w.heap.size w w') ∧ (modE ms m = 0 → ∃ P, VChk w0 w' ck M (n + 1) (m :: ms) m.1 (.map (some P)) ∧ SetSAt w' P 0 [] ∧ w.heap.size ≤ P ∧ (∀ k, k < w.heap.size → k ≠ ck → k ≠ M → w'.heap[k]? = w.heap[k]?) ∧ w.heap.size ≤ w'.heap.size) := by
  obtain ⟨p, v⟩ := m
  obtain ⟨W0, hW0⟩ : ∃ W0, w.alloc (.cells #[.string (ba p), .string (ba v)] 36) = W0 := ⟨_, rfl⟩
  have b0 : Below w.heap.size w W0 := by rw [← hW0]; exact (Below.refl _ _).alloc (Nat.le_refl _) _
  have k0 : Blk W0 w.heap.size #[.string (ba p), .string (ba v)] 36 := by rw [← hW0]; exact Blk.new _ _ _
  have h0 := h.on b0
  obtain ⟨C, hC⟩ : ∃ C, checkR p v = C := ⟨_, rfl⟩
  have HC := hide (check_is hC hp (hg.low h0.low))
  have HE : Hid (modE ms (p, v) = if C ≠ 0 then (C : Int) else if (p, v) ∈ ms then 12 else 0) := hide (by unfold modE; rw [hC])
  obtain ⟨E, hE⟩ : ∃ E, modE ms (p, v) = E := ⟨_, rfl⟩
  rw [hE] at HE ⊢
  have H0 := hide h0
  have HK0 := hide k0
  have HB0 := hide b0
  have HW0 := hide hW0
  have hwl := h.low.size
  have HM := hide hm
  clear hC hE h h0 k0 b0 hW0 hm
  go_enter Tryz.func98, Tryz.ntmps98
  go_wp2_with (go_at_call 85; fail)
  rw [unhide HW0]
  refine (unhide HC).mono ?_
  rintro e w1 ⟨rfl, b1⟩
  have H1 := hide ((unhide H0).on b1.low)
  have K1 := hide ((unhide HK0).low b1.low)
  have B1 := hide (low_trans (unhide HB0) b1.low)
  clear b1
  by_cases hc0 : C = 0
  · have hcz : ((C : Int) != 0) = false := by rw [hc0]; rfl
    have hcz2 : (C : Int) = 0 := by omega
    have HE2 : Hid (E = if (p, v) ∈ ms then 12 else 0) := hide (by rw [unhide HE, if_neg (by omega)])
    have m0 : w1.cell? ⟨w.heap.size, 0, none⟩ = some (.string (ba p)) := (unhide K1).cell 0
    have m1 : w1.cell? ⟨w.heap.size, 1, none⟩ = some (.string (ba v)) := (unhide K1).cell 1
    have c0 : w1.cell? ⟨ck, 0, none⟩ = some (.map (some M)) := (unhide H1).blk.cell 0
    have HS : Hid (∀ wx, Below w1.heap.size w1 wx → Calls Tryz.prog 72 #[.map (some M), modV (p, v)] wx fun e w' => e = .returned (.bool (decide ((p, v) ∈ ms))) ∧ Below w1.heap.size w1 w') := hide (fun wx hx => by
      refine (hasM_any ((unhide H1).set.low hx) (unhide HM)).mono ?_
      rintro e w' ⟨rfl, b⟩
      exact ⟨rfl, low_trans hx b⟩)
    clear hc0
    by_cases hin : (p, v) ∈ ms
    · have HF : Hid (E = 12) := hide (by rw [unhide HE2, if_pos hin])
      have hd : decide ((p, v) ∈ ms) = true := decide_eq_true hin
      rw [hd] at HS
      clear hin hd
      go_wp2
      go_region_with (first
        | (go_at_call 72; refine (unhide HS _ (by first | exact Below.refl _ _ | exact (Below.refl _ _).drew)).mono ?_; rintro e w2 ⟨rfl, b2⟩))
      all_goals
        go_wp2
        go_ret
        rw [unhide HF]
        exact ⟨rfl, fun _ => low_trans (unhide B1) b2, fun h => by cases h⟩
    · have HF : Hid (E = 0) := hide (by rw [unhide HE2, if_neg hin])
      have hd : decide ((p, v) ∈ ms) = false := decide_eq_false hin
      rw [hd] at HS
      clear hin hd
      go_wp2
      go_region_with (first
        | (go_at_call 72; refine (unhide HS _ (by first | exact Below.refl _ _ | exact (Below.refl _ _).drew)).mono ?_; rintro e w2 ⟨rfl, b2⟩))
      all_goals
        have H2 := hide ((unhide H1).on b2)
        have K2 := hide ((unhide K1).low b2)
        have B2 := hide (low_trans (unhide B1) b2)
        have n0 : w2.cell? ⟨w.heap.size, 0, none⟩ = some (.string (ba p)) := (unhide K2).cell 0
        have n1 : w2.cell? ⟨w.heap.size, 1, none⟩ = some (.string (ba v)) := (unhide K2).cell 1
        have d0 : w2.cell? ⟨ck, 0, none⟩ = some (.map (some M)) := (unhide H2).blk.cell 0
        have HA : Hid (∀ wx, Below w2.heap.size w2 wx → Calls Tryz.prog 71 #[.map (some M), modV (p, v)] wx fun e w' => e = .returned (.tuple #[]) ∧ SetMAt w' M (n + 1) ((p, v) :: ms) ∧ But M w2 w') := hide (fun wx hx => by
          refine (addM_any ((unhide H2).set.low hx) (unhide HM) (by omega)).mono ?_
          rintro e w' ⟨rfl, h1, h2⟩
          exact ⟨rfl, h1, (But.of hx).trans h2⟩)
        clear b2
        go_wp2
        go_region_with (first
          | (go_at_call 71; refine (unhide HA _ (by first | exact Below.refl _ _ | exact (Below.refl _ _).drew)).mono ?_; rintro e w3 ⟨rfl, s3, b3⟩))
        all_goals
          have hne : ck ≠ M := fun e => by
            have h1 := (unhide H2).blk
            rw [e] at h1
            exact mapM_not (unhide H2).set h1
          have hlt := (unhide H2).blk.lt
          have hwne : w.heap.size ≠ M := fun e => by
            have h1 := unhide K2
            rw [e] at h1
            exact mapM_not (unhide H2).set h1
          have k3 : Blk w3 ck #[.map (some M), .string (ba path), pv] 155 := (b3.block ck hlt hne).trans (unhide H2).blk
          have q3 : Blk w3 w.heap.size #[.string (ba p), .string (ba v)] 36 := (b3.block w.heap.size (unhide K2).lt hwne).trans (unhide K2)
          have p0 : w3.cell? ⟨w.heap.size, 0, none⟩ = some (.string (ba p)) := q3.cell 0
          have kB := (k3.set 1 (.string (ba p))).alloc (.map #[] 0)
          have kA := k3.alloc (.map #[] 0)
          have x1 : (w3.alloc (.map #[] 0)).cell? ⟨ck, 1, none⟩ = some (.string (ba path)) := kA.cell 1
          have f1 : (w3.alloc (.map #[] 0)).frozen? ⟨ck, 1, none⟩ = false := kA.free 1
          have x2 : ((w3.setCell ⟨ck, 1, none⟩ (.string (ba p))).alloc (.map #[] 0)).cell? ⟨ck, 2, none⟩ = some pv := kB.cell 2
          have f2 : ((w3.setCell ⟨ck, 1, none⟩ (.string (ba p))).alloc (.map #[] 0)).frozen? ⟨ck, 2, none⟩ = false := kB.free 2
          have hmk := run_makeMap (P := Tryz.prog) 153 w3
          have hck3 : ck < w3.heap.size := Nat.lt_of_lt_of_le hlt b3.size
          have HFIN : Hid (∃ P, VChk w0 (((w3.setCell ⟨ck, 1, none⟩ (.string (ba p))).setCell ⟨ck, 2, none⟩ (.map (some w3.heap.size))).alloc (.map #[] 0)) ck M (n + 1) ((p, v) :: ms) p (.map (some P)) ∧ SetSAt (((w3.setCell ⟨ck, 1, none⟩ (.string (ba p))).setCell ⟨ck, 2, none⟩ (.map (some w3.heap.size))).alloc (.map #[] 0)) P 0 [] ∧ w.heap.size ≤ P ∧ (∀ k, k < w.heap.size → k ≠ ck → k ≠ M → (((w3.setCell ⟨ck, 1, none⟩ (.string (ba p))).setCell ⟨ck, 2, none⟩ (.map (some w3.heap.size))).alloc (.map #[] 0)).heap[k]? = w.heap[k]?) ∧ w.heap.size ≤ (((w3.setCell ⟨ck, 1, none⟩ (.string (ba p))).setCell ⟨ck, 2, none⟩ (.map (some w3.heap.size))).alloc (.map #[] 0)).heap.size) := hide (by
            have hl2 : Below w0.heap.size w0 w3 := b3.low (unhide H2).low (unhide H2).low.size (unhide H2).m0
            have hlB : Below w0.heap.size w0 ((w3.setCell ⟨ck, 1, none⟩ (.string (ba p))).setCell ⟨ck, 2, none⟩ (.map (some w3.heap.size))) := (hl2.setCell (p := ⟨ck, 1, none⟩) (unhide H2).ck0 _).setCell (p := ⟨ck, 2, none⟩) (unhide H2).ck0 _
            obtain ⟨WB, hWB⟩ : ∃ WB, (w3.setCell ⟨ck, 1, none⟩ (.string (ba p))).setCell ⟨ck, 2, none⟩ (.map (some w3.heap.size)) = WB := ⟨_, rfl⟩
            have hsz : WB.heap.size = w3.heap.size := by rw [← hWB]; simp [World.setCell]
            have far : ∀ k, k ≠ ck → WB.heap[k]? = w3.heap[k]? := fun k hk => by
              rw [← hWB, Below.heap_setCell _ _ _ _ hk, Below.heap_setCell _ _ _ _ hk]
            have kW : Blk WB ck #[.map (some M), .string (ba p), .map (some w3.heap.size)] 155 := by rw [← hWB]; exact (k3.set 1 (.string (ba p))).set 2 (.map (some w3.heap.size))
            have hM3 : M < w3.heap.size := Nat.lt_of_lt_of_le (unhide H2).set.lt b3.size
            have hws := (unhide B2).size
            have hs3 := b3.size
            have hnew := setS_new WB
            rw [hWB] at hlB ⊢
            rw [hsz] at hnew
            have sM : SetMAt WB M (n + 1) ((p, v) :: ms) := s3.same (far M (fun e => hne e.symm))
            refine ⟨w3.heap.size, ⟨hlB.alloc hlB.size _, kW.alloc _, sM.low ((Below.refl _ _).alloc (Nat.le_refl _) _), (unhide H2).ck0, (unhide H2).m0⟩, hnew, by omega, fun k hk h1 h2 => ?_, by simp; omega⟩
            rw [Below.heap_alloc _ _ _ (by omega), far k h1, b3.block k (by omega) h2, (unhide B2).block k hk])
          clear k3 q3 s3 b3 kA kB hlt
          go_wp2
          go_ret
          rw [unhide HF]
          exact ⟨rfl, fun h => absurd rfl h, fun _ => unhide HFIN⟩
  · have hcz : ((C : Int) != 0) = true := by simpa using hc0
    have HF : Hid (E = (C : Int)) := hide (by rw [unhide HE, if_pos hc0])
    go_wp2
    go_ret
    rw [unhide HF]
    exact ⟨rfl, fun _ => unhide B1, fun h => absurd h (by omega)⟩
end

end Go.Proofs.YthcafeoamabkgaaGreatDoor

namespace Go.Proofs.YthcafeoamabkgaaGreatDoor

section
open Go.RowKit Go.WideMaps Go.Maps

/-- The check within a module: the set of its packages besides. -/
structure VCk (w0 w : World) (ck M n : Nat) (ms : List Md) (path : Str) (P np : Nat) (pk : List Str) : Prop where
  c : VChk w0 w ck M n ms path (.map (some P))
  p : SetSAt w P np pk
  ne : P ≠ M
  p0 : w0.heap.size ≤ P

theorem VCk.on {w0 w w' : World} {ck M n P np : Nat} {ms : List Md} {path : Str} {pk : List Str} (h : VCk w0 w ck M n ms path P np pk) (b : Below w.heap.size w w') : VCk w0 w' ck M n ms path P np pk :=
  ⟨h.c.on b, h.p.low b, h.ne, h.p0⟩

theorem VCk.add {w0 w w' : World} {ck M n P np np' : Nat} {ms : List Md} {path : Str} {pk pk' : List Str} (h : VCk w0 w ck M n ms path P np pk) (hs : SetSAt w' P np' pk') (b : But P w w') : VCk w0 w' ck M n ms path P np' pk' := by
  have hne : ck ≠ P := fun e => by
    have h1 := h.c.blk
    rw [e] at h1
    exact mapS_not h.p h1
  exact ⟨⟨b.low h.c.low h.c.low.size h.p0, (b.block ck h.c.blk.lt hne).trans h.c.blk, h.c.set.same (b.block M h.c.set.lt (fun e => h.ne e.symm)), h.c.ck0, h.c.m0⟩, hs, h.ne, h.p0⟩

/-- What imported tells. -/
def ImpSaid (w0 : World) (ck M n : Nat) (ms : List Md) (path : Str) (P np : Nat) (pk : List Str) (p : Str) (E : Int) (w : World) (e : Ending) (w' : World) : Prop :=
  e = .returned (.int .i64 E) ∧ (E ≠ 0 → Below w0.heap.size w0 w') ∧ (E = 0 → VCk w0 w' ck M n ms path P (np + 1) (p :: pk) ∧ But P w w')

set_option maxRecDepth 100000 in
set_option maxHeartbeats 4000000 in
/-- imported, of the check. -/
theorem imported_any {w0 w : World} {ck M n P np : Nat} {ms : List Md} {path p : Str} {pk : List Str} (hg : Gd w0) (h : VCk w0 w ck M n ms path P np pk) (hp : p.length < 4294967281) (hpa : path.length < 4294967281) (hn : np ≤ 1000000) :
    Calls Tryz.prog 99 #[.pointer (some ⟨ck, 0, none⟩), .string (ba p)] w (ImpSaid w0 ck M n ms path P np pk p (impE path pk p) w) := by
  obtain ⟨C, hC⟩ : ∃ C, importR p = C := ⟨_, rfl⟩
  have HC := hide (import_is hC hp (hg.low h.c.low))
  obtain ⟨E, hE⟩ : ∃ E, impE path pk p = E := ⟨_, rfl⟩
  have HE : Hid (E = if C ≠ 0 then (C : Int) else if p ≠ path ∧ Lib.hasPrefix p (path ++ [47]) = false then 15 else if p ∈ pk then 12 else 0) := hide (by rw [← hE, ← hC]; rfl)
  rw [hE]
  have H := hide h
  have hsz1 : (ba p).size = p.length := ba_size p
  have hsz2 : (ba path).size = path.length := ba_size path
  clear hC hE h
  go_enter Tryz.func99, Tryz.ntmps99
  go_wp2_with (go_at_call 143; fail)
  refine (unhide HC).mono ?_
  rintro e w1 ⟨rfl, b1⟩
  have H1 := hide ((unhide H).on b1.low)
  have B1 := hide (But.of b1.low : But P w w1)
  clear b1
  by_cases hc0 : C = 0
  · have hcz : ((C : Int) != 0) = false := by rw [hc0]; rfl
    have hcz2 : (C : Int) = 0 := by omega
    have HE2 : Hid (E = if p ≠ path ∧ Lib.hasPrefix p (path ++ [47]) = false then 15 else if p ∈ pk then 12 else 0) := hide (by rw [unhide HE, if_neg (by omega)])
    have c1 : w1.cell? ⟨ck, 1, none⟩ = some (.string (ba path)) := (unhide H1).c.blk.cell 1
    have c2 : w1.cell? ⟨ck, 2, none⟩ = some (.map (some P)) := (unhide H1).c.blk.cell 2
    have HS := hide (hasS_any (unhide H1).p (x := p) (by unfold maxLen; omega))
    have j1 : ba path ++ ⟨#[47]⟩ = ba (path ++ [47]) := ba_app path [47]
    have HPX := Tryz.strings_HasPrefix (ba p) (ba (path ++ [47])) w1
    rw [ba_data, ba_data] at HPX
    obtain ⟨hpx, hhx⟩ : ∃ b, Lib.hasPrefix p (path ++ [47]) = b := ⟨_, rfl⟩
    rw [hhx] at HE2 HPX
    have HPZ := hide HPX
    clear HPX
    clear hhx hc0
    by_cases hpe : p = path
    · have hq1 : (ba p).toList = (ba path).toList := by rw [hpe]
      have hq2 : ((ba p).toList == (ba path).toList) = true := by rw [hpe]; exact beq_self_eq_true _
      have HPE := hide hpe
      clear hpe
      go_wp2_with (go_at_call 144; fail)
      refine (unhide HS).mono ?_
      rintro e w2 ⟨rfl, b2⟩
      have H2 := hide ((unhide H1).on b2)
      have B2 := hide ((unhide B1).trans (But.of b2))
      have d2 : w2.cell? ⟨ck, 2, none⟩ = some (.map (some P)) := (unhide H2).c.blk.cell 2
      have HA := hide (addS_any (unhide H2).p (x := p) (by unfold maxLen; omega) (by omega))
      have HE3 : Hid (E = if p ∈ pk then 12 else 0) := hide (by rw [unhide HE2, if_neg (by intro h; exact h.1 (unhide HPE))])
      clear b2
      by_cases hin : p ∈ pk
      · have HF : Hid (E = 12) := hide (by rw [unhide HE3, if_pos hin])
        have hd : decide (p ∈ pk) = true := decide_eq_true hin
        rw [hd]
        clear hin hd
        go_wp2
        go_ret
        rw [unhide HF]
        exact ⟨rfl, fun _ => (unhide H2).c.low, fun h => by cases h⟩
      · have HF : Hid (E = 0) := hide (by rw [unhide HE3, if_neg hin])
        have hd : decide (p ∈ pk) = false := decide_eq_false hin
        rw [hd]
        clear hin hd
        go_wp2_with (go_at_call 145; fail)
        refine (unhide HA).mono ?_
        rintro e w3 ⟨rfl, s3, b3⟩
        have HFIN := hide ((unhide H2).add s3 b3)
        have B3 := hide ((unhide B2).trans b3)
        clear s3 b3
        go_wp2
        go_ret
        rw [unhide HF]
        exact ⟨rfl, fun h => absurd rfl h, fun _ => ⟨unhide HFIN, unhide B3⟩⟩
    · have hq1 : ¬ (ba p).toList = (ba path).toList := by rw [ba_list, ba_list]; exact hpe
      have hq2 : ((ba p).toList == (ba path).toList) = false := by rw [ba_list, ba_list, beq_eq_false_iff_ne]; exact hpe
      have HPE := hide hpe
      clear hpe
      go_wp2_with (go_at_call 106; fail)
      refine (unhide HPZ).mono ?_
      rintro e w1b ⟨rfl, hw⟩
      rw [hw]
      clear hw w1b
      cases hpx with
      | true =>
        go_wp2_with (go_at_call 144; fail)
        refine (unhide HS).mono ?_
        rintro e w2 ⟨rfl, b2⟩
        have H2 := hide ((unhide H1).on b2)
        have B2 := hide ((unhide B1).trans (But.of b2))
        have d2 : w2.cell? ⟨ck, 2, none⟩ = some (.map (some P)) := (unhide H2).c.blk.cell 2
        have HA := hide (addS_any (unhide H2).p (x := p) (by unfold maxLen; omega) (by omega))
        have HE3 : Hid (E = if p ∈ pk then 12 else 0) := hide (by rw [unhide HE2, if_neg (by simp)])
        clear b2
        by_cases hin : p ∈ pk
        · have HF : Hid (E = 12) := hide (by rw [unhide HE3, if_pos hin])
          have hd : decide (p ∈ pk) = true := decide_eq_true hin
          rw [hd]
          clear hin hd
          go_wp2
          go_ret
          rw [unhide HF]
          exact ⟨rfl, fun _ => (unhide H2).c.low, fun h => by cases h⟩
        · have HF : Hid (E = 0) := hide (by rw [unhide HE3, if_neg hin])
          have hd : decide (p ∈ pk) = false := decide_eq_false hin
          rw [hd]
          clear hin hd
          go_wp2_with (go_at_call 145; fail)
          refine (unhide HA).mono ?_
          rintro e w3 ⟨rfl, s3, b3⟩
          have HFIN := hide ((unhide H2).add s3 b3)
          have B3 := hide ((unhide B2).trans b3)
          clear s3 b3
          go_wp2
          go_ret
          rw [unhide HF]
          exact ⟨rfl, fun h => absurd rfl h, fun _ => ⟨unhide HFIN, unhide B3⟩⟩
      | false =>
        have HF : Hid (E = 15) := hide (by rw [unhide HE2, if_pos ⟨unhide HPE, rfl⟩])
        go_wp2
        go_ret
        rw [unhide HF]
        exact ⟨rfl, fun _ => (unhide H1).c.low, fun h => by cases h⟩
  · have hcz : ((C : Int) != 0) = true := by simpa using hc0
    have HF : Hid (E = (C : Int)) := hide (by rw [unhide HE, if_pos hc0])
    go_wp2
    go_ret
    rw [unhide HF]
    exact ⟨rfl, fun _ => (unhide H1).c.low, fun h => absurd h (by omega)⟩
end

end Go.Proofs.YthcafeoamabkgaaGreatDoor

namespace Go.Proofs.YthcafeoamabkgaaGreatDoor

section
open Go.RowKit Go.WideMaps Go.Maps

/-- The module that a line names. -/
def modL (l : Str) : Option Md := if Lib.hasPrefix l [35, 32] = true ∧ fullB 2 (pieces 32 (Lib.trimPrefix l [35, 32])) = true then some ((pieces 32 (Lib.trimPrefix l [35, 32])).getD 0 [], (pieces 32 (Lib.trimPrefix l [35, 32])).getD 1 []) else none

abbrev zero36 : Array Value := #[.string ⟨#[]⟩, .string ⟨#[]⟩]
abbrev modC (m : Md) : Array Value := #[.string (ba m.1), .string (ba m.2)]

theorem modL_ok {l : Str} {m : Md} (h : modL l = some m) : m.1.length ≤ l.length ∧ m.2.length ≤ l.length := by
  unfold modL at h
  split at h
  · cases h
    have := Lib.trimPrefix_le l [35, 32]
    exact ⟨Nat.le_trans getD_le this, Nat.le_trans getD_le this⟩
  · cases h

theorem cutH_any (l : Str) (w : World) : Calls Tryz.prog 65 #[.string (ba l), .string ⟨#[35, 32]⟩] w fun e w' => e = .returned (.tuple #[.string (ba (Lib.trimPrefix l [35, 32])), .bool (Lib.hasPrefix l [35, 32])]) ∧ w' = w := Tryz.strings_CutPrefix (ba l) (ba [35, 32]) w

set_option maxRecDepth 100000 in
set_option maxHeartbeats 4000000 in
theorem readModule_none {l : Str} (hl : l.length < 4294967281) {w : World} (hg : Gd w) (hm : modL l = none) : Calls Tryz.prog 104 #[.string (ba l)] w fun e w' =>
    e = .returned (.tuple #[modV ([], []), .bool false]) ∧ Below w.heap.size w w' := by
  have b0 : Bel w.heap.size w (w.alloc (.cells zero36 36)) := (Bel.refl _ _).alloc (Nat.le_refl _) _
  have htp := Lib.trimPrefix_le l [35, 32]
  have HT := hide (cutH_any l (w.alloc (.cells zero36 36)))
  unfold modL at hm
  obtain ⟨t, ht⟩ : ∃ t, Lib.trimPrefix l [35, 32] = t := ⟨_, rfl⟩
  obtain ⟨q, hq⟩ : ∃ q, Lib.hasPrefix l [35, 32] = q := ⟨_, rfl⟩
  rw [ht] at htp HT hm
  rw [hq] at HT hm
  have HP := hide (pieces_go (l := t) (m := 2) (by omega) (by omega) (hg.below b0))
  obtain ⟨ps, hps⟩ : ∃ ps, pieces 32 t = ps := ⟨_, rfl⟩
  rw [hps] at HP hm
  obtain ⟨f, hf⟩ : ∃ f, fullB 2 ps = f := ⟨_, rfl⟩
  rw [hf] at HP hm
  have HF : Hid (q = false ∨ f = false) := hide (by
    by_cases h : q = true ∧ f = true
    · rw [if_pos h] at hm; cases hm
    · cases q <;> cases f <;> simp_all)
  clear hf hps ht hq htp hm hg
  go_enter Tryz.func104, Tryz.ntmps104
  go_wp2_with (go_at_call 65; fail)
  refine (unhide HT).mono ?_
  rintro e w0 ⟨rfl, hw⟩
  rw [hw]; clear hw w0
  go_wp2_with (go_at_call 97; fail)
  refine (unhide HP).mono ?_
  rintro e w1 ⟨B, rfl, htx, hB, b1⟩
  have k1 : Blk w1 w.heap.size zero36 36 := (Blk.new w _ _).below b1
  obtain ⟨c0, c1⟩ : w1.cell? ⟨w.heap.size, 0, none⟩ = some (.string ⟨#[]⟩) ∧ w1.cell? ⟨w.heap.size, 1, none⟩ = some (.string ⟨#[]⟩) := ⟨k1.cell 0, k1.cell 1⟩
  obtain ⟨f0, f1⟩ : w1.frozen? ⟨w.heap.size, 0, none⟩ = false ∧ w1.frozen? ⟨w.heap.size, 1, none⟩ = false := ⟨k1.free 0, k1.free 1⟩
  have HK := hide k1
  have HB : Hid (Below w.heap.size w w1) := (b0.trans (b1.mono b0.size)).low
  clear htx hB b1 k1
  have HN : Hid ((q = true → f = false)) := hide (fun h => by rcases unhide HF with h2 | h2 <;> simp_all)
  cases q with
  | false =>
    go_wp2
    obtain ⟨w2, hw2⟩ : ∃ w2, ((w1.setCell ⟨w.heap.size, 0, none⟩ (.string ⟨#[]⟩)).setCell ⟨w.heap.size, 1, none⟩ (.string ⟨#[]⟩)) = w2 := ⟨_, rfl⟩
    have k2 : Blk w2 w.heap.size zero36 36 := by rw [← hw2]; exact ((unhide HK).set 0 _).set 1 _
    have b2 : Below w.heap.size w w2 := by rw [← hw2]; exact ((unhide HB).setCell (p := ⟨w.heap.size, 0, none⟩) (Nat.le_refl _) _).setCell (p := ⟨w.heap.size, 1, none⟩) (Nat.le_refl _) _
    rw [hw2]
    have z0 : w2.cell? ⟨w.heap.size, 0, none⟩ = some (.string ⟨#[]⟩) := k2.cell 0
    have z1 : w2.cell? ⟨w.heap.size, 1, none⟩ = some (.string ⟨#[]⟩) := k2.cell 1
    exact bodyPost_ret (v := .tuple #[modV ([], []), .bool false]) (by simp [results, Tryz.results104, go_sem, z0, z1, modV, ba]) rfl ⟨rfl, b2⟩
  | true =>
    have hff := unhide HN rfl
    subst hff
    go_wp2
    obtain ⟨w2, hw2⟩ : ∃ w2, ((w1.setCell ⟨w.heap.size, 0, none⟩ (.string ⟨#[]⟩)).setCell ⟨w.heap.size, 1, none⟩ (.string ⟨#[]⟩)) = w2 := ⟨_, rfl⟩
    have k2 : Blk w2 w.heap.size zero36 36 := by rw [← hw2]; exact ((unhide HK).set 0 _).set 1 _
    have b2 : Below w.heap.size w w2 := by rw [← hw2]; exact ((unhide HB).setCell (p := ⟨w.heap.size, 0, none⟩) (Nat.le_refl _) _).setCell (p := ⟨w.heap.size, 1, none⟩) (Nat.le_refl _) _
    rw [hw2]
    have z0 : w2.cell? ⟨w.heap.size, 0, none⟩ = some (.string ⟨#[]⟩) := k2.cell 0
    have z1 : w2.cell? ⟨w.heap.size, 1, none⟩ = some (.string ⟨#[]⟩) := k2.cell 1
    exact bodyPost_ret (v := .tuple #[modV ([], []), .bool false]) (by simp [results, Tryz.results104, go_sem, z0, z1, modV, ba]) rfl ⟨rfl, b2⟩

set_option maxRecDepth 100000 in
set_option maxHeartbeats 4000000 in
theorem readModule_some {l : Str} {m : Md} (hl : l.length < 4294967281) {w : World} (hg : Gd w) (hm : modL l = some m) : Calls Tryz.prog 104 #[.string (ba l)] w fun e w' =>
    e = .returned (.tuple #[modV m, .bool true]) ∧ Below w.heap.size w w' := by
  have b0 : Bel w.heap.size w (w.alloc (.cells zero36 36)) := (Bel.refl _ _).alloc (Nat.le_refl _) _
  have htp := Lib.trimPrefix_le l [35, 32]
  have HT := hide (cutH_any l (w.alloc (.cells zero36 36)))
  unfold modL at hm
  obtain ⟨t, ht⟩ : ∃ t, Lib.trimPrefix l [35, 32] = t := ⟨_, rfl⟩
  obtain ⟨q, hq⟩ : ∃ q, Lib.hasPrefix l [35, 32] = q := ⟨_, rfl⟩
  rw [ht] at htp HT hm
  rw [hq] at HT hm
  have HP := hide (pieces_go (l := t) (m := 2) (by omega) (by omega) (hg.below b0))
  obtain ⟨ps, hps⟩ : ∃ ps, pieces 32 t = ps := ⟨_, rfl⟩
  rw [hps] at HP hm
  obtain ⟨f, hf⟩ : ∃ f, fullB 2 ps = f := ⟨_, rfl⟩
  rw [hf] at HP hm
  split at hm
  case isFalse => cases hm
  case isTrue hqf =>
    obtain ⟨rfl, rfl⟩ := hqf
    obtain ⟨a, b, rfl⟩ : ∃ a b, ps = [a, b] := by
      have hlen : ps.length = 2 := by
        unfold fullB at hf
        simp only [Bool.and_eq_true, decide_eq_true_eq] at hf
        exact hf.1
      match ps, hlen with
      | [a, b], _ => exact ⟨a, b, rfl⟩
    obtain rfl : (a, b) = m := by simpa using hm
    clear hf hps ht hq htp hm hg
    go_enter Tryz.func104, Tryz.ntmps104
    go_wp2_with (go_at_call 65; fail)
    refine (unhide HT).mono ?_
    rintro e w0 ⟨rfl, hw⟩
    rw [hw]; clear hw w0
    go_wp2_with (go_at_call 97; fail)
    refine (unhide HP).mono ?_
    rintro e w1 ⟨B, rfl, htx, hB, b1⟩
    have k1 : Blk w1 w.heap.size zero36 36 := (Blk.new w _ _).below b1
    have t0 : w1.cell? ⟨B, 0, none⟩ = some (.string (ba a)) := htx 0 (by simp)
    have t1 : w1.cell? ⟨B, 1, none⟩ = some (.string (ba b)) := htx 1 (by simp)
    have c0 : w1.cell? ⟨w.heap.size, 0, none⟩ = some (.string ⟨#[]⟩) := k1.cell 0
    have f0 : w1.frozen? ⟨w.heap.size, 0, none⟩ = false := k1.free 0
    have c1 : ∀ x, (w1.setCell ⟨w.heap.size, 0, none⟩ x).cell? ⟨w.heap.size, 1, none⟩ = some (.string ⟨#[]⟩) := fun x => (k1.set 0 x).cell 1
    have f1 : ∀ x, (w1.setCell ⟨w.heap.size, 0, none⟩ x).frozen? ⟨w.heap.size, 1, none⟩ = false := fun x => (k1.set 0 x).free 1
    have HK := hide k1
    have HB : Hid (Below w.heap.size w w1) := (b0.trans (b1.mono b0.size)).low
    clear htx hB b1 k1
    go_wp2
    go_region
    go_wp2
    obtain ⟨w2, hw2⟩ : ∃ w2, ((w1.setCell ⟨w.heap.size, 0, none⟩ (.string (ba a))).setCell ⟨w.heap.size, 1, none⟩ (.string (ba b))) = w2 := ⟨_, rfl⟩
    have k2 : Blk w2 w.heap.size (modC (a, b)) 36 := by rw [← hw2]; exact ((unhide HK).set 0 _).set 1 _
    have b2 : Below w.heap.size w w2 := by rw [← hw2]; exact ((unhide HB).setCell (p := ⟨w.heap.size, 0, none⟩) (Nat.le_refl _) _).setCell (p := ⟨w.heap.size, 1, none⟩) (Nat.le_refl _) _
    rw [hw2]
    have z0 : w2.cell? ⟨w.heap.size, 0, none⟩ = some (.string (ba a)) := k2.cell 0
    have z1 : w2.cell? ⟨w.heap.size, 1, none⟩ = some (.string (ba b)) := k2.cell 1
    exact bodyPost_ret (v := .tuple #[modV (a, b), .bool true]) (by simp [results, Tryz.results104, go_sem, z0, z1]) rfl ⟨rfl, b2.drew⟩

/-- A vendored module, as a value: its module, whether it is explicit, the slice of its packages. -/
abbrev vdV (m : Md) (x : Bool) (s : Value) : Value := .agg #[.string (ba m.1), .string (ba m.2), .bool x, s]

set_option maxHeartbeats 1000000 in
theorem justBegun_any {m : Md} {x : Bool} {a : Option Addr} {n c : Nat} (w : World) : Calls Tryz.prog 105 #[vdV m x (.slice a n c)] w fun e w' =>
    e = .returned (.bool (!x && decide (n = 0))) ∧ Below w.heap.size w w' := by
  obtain ⟨p, v⟩ := m
  obtain ⟨W0, hW0⟩ : ∃ W0, w.alloc (.cells #[.string (ba p), .string (ba v), .bool x, .slice a n c] 81) = W0 := ⟨_, rfl⟩
  have b0 : Below w.heap.size w W0 := by rw [← hW0]; exact (Below.refl _ _).alloc (Nat.le_refl _) _
  have k0 : Blk W0 w.heap.size #[.string (ba p), .string (ba v), .bool x, .slice a n c] 81 := by rw [← hW0]; exact Blk.new _ _ _
  have c2 : W0.cell? ⟨w.heap.size, 2, none⟩ = some (.bool x) := k0.cell 2
  have c3 : W0.cell? ⟨w.heap.size, 3, none⟩ = some (.slice a n c) := k0.cell 3
  have HB := hide b0
  clear b0 k0
  cases x with
  | true =>
    go_enter Tryz.func105, Tryz.ntmps105
    go_wp2
    go_ret
    exact ⟨rfl, unhide HB⟩
  | false =>
    by_cases hn : n = 0
    · have hq : ((n : Int) == 0) = true := by simp [hn]
      have hd : decide (n = 0) = true := decide_eq_true hn
      rw [hd]
      clear hn hd
      go_enter Tryz.func105, Tryz.ntmps105
      go_wp2
      go_ret
      exact ⟨rfl, unhide HB⟩
    · have hq : ((n : Int) == 0) = false := by simp [hn]
      have hd : decide (n = 0) = false := decide_eq_false hn
      rw [hd]
      clear hn hd
      go_enter Tryz.func105, Tryz.ntmps105
      go_wp2
      go_ret
      exact ⟨rfl, unhide HB⟩
end

end Go.Proofs.YthcafeoamabkgaaGreatDoor
