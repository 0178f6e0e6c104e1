/-
  A set of texts; the check of a vendor list: module and imported.
-/
import Derived.Test.YthcafeoamabkgaaGreatDoorKeepM
import Derived.Test.YthcafeoamabkgaaGreatDoorModC
import Derived.StringKeys
import Derived.Deep.RegionWith
namespace Go.Proofs.YthcafeoamabkgaaGreatDoor

section
open Go.RowKit Go.WideMaps Go.Maps
theorem law9 : Keyed Tryz.prog 9 := string_keyed Tryz.underlying9
theorem key9 {s : Str} (h : s.length ≤ maxLen) : keyOf Tryz.prog 9 (.string (ba s)) = some (.string s) := by
  have := keyOf_string_mk Tryz.underlying9 (s := ba s) (by rw [ba_size]; exact h)
  rwa [ba_data] at this

/-- The map at block M has these texts. -/
structure SetSAt (w : World) (M n : Nat) (ks : List Str) : Prop where
  own : ∃ D, w.ownsMap Tryz.prog 9 heldR M n D ∧ (∀ x : Str, Maps.has D (.string x) = decide (x ∈ ks)) ∧ ∀ x : Str, D.atKey (.string x) (.held (.agg #[])) = .held (.agg #[])

theorem SetSAt.same {w w' : World} {M n : Nat} {ks : List Str} (h : SetSAt w M n ks) (hs : w'.heap[M]? = w.heap[M]?) : SetSAt w' M n ks := by
  obtain ⟨D, ⟨es, clock, hb, rest⟩, h2⟩ := h.own
  exact ⟨⟨D, ⟨es, clock, by rw [hs]; exact hb, rest⟩, h2⟩⟩
theorem SetSAt.lt {w : World} {M n : Nat} {ks : List Str} (h : SetSAt w M n ks) : M < w.heap.size := by
  obtain ⟨D, h1, _⟩ := h.own
  exact h1.lt
theorem SetSAt.low {w w' : World} {M n : Nat} {ks : List Str} (h : SetSAt w M n ks) (hb : Below w.heap.size w w') : SetSAt w' M n ks := h.same (hb.block M h.lt)
theorem SetSAt.but {w w' : World} {M n g : Nat} {ks : List Str} (h : SetSAt w M n ks) (hb : But g w w') (hne : M ≠ g) : SetSAt w' M n ks := h.same (hb.block M h.lt hne)
theorem mapS_not {w : World} {M n : Nat} {ks : List Str} (h : SetSAt w M n ks) {cs : Array Value} {t : TypeId} : ¬ w.heap[M]? = some (.cells cs t (0, 0)) := by
  obtain ⟨D, ⟨es, clock, hb, _⟩, _⟩ := h.own
  rw [hb]; simp
theorem setS_new (w : World) : SetSAt (w.alloc (.map #[] 0)) w.heap.size 0 [] :=
  ⟨⟨.map [], World.ownsMap_made w Tryz.prog 9 heldR, fun x => by simp [Maps.has], fun x => by rfl⟩⟩

theorem look_s {w : World} {M n : Nat} {D : DataW Value} {x : Str} (h : w.ownsMap Tryz.prog 9 heldR M n D) (hx : x.length ≤ maxLen) {b : Bool} (hb : Maps.has D (.string x) = b) (hat : D.atKey (.string x) (.held (.agg #[])) = .held (.agg #[])) : (Instr.lookup 153 (.map (some M)) (.string (ba x)) true).run Tryz.prog w = .ok (.tuple #[.agg #[], .bool b]) w := by
  obtain ⟨v, ps, h1, h2⟩ := h.look_ok law9 Tryz.underlying153 (zero172 w) (zd := .held (.agg #[])) (zp := []) rfl (key9 hx)
  have h3 := held_inv h2
  rw [hat] at h3
  cases h3
  rw [hb] at h1
  exact h1

theorem hasS_any {w : World} {M n : Nat} {ks : List Str} {x : Str} (h : SetSAt w M n ks) (hx : x.length ≤ maxLen) : Calls Tryz.prog 144 #[.map (some M), .string (ba x)] w fun e w' => e = .returned (.bool (decide (x ∈ ks))) ∧ Below w.heap.size w w' := by
  obtain ⟨D, h1, h2, h3⟩ := h.own
  obtain ⟨b, hb⟩ : ∃ b, decide (x ∈ ks) = b := ⟨_, rfl⟩
  have hl : (Instr.lookup 153 (.map (some M)) (.string (ba x)) true).run Tryz.prog w = .ok (.tuple #[.agg #[], .bool b]) w := look_s h1 hx (by rw [h2 x, hb]) (h3 x)
  rw [hb]
  clear h h1 h2 h3 hb hx
  go_enter Tryz.func144, Tryz.ntmps144
  go_wp2
  go_ret
  exact ⟨rfl, (Below.refl _ _).alloc (Nat.le_refl _) _⟩

set_option maxHeartbeats 1000000 in
theorem addS_any {w : World} {M n : Nat} {ks : List Str} {x : Str} (h : SetSAt w M n ks) (hx : x.length ≤ maxLen) (hn : n ≤ 1099511627776) : Calls Tryz.prog 145 #[.map (some M), .string (ba x)] w fun e w' => e = .returned (.tuple #[]) ∧ SetSAt w' M (n + 1) (x :: ks) ∧ But M w w' := by
  obtain ⟨D, h1, h2, h3⟩ := h.own
  have hk := key9 hx
  have H1 := hide h1
  have H2 := hide h2
  have H3 := hide h3
  clear h h1 h2 h3 hx
  go_enter Tryz.func145, Tryz.ntmps145
  go_wp2_with (at_mapUpdate; refine wpList_mapUpdate_in _ rfl _ _ _ 153 rfl 9 172 law9 Tryz.underlying153 heldR M n D rfl (unhide H1) (by unfold maxLen; omega) _ _ _ rfl rfl hk _ [] rfl ?_; intro w2 hown2 hturn2)
  go_end0
  have g2 := hturn2.grown
  have sz : w2.heap.size = w.heap.size := turned_size hturn2
  refine ⟨rfl, ⟨⟨_, hown2, fun y => ?_, fun y => ?_⟩⟩, ⟨g2.os, g2.tape, g2.output, by omega, fun j hj hne => ?_⟩⟩
  · by_cases e : y = x
    · subst e
      rw [has_put_same (unhide H1).isMap (law9.key hk)]
      simp
    · rw [has_put_other (fun e2 => e (by simpa using e2)), (unhide H2) y]
      simp [e]
  · by_cases e : y = x
    · subst e
      rw [atKey_put_same (unhide H1).isMap (law9.key hk)]
      rfl
    · rw [atKey_put_other (fun e2 => e (by simpa using e2)), (unhide H3) y]
  · exact g2.block j hj (by simpa using hne)

/-- A module's error, with those ahead. -/
def modE (ms : List Md) (m : Md) : Int := if checkR m.1 m.2 ≠ 0 then (checkR m.1 m.2 : Int) else if m ∈ ms then 12 else 0
/-- A package's error, with those ahead. -/
def impE (path : Str) (pk : List Str) (p : Str) : Int := if importR p ≠ 0 then (importR p : Int) else if p ≠ path ∧ Lib.hasPrefix p (path ++ [47]) = false then 15 else if p ∈ pk then 12 else 0

/-- The check, as it lies in memory: the modules so far, the last one's path, its packages. -/
structure VChk (w0 w : World) (ck M n : Nat) (ms : List Md) (path : Str) (pv : Value) : Prop where
  low : Below w0.heap.size w0 w
  blk : Blk w ck #[.map (some M), .string (ba path), pv] 155
  set : SetMAt w M n ms
  ck0 : w0.heap.size ≤ ck
  m0 : w0.heap.size ≤ M

theorem VChk.on {w0 w w' : World} {ck M n : Nat} {ms : List Md} {path : Str} {pv : Value} (h : VChk w0 w ck M n ms path pv) (b : Below w.heap.size w w') : VChk w0 w' ck M n ms path pv :=
  ⟨low_trans h.low b, h.blk.low b, h.set.low b, h.ck0, h.m0⟩

set_option maxRecDepth 100000 in
set_option maxHeartbeats 4000000 in
/-- module, of the check. -/
theorem module_any {w0 w : World} {ck M n : Nat} {ms : List Md} {path : Str} {pv : Value} {m : Md} (hg : Gd w0) (h : VChk w0 w ck M n ms path pv) (hm : MdOk m) (hp : m.1.length < 4294967281) (hn : n ≤ 1000000) :
    Calls Tryz.prog 98 #[.pointer (some ⟨ck, 0, none⟩), modV m] w fun e w' => e = .returned (.int .i64 (modE ms m)) ∧ (modE ms m ≠ 0 → Below w.heap.size w w') ∧ (modE ms m = 0 → ∃ P, VChk w0 w' ck M (n + 1) (m :: ms) m.1 (.map (some P)) ∧ SetSAt w' P 0 [] ∧ w.heap.size ≤ P ∧ (∀ k, k < w.heap.size → k ≠ ck → k ≠ M → w'.heap[k]? = w.heap[k]?) ∧ w.heap.size ≤ w'.heap.size) := by
  obtain ⟨p, v⟩ := m
  obtain ⟨W0, hW0⟩ : ∃ W0, w.alloc (.cells #[.string (ba p), .string (ba v)] 36) = W0 := ⟨_, rfl⟩
  have b0 : Below w.heap.size w W0 := by rw [← hW0]; exact (Below.refl _ _).alloc (Nat.le_refl _) _
  have k0 : Blk W0 w.heap.size #[.string (ba p), .string (ba v)] 36 := by rw [← hW0]; exact Blk.new _ _ _
  have h0 := h.on b0
  obtain ⟨C, hC⟩ : ∃ C, checkR p v = C := ⟨_, rfl⟩
  have HC := hide (check_is hC hp (hg.low h0.low))
  have HE : Hid (modE ms (p, v) = if C ≠ 0 then (C : Int) else if (p, v) ∈ ms then 12 else 0) := hide (by unfold modE; rw [hC])
  obtain ⟨E, hE⟩ : ∃ E, modE ms (p, v) = E := ⟨_, rfl⟩
  rw [hE] at HE ⊢
  have H0 := hide h0
  have HK0 := hide k0
  have HB0 := hide b0
  have HW0 := hide hW0
  have hwl := h.low.size
  have HM := hide hm
  clear hC hE h h0 k0 b0 hW0 hm
  go_enter Tryz.func98, Tryz.ntmps98
  go_wp2_with (go_at_call 85; fail)
  rw [unhide HW0]
  refine (unhide HC).mono ?_
  rintro e w1 ⟨rfl, b1⟩
  have H1 := hide ((unhide H0).on b1.low)
  have K1 := hide ((unhide HK0).low b1.low)
  have B1 := hide (low_trans (unhide HB0) b1.low)
  clear b1
  by_cases hc0 : C = 0
  · have hcz : ((C : Int) != 0) = false := by rw [hc0]; rfl
    have hcz2 : (C : Int) = 0 := by omega
    have HE2 : Hid (E = if (p, v) ∈ ms then 12 else 0) := hide (by rw [unhide HE, if_neg (by omega)])
    have m0 : w1.cell? ⟨w.heap.size, 0, none⟩ = some (.string (ba p)) := (unhide K1).cell 0
    have m1 : w1.cell? ⟨w.heap.size, 1, none⟩ = some (.string (ba v)) := (unhide K1).cell 1
    have c0 : w1.cell? ⟨ck, 0, none⟩ = some (.map (some M)) := (unhide H1).blk.cell 0
    have HS : Hid (∀ wx, Below w1.heap.size w1 wx → Calls Tryz.prog 72 #[.map (some M), modV (p, v)] wx fun e w' => e = .returned (.bool (decide ((p, v) ∈ ms))) ∧ Below w1.heap.size w1 w') := hide (fun wx hx => by
      refine (hasM_any ((unhide H1).set.low hx) (unhide HM)).mono ?_
      rintro e w' ⟨rfl, b⟩
      exact ⟨rfl, low_trans hx b⟩)
    clear hc0
    by_cases hin : (p, v) ∈ ms
    · have HF : Hid (E = 12) := hide (by rw [unhide HE2, if_pos hin])
      have hd : decide ((p, v) ∈ ms) = true := decide_eq_true hin
      rw [hd] at HS
      clear hin hd
      go_wp2
      go_region_with (first
        | (go_at_call 72; refine (unhide HS _ (by first | exact Below.refl _ _ | exact (Below.refl _ _).drew)).mono ?_; rintro e w2 ⟨rfl, b2⟩))
      all_goals
        go_wp2
        go_ret
        rw [unhide HF]
        exact ⟨rfl, fun _ => low_trans (unhide B1) b2, fun h => by cases h⟩
    · have HF : Hid (E = 0) := hide (by rw [unhide HE2, if_neg hin])
      have hd : decide ((p, v) ∈ ms) = false := decide_eq_false hin
      rw [hd] at HS
      clear hin hd
      go_wp2
      go_region_with (first
        | (go_at_call 72; refine (unhide HS _ (by first | exact Below.refl _ _ | exact (Below.refl _ _).drew)).mono ?_; rintro e w2 ⟨rfl, b2⟩))
      all_goals
        have H2 := hide ((unhide H1).on b2)
        have K2 := hide ((unhide K1).low b2)
        have B2 := hide (low_trans (unhide B1) b2)
        have n0 : w2.cell? ⟨w.heap.size, 0, none⟩ = some (.string (ba p)) := (unhide K2).cell 0
        have n1 : w2.cell? ⟨w.heap.size, 1, none⟩ = some (.string (ba v)) := (unhide K2).cell 1
        have d0 : w2.cell? ⟨ck, 0, none⟩ = some (.map (some M)) := (unhide H2).blk.cell 0
        have HA : Hid (∀ wx, Below w2.heap.size w2 wx → Calls Tryz.prog 71 #[.map (some M), modV (p, v)] wx fun e w' => e = .returned (.tuple #[]) ∧ SetMAt w' M (n + 1) ((p, v) :: ms) ∧ But M w2 w') := hide (fun wx hx => by
          refine (addM_any ((unhide H2).set.low hx) (unhide HM) (by omega)).mono ?_
          rintro e w' ⟨rfl, h1, h2⟩
          exact ⟨rfl, h1, (But.of hx).trans h2⟩)
        clear b2
        go_wp2
        go_region_with (first
          | (go_at_call 71; refine (unhide HA _ (by first | exact Below.refl _ _ | exact (Below.refl _ _).drew)).mono ?_; rintro e w3 ⟨rfl, s3, b3⟩))
        all_goals
          have hne : ck ≠ M := fun e => by
            have h1 := (unhide H2).blk
            rw [e] at h1
            exact mapM_not (unhide H2).set h1
          have hlt := (unhide H2).blk.lt
          have hwne : w.heap.size ≠ M := fun e => by
            have h1 := unhide K2
            rw [e] at h1
            exact mapM_not (unhide H2).set h1
          have k3 : Blk w3 ck #[.map (some M), .string (ba path), pv] 155 := (b3.block ck hlt hne).trans (unhide H2).blk
          have q3 : Blk w3 w.heap.size #[.string (ba p), .string (ba v)] 36 := (b3.block w.heap.size (unhide K2).lt hwne).trans (unhide K2)
          have p0 : w3.cell? ⟨w.heap.size, 0, none⟩ = some (.string (ba p)) := q3.cell 0
          have kB := (k3.set 1 (.string (ba p))).alloc (.map #[] 0)
          have kA := k3.alloc (.map #[] 0)
          have x1 : (w3.alloc (.map #[] 0)).cell? ⟨ck, 1, none⟩ = some (.string (ba path)) := kA.cell 1
          have f1 : (w3.alloc (.map #[] 0)).frozen? ⟨ck, 1, none⟩ = false := kA.free 1
          have x2 : ((w3.setCell ⟨ck, 1, none⟩ (.string (ba p))).alloc (.map #[] 0)).cell? ⟨ck, 2, none⟩ = some pv := kB.cell 2
          have f2 : ((w3.setCell ⟨ck, 1, none⟩ (.string (ba p))).alloc (.map #[] 0)).frozen? ⟨ck, 2, none⟩ = false := kB.free 2
          have hmk := run_makeMap (P := Tryz.prog) 153 w3
          have hck3 : ck < w3.heap.size := Nat.lt_of_lt_of_le hlt b3.size
          have HFIN : Hid (∃ P, VChk w0 (((w3.setCell ⟨ck, 1, none⟩ (.string (ba p))).setCell ⟨ck, 2, none⟩ (.map (some w3.heap.size))).alloc (.map #[] 0)) ck M (n + 1) ((p, v) :: ms) p (.map (some P)) ∧ SetSAt (((w3.setCell ⟨ck, 1, none⟩ (.string (ba p))).setCell ⟨ck, 2, none⟩ (.map (some w3.heap.size))).alloc (.map #[] 0)) P 0 [] ∧ w.heap.size ≤ P ∧ (∀ k, k < w.heap.size → k ≠ ck → k ≠ M → (((w3.setCell ⟨ck, 1, none⟩ (.string (ba p))).setCell ⟨ck, 2, none⟩ (.map (some w3.heap.size))).alloc (.map #[] 0)).heap[k]? = w.heap[k]?) ∧ w.heap.size ≤ (((w3.setCell ⟨ck, 1, none⟩ (.string (ba p))).setCell ⟨ck, 2, none⟩ (.map (some w3.heap.size))).alloc (.map #[] 0)).heap.size) := hide (by
            have hl2 : Below w0.heap.size w0 w3 := b3.low (unhide H2).low (unhide H2).low.size (unhide H2).m0
            have hlB : Below w0.heap.size w0 ((w3.setCell ⟨ck, 1, none⟩ (.string (ba p))).setCell ⟨ck, 2, none⟩ (.map (some w3.heap.size))) := (hl2.setCell (p := ⟨ck, 1, none⟩) (unhide H2).ck0 _).setCell (p := ⟨ck, 2, none⟩) (unhide H2).ck0 _
            obtain ⟨WB, hWB⟩ : ∃ WB, (w3.setCell ⟨ck, 1, none⟩ (.string (ba p))).setCell ⟨ck, 2, none⟩ (.map (some w3.heap.size)) = WB := ⟨_, rfl⟩
            have hsz : WB.heap.size = w3.heap.size := by rw [← hWB]; simp [World.setCell]
            have far : ∀ k, k ≠ ck → WB.heap[k]? = w3.heap[k]? := fun k hk => by
              rw [← hWB, Below.heap_setCell _ _ _ _ hk, Below.heap_setCell _ _ _ _ hk]
            have kW : Blk WB ck #[.map (some M), .string (ba p), .map (some w3.heap.size)] 155 := by rw [← hWB]; exact (k3.set 1 (.string (ba p))).set 2 (.map (some w3.heap.size))
            have hM3 : M < w3.heap.size := Nat.lt_of_lt_of_le (unhide H2).set.lt b3.size
            have hws := (unhide B2).size
            have hs3 := b3.size
            have hnew := setS_new WB
            rw [hWB] at hlB ⊢
            rw [hsz] at hnew
            have sM : SetMAt WB M (n + 1) ((p, v) :: ms) := s3.same (far M (fun e => hne e.symm))
            refine ⟨w3.heap.size, ⟨hlB.alloc hlB.size _, kW.alloc _, sM.low ((Below.refl _ _).alloc (Nat.le_refl _) _), (unhide H2).ck0, (unhide H2).m0⟩, hnew, by omega, fun k hk h1 h2 => ?_, by simp; omega⟩
            rw [Below.heap_alloc _ _ _ (by omega), far k h1, b3.block k (by omega) h2, (unhide B2).block k hk])
          clear k3 q3 s3 b3 kA kB hlt
          go_wp2
          go_ret
          rw [unhide HF]
          exact ⟨rfl, fun h => absurd rfl h, fun _ => unhide HFIN⟩
  · have hcz : ((C : Int) != 0) = true := by simpa using hc0
    have HF : Hid (E = (C : Int)) := hide (by rw [unhide HE, if_pos hc0])
    go_wp2
    go_ret
    rw [unhide HF]
    exact ⟨rfl, fun _ => unhide B1, fun h => absurd h (by omega)⟩
end

end Go.Proofs.YthcafeoamabkgaaGreatDoor
