/-
  A set of modules: has and add; Keep.
-/
import Derived.Test.YthcafeoamabkgaaGreatDoorSetX
import Derived.Test.YthcafeoamabkgaaGreatDoorLess
import Derived.Test.YthcafeoamabkgaaGreatDoorFewX
namespace Go.Proofs.YthcafeoamabkgaaGreatDoor

section
open Go.RowKit Go.WideMaps Go.Maps
abbrev mdK (x : Md) : Lit := .string (keyBytes [.string x.1, .string x.2])
def MdOk (x : Md) : Prop := x.1.length ≤ maxLen ∧ x.2.length ≤ maxLen

theorem law36 : Keyed Tryz.prog 36 := Keyed.of_law (deep_law_laid (by kernel_rfl) (m := 2) (by omega) (by decide +kernel) (by kernel_rfl) (by rw [Tryz.underlying36]))

set_option maxRecDepth 100000 in
theorem key36 {x : Md} (h : MdOk x) : keyOf Tryz.prog 36 (modV x) = some (mdK x) := by
  obtain ⟨p, v⟩ := x
  obtain ⟨h1, h2⟩ := h
  simp only at h1 h2
  have s1 : (ba p).size ≤ maxLen := by rw [ba_size]; exact h1
  have s2 : (ba v).size ≤ maxLen := by rw [ba_size]; exact h2
  have hkt : Tryz.prog.keyType 36 = true := by kernel_rfl
  obtain ⟨m, hm⟩ : ∃ m, Tryz.prog.types.size = m + 2 := ⟨_, (by kernel_rfl : Tryz.prog.types.size = (Tryz.prog.types.size - 2) + 2)⟩
  have c36 : Tryz.prog.cellsOf 36 = 2 := by kernel_rfl
  have c9 : Tryz.prog.cellsOf 9 = 1 := by kernel_rfl
  unfold keyOf
  simp only [Tryz.underlying36]
  rw [if_pos (by simp [hkt, Value.formed, Tryz.underlying36, c36]), hm]
  unfold Program.keyLits
  simp only [Tryz.underlying36, Value.cells]
  rw [if_pos (by simp [c36])]
  simp [Program.keyLits, Tryz.underlying9, c9, s1, s2, ba_data]

theorem mdK_inj {x y : Md} (hx : MdOk x) (hy : MdOk y) (h : mdK x = mdK y) : x = y := by
  have h1 := key36 hx
  have h2 := key36 hy
  rw [h] at h1
  have h3 := law36.inj h1 h2
  obtain ⟨p, v⟩ := x
  obtain ⟨p', v'⟩ := y
  simp [ba_inj] at h3
  obtain ⟨rfl, rfl⟩ := h3
  rfl

/-- The map at block M has these modules. -/
structure SetMAt (w : World) (M n : Nat) (ks : List Md) : Prop where
  own : ∃ D, w.ownsMap Tryz.prog 36 heldR M n D ∧ (∀ x, MdOk x → Maps.has D (mdK x) = decide (x ∈ ks)) ∧ ∀ x, MdOk x → D.atKey (mdK x) (.held (.agg #[])) = .held (.agg #[])

theorem SetMAt.same {w w' : World} {M n : Nat} {ks : List Md} (h : SetMAt w M n ks) (hs : w'.heap[M]? = w.heap[M]?) : SetMAt w' M n ks := by
  obtain ⟨D, h1, h2⟩ := h.own
  exact ⟨⟨D, own_same h1 hs, h2⟩⟩

theorem SetMAt.lt {w : World} {M n : Nat} {ks : List Md} (h : SetMAt w M n ks) : M < w.heap.size := by
  obtain ⟨D, h1, _⟩ := h.own
  exact h1.lt

theorem SetMAt.low {w w' : World} {M n : Nat} {ks : List Md} (h : SetMAt w M n ks) (hb : Below w.heap.size w w') : SetMAt w' M n ks := h.same (hb.block M h.lt)

theorem mapM_not {w : World} {M n : Nat} {ks : List Md} (h : SetMAt w M n ks) {cs : Array Value} {t : TypeId} : ¬ w.heap[M]? = some (.cells cs t (0, 0)) := by
  obtain ⟨D, ⟨es, clock, hb, _⟩, _⟩ := h.own
  rw [hb]; simp

theorem look_md {w : World} {M n : Nat} {D : DataW Value} {x : Md} (h : w.ownsMap Tryz.prog 36 heldR M n D) (hx : MdOk x) {b : Bool} (hb : Maps.has D (mdK x) = b) (hat : D.atKey (mdK x) (.held (.agg #[])) = .held (.agg #[])) : (Instr.lookup 116 (.map (some M)) (modV x) true).run Tryz.prog w = .ok (.tuple #[.agg #[], .bool b]) w := by
  obtain ⟨v, ps, h1, h2⟩ := h.look_ok law36 Tryz.underlying116 (zero172 w) (zd := .held (.agg #[])) (zp := []) rfl (key36 hx)
  have h3 := held_inv h2
  rw [hat] at h3
  cases h3
  rw [hb] at h1
  exact h1

theorem hasM_any {w : World} {M n : Nat} {ks : List Md} {x : Md} (h : SetMAt w M n ks) (hx : MdOk x) : Calls Tryz.prog 72 #[.map (some M), modV x] w fun e w' => e = .returned (.bool (decide (x ∈ ks))) ∧ Below w.heap.size w w' := by
  obtain ⟨D, h1, h2, h3⟩ := h.own
  obtain ⟨b, hb⟩ : ∃ b, decide (x ∈ ks) = b := ⟨_, rfl⟩
  have hl : ∀ o, (Instr.lookup 116 (.map (some M)) (modV x) true).run Tryz.prog (w.alloc o) = .ok (.tuple #[.agg #[], .bool b]) (w.alloc o) := fun o => look_md (h1.alloc o) hx (by rw [h2 x hx, hb]) (h3 x hx)
  rw [hb]
  clear h h1 h2 h3 hb hx
  obtain ⟨p, v⟩ := x
  go_enter Tryz.func72, Tryz.ntmps72
  go_wp2
  go_ret
  exact ⟨rfl, ((Below.refl _ _).alloc (Nat.le_refl _) _).alloc (by simp) _⟩

set_option maxHeartbeats 1000000 in
theorem addM_any {w : World} {M n : Nat} {ks : List Md} {x : Md} (h : SetMAt w M n ks) (hx : MdOk x) (hn : n ≤ 1099511627776) : Calls Tryz.prog 71 #[.map (some M), modV x] w fun e w' => e = .returned (.tuple #[]) ∧ SetMAt w' M (n + 1) (x :: ks) ∧ But M w w' := by
  obtain ⟨D, h1, h2, h3⟩ := h.own
  have hk := key36 hx
  have hlt := h1.lt
  have HO : ∀ o, (w.alloc o).ownsMap Tryz.prog 36 heldR M n D := fun o => h1.alloc o
  have HO := hide HO
  have H1 := hide h1
  have H2 := hide h2
  have H3 := hide h3
  have HX := hide hx
  clear h h1 h2 h3 hx
  obtain ⟨p, v⟩ := x
  go_enter Tryz.func71, Tryz.ntmps71
  go_wp2_with (at_mapUpdate; refine wpList_mapUpdate_in _ rfl _ _ _ 116 rfl 36 172 law36 Tryz.underlying116 heldR M n D rfl (unhide HO _) (by unfold maxLen; omega) _ _ _ rfl rfl hk _ [] rfl ?_; intro w2 hown2 hturn2)
  go_end0
  have g2 := hturn2.grown
  have sz : w2.heap.size = w.heap.size + 1 := by rw [turned_size hturn2]; show (w.heap.push _).size = _; simp
  refine ⟨rfl, ⟨⟨_, hown2, fun y hy => ?_, fun y hy => ?_⟩⟩, ⟨g2.os, g2.tape, g2.output, by omega, fun j hj hne => ?_⟩⟩
  · by_cases e : y = (p, v)
    · subst e
      rw [has_put_same (unhide H1).isMap (law36.key hk)]
      simp
    · rw [has_put_other (fun e2 => e (mdK_inj hy (unhide HX) e2)), (unhide H2) y hy]
      simp [e]
  · by_cases e : y = (p, v)
    · subst e
      rw [atKey_put_same (unhide H1).isMap (law36.key hk)]
      rfl
    · rw [atKey_put_other (fun e2 => e (mdK_inj hy (unhide HX) e2)), (unhide H3) y hy]
  · rw [g2.block j (by show j < (w.heap.push _).size; simp; omega) (by simpa using hne)]
    exact Below.heap_alloc _ _ j hj
end

section
open Go.RowKit Go.WideMaps Go.Maps
/-- A list of modules lies at a slice. -/
structure MRow (w : World) (a : Option Addr) (ms : List Md) : Prop where
  els : ms = [] ∨ ∃ B O, a = some ⟨B, O, none⟩ ∧ ∀ k (hk : k < ms.length), w.cell? ⟨B, O + k * 2, none⟩ = some (.string (ba ms[k].1)) ∧ w.cell? ⟨B, O + k * 2 + 1, none⟩ = some (.string (ba ms[k].2))

theorem MRow.low {w w' : World} {a : Option Addr} {ms : List Md} (h : MRow w a ms) (hb : Below w.heap.size w w') : MRow w' a ms := by
  rcases h.els with h0 | ⟨B, O, ha, he⟩
  · exact ⟨Or.inl h0⟩
  · refine ⟨Or.inr ⟨B, O, ha, fun k hk => ?_⟩⟩
    obtain ⟨h1, h2⟩ := he k hk
    exact ⟨(hb.cell (lt_of_cell h1)).trans h1, (hb.cell (lt_of_cell h2)).trans h2⟩

theorem setM_new (w : World) : SetMAt (w.alloc (.map #[] 0)) w.heap.size 0 [] :=
  ⟨⟨.map [], World.ownsMap_made w Tryz.prog 36 heldR, fun x _ => by simp [Maps.has], fun x _ => by rfl⟩⟩

/-- A set of modules in a world that has grown out of another. -/
structure KSt (w0 w : World) (n : Nat) (ks : List Md) : Prop where
  low : Below w0.heap.size w0 w
  set : SetMAt w w0.heap.size n ks

theorem KSt.on {w0 w w' : World} {n : Nat} {ks : List Md} (h : KSt w0 w n ks) (b : Below w.heap.size w w') : KSt w0 w' n ks := ⟨low_trans h.low b, h.set.low b⟩
theorem KSt.grown {w0 w w' : World} {n : Nat} {ks : List Md} {v : Value} {m : Nat} {xs : List Value} (h : KSt w0 w n ks) (hr : w.ownsRow w0.heap.size 38 4 v m xs) (hg : w.grownBy w' v.ownBlock) : KSt w0 w' n ks := by
  have hM : some w0.heap.size ≠ v.ownBlock := by
    intro e
    obtain ⟨_, cur, hc⟩ := row38 hr e.symm
    exact mapM_not h.set hc
  exact ⟨h.low.grown hg h.low.size (fun k hk => (row38 hr hk).1), h.set.same (hg.block _ h.set.lt hM)⟩
theorem KSt.but {w0 w w' : World} {n m : Nat} {ks ls : List Md} (h : KSt w0 w n ks) (hs : SetMAt w' w0.heap.size m ls) (hb : But w0.heap.size w w') : KSt w0 w' m ls :=
  ⟨hb.low h.low h.low.size (Nat.le_refl _), hs⟩

def keepR (ms : List Md) (xs : List Ln) : List Ln := xs.filter fun x => decide ((x.p, x.v) ∈ ms)

theorem keepR_yes {ms : List Md} {xs : List Ln} {k : Nat} (hk : k < xs.length) (h : (xs[k].p, xs[k].v) ∈ ms) : keepR ms (xs.take (k + 1)) = keepR ms (xs.take k) ++ [xs[k]] := by
  unfold keepR
  rw [List.take_add_one, List.getElem?_eq_getElem hk, List.filter_append]
  simp [h]
theorem keepR_no {ms : List Md} {xs : List Ln} {k : Nat} (hk : k < xs.length) (h : ¬ (xs[k].p, xs[k].v) ∈ ms) : keepR ms (xs.take (k + 1)) = keepR ms (xs.take k) := by
  unfold keepR
  rw [List.take_add_one, List.getElem?_eq_getElem hk, List.filter_append]
  simp [h]

set_option maxRecDepth 100000 in
set_option maxHeartbeats 8000000 in
theorem keep_any {w : World} {a b : Option Addr} {n m c d : Nat} {xs : List Ln} {ms : List Md} (hn : xs.length = n) (hm : ms.length = m) (hN : n ≤ 1000000) (hM : m ≤ 1000000) (hx : LRow w a xs) (hy : MRow w b ms) (hxo : ∀ x ∈ xs, MdOk (x.p, x.v)) (hmo : ∀ x ∈ ms, MdOk x) :
    Calls Tryz.prog 30 #[.slice a n c, .slice b m d] w fun e w' => ∃ v, e = .returned v ∧ Lines w.heap.size w' v (keepR ms xs) ∧ Below w.heap.size w w' := by
  obtain ⟨i0, hi, hz0, hz1, hz2⟩ := info_parts info38
  have HS : Hid (KSt w (w.alloc (.map #[] 0)) 0 []) := hide ⟨(Below.refl _ _).alloc (Nat.le_refl _) _, setM_new w⟩
  have hmk := run_makeMap (P := Tryz.prog) 116 w
  have HN := hide hn
  have HM := hide hm
  have HX := hide hx
  have HY := hide hy
  have HXO := hide hxo
  have HMO := hide hmo
  clear hn hm hx hy hxo hmo
  go_enter Tryz.func30, Tryz.ntmps30
  go_wp2
  clear hmk
  go_loopw [7, 14] (fun _ v14 wr => ∃ k : Nat, k ≤ m ∧ v14 = .int .i64 k ∧ ∃ ks, KSt w wr k ks ∧ ∀ x, x ∈ ks ↔ x ∈ ms.take k) (fun _ v14 _ => m - (intOf v14).toNat)
  case atStart => exact ⟨0, Nat.zero_le _, rfl, [], unhide HS, fun x => by simp⟩
  case round =>
    rename World => wr
    obtain ⟨k, hk, rfl, ks, hst, hks⟩ := hrel
    have HST := hide hst
    have HKS := hide hks
    clear hst hks
    by_cases hlt : k < m
    · have hkt : k < ms.length := by rw [unhide HM]; exact hlt
      obtain ⟨B, O, rfl, he⟩ : ∃ B O, b = some ⟨B, O, none⟩ ∧ ∀ k (hk : k < ms.length), wr.cell? ⟨B, O + k * 2, none⟩ = some (.string (ba ms[k].1)) ∧ wr.cell? ⟨B, O + k * 2 + 1, none⟩ = some (.string (ba ms[k].2)) := by
        rcases ((unhide HY).low (unhide HST).low).els with h | h
        · rw [h] at hkt; simp at hkt
        · exact h
      obtain ⟨m1, m2⟩ := he k hkt
      have hok := unhide HMO ms[k] (List.getElem_mem hkt)
      have HT : Hid (ms.take (k + 1) = ms.take k ++ [ms[k]]) := hide (by rw [List.take_add_one, List.getElem?_eq_getElem hkt]; rfl)
      obtain ⟨x, hx⟩ : ∃ x, ms[k] = x := ⟨_, rfl⟩
      rw [hx] at m1 m2 hok HT
      obtain ⟨p, v⟩ := x
      simp only at m1 m2
      obtain ⟨W, hW⟩ : ∃ W, wr.alloc (.cells #[.string (ba p), .string (ba v)] 36) = W := ⟨_, rfl⟩
      have bW : Below wr.heap.size wr W := by rw [← hW]; exact (Below.refl _ _).alloc (Nat.le_refl _) _
      have kW : Blk W wr.heap.size #[.string (ba p), .string (ba v)] 36 := by rw [← hW]; exact Blk.new _ _ _
      have g0 : W.cell? ⟨wr.heap.size, 0, none⟩ = some (.string (ba p)) := kW.cell 0
      have g1 : W.cell? ⟨wr.heap.size, 1, none⟩ = some (.string (ba v)) := kW.cell 1
      have hstW := (unhide HST).on bW
      have HA : Hid (Calls Tryz.prog 71 #[.map (some w.heap.size), .agg #[.string (ba p), .string (ba v)]] W fun e w' => e = .returned (.tuple #[]) ∧ KSt w w' (k + 1) ((p, v) :: ks)) := hide (by
        refine (addM_any (x := (p, v)) hstW.set hok (by omega)).mono ?_
        rintro e w' ⟨rfl, h1, h2⟩
        exact ⟨rfl, hstW.but h1 h2⟩)
      clear he hx hok bW kW hstW
      have HW := hide hW
      clear hW
      go_wp2_with (go_at_call 71; fail)
      rw [unhide HW]
      refine (unhide HA).mono ?_
      rintro e w1 ⟨rfl, h1⟩
      have H1 := hide h1
      clear h1
      go_wp2
      go_roundw
      case rel => exact ⟨k + 1, hlt, by simp, _, unhide H1, fun x => by rw [unhide HT]; simp [unhide HKS x, or_comm]⟩
      case measure => simp [intOf]; omega
    · have hkm : k = m := by omega
      subst hkm
      have hall : ∀ x, x ∈ ks ↔ x ∈ ms := fun x => by rw [unhide HKS x, List.take_of_length_le (by rw [unhide HM]; exact Nat.le_refl _)]
      have HALL := hide hall
      clear hall HKS hlt
      go_wp2
      go_loopw [8, 10, 24] (fun v8 _ v24 wq => ∃ j : Nat, j ≤ n ∧ v24 = .int .i64 j ∧ KSt w wq k ks ∧ Lines w.heap.size wq v8 (keepR ms (xs.take j))) (fun _ _ v24 _ => n - (intOf v24).toNat)
      case atStart => exact ⟨0, Nat.zero_le _, rfl, unhide HST, lines_nil _ _⟩
      case round =>
        rename World => wq
        obtain ⟨j, hj, rfl, hst, hrow⟩ := hrel
        have HSQ := hide hst
        have HR := hide hrow
        clear hst hrow
        by_cases hlt : j < n
        · have hjt : j < xs.length := by rw [unhide HN]; exact hlt
          obtain ⟨B, O, rfl, he⟩ : ∃ B O, a = some ⟨B, O, none⟩ ∧ ∀ k (hk : k < xs.length), LnAt wq B (O + k * 4) xs[k] := by
            rcases ((unhide HX).low (unhide HSQ).low).els with h | h
            · rw [h] at hjt; simp at hjt
            · exact h
          obtain ⟨m1, m2, m3, m4⟩ := he j hjt
          have hok := unhide HXO xs[j] (List.getElem_mem hjt)
          have hyes := keepR_yes (ms := ms) hjt
          have hno := keepR_no (ms := ms) hjt
          obtain ⟨x, hx⟩ : ∃ x, xs[j] = x := ⟨_, rfl⟩
          rw [hx] at m1 m2 m3 m4 hok hyes hno
          obtain ⟨p, v, kk, s⟩ := x
          simp only at m1 m2 m3 m4 hok hyes hno
          obtain ⟨W, hW⟩ : ∃ W, wq.alloc (.cells #[.string (ba p), .string (ba v), .int .i64 kk, .string (ba s)] 38) = W := ⟨_, rfl⟩
          have bW : Below wq.heap.size wq W := by rw [← hW]; exact (Below.refl _ _).alloc (Nat.le_refl _) _
          have kW : Blk W wq.heap.size (lnC ⟨p, v, kk, s⟩) 38 := by rw [← hW]; exact Blk.new _ _ _
          have g0 : W.cell? ⟨wq.heap.size, 0, none⟩ = some (.string (ba p)) := kW.cell 0
          have g1 : W.cell? ⟨wq.heap.size, 1, none⟩ = some (.string (ba v)) := kW.cell 1
          have hstW := (unhide HSQ).on bW
          have hrW : Lines w.heap.size W _ (keepR ms (xs.take j)) := row_low (unhide HR) bW
          obtain ⟨r, hr⟩ : ∃ r, decide ((p, v) ∈ ks) = r := ⟨_, rfl⟩
          have HH := hide (hasM_any (x := (p, v)) hstW.set hok)
          rw [hr] at HH
          have hrm : (p, v) ∈ ms ↔ r = true := by rw [← unhide HALL (p, v), ← hr]; simp
          have HSW := hide hstW
          have HRW := hide hrW
          have HKW := hide kW
          have hlen : (keepR ms (xs.take j)).length ≤ j := by
            have h1 := List.length_filter_le (fun x : Ln => decide ((x.p, x.v) ∈ ms)) (xs.take j)
            have h2 := List.length_take_le j xs
            unfold keepR
            omega
          have hone : ∀ u ∈ (lnC ⟨p, v, kk, s⟩).toList, u.oneCell' = true := by simp [Value.oneCell']
          clear he hx hok bW kW hstW hrW hr
          have HW := hide hW
          clear hW
          cases r with
          | false =>
            have HT := hide (hno (fun h => by have := hrm.1 h; cases this))
            clear hrm hyes hno
            go_wp2_with (go_at_call 72; fail)
            rw [unhide HW]
            refine (unhide HH).mono ?_
            rintro e w1 ⟨rfl, b1⟩
            have H1 := hide ((unhide HSW).on b1)
            have H2 : Hid (Lines w.heap.size w1 _ (keepR ms (xs.take (j + 1)))) := hide (by rw [unhide HT]; exact row_low (unhide HRW) b1)
            clear b1
            go_wp2
            go_roundw
            case rel => exact ⟨j + 1, hlt, by simp, unhide H1, unhide H2⟩
            case measure => simp [intOf]; omega
          | true =>
            have HT := hide (hyes (hrm.2 rfl))
            clear hrm hyes hno
            go_wp2_with (go_at_call 72; fail)
            rw [unhide HW]
            refine (unhide HH).mono ?_
            rintro e w1 ⟨rfl, b1⟩
            have h1 := (unhide HSW).on b1
            have hrow1 := row_low (unhide HRW) b1
            have k1 := (unhide HKW).low b1
            obtain ⟨q0, q1, q2, q3⟩ := Blk.line k1
            obtain ⟨W1, hW1⟩ : ∃ W1, w1.alloc (.cells (lnC ⟨p, v, kk, s⟩) 38) = W1 := ⟨_, rfl⟩
            have bW1 : Below w1.heap.size w1 W1 := by rw [← hW1]; exact (Below.refl _ _).alloc (Nat.le_refl _) _
            have kW1 : Blk W1 w1.heap.size (lnC ⟨p, v, kk, s⟩) 38 := by rw [← hW1]; exact Blk.new _ _ _
            have hs1 := h1.on bW1
            have hr1 := row_low hrow1 bW1
            obtain ⟨v', w', happ, hown, hgr, _, _⟩ := run_append_own_at (P := Tryz.prog) W1 w.heap.size 22 22 38 i0 _ 4 56 Tryz.underlying22 hi hz0 hz1 hz2 rfl (by decide) _ _ _ hr1 ⟨w1.heap.size, 0, none⟩ 1 1 (lnC ⟨p, v, kk, s⟩).toList (by rfl) (World.news_of_block kW1) hone (by unfold maxLen; omega) (by omega) hs1.low.size
            have HD : Hid (KSt w w' k ks ∧ Lines w.heap.size w' v' (keepR ms (xs.take (j + 1)))) := hide ⟨hs1.grown hr1 hgr, by rw [unhide HT]; exact lines_snoc hown⟩
            clear h1 hrow1 k1 bW1 kW1 hs1 hr1 hown hgr b1
            have HW1 := hide hW1
            clear hW1
            go_wp2_with (at_builtin; rw [unhide HW1]; refine Lib.wpList_append_run _ rfl _ _ _ _ rfl _ _ rfl rfl _ _ happ ?_)
            go_roundw
            case rel => exact ⟨j + 1, hlt, by simp, (unhide HD).1, (unhide HD).2⟩
            case measure => simp [intOf]; omega
        · have hjn : xs.take j = xs := List.take_of_length_le (by rw [unhide HN]; omega)
          rw [hjn] at HR
          clear hjn
          go_wp2
          go_ret
          exact ⟨_, rfl, unhide HR, (unhide HSQ).low⟩
end

end Go.Proofs.YthcafeoamabkgaaGreatDoor
