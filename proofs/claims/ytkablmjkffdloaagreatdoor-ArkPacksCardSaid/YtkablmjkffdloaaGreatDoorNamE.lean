/-
  The look at files' names, the program's: any files.
-/
import Derived.Test.YtkablmjkffdloaaGreatDoorNamD
namespace Go.Proofs.YtkablmjkffdloaaGreatDoor
open Go.RowKit Go.WideMaps Go.Maps

def heldF (v : Value) : Option (DataW Value × List MemPlace) := some (.held v, [])
theorem heldF_inv {v : Value} {d : DataW Value} {ps : List MemPlace} (h : heldF v = some (d, ps)) : d = .held v := by
  simp [heldF] at h; exact h.1.symm
theorem lawF : Keyed Tryz.prog 9 := string_keyed Tryz.underlying9
theorem keyF {x : Bs} (h : x.length ≤ maxLen) : keyOf Tryz.prog 9 (.string (ba x)) = some (.string x) := by
  have k := keyOf_string_mk (P := Tryz.prog) (k := 9) Tryz.underlying9 (s := ba x) (by rw [ba_size]; exact h)
  rw [ba_data] at k
  exact k
/-- The map at block M has these texts. -/
structure StAt (w : World) (M n : Nat) (ks : List Bs) : Prop where
  own : ∃ D, w.ownsMap Tryz.prog 9 heldF M n D ∧ (∀ x, x.length ≤ maxLen → Maps.has D (.string x) = decide (x ∈ ks)) ∧ ∀ x, x.length ≤ maxLen → D.atKey (.string x) (.held (.agg #[])) = .held (.agg #[])
theorem ownF_same {w w' : World} {k : TypeId} {b n : Nat} {D : DataW Value} (h : w.ownsMap Tryz.prog k heldF b n D) (hs : w'.heap[b]? = w.heap[b]?) : w'.ownsMap Tryz.prog k heldF b n D := by
  obtain ⟨es, clock, hb, r⟩ := h
  exact ⟨es, clock, hs.trans hb, r⟩
theorem StAt.lt {w : World} {M n : Nat} {ks : List Bs} (h : StAt w M n ks) : M < w.heap.size := by
  obtain ⟨D, h1, _⟩ := h.own
  exact h1.lt
theorem StAt.low {w w' : World} {M n : Nat} {ks : List Bs} (h : StAt w M n ks) (hb : Below w.heap.size w w') : StAt w' M n ks := by
  have hl := h.lt
  obtain ⟨D, h1, h2⟩ := h.own
  exact ⟨⟨D, ownF_same h1 (hb.block M hl), h2⟩⟩
theorem st_new (w : World) : StAt (w.alloc (.map #[] 0)) w.heap.size 0 [] :=
  ⟨⟨.map [], World.ownsMap_made w Tryz.prog 9 heldF, fun x _ => by simp [Maps.has], fun x _ => rfl⟩⟩
theorem zero198 (w : World) : (zeroValue 198).run Tryz.prog w = .ok (.agg #[]) w := by kernel_rfl
theorem look_st {w : World} {M n : Nat} {D : DataW Value} {x : Bs} (h : w.ownsMap Tryz.prog 9 heldF M n D) (hx : x.length ≤ maxLen) {b : Bool} (hb : Maps.has D (.string x) = b) (hat : D.atKey (.string x) (.held (.agg #[])) = .held (.agg #[])) : (Instr.lookup 208 (.map (some M)) (.string (ba x)) true).run Tryz.prog w = .ok (.tuple #[.agg #[], .bool b]) w := by
  obtain ⟨v, ps, h1, h2⟩ := h.look_ok lawF Tryz.underlying208 (zero198 w) (zd := .held (.agg #[])) (zp := []) rfl (keyF hx)
  have h3 := heldF_inv h2
  rw [hat] at h3
  cases h3
  rw [hb] at h1
  exact h1
/-- All but one block is as it was. -/
structure ButM (M : Nat) (w w' : World) : Prop where
  os : w'.os = w.os
  tape : w'.tape = w.tape
  output : w'.output = w.output
  size : w.heap.size ≤ w'.heap.size
  block : ∀ k, k < w.heap.size → k ≠ M → w'.heap[k]? = w.heap[k]?
theorem ButM.of {M : Nat} {w w' : World} (h : Below w.heap.size w w') : ButM M w w' := ⟨h.os, h.tape, h.output, h.size, fun k hk _ => h.block k hk⟩
theorem ButM.trans {M : Nat} {a b c : World} (h : ButM M a b) (k : ButM M b c) : ButM M a c := ⟨k.os.trans h.os, k.tape.trans h.tape, k.output.trans h.output, Nat.le_trans h.size k.size, fun i hi hne => (k.block i (Nat.lt_of_lt_of_le hi h.size) hne).trans (h.block i hi hne)⟩
theorem ButM.low {M B : Nat} {w0 w w' : World} (h : ButM M w w') (hb : Below B w0 w) (hB : B ≤ w.heap.size) (hM : B ≤ M) : Below B w0 w' :=
  ⟨h.os.trans hb.os, h.tape.trans hb.tape, h.output.trans hb.output, Nat.le_trans hb.size h.size, fun k hk => (h.block k (by omega) (by omega)).trans (hb.block k hk)⟩
theorem ButM.cell {M : Nat} {w w' : World} (h : ButM M w w') {g k : Nat} {v : Value} (hne : g ≠ M) (hc : w.cell? ⟨g, k, none⟩ = some v) : w'.cell? ⟨g, k, none⟩ = some v := by
  have hl : g < w.heap.size := lt_of_cell hc
  have := h.block g hl hne
  have e : w'.cell? ⟨g, k, none⟩ = w.cell? ⟨g, k, none⟩ := by
    unfold World.cell?
    simp only [this]
  rw [e]
  exact hc
theorem turned_sz {w w' : World} {b : Nat} (h : w.mapTurned w' b) : w'.heap.size = w.heap.size := by
  obtain ⟨es, clock, es', clock', _, rfl⟩ := h
  simp [Go.ChangeMaps.setBlock]

/-- A name folded. -/
def lowL (l : Bs) : Bs := Lib.toLowerA l
theorem lowL_len (l : Bs) : (lowL l).length = l.length := by unfold lowL Lib.toLowerA; simp
def ChkS (l : Bs) (ks : List Bs) (M n : Nat) (w' : World) (E : Int) : Prop :=
  (E = 1 ∧ nameF l = false) ∨ (E = 12 ∧ nameF l = true ∧ lowL l ∈ ks) ∨ (E = 0 ∧ nameF l = true ∧ lowL l ∉ ks ∧ StAt w' M (n + 1) (lowL l :: ks))

set_option maxRecDepth 100000 in
set_option maxHeartbeats 2000000 in
theorem nmCheck_any {w : World} {K M n : Nat} {ks : List Bs} {l : Bs} (hg : Ml w) (hK : w.cell? ⟨K, 0, none⟩ = some (.map (some M))) (hs : StAt w M n ks) (hn : n ≤ 1099511627776) :
    Calls Tryz.prog 170 #[.string (ba l), .pointer (some ⟨K, 0, none⟩)] w fun e w' => (∃ E, e = .returned (.int .i64 E) ∧ ChkS l ks M n w' E) ∧ ButM M w w' := by
  have KV := hide (validName_any (l := l) hg)
  obtain ⟨nf, hnf⟩ : ∃ nf, nameF l = nf := ⟨_, rfl⟩
  rw [hnf] at KV
  cases nf with
  | false =>
    have HF := hide hnf
    clear hnf hg hK hs
    go_enter Tryz.func170, Tryz.ntmps170
    go_wp2_with (go_at_call 48; fail)
    refine (unhide KV).mono ?_
    rintro e w1 ⟨rfl, b1⟩
    have HB1 := hide b1
    clear b1 KV
    go_wp2
    go_ret
    exact ⟨⟨1, rfl, Or.inl ⟨rfl, unhide HF⟩⟩, ButM.of (unhide HB1)⟩
  | true =>
    have hnl := name_len hnf
    obtain ⟨x, hx⟩ : ∃ x, lowL l = x := ⟨_, rfl⟩
    have hxl : x.length ≤ 200 := by rw [← hx, lowL_len]; exact hnl
    have KL : Hid (∀ W, Calls Tryz.prog 171 #[.string (ba l)] W fun e w' => e = .returned (.string (ba x)) ∧ Below W.heap.size W w') := hide (fun W => by
      have k := Tryz.strings_ToLower_ascii (ba l) W (by rw [ba_size]; omega) (by rw [ba_data]; exact name_ascii hnf)
      rw [ba_data] at k
      rw [← hx]
      exact k)
    have HF := hide hnf
    have HS := hide hs
    have HK := hide hK
    have HX := hide hx
    have hxm : x.length ≤ maxLen := by unfold maxLen; omega
    have HXM := hide hxm
    clear hnf hg hs hx hnl
    go_enter Tryz.func170, Tryz.ntmps170
    go_wp2_with (go_at_call 48; fail)
    refine (unhide KV).mono ?_
    rintro e w1 ⟨rfl, b1⟩
    have HB1 := hide b1
    clear b1 KV hK
    go_wp2_with (go_at_call 171; fail)
    refine (unhide KL _).mono ?_
    rintro e w2 ⟨rfl, b2⟩
    have hb := low_trans (unhide HB1) b2
    obtain ⟨D, h1, h2, h3⟩ := ((unhide HS).low hb).own
    obtain ⟨b, hbb⟩ : ∃ b, decide (x ∈ ks) = b := ⟨_, rfl⟩
    have hl := look_st h1 hxm (by rw [h2 x hxm, hbb]) (h3 x hxm)
    have hK2 : w2.cell? ⟨K, 0, none⟩ = some (.map (some M)) := (hb.cell (lt_of_cell (unhide HK))).trans (unhide HK)
    have HB2 := hide hb
    have HBB := hide hbb
    clear b2 hb hbb KL
    cases b with
    | true =>
      have HZ : Hid (∀ o, ButM M w (w2.alloc o)) := hide (fun o => ButM.of (lowAA (unhide HB2) o))
      clear h1 h2 h3
      go_wp2
      go_ret
      exact ⟨⟨12, rfl, Or.inr (Or.inl ⟨rfl, unhide HF, by rw [unhide HX]; exact of_decide_eq_true (unhide HBB)⟩)⟩, unhide HZ _⟩
    | false =>
      have hk := keyF hxm
      have HO : Hid (∀ o, (w2.alloc o).ownsMap Tryz.prog 9 heldF M n D) := hide (fun o => h1.alloc o)
      have hK3 : ∀ o, (w2.alloc o).cell? ⟨K, 0, none⟩ = some (.map (some M)) := fun o => ((lowAA (Below.refl _ _) o).cell (lt_of_cell hK2)).trans hK2
      have hK4 := hK3 (.cells #[] 198)
      have H1 := hide h1
      have H2 := hide h2
      have H3 := hide h3
      have HLM : Hid (M < w2.heap.size) := hide h1.lt
      clear h1 h2 h3 hK3
      go_wp2_with (at_mapUpdate; refine wpList_mapUpdate_in _ rfl _ _ _ 208 rfl 9 198 lawF Tryz.underlying208 heldF M n D rfl (unhide HO _) (by unfold maxLen; omega) _ _ _ rfl rfl hk _ [] rfl ?_; intro w3 hown3 hturn3)
      have g3 := hturn3.grown
      have sz : w3.heap.size = w2.heap.size + 1 := by rw [turned_sz hturn3]; simp
      have HB3 : Hid (ButM M w w3) := hide (ButM.trans (ButM.of (unhide HB2)) ⟨g3.os, g3.tape, g3.output, by omega, fun j hj hne => by
        rw [g3.block j (by simp; omega) (by simpa using hne)]
        exact Below.heap_alloc _ _ j hj⟩)
      have HS3 : Hid (StAt w3 M (n + 1) (x :: ks)) := hide ⟨⟨_, hown3, fun y hy => by
        by_cases e : y = x
        · subst e
          rw [has_put_same (unhide H1).isMap (lawF.key hk)]
          simp
        · rw [has_put_other (fun e2 => e (by simpa using e2)), (unhide H2) y hy]
          simp [e], fun y hy => by
        by_cases e : y = x
        · subst e
          rw [atKey_put_same (unhide H1).isMap (lawF.key hk)]
          rfl
        · rw [atKey_put_other (fun e2 => e (by simpa using e2)), (unhide H3) y hy]⟩⟩
      clear hown3 hturn3 g3 sz
      go_wp2
      go_ret
      exact ⟨⟨0, rfl, Or.inr (Or.inr ⟨rfl, unhide HF, by rw [unhide HX]; exact of_decide_eq_false (unhide HBB), by rw [unhide HX]; exact unhide HS3⟩)⟩, unhide HB3⟩

/-- The first error of names. -/
def nmE : List Bs → List Bs → Int
  | _, [] => 0
  | seen, x :: r => if nameF x = false then 1 else if lowL x ∈ seen then 12 else nmE (lowL x :: seen) r
theorem FAt.get {w : World} {a : Option Addr} {xs : List Fl} (h : FAt w a xs) {k : Nat} (hk : k < xs.length) : ∃ B O, a = some ⟨B, O, none⟩ ∧ w.cell? ⟨B, O + k * 2, none⟩ = some (.string (ba xs[k].nm)) ∧ w.cell? ⟨B, O + k * 2 + 1, none⟩ = some (.slice xs[k].a xs[k].n xs[k].c) := by
  have hv : ∀ (l : List Fl) (k : Nat) (hk : k < l.length), (flsV l)[k * 2]? = some (.string (ba l[k].nm)) ∧ (flsV l)[k * 2 + 1]? = some (.slice l[k].a l[k].n l[k].c) := by
    intro l
    induction l with
    | nil => intro k hk; simp at hk
    | cons x l ih =>
      intro k hk
      cases k with
      | zero => exact ⟨rfl, rfl⟩
      | succ k =>
        have := ih k (by simpa using hk)
        rw [show (k + 1) * 2 = k * 2 + 1 + 1 by omega]
        simpa [flsV] using this
  rcases h.els with h0 | ⟨B, O, ha, he⟩
  · rw [h0] at hk; simp at hk
  · obtain ⟨h1, h2⟩ := hv xs k hk
    exact ⟨B, O, ha, he _ _ h1, by have := he _ _ h2; rwa [← Nat.add_assoc] at this⟩

set_option maxRecDepth 100000 in
set_option maxHeartbeats 2000000 in
theorem nameCheck_any (w : World) : Calls Tryz.prog 125 #[] w fun e w' => (∃ K M, e = .returned (.func (.func 170) #[] #[.pointer (some ⟨K, 0, none⟩)]) ∧ w'.cell? ⟨K, 0, none⟩ = some (.map (some M)) ∧ StAt w' M 0 [] ∧ w.heap.size ≤ M ∧ w.heap.size ≤ K ∧ K ≠ M) ∧ Below w.heap.size w w' := by
  have hmk := run_makeMap (P := Tryz.prog) 208 w
  have b1 : Below w.heap.size w (w.alloc (.map #[] 0)) := (Below.refl _ _).alloc (Nat.le_refl _) _
  have hs : Hid (∀ o, StAt ((w.alloc (.map #[] 0)).alloc o) w.heap.size 0 []) := hide (fun o => (st_new w).low ((Below.refl _ _).alloc (Nat.le_refl _) o))
  have hz : (w.alloc (.map #[] 0)).heap.size = w.heap.size + 1 := by simp
  have HZ : Hid (∀ o, Below w.heap.size w ((w.alloc (.map #[] 0)).alloc o)) := hide (fun o => b1.alloc b1.size o)
  have HC : Hid (((w.alloc (.map #[] 0)).alloc (.cells #[.map (some w.heap.size)] 208)).cell? ⟨w.heap.size + 1, 0, none⟩ = some (.map (some w.heap.size))) := hide (by
    have h1 := heap_alloc_new (w.alloc (.map #[] 0)) (.cells #[.map (some w.heap.size)] 208)
    rw [hz] at h1
    rw [Lib.cell_of_heap h1]
    rfl)
  clear b1
  go_enter Tryz.func125, Tryz.ntmps125
  go_wp2
  go_ret
  exact ⟨⟨_, _, rfl, unhide HC, unhide hs _, Nat.le_refl _, by omega, by omega⟩, unhide HZ _⟩

set_option maxRecDepth 100000 in
set_option maxHeartbeats 4000000 in
theorem checkNames_any {w : World} {a : Option Addr} {n c : Nat} {xs : List Fl} (hg : Ml w) (hx : xs.length = n) (hn : n ≤ 1099511627776) (h : FAt w a xs) :
    Calls Tryz.prog 69 #[.slice a n c] w fun e w' => e = .returned (.int .i64 (nmE [] (xs.map Fl.nm))) ∧ Below w.heap.size w w' := by
  have KC := hide (nameCheck_any w)
  have HG := hide hg
  have HX := hide hx
  have HA := hide h
  obtain ⟨RES, hR⟩ : ∃ RES, nmE [] (xs.map Fl.nm) = RES := ⟨_, rfl⟩
  have HR := hide hR
  rw [hR]
  clear hg hx h hR
  go_enter Tryz.func69, Tryz.ntmps69
  go_wp2_with (go_at_call 125; fail)
  refine (unhide KC).mono ?_
  rintro e w1 ⟨⟨K, M, rfl, hK, hS, hM, hKl, hKM⟩, b1⟩
  have HK := hide hK
  have HS := hide hS
  have HB1 := hide b1
  clear hK hS b1 KC
  go_wp2
  go_loopw [5, 6, 10] (fun _ _ v10 wr => ∃ (i : Nat) (seen : List Bs), i ≤ n ∧ v10 = .int .i64 (i : Int) ∧ StAt wr M i seen ∧ wr.cell? ⟨K, 0, none⟩ = some (.map (some M)) ∧ Hid (RES = nmE seen ((xs.drop i).map Fl.nm)) ∧ Below w.heap.size w wr) (fun _ _ v10 _ => n - (intOf v10).toNat)
  case atStart => exact ⟨0, [], Nat.zero_le _, rfl, unhide HS, unhide HK, hide (by rw [← unhide HR]; rfl), unhide HB1⟩
  case round =>
    rename World => wr
    obtain ⟨i, seen, hi, rfl, hS, hK, hres, hbw⟩ := hrel
    by_cases hlt : i < n
    · have hil : i < xs.length := by rw [unhide HX]; exact hlt
      have hlt' : (i : Int) < (n : Int) := by omega
      obtain ⟨B, O, rfl, g0, g1⟩ := ((unhide HA).low hbw).get hil
      have hdr : xs.drop i = xs[i] :: xs.drop (i + 1) := List.drop_eq_getElem_cons hil
      have hres2 := unhide hres
      rw [hdr, List.map_cons] at hres2
      simp only [nmE] at hres2
      obtain ⟨x, hxx⟩ : ∃ x, xs[i] = x := ⟨_, rfl⟩
      rw [hxx] at g0 g1 hres2
      obtain ⟨nm, xa, xn, xc⟩ := x
      simp only at g0 g1 hres2
      obtain ⟨S, hS0⟩ : ∃ S, wr.heap.size = S := ⟨_, rfl⟩
      obtain ⟨W2, hW2⟩ : ∃ W2, wr.alloc (.cells #[.string (ba nm), .slice xa xn xc] 56) = W2 := ⟨_, rfl⟩
      have b2 : Below wr.heap.size wr W2 := by rw [← hW2]; exact lowAA (Below.refl _ _) _
      have k0 : W2.cell? ⟨S, 0, none⟩ = some (.string (ba nm)) := by
        have h1 : W2.heap[S]? = some (.cells #[.string (ba nm), .slice xa xn xc] 56 (0, 0)) := by rw [← hW2, ← hS0]; exact heap_alloc_new wr _
        rw [Lib.cell_of_heap h1]
        rfl
      have hK2 : W2.cell? ⟨K, 0, none⟩ = some (.map (some M)) := (b2.cell (lt_of_cell hK)).trans hK
      have hS2 := hS.low b2
      have hg2 := (unhide HG).low (low_trans hbw b2)
      have KK := hide (nmCheck_any (l := nm) hg2 hK2 hS2 (by omega))
      have HBW := hide hbw
      have HB2 := hide (low_trans hbw b2)
      have HK2 := hide hK2
      have HW2 := hide hW2
      have HS0 := hide hS0
      have HRE := hide hres2
      have HSZ : Hid (w.heap.size ≤ W2.heap.size) := hide (low_trans hbw b2).size
      clear hdr hres hres2 hxx hS0 hW2 b2 hK2 hS2 hg2 hS hK hbw
      go_wp2_with (go_at_call 170; fail)
      rw [unhide HW2, unhide HS0]
      go_wp2_with (go_at_call 170; fail)
      refine (unhide KK).mono ?_
      rintro e w3 ⟨⟨E, rfl, hch⟩, hbut⟩
      have HB3 : Hid (Below w.heap.size w w3) := hide (hbut.low (unhide HB2) (unhide HSZ) hM)
      have hK3 := hbut.cell hKM (unhide HK2)
      clear hbut KK
      rcases hch with ⟨rfl, h1⟩ | ⟨rfl, h1, h2⟩ | ⟨rfl, h1, h2, h3⟩
      · have HF : Hid (RES = 1) := hide (by rw [unhide HRE, if_pos h1])
        clear h1 hK3
        go_wp2
        go_ret
        exact ⟨by rw [unhide HF]; rfl, unhide HB3⟩
      · have HF : Hid (RES = 12) := hide (by rw [unhide HRE, if_neg (by rw [h1]; simp), if_pos h2])
        clear h1 h2 hK3
        go_wp2
        go_ret
        exact ⟨by rw [unhide HF]; rfl, unhide HB3⟩
      · have HF : Hid (RES = nmE (lowL nm :: seen) ((xs.drop (i + 1)).map Fl.nm)) := hide (by rw [unhide HRE, if_neg (by rw [h1]; simp), if_neg h2])
        have HS3 := hide h3
        have HK3 := hide hK3
        clear h1 h2 h3 hK3
        go_wp2
        go_roundw
        case rel => exact ⟨i + 1, lowL nm :: seen, hlt, by push_cast; rfl, unhide HS3, unhide HK3, HF, unhide HB3⟩
        case measure => simp [intOf]; omega
    · have hie : i = n := by omega
      subst hie
      have HF : Hid (RES = 0) := hide (by rw [unhide hres, List.drop_of_length_le (by rw [unhide HX]; exact Nat.le_refl _)]; rfl)
      have HBW := hide hbw
      clear hres hS hK hbw
      go_wp2
      go_ret
      exact ⟨by rw [unhide HF]; rfl, unhide HBW⟩
end Go.Proofs.YtkablmjkffdloaaGreatDoor
