/-
  A fault's effect as a value, and what it makes of an answer.
-/
import Derived.Test.YtmbcjdlpdibalaaEff
namespace Go.Proofs.Ytmbcjdlpdibalaa
open Go.RowKit Go.WideMaps Go.Maps

theorem row_kind {w : World} {base n : Nat} {v : Value} {xs : List Value} {k : Nat} (h : w.ownsRow base 5 1 v n xs) (hk : v.ownBlock = some k) : ∃ cur, w.heap[k]? = some (.cells cur 5 (0, 0)) := by
  rcases h.2 with ⟨rfl, _⟩ | ⟨g, cap, cur, rfl, _, hb, _⟩
  · cases hk
  · cases hk; exact ⟨cur, hb⟩

theorem row_bytes {w : World} {base : Nat} {a : Option Addr} {c : Nat} {l : List UInt8} (h : w.ownsRow base 5 1 (.slice a l.length c) l.length (bytesV l)) : Bytes w a l.length l ∧ l.length ≤ c ∧ (a = none → c = 0) ∧ ∀ ad, a = some ad → ∃ g, ad = ⟨g, 0, none⟩ ∧ base ≤ g ∧ g < w.heap.size := by
  rcases h.2 with ⟨e, h0⟩ | ⟨g, cap, cur, e, hb, hblk, hcap, _⟩
  · have e2 := e
    simp only [Value.slice.injEq] at e2
    obtain ⟨ha, _, hc⟩ := e2
    subst ha hc
    exact ⟨⟨rfl, fun _ => h0, fun ad ha => (by cases ha)⟩, (by omega), fun _ => rfl, fun ad ha => (by cases ha)⟩
  · have e2 := e
    simp only [Value.slice.injEq] at e2
    obtain ⟨ha, _, hc⟩ := e2
    subst ha hc
    refine ⟨⟨rfl, fun ha => (by cases ha), fun ad ha i hi => ?_⟩, hcap, fun ha => (by cases ha), fun ad ha => (by cases ha; exact ⟨g, rfl, hb, (Array.getElem?_eq_some_iff.1 hblk).1⟩)⟩
    cases ha
    have := (row_at h hi).1
    rw [WideShapes.add_plain, Nat.zero_add]
    exact this

inductive Eff where
  | tell (st : Int)
  | forge (l : List UInt8)
  | cut (m : Nat)
  | flip (m : Nat)
  | late (m : Int)

/-- What a fault makes of an answer. -/
def befall : Eff → Ans → Ans
  | .tell st, _ => ⟨st, [], 1⟩
  | .forge l, _ => ⟨200, l, 1⟩
  | .cut m, x => if x.st = 200 then ⟨200, x.data.take (min m x.data.length), 1⟩ else x
  | .flip m, x => if x.st = 200 then ⟨x.st, flipL x.data m, x.tk⟩ else x
  | .late m, x => if x.st = 200 then ⟨x.st, x.data, m⟩ else x

theorem flipL_length (l : List UInt8) (m : Nat) : (flipL l m).length = l.length := by
  unfold flipL
  split <;> simp

/-- The inner closures. -/
theorem in68 {w : World} {b base m : Nat} {x : Ans} {a : Option Addr} {c : Nat} (hc : w.cell? ⟨b, 0, none⟩ = some (.int .i64 (m : Int))) (hr : w.ownsRow base 5 1 (.slice a x.data.length c) x.data.length (bytesV x.data)) (hn : x.data.length ≤ 1099511627776) (hbase : base ≤ w.heap.size) (row : Option Nat) :
    Calls Try.prog 68 #[.agg #[.int .i64 x.st, .slice a x.data.length c, .int .i64 x.tk], .pointer (some ⟨b, 0, none⟩)] w fun e w' => ∃ v', e = .returned v' ∧ AnsAt base w' v' ⟨200, x.data.take (min m x.data.length), 1⟩ ∧ w.grownBy w' row := by
  obtain ⟨h1, h2, h3, _⟩ := row_bytes hr
  refine (eff68 (k := min m x.data.length) hc h1 hn h2 h3 (by omega) (by omega)).mono ?_
  rintro e w' ⟨a', c', rfl, ho, hb⟩
  have e : (x.data.take (min m x.data.length)).length = min m x.data.length := by simp
  refine ⟨_, rfl, ⟨a', c', by simp only [e], ?_, by simp only [e]; omega⟩, grown_of_below hb _⟩
  simp only [e]
  exact row_up ho hbase

theorem in71 {w : World} {b base : Nat} {m : Int} {x : Ans} {a : Option Addr} {c : Nat} (hc : w.cell? ⟨b, 0, none⟩ = some (.int .i64 m)) (hr : w.ownsRow base 5 1 (.slice a x.data.length c) x.data.length (bytesV x.data)) (hn : x.data.length ≤ 1099511627776) (row : Option Nat) :
    Calls Try.prog 71 #[.agg #[.int .i64 x.st, .slice a x.data.length c, .int .i64 x.tk], .pointer (some ⟨b, 0, none⟩)] w fun e w' => ∃ v', e = .returned v' ∧ AnsAt base w' v' ⟨x.st, x.data, m⟩ ∧ w.grownBy w' row := by
  refine (eff71 hc).mono ?_
  rintro e w' ⟨rfl, hb⟩
  exact ⟨_, rfl, ⟨a, c, rfl, row_same hr (fun k hk => hb.block k (hr.lt k hk).2), hn⟩, grown_of_below hb _⟩

theorem in69 {w : World} {b base m : Nat} {x : Ans} {a : Option Addr} {c : Nat} (hc : w.cell? ⟨b, 0, none⟩ = some (.int .i64 (m : Int))) (hm : m ≤ 9223372036854775807) (hr : w.ownsRow base 5 1 (.slice a x.data.length c) x.data.length (bytesV x.data)) (hn : x.data.length ≤ 1099511627776) :
    Calls Try.prog 69 #[.agg #[.int .i64 x.st, .slice a x.data.length c, .int .i64 x.tk], .pointer (some ⟨b, 0, none⟩)] w fun e w' => ∃ v', e = .returned v' ∧ AnsAt base w' v' ⟨x.st, flipL x.data m, x.tk⟩ ∧ w.grownBy w' (Value.slice a x.data.length c).ownBlock := by
  by_cases hq : m / 8 < x.data.length
  · obtain ⟨_, _, h3, h4⟩ := row_bytes hr
    cases a with
    | none =>
      have h0 : x.data.length ≤ 0 := by have := h3 rfl; have := (row_bytes hr).2.1; omega
      omega
    | some ad =>
      obtain ⟨g, rfl, _, _⟩ := h4 ad rfl
      refine (eff69_near hc hr rfl rfl hq hm rfl hn).mono ?_
      rintro e w' ⟨rfl, ho, hg⟩
      have e : flipL x.data m = x.data.set (m / 8) (flipB (x.data.getD (m / 8) 0) (m % 8)) := by unfold flipL; rw [if_pos hq]
      refine ⟨_, rfl, ⟨some ⟨g, 0, none⟩, c, by rw [flipL_length], ?_, by rw [flipL_length]; exact hn⟩, hg⟩
      rw [flipL_length, e]
      exact ho
  · refine (eff69_far hc hq hm).mono ?_
    rintro e w' ⟨rfl, hb⟩
    have e : flipL x.data m = x.data := by unfold flipL; rw [if_neg hq]
    rw [e]
    exact ⟨_, rfl, ⟨a, c, rfl, row_same hr (fun k hk => hb.block k (hr.lt k hk).2), hn⟩, grown_of_below hb _⟩

theorem eff54_not {w : World} {b base : Nat} {x : Ans} {a : Option Addr} {c : Nat} (hst : x.st ≠ 200) (hr : w.ownsRow base 5 1 (.slice a x.data.length c) x.data.length (bytesV x.data)) (hn : x.data.length ≤ 1099511627776) :
    Calls Try.prog 54 #[.agg #[.int .i64 x.st, .slice a x.data.length c, .int .i64 x.tk], .pointer (some ⟨b, 0, none⟩)] w fun e w' => ∃ v', e = .returned v' ∧ AnsAt base w' v' x ∧ w.grownBy w' (Value.slice a x.data.length c).ownBlock := by
  obtain ⟨st, l, tk⟩ := x
  simp only at hst hr hn ⊢
  obtain ⟨n, hnn⟩ : ∃ n, l.length = n := ⟨_, rfl⟩
  have HA : Hid (∀ w', Below w.heap.size w w' → AnsAt base w' (.agg #[.int .i64 st, .slice a l.length c, .int .i64 tk]) ⟨st, l, tk⟩ ∧ w.grownBy w' (Value.slice a l.length c).ownBlock) :=
    fun w' hb => ⟨⟨a, c, rfl, row_same hr (fun k hk => hb.block k (hr.lt k hk).2), hn⟩, grown_of_below hb _⟩
  rw [hnn] at HA ⊢
  have q : (st != 200) = true := by simpa using hst
  clear hr hn hnn hst
  go_enter Try.func54, Try.ntmps54
  go_wp2
  obtain ⟨h1, h2⟩ := (unhide HA) _ (((Below.refl w.heap.size w).alloc (Nat.le_refl _) (.cells #[.int .i64 st, .slice a n c, .int .i64 tk] 34)).alloc (by simp) (.cells #[.int .i64 st, .slice a n c, .int .i64 tk] 34))
  exact bodyPost_ret (v := .agg #[.int .i64 st, .slice a n c, .int .i64 tk]) (by simp [results, Try.results54, go_sem]) rfl ⟨_, rfl, h1, h2⟩

theorem eff54_68 {w : World} {b b2 base : Nat} {x y : Ans} {a : Option Addr} {c : Nat} (hst : x.st = 200) (hc : w.cell? ⟨b, 0, none⟩ = some (.func (.func 68) #[] #[.pointer (some ⟨b2, 0, none⟩)])) (hr : w.ownsRow base 5 1 (.slice a x.data.length c) x.data.length (bytesV x.data)) (_hbase : base ≤ w.heap.size)
    (HI : Hid (Calls Try.prog 68 #[.agg #[.int .i64 x.st, .slice a x.data.length c, .int .i64 x.tk], .pointer (some ⟨b2, 0, none⟩)] (two34 w (.int .i64 x.st) (.slice a x.data.length c) (.int .i64 x.tk)) fun e w' => ∃ v', e = .returned v' ∧ AnsAt base w' v' y ∧ (two34 w (.int .i64 x.st) (.slice a x.data.length c) (.int .i64 x.tk)).grownBy w' (Value.slice a x.data.length c).ownBlock)) :
    Calls Try.prog 54 #[.agg #[.int .i64 x.st, .slice a x.data.length c, .int .i64 x.tk], .pointer (some ⟨b, 0, none⟩)] w fun e w' => ∃ v', e = .returned v' ∧ AnsAt base w' v' y ∧ w.grownBy w' (Value.slice a x.data.length c).ownBlock := by
  obtain ⟨st, l, tk⟩ := x
  simp only at hst hr HI ⊢
  subst hst
  have hb := lt_of_cell hc
  have c1 : (two34 w (.int .i64 200) (.slice a l.length c) (.int .i64 tk)).cell? ⟨b, 0, none⟩ = some (.func (.func 68) #[] #[.pointer (some ⟨b2, 0, none⟩)]) := ((two_below w _ _ _).cell (p := ⟨b, 0, none⟩) hb).trans hc
  have HLT : Hid (∀ k, (Value.slice a l.length c).ownBlock = some k → k < w.heap.size) := fun k hk => (hr.lt k hk).2
  obtain ⟨n, hnn⟩ : ∃ n, l.length = n := ⟨_, rfl⟩
  rw [hnn] at HI c1 HLT ⊢
  clear hr hnn
  go_enter Try.func54, Try.ntmps54
  go_wp2_with (go_at_call 68; fail)
  refine (unhide HI).mono ?_
  rintro e w2 ⟨v', rfl, ⟨a', c', rfl, ho, hyl⟩, hg⟩
  have hne : some (w.heap.size + 1) ≠ (Value.slice a n c).ownBlock := fun e => by have := (unhide HLT) _ e.symm; omega
  have hblk : w2.heap[w.heap.size + 1]? = some (.cells #[.int .i64 0, .slice none 0 0, .int .i64 0] 34 (0, 0)) := (hg.block (w.heap.size + 1) (by rw [two_size]; omega) hne).trans (two_res w _ _ _)
  obtain ⟨⟨d0, d1, d2⟩, f0, f1, f2⟩ := three_cells hblk
  obtain ⟨yst, yl, ytk⟩ := y
  simp only at ho hyl d0 d1 d2 ⊢
  have HD := hide (res_done hblk (B := 0) (a := w2) (Nat.zero_le _) (Below.refl _ _) (.int .i64 yst) (.slice a' yl.length c') (.int .i64 ytk))
  have HNE : Hid (∀ k, (Value.slice a' yl.length c').ownBlock = some k → k ≠ w.heap.size + 1) := by
    intro k hk e
    obtain ⟨cur, hcur⟩ := row_kind ho hk
    rw [e, hblk] at hcur
    simp at hcur
  have HO := hide ho
  have HG : Hid (w.grownBy w2 (Value.slice a n c).ownBlock) := (grown_of_below (two_below w (.int .i64 200) (.slice a n c) (.int .i64 tk)) _).trans hg
  have HYL := hide hyl
  obtain ⟨m, hm⟩ : ∃ m, yl.length = m := ⟨_, rfl⟩
  rw [hm] at HD HNE HO HYL
  have HM := hide hm
  simp only [hm]
  clear hblk ho hg hyl hne c1 HI hm
  go_wp2
  obtain ⟨⟨e0, e1, e2⟩, _, hK⟩ := (unhide HD) _ rfl
  refine bodyPost_ret (v := .agg #[.int .i64 yst, .slice a' m c', .int .i64 ytk]) (by simp [results, Try.results54, go_sem, e0, e1, e2]) rfl ⟨_, rfl, ⟨a', c', by rw [unhide HM], ?_, by rw [unhide HM]; exact unhide HYL⟩, ?_⟩
  · rw [unhide HM]
    exact row_same (unhide HO) (fun k hk => hK k ((unhide HNE) k hk))
  · exact ⟨(unhide HG).os, (unhide HG).tape, (unhide HG).output, Nat.le_trans (unhide HG).size (by simp [World.setCell]), fun k hk hr => (hK k (by omega)).trans ((unhide HG).block k hk hr)⟩

theorem eff54_69 {w : World} {b b2 base : Nat} {x y : Ans} {a : Option Addr} {c : Nat} (hst : x.st = 200) (hc : w.cell? ⟨b, 0, none⟩ = some (.func (.func 69) #[] #[.pointer (some ⟨b2, 0, none⟩)])) (hr : w.ownsRow base 5 1 (.slice a x.data.length c) x.data.length (bytesV x.data)) (_hbase : base ≤ w.heap.size)
    (HI : Hid (Calls Try.prog 69 #[.agg #[.int .i64 x.st, .slice a x.data.length c, .int .i64 x.tk], .pointer (some ⟨b2, 0, none⟩)] (two34 w (.int .i64 x.st) (.slice a x.data.length c) (.int .i64 x.tk)) fun e w' => ∃ v', e = .returned v' ∧ AnsAt base w' v' y ∧ (two34 w (.int .i64 x.st) (.slice a x.data.length c) (.int .i64 x.tk)).grownBy w' (Value.slice a x.data.length c).ownBlock)) :
    Calls Try.prog 54 #[.agg #[.int .i64 x.st, .slice a x.data.length c, .int .i64 x.tk], .pointer (some ⟨b, 0, none⟩)] w fun e w' => ∃ v', e = .returned v' ∧ AnsAt base w' v' y ∧ w.grownBy w' (Value.slice a x.data.length c).ownBlock := by
  obtain ⟨st, l, tk⟩ := x
  simp only at hst hr HI ⊢
  subst hst
  have hb := lt_of_cell hc
  have c1 : (two34 w (.int .i64 200) (.slice a l.length c) (.int .i64 tk)).cell? ⟨b, 0, none⟩ = some (.func (.func 69) #[] #[.pointer (some ⟨b2, 0, none⟩)]) := ((two_below w _ _ _).cell (p := ⟨b, 0, none⟩) hb).trans hc
  have HLT : Hid (∀ k, (Value.slice a l.length c).ownBlock = some k → k < w.heap.size) := fun k hk => (hr.lt k hk).2
  obtain ⟨n, hnn⟩ : ∃ n, l.length = n := ⟨_, rfl⟩
  rw [hnn] at HI c1 HLT ⊢
  clear hr hnn
  go_enter Try.func54, Try.ntmps54
  go_wp2_with (go_at_call 69; fail)
  refine (unhide HI).mono ?_
  rintro e w2 ⟨v', rfl, ⟨a', c', rfl, ho, hyl⟩, hg⟩
  have hne : some (w.heap.size + 1) ≠ (Value.slice a n c).ownBlock := fun e => by have := (unhide HLT) _ e.symm; omega
  have hblk : w2.heap[w.heap.size + 1]? = some (.cells #[.int .i64 0, .slice none 0 0, .int .i64 0] 34 (0, 0)) := (hg.block (w.heap.size + 1) (by rw [two_size]; omega) hne).trans (two_res w _ _ _)
  obtain ⟨⟨d0, d1, d2⟩, f0, f1, f2⟩ := three_cells hblk
  obtain ⟨yst, yl, ytk⟩ := y
  simp only at ho hyl d0 d1 d2 ⊢
  have HD := hide (res_done hblk (B := 0) (a := w2) (Nat.zero_le _) (Below.refl _ _) (.int .i64 yst) (.slice a' yl.length c') (.int .i64 ytk))
  have HNE : Hid (∀ k, (Value.slice a' yl.length c').ownBlock = some k → k ≠ w.heap.size + 1) := by
    intro k hk e
    obtain ⟨cur, hcur⟩ := row_kind ho hk
    rw [e, hblk] at hcur
    simp at hcur
  have HO := hide ho
  have HG : Hid (w.grownBy w2 (Value.slice a n c).ownBlock) := (grown_of_below (two_below w (.int .i64 200) (.slice a n c) (.int .i64 tk)) _).trans hg
  have HYL := hide hyl
  obtain ⟨m, hm⟩ : ∃ m, yl.length = m := ⟨_, rfl⟩
  rw [hm] at HD HNE HO HYL
  have HM := hide hm
  simp only [hm]
  clear hblk ho hg hyl hne c1 HI hm
  go_wp2
  obtain ⟨⟨e0, e1, e2⟩, _, hK⟩ := (unhide HD) _ rfl
  refine bodyPost_ret (v := .agg #[.int .i64 yst, .slice a' m c', .int .i64 ytk]) (by simp [results, Try.results54, go_sem, e0, e1, e2]) rfl ⟨_, rfl, ⟨a', c', by rw [unhide HM], ?_, by rw [unhide HM]; exact unhide HYL⟩, ?_⟩
  · rw [unhide HM]
    exact row_same (unhide HO) (fun k hk => hK k ((unhide HNE) k hk))
  · exact ⟨(unhide HG).os, (unhide HG).tape, (unhide HG).output, Nat.le_trans (unhide HG).size (by simp [World.setCell]), fun k hk hr => (hK k (by omega)).trans ((unhide HG).block k hk hr)⟩

theorem eff54_71 {w : World} {b b2 base : Nat} {x y : Ans} {a : Option Addr} {c : Nat} (hst : x.st = 200) (hc : w.cell? ⟨b, 0, none⟩ = some (.func (.func 71) #[] #[.pointer (some ⟨b2, 0, none⟩)])) (hr : w.ownsRow base 5 1 (.slice a x.data.length c) x.data.length (bytesV x.data)) (_hbase : base ≤ w.heap.size)
    (HI : Hid (Calls Try.prog 71 #[.agg #[.int .i64 x.st, .slice a x.data.length c, .int .i64 x.tk], .pointer (some ⟨b2, 0, none⟩)] (two34 w (.int .i64 x.st) (.slice a x.data.length c) (.int .i64 x.tk)) fun e w' => ∃ v', e = .returned v' ∧ AnsAt base w' v' y ∧ (two34 w (.int .i64 x.st) (.slice a x.data.length c) (.int .i64 x.tk)).grownBy w' (Value.slice a x.data.length c).ownBlock)) :
    Calls Try.prog 54 #[.agg #[.int .i64 x.st, .slice a x.data.length c, .int .i64 x.tk], .pointer (some ⟨b, 0, none⟩)] w fun e w' => ∃ v', e = .returned v' ∧ AnsAt base w' v' y ∧ w.grownBy w' (Value.slice a x.data.length c).ownBlock := by
  obtain ⟨st, l, tk⟩ := x
  simp only at hst hr HI ⊢
  subst hst
  have hb := lt_of_cell hc
  have c1 : (two34 w (.int .i64 200) (.slice a l.length c) (.int .i64 tk)).cell? ⟨b, 0, none⟩ = some (.func (.func 71) #[] #[.pointer (some ⟨b2, 0, none⟩)]) := ((two_below w _ _ _).cell (p := ⟨b, 0, none⟩) hb).trans hc
  have HLT : Hid (∀ k, (Value.slice a l.length c).ownBlock = some k → k < w.heap.size) := fun k hk => (hr.lt k hk).2
  obtain ⟨n, hnn⟩ : ∃ n, l.length = n := ⟨_, rfl⟩
  rw [hnn] at HI c1 HLT ⊢
  clear hr hnn
  go_enter Try.func54, Try.ntmps54
  go_wp2_with (go_at_call 71; fail)
  refine (unhide HI).mono ?_
  rintro e w2 ⟨v', rfl, ⟨a', c', rfl, ho, hyl⟩, hg⟩
  have hne : some (w.heap.size + 1) ≠ (Value.slice a n c).ownBlock := fun e => by have := (unhide HLT) _ e.symm; omega
  have hblk : w2.heap[w.heap.size + 1]? = some (.cells #[.int .i64 0, .slice none 0 0, .int .i64 0] 34 (0, 0)) := (hg.block (w.heap.size + 1) (by rw [two_size]; omega) hne).trans (two_res w _ _ _)
  obtain ⟨⟨d0, d1, d2⟩, f0, f1, f2⟩ := three_cells hblk
  obtain ⟨yst, yl, ytk⟩ := y
  simp only at ho hyl d0 d1 d2 ⊢
  have HD := hide (res_done hblk (B := 0) (a := w2) (Nat.zero_le _) (Below.refl _ _) (.int .i64 yst) (.slice a' yl.length c') (.int .i64 ytk))
  have HNE : Hid (∀ k, (Value.slice a' yl.length c').ownBlock = some k → k ≠ w.heap.size + 1) := by
    intro k hk e
    obtain ⟨cur, hcur⟩ := row_kind ho hk
    rw [e, hblk] at hcur
    simp at hcur
  have HO := hide ho
  have HG : Hid (w.grownBy w2 (Value.slice a n c).ownBlock) := (grown_of_below (two_below w (.int .i64 200) (.slice a n c) (.int .i64 tk)) _).trans hg
  have HYL := hide hyl
  obtain ⟨m, hm⟩ : ∃ m, yl.length = m := ⟨_, rfl⟩
  rw [hm] at HD HNE HO HYL
  have HM := hide hm
  simp only [hm]
  clear hblk ho hg hyl hne c1 HI hm
  go_wp2
  obtain ⟨⟨e0, e1, e2⟩, _, hK⟩ := (unhide HD) _ rfl
  refine bodyPost_ret (v := .agg #[.int .i64 yst, .slice a' m c', .int .i64 ytk]) (by simp [results, Try.results54, go_sem, e0, e1, e2]) rfl ⟨_, rfl, ⟨a', c', by rw [unhide HM], ?_, by rw [unhide HM]; exact unhide HYL⟩, ?_⟩
  · rw [unhide HM]
    exact row_same (unhide HO) (fun k hk => hK k ((unhide HNE) k hk))
  · exact ⟨(unhide HG).os, (unhide HG).tape, (unhide HG).output, Nat.le_trans (unhide HG).size (by simp [World.setCell]), fun k hk hr => (hK k (by omega)).trans ((unhide HG).block k hk hr)⟩

end Go.Proofs.Ytmbcjdlpdibalaa
