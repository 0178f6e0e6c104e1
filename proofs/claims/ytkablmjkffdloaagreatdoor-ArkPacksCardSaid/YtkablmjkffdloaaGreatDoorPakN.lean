/-
  The archive of no file.
-/
import Derived.Test.YtkablmjkffdloaaGreatDoorLowF
import Derived.Test.YtkablmjkffdloaaGreatDoorFilA
import Derived.Lib.SlBytesConst
namespace Go.Proofs.YtkablmjkffdloaaGreatDoor
open Go.RowKit

theorem lowFirst_any (wd : Int) (w : World) : Calls Tryz.prog 126 #[.int .i64 wd] w fun e w' => e = .returned (.func (.func 172) #[] #[.pointer (some ⟨w.heap.size, 0, none⟩)]) ∧ w' = w.alloc (.cells #[.int .i64 wd] 3) := by
  go_enter Tryz.func126, Tryz.ntmps126
  go_wp2
  go_ret
  exact ⟨rfl, rfl⟩
theorem Blk.grB {base : Nat} {w w' : World} {v v' : Value} {l : Bs} {p : Nat} {cs : Array Value} {t : TypeId} (h : Blk w p cs t) (ht : t ≠ 5) (ho : Src base w v l) (g : GrB w w' v v') : Blk w' p cs t :=
  (grB_keep ho g h.lt (fun cs2 fr e => by
    have h2 : w.heap[p]? = some (.cells cs t (0, 0)) := h
    rw [h2] at e
    have := Option.some.inj e
    injection this with _ e2 _
    exact ht e2)).trans h
theorem Blk.type {w : World} {p : Nat} {cs : Array Value} {t : TypeId} (h : Blk w p cs t) (ht : t ≠ 5) : ∀ cs2 fr, w.heap[p]? ≠ some (.cells cs2 5 fr) := fun cs2 fr e => by
  have h2 : w.heap[p]? = some (.cells cs t (0, 0)) := h
  rw [h2] at e
  have := Option.some.inj e
  injection this with _ e2 _
  exact ht e2

def endN : Bs := ([80, 75, 5, 6] ++ leAll 2 [0, 0, 0, 0]) ++ leAll 4 [0, 0] ++ leAll 2 [0]
theorem endN_len : endN.length = 22 := by decide +kernel

set_option maxRecDepth 100000 in
set_option maxHeartbeats 2000000 in
theorem archive_nil (w : World) : Calls Tryz.prog 71 #[.slice none 0 0] w fun e w' => ∃ v, e = .returned v ∧ OwnB w.heap.size w' v endN ∧ Below w.heap.size w w' := by
  obtain ⟨w1, hw1⟩ : ∃ w1, w.alloc (.cells #[.int .i64 2] 3) = w1 := ⟨_, rfl⟩
  obtain ⟨w2, hw2⟩ : ∃ w2, w1.alloc (.cells #[.int .i64 4] 3) = w2 := ⟨_, rfl⟩
  obtain ⟨W3, hW3⟩ : ∃ W3, w2.alloc (.cells #[.int .u8 80, .int .u8 75, .int .u8 5, .int .u8 6] 5 (4, 5)) = W3 := ⟨_, rfl⟩
  obtain ⟨W4, hW4⟩ : ∃ W4, W3.alloc (.cells #[.int .u32 0, .int .u32 0, .int .u32 0, .int .u32 0] 39) = W4 := ⟨_, rfl⟩
  have c1 : Below w.heap.size w w1 := by rw [← hw1]; exact (Below.refl _ _).alloc (Nat.le_refl _) _
  have c2 : Below w1.heap.size w1 w2 := by rw [← hw2]; exact (Below.refl _ _).alloc (Nat.le_refl _) _
  have c3 : Below w2.heap.size w2 W3 := by rw [← hW3]; exact (Below.refl _ _).alloc (Nat.le_refl _) _
  have c4 : Below W3.heap.size W3 W4 := by rw [← hW4]; exact (Below.refl _ _).alloc (Nat.le_refl _) _
  obtain ⟨p2, hp2⟩ : ∃ p, w.heap.size = p := ⟨_, rfl⟩
  obtain ⟨p4, hp4⟩ : ∃ p, w1.heap.size = p := ⟨_, rfl⟩
  obtain ⟨h1, hh1⟩ : ∃ p, w2.heap.size = p := ⟨_, rfl⟩
  obtain ⟨h2, hh2⟩ : ∃ p, W3.heap.size = p := ⟨_, rfl⟩
  have k2 : Blk W4 p2 #[.int .i64 2] 3 := by
    have : Blk w1 w.heap.size #[.int .i64 2] 3 := by rw [← hw1]; exact Blk.new _ _ _
    rw [← hp2]
    exact ((this.low c2).low c3).low c4
  have k4 : Blk W4 p4 #[.int .i64 4] 3 := by
    have : Blk w2 w1.heap.size #[.int .i64 4] 3 := by rw [← hw2]; exact Blk.new _ _ _
    rw [← hp4]
    exact (this.low c3).low c4
  have kh1 : W4.heap[h1]? = some (.cells #[.int .u8 80, .int .u8 75, .int .u8 5, .int .u8 6] 5 (4, 5)) := by
    have h3 : W3.heap[w2.heap.size]? = some (.cells #[.int .u8 80, .int .u8 75, .int .u8 5, .int .u8 6] 5 (4, 5)) := by rw [← hW3]; exact heap_alloc_new _ _
    rw [← hh1]
    exact (c4.block _ (Array.getElem?_eq_some_iff.1 h3).1).trans h3
  have hcv := Lib.run_convert_bytes_const (P := Tryz.prog) w2 23 5 #[.int .u8 80, .int .u8 75, .int .u8 5, .int .u8 6] 4 4 Tryz.underlying23 Tryz.underlying5
  rw [show (#[Value.int .u8 80, .int .u8 75, .int .u8 5, .int .u8 6] : Array Value).size = 4 from rfl, hW3] at hcv
  have kh2 : Blk W4 h2 #[.int .u32 0, .int .u32 0, .int .u32 0, .int .u32 0] 39 := by rw [← hh2, ← hW4]; exact Blk.new _ _ _
  have hs : w.heap.size ≤ h1 := by rw [← hh1]; exact Nat.le_trans c1.size c2.size
  have o4 : Src w.heap.size W4 (.slice (some ⟨h1, 0, none⟩) 4 4) [80, 75, 5, 6] := Or.inr ⟨h1, _, _, rfl, kh1, hs, rfl, fun k hk => by
    have : k = 0 ∨ k = 1 ∨ k = 2 ∨ k = 3 := by simp at hk; omega
    rcases this with rfl | rfl | rfl | rfl <;> rfl⟩
  have b4 : Below w.heap.size w W4 := low_trans (low_trans (low_trans c1 c2) c3) c4
  have H1 := hide (low_any (kc := 4) (q := 4) (ns := [0, 0, 0, 0]) o4 b4.size rfl (fun j hj => by
    have : j = 0 ∨ j = 1 ∨ j = 2 ∨ j = 3 := by simp at hj; omega
    rcases this with rfl | rfl | rfl | rfl
    · exact kh2.cell 0
    · exact kh2.cell 1
    · exact kh2.cell 2
    · exact kh2.cell 3) (kh2.type (by decide)) (k2.type (by decide)) (wd := 2) (k2.cell 0) (by decide) (fun x hx => by simp at hx; omega) (by decide) (by decide))
  have HK := hide (And.intro k2 (And.intro k4 (And.intro o4 b4)))
  have HW := hide (And.intro hw1 (And.intro hw2 (And.intro hW3 hW4)))
  have HP := hide (And.intro hp2 (And.intro hp4 (And.intro hh1 hh2)))
  clear hw1 hw2 hW3 hW4 c1 c2 c3 c4 k2 k4 kh1 kh2 hs o4 b4 hp2 hp4 hh1 hh2
  go_enter Tryz.func71, Tryz.ntmps71
  go_wp2_with (go_at_call 126; fail)
  refine (lowFirst_any _ _).mono ?_
  rintro e wn ⟨rfl, hwn⟩
  rw [hwn, (unhide HW).1, (unhide HP).1]
  clear hwn wn
  go_wp2_with (go_at_call 126; fail)
  refine (lowFirst_any _ _).mono ?_
  rintro e wn ⟨rfl, hwn⟩
  rw [hwn, (unhide HW).2.1, (unhide HP).2.1]
  clear hwn wn
  go_wp2
  refine wp_loop_rounds 1 ?_
  rw [rounds_succ]
  go_wp2_with (go_at_call 172; fail)
  rw [(unhide HW).2.2.2, (unhide HP).2.2.1, (unhide HP).2.2.2]
  refine (unhide H1).mono ?_
  rintro e w5 ⟨v5, rfl, o5, g5⟩
  obtain ⟨k2, k4, o4, b4⟩ := unhide HK
  have b5 : Below w.heap.size w w5 := b4.trans (g5.low b4.size (Src.base o4))
  have k2' := k2.grB (by decide) o4 g5
  have k4' := k4.grB (by decide) o4 g5
  obtain ⟨W6, hW6⟩ : ∃ W6, w5.alloc (.cells #[.int .u32 0, .int .u32 0] 39) = W6 := ⟨_, rfl⟩
  have c6 : Below w5.heap.size w5 W6 := by rw [← hW6]; exact (Below.refl _ _).alloc (Nat.le_refl _) _
  have kh6 : Blk W6 w5.heap.size #[.int .u32 0, .int .u32 0] 39 := by rw [← hW6]; exact Blk.new _ _ _
  have o6 := o5.low c6
  have k46 := k4'.low c6
  have k26 := k2'.low c6
  have b6 := b5.trans (c6.mono b5.size)
  have H2 := hide (low_any (kc := 2) (q := 2) (ns := [0, 0]) o6 b6.size rfl (fun j hj => by
    have : j = 0 ∨ j = 1 := by simp at hj; omega
    rcases this with rfl | rfl
    · exact kh6.cell 0
    · exact kh6.cell 1) (kh6.type (by decide)) (k46.type (by decide)) (wd := 4) (k46.cell 0) (by decide) (fun x hx => by simp at hx; omega) (by decide) (by decide))
  have HW6 := hide hW6
  have HK6 := hide (And.intro k26 (And.intro o6 b6))
  clear hcv o5 g5 k2 k4 o4 b4 b5 k2' k4' hW6 c6 kh6 o6 k46 k26 b6 HK H1
  go_wp2_with (go_at_call 172; fail)
  rw [unhide HW6]
  refine (unhide H2).mono ?_
  rintro e w7 ⟨v7, rfl, o7, g7⟩
  obtain ⟨k26, o6, b6⟩ := unhide HK6
  have b7 : Below w.heap.size w w7 := b6.trans (g7.low b6.size (Src.base o6))
  have k27 := k26.grB (by decide) o6 g7
  obtain ⟨W8, hW8⟩ : ∃ W8, w7.alloc (.cells #[.int .u32 0] 39) = W8 := ⟨_, rfl⟩
  have c8 : Below w7.heap.size w7 W8 := by rw [← hW8]; exact (Below.refl _ _).alloc (Nat.le_refl _) _
  have kh8 : Blk W8 w7.heap.size #[.int .u32 0] 39 := by rw [← hW8]; exact Blk.new _ _ _
  have o8 := o7.low c8
  have k28 := k27.low c8
  have b8 := b7.trans (c8.mono b7.size)
  have H3 := hide (low_any (kc := 1) (q := 1) (ns := [0]) o8 b8.size rfl (fun j hj => by
    have : j = 0 := by simp at hj; omega
    subst this
    exact kh8.cell 0) (kh8.type (by decide)) (k28.type (by decide)) (wd := 2) (k28.cell 0) (by decide) (fun x hx => by simp at hx; omega) (by decide) (by decide))
  have HW8 := hide hW8
  have HK8 := hide (And.intro o8 b8)
  clear o7 g7 k26 o6 b6 b7 k27 hW8 c8 kh8 o8 k28 b8 HK6 H2
  go_wp2_with (go_at_call 172; fail)
  rw [unhide HW8]
  refine (unhide H3).mono ?_
  rintro e w9 ⟨v9, rfl, o9, g9⟩
  obtain ⟨o8, b8⟩ := unhide HK8
  have b9 : Below w.heap.size w w9 := b8.trans (g9.low b8.size (Src.base o8))
  have e9 : (([80, 75, 5, 6] ++ leAll 2 [0, 0, 0, 0]) ++ leAll 4 [0, 0] ++ leAll 2 [0] : Bs) = endN := rfl
  rw [e9] at o9
  obtain ⟨a9, c9, rfl, hat9, hc9, hm9⟩ := Src.at o9
  rw [endN_len] at hc9
  have hn9 : (Builtin.append_ #[23, 23] 23 #[.slice none 0 0, .slice none 0 0]).run Tryz.prog w9 = .ok (.slice none 0 0) w9 := append_none (B := 0) (l := []) (World.ownsRow_nil _ _ _ _)
  obtain ⟨B9, O9, ha9, hel⟩ : ∃ B O, a9 = some ⟨B, O, none⟩ ∧ ∀ k (hk : k < endN.length), w9.cell? ⟨B, O + k, none⟩ = some (.int .u8 (endN[k].toNat : Int)) := by
    rcases hat9.els with e | h
    · have := endN_len; rw [e] at this; cases this
    · exact h
  subst ha9
  obtain ⟨v10, w10, happ, hown, hgr⟩ := app_bytes (B := w.heap.size) (w := w9) (v := .slice none 0 0) (l := []) (a := ⟨B9, O9, none⟩) (c := c9) (World.ownsRow_nil _ _ _ _) b9.size endN_len (fun k hk => by rw [WideShapes.add_plain]; exact hel k hk) (by decide)
  have HR := hide (And.intro hown (b9.trans (hgr.low b9.size (fun g e => by cases e))))
  rw [endN_len]
  clear o9 g9 o8 b8 b9 e9 hat9 hel hown hgr HK8 H3 hm9
  go_wp2_with (at_builtin; first | refine Lib.wpList_append_run _ rfl (.tmp 83) (.tmp 84) 23 23 (by rfl) (.slice none 0 0) (.slice none 0 0) (by rfl) (by rfl) _ _ hn9 ?_ | refine Lib.wpList_append_run _ rfl (.tmp 85) (.tmp 86) 23 23 (by rfl) (.slice none 0 0) _ (by rfl) (by rfl) _ _ happ ?_)
  go_ret
  exact ⟨_, rfl, (unhide HR).1, (unhide HR).2⟩

set_option maxRecDepth 100000 in
set_option maxHeartbeats 1000000 in
theorem checkNames_nil (w : World) : Calls Tryz.prog 69 #[.slice none 0 0] w fun e w' => e = .returned (.int .i64 0) ∧ Below w.heap.size w w' := by
  have HNC : Hid (Calls Tryz.prog 125 #[] w fun e w' => ∃ v, e = .returned v ∧ Below w.heap.size w w') := hide (by
    have hmk := run_makeMap (P := Tryz.prog) 208 w
    go_enter Tryz.func125, Tryz.ntmps125
    go_wp2
    go_ret
    have b := (Below.refl w.heap.size w).alloc (Nat.le_refl _) (.map #[] 0)
    exact ⟨_, rfl, b.alloc b.size _⟩)
  go_enter Tryz.func69, Tryz.ntmps69
  go_wp2_with (go_at_call 125; fail)
  refine (unhide HNC).mono ?_
  rintro e w1 ⟨v, rfl, b1⟩
  have HB := hide b1
  clear b1
  go_wp2
  refine wp_loop_rounds 1 ?_
  rw [rounds_succ]
  go_wp2
  go_ret
  exact ⟨rfl, unhide HB⟩
theorem archiveSize_nil (w : World) : Calls Tryz.prog 70 #[.slice none 0 0] w fun e w' => e = .returned (.int .i64 22) ∧ w' = w := by
  go_enter Tryz.func70, Tryz.ntmps70
  go_wp2
  refine wp_loop_rounds 1 ?_
  rw [rounds_succ]
  go_wp2
  go_ret
  exact ⟨rfl, rfl⟩

theorem byName_nil (w : World) : Calls Tryz.prog 72 #[.slice none 0 0] w fun e w' => e = .returned (.slice none 0 0) ∧ w' = w := by
  have HC := hide (fun wx => AnyE.slices_Clone_nil Tryz.clone128 0 0 wx)
  have HS := hide (fun fv wx => AnyF.slices_SortFunc_none Tryz.sort129 none 0 fv wx)
  go_enter Tryz.func72, Tryz.ntmps72
  go_wp2_with (go_at_call 128; fail)
  refine (unhide HC _).mono ?_
  rintro e wn ⟨rfl, hwn⟩
  rw [hwn]
  clear hwn wn
  go_wp2_with (go_at_call 129; fail)
  refine (unhide HS _ _).mono ?_
  rintro e wn ⟨rfl, hwn⟩
  rw [hwn]
  clear hwn wn
  go_wp2
  go_ret
  exact ⟨rfl, rfl⟩

set_option maxRecDepth 100000 in
set_option maxHeartbeats 1000000 in
theorem pack_nil (w : World) : Calls Tryz.prog 18 #[.slice none 0 0] w fun e w' => ∃ a c, e = .returned (.tuple #[.slice a 22 c, .int .i64 0]) ∧ Below w.heap.size w w' := by
  have HC := hide (checkNames_nil w)
  go_enter Tryz.func18, Tryz.ntmps18
  go_wp2_with (go_at_call 69; fail)
  refine (unhide HC).mono ?_
  rintro e w1 ⟨rfl, b1⟩
  have HB1 := hide b1
  clear b1 HC
  go_wp2_with (first | (go_at_call 70; refine (archiveSize_nil _).mono ?_; rintro e wn ⟨rfl, hwn⟩; rw [hwn]; clear hwn wn) | (go_at_call 72; refine (byName_nil _).mono ?_; rintro e wn ⟨rfl, hwn⟩; rw [hwn]; clear hwn wn) | (go_at_call 71; fail))
  refine (archive_nil _).mono ?_
  rintro e w2 ⟨v2, rfl, o2, b2⟩
  obtain ⟨a2, c2, rfl, _, _, _⟩ := OwnB.at o2
  rw [endN_len]
  have HB2 := hide (low_trans (unhide HB1) b2)
  clear o2 b2
  go_wp2
  go_ret2
  exact ⟨a2, c2, rfl, unhide HB2⟩
end Go.Proofs.YtkablmjkffdloaaGreatDoor
