/-
  The contracts of Remove and Rename.
-/
import Derived.Test.YtbdbobikiikbgaaDoorSync
namespace Go.Proofs.YtbdbobikiikbgaaDoor
open Go.RowKit Go.WideMaps Go.Maps

theorem drop_rep {w : World} {G : Lie} {s : AS} (h : Rep w G s) (name : ByteArray) (hn : name.size < 4611686018427387904) :
    Calls Tryd.prog 65 #[.string name] w fun e w' => ∃ v G', e = .returned (.agg #[.string (dirB name), v]) ∧ Rep w' G' s ∧ ChgAt w' G'.role (.drop name) v ∧ Went w G w' G' := by
  refine (drop_world name w hn).mono ?_
  rintro e w' ⟨rfl, o, rfl⟩
  have hb : Below w.heap.size w ((w.alloc (.cells #[.string name] 9)).alloc o) := ((Below.refl _ _).alloc (Nat.le_refl _) _).alloc (by simp) _
  refine ⟨_, G.capped w.heap.size w.heap.size, rfl, h.capped hb _ _ (Nat.le_refl _) (Nat.le_refl _) (by simp <;> omega) (by simp <;> omega), ⟨w.heap.size, rfl, ?_, by simp [Lie.capped], by unfold maxLen; omega⟩, Fr.of_below hb, rfl, ?_⟩
  · exact cell_alloc_old (cell_fs (heap_alloc_new w _) rfl)
  · intro b hb'
    show (if b = w.heap.size ∨ b = w.heap.size then some .cap else G.role b) = G.role b
    rw [if_neg (by omega)]

theorem move_rep {w : World} {G : Lie} {s : AS} (h : Rep w G s) (fr tgt : ByteArray) (hf : fr.size < 4611686018427387904) (hn : tgt.size < 4611686018427387904) :
    Calls Tryd.prog 49 #[.string fr, .string tgt] w fun e w' => ∃ v G', e = .returned (.agg #[.string (dirB tgt), v]) ∧ Rep w' G' s ∧ ChgAt w' G'.role (.move fr tgt) v ∧ Went w G w' G' := by
  refine (move_world fr tgt w hn).mono ?_
  rintro e w' ⟨rfl, o, rfl⟩
  have hb : Below w.heap.size w (((w.alloc (.cells #[.string fr] 9)).alloc (.cells #[.string tgt] 9)).alloc o) := (((Below.refl _ _).alloc (Nat.le_refl _) _).alloc (by simp) _).alloc (by simp; omega) _
  refine ⟨_, G.capped w.heap.size (w.heap.size + 1), rfl, h.capped hb _ _ (Nat.le_refl _) (by omega) (by simp <;> omega) (by simp <;> omega), ⟨w.heap.size + 1, w.heap.size, rfl, ?_, ?_, by simp [Lie.capped], by simp [Lie.capped], by unfold maxLen; omega, by unfold maxLen; omega⟩, Fr.of_below hb, rfl, ?_⟩
  · have := heap_alloc_new (w.alloc (.cells #[.string fr] 9)) (.cells #[.string tgt] 9)
    rw [alloc_size] at this
    exact cell_alloc_old (cell_fs this rfl)
  · exact cell_alloc_old (cell_alloc_old (cell_fs (heap_alloc_new w _) rfl))
  · intro b hb'
    show (if b = w.heap.size ∨ b = w.heap.size + 1 then some .cap else G.role b) = G.role b
    rw [if_neg (by omega)]

theorem alter_went {w : World} {G : Lie} {s : AS} (c : Chg) {v : Value} (h : Rep w G s) (hb : Bd s) (hi : Inv s) (hc : ChgAt w G.role c v) (F : Nat) (hF : G.F = F) (d : ByteArray) (hd : c.dir = d) :
    Calls Tryd.prog 42 #[.pointer (some ⟨F, 0, none⟩), .agg #[.string d, v]] w fun e w' => ∃ G', e = .returned (.tuple #[]) ∧ Rep w' G' (alterS s c) ∧ Went w G w' G' := by
  subst hF hd
  exact (alter_rep c h hb hi hc).mono (fun e w' ⟨G', h1, h2, h3, h4, h5⟩ => ⟨G', h1, h2, h3, h4, h5⟩)

theorem remove_err {w : World} {G : Lie} {s : AS} (h : Rep w G s) (hb : Bd s) (name : ByteArray) (hn : name.size ≤ maxLen) (hE : beginE s (noneE s name) ≠ 0) :
    Calls Tryd.prog 55 #[.pointer (some ⟨G.F, 0, none⟩), .string name] w fun e w' => e = .returned (.int .i64 (beginE s (noneE s name))) ∧ Rep w' G (beginS s (noneE s name)) ∧ Fr G.role w w' := by
  have HN := hide (none_rep h name hn)
  have HBG := hide (begin_rep h hb (noneE s name))
  have hne : (beginE s (noneE s name) != 0) = true := by simp [hE]
  clear h hb hE
  go_enter Tryd.func55, Tryd.ntmps55
  go_wp2_with (first
    | (go_at_call 44; refine (unhide HN).mono ?_; rintro e w1 ⟨rfl, rfl⟩)
    | (go_at_call 39; refine (unhide HBG).mono ?_; rintro e w2 ⟨rfl, hR2, hF2⟩))
  go_ret
  exact ⟨rfl, hR2, hF2⟩

set_option maxHeartbeats 1000000 in
theorem remove_ok {w : World} {G : Lie} {s : AS} (h : Rep w G s) (hb : Bd s) (hi : Inv s) (name : ByteArray) (hn : name.size < 4611686018427387904) (hE : beginE s (noneE s name) = 0) (r3 : s.steps + 1 ≤ 1099511627776) :
    Calls Tryd.prog 55 #[.pointer (some ⟨G.F, 0, none⟩), .string name] w fun e w' => ∃ G', e = .returned (.int .i64 0) ∧ Rep w' G' (alterS (beginS s (noneE s name)) (.drop name)) ∧ Went w G w' G' := by
  have HN := hide (none_rep h name (by unfold maxLen; omega))
  have hbg := begin_rep h hb (noneE s name)
  rw [hE] at hbg
  have hbd := hb.begin (noneE s name) r3
  have hin := hi.begin (noneE s name)
  obtain ⟨s2, hs⟩ : ∃ s2, s2 = beginS s (noneE s name) := ⟨_, rfl⟩
  rw [← hs] at hbg hbd hin ⊢
  have HBG := hide hbg
  have HBD := hide hbd
  have HIN := hide hin
  clear h hb hi hE hbg hs hbd hin
  go_enter Tryd.func55, Tryd.ntmps55
  go_wp2_with (first
    | (go_at_call 44; refine (unhide HN).mono ?_; rintro e w1 ⟨rfl, rfl⟩)
    | (go_at_call 39; refine (unhide HBG).mono ?_; rintro e w2 ⟨rfl, hR2, hF2⟩)
    | (go_at_call 65; refine (drop_rep hR2 name hn).mono ?_; rintro e w3 ⟨v, G3, rfl, hR3, hc3, hW3⟩)
    | (go_at_call 42; refine (alter_went (.drop name) hR3 (unhide HBD) (unhide HIN) hc3 _ hW3.F _ rfl).mono ?_; rintro e w4 ⟨G4, rfl, hR4, hW4⟩))
  go_ret
  exact ⟨G4, rfl, hR4, ((Went.of_fr hF2).trans hW3).trans hW4⟩

theorem rename_err {w : World} {G : Lie} {s : AS} (h : Rep w G s) (hb : Bd s) (fr tgt : ByteArray) (hf : fr.size ≤ maxLen) (ht : tgt.size ≤ maxLen) (hE : beginE s (renameE s fr tgt) ≠ 0) :
    Calls Tryd.prog 20 #[.pointer (some ⟨G.F, 0, none⟩), .string fr, .string tgt] w fun e w' => e = .returned (.int .i64 (beginE s (renameE s fr tgt))) ∧ Rep w' G (beginS s (renameE s fr tgt)) ∧ Fr G.role w w' := by
  have HN := hide (renameErr_rep h fr tgt hf ht)
  have HBG : Hid (∀ w1, Below w.heap.size w w1 → _) := fun w1 hbl => begin_rep (h.below hbl) hb (renameE s fr tgt)
  have hne : (beginE s (renameE s fr tgt) != 0) = true := by simp [hE]
  clear h hb hE
  go_enter Tryd.func20, Tryd.ntmps20
  go_wp2_with (first
    | (go_at_call 48; refine (unhide HN).mono ?_; rintro e w1 ⟨rfl, hbl⟩)
    | (go_at_call 39; refine (unhide HBG _ hbl).mono ?_; rintro e w2 ⟨rfl, hR2, hF2⟩))
  go_ret
  exact ⟨rfl, hR2, (Fr.of_below hbl).trans hF2 (fun _ _ => rfl)⟩

def renamedS (s : AS) (fr tgt : ByteArray) : AS := if fr.data.toList = tgt.data.toList then s else alterS s (.move fr tgt)

set_option maxHeartbeats 1000000 in
theorem rename_ok {w : World} {G : Lie} {s : AS} (h : Rep w G s) (hb : Bd s) (hi : Inv s) (fr tgt : ByteArray) (hf : fr.size < 4611686018427387904) (ht : tgt.size < 4611686018427387904) (hE : beginE s (renameE s fr tgt) = 0) (r3 : s.steps + 1 ≤ 1099511627776) :
    Calls Tryd.prog 20 #[.pointer (some ⟨G.F, 0, none⟩), .string fr, .string tgt] w fun e w' => ∃ G', e = .returned (.int .i64 0) ∧ Rep w' G' (renamedS (beginS s (renameE s fr tgt)) fr tgt) ∧ Went w G w' G' := by
  have HN := hide (renameErr_rep h fr tgt (by unfold maxLen; omega) (by unfold maxLen; omega))
  have hbd := hb.begin (renameE s fr tgt) r3
  have hin := hi.begin (renameE s fr tgt)
  have HBG : Hid (∀ w1, Below w.heap.size w w1 → Calls Tryd.prog 39 #[.pointer (some ⟨G.F, 0, none⟩), .int .i64 (renameE s fr tgt)] w1 fun e w' => e = .returned (.int .i64 0) ∧ Rep w' G (beginS s (renameE s fr tgt)) ∧ Fr G.role w w') := by
    intro w1 hbl
    have := begin_rep (h.below hbl) hb (renameE s fr tgt)
    rw [hE] at this
    exact this.mono (fun e w' ⟨h1, h2, h3⟩ => ⟨h1, h2, (Fr.of_below hbl).trans h3 (fun _ _ => rfl)⟩)
  obtain ⟨s2, hs⟩ : ∃ s2, s2 = beginS s (renameE s fr tgt) := ⟨_, rfl⟩
  rw [← hs] at hbd hin HBG ⊢
  have HBD := hide hbd
  have HIN := hide hin
  clear h hb hi hE hs hbd hin
  by_cases he : fr.data.toList = tgt.data.toList
  · have HS : Hid (renamedS s2 fr tgt = s2) := by simp [Hid, renamedS, he]
    have hq : (fr.toList == tgt.toList) = true := by rw [toList_data, toList_data, he]; simp
    clear he
    go_enter Tryd.func20, Tryd.ntmps20
    go_wp2_with (first
      | (go_at_call 48; refine (unhide HN).mono ?_; rintro e w1 ⟨rfl, hbl⟩)
      | (go_at_call 39; refine (unhide HBG _ hbl).mono ?_; rintro e w2 ⟨rfl, hR2, hF2⟩))
    go_ret
    rw [HS.out]
    exact ⟨G, rfl, hR2, Went.of_fr hF2⟩
  · have HS : Hid (renamedS s2 fr tgt = alterS s2 (.move fr tgt)) := by simp [Hid, renamedS, he]
    have hq : (fr.toList == tgt.toList) = false := by rw [toList_data, toList_data]; simpa using he
    clear he
    go_enter Tryd.func20, Tryd.ntmps20
    go_wp2_with (first
      | (go_at_call 48; refine (unhide HN).mono ?_; rintro e w1 ⟨rfl, hbl⟩)
      | (go_at_call 39; refine (unhide HBG _ hbl).mono ?_; rintro e w2 ⟨rfl, hR2, hF2⟩)
      | (go_at_call 49; refine (move_rep hR2 fr tgt hf ht).mono ?_; rintro e w3 ⟨v, G3, rfl, hR3, hc3, hW3⟩)
      | (go_at_call 42; refine (alter_went (.move fr tgt) hR3 (unhide HBD) (unhide HIN) hc3 _ hW3.F _ rfl).mono ?_; rintro e w4 ⟨G4, rfl, hR4, hW4⟩))
    go_ret
    rw [HS.out]
    exact ⟨G4, rfl, hR4, ((Went.of_fr hF2).trans hW3).trans hW4⟩

end Go.Proofs.YtbdbobikiikbgaaDoor
