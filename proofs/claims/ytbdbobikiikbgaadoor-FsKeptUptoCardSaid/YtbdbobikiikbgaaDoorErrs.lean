/-
  The contracts of renameError, syncDirError, writeError.
-/
import Derived.Test.YtbdbobikiikbgaaDoorSmall
namespace Go.Proofs.YtbdbobikiikbgaaDoor
open Go.RowKit Go.WideMaps Go.Maps

def renameE (s : AS) (fr tgt : ByteArray) : Int := if num s.names fr = 0 then 2 else if validB tgt then 0 else 1

theorem renameErr_rep {w : World} {G : Lie} {s : AS} (h : Rep w G s) (fr tgt : ByteArray) (hf : fr.size ≤ maxLen) (ht : tgt.size ≤ maxLen) :
    Calls Tryd.prog 48 #[.pointer (some ⟨G.F, 0, none⟩), .string fr, .string tgt] w fun e w' => e = .returned (.int .i64 (renameE s fr tgt)) ∧ Below w.heap.size w w' := by
  have hc := has_rep h fr hf
  obtain ⟨m, hm⟩ := h.glob
  have hv := valid_any tgt w m ht hm
  have HE : Hid (renameE s fr tgt = if num s.names fr = 0 then 2 else if validB tgt then 0 else 1) := rfl
  clear h hm
  generalize renameE s fr tgt = E at HE ⊢
  generalize num s.names fr = c at hc HE
  generalize validB tgt = b at hv HE
  have HV := hide hv
  clear hv
  by_cases h0 : c = 0
  · subst h0
    have HC := hide hc
    clear hc
    go_enter Tryd.func48, Tryd.ntmps48
    go_wp2_with (go_at_call 50; refine (unhide HC).mono ?_; rintro e w1 ⟨rfl, rfl⟩)
    go_ret
    exact ⟨by rw [HE.out]; rfl, Below.refl _ _⟩
  · have hb : (c != 0) = true := by simp [h0]
    rw [hb] at hc
    have HC := hide hc
    have H0 := hide h0
    clear hc hb h0
    cases b
    · go_enter Tryd.func48, Tryd.ntmps48
      go_wp2_with (first | (go_at_call 50; refine (unhide HC).mono ?_; rintro e w1 ⟨rfl, rfl⟩) | (go_at_call 11; refine (unhide HV).mono ?_; rintro e w2 ⟨rfl, hbl⟩))
      go_ret
      exact ⟨by rw [HE.out, if_neg (unhide H0)]; rfl, hbl⟩
    · go_enter Tryd.func48, Tryd.ntmps48
      go_wp2_with (first | (go_at_call 50; refine (unhide HC).mono ?_; rintro e w1 ⟨rfl, rfl⟩) | (go_at_call 11; refine (unhide HV).mono ?_; rintro e w2 ⟨rfl, hbl⟩))
      go_ret
      exact ⟨by rw [HE.out, if_neg (unhide H0)]; rfl, hbl⟩

def syncDirE (d : ByteArray) : Int := if d.data.toList = [] then 0 else if validB d then 0 else 1

theorem syncDirErr_any (d : ByteArray) (w : World) (m : Int) (hd : d.size ≤ maxLen) (hm : w.cell? ⟨0, 0, none⟩ = some (.int .i64 m)) :
    Calls Tryd.prog 46 #[.string d] w fun e w' => e = .returned (.int .i64 (syncDirE d)) ∧ Below w.heap.size w w' := by
  have hv := valid_any d w m hd hm
  have HE : Hid (syncDirE d = if d.data.toList = [] then 0 else if validB d then 0 else 1) := rfl
  clear hm
  generalize syncDirE d = E at HE ⊢
  generalize validB d = b at hv HE
  have HV := hide hv
  clear hv
  by_cases h0 : d.data.toList = []
  · have e0 : d.toList.isEmpty = true := by rw [toList_data, h0]; rfl
    have H0 := hide h0
    clear h0
    go_enter Tryd.func46, Tryd.ntmps46
    go_wp2_with fail
    go_ret
    exact ⟨by rw [HE.out, if_pos (unhide H0)]; rfl, Below.refl _ _⟩
  · have e0 : d.toList.isEmpty = false := by rw [toList_data]; simpa using h0
    have H0 := hide h0
    clear h0
    cases b
    · go_enter Tryd.func46, Tryd.ntmps46
      go_wp2_with (go_at_call 11; refine (unhide HV).mono ?_; rintro e w2 ⟨rfl, hbl⟩)
      go_ret
      exact ⟨by rw [HE.out, if_neg (unhide H0)]; rfl, hbl⟩
    · go_enter Tryd.func46, Tryd.ntmps46
      go_wp2_with (go_at_call 11; refine (unhide HV).mono ?_; rintro e w2 ⟨rfl, hbl⟩)
      go_ret
      exact ⟨by rw [HE.out, if_neg (unhide H0)]; rfl, hbl⟩

theorem bl_drewN {B : Nat} {a w : World} (h : Below B a w) {n : Nat} : Below B a (w.drewN n) := ⟨h.os, h.tape, h.output, h.size, h.block⟩
theorem row_form {w : World} {base e size n : Nat} {v : Value} {xs : List Value} (h : w.ownsRow base e size v n xs) : ∃ a cap, v = .slice a n cap := by
  rcases h.2 with ⟨rfl, rfl⟩ | ⟨g, cap, cur, rfl, _⟩
  · exact ⟨_, _, rfl⟩
  · exact ⟨_, _, rfl⟩

theorem file_none {w : World} {G : Lie} {s : AS} (h : Rep w G s) (name : ByteArray) (hn : name.size ≤ maxLen) (h0 : num s.names name = 0) :
    Calls Tryd.prog 45 #[.pointer (some ⟨G.F, 0, none⟩), .string name] w fun e w' => e = .returned (.pointer none) ∧ ∃ nq, w' = w.drewN nq := by
  refine (file_any G.F G.N G.M _ _ s.names G.DM name w (cell_fs h.fsb rfl) (cell_fs h.fsb rfl) h.tN h.fm hn _ (h.tN.num name hn).1).mono ?_
  rintro e w' ⟨⟨v, rfl, hv⟩, hw⟩
  refine ⟨?_, hw⟩
  rw [h0, h.no0] at hv
  rcases hv with ⟨rfl, _⟩ | ⟨b, _, hb⟩
  · rfl
  · cases hb

theorem file_some {w : World} {G : Lie} {s : AS} (h : Rep w G s) (name : ByteArray) (hn : name.size ≤ maxLen) (f : AF) (hf : s.files (num s.names name) = some f) :
    Calls Tryd.prog 45 #[.pointer (some ⟨G.F, 0, none⟩), .string name] w fun e w' => e = .returned (.pointer (some ⟨G.fb (num s.names name), 0, none⟩)) ∧ ∃ nq, w' = w.drewN nq := by
  refine (file_any G.F G.N G.M _ _ s.names G.DM name w (cell_fs h.fsb rfl) (cell_fs h.fsb rfl) h.tN h.fm hn _ (h.tN.num name hn).1).mono ?_
  rintro e w' ⟨⟨v, rfl, hv⟩, hw⟩
  refine ⟨?_, hw⟩
  rw [(h.files _ f hf).map] at hv
  rcases hv with ⟨_, hb⟩ | ⟨b, rfl, hb⟩
  · cases hb
  · simp at hb
    have : b = G.fb (num s.names name) := by omega
    rw [this]

def writeE (s : AS) (name : ByteArray) (len : Int) : Int :=
  if validB name then
    (match s.files (num s.names name) with
     | none => if s.quota < s.size + len ∨ 4000 < (Maps.size s.names : Int) + 1 then 4 else 0
     | some f => if s.quota < s.size + len - f.data.length ∨ 4000 < (Maps.size s.names : Int) then 4 else 0)
  else 1

theorem writeErr_bad {w : World} {G : Lie} {s : AS} (h : Rep w G s) (name : ByteArray) (hn : name.size ≤ maxLen) (len : Int) (hv0 : validB name = false) :
    Calls Tryd.prog 40 #[.pointer (some ⟨G.F, 0, none⟩), .string name, .int .i64 len] w fun e w' => e = .returned (.int .i64 1) ∧ Below w.heap.size w w' := by
  obtain ⟨m, hm⟩ := h.glob
  have hv := valid_any name w m hn hm
  rw [hv0] at hv
  have HV := hide hv
  clear hv h hv0
  go_enter Tryd.func40, Tryd.ntmps40
  go_wp2_with (go_at_call 11; refine (unhide HV).mono ?_; rintro e w2 ⟨rfl, hbl⟩)
  go_ret
  exact ⟨rfl, hbl⟩

theorem tab_len {w : World} {N n : Nat} {D : DataW Unit} (h : Tab w N n D) (ty : TypeId) (nq : Nat) : (Builtin.len_ #[62] ty #[.map (some N)]).run Tryd.prog (w.drewN nq) = .ok (.int .i64 (Maps.size D)) (w.drewN nq) :=
  World.ownsMap.len (w := w.drewN nq) h Tryd.underlying62 ty

set_option maxHeartbeats 400000 in
theorem writeErr_none {w : World} {G : Lie} {s : AS} (h : Rep w G s) (hb : Bd s) (name : ByteArray) (hn : name.size ≤ maxLen) (len : Int) (hl0 : 0 ≤ len) (hl1 : len ≤ 140737488355328) (hv0 : validB name = true) (h0 : num s.names name = 0) :
    Calls Tryd.prog 40 #[.pointer (some ⟨G.F, 0, none⟩), .string name, .int .i64 len] w fun e w' => e = .returned (.int .i64 (if s.quota < s.size + len ∨ 4000 < (Maps.size s.names : Int) + 1 then 4 else 0)) ∧ Below w.heap.size w w' := by
  obtain ⟨m, hm⟩ := h.glob
  have hv := valid_any name w m hn hm
  rw [hv0] at hv
  have HV := hide hv
  have hz0 := hb.z0
  have hz1 := hb.z1
  have hm1 := hb.mN
  have HR := hide h
  have H0 := hide h0
  clear hv hv0 h hb h0 hm
  go_enter Tryd.func40, Tryd.ntmps40
  go_wp2_with (go_at_call 11; refine (unhide HV).mono ?_; rintro e w2 ⟨rfl, hbl⟩)
  have hR2 := (unhide HR).below hbl
  have c6 : w2.cell? ⟨G.F, 6, none⟩ = some (.int .i64 s.size) := cell_fs hR2.fsb rfl
  have c3 : w2.cell? ⟨G.F, 3, none⟩ = some (.map (some G.N)) := cell_fs hR2.fsb rfl
  have c0 : w2.cell? ⟨G.F, 0, none⟩ = some (.int .i64 s.quota) := cell_fs hR2.fsb rfl
  have hlen := fun ty nq => tab_len hR2.tN ty nq
  have HR2 := hide hR2
  clear hR2
  go_quiet (fail)
  go_wp2_with (go_at_call 45; refine (file_none ((unhide HR2).drewN _) name hn (unhide H0)).mono ?_; rintro e w3 ⟨rfl, nq3, rfl⟩)
  · go_ret
    exact ⟨by first | rfl | (rw [if_pos (by assumption)]; rfl), bl_drewN hbl⟩
  · go_ret
    exact ⟨by first | rfl | (rw [if_neg (by omega)]; rfl), bl_drewN hbl⟩
  · go_ret
    exact ⟨by first | rfl | (rw [if_pos (Or.inl (by assumption))]; rfl), bl_drewN hbl⟩

set_option maxHeartbeats 400000 in
theorem writeErr_some {w : World} {G : Lie} {s : AS} (h : Rep w G s) (hb : Bd s) (name : ByteArray) (hn : name.size ≤ maxLen) (len : Int) (hl0 : 0 ≤ len) (hl1 : len ≤ 140737488355328) (hv0 : validB name = true) (f : AF) (hf : s.files (num s.names name) = some f)
    (hfl : f.data.length ≤ 1099511627776) :
    Calls Tryd.prog 40 #[.pointer (some ⟨G.F, 0, none⟩), .string name, .int .i64 len] w fun e w' => e = .returned (.int .i64 (if s.quota < s.size + len - f.data.length ∨ 4000 < (Maps.size s.names : Int) then 4 else 0)) ∧ Below w.heap.size w w' := by
  obtain ⟨m, hm⟩ := h.glob
  have hv := valid_any name w m hn hm
  rw [hv0] at hv
  have HV := hide hv
  have hz0 := hb.z0
  have hz1 := hb.z1
  have hm1 := hb.mN
  have HR := hide h
  have HF := hide hf
  obtain ⟨b, hbb⟩ : ∃ b, b = G.fb (num s.names name) := ⟨_, rfl⟩
  have HB := hide hbb
  obtain ⟨a, cap, hdv⟩ : ∃ a cap, G.dv (num s.names name) = .slice a f.data.length cap := row_form (h.files _ f hf).row
  have HD := hide hdv
  clear hv hv0 h hb hf hm hbb hdv
  go_enter Tryd.func40, Tryd.ntmps40
  go_wp2_with (go_at_call 11; refine (unhide HV).mono ?_; rintro e w2 ⟨rfl, hbl⟩)
  have hR2 := (unhide HR).below hbl
  have c6 : w2.cell? ⟨G.F, 6, none⟩ = some (.int .i64 s.size) := cell_fs hR2.fsb rfl
  have c3 : w2.cell? ⟨G.F, 3, none⟩ = some (.map (some G.N)) := cell_fs hR2.fsb rfl
  have c0 : w2.cell? ⟨G.F, 0, none⟩ = some (.int .i64 s.quota) := cell_fs hR2.fsb rfl
  have cb : w2.cell? ⟨b, 0, none⟩ = some (.slice a f.data.length cap) := by
    rw [unhide HB, ← unhide HD]; exact cell_fs (hR2.files _ f (unhide HF)).block rfl
  have hlen := fun ty nq => tab_len hR2.tN ty nq
  have HR2 := hide hR2
  clear hR2
  have HC : Hid (∀ nq, Calls Tryd.prog 45 #[.pointer (some ⟨G.F, 0, none⟩), .string name] (w2.drewN nq) fun e w' => e = .returned (.pointer (some ⟨b, 0, none⟩)) ∧ ∃ nq', w' = (w2.drewN nq).drewN nq') := by
    intro nq; rw [unhide HB]; exact file_some ((unhide HR2).drewN _) name hn f (unhide HF)
  go_quiet (fail)
  go_wp2_with (go_at_call 45; refine (unhide HC _).mono ?_; rintro e w3 ⟨rfl, nq3, rfl⟩)
  · go_ret
    exact ⟨by first | rfl | (rw [if_pos (by assumption)]; rfl), bl_drewN hbl⟩
  · go_ret
    exact ⟨by first | rfl | (rw [if_neg (by omega)]; rfl), bl_drewN hbl⟩
  · go_ret
    exact ⟨by first | rfl | (rw [if_pos (Or.inl (by assumption))]; rfl), bl_drewN hbl⟩

theorem writeErr_rep {w : World} {G : Lie} {s : AS} (h : Rep w G s) (hb : Bd s) (name : ByteArray) (hn : name.size ≤ maxLen) (len : Int) (hl0 : 0 ≤ len) (hl1 : len ≤ 140737488355328)
    (hin : num s.names name ≠ 0 → s.files (num s.names name) ≠ none) (hfl : ∀ n f, s.files n = some f → f.data.length ≤ 1099511627776) :
    Calls Tryd.prog 40 #[.pointer (some ⟨G.F, 0, none⟩), .string name, .int .i64 len] w fun e w' => e = .returned (.int .i64 (writeE s name len)) ∧ Below w.heap.size w w' := by
  unfold writeE
  cases hv : validB name
  · simpa using writeErr_bad h name hn len hv
  · cases hf : s.files (num s.names name) with
    | none =>
      have h0 : num s.names name = 0 := Classical.byContradiction fun h0 => hin h0 hf
      simpa using writeErr_none h hb name hn len hl0 hl1 hv h0
    | some f => simpa using writeErr_some h hb name hn len hl0 hl1 hv f hf (hfl _ f hf)

end Go.Proofs.YtbdbobikiikbgaaDoor
