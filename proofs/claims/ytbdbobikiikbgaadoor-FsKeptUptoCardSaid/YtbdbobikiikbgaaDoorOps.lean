/-
  The writes as plain functions, and one contract for each; that a write keeps what the tables and files keep to.
-/
import Derived.Test.YtbdbobikiikbgaaDoorDurableW
namespace Go.Proofs.YtbdbobikiikbgaaDoor
open Go.RowKit Go.WideMaps Go.Maps Go.Sort

def writeR (s : AS) (name : ByteArray) (l : List UInt8) : Int × AS :=
  if beginE s (writeE s name l.length) = 0 then (0, wroteS (beginS s (writeE s name l.length)) name l) else (beginE s (writeE s name l.length), beginS s (writeE s name l.length))
def appendR (s : AS) (name : ByteArray) (l : List UInt8) : Int × AS :=
  if beginE s (appendE s name l.length) = 0 then
    (0, match s.files (num s.names name) with | some f => appendedS (beginS s (appendE s name l.length)) (num s.names name) f l | none => s)
  else (beginE s (appendE s name l.length), beginS s (appendE s name l.length))
def syncR (s : AS) (name : ByteArray) : Int × AS :=
  if beginE s (noneE s name) = 0 then
    (0, match s.files (num s.names name) with | some f => setFile (beginS s (noneE s name)) (num s.names name) ⟨f.data, f.data.length⟩ | none => s)
  else (beginE s (noneE s name), beginS s (noneE s name))
def removeR (s : AS) (name : ByteArray) : Int × AS :=
  if beginE s (noneE s name) = 0 then (0, alterS (beginS s (noneE s name)) (.drop name)) else (beginE s (noneE s name), beginS s (noneE s name))
def renameR (s : AS) (fr tgt : ByteArray) : Int × AS :=
  if beginE s (renameE s fr tgt) = 0 then (0, renamedS (beginS s (renameE s fr tgt)) fr tgt) else (beginE s (renameE s fr tgt), beginS s (renameE s fr tgt))
def syncDirR (s : AS) (d : ByteArray) : Int × AS :=
  if beginE s (syncDirE d) = 0 then (0, settleS (beginS s (syncDirE d)) (lastOf d s.pending s.pending.length)) else (beginE s (syncDirE d), beginS s (syncDirE d))

/-- There is room for one more write of n bytes. -/
structure Room (s : AS) (n : Nat) : Prop where
  bd : Bd s
  r1 : s.newest + 1 ≤ 1099511627776
  r2 : s.size + n ≤ 1099511627776
  r3 : s.steps + 1 ≤ 1099511627776

theorem write_rep {w : World} {G : Lie} {s : AS} (h : Rep w G s) (hi : Inv s) (name : ByteArray) (hn : name.size < 4611686018427387904) {a : Option Addr} (cp : Nat) (l : List UInt8) (hby : Bytes w a l.length l) (hbr : ∀ ad, a = some ad → 0 < l.length → G.role ad.block = none)
    (hl : l.length ≤ 1099511627776) (hr : Room s l.length) :
    Calls Tryd.prog 14 #[.pointer (some ⟨G.F, 0, none⟩), .string name, .slice a l.length cp] w fun e w' => ∃ G', e = .returned (.int .i64 (writeR s name l).1) ∧ Rep w' G' (writeR s name l).2 ∧ Went w G w' G' := by
  unfold writeR
  by_cases hE : beginE s (writeE s name l.length) = 0
  · rw [if_pos hE]
    exact (write_ok h hr.bd hi name hn cp l hby hbr hl hE hr.r1 hr.r2 hr.r3).mono (fun e w' ⟨G', h1, h2, h3, h4, h5⟩ => ⟨G', h1, h2, h3, h4, h5⟩)
  · rw [if_neg hE]
    exact (write_err h hr.bd hi name (by unfold maxLen; omega) cp hl hE).mono (fun e w' ⟨h1, h2, h3⟩ => ⟨G, h1, h2, Went.of_fr h3⟩)

theorem append_rep {w : World} {G : Lie} {s : AS} (h : Rep w G s) (hi : Inv s) (name : ByteArray) (hn : name.size ≤ maxLen) {a : Option Addr} (cp : Nat) (hcp : a = none → cp = 0) (l : List UInt8) (hby : Bytes w a l.length l) (hbr : ∀ ad, a = some ad → 0 < l.length → G.role ad.block = none)
    (hl : l.length ≤ 1099511627776) (hb : Bd s) :
    Calls Tryd.prog 32 #[.pointer (some ⟨G.F, 0, none⟩), .string name, .slice a l.length cp] w fun e w' => ∃ G', e = .returned (.int .i64 (appendR s name l).1) ∧ Rep w' G' (appendR s name l).2 ∧ Went w G w' G' := by
  unfold appendR
  by_cases hE : beginE s (appendE s name l.length) = 0
  · rw [if_pos hE]
    obtain ⟨f, hf⟩ := hi.get (append_zero (begin_zero hE).1).1
    rw [hf]
    exact append_ok h hb hi name hn cp hcp l hby hbr hl hE f hf
  · rw [if_neg hE]
    exact (append_err h hb name hn cp hl hE).mono (fun e w' ⟨h1, h2, h3⟩ => ⟨G, h1, h2, Went.of_fr h3⟩)

theorem sync_rep {w : World} {G : Lie} {s : AS} (h : Rep w G s) (hi : Inv s) (name : ByteArray) (hn : name.size ≤ maxLen) (hb : Bd s) :
    Calls Tryd.prog 15 #[.pointer (some ⟨G.F, 0, none⟩), .string name] w fun e w' => ∃ G', e = .returned (.int .i64 (syncR s name).1) ∧ Rep w' G' (syncR s name).2 ∧ Went w G w' G' := by
  unfold syncR
  by_cases hE : beginE s (noneE s name) = 0
  · rw [if_pos hE]
    obtain ⟨f, hf⟩ := hi.get (none_zero (begin_zero hE).1)
    rw [hf]
    exact sync_ok h hb hi name hn hE f hf
  · rw [if_neg hE]
    exact (sync_err h hb name hn hE).mono (fun e w' ⟨h1, h2, h3⟩ => ⟨G, h1, h2, Went.of_fr h3⟩)

theorem remove_rep {w : World} {G : Lie} {s : AS} (h : Rep w G s) (hi : Inv s) (name : ByteArray) (hn : name.size < 4611686018427387904) (hr : Room s 0) :
    Calls Tryd.prog 55 #[.pointer (some ⟨G.F, 0, none⟩), .string name] w fun e w' => ∃ G', e = .returned (.int .i64 (removeR s name).1) ∧ Rep w' G' (removeR s name).2 ∧ Went w G w' G' := by
  unfold removeR
  by_cases hE : beginE s (noneE s name) = 0
  · rw [if_pos hE]
    exact remove_ok h hr.bd hi name hn hE hr.r3
  · rw [if_neg hE]
    exact (remove_err h hr.bd name (by unfold maxLen; omega) hE).mono (fun e w' ⟨h1, h2, h3⟩ => ⟨G, h1, h2, Went.of_fr h3⟩)

theorem rename_rep {w : World} {G : Lie} {s : AS} (h : Rep w G s) (hi : Inv s) (fr tgt : ByteArray) (hf : fr.size < 4611686018427387904) (ht : tgt.size < 4611686018427387904) (hr : Room s 0) :
    Calls Tryd.prog 20 #[.pointer (some ⟨G.F, 0, none⟩), .string fr, .string tgt] w fun e w' => ∃ G', e = .returned (.int .i64 (renameR s fr tgt).1) ∧ Rep w' G' (renameR s fr tgt).2 ∧ Went w G w' G' := by
  unfold renameR
  by_cases hE : beginE s (renameE s fr tgt) = 0
  · rw [if_pos hE]
    exact rename_ok h hr.bd hi fr tgt hf ht hE hr.r3
  · rw [if_neg hE]
    exact (rename_err h hr.bd fr tgt (by unfold maxLen; omega) (by unfold maxLen; omega) hE).mono (fun e w' ⟨h1, h2, h3⟩ => ⟨G, h1, h2, Went.of_fr h3⟩)

theorem syncDir_rep {w : World} {G : Lie} {s : AS} (h : Rep w G s) (d : ByteArray) (hd : d.size ≤ maxLen) (hr : Room s 0) :
    Calls Tryd.prog 16 #[.pointer (some ⟨G.F, 0, none⟩), .string d] w fun e w' => ∃ G', e = .returned (.int .i64 (syncDirR s d).1) ∧ Rep w' G' (syncDirR s d).2 ∧ Went w G w' G' := by
  unfold syncDirR
  by_cases hE : beginE s (syncDirE d) = 0
  · rw [if_pos hE]
    exact syncDir_ok h hr.bd d hd hE hr.r3
  · rw [if_neg hE]
    exact (syncDir_err h hr.bd d hd hE).mono (fun e w' ⟨h1, h2, h3⟩ => ⟨G, h1, h2, Went.of_fr h3⟩)

/- Numbers of a table behind a change. -/
theorem num_put_same {D : DataW Unit} (h : IsMap D) (s : ByteArray) (x : Int) : num (D.put (key s) (i64 x)) s = x := by
  unfold num key
  rw [atKey_put_same h (keyStr _)]
theorem num_put_other {D : DataW Unit} {s t : ByteArray} (hne : t.data.toList ≠ s.data.toList) (x : Int) : num (D.put (key s) (i64 x)) t = num D t := by
  unfold num key
  rw [atKey_put_other (by simpa using hne)]
theorem num_del_same {D : DataW Unit} (s : ByteArray) : num (D.del (key s)) s = 0 := by
  unfold num key
  rw [atKey_del_same]
theorem num_del_other {D : DataW Unit} {s t : ByteArray} (hne : t.data.toList ≠ s.data.toList) : num (D.del (key s)) t = num D t := by
  unfold num key
  rw [atKey_del_other (by simpa using hne)]
theorem num_congr {D : DataW Unit} {s t : ByteArray} (h : t.data.toList = s.data.toList) : num D t = num D s := by unfold num; rw [h]

theorem Inv.wrote {s : AS} (hi : Inv s) (hN : IsMap s.names) (h0 : 0 ≤ s.newest) (name : ByteArray) (l : List UInt8) (hl : l.length ≤ 1099511627776) : Inv (wroteS s name l) := by
  have hx : s.newest + 1 ≠ 0 := by omega
  have k := hi.filed (s.newest + 1) l (s.newest + 1) (s.size + l.length) hx hl
  refine ⟨fun nm h => ?_, k.durable, k.zero, k.len⟩
  show (if num (s.names.put (key name) (i64 (s.newest + 1))) nm = s.newest + 1 then some (⟨l, 0⟩ : AF) else s.files (num (s.names.put (key name) (i64 (s.newest + 1))) nm)) ≠ none
  split
  · simp
  · rename_i hne
    by_cases e : nm.data.toList = name.data.toList
    · exact absurd ((num_congr e).trans (num_put_same hN name _)) hne
    · have h' : num (s.names.put (key name) (i64 (s.newest + 1))) nm ≠ 0 := h
      rw [num_put_other e] at h' ⊢
      exact hi.names nm h'

end Go.Proofs.YtbdbobikiikbgaaDoor
