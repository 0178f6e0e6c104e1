/-
  The contract of told, at an operation that is no crash.
-/
import Derived.Test.YtbdbobikiikbgaaDoorFew
import Derived.Test.YtbdbobikiikbgaaDoorFirst
namespace Go.Proofs.YtbdbobikiikbgaaDoor
open Go.RowKit Go.WideMaps Go.Maps Go.Sort

def AOp.val (o : AOp) : Value := .agg #[.int .i64 o.kind, .int .i64 o.n, .int .i64 o.m, .string o.name, .string o.tgt, .slice o.ba o.b.length o.bc]

theorem role_new {w : World} {G : Lie} {s : AS} (h : Rep w G s) : G.role w.heap.size = none :=
  Classical.byContradiction fun hn => absurd (h.lt w.heap.size hn) (Nat.lt_irrefl _)

/-- Behind a new block that no one else has. -/
theorem Went.alloc {w w' : World} {G G' : Lie} {o : Obj} (h : Went (w.alloc o) G w' G') : Went w G w' G' := by
  have hb : Below w.heap.size w (w.alloc o) := (Below.refl _ _).alloc (Nat.le_refl _) _
  exact (Went.of_fr (Fr.of_below hb)).trans h

theorem below_box (w : World) (o : Obj) : Below w.heap.size w (w.alloc o) := (Below.refl _ _).alloc (Nat.le_refl _) _

set_option maxRecDepth 100000 in
set_option maxHeartbeats 1000000 in
theorem told_0 {w : World} {G : Lie} {s : AS} {k B : Nat} (h : Rep w G s) (ok : OK s k B) (hk : k ≤ 4095) (n m : Int) (name tgt : ByteArray) (ba : Option Addr) (bc : Nat) (l : List UInt8) (hB : B + l.length ≤ 1048576) (hn : name.size ≤ 1048576) (hby : Bytes w ba l.length l) (hbr : ∀ ad, ba = some ad → 0 < l.length → G.role ad.block = none) :
    Calls Tryd.prog 30 #[.pointer (some ⟨G.F, 0, none⟩), .agg #[.int .i64 0, .int .i64 n, .int .i64 m, .string name, .string tgt, .slice ba l.length bc]] w fun e w' => ∃ G', e = .returned (.int .i64 (writeR s name l).1) ∧ Rep w' G' (writeR s name l).2 ∧ Went w G w' G' := by
  have HC := hide (show Calls Tryd.prog 14 _ (w.alloc (.cells #[.int .i64 0, .int .i64 n, .int .i64 m, .string name, .string tgt, .slice ba l.length bc] 50 (0, 0))) _ from (write_rep (h.below (below_box w _)) (ok.inv (by omega)) name (by omega) bc l (bytes_below hby (below_box w _)) hbr (by omega) (ok.room (by omega) l.length (by omega))))
  clear h ok hby hbr
  go_enter Tryd.func30, Tryd.ntmps30
  go_wp2_with (first
    | (go_at_call 14; refine (unhide HC).mono ?_; rintro e w2 ⟨G2, rfl, hR2, hW2⟩)
    | (go_at_call 18; refine (num_any _ _).mono ?_; rintro e w9 ⟨rfl, rfl⟩))
  go_ret
  exact ⟨G2, rfl, hR2, Went.alloc hW2⟩

set_option maxRecDepth 100000 in
set_option maxHeartbeats 1000000 in
theorem told_1 {w : World} {G : Lie} {s : AS} {k B : Nat} (h : Rep w G s) (ok : OK s k B) (hk : k ≤ 4095) (n m : Int) (name tgt : ByteArray) (ba : Option Addr) (bc : Nat) (l : List UInt8) (hB : B + l.length ≤ 1048576) (hn : name.size ≤ 1048576) (hby : Bytes w ba l.length l) (hnil : ba = none → bc = 0) (hbr : ∀ ad, ba = some ad → 0 < l.length → G.role ad.block = none) :
    Calls Tryd.prog 30 #[.pointer (some ⟨G.F, 0, none⟩), .agg #[.int .i64 1, .int .i64 n, .int .i64 m, .string name, .string tgt, .slice ba l.length bc]] w fun e w' => ∃ G', e = .returned (.int .i64 (appendR s name l).1) ∧ Rep w' G' (appendR s name l).2 ∧ Went w G w' G' := by
  have HC := hide (show Calls Tryd.prog 32 _ (w.alloc (.cells #[.int .i64 1, .int .i64 n, .int .i64 m, .string name, .string tgt, .slice ba l.length bc] 50 (0, 0))) _ from (append_rep (h.below (below_box w _)) (ok.inv (by omega)) name (by unfold maxLen; omega) bc hnil l (bytes_below hby (below_box w _)) hbr (by omega) (ok.bd (by omega))))
  clear h ok hby hbr hnil
  go_enter Tryd.func30, Tryd.ntmps30
  go_wp2_with (first
    | (go_at_call 32; refine (unhide HC).mono ?_; rintro e w2 ⟨G2, rfl, hR2, hW2⟩)
    | (go_at_call 18; refine (num_any _ _).mono ?_; rintro e w9 ⟨rfl, rfl⟩))
  go_ret
  exact ⟨G2, rfl, hR2, Went.alloc hW2⟩

set_option maxRecDepth 100000 in
set_option maxHeartbeats 1000000 in
theorem told_2 {w : World} {G : Lie} {s : AS} {k B : Nat} (h : Rep w G s) (ok : OK s k B) (hk : k ≤ 4095) (n m : Int) (name tgt : ByteArray) (ba : Option Addr) (bc : Nat) (l : List UInt8) (hB : B + l.length ≤ 1048576) (hn : name.size ≤ 1048576) :
    Calls Tryd.prog 30 #[.pointer (some ⟨G.F, 0, none⟩), .agg #[.int .i64 2, .int .i64 n, .int .i64 m, .string name, .string tgt, .slice ba l.length bc]] w fun e w' => ∃ G', e = .returned (.int .i64 (syncR s name).1) ∧ Rep w' G' (syncR s name).2 ∧ Went w G w' G' := by
  have HC := hide (show Calls Tryd.prog 15 _ (w.alloc (.cells #[.int .i64 2, .int .i64 n, .int .i64 m, .string name, .string tgt, .slice ba l.length bc] 50 (0, 0))) _ from (sync_rep (h.below (below_box w _)) (ok.inv (by omega)) name (by unfold maxLen; omega) (ok.bd (by omega))))
  clear h ok
  go_enter Tryd.func30, Tryd.ntmps30
  go_wp2_with (first
    | (go_at_call 15; refine (unhide HC).mono ?_; rintro e w2 ⟨G2, rfl, hR2, hW2⟩)
    | (go_at_call 18; refine (num_any _ _).mono ?_; rintro e w9 ⟨rfl, rfl⟩))
  go_ret
  exact ⟨G2, rfl, hR2, Went.alloc hW2⟩

set_option maxRecDepth 100000 in
set_option maxHeartbeats 1000000 in
theorem told_3 {w : World} {G : Lie} {s : AS} {k B : Nat} (h : Rep w G s) (ok : OK s k B) (hk : k ≤ 4095) (n m : Int) (name tgt : ByteArray) (ba : Option Addr) (bc : Nat) (l : List UInt8) (hB : B + l.length ≤ 1048576) (hn : name.size ≤ 1048576) (ht : tgt.size ≤ 1048576) :
    Calls Tryd.prog 30 #[.pointer (some ⟨G.F, 0, none⟩), .agg #[.int .i64 3, .int .i64 n, .int .i64 m, .string name, .string tgt, .slice ba l.length bc]] w fun e w' => ∃ G', e = .returned (.int .i64 (renameR s name tgt).1) ∧ Rep w' G' (renameR s name tgt).2 ∧ Went w G w' G' := by
  have HC := hide (show Calls Tryd.prog 20 _ (w.alloc (.cells #[.int .i64 3, .int .i64 n, .int .i64 m, .string name, .string tgt, .slice ba l.length bc] 50 (0, 0))) _ from (rename_rep (h.below (below_box w _)) (ok.inv (by omega)) name tgt (by omega) (by omega) (ok.room (by omega) 0 (by omega))))
  clear h ok
  go_enter Tryd.func30, Tryd.ntmps30
  go_wp2_with (first
    | (go_at_call 20; refine (unhide HC).mono ?_; rintro e w2 ⟨G2, rfl, hR2, hW2⟩)
    | (go_at_call 18; refine (num_any _ _).mono ?_; rintro e w9 ⟨rfl, rfl⟩))
  go_ret
  exact ⟨G2, rfl, hR2, Went.alloc hW2⟩

set_option maxRecDepth 100000 in
set_option maxHeartbeats 1000000 in
theorem told_4 {w : World} {G : Lie} {s : AS} {k B : Nat} (h : Rep w G s) (ok : OK s k B) (hk : k ≤ 4095) (n m : Int) (name tgt : ByteArray) (ba : Option Addr) (bc : Nat) (l : List UInt8) (hB : B + l.length ≤ 1048576) (hn : name.size ≤ 1048576) :
    Calls Tryd.prog 30 #[.pointer (some ⟨G.F, 0, none⟩), .agg #[.int .i64 4, .int .i64 n, .int .i64 m, .string name, .string tgt, .slice ba l.length bc]] w fun e w' => ∃ G', e = .returned (.int .i64 (removeR s name).1) ∧ Rep w' G' (removeR s name).2 ∧ Went w G w' G' := by
  have HC := hide (show Calls Tryd.prog 55 _ (w.alloc (.cells #[.int .i64 4, .int .i64 n, .int .i64 m, .string name, .string tgt, .slice ba l.length bc] 50 (0, 0))) _ from (remove_rep (h.below (below_box w _)) (ok.inv (by omega)) name (by omega) (ok.room (by omega) 0 (by omega))))
  clear h ok
  go_enter Tryd.func30, Tryd.ntmps30
  go_wp2_with (first
    | (go_at_call 55; refine (unhide HC).mono ?_; rintro e w2 ⟨G2, rfl, hR2, hW2⟩)
    | (go_at_call 18; refine (num_any _ _).mono ?_; rintro e w9 ⟨rfl, rfl⟩))
  go_ret
  exact ⟨G2, rfl, hR2, Went.alloc hW2⟩

set_option maxRecDepth 100000 in
set_option maxHeartbeats 1000000 in
theorem told_5 {w : World} {G : Lie} {s : AS} {k B : Nat} (h : Rep w G s) (ok : OK s k B) (hk : k ≤ 4095) (n m : Int) (name tgt : ByteArray) (ba : Option Addr) (bc : Nat) (l : List UInt8) (hn : name.size ≤ 1048576) :
    Calls Tryd.prog 30 #[.pointer (some ⟨G.F, 0, none⟩), .agg #[.int .i64 5, .int .i64 n, .int .i64 m, .string name, .string tgt, .slice ba l.length bc]] w fun e w' => ∃ G', e = .returned (.int .i64 (syncDirR s name).1) ∧ Rep w' G' (syncDirR s name).2 ∧ Went w G w' G' := by
  have HC := hide (show Calls Tryd.prog 16 _ (w.alloc (.cells #[.int .i64 5, .int .i64 n, .int .i64 m, .string name, .string tgt, .slice ba l.length bc] 50 (0, 0))) _ from (syncDir_rep (h.below (below_box w _)) name (by unfold maxLen; omega) (ok.room (by omega) 0 (by omega))))
  clear h ok
  go_enter Tryd.func30, Tryd.ntmps30
  go_wp2_with (first
    | (go_at_call 16; refine (unhide HC).mono ?_; rintro e w2 ⟨G2, rfl, hR2, hW2⟩)
    | (go_at_call 18; refine (num_any _ _).mono ?_; rintro e w9 ⟨rfl, rfl⟩))
  go_ret
  exact ⟨G2, rfl, hR2, Went.alloc hW2⟩

set_option maxRecDepth 100000 in
set_option maxHeartbeats 1000000 in
theorem told_6 {w : World} {G : Lie} {s : AS} (h : Rep w G s) (n m : Int) (name tgt : ByteArray) (ba : Option Addr) (bc : Nat) (l : List UInt8) :
    Calls Tryd.prog 30 #[.pointer (some ⟨G.F, 0, none⟩), .agg #[.int .i64 6, .int .i64 n, .int .i64 m, .string name, .string tgt, .slice ba l.length bc]] w fun e w' => ∃ G', e = .returned (.int .i64 0) ∧ Rep w' G' { s with armed := max n 0 } ∧ Went w G w' G' := by
  have HC := hide (show Calls Tryd.prog 19 _ (w.alloc (.cells #[.int .i64 6, .int .i64 n, .int .i64 m, .string name, .string tgt, .slice ba l.length bc] 50 (0, 0))) _ from arm_rep (h.below (below_box w _)) n)
  clear h
  go_enter Tryd.func30, Tryd.ntmps30
  go_wp2_with (go_at_call 19; refine (unhide HC).mono ?_; rintro e w2 ⟨rfl, hR2, hF2⟩)
  go_ret
  exact ⟨G, rfl, hR2, Went.alloc (Went.of_fr hF2)⟩

set_option maxRecDepth 100000 in
set_option maxHeartbeats 1000000 in
theorem told_no {w : World} {G : Lie} {s : AS} (h : Rep w G s) (kd n m : Int) (name tgt : ByteArray) (ba : Option Addr) (bc : Nat) (l : List UInt8) (hkd : kd < 0 ∨ 7 < kd) :
    Calls Tryd.prog 30 #[.pointer (some ⟨G.F, 0, none⟩), .agg #[.int .i64 kd, .int .i64 n, .int .i64 m, .string name, .string tgt, .slice ba l.length bc]] w fun e w' => ∃ G', e = .returned (.int .i64 0) ∧ Rep w' G' s ∧ Went w G w' G' := by
  have HB := hide (below_box w (.cells #[.int .i64 kd, .int .i64 n, .int .i64 m, .string name, .string tgt, .slice ba l.length bc] 50 (0, 0)))
  have HR := hide (h.below (unhide HB))
  have q0 : (kd == 0) = false := by simp; omega
  have q1 : (kd == 1) = false := by simp; omega
  have q2 : (kd == 2) = false := by simp; omega
  have q3 : (kd == 3) = false := by simp; omega
  have q4 : (kd == 4) = false := by simp; omega
  have q5 : (kd == 5) = false := by simp; omega
  have q6 : (kd == 6) = false := by simp; omega
  have q7 : (kd == 7) = false := by simp; omega
  clear h hkd
  go_enter Tryd.func30, Tryd.ntmps30
  go_wp2
  go_ret
  exact ⟨G, rfl, unhide HR, Went.of_fr (Fr.of_below (unhide HB))⟩

theorem told_rep {w : World} {G : Lie} {s : AS} {k B : Nat} (h : Rep w G s) (ok : OK s k B) (hk : k ≤ 4095) (o : AOp) (hB : B + o.b.length ≤ 1048576) (hn : o.name.size ≤ 1048576) (ht : o.tgt.size ≤ 1048576)
    (hby : Bytes w o.ba o.b.length o.b) (hnil : o.ba = none → o.bc = 0) (hbr : ∀ ad, o.ba = some ad → 0 < o.b.length → G.role ad.block = none) (h7 : o.kind ≠ 7) :
    Calls Tryd.prog 30 #[.pointer (some ⟨G.F, 0, none⟩), o.val] w fun e w' => ∃ G', e = .returned (.int .i64 (toldR s o).1) ∧ Rep w' G' (toldR s o).2 ∧ Went w G w' G' := by
  obtain ⟨kd, n, m, name, tgt, ba, bc, l⟩ := o
  simp only [AOp.val] at *
  by_cases e0 : kd = 0
  · subst e0; exact told_0 h ok hk n m name tgt ba bc l hB hn hby hbr
  by_cases e1 : kd = 1
  · subst e1; exact told_1 h ok hk n m name tgt ba bc l hB hn hby hnil hbr
  by_cases e2 : kd = 2
  · subst e2; exact told_2 h ok hk n m name tgt ba bc l hB hn
  by_cases e3 : kd = 3
  · subst e3; exact told_3 h ok hk n m name tgt ba bc l hB hn ht
  by_cases e4 : kd = 4
  · subst e4; exact told_4 h ok hk n m name tgt ba bc l hB hn
  by_cases e5 : kd = 5
  · subst e5; exact told_5 h ok hk n m name tgt ba bc l hn
  by_cases e6 : kd = 6
  · subst e6; exact told_6 h n m name tgt ba bc l
  have := told_no h kd n m name tgt ba bc l (by omega)
  unfold toldR
  simp only [e0, e1, e2, e3, e4, e5, e6, h7, if_false]
  exact this

end Go.Proofs.YtbdbobikiikbgaaDoor
