/-
  A file system behind a list of operations; one file system beside other memory: the writes and Read.
-/
import Derived.Test.YtbdbobikiikbgaaDoorTold7
import Derived.Test.YtbdbobikiikbgaaDoorArmed
namespace Go.Proofs.YtbdbobikiikbgaaDoor
open Go.RowKit Go.WideMaps Go.Maps Go.Sort

def madeS (q : Int) (ops : List AOp) (k : Nat) : AS := (ops.take k).foldl (fun s o => (toldR s o).2) (newS q)
theorem madeS_succ (q : Int) {ops : List AOp} {k : Nat} {o : AOp} (h : ops[k]? = some o) : madeS q ops (k + 1) = (toldR (madeS q ops k) o).2 := by
  unfold madeS
  rw [List.take_add_one, h]; simp
theorem made_ok (q : Int) (ops : List AOp) (hs : (ops.map fun o => o.b.length).sum ≤ 1048576) (hn : ∀ (i : Nat) (o : AOp), ops[i]? = some o → o.n ≤ 9223372036854775807) : ∀ k, k ≤ ops.length → OK (madeS q ops k) k (sumB ops k)
  | 0, _ => by simpa [madeS, sumB] using ok_new q
  | k + 1, h => by
    obtain ⟨o, ho⟩ : ∃ o, ops[k]? = some o := ⟨ops[k]'(by omega), by simp⟩
    have ih := made_ok q ops hs hn k (by omega)
    have h1 := sumB_le ops (k + 1)
    have h2 := sumB_succ ho
    rw [madeS_succ q ho, h2]
    exact ih.told o (by omega) (hn k o ho)

theorem OpsAt.nle {w : World} {a : Option Addr} {ops : List AOp} (h : OpsAt w a ops) (i : Nat) (o : AOp) (ho : ops[i]? = some o) : o.n ≤ 9223372036854775807 := by
  obtain ⟨B, x, _, q⟩ := h i o ho
  exact q.nLe

structure MadeR (w wr : World) (F : Nat) (s : AS) : Prop where
  one : One (fun b => b < w.heap.size) wr F s
  below : Below w.heap.size w wr

set_option maxRecDepth 100000 in
set_option maxHeartbeats 1000000 in
theorem made_any (q : Int) (a : Option Addr) (len c : Nat) (ops : List AOp) (w : World) (hg : ∃ m, w.cell? ⟨0, 0, none⟩ = some (.int .i64 m)) (hlen : len = ops.length) (hc : len ≤ c) (hm : len ≤ 4000) (hops : OpsAt w a ops) (hsum : (ops.map fun o => o.b.length).sum ≤ 1048576) :
    Calls Tryd.prog 12 #[.int .i64 q, .slice a len c] w fun e w' => ∃ F, e = .returned (.pointer (some ⟨F, 0, none⟩)) ∧ MadeR w w' F (madeS q ops len) := by
  have HNW := hide (new_live q w hg)
  have HOK := hide (made_ok q ops hsum hops.nle)
  have HO := hide hops
  have HS := hide hsum
  have HL := hide hlen
  clear hg hops hsum hlen
  go_enter Tryd.func12, Tryd.ntmps12
  go_wp2_with (go_at_call 28; refine (unhide HNW).mono ?_; rintro e w1 ⟨F, rfl, hL⟩)
  have hst : MadeR w w1 F (madeS q ops 0) := ⟨hL.one, hL.bel⟩
  clear hL
  go_loopw [6] (fun i wr => ∃ k : Nat, k ≤ len ∧ i = .int .i64 k ∧ MadeR w wr F (madeS q ops k)) (fun i _ => len - (intOf i).toNat)
  case atStart => exact ⟨0, Nat.zero_le _, rfl, hst⟩
  case round =>
    obtain ⟨k, hk, rfl, hA⟩ := hrel
    clear hst
    by_cases hlt : k < len
    · obtain ⟨o, ho⟩ : ∃ o, ops[k]? = some o := ⟨ops[k]'(by rw [← unhide HL]; exact hlt), by simp⟩
      obtain ⟨B, x, rfl, q0⟩ := unhide HO k o ho
      obtain ⟨m0, m1, m2, m3, m4, m5⟩ := (q0.below hA.below).cells
      have hBs : sumB ops k + o.b.length ≤ 1048576 := by
        have h1 := sumB_le ops (k + 1)
        have h2 := sumB_succ ho
        have h3 := unhide HS
        omega
      have HT : Hid (Calls Tryd.prog 30 #[.pointer (some ⟨F, 0, none⟩), .agg #[.int .i64 o.kind, .int .i64 o.n, .int .i64 o.m, .string o.name, .string o.tgt, .slice o.ba o.b.length o.bc]] wr fun e w' => e = .returned (.int .i64 (toldR (madeS q ops k) o).1) ∧ One (fun b => b < w.heap.size) w' F (madeS q ops (k + 1)) ∧ Keep (fun b => b < w.heap.size) wr w') := by
        rw [madeS_succ q ho]
        exact told_one hA.one hA.below (fun _ h => h) (unhide HOK k (by have := unhide HL; omega)) (by omega) q0 hBs
      have HB := hide hA.below
      clear hA q0 ho
      go_wp2_with fail
      refine (unhide HT).mono ?_
      rintro e w2 ⟨rfl, hO2, hK2⟩
      have HNX : Hid (MadeR w w2 F (madeS q ops (k + 1))) := ⟨hO2, ((Keep.of_below (unhide HB) (fun _ h => h)).trans hK2).below⟩
      clear hO2 hK2
      go_wp2_with fail
      go_roundw
      case rel => exact ⟨k + 1, by omega, by go_num, unhide HNX⟩
      case measure => simp [intOf]; omega
    · have hkn : k = len := by omega
      subst hkn
      have HA := hide hA
      clear hA
      go_wp2_with fail
      go_ret
      exact ⟨F, rfl, unhide HA⟩

theorem crashS_rest (s : AS) (n e : Int) : (crashS s n e).pending = [] ∧ (crashS s n e).armed = 0 ∧ (crashS s n e).down = false := ⟨rfl, rfl, rfl⟩

theorem write_one {K : Nat → Prop} {w : World} {F : Nat} {s : AS} {k B : Nat} (h : One K w F s) (ok : OK s k B) (hk : k ≤ 4096) (hB : B ≤ 1048576) (name : ByteArray) (hn : name.size ≤ 1048576) {a : Option Addr} (c : Nat) (l : List UInt8) (hl : l.length ≤ 1048576) (hby : Bytes w a l.length l) (hK : ∀ ad, a = some ad → 0 < l.length → K ad.block) :
    Calls Tryd.prog 14 #[.pointer (some ⟨F, 0, none⟩), .string name, .slice a l.length c] w fun e w' => e = .returned (.int .i64 (writeR s name l).1) ∧ One K w' F (writeR s name l).2 ∧ Keep K w w' := by
  obtain ⟨G, rfl, t⟩ := h
  refine (write_rep t.r (ok.inv hB) name (by omega) c l hby (fun ad ha h0 => t.k _ (hK ad ha h0)) (by omega) (ok.room hk _ hl)).mono ?_
  rintro e w' ⟨G', rfl, hR, hW⟩
  obtain ⟨t', hk'⟩ := t.step hR hW
  exact ⟨rfl, ⟨G', hW.F, t'⟩, hk'⟩
theorem sync_one {K : Nat → Prop} {w : World} {F : Nat} {s : AS} {k B : Nat} (h : One K w F s) (ok : OK s k B) (hk : k ≤ 4096) (hB : B ≤ 1048576) (name : ByteArray) (hn : name.size ≤ 1048576) :
    Calls Tryd.prog 15 #[.pointer (some ⟨F, 0, none⟩), .string name] w fun e w' => e = .returned (.int .i64 (syncR s name).1) ∧ One K w' F (syncR s name).2 ∧ Keep K w w' := by
  obtain ⟨G, rfl, t⟩ := h
  refine (sync_rep t.r (ok.inv hB) name (by unfold maxLen; omega) (ok.bd hk)).mono ?_
  rintro e w' ⟨G', rfl, hR, hW⟩
  obtain ⟨t', hk'⟩ := t.step hR hW
  exact ⟨rfl, ⟨G', hW.F, t'⟩, hk'⟩
theorem syncDir_one {K : Nat → Prop} {w : World} {F : Nat} {s : AS} {k B : Nat} (h : One K w F s) (ok : OK s k B) (hk : k ≤ 4096) (d : ByteArray) (hn : d.size ≤ 1048576) :
    Calls Tryd.prog 16 #[.pointer (some ⟨F, 0, none⟩), .string d] w fun e w' => e = .returned (.int .i64 (syncDirR s d).1) ∧ One K w' F (syncDirR s d).2 ∧ Keep K w w' := by
  obtain ⟨G, rfl, t⟩ := h
  refine (syncDir_rep t.r d (by unfold maxLen; omega) (ok.room hk 0 (by omega))).mono ?_
  rintro e w' ⟨G', rfl, hR, hW⟩
  obtain ⟨t', hk'⟩ := t.step hR hW
  exact ⟨rfl, ⟨G', hW.F, t'⟩, hk'⟩
theorem rename_one {K : Nat → Prop} {w : World} {F : Nat} {s : AS} {k B : Nat} (h : One K w F s) (ok : OK s k B) (hk : k ≤ 4096) (hB : B ≤ 1048576) (fr tgt : ByteArray) (hf : fr.size ≤ 1048576) (ht : tgt.size ≤ 1048576) :
    Calls Tryd.prog 20 #[.pointer (some ⟨F, 0, none⟩), .string fr, .string tgt] w fun e w' => e = .returned (.int .i64 (renameR s fr tgt).1) ∧ One K w' F (renameR s fr tgt).2 ∧ Keep K w w' := by
  obtain ⟨G, rfl, t⟩ := h
  refine (rename_rep t.r (ok.inv hB) fr tgt (by omega) (by omega) (ok.room hk 0 (by omega))).mono ?_
  rintro e w' ⟨G', rfl, hR, hW⟩
  obtain ⟨t', hk'⟩ := t.step hR hW
  exact ⟨rfl, ⟨G', hW.F, t'⟩, hk'⟩
theorem arm_one {K : Nat → Prop} {w : World} {F : Nat} {s : AS} (h : One K w F s) (n : Int) :
    Calls Tryd.prog 19 #[.pointer (some ⟨F, 0, none⟩), .int .i64 n] w fun e w' => e = .returned (.tuple #[]) ∧ One K w' F { s with armed := max n 0 } ∧ Keep K w w' := by
  obtain ⟨G, rfl, t⟩ := h
  refine (arm_rep t.r n).mono ?_
  rintro e w' ⟨rfl, hR, hF⟩
  obtain ⟨t', hk'⟩ := t.step hR (Went.of_fr hF)
  exact ⟨rfl, ⟨G, rfl, t'⟩, hk'⟩
theorem row_cap {w : World} {base e sz n c : Nat} {a : Option Addr} {xs : List Value} (h : w.ownsRow base e sz (.slice a n c) n xs) : n ≤ c := by
  rcases h.2 with ⟨e1, e2⟩ | ⟨_, _, _, e1, _, _, e2, e3, _⟩
  · rw [e2]; omega
  · simp at e1
    obtain ⟨_, rfl⟩ := e1
    omega
theorem read_one {K : Nat → Prop} {w : World} {F : Nat} {s : AS} {k B : Nat} (h : One K w F s) (ok : OK s k B) (hB : B ≤ 1048576) (name : ByteArray) (hn : name.size ≤ 1048576) (h0 : num s.names name ≠ 0) (f : AF) (hf : s.files (num s.names name) = some f) :
    Calls Tryd.prog 21 #[.pointer (some ⟨F, 0, none⟩), .string name] w fun e w' => ∃ a c, e = .returned (.tuple #[.slice a f.data.length c, .int .i64 0]) ∧ Bytes w' a f.data.length f.data ∧ f.data.length ≤ c ∧ Below w.heap.size w w' := by
  obtain ⟨G, rfl, t⟩ := h
  have := ok.fl _ f hf
  refine (read_some t.r name (by unfold maxLen; omega) h0 f hf (by omega)).mono ?_
  rintro e w' ⟨a, c, rfl, hrow, hb⟩
  exact ⟨a, c, rfl, front_bytes hrow, row_cap hrow, hb⟩

end Go.Proofs.YtbdbobikiikbgaaDoor
