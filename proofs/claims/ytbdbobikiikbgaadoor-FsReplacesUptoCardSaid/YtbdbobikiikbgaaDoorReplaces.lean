/-
  The contract of FsReplaces: it answers true, and nothing that was there has turned.
-/
import Derived.Test.YtbdbobikiikbgaaDoorMade
import Derived.Test.YtbdbobikiikbgaaDoorReplS
namespace Go.Proofs.YtbdbobikiikbgaaDoor
open Go.RowKit Go.WideMaps Go.Maps Go.Sort

theorem bytes_lt {w : World} {a : Option Addr} {l : List UInt8} (h : Bytes w a l.length l) (ad : Addr) (ha : a = some ad) (h0 : 0 < l.length) : ad.block < w.heap.size := by
  have := lt_of_cell (h.cell ad ha 0 h0)
  have eb : (ad.add 0).block = ad.block := by unfold Addr.add; split <;> rfl
  rwa [eb] at this

theorem crash_made {w3 W : World} {F : Nat} {s : AS} {k B : Nat} (h : MadeR w3 W F s) (ok : OK s k B) (hk : k ≤ 4096) (hB : B ≤ 1048576) (n e : Int) :
    Calls Tryd.prog 13 #[.pointer (some ⟨F, 0, none⟩), .int .i64 n, .int .i64 e] W fun en w' => en = .returned (.tuple #[]) ∧ MadeR w3 w' F (crashS s n e) :=
  (crash_one h.one ok hk hB n e).mono fun _ _ ⟨h1, h2, h3⟩ => ⟨h1, h2, ((Keep.of_below h.below (fun _ h => h)).trans h3).below⟩
theorem write_made {w3 W : World} {F : Nat} {s : AS} {k B : Nat} (h : MadeR w3 W F s) (ok : OK s k B) (hk : k ≤ 4096) (hB : B ≤ 1048576) (name : ByteArray) (hn : name.size ≤ 1048576) {a : Option Addr} (c : Nat) (l : List UInt8) (hl : l.length ≤ 1048576) (hby : Bytes w3 a l.length l) :
    Calls Tryd.prog 14 #[.pointer (some ⟨F, 0, none⟩), .string name, .slice a l.length c] W fun e w' => e = .returned (.int .i64 (writeR s name l).1) ∧ MadeR w3 w' F (writeR s name l).2 :=
  (write_one h.one ok hk hB name hn c l hl (bytes_below hby h.below) (bytes_lt hby)).mono fun _ _ ⟨h1, h2, h3⟩ => ⟨h1, h2, ((Keep.of_below h.below (fun _ h => h)).trans h3).below⟩
theorem sync_made {w3 W : World} {F : Nat} {s : AS} {k B : Nat} (h : MadeR w3 W F s) (ok : OK s k B) (hk : k ≤ 4096) (hB : B ≤ 1048576) (name : ByteArray) (hn : name.size ≤ 1048576) :
    Calls Tryd.prog 15 #[.pointer (some ⟨F, 0, none⟩), .string name] W fun e w' => e = .returned (.int .i64 (syncR s name).1) ∧ MadeR w3 w' F (syncR s name).2 :=
  (sync_one h.one ok hk hB name hn).mono fun _ _ ⟨h1, h2, h3⟩ => ⟨h1, h2, ((Keep.of_below h.below (fun _ h => h)).trans h3).below⟩
theorem syncDir_made {w3 W : World} {F : Nat} {s : AS} {k B : Nat} (h : MadeR w3 W F s) (ok : OK s k B) (hk : k ≤ 4096) (d : ByteArray) (hn : d.size ≤ 1048576) :
    Calls Tryd.prog 16 #[.pointer (some ⟨F, 0, none⟩), .string d] W fun e w' => e = .returned (.int .i64 (syncDirR s d).1) ∧ MadeR w3 w' F (syncDirR s d).2 :=
  (syncDir_one h.one ok hk d hn).mono fun _ _ ⟨h1, h2, h3⟩ => ⟨h1, h2, ((Keep.of_below h.below (fun _ h => h)).trans h3).below⟩
theorem rename_made {w3 W : World} {F : Nat} {s : AS} {k B : Nat} (h : MadeR w3 W F s) (ok : OK s k B) (hk : k ≤ 4096) (hB : B ≤ 1048576) (fr tgt : ByteArray) (hf : fr.size ≤ 1048576) (ht : tgt.size ≤ 1048576) :
    Calls Tryd.prog 20 #[.pointer (some ⟨F, 0, none⟩), .string fr, .string tgt] W fun e w' => e = .returned (.int .i64 (renameR s fr tgt).1) ∧ MadeR w3 w' F (renameR s fr tgt).2 :=
  (rename_one h.one ok hk hB fr tgt hf ht).mono fun _ _ ⟨h1, h2, h3⟩ => ⟨h1, h2, ((Keep.of_below h.below (fun _ h => h)).trans h3).below⟩
theorem arm_made {w3 W : World} {F : Nat} {s : AS} (h : MadeR w3 W F s) (n : Int) :
    Calls Tryd.prog 19 #[.pointer (some ⟨F, 0, none⟩), .int .i64 n] W fun e w' => e = .returned (.tuple #[]) ∧ MadeR w3 w' F { s with armed := max n 0 } :=
  (arm_one h.one n).mono fun _ _ ⟨h1, h2, h3⟩ => ⟨h1, h2, ((Keep.of_below h.below (fun _ h => h)).trans h3).below⟩

theorem dir_size (s : ByteArray) : (dirB s).size ≤ s.size := by
  unfold dirB
  split
  · exact Nat.zero_le _
  · exact extract_size_le _ _ _

def tmpB (name : ByteArray) : ByteArray := name ++ ⟨#[46, 116, 109, 112]⟩
theorem tmp_size (name : ByteArray) : (tmpB name).size = name.size + 4 := by
  unfold tmpB
  rw [ByteArray.size_append]; rfl
theorem tmp_ne (name : ByteArray) : (tmpB name).data.toList ≠ name.data.toList := by
  intro h
  have h1 := congrArg List.length h
  rw [bytes_len, bytes_len, tmp_size] at h1
  omega

set_option maxRecDepth 100000 in
set_option maxHeartbeats 8000000 in
theorem replaces_any (q : Int) (a : Option Addr) (len c : Nat) (ops : List AOp) (name : ByteArray) (oa : Option Addr) (oc : Nat) (old : List UInt8) (fa : Option Addr) (fc : Nat) (fresh : List UInt8) (ar nm by_ : Int) (w : World) (hg : ∃ m, w.cell? ⟨0, 0, none⟩ = some (.int .i64 m)) (hlen : len = ops.length) (hc : len ≤ c) (hm : len ≤ 9223372036854775807) (hops : OpsAt w a ops)
    (hsum : (ops.map fun o => o.b.length).sum + old.length + fresh.length ≤ 1048576) (hnm : name.size ≤ 1048576) (hob : Bytes w oa old.length old) (hoc : old.length ≤ oc) (hfb : Bytes w fa fresh.length fresh) (hfc : fresh.length ≤ fc) (har : ar ≤ 9223372036854775807) :
    Calls Tryd.prog 3 #[.int .i64 q, .slice a len c, .string name, .slice oa old.length oc, .slice fa fresh.length fc, .int .i64 ar, .int .i64 nm, .int .i64 by_] w fun e w' => e = .returned (.bool true) ∧ Below w.heap.size w w' := by
  have HF := hide (first_any w hg)
  have HG := hide hg
  have HO := hide hops
  have HS := hide hsum
  have HL := hide hlen
  have HOB := hide hob
  have HFB := hide hfb
  have HNM := hide hnm
  clear hg hops hsum hlen hob hfb
  go_enter Tryd.func3, Tryd.ntmps3
  go_wp2_with (go_at_call 9; refine (unhide HF).mono ?_; rintro e w1 ⟨rfl, hB1⟩)
  have hO1 : OpsAt w1 a ops := fun i o ho => by
    obtain ⟨B, x, e, q⟩ := unhide HO i o ho
    exact ⟨B, x, e, q.below hB1⟩
  refine (few_any (unhide HL) hc hm hO1).mono ?_
  rintro e w2 ⟨⟨r, rfl, hr⟩, nq, hw2⟩
  have hB2 : Below w.heap.size w w2 := by rw [hw2]; exact ⟨hB1.os, hB1.tape, hB1.output, hB1.size, hB1.block⟩
  have HB2 := hide hB2
  clear hB1 hO1 hw2
  cases r with
  | false =>
    clear hr hB2
    go_wp2
    go_ret
    exact ⟨rfl, unhide HB2⟩
  | true =>
    have h300 := hr rfl
    clear hr
    have HNEW : Hid (∀ W, Below w.heap.size w W → ∃ m, W.cell? ⟨0, 0, none⟩ = some (.int .i64 m)) := by
      intro W hb
      obtain ⟨m, hm⟩ := unhide HG
      exact ⟨m, (hb.cell (lt_of_cell hm)).trans hm⟩
    clear hB2
    by_cases ho20 : (20000 : Int) < (old.length : Int)
    · go_wp2
      go_ret
      exact ⟨rfl, unhide HB2⟩
    by_cases hf20 : (20000 : Int) < (fresh.length : Int)
    · go_wp2
      go_ret
      exact ⟨rfl, unhide HB2⟩
    by_cases hn2 : (200 : Int) < (name.size : Int)
    · go_wp2
      go_ret
      exact ⟨rfl, unhide HB2⟩
    obtain ⟨gm, hgm⟩ := unhide HNEW _ (unhide HB2)
    have HVA := hide (valid_any name w2 gm (by unfold maxLen; omega) hgm)
    clear hgm
    obtain ⟨vb, hvb⟩ : ∃ vb, vb = validB name := ⟨_, rfl⟩
    rw [← hvb] at HVA
    cases vb with
    | false =>
      clear hvb
      go_wp2_with fail
      refine (unhide HVA).mono ?_
      rintro e w3 ⟨rfl, hB3⟩
      have HB3 := hide ((unhide HB2).trans (hB3.mono (unhide HB2).size))
      clear hB3
      go_wp2
      go_ret
      exact ⟨rfl, unhide HB3⟩
    | true =>
      have hv := hvb.symm
      clear hvb
      go_wp2_with fail
      refine (unhide HVA).mono ?_
      rintro e w3 ⟨rfl, hB3⟩
      have hB3' := (unhide HB2).trans (hB3.mono (unhide HB2).size)
      have HB3 := hide hB3'
      have hO3 : OpsAt w3 a ops := fun i o ho => by
        obtain ⟨B, x, e, q⟩ := unhide HO i o ho
        exact ⟨B, x, e, q.below hB3'⟩
      have hob3 := bytes_below (unhide HOB) hB3'
      have hfb3 := bytes_below (unhide HFB) hB3'
      have hsum' := unhide HS
      have HMA := hide (made_any q a len c ops w3 (unhide HNEW _ hB3') (unhide HL) hc (by omega) hO3 (by omega))
      have ok0 := made_ok q ops (by omega) hO3.nle len (by have := unhide HL; omega)
      have okB : OK (madeS q ops len) len (ops.map fun o => o.b.length).sum := ok0.mono (Nat.le_refl _) (sumB_le ops len)
      obtain ⟨b0, hb0⟩ : ∃ b0, b0 = (ops.map fun o => o.b.length).sum := ⟨_, rfl⟩
      rw [← hb0] at okB hsum'
      obtain ⟨s0, hs0⟩ : ∃ s0, s0 = madeS q ops len := ⟨_, rfl⟩
      rw [← hs0] at okB HMA
      clear ok0 hB3 hB3' hb0 hs0 HVA
      have okC := okB.crash (by omega) 1000 1000000
      have hrest := crashS_rest s0 1000 1000000
      have HCR : Hid (∀ W F, MadeR w3 W F s0 → Calls Tryd.prog 13 #[.pointer (some ⟨F, 0, none⟩), .int .i64 1000, .int .i64 1000000] W fun en w' => en = .returned (.tuple #[]) ∧ MadeR w3 w' F (crashS s0 1000 1000000)) :=
        fun W F h => crash_made h okB (by omega) (by omega) _ _
      obtain ⟨s1, hs1⟩ : ∃ s1, s1 = crashS s0 1000 1000000 := ⟨_, rfl⟩
      rw [← hs1] at okC hrest HCR
      clear okB hs1
      have hfirst := stand_first okC hrest.1 hrest.2.1 hrest.2.2 name hv old (by omega)
      have okW := okC.write name old (by omega)
      have okY := okW.sync name (by omega)
      have okD := okY.syncDir (dirB name)
      have hds : (dirB name).size ≤ 1048576 := Nat.le_trans (dir_size name) (unhide HNM)
      have HW1 : Hid (∀ W F, MadeR w3 W F s1 → Calls Tryd.prog 14 #[.pointer (some ⟨F, 0, none⟩), .string name, .slice oa old.length oc] W fun e w' => e = .returned (.int .i64 (writeR s1 name old).1) ∧ MadeR w3 w' F (writeR s1 name old).2) :=
        fun W F h => write_made h okC (by omega) (by omega) name (unhide HNM) oc old (by omega) hob3
      obtain ⟨W1, hW1⟩ : ∃ W1, W1 = writeR s1 name old := ⟨_, rfl⟩
      rw [← hW1] at hfirst okW okY okD HW1
      obtain ⟨e1, S1⟩ := W1
      have HY1 : Hid (∀ W F, MadeR w3 W F S1 → Calls Tryd.prog 15 #[.pointer (some ⟨F, 0, none⟩), .string name] W fun e w' => e = .returned (.int .i64 (syncR S1 name).1) ∧ MadeR w3 w' F (syncR S1 name).2) :=
        fun W F h => sync_made h okW (by omega) (by omega) name (unhide HNM)
      obtain ⟨Y1, hY1⟩ : ∃ Y1, Y1 = syncR S1 name := ⟨_, rfl⟩
      simp only at hfirst okY okD
      rw [← hY1] at hfirst okY okD HY1
      obtain ⟨e2, S2⟩ := Y1
      have HD1 : Hid (∀ W F, MadeR w3 W F S2 → Calls Tryd.prog 16 #[.pointer (some ⟨F, 0, none⟩), .string (dirB name)] W fun e w' => e = .returned (.int .i64 (syncDirR S2 (dirB name)).1) ∧ MadeR w3 w' F (syncDirR S2 (dirB name)).2) :=
        fun W F h => syncDir_made h okY (by omega) (dirB name) hds
      obtain ⟨D1, hD1⟩ : ∃ D1, D1 = syncDirR S2 (dirB name) := ⟨_, rfl⟩
      simp only at hfirst okD
      rw [← hD1] at hfirst okD HD1
      obtain ⟨e3, S3⟩ := D1
      simp only at hfirst okD
      have HDIR : Hid (∀ W, Calls Tryd.prog 17 #[.string name] W fun e w' => e = .returned (.string (dirB name)) ∧ w' = W) := fun W => dir_any name W (by have := unhide HNM; omega)
      clear okC okW okY hW1 hY1 hD1 hrest hv
      rcases hfirst with h4 | ⟨h1, h2, h3, hst⟩
      · subst h4
        clear okD
        go_wp2_with fail
        refine (unhide HMA).mono ?_
        rintro e w4 ⟨F, rfl, hM4⟩
        go_wp2_with fail
        refine (unhide HCR _ _ hM4).mono ?_
        rintro e w5 ⟨rfl, hM5⟩
        clear hM4
        go_wp2_with fail
        refine (unhide HW1 _ _ hM5).mono ?_
        rintro e w6 ⟨rfl, hM6⟩
        clear hM5
        go_wp2_with fail
        refine (unhide HY1 _ _ hM6).mono ?_
        rintro e w7 ⟨rfl, hM7⟩
        clear hM6
        go_wp2_with fail
        refine (unhide HDIR _).mono ?_
        rintro e w8 ⟨rfl, rfl⟩
        go_wp2_with fail
        refine (unhide HD1 _ _ hM7).mono ?_
        rintro e w9 ⟨rfl, hM9⟩
        clear hM7
        have HBE := hide ((unhide HB3).trans (hM9.below.mono (unhide HB3).size))
        clear hM9
        go_wp2_with (first
          | (go_at_call 18; refine (num_any _ _).mono ?_; rintro e w10 ⟨rfl, rfl⟩))
        go_ret
        exact ⟨rfl, unhide HBE⟩
      · subst h1 h2 h3
        have okA : OK { S3 with armed := max ar 0 } (len + 1 + 1 + 1) (b0 + old.length) := ⟨⟨okD.wf.chain, okD.wf.names, okD.wf.zero, okD.wf.new0⟩, okD.q0, okD.q1, okD.n1, okD.z0, okD.z1, okD.t0, okD.t1, by show 0 ≤ max ar 0; omega, by show max ar 0 ≤ _; omega, okD.mD, okD.mN, okD.fl⟩
        have hstA : Stands { S3 with armed := max ar 0 } name old := ⟨hst.pend, hst.nz, hst.file⟩
        have HAR : Hid (∀ W F, MadeR w3 W F S3 → Calls Tryd.prog 19 #[.pointer (some ⟨F, 0, none⟩), .int .i64 ar] W fun e w' => e = .returned (.tuple #[]) ∧ MadeR w3 w' F { S3 with armed := max ar 0 }) := fun W F h => arm_made h ar
        obtain ⟨t0, ht0⟩ : ∃ t0, t0 = { S3 with armed := max ar 0 } := ⟨_, rfl⟩
        rw [← ht0] at okA hstA HAR
        clear okD hst ht0
        obtain ⟨tb, htb⟩ : ∃ tb, tb = tmpB name := ⟨_, rfl⟩
        have htn : tb.data.toList ≠ name.data.toList := by rw [htb]; exact tmp_ne name
        have hts : tb.size ≤ 1048576 := by rw [htb, tmp_size]; omega
        have hrep := replaced okA hstA htn (by omega : b0 + old.length + fresh.length ≤ 1048576)
        have ok1 := okA.write tb fresh (by omega)
        have ok2 := ok1.sync tb (by omega)
        have ok3 := ok2.rename tb name (by omega)
        have ok4 := ok3.syncDir (dirB name)
        have HR1 : Hid (∀ W F, MadeR w3 W F t0 → Calls Tryd.prog 14 #[.pointer (some ⟨F, 0, none⟩), .string tb, .slice fa fresh.length fc] W fun e w' => e = .returned (.int .i64 (writeR t0 tb fresh).1) ∧ MadeR w3 w' F (writeR t0 tb fresh).2) :=
          fun W F h => write_made h okA (by omega) (by omega) tb hts fc fresh (by omega) hfb3
        obtain ⟨R1, hR1⟩ : ∃ R1, R1 = writeR t0 tb fresh := ⟨_, rfl⟩
        rw [← hR1] at hrep ok1 ok2 ok3 ok4 HR1
        obtain ⟨d1, T1⟩ := R1
        simp only at hrep ok1 ok2 ok3 ok4
        have HR2 : Hid (∀ W F, MadeR w3 W F T1 → Calls Tryd.prog 15 #[.pointer (some ⟨F, 0, none⟩), .string tb] W fun e w' => e = .returned (.int .i64 (syncR T1 tb).1) ∧ MadeR w3 w' F (syncR T1 tb).2) :=
          fun W F h => sync_made h ok1 (by omega) (by omega) tb hts
        obtain ⟨R2, hR2⟩ : ∃ R2, R2 = syncR T1 tb := ⟨_, rfl⟩
        rw [← hR2] at hrep ok2 ok3 ok4 HR2
        obtain ⟨d2, T2⟩ := R2
        simp only at hrep ok2 ok3 ok4
        have HR3 : Hid (∀ W F, MadeR w3 W F T2 → Calls Tryd.prog 20 #[.pointer (some ⟨F, 0, none⟩), .string tb, .string name] W fun e w' => e = .returned (.int .i64 (renameR T2 tb name).1) ∧ MadeR w3 w' F (renameR T2 tb name).2) :=
          fun W F h => rename_made h ok2 (by omega) (by omega) tb name hts (unhide HNM)
        obtain ⟨R3, hR3⟩ : ∃ R3, R3 = renameR T2 tb name := ⟨_, rfl⟩
        rw [← hR3] at hrep ok3 ok4 HR3
        obtain ⟨d3, T3⟩ := R3
        simp only at hrep ok3 ok4
        have HR4 : Hid (∀ W F, MadeR w3 W F T3 → Calls Tryd.prog 16 #[.pointer (some ⟨F, 0, none⟩), .string (dirB name)] W fun e w' => e = .returned (.int .i64 (syncDirR T3 (dirB name)).1) ∧ MadeR w3 w' F (syncDirR T3 (dirB name)).2) :=
          fun W F h => syncDir_made h ok3 (by omega) (dirB name) hds
        obtain ⟨R4, hR4⟩ : ∃ R4, R4 = syncDirR T3 (dirB name) := ⟨_, rfl⟩
        rw [← hR4] at hrep ok4 HR4
        obtain ⟨d4, T4⟩ := R4
        simp only at hrep ok4
        obtain ⟨g1, g2, g3, g4⟩ := hrep
        have HEND : Hid (∀ (T : AS) (kk : Nat), kk ≤ 4096 → OK T kk (b0 + old.length + fresh.length) → ∀ W F, MadeR w3 W F T → Calls Tryd.prog 13 #[.pointer (some ⟨F, 0, none⟩), .int .i64 nm, .int .i64 by_] W fun en w' => en = .returned (.tuple #[]) ∧ MadeR w3 w' F (crashS T nm by_)) :=
          fun T kk hkk ok W F h => crash_made h ok hkk (by omega) nm by_
        have HREAD : Hid (∀ (T : AS) (kk : Nat) (l : List UInt8), OK T kk (b0 + old.length + fresh.length) → num (crashS T nm by_).names name ≠ 0 → (crashS T nm by_).files (num (crashS T nm by_).names name) = some ⟨l, l.length⟩ → ∀ W F, MadeR w3 W F (crashS T nm by_) →
            Calls Tryd.prog 21 #[.pointer (some ⟨F, 0, none⟩), .string name] W fun e w' => ∃ a c, e = .returned (.tuple #[.slice a l.length c, .int .i64 0]) ∧ Bytes w' a l.length l ∧ l.length ≤ c ∧ l.length ≤ 1048576 ∧ Below w3.heap.size w3 w') := by
          intro T kk l ok h0 hf W F h
          have okT := ok.crash (by omega) nm by_
          have hfl := okT.fl _ _ hf
          refine (read_one h.one okT (by omega) name (unhide HNM) h0 ⟨l, l.length⟩ hf).mono ?_
          rintro e w' ⟨a, c, rfl, h1, h2, h3⟩
          exact ⟨a, c, rfl, h1, h2, Nat.le_trans hfl (by omega), h.below.trans (h3.mono h.below.size)⟩
        have HOB3 := hide hob3
        have HFB3 := hide hfb3
        have hof : ∃ b, b = decide (old = fresh) := ⟨_, rfl⟩
        have HTB := hide htb
        clear okA hstA htn hts hds htb hR1 hR2 hR3 hR4 HG HNEW HO HS HF HFB HOB HL hob3 hfb3
        by_cases hd1 : d1 = 0
        · subst hd1
          by_cases hd2 : d2 = 0
          · subst hd2
            by_cases hd3 : d3 = 0
            · subst hd3
              have hend := g4 rfl rfl rfl
              have OKT := hide (ok4.mono (Nat.le_refl _) (by omega) : OK T4 _ (b0 + old.length + fresh.length))
              obtain ⟨l, hl1, hl2, hlp⟩ := hend.crash (unhide OKT) nm by_
              clear ok1 ok2 ok3 ok4 g1 g2 g3 g4 hend hof
              go_wp2_with fail
              refine (unhide HMA).mono ?_
              rintro e w4 ⟨F, rfl, hM4⟩
              go_wp2_with fail
              refine (unhide HCR _ _ hM4).mono ?_
              rintro e w5 ⟨rfl, hM5⟩
              clear hM4
              go_wp2_with fail
              refine (unhide HW1 _ _ hM5).mono ?_
              rintro e w6 ⟨rfl, hM6⟩
              clear hM5
              go_wp2_with fail
              refine (unhide HY1 _ _ hM6).mono ?_
              rintro e w7 ⟨rfl, hM7⟩
              clear hM6
              go_wp2_with fail
              refine (unhide HDIR _).mono ?_
              rintro e w8 ⟨rfl, rfl⟩
              go_wp2_with fail
              refine (unhide HD1 _ _ hM7).mono ?_
              rintro e w9 ⟨rfl, hM9⟩
              clear hM7
              go_wp2_with (go_at_call 18; refine (num_any _ _).mono ?_; rintro e w10 ⟨rfl, rfl⟩)
              refine (unhide HAR _ _ hM9).mono ?_
              rintro e w11 ⟨rfl, hM11⟩
              clear hM9
              rw [show name ++ { data := #[46, 116, 109, 112] } = tb from (unhide HTB).symm]
              go_wp2_with fail
              refine (unhide HR1 _ _ hM11).mono ?_
              rintro e w12 ⟨rfl, hM12⟩
              clear hM11
              go_wp2_with (go_at_call 18; refine (num_any _ _).mono ?_; rintro e wn ⟨rfl, rfl⟩)
              refine (unhide HR2 _ _ hM12).mono ?_
              rintro e w13 ⟨rfl, hM13⟩
              clear hM12
              go_wp2_with (go_at_call 18; refine (num_any _ _).mono ?_; rintro e wn ⟨rfl, rfl⟩)
              refine (unhide HR3 _ _ hM13).mono ?_
              rintro e w14 ⟨rfl, hM14⟩
              clear hM13
              go_wp2_with (go_at_call 18; refine (num_any _ _).mono ?_; rintro e wn ⟨rfl, rfl⟩)
              refine (unhide HDIR _).mono ?_
              rintro e w15 ⟨rfl, rfl⟩
              go_wp2_with fail
              refine (unhide HR4 _ _ hM14).mono ?_
              rintro e w16 ⟨rfl, hM16⟩
              clear hM14
              go_wp2_with fail
              refine (unhide HEND T4 _ (by omega) (unhide OKT) _ _ hM16).mono ?_
              rintro e w20 ⟨rfl, hM20⟩
              clear hM16
              go_wp2_with fail
              refine (unhide HREAD T4 _ l (unhide OKT) hl1 hl2 _ _ hM20).mono ?_
              rintro e w21 ⟨na, nc, rfl, hby, hlc, hll, hb21⟩
              clear hM20
              have HFA := hide (sameBytes_any (c1 := nc) (c2 := fc) hby (bytes_below (unhide HFB3) hb21) (by omega) hlc hfc)
              have HBY := hide hby
              have HB21 := hide hb21
              clear hby hb21
              go_wp2_with fail
              refine (unhide HFA).mono ?_
              rintro e w22 ⟨rfl, nq1, hw22⟩
              have hb22 : Below w3.heap.size w3 w22 := by rw [hw22]; exact bel_drewN (unhide HB21) nq1
              have hby22 : Bytes w22 na l.length l := by rw [hw22]; exact ⟨(unhide HBY).len, (unhide HBY).nil, (unhide HBY).cell⟩
              have HOA := hide (sameBytes_any (c1 := nc) (c2 := oc) hby22 (bytes_below (unhide HOB3) hb22) (by omega) hlc hoc)
              have HB22 := hide hb22
              clear hw22 hby22 hb22 HFA HBY
              go_wp2_with fail
              refine (unhide HOA).mono ?_
              rintro e w23 ⟨rfl, nq2, hw23⟩
              have HBE : Hid (Below w.heap.size w w23) := by
                rw [hw23]
                exact (unhide HB3).trans ((bel_drewN (unhide HB22) nq2).mono (unhide HB3).size)
              clear hw23 HOA
              rcases hlp with hlf | ⟨hlo, hd4⟩
              · subst hlf
                rw [show decide (l = l) = true by simp]
                obtain ⟨bb, hbb⟩ : ∃ bb, bb = decide (l = old) := ⟨_, rfl⟩
                rw [← hbb]
                clear hbb
                cases bb with
                | true =>
                  go_wp2_with (go_at_call 18; refine (num_any _ _).mono ?_; rintro e wn ⟨rfl, rfl⟩)
                  go_ret
                  first | exact ⟨rfl, unhide HBE⟩ | exact ⟨by simp [hnn], unhide HBE⟩
                | false =>
                  go_wp2_with (go_at_call 18; refine (num_any _ _).mono ?_; rintro e wn ⟨rfl, rfl⟩)
                  go_ret
                  first | exact ⟨rfl, unhide HBE⟩ | exact ⟨by simp [hnn], unhide HBE⟩
              · have hnz : (d4 == (0 : Int)) = false := by simpa using hd4
                have hnn : (d4 != (0 : Int)) = true := by simpa using hd4
                subst hlo
                rw [show decide (l = l) = true by simp]
                obtain ⟨bb, hbb⟩ : ∃ bb, bb = decide (l = fresh) := ⟨_, rfl⟩
                rw [← hbb]
                clear hbb
                cases bb with
                | true =>
                  go_wp2_with (go_at_call 18; refine (num_any _ _).mono ?_; rintro e wn ⟨rfl, rfl⟩)
                  go_ret
                  first | exact ⟨rfl, unhide HBE⟩ | exact ⟨by simp [hnn], unhide HBE⟩
                | false =>
                  go_wp2_with (go_at_call 18; refine (num_any _ _).mono ?_; rintro e wn ⟨rfl, rfl⟩)
                  go_ret
                  first | exact ⟨rfl, unhide HBE⟩ | exact ⟨by simp [hnn], unhide HBE⟩
            · have hend := g3 rfl rfl hd3
              have OKT := hide (ok3.mono (Nat.le_refl _) (by omega) : OK T3 _ (b0 + old.length + fresh.length))
              obtain ⟨l, hl1, hl2, hlp⟩ := hend.crash (unhide OKT) nm by_
              clear ok1 ok2 ok3 ok4 g1 g2 g3 g4 hend hof
              have HLO : Hid (l = old) := hlp
              clear hlp
              have hnz : (d3 == (0 : Int)) = false := by simpa using hd3
              have hnn : (d3 != (0 : Int)) = true := by simpa using hd3
              go_wp2_with fail
              refine (unhide HMA).mono ?_
              rintro e w4 ⟨F, rfl, hM4⟩
              go_wp2_with fail
              refine (unhide HCR _ _ hM4).mono ?_
              rintro e w5 ⟨rfl, hM5⟩
              clear hM4
              go_wp2_with fail
              refine (unhide HW1 _ _ hM5).mono ?_
              rintro e w6 ⟨rfl, hM6⟩
              clear hM5
              go_wp2_with fail
              refine (unhide HY1 _ _ hM6).mono ?_
              rintro e w7 ⟨rfl, hM7⟩
              clear hM6
              go_wp2_with fail
              refine (unhide HDIR _).mono ?_
              rintro e w8 ⟨rfl, rfl⟩
              go_wp2_with fail
              refine (unhide HD1 _ _ hM7).mono ?_
              rintro e w9 ⟨rfl, hM9⟩
              clear hM7
              go_wp2_with (go_at_call 18; refine (num_any _ _).mono ?_; rintro e w10 ⟨rfl, rfl⟩)
              refine (unhide HAR _ _ hM9).mono ?_
              rintro e w11 ⟨rfl, hM11⟩
              clear hM9
              rw [show name ++ { data := #[46, 116, 109, 112] } = tb from (unhide HTB).symm]
              go_wp2_with fail
              refine (unhide HR1 _ _ hM11).mono ?_
              rintro e w12 ⟨rfl, hM12⟩
              clear hM11
              go_wp2_with (go_at_call 18; refine (num_any _ _).mono ?_; rintro e wn ⟨rfl, rfl⟩)
              refine (unhide HR2 _ _ hM12).mono ?_
              rintro e w13 ⟨rfl, hM13⟩
              clear hM12
              go_wp2_with (go_at_call 18; refine (num_any _ _).mono ?_; rintro e wn ⟨rfl, rfl⟩)
              refine (unhide HR3 _ _ hM13).mono ?_
              rintro e w14 ⟨rfl, hM14⟩
              clear hM13
              go_wp2_with (go_at_call 18; refine (num_any _ _).mono ?_; rintro e wn ⟨rfl, rfl⟩)
              refine (unhide HEND T3 _ (by omega) (unhide OKT) _ _ hM14).mono ?_
              rintro e w20 ⟨rfl, hM20⟩
              clear hM14
              go_wp2_with fail
              refine (unhide HREAD T3 _ l (unhide OKT) hl1 hl2 _ _ hM20).mono ?_
              rintro e w21 ⟨na, nc, rfl, hby, hlc, hll, hb21⟩
              clear hM20
              have HFA := hide (sameBytes_any (c1 := nc) (c2 := fc) hby (bytes_below (unhide HFB3) hb21) (by omega) hlc hfc)
              have HBY := hide hby
              have HB21 := hide hb21
              clear hby hb21
              go_wp2_with fail
              refine (unhide HFA).mono ?_
              rintro e w22 ⟨rfl, nq1, hw22⟩
              have hb22 : Below w3.heap.size w3 w22 := by rw [hw22]; exact bel_drewN (unhide HB21) nq1
              have hby22 : Bytes w22 na l.length l := by rw [hw22]; exact ⟨(unhide HBY).len, (unhide HBY).nil, (unhide HBY).cell⟩
              have HOA := hide (sameBytes_any (c1 := nc) (c2 := oc) hby22 (bytes_below (unhide HOB3) hb22) (by omega) hlc hoc)
              have HB22 := hide hb22
              clear hw22 hby22 hb22 HFA HBY
              go_wp2_with fail
              refine (unhide HOA).mono ?_
              rintro e w23 ⟨rfl, nq2, hw23⟩
              have HBE : Hid (Below w.heap.size w w23) := by
                rw [hw23]
                exact (unhide HB3).trans ((bel_drewN (unhide HB22) nq2).mono (unhide HB3).size)
              clear hw23 HOA
              have hlo : l = old := unhide HLO
              clear HLO
              subst hlo
              rw [show decide (l = l) = true by simp]
              obtain ⟨bb, hbb⟩ : ∃ bb, bb = decide (l = fresh) := ⟨_, rfl⟩
              rw [← hbb]
              clear hbb
              cases bb with
              | true =>
                go_wp2_with (go_at_call 18; refine (num_any _ _).mono ?_; rintro e wn ⟨rfl, rfl⟩)
                go_ret
                first | exact ⟨rfl, unhide HBE⟩ | exact ⟨by simp [hnn], unhide HBE⟩
              | false =>
                go_wp2_with (go_at_call 18; refine (num_any _ _).mono ?_; rintro e wn ⟨rfl, rfl⟩)
                go_ret
                first | exact ⟨rfl, unhide HBE⟩ | exact ⟨by simp [hnn], unhide HBE⟩
          · have hend := g2 rfl
            have OKT := hide (ok2.mono (Nat.le_refl _) (by omega) : OK T2 _ (b0 + old.length + fresh.length))
            obtain ⟨l, hl1, hl2, hlp⟩ := hend.crash (unhide OKT) nm by_
            clear ok1 ok2 ok3 ok4 g1 g2 g3 g4 hend hof
            have HLO : Hid (l = old) := hlp
            clear hlp
            have hnz : (d2 == (0 : Int)) = false := by simpa using hd2
            have hnn : (d2 != (0 : Int)) = true := by simpa using hd2
            go_wp2_with fail
            refine (unhide HMA).mono ?_
            rintro e w4 ⟨F, rfl, hM4⟩
            go_wp2_with fail
            refine (unhide HCR _ _ hM4).mono ?_
            rintro e w5 ⟨rfl, hM5⟩
            clear hM4
            go_wp2_with fail
            refine (unhide HW1 _ _ hM5).mono ?_
            rintro e w6 ⟨rfl, hM6⟩
            clear hM5
            go_wp2_with fail
            refine (unhide HY1 _ _ hM6).mono ?_
            rintro e w7 ⟨rfl, hM7⟩
            clear hM6
            go_wp2_with fail
            refine (unhide HDIR _).mono ?_
            rintro e w8 ⟨rfl, rfl⟩
            go_wp2_with fail
            refine (unhide HD1 _ _ hM7).mono ?_
            rintro e w9 ⟨rfl, hM9⟩
            clear hM7
            go_wp2_with (go_at_call 18; refine (num_any _ _).mono ?_; rintro e w10 ⟨rfl, rfl⟩)
            refine (unhide HAR _ _ hM9).mono ?_
            rintro e w11 ⟨rfl, hM11⟩
            clear hM9
            rw [show name ++ { data := #[46, 116, 109, 112] } = tb from (unhide HTB).symm]
            go_wp2_with fail
            refine (unhide HR1 _ _ hM11).mono ?_
            rintro e w12 ⟨rfl, hM12⟩
            clear hM11
            go_wp2_with (go_at_call 18; refine (num_any _ _).mono ?_; rintro e wn ⟨rfl, rfl⟩)
            refine (unhide HR2 _ _ hM12).mono ?_
            rintro e w13 ⟨rfl, hM13⟩
            clear hM12
            go_wp2_with (go_at_call 18; refine (num_any _ _).mono ?_; rintro e wn ⟨rfl, rfl⟩)
            refine (unhide HEND T2 _ (by omega) (unhide OKT) _ _ hM13).mono ?_
            rintro e w20 ⟨rfl, hM20⟩
            clear hM13
            go_wp2_with fail
            refine (unhide HREAD T2 _ l (unhide OKT) hl1 hl2 _ _ hM20).mono ?_
            rintro e w21 ⟨na, nc, rfl, hby, hlc, hll, hb21⟩
            clear hM20
            have HFA := hide (sameBytes_any (c1 := nc) (c2 := fc) hby (bytes_below (unhide HFB3) hb21) (by omega) hlc hfc)
            have HBY := hide hby
            have HB21 := hide hb21
            clear hby hb21
            go_wp2_with fail
            refine (unhide HFA).mono ?_
            rintro e w22 ⟨rfl, nq1, hw22⟩
            have hb22 : Below w3.heap.size w3 w22 := by rw [hw22]; exact bel_drewN (unhide HB21) nq1
            have hby22 : Bytes w22 na l.length l := by rw [hw22]; exact ⟨(unhide HBY).len, (unhide HBY).nil, (unhide HBY).cell⟩
            have HOA := hide (sameBytes_any (c1 := nc) (c2 := oc) hby22 (bytes_below (unhide HOB3) hb22) (by omega) hlc hoc)
            have HB22 := hide hb22
            clear hw22 hby22 hb22 HFA HBY
            go_wp2_with fail
            refine (unhide HOA).mono ?_
            rintro e w23 ⟨rfl, nq2, hw23⟩
            have HBE : Hid (Below w.heap.size w w23) := by
              rw [hw23]
              exact (unhide HB3).trans ((bel_drewN (unhide HB22) nq2).mono (unhide HB3).size)
            clear hw23 HOA
            have hlo : l = old := unhide HLO
            clear HLO
            subst hlo
            rw [show decide (l = l) = true by simp]
            obtain ⟨bb, hbb⟩ : ∃ bb, bb = decide (l = fresh) := ⟨_, rfl⟩
            rw [← hbb]
            clear hbb
            cases bb with
            | true =>
              go_wp2_with (go_at_call 18; refine (num_any _ _).mono ?_; rintro e wn ⟨rfl, rfl⟩)
              go_ret
              first | exact ⟨rfl, unhide HBE⟩ | exact ⟨by simp [hnn], unhide HBE⟩
            | false =>
              go_wp2_with (go_at_call 18; refine (num_any _ _).mono ?_; rintro e wn ⟨rfl, rfl⟩)
              go_ret
              first | exact ⟨rfl, unhide HBE⟩ | exact ⟨by simp [hnn], unhide HBE⟩
        · have hend := g1 hd1
          have OKT := hide (ok1 : OK T1 _ (b0 + old.length + fresh.length))
          obtain ⟨l, hl1, hl2, hlp⟩ := hend.crash (unhide OKT) nm by_
          clear ok1 ok2 ok3 ok4 g1 g2 g3 g4 hend hof
          have HLO : Hid (l = old) := hlp
          clear hlp
          have hnz : (d1 == (0 : Int)) = false := by simpa using hd1
          have hnn : (d1 != (0 : Int)) = true := by simpa using hd1
          go_wp2_with fail
          refine (unhide HMA).mono ?_
          rintro e w4 ⟨F, rfl, hM4⟩
          go_wp2_with fail
          refine (unhide HCR _ _ hM4).mono ?_
          rintro e w5 ⟨rfl, hM5⟩
          clear hM4
          go_wp2_with fail
          refine (unhide HW1 _ _ hM5).mono ?_
          rintro e w6 ⟨rfl, hM6⟩
          clear hM5
          go_wp2_with fail
          refine (unhide HY1 _ _ hM6).mono ?_
          rintro e w7 ⟨rfl, hM7⟩
          clear hM6
          go_wp2_with fail
          refine (unhide HDIR _).mono ?_
          rintro e w8 ⟨rfl, rfl⟩
          go_wp2_with fail
          refine (unhide HD1 _ _ hM7).mono ?_
          rintro e w9 ⟨rfl, hM9⟩
          clear hM7
          go_wp2_with (go_at_call 18; refine (num_any _ _).mono ?_; rintro e w10 ⟨rfl, rfl⟩)
          refine (unhide HAR _ _ hM9).mono ?_
          rintro e w11 ⟨rfl, hM11⟩
          clear hM9
          rw [show name ++ { data := #[46, 116, 109, 112] } = tb from (unhide HTB).symm]
          go_wp2_with fail
          refine (unhide HR1 _ _ hM11).mono ?_
          rintro e w12 ⟨rfl, hM12⟩
          clear hM11
          go_wp2_with (go_at_call 18; refine (num_any _ _).mono ?_; rintro e wn ⟨rfl, rfl⟩)
          refine (unhide HEND T1 _ (by omega) (unhide OKT) _ _ hM12).mono ?_
          rintro e w20 ⟨rfl, hM20⟩
          clear hM12
          go_wp2_with fail
          refine (unhide HREAD T1 _ l (unhide OKT) hl1 hl2 _ _ hM20).mono ?_
          rintro e w21 ⟨na, nc, rfl, hby, hlc, hll, hb21⟩
          clear hM20
          have HFA := hide (sameBytes_any (c1 := nc) (c2 := fc) hby (bytes_below (unhide HFB3) hb21) (by omega) hlc hfc)
          have HBY := hide hby
          have HB21 := hide hb21
          clear hby hb21
          go_wp2_with fail
          refine (unhide HFA).mono ?_
          rintro e w22 ⟨rfl, nq1, hw22⟩
          have hb22 : Below w3.heap.size w3 w22 := by rw [hw22]; exact bel_drewN (unhide HB21) nq1
          have hby22 : Bytes w22 na l.length l := by rw [hw22]; exact ⟨(unhide HBY).len, (unhide HBY).nil, (unhide HBY).cell⟩
          have HOA := hide (sameBytes_any (c1 := nc) (c2 := oc) hby22 (bytes_below (unhide HOB3) hb22) (by omega) hlc hoc)
          have HB22 := hide hb22
          clear hw22 hby22 hb22 HFA HBY
          go_wp2_with fail
          refine (unhide HOA).mono ?_
          rintro e w23 ⟨rfl, nq2, hw23⟩
          have HBE : Hid (Below w.heap.size w w23) := by
            rw [hw23]
            exact (unhide HB3).trans ((bel_drewN (unhide HB22) nq2).mono (unhide HB3).size)
          clear hw23 HOA
          have hlo : l = old := unhide HLO
          clear HLO
          subst hlo
          rw [show decide (l = l) = true by simp]
          obtain ⟨bb, hbb⟩ : ∃ bb, bb = decide (l = fresh) := ⟨_, rfl⟩
          rw [← hbb]
          clear hbb
          cases bb with
          | true =>
            go_wp2_with (go_at_call 18; refine (num_any _ _).mono ?_; rintro e wn ⟨rfl, rfl⟩)
            go_ret
            first | exact ⟨rfl, unhide HBE⟩ | exact ⟨by simp [hnn], unhide HBE⟩
          | false =>
            go_wp2_with (go_at_call 18; refine (num_any _ _).mono ?_; rintro e wn ⟨rfl, rfl⟩)
            go_ret
            first | exact ⟨rfl, unhide HBE⟩ | exact ⟨by simp [hnn], unhide HBE⟩

end Go.Proofs.YtbdbobikiikbgaaDoor
