/-
  The contract of first: the document's example holds.
-/
import Derived.Test.YtbdbobikiikbgaaDoorOps
import Derived.Lib.SlBytesConst
namespace Go.Proofs.YtbdbobikiikbgaaDoor
open Go.RowKit Go.WideMaps Go.Maps Go.Sort

/-- A file system that was made behind w0 and stands in w. -/
def Live (w0 w : World) (F : Nat) (s : AS) : Prop := ∃ G, Rep w G s ∧ G.F = F ∧ (∀ b, b < w0.heap.size → G.role b = none) ∧ Below w0.heap.size w0 w

theorem below_of_went {w0 w w' : World} {G G' : Lie} (hr : ∀ b, b < w0.heap.size → G.role b = none) (hb : Below w0.heap.size w0 w) (hw : Went w G w' G') : Below w0.heap.size w0 w' :=
  ⟨hw.fr.os.trans hb.os, hw.fr.tape.trans hb.tape, hw.fr.output.trans hb.output, Nat.le_trans hb.size hw.fr.size, fun k hk => (hw.fr.block k (Nat.lt_of_lt_of_le hk hb.size) (Or.inl (hr k hk))).trans (hb.block k hk)⟩

theorem Live.went {w0 w w' : World} {G G' : Lie} {s' : AS} {F : Nat} (hF : G.F = F) (hr : ∀ b, b < w0.heap.size → G.role b = none) (hb : Below w0.heap.size w0 w) (hR : Rep w' G' s') (hw : Went w G w' G') : Live w0 w' F s' :=
  ⟨G', hR, hw.F.trans hF, fun b hb' => (hw.role b (Nat.lt_of_lt_of_le hb' hb.size)).trans (hr b hb'), below_of_went hr hb hw⟩

theorem Live.below {w0 w w' : World} {F : Nat} {s : AS} (h : Live w0 w F s) (hb : Below w.heap.size w w') : Live w0 w' F s := by
  obtain ⟨G, h1, h2, h3, h4⟩ := h
  exact ⟨G, h1.below hb, h2, h3, h4.trans (hb.mono h4.size)⟩

theorem new_live (q : Int) (w : World) (hg : ∃ m, w.cell? ⟨0, 0, none⟩ = some (.int .i64 m)) : Calls Tryd.prog 28 #[.int .i64 q] w fun e w' => ∃ F, e = .returned (.pointer (some ⟨F, 0, none⟩)) ∧ Live w w' F (newS q) := by
  refine (new_rep q w hg).mono ?_
  rintro e w' ⟨rfl, hR, hb⟩
  refine ⟨_, rfl, newG w.heap.size, hR, rfl, fun b hb' => ?_, hb⟩
  simp only [newG]
  rw [if_neg (by omega), if_neg (by omega), if_neg (by omega), if_neg (by omega)]

/-- The bytes of a literal. -/
theorem lit_bytes (w : World) (l : List UInt8) (fr : Nat × Nat) : Bytes (w.alloc (.cells (bytesV l).toArray 5 fr)) (some ⟨w.heap.size, 0, none⟩) l.length l := by
  refine ⟨rfl, (by simp), fun ad ha i hi => ?_⟩
  obtain rfl : (⟨w.heap.size, 0, none⟩ : Addr) = ad := by simpa using ha
  have e1 : (⟨w.heap.size, 0, none⟩ : Addr).add i = ⟨w.heap.size, i, none⟩ := by unfold Addr.add; split <;> simp_all
  rw [e1]
  exact cell_fs (heap_alloc_new w _) (by simp [bytesV, hi, List.getD])

theorem write_lit {w0 w : World} {F : Nat} {s : AS} (h : Live w0 w F s) (hi : Inv s) (name : ByteArray) (hn : name.size < 4611686018427387904) (l : List UInt8) (cp : Nat) (fr : Nat × Nat) (hl : l.length ≤ 1099511627776) (hr : Room s l.length) :
    Calls Tryd.prog 14 #[.pointer (some ⟨F, 0, none⟩), .string name, .slice (some ⟨w.heap.size, 0, none⟩) l.length cp] (w.alloc (.cells (bytesV l).toArray 5 fr)) fun e w' => e = .returned (.int .i64 (writeR s name l).1) ∧ Live w0 w' F (writeR s name l).2 := by
  obtain ⟨G, h1, h2, h3, h4⟩ := h
  have hb : Below w.heap.size w (w.alloc (.cells (bytesV l).toArray 5 fr)) := (Below.refl _ _).alloc (Nat.le_refl _) _
  subst h2
  refine (write_rep (h1.below hb) hi name hn cp l (lit_bytes w l fr) ?_ hl hr).mono ?_
  · intro ad ha _
    obtain rfl : (⟨w.heap.size, 0, none⟩ : Addr) = ad := by simpa using ha
    exact Classical.byContradiction fun hn => absurd (h1.lt w.heap.size hn) (Nat.lt_irrefl _)
  · rintro e w' ⟨G', rfl, r1, r2⟩
    exact ⟨rfl, Live.went rfl h3 (h4.trans (hb.mono h4.size)) r1 r2⟩

theorem append_lit {w0 w : World} {F : Nat} {s : AS} (h : Live w0 w F s) (hi : Inv s) (name : ByteArray) (hn : name.size ≤ maxLen) (l : List UInt8) (cp : Nat) (fr : Nat × Nat) (hl : l.length ≤ 1099511627776) (hr : Bd s) :
    Calls Tryd.prog 32 #[.pointer (some ⟨F, 0, none⟩), .string name, .slice (some ⟨w.heap.size, 0, none⟩) l.length cp] (w.alloc (.cells (bytesV l).toArray 5 fr)) fun e w' => e = .returned (.int .i64 (appendR s name l).1) ∧ Live w0 w' F (appendR s name l).2 := by
  obtain ⟨G, h1, h2, h3, h4⟩ := h
  have hb : Below w.heap.size w (w.alloc (.cells (bytesV l).toArray 5 fr)) := (Below.refl _ _).alloc (Nat.le_refl _) _
  subst h2
  refine (append_rep (h1.below hb) hi name hn cp (by simp) l (lit_bytes w l fr) ?_ hl hr).mono ?_
  · intro ad ha _
    obtain rfl : (⟨w.heap.size, 0, none⟩ : Addr) = ad := by simpa using ha
    exact Classical.byContradiction fun hn => absurd (h1.lt w.heap.size hn) (Nat.lt_irrefl _)
  · rintro e w' ⟨G', rfl, r1, r2⟩
    exact ⟨rfl, Live.went rfl h3 (h4.trans (hb.mono h4.size)) r1 r2⟩

theorem sync_live {w0 w : World} {F : Nat} {s : AS} (h : Live w0 w F s) (hi : Inv s) (name : ByteArray) (hn : name.size ≤ maxLen) (hb : Bd s) :
    Calls Tryd.prog 15 #[.pointer (some ⟨F, 0, none⟩), .string name] w fun e w' => e = .returned (.int .i64 (syncR s name).1) ∧ Live w0 w' F (syncR s name).2 := by
  obtain ⟨G, h1, h2, h3, h4⟩ := h
  subst h2
  refine (sync_rep h1 hi name hn hb).mono ?_
  rintro e w' ⟨G', rfl, r1, r2⟩
  exact ⟨rfl, Live.went rfl h3 h4 r1 r2⟩

theorem syncDir_live {w0 w : World} {F : Nat} {s : AS} (h : Live w0 w F s) (d : ByteArray) (hd : d.size ≤ maxLen) (hr : Room s 0) :
    Calls Tryd.prog 16 #[.pointer (some ⟨F, 0, none⟩), .string d] w fun e w' => e = .returned (.int .i64 (syncDirR s d).1) ∧ Live w0 w' F (syncDirR s d).2 := by
  obtain ⟨G, h1, h2, h3, h4⟩ := h
  subst h2
  refine (syncDir_rep h1 d hd hr).mono ?_
  rintro e w' ⟨G', rfl, r1, r2⟩
  exact ⟨rfl, Live.went rfl h3 h4 r1 r2⟩

theorem durable_live {w0 w : World} {F : Nat} {s : AS} (h : Live w0 w F s) (hb : Bd s) (hget : ∀ l, l ∈ namesOf s.durable → ∃ f, s.files (num s.durable ⟨l.toArray⟩) = some f ∧ f.data.length ≤ 1099511627776) (fl : List (List UInt8 × List UInt8)) (hfl : fileL s s.durable (fun f => f.data.take f.dur) = fl) :
    Calls Tryd.prog 24 #[.pointer (some ⟨F, 0, none⟩)] w fun e w' => ∃ (a : Option Addr) (c : Nat), e = .returned (.slice a fl.length c) ∧ FilesAt w' w.heap.size (.slice a fl.length c) fl ∧ Live w0 w' F s ∧ Below w.heap.size w w' := by
  obtain ⟨G, h1, h2, h3, h4⟩ := h
  subst h2 hfl
  refine (durable_rep h1 hb hget).mono ?_
  rintro e w' ⟨a, c, rfl, r1, r2⟩
  exact ⟨a, c, rfl, r1, ⟨G, h1.below r2, rfl, h3, h4.trans (r2.mono h4.size)⟩, r2⟩

/- The example's states. -/
def ex0 : AS := newS 10
def ex1 : AS := (writeR ex0 ⟨#[97]⟩ [97, 98, 99]).2
def ex2 : AS := (syncR ex1 ⟨#[97]⟩).2
def ex3 : AS := (syncDirR ex2 ⟨#[]⟩).2

theorem ex_w1 : (writeR ex0 ⟨#[97]⟩ [97, 98, 99]).1 = 0 := by kernel_rfl
theorem ex_w2 : (writeR ex1 ⟨#[47, 97]⟩ [120]).1 = 1 := by kernel_rfl
theorem ex_a : (appendR ex1 ⟨#[98]⟩ [120]).1 = 2 := by kernel_rfl
theorem ex_w3 : (writeR ex1 ⟨#[100, 47, 98]⟩ [49, 50, 51, 52, 53, 54, 55, 56]).1 = 4 := by kernel_rfl
theorem ex_s : (syncR ex1 ⟨#[97]⟩).1 = 0 := by kernel_rfl
theorem ex_d : (syncDirR ex2 ⟨#[]⟩).1 = 0 := by kernel_rfl
theorem ex_l : fileL ex3 ex3.durable (fun f => f.data.take f.dur) = [([97], [97, 98, 99])] := by kernel_rfl

theorem ex_w2s : (writeR ex1 ⟨#[47, 97]⟩ [120]).2 = ex1 := by kernel_rfl
theorem ex_as : (appendR ex1 ⟨#[98]⟩ [120]).2 = ex1 := by kernel_rfl
theorem ex_w3s : (writeR ex1 ⟨#[100, 47, 98]⟩ [49, 50, 51, 52, 53, 54, 55, 56]).2 = ex1 := by kernel_rfl
theorem ex1_eq : ex1 = wroteS (beginS ex0 0) ⟨#[97]⟩ [97, 98, 99] := by kernel_rfl

theorem inv_new (q : Int) : Inv (newS q) := by
  refine ⟨fun name h => ?_, fun name h => ?_, rfl, fun n f hf => by cases hf⟩
  · exact absurd (show num (.map []) name = 0 from rfl) h
  · exact absurd (show num (.map []) name = 0 from rfl) h

theorem inv_ex1 : Inv ex1 := by
  rw [ex1_eq]
  exact ((inv_new 10).begin 0).wrote ⟨[], by kernel_rfl⟩ (by decide +kernel) _ _ (by decide)

theorem bd_ex0 : Bd ex0 := ⟨by decide +kernel, by decide +kernel, by decide +kernel, by decide +kernel, by decide +kernel, by decide +kernel, by decide +kernel, by decide +kernel, by decide +kernel, by decide +kernel, by decide +kernel, by decide +kernel, by decide +kernel⟩
theorem bd_ex1 : Bd ex1 := ⟨by decide +kernel, by decide +kernel, by decide +kernel, by decide +kernel, by decide +kernel, by decide +kernel, by decide +kernel, by decide +kernel, by decide +kernel, by decide +kernel, by decide +kernel, by decide +kernel, by decide +kernel⟩
theorem bd_ex2 : Bd ex2 := ⟨by decide +kernel, by decide +kernel, by decide +kernel, by decide +kernel, by decide +kernel, by decide +kernel, by decide +kernel, by decide +kernel, by decide +kernel, by decide +kernel, by decide +kernel, by decide +kernel, by decide +kernel⟩
theorem bd_ex3 : Bd ex3 := ⟨by decide +kernel, by decide +kernel, by decide +kernel, by decide +kernel, by decide +kernel, by decide +kernel, by decide +kernel, by decide +kernel, by decide +kernel, by decide +kernel, by decide +kernel, by decide +kernel, by decide +kernel⟩
theorem room_ex0 : Room ex0 3 := ⟨bd_ex0, by decide +kernel, by decide +kernel, by decide +kernel⟩
theorem room_ex1 : Room ex1 8 := ⟨bd_ex1, by decide +kernel, by decide +kernel, by decide +kernel⟩
theorem room_ex1' : Room ex1 1 := ⟨bd_ex1, by decide +kernel, by decide +kernel, by decide +kernel⟩
theorem room_ex2 : Room ex2 0 := ⟨bd_ex2, by decide +kernel, by decide +kernel, by decide +kernel⟩
theorem ex_names : namesOf ex3.durable = [[97]] := by kernel_rfl
theorem ex_file : ex3.files (num ex3.durable ⟨#[97]⟩) = some ⟨[97, 98, 99], 3⟩ := by kernel_rfl
theorem ex_get : ∀ l, l ∈ namesOf ex3.durable → ∃ f, ex3.files (num ex3.durable ⟨l.toArray⟩) = some f ∧ f.data.length ≤ 1099511627776 := by
  intro l hl
  rw [ex_names] at hl
  obtain rfl : l = [97] := by simpa using hl
  exact ⟨_, ex_file, by decide⟩

theorem ex_call1 {w w1 : World} {F : Nat} (h : Live w w1 F (newS 10)) :
    Calls Tryd.prog 14 #[.pointer (some ⟨F, 0, none⟩), .string ⟨#[97]⟩, .slice (some ⟨w1.heap.size, 0, none⟩) 3 3] (w1.alloc (.cells #[.int .u8 97, .int .u8 98, .int .u8 99] 5 (3, 4))) fun e w' => e = .returned (.int .i64 0) ∧ Live w w' F ex1 := by
  have k := write_lit h (inv_new 10) ⟨#[97]⟩ (by decide) [97, 98, 99] 3 (3, 4) (by decide) room_ex0
  rw [show (writeR (newS 10) ⟨#[97]⟩ [97, 98, 99]).1 = 0 from ex_w1] at k
  exact k
theorem ex_call2 {w w1 : World} {F : Nat} (h : Live w w1 F ex1) :
    Calls Tryd.prog 14 #[.pointer (some ⟨F, 0, none⟩), .string ⟨#[47, 97]⟩, .slice (some ⟨w1.heap.size, 0, none⟩) 1 1] (w1.alloc (.cells #[.int .u8 120] 5 (1, 2))) fun e w' => e = .returned (.int .i64 1) ∧ Live w w' F ex1 := by
  have k := write_lit h inv_ex1 ⟨#[47, 97]⟩ (by decide) [120] 1 (1, 2) (by decide) room_ex1'
  rw [ex_w2, ex_w2s] at k
  exact k
theorem ex_call3 {w w1 : World} {F : Nat} (h : Live w w1 F ex1) :
    Calls Tryd.prog 32 #[.pointer (some ⟨F, 0, none⟩), .string ⟨#[98]⟩, .slice (some ⟨w1.heap.size, 0, none⟩) 1 1] (w1.alloc (.cells #[.int .u8 120] 5 (1, 2))) fun e w' => e = .returned (.int .i64 2) ∧ Live w w' F ex1 := by
  have k := append_lit h inv_ex1 ⟨#[98]⟩ (by decide) [120] 1 (1, 2) (by decide) bd_ex1
  rw [ex_a, ex_as] at k
  exact k
theorem ex_call4 {w w1 : World} {F : Nat} (h : Live w w1 F ex1) :
    Calls Tryd.prog 14 #[.pointer (some ⟨F, 0, none⟩), .string ⟨#[100, 47, 98]⟩, .slice (some ⟨w1.heap.size, 0, none⟩) 8 8] (w1.alloc (.cells #[.int .u8 49, .int .u8 50, .int .u8 51, .int .u8 52, .int .u8 53, .int .u8 54, .int .u8 55, .int .u8 56] 5 (8, 9))) fun e w' => e = .returned (.int .i64 4) ∧ Live w w' F ex1 := by
  have k := write_lit h inv_ex1 ⟨#[100, 47, 98]⟩ (by decide) [49, 50, 51, 52, 53, 54, 55, 56] 8 (8, 9) (by decide) room_ex1
  rw [ex_w3, ex_w3s] at k
  exact k
theorem ex_call5 {w w1 : World} {F : Nat} (h : Live w w1 F ex1) :
    Calls Tryd.prog 15 #[.pointer (some ⟨F, 0, none⟩), .string ⟨#[97]⟩] w1 fun e w' => e = .returned (.int .i64 0) ∧ Live w w' F ex2 := by
  have k := sync_live h inv_ex1 ⟨#[97]⟩ (by decide) bd_ex1
  rw [ex_s] at k
  exact k
theorem ex_call6 {w w1 : World} {F : Nat} (h : Live w w1 F ex2) :
    Calls Tryd.prog 16 #[.pointer (some ⟨F, 0, none⟩), .string ⟨#[]⟩] w1 fun e w' => e = .returned (.int .i64 0) ∧ Live w w' F ex3 := by
  have k := syncDir_live h ⟨#[]⟩ (by decide) room_ex2
  rw [ex_d] at k
  exact k
theorem ex_call7 {w w1 : World} {F : Nat} (h : Live w w1 F ex3) :
    Calls Tryd.prog 24 #[.pointer (some ⟨F, 0, none⟩)] w1 fun e w' => ∃ (a : Option Addr) (c : Nat), e = .returned (.slice a 1 c) ∧ FilesAt w' w1.heap.size (.slice a 1 c) [([97], [97, 98, 99])] ∧ Live w w' F ex3 ∧ Below w1.heap.size w1 w' :=
  durable_live h bd_ex3 ex_get _ ex_l

theorem num_any (n : Int) (w : World) : Calls Tryd.prog 18 #[.int .i64 n] w fun e w' => e = .returned (.int .i64 n) ∧ w' = w := by
  go_enter Tryd.func18, Tryd.ntmps18
  go_wp2
  go_ret
  exact ⟨rfl, rfl⟩

/-- What the example's answer reads as. -/
theorem ex_read {w : World} {base : Nat} {a : Option Addr} {c : Nat} (h : FilesAt w base (.slice a 1 c) [([97], [97, 98, 99])]) :
    ∃ g gd cd, a = some ⟨g, 0, none⟩ ∧ w.cell? ⟨g, 0, none⟩ = some (.string ⟨#[97]⟩) ∧ w.cell? ⟨g, 1, none⟩ = some (.slice (some ⟨gd, 0, none⟩) 3 cd) ∧
      ∀ j (hj : j < [97, 98, (99 : UInt8)].length), w.cell? ((⟨gd, 0, none⟩ : Addr).add j) = some (.int .u8 ([97, 98, (99 : UInt8)][j].toNat : Int)) := by
  obtain ⟨vs, h1, h2, h3⟩ := h
  match vs, h1 with
  | [u], _ =>
    have hu : w.ownsRow base 5 1 u 3 (bytesV [97, 98, 99]) := h3 0 ([97], [97, 98, 99]) u rfl rfl
    obtain ⟨g, cap, e, k0⟩ := row_cell h2 (k := 0) (u := encStr [97]) rfl
    obtain ⟨g', cap', e', k1⟩ := row_cell h2 (k := 1) (u := u) rfl
    simp at e e'
    have eg : g' = g := by
      have := e'.1.symm.trans e.1; simpa using this
    rw [eg] at k1
    rcases hu.2 with ⟨_, e2⟩ | ⟨gd, cd, cur, e2, _, hh, h4, h5, h6, h7⟩
    · simp at e2
    · refine ⟨g, gd, cd, e.1, k0, k1.trans (by rw [e2]), fun j hj => ?_⟩
      have hb := front_bytes (l := [97, 98, 99]) (by rw [e2] at hu; exact hu)
      rw [hb.cell _ rfl j hj]
      match j, hj with
      | 0, _ => rfl
      | 1, _ => rfl
      | 2, _ => rfl

set_option maxRecDepth 100000 in
set_option maxHeartbeats 2000000 in
theorem first_any (w : World) (hg : ∃ m, w.cell? ⟨0, 0, none⟩ = some (.int .i64 m)) : Calls Tryd.prog 9 #[] w fun e w' => e = .returned (.bool true) ∧ Below w.heap.size w w' := by
  have HNEW := hide (new_live 10 w hg)
  have kc := fun (w : World) (C : Array Value) (n c : Nat) => Lib.run_convert_bytes_const (P := Tryd.prog) w 23 5 C n c Tryd.underlying23 Tryd.underlying5
  clear hg
  go_enter Tryd.func9, Tryd.ntmps9
  go_wp2_with (go_at_call 28; refine (unhide HNEW).mono ?_; rintro e w1 ⟨F, rfl, hL1⟩)
  refine (ex_call1 hL1).mono ?_
  rintro e w2 ⟨rfl, hL2⟩
  clear hL1
  go_wp2_with fail
  refine (ex_call2 hL2).mono ?_
  rintro e w3 ⟨rfl, hL3⟩
  clear hL2
  go_wp2_with fail
  refine (ex_call3 hL3).mono ?_
  rintro e w4 ⟨rfl, hL4⟩
  clear hL3
  go_wp2_with fail
  refine (ex_call4 hL4).mono ?_
  rintro e w5 ⟨rfl, hL5⟩
  clear hL4
  go_wp2_with fail
  refine (ex_call5 hL5).mono ?_
  rintro e w6 ⟨rfl, hL6⟩
  clear hL5
  go_wp2_with fail
  refine (ex_call6 hL6).mono ?_
  rintro e w7 ⟨rfl, hL7⟩
  clear hL6
  go_wp2_with fail
  refine (ex_call7 hL7).mono ?_
  rintro e w8 ⟨a, c, rfl, hFA, hL8, hB8⟩
  obtain ⟨g, gd, cd, rfl, kn, kd, hcd⟩ := ex_read hFA
  have hcv : (convert 23 9 (.slice (some ⟨gd, 0, none⟩) 3 cd)).run Tryd.prog w8 = .ok (.string ⟨#[97, 98, 99]⟩) w8 := run_convert_bytes_back (P := Tryd.prog) w8 23 9 5 ⟨gd, 0, none⟩ cd [97, 98, 99] Tryd.underlying23 Tryd.underlying5 Tryd.underlying9 hcd
  have HB := hide (show Below w.heap.size w w8 from hL8.choose_spec.2.2.2)
  clear hFA hL8 hB8 hL7 kc hcd
  go_wp2_with (go_at_call 18; refine (num_any _ _).mono ?_; rintro e w9 ⟨rfl, rfl⟩)
  go_ret
  exact ⟨rfl, unhide HB⟩

end Go.Proofs.YtbdbobikiikbgaaDoor
