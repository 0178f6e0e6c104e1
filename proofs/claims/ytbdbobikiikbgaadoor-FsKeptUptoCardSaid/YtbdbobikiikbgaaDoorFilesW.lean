/-
  The contract of Files.
-/
import Derived.Test.YtbdbobikiikbgaaDoorLists
namespace Go.Proofs.YtbdbobikiikbgaaDoor
open Go.RowKit Go.WideMaps Go.Maps Go.Sort

theorem take_succ_get {α : Type} (l : List α) (k : Nat) (x : α) (h : l[k]? = some x) : l.take (k + 1) = l.take k ++ [x] := by
  rw [List.take_add_one, h]; rfl

/-- What the list lays out at its head: nothing yet. -/
theorem FilesAt.start {w : World} {base : Nat} {v : Value} (h : w.ownsRow base 46 2 v 0 []) : FilesAt w base v [] := ⟨[], rfl, h, fun k x u hx _ => by simp at hx⟩

/-- One more file at the list's end. -/
theorem files_round {w wr w4 w5 : World} {base L k gn cn : Nat} {v v' : Value} {fl : List (List UInt8 × List UInt8)} {vs names : List Value} {nm l : List UInt8} {a' : Option Addr} {c' : Nat} {o : Obj}
    (a2 : wr.ownsRow base 46 2 v k (fileCells (fl.take k) vs)) (a1 : vs.length = (fl.take k).length) (a3 : ∀ (j : Nat) (x : List UInt8 × List UInt8) (u : Value), (fl.take k)[j]? = some x → vs[j]? = some u → wr.ownsRow base 5 1 u x.2.length (bytesV x.2))
    (hkl : (fl.take k).length = k) (hx : fl[k]? = some (nm, l)) (hb4 : Below wr.heap.size wr w4) (hD : w4.ownsRow wr.heap.size 5 1 (.slice a' l.length c') l.length (bytesV l)) (hle : base ≤ wr.heap.size)
    (hown : w5.ownsRow base 46 2 v' (k + 1) (fileCells (fl.take k) vs ++ [.string ⟨nm.toArray⟩, .slice a' l.length c'])) (hg : (w4.alloc o).grownBy w5 v.ownBlock) (hN : wr.ownsRow base 9 1 (.slice (some ⟨gn, 0, none⟩) L cn) L names) (hB : Below base w wr) :
    FilesAt w5 base v' (fl.take (k + 1)) ∧ w5.ownsRow base 9 1 (.slice (some ⟨gn, 0, none⟩) L cn) L names ∧ Below base w w5 := by
  have hbW : Below wr.heap.size wr (w4.alloc o) := hb4.alloc hb4.size _
  have hv : (w4.alloc o).ownsRow base 46 2 v k (fileCells (fl.take k) vs) := row_below a2 hbW
  have hvlt : ∀ g, v.ownBlock = some g → base ≤ g := by
    intro g hg'
    rcases a2.2 with ⟨e, _⟩ | ⟨g1, c1, u1, e, hb1, _⟩
    · rw [e] at hg'; cases hg'
    · rw [e] at hg'
      have q : some g1 = some g := hg'
      have : g1 = g := by simpa using q
      omega
  refine ⟨?_, row_grown (row_below hN hbW) hv (by decide) hg, ?_⟩
  · rw [take_succ_get fl k _ hx]
    refine FilesAt.snoc ⟨vs, a1, rfl, fun j x u hx hu => row_below (a3 j x u hx hu) hbW⟩ (by rw [hkl]; exact hv) (row_mono (hD.alloc o) hle) hg ?_
    rw [hkl]; exact hown
  · have h1 : Below base w (w4.alloc o) := hB.trans (hbW.mono hle)
    exact h1.grown hg (Nat.le_trans hle hbW.size) (fun g hg' => hvlt g hg')

set_option maxRecDepth 100000 in
set_option maxHeartbeats 2000000 in
theorem files_rep {w : World} {G : Lie} {s : AS} (h : Rep w G s) (hb : Bd s) (hget : ∀ l, l ∈ namesOf s.names → ∃ f, s.files (num s.names ⟨l.toArray⟩) = some f ∧ f.data.length ≤ 1099511627776) :
    Calls Tryd.prog 25 #[.pointer (some ⟨G.F, 0, none⟩)] w fun e w' => ∃ (a : Option Addr) (c : Nat), e = .returned (.slice a (fileL s s.names (·.data)).length c) ∧
      FilesAt w' w.heap.size (.slice a (fileL s s.names (·.data)).length c) (fileL s s.names (·.data)) ∧ Below w.heap.size w w' := by
  obtain ⟨i0, hi, hz0, hz1, hz2⟩ := info_parts Tryd.info46
  have k3 : w.cell? ⟨G.F, 3, none⟩ = some (.map (some G.N)) := cell_fs h.fsb rfl
  have hN := h.tN
  have hm := hb.mN
  have hlF := lt_of_cell k3
  have HR := hide h
  have HG := hide hget
  obtain ⟨fl, hfl⟩ : ∃ fl, fl = fileL s s.names (·.data) := ⟨_, rfl⟩
  have hLn : fl.length = (namesOf s.names).length := by rw [hfl]; simp [fileL]
  have hLm : (namesOf s.names).length ≤ 1099511627776 := by
    have e : (namesOf s.names).length = Maps.size s.names := by
      unfold namesOf; rw [(List.mergeSort_perm _ _).length_eq]
      obtain ⟨es, e, _⟩ := tab_tidy hN
      rw [e]; simp [strKeys, Maps.size]
    omega
  have HFL := hide hfl
  rw [← hfl]
  clear h hb hget hfl
  obtain ⟨L, hL⟩ : ∃ L, L = fl.length := ⟨_, rfl⟩
  rw [← hL]
  rw [← hL] at hLn
  rw [← hLn] at hLm
  have HL := hide hL
  clear hL
  go_enter Tryd.func25, Tryd.ntmps25
  go_wp2_with (first
    | (at_len; refine wpList_len_own _ rfl _ 62 rfl 9 3 Tryd.underlying62 _ G.N _ _ rfl hN ?_)
    | (at_make; refine wpList_make_own _ rfl _ _ 42 rfl w.heap.size 46 i0 (.agg #[.string ⟨#[]⟩, .slice none 0 0]) 2 Tryd.underlying42 hi hz0 hz1 _ _ _ (Maps.size s.names) rfl rfl rfl (by rw [hz2]; omega) (by unfold maxLen; omega) (Nat.le_refl _) ?_; intro w1 hrow1 hg1; have k31 : w1.cell? ⟨G.F, 3, none⟩ = some (.map (some G.N)) := (hg1.cell_far ⟨G.F, 3, none⟩ hlF (by simp)).trans k3))
  refine (sorted_any G.N _ s.names w1 (tab_congr hN (hg1.block _ ((unhide HR).lt _ (by rw [(unhide HR).rN]; simp)) (by simp))) hm).mono ?_
  rintro e w2 ⟨gn, cn, rfl, hrowN, hbl2⟩
  rw [← hLn] at hrowN ⊢
  have hB2 : Below w.heap.size w w2 := ((Below.refl _ _).grown hg1 (Nat.le_refl _) (fun j hj => by cases hj)).trans (hbl2.mono hg1.size)
  have hrow2 := row_below hrow1 hbl2
  have hrowN2 := row_mono hrowN hg1.size
  clear hrow1 hg1 hbl2 hrowN k31 hN k3
  go_wp2
  go_loopw [3, 18] (fun v i wr => ∃ k : Nat, k ≤ L ∧ i = .int .i64 k ∧ FilesAt wr w.heap.size v (fl.take k) ∧ wr.ownsRow w.heap.size 9 1 (.slice (some ⟨gn, 0, none⟩) L cn) L ((namesOf s.names).map encStr) ∧ Below w.heap.size w wr)
    (fun _ i _ => L - (intOf i).toNat)
  case atStart => exact ⟨0, Nat.zero_le _, rfl, FilesAt.start hrow2, hrowN2, hB2⟩
  case round =>
    obtain ⟨k, hk, rfl, hfa, hrN, hBr⟩ := hrel
    by_cases hlt : k < L
    · obtain ⟨nm, hnm⟩ : ∃ nm, (namesOf s.names)[k]? = some nm := ⟨_, List.getElem?_eq_getElem (by omega)⟩
      have hmem : nm ∈ namesOf s.names := List.mem_of_getElem? hnm
      obtain ⟨f, hf, hfl2⟩ := unhide HG nm hmem
      have hR := (unhide HR).below hBr
      have hnl : (⟨nm.toArray⟩ : ByteArray).size ≤ maxLen := by
        have := namesOf_le (unhide HR).tN nm hmem
        simpa [ByteArray.size] using this
      have hx : fl[k]? = some (nm, f.data) := by rw [unhide HFL]; simp [fileL, hnm, hf]
      have kn : wr.cell? ⟨gn, k, none⟩ = some (.string ⟨nm.toArray⟩) := by
        obtain ⟨g', c', e, hc⟩ := row_cell hrN (k := k) (u := encStr nm) (by simp [hnm])
        simp at e; rw [e.1]; exact hc
      have q := hR.files _ f hf
      obtain ⟨fa, fc, hfv⟩ := row_form q.row
      obtain ⟨b, hbb⟩ : ∃ b, b = G.fb (num s.names ⟨nm.toArray⟩) := ⟨_, rfl⟩
      have k0 : wr.cell? ⟨b, 0, none⟩ = some (.slice fa f.data.length fc) := by rw [hbb, ← hfv]; exact cell_fs q.block rfl
      have HF := hide (file_some hR ⟨nm.toArray⟩ hnl f hf)
      rw [← hbb] at HF
      have hby : Bytes wr fa f.data.length f.data := front_bytes (base := 0) (c := fc) (by rw [← hfv]; exact q.row)
      have HCL : Hid (∀ nq, _) := fun nq => clone_any (w := wr.drewN nq) fc (⟨hby.len, hby.nil, hby.cell⟩ : Bytes (wr.drewN nq) fa f.data.length f.data) (by omega)
      obtain ⟨vs, a1, a2, a3⟩ := hfa
      have hkl : (fl.take k).length = k := by rw [List.length_take, ← unhide HL]; omega
      rw [hkl] at a2
      have HA1 := hide a1
      have HA3 := hide a3
      have HX := hide hx
      have HRN := hide hrN
      have HBr := hide hBr
      have HKL := hide hkl
      have lw := hBr.size
      clear hR q hfv hbb hby hx hnm hmem hf hrN a1 a3 hBr hkl
      go_wp2_with (first
        | (go_at_call 45; refine (unhide HF).mono ?_; rintro e w3 ⟨rfl, nq, rfl⟩)
        | (go_at_call 41; refine (unhide HCL nq).mono ?_; rintro e w4 ⟨a', c', rfl, hrowD, hbl4⟩)
        | (at_builtin; refine wpList_append_own _ rfl _ _ 42 rfl w.heap.size 46 i0 (.agg #[.string ⟨#[]⟩, .slice none 0 0]) 2 40 Tryd.underlying42 hi hz0 hz1 hz2 rfl (by decide) _ _ _ rfl ((row_below a2 ⟨hbl4.os, hbl4.tape, hbl4.output, hbl4.size, hbl4.block⟩).alloc _) ⟨w4.heap.size, 0, none⟩ 1 1 [.string ⟨nm.toArray⟩, .slice a' f.data.length c'] rfl rfl (World.news_of_block (cs := #[.string ⟨nm.toArray⟩, .slice a' f.data.length c']) (t := 46) (fr := (0, 0)) (heap_alloc_new w4 _)) (by simp [Value.oneCell']) (by unfold maxLen; omega) (by omega) (by have := hbl4.size; simp at this; simp; omega) ?_; intro v' w5 hown' hgrow hnil))
      have hb4 : Below wr.heap.size wr w4 := ⟨hbl4.os, hbl4.tape, hbl4.output, hbl4.size, hbl4.block⟩
      have HRES := hide (files_round a2 (unhide HA1) (unhide HA3) (unhide HKL) (unhide HX) hb4 hrowD lw hown' hgrow (unhide HRN) (unhide HBr))
      go_roundw
      case rel => exact ⟨k + 1, by omega, by go_num, unhide HRES⟩
      case measure => simp [intOf]; omega
    · have hkL : k = L := by omega
      subst hkL
      have hfk : fl.take k = fl := by rw [unhide HL]; exact List.take_length
      obtain ⟨vs, a1, a2, a3⟩ := hfa
      rw [hfk, ← unhide HL] at a2
      obtain ⟨a, c, rfl⟩ := row_form a2
      have HRES : Hid (FilesAt wr w.heap.size (.slice a k c) fl) := ⟨vs, by rw [hfk] at a1; exact a1, by rw [← unhide HL]; exact a2, by rw [hfk] at a3; exact a3⟩
      clear a1 a2 a3 hfk hrN
      go_wp2
      go_ret
      exact ⟨a, c, rfl, unhide HRES, hBr⟩

end Go.Proofs.YtbdbobikiikbgaaDoor
