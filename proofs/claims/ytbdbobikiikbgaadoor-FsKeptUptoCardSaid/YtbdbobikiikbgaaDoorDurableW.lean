/-
  The contract of Durable.
-/
import Derived.Test.YtbdbobikiikbgaaDoorFilesW
namespace Go.Proofs.YtbdbobikiikbgaaDoor
open Go.RowKit Go.WideMaps Go.Maps Go.Sort

theorem bytes_take {w : World} {a : Option Addr} {l : List UInt8} (h : Bytes w a l.length l) (d : Nat) : Bytes w a (l.take d).length (l.take d) := by
  refine ⟨rfl, fun e => ?_, fun ad ha i hi => ?_⟩
  · have := h.nil e; rw [List.length_take]; omega
  · rw [List.length_take] at hi
    rw [h.cell ad ha i (by omega)]
    simp [List.getD, List.getElem?_take]
    rw [if_pos (by omega)]

set_option maxRecDepth 100000 in
set_option maxHeartbeats 2000000 in
theorem durable_rep {w : World} {G : Lie} {s : AS} (h : Rep w G s) (hb : Bd s) (hget : ∀ l, l ∈ namesOf s.durable → ∃ f, s.files (num s.durable ⟨l.toArray⟩) = some f ∧ f.data.length ≤ 1099511627776) :
    Calls Tryd.prog 24 #[.pointer (some ⟨G.F, 0, none⟩)] w fun e w' => ∃ (a : Option Addr) (c : Nat), e = .returned (.slice a (fileL s s.durable (fun f => f.data.take f.dur)).length c) ∧
      FilesAt w' w.heap.size (.slice a (fileL s s.durable (fun f => f.data.take f.dur)).length c) (fileL s s.durable (fun f => f.data.take f.dur)) ∧ Below w.heap.size w w' := by
  obtain ⟨i0, hi, hz0, hz1, hz2⟩ := info_parts Tryd.info46
  have k3 : w.cell? ⟨G.F, 4, none⟩ = some (.map (some G.D)) := cell_fs h.fsb rfl
  have hN := h.tD
  have hm := hb.mD
  have hlF := lt_of_cell k3
  have HR := hide h
  have HG := hide hget
  obtain ⟨fl, hfl⟩ : ∃ fl, fl = fileL s s.durable (fun f => f.data.take f.dur) := ⟨_, rfl⟩
  have hLn : fl.length = (namesOf s.durable).length := by rw [hfl]; simp [fileL]
  have hLm : (namesOf s.durable).length ≤ 1099511627776 := by
    have e : (namesOf s.durable).length = Maps.size s.durable := by
      unfold namesOf; rw [(List.mergeSort_perm _ _).length_eq]
      obtain ⟨es, e, _⟩ := tab_tidy hN
      rw [e]; simp [strKeys, Maps.size]
    omega
  have HFL := hide hfl
  rw [← hfl]
  clear h hb hget hfl
  obtain ⟨L, hL⟩ : ∃ L, L = fl.length := ⟨_, rfl⟩
  rw [← hL]
  rw [← hL] at hLn
  rw [← hLn] at hLm
  have HL := hide hL
  clear hL
  go_enter Tryd.func24, Tryd.ntmps24
  go_wp2_with (first
    | (at_len; refine wpList_len_own _ rfl _ 62 rfl 9 3 Tryd.underlying62 _ G.D _ _ rfl hN ?_)
    | (at_make; refine wpList_make_own _ rfl _ _ 42 rfl w.heap.size 46 i0 (.agg #[.string ⟨#[]⟩, .slice none 0 0]) 2 Tryd.underlying42 hi hz0 hz1 _ _ _ (Maps.size s.durable) rfl rfl rfl (by rw [hz2]; omega) (by unfold maxLen; omega) (Nat.le_refl _) ?_; intro w1 hrow1 hg1; have k31 : w1.cell? ⟨G.F, 4, none⟩ = some (.map (some G.D)) := (hg1.cell_far ⟨G.F, 4, none⟩ hlF (by simp)).trans k3))
  refine (sorted_any G.D _ s.durable w1 (tab_congr hN (hg1.block _ ((unhide HR).lt _ (by rw [(unhide HR).rD]; simp)) (by simp))) hm).mono ?_
  rintro e w2 ⟨gn, cn, rfl, hrowN, hbl2⟩
  rw [← hLn] at hrowN ⊢
  have hB2 : Below w.heap.size w w2 := ((Below.refl _ _).grown hg1 (Nat.le_refl _) (fun j hj => by cases hj)).trans (hbl2.mono hg1.size)
  have hrow2 := row_below hrow1 hbl2
  have hrowN2 := row_mono hrowN hg1.size
  clear hrow1 hg1 hbl2 hrowN k31 hN k3
  go_wp2
  go_loopw [3, 19] (fun v i wr => ∃ k : Nat, k ≤ L ∧ i = .int .i64 k ∧ FilesAt wr w.heap.size v (fl.take k) ∧ wr.ownsRow w.heap.size 9 1 (.slice (some ⟨gn, 0, none⟩) L cn) L ((namesOf s.durable).map encStr) ∧ Below w.heap.size w wr)
    (fun _ i _ => L - (intOf i).toNat)
  case atStart => exact ⟨0, Nat.zero_le _, rfl, FilesAt.start hrow2, hrowN2, hB2⟩
  case round =>
    obtain ⟨k, hk, rfl, hfa, hrN, hBr⟩ := hrel
    by_cases hlt : k < L
    · obtain ⟨nm, hnm⟩ : ∃ nm, (namesOf s.durable)[k]? = some nm := ⟨_, List.getElem?_eq_getElem (by omega)⟩
      have hmem : nm ∈ namesOf s.durable := List.mem_of_getElem? hnm
      obtain ⟨f, hf, hfl2⟩ := unhide HG nm hmem
      have hR := (unhide HR).below hBr
      have hnl : (⟨nm.toArray⟩ : ByteArray).size ≤ maxLen := by
        have := namesOf_le (unhide HR).tD nm hmem
        simpa [ByteArray.size] using this
      have hx : fl[k]? = some (nm, f.data.take f.dur) := by rw [unhide HFL]; simp [fileL, hnm, hf]
      have kn : wr.cell? ⟨gn, k, none⟩ = some (.string ⟨nm.toArray⟩) := by
        obtain ⟨g', c', e, hc⟩ := row_cell hrN (k := k) (u := encStr nm) (by simp [hnm])
        simp at e; rw [e.1]; exact hc
      have q := hR.files _ f hf
      obtain ⟨fa, fc, hfv⟩ := row_form q.row
      have hle := q.le
      have hfx : f.data.length ≤ fc ∧ fc ≤ maxLen ∧ (fa = none → fc = 0) := by
        have hr := q.row
        rw [hfv] at hr
        rcases hr.2 with ⟨e, e2⟩ | ⟨g1, c1, u1, e, _, _, e2, e3, _⟩
        · simp at e; unfold maxLen; omega
        · simp at e
          refine ⟨by omega, by omega, fun hn => ?_⟩
          rw [hn] at e; simp at e
      obtain ⟨hx1, hx2, hx3⟩ := hfx
      unfold maxLen at hx2
      have hnum : (Lit.int .i64 (num s.durable ⟨nm.toArray⟩)).wf = true := (hR.tD.num _ hnl).2
      have hlk0 := hR.tD.look ⟨nm.toArray⟩ hnl
      obtain ⟨c0, hlk1, hlk2, _⟩ := hlk0
      have hc0 : c0 = num s.durable ⟨nm.toArray⟩ := by simp [num, hlk2]
      obtain ⟨x, hxx⟩ : ∃ x, x = num s.durable ⟨nm.toArray⟩ := ⟨_, rfl⟩
      rw [hc0, ← hxx] at hlk1
      obtain ⟨b, hbb⟩ : ∃ b, b = G.fb x := ⟨_, rfl⟩
      have hlf : ∀ nq, (Instr.lookup 60 (.map (some G.M)) (.int .i64 x) false).run Tryd.prog (wr.drewN nq) = .ok (.pointer (some ⟨b, 0, none⟩)) (wr.drewN nq) := by
        rw [hbb, hxx]; exact look_file hR _ hnum f hf
      have k1 : wr.cell? ⟨G.F, 1, none⟩ = some (.map (some G.M)) := cell_fs hR.fsb rfl
      have k4 : wr.cell? ⟨G.F, 4, none⟩ = some (.map (some G.D)) := cell_fs hR.fsb rfl
      have HFT : Hid (∀ nq, Calls Tryd.prog 54 #[.pointer (some ⟨b, 0, none⟩)] (wr.drewN nq) fun e w' => e = .returned (.slice fa f.dur fc) ∧ ∃ m, w' = (wr.drewN nq).drewN m) := by
        intro nq
        have q0 : (wr.drewN nq).cell? ⟨b, 0, none⟩ = some (.slice fa f.data.length fc) := by rw [hbb, hxx, ← hfv]; exact cell_fs (w := wr) q.block rfl
        have q1 : (wr.drewN nq).cell? ⟨b, 1, none⟩ = some (.int .i64 f.dur) := by rw [hbb, hxx]; exact cell_fs (w := wr) q.block rfl
        exact front_any b _ _ fc fa _ q0 q1 hle hx1 (by omega) hx3
      have hby0 : Bytes wr fa f.data.length f.data := front_bytes (base := 0) (c := fc) (by rw [← hfv]; exact q.row)
      have hby : Bytes wr fa (f.data.take f.dur).length (f.data.take f.dur) := bytes_take hby0 f.dur
      have hdl : (f.data.take f.dur).length = f.dur := by rw [List.length_take]; omega
      rw [hdl] at hby
      have HCL : Hid (∀ nq, _) := fun nq => clone_any (w := wr.drewN nq) fc (⟨by rw [hdl], hby.nil, hby.cell⟩ : Bytes (wr.drewN nq) fa f.dur (f.data.take f.dur)) (by omega)
      have HDL := hide hdl
      clear hlk2 hc0 hxx hnum hx1 hx2 hx3 hle hby0 hdl
      obtain ⟨vs, a1, a2, a3⟩ := hfa
      have hkl : (fl.take k).length = k := by rw [List.length_take, ← unhide HL]; omega
      rw [hkl] at a2
      have HA1 := hide a1
      have HA3 := hide a3
      have HX := hide hx
      have HRN := hide hrN
      have HBr := hide hBr
      have HKL := hide hkl
      have lw := hBr.size
      clear hR q hfv hbb hby hx hnm hmem hf hrN a1 a3 hBr hkl
      go_wp2
      go_quiet ((go_at_call 54; exact Calls.quiet_of (unhide HFT _)))
      go_wp2_with (first
        | (go_at_call 41; refine (unhide HCL nq).mono ?_; rintro e w4 ⟨a', c', rfl, hrowD, hbl4⟩)
        | (at_builtin; refine wpList_append_own _ rfl _ _ 42 rfl w.heap.size 46 i0 (.agg #[.string ⟨#[]⟩, .slice none 0 0]) 2 40 Tryd.underlying42 hi hz0 hz1 hz2 rfl (by decide) _ _ _ rfl ((row_below a2 ⟨hbl4.os, hbl4.tape, hbl4.output, hbl4.size, hbl4.block⟩).alloc _) ⟨w4.heap.size, 0, none⟩ 1 1 [.string ⟨nm.toArray⟩, .slice a' f.dur c'] rfl rfl (World.news_of_block (cs := #[.string ⟨nm.toArray⟩, .slice a' f.dur c']) (t := 46) (fr := (0, 0)) (heap_alloc_new w4 _)) (by simp [Value.oneCell']) (by unfold maxLen; omega) (by omega) (by have := hbl4.size; simp at this; simp; omega) ?_; intro v' w5 hown' hgrow hnil))
      have hb4 : Below wr.heap.size wr w4 := ⟨hbl4.os, hbl4.tape, hbl4.output, hbl4.size, hbl4.block⟩
      have HRES := hide (files_round a2 (unhide HA1) (unhide HA3) (unhide HKL) (unhide HX) hb4 (l := f.data.take f.dur) (a' := a') (c' := c') (by rw [unhide HDL]; exact hrowD) lw (by rw [unhide HDL]; exact hown') hgrow (unhide HRN) (unhide HBr))
      go_roundw
      case rel => exact ⟨k + 1, by omega, by go_num, unhide HRES⟩
      case measure => simp [intOf]; omega
    · have hkL : k = L := by omega
      subst hkL
      have hfk : fl.take k = fl := by rw [unhide HL]; exact List.take_length
      obtain ⟨vs, a1, a2, a3⟩ := hfa
      rw [hfk, ← unhide HL] at a2
      obtain ⟨a, c, rfl⟩ := row_form a2
      have HRES : Hid (FilesAt wr w.heap.size (.slice a k c) fl) := ⟨vs, by rw [hfk] at a1; exact a1, by rw [← unhide HL]; exact a2, by rw [hfk] at a3; exact a3⟩
      clear a1 a2 a3 hfk hrN
      go_wp2
      go_ret
      exact ⟨a, c, rfl, unhide HRES, hBr⟩

end Go.Proofs.YtbdbobikiikbgaaDoor
