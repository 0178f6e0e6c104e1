/-
  The contract of SameFiles, at two lists that are the same.
-/
import Derived.Test.YtbdbobikiikbgaaDoorSameB
import Derived.Test.YtbdbobikiikbgaaDoorLists
namespace Go.Proofs.YtbdbobikiikbgaaDoor
open Go.RowKit Go.WideMaps Go.Maps Go.Sort

theorem fileCells_get : ∀ (fl : List (List UInt8 × List UInt8)) (vs : List Value), vs.length = fl.length → ∀ k x u, fl[k]? = some x → vs[k]? = some u → (fileCells fl vs)[k * 2]? = some (encStr x.1) ∧ (fileCells fl vs)[k * 2 + 1]? = some u
  | [], [], _, k, x, u, hx, _ => by simp at hx
  | a :: fl, b :: vs, h, 0, x, u, hx, hu => by
    obtain rfl : a = x := by simpa using hx
    obtain rfl : b = u := by simpa using hu
    exact ⟨rfl, rfl⟩
  | a :: fl, b :: vs, h, k + 1, x, u, hx, hu => by
    obtain ⟨h1, h2⟩ := fileCells_get fl vs (by simpa using h) k x u (by simpa using hx) (by simpa using hu)
    refine ⟨?_, ?_⟩
    · rw [show (k + 1) * 2 = k * 2 + 1 + 1 by omega]; simpa [fileCells] using h1
    · rw [show (k + 1) * 2 + 1 = k * 2 + 1 + 1 + 1 by omega]; simpa [fileCells] using h2

/-- What element k of a list of files reads as. -/
theorem FilesAt.get {w : World} {base : Nat} {a : Option Addr} {n c : Nat} {fl : List (List UInt8 × List UInt8)} (h : FilesAt w base (.slice a n c) fl) (k : Nat) (x : List UInt8 × List UInt8) (hx : fl[k]? = some x) :
    ∃ g da dc, a = some ⟨g, 0, none⟩ ∧ w.cell? ⟨g, k * 2, none⟩ = some (.string ⟨x.1.toArray⟩) ∧ w.cell? ⟨g, k * 2 + 1, none⟩ = some (.slice da x.2.length dc) ∧ Bytes w da x.2.length x.2 ∧ x.2.length ≤ dc := by
  obtain ⟨vs, h1, h2, h3⟩ := h
  have hk := (List.getElem?_eq_some_iff.1 hx).1
  obtain ⟨u, hu⟩ : ∃ u, vs[k]? = some u := ⟨vs[k]'(by omega), by simp⟩
  obtain ⟨c0, c1⟩ := fileCells_get fl vs h1 k x u hx hu
  obtain ⟨g, cap, e, k0⟩ := row_cell h2 c0
  obtain ⟨g', cap', e', k1⟩ := row_cell h2 c1
  simp at e e'
  have eg : g' = g := by have := e'.1.symm.trans e.1; simpa using this
  rw [eg] at k1
  have hrow := h3 k x u hx hu
  obtain ⟨da, dc, hu2⟩ := row_form hrow
  subst hu2
  have hle : x.2.length ≤ dc := by
    rcases hrow.2 with ⟨e1, e2⟩ | ⟨_, _, _, e1, _, _, e2, _⟩
    · omega
    · simp at e1; omega
  refine ⟨g, da, dc, e.1, k0, k1, ?_, hle⟩
  rcases hrow.2 with ⟨e1, e2⟩ | ⟨gd, cd, cur, e1, hb, hh, h4, h5, h6, h7⟩
  · refine ⟨rfl, fun _ => e2, fun ad ha i hi => ?_⟩
    omega
  · refine ⟨rfl, fun e => ?_, fun ad ha i hi => ?_⟩
    · rw [e] at e1; simp at e1
    · simp at e1
      obtain ⟨e1, _⟩ := e1
      rw [e1] at ha
      obtain rfl : (⟨gd, 0, none⟩ : Addr) = ad := by simpa using ha
      have e2 : (⟨gd, 0, none⟩ : Addr).add i = ⟨gd, i, none⟩ := by unfold Addr.add; split <;> simp_all
      rw [e2]
      obtain ⟨g', cap', e3, hc⟩ := row_cell hrow (k := i) (u := .int .u8 ((x.2.getD i 0).toNat : Int)) (by simp [bytesV, hi, List.getD])
      rw [e1] at e3
      simp at e3
      rw [e3.1]; exact hc

theorem FilesAt.bytes_lt {w : World} {base : Nat} {v : Value} {fl : List (List UInt8 × List UInt8)} (h : FilesAt w base v fl) : fl.length ≤ maxLen := by
  obtain ⟨vs, h1, h2, h3⟩ := h
  rcases h2.2 with ⟨_, e2⟩ | ⟨_, _, _, _, _, _, e2, e3, _⟩
  · omega
  · omega

set_option maxHeartbeats 2000000 in
theorem sameFiles_same {w : World} {b1 b2 : Nat} {a1 a2 : Option Addr} {n c1 c2 : Nat} {fl : List (List UInt8 × List UInt8)} (hn : n = fl.length) (h1 : FilesAt w b1 (.slice a1 n c1) fl) (h2 : FilesAt w b2 (.slice a2 n c2) fl) (hs : ∀ x ∈ fl, x.2.length ≤ 140737488355328) :
    Calls Tryd.prog 26 #[.slice a1 n c1, .slice a2 n c2] w fun e w' => e = .returned (.bool true) ∧ ∃ nq, w' = w.drewN nq := by
  have hmax := h1.bytes_lt
  have hcap : ∀ {b : Nat} {a : Option Addr} {c : Nat}, FilesAt w b (.slice a n c) fl → n ≤ c := by
    intro b a c h
    obtain ⟨vs, _, h2, _⟩ := h
    rcases h2.2 with ⟨e1, e2⟩ | ⟨_, _, _, e1, _, _, e2, e3, _⟩
    · omega
    · simp at e1; omega
  have hc1 := hcap h1
  have hc2 := hcap h2
  unfold maxLen at hmax
  have hmx : n ≤ 9223372036854775807 := by omega
  have HG : Hid (∀ k x, fl[k]? = some x → ∃ g1 d1 e1 g2 d2 e2, a1 = some ⟨g1, 0, none⟩ ∧ a2 = some ⟨g2, 0, none⟩ ∧ w.cell? ⟨g1, k * 2, none⟩ = some (.string ⟨x.1.toArray⟩) ∧ w.cell? ⟨g1, k * 2 + 1, none⟩ = some (.slice d1 x.2.length e1) ∧
      w.cell? ⟨g2, k * 2, none⟩ = some (.string ⟨x.1.toArray⟩) ∧ w.cell? ⟨g2, k * 2 + 1, none⟩ = some (.slice d2 x.2.length e2) ∧
      ∀ nq, Calls Tryd.prog 22 #[.slice d1 x.2.length e1, .slice d2 x.2.length e2] (w.drewN nq) fun e w' => e = .returned (.bool true) ∧ ∃ nq', w' = (w.drewN nq).drewN nq') := by
    intro k x hx
    obtain ⟨g1, d1, e1, p1, p2, p3, p4, p5⟩ := h1.get k x hx
    obtain ⟨g2, d2, e2, q1, q2, q3, q4, q5⟩ := h2.get k x hx
    refine ⟨g1, d1, e1, g2, d2, e2, p1, q1, p2, p3, q2, q3, fun nq => ?_⟩
    have := sameBytes_any (w := w.drewN nq) (c1 := e1) (c2 := e2) (⟨p4.len, p4.nil, p4.cell⟩ : Bytes (w.drewN nq) d1 x.2.length x.2) (⟨q4.len, q4.nil, q4.cell⟩ : Bytes (w.drewN nq) d2 x.2.length x.2) (hs x (List.mem_of_getElem? hx)) p5 q5
    simpa using this
  have HN := hide hn
  clear h1 h2 hs hn hcap hmax
  go_enter Tryd.func26, Tryd.ntmps26
  go_wp2
  go_loopw [5] (fun i wr => ∃ k nr : Nat, k ≤ n ∧ i = .int .i64 k ∧ wr = w.drewN nr) (fun i _ => n - (intOf i).toNat)
  case atStart => exact ⟨0, 0, Nat.zero_le _, rfl, rfl⟩
  case round =>
    obtain ⟨k, nr, hk, rfl, hwr⟩ := hrel
    have HWR := hide hwr
    by_cases hlt : k < n
    · obtain ⟨x, hx⟩ : ∃ x, fl[k]? = some x := ⟨fl[k]'(by rw [← unhide HN]; exact hlt), by simp⟩
      obtain ⟨g1, d1, e1, g2, d2, e2, rfl, rfl, k1, k2, k3, k4, hcall⟩ := unhide HG k x hx
      have HC : Hid (∀ nq, Calls Tryd.prog 22 #[.slice d1 x.2.length e1, .slice d2 x.2.length e2] (wr.drewN nq) fun e w' => e = .returned (.bool true) ∧ ∃ m, w' = (wr.drewN nq).drewN m) := by
        intro nq
        rw [hwr, World.drewN_drewN]; exact hcall _
      have m1 : wr.cell? ⟨g1, k * 2, none⟩ = some (.string ⟨x.1.toArray⟩) := by rw [hwr]; exact k1
      have m2 : wr.cell? ⟨g1, k * 2 + 1, none⟩ = some (.slice d1 x.2.length e1) := by rw [hwr]; exact k2
      have m3 : wr.cell? ⟨g2, k * 2, none⟩ = some (.string ⟨x.1.toArray⟩) := by rw [hwr]; exact k3
      have m4 : wr.cell? ⟨g2, k * 2 + 1, none⟩ = some (.slice d2 x.2.length e2) := by rw [hwr]; exact k4
      clear hcall hx k1 k2 k3 k4 hwr
      go_wp2
      go_quiet ((go_at_call 22; exact Calls.quiet_of (unhide HC _)))
      go_wp2
      go_roundw
      case rel => exact ⟨k + 1, nr + nq, by omega, by go_num, by rw [unhide HWR, World.drewN_drewN]⟩
      case measure => simp [intOf]; omega
    · have hkn : k = n := by omega
      subst hkn
      clear hwr
      go_wp2
      go_ret
      exact ⟨rfl, nr, unhide HWR⟩

end Go.Proofs.YtbdbobikiikbgaaDoor
