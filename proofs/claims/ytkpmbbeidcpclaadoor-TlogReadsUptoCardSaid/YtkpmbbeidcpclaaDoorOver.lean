/-
  Hashes of a list are written over.
-/
import Derived.Test.YtkpmbbeidcpclaaDoorLogQ
namespace Go.Proofs.YtkpmbbeidcpclaaDoor
open Go.RowKit

/-- All blocks but those from base up to top are as they were. -/
structure Mid (base top : Nat) (w w' : World) : Prop where
  os : w'.os = w.os
  tape : w'.tape = w.tape
  output : w'.output = w.output
  size : w'.heap.size = w.heap.size
  block : ∀ k : Nat, k < base ∨ top ≤ k → w'.heap[k]? = w.heap[k]?
theorem Mid.refl (base top : Nat) (w : World) : Mid base top w w := ⟨rfl, rfl, rfl, rfl, fun _ _ => rfl⟩
theorem Mid.low {base top : Nat} {w w' : World} (h : Mid base top w w') : Below base w w' := ⟨h.os, h.tape, h.output, by rw [h.size]; exact Nat.le_refl _, fun k hk => h.block k (Or.inl hk)⟩

/-- A list whose hashes may be written over: its row, and blocks of bytes from base up to top. -/
structure Ovr (base top : Nat) (w : World) (g n : Nat) (us : List Value) : Prop where
  row : ∃ cur, Blk w g cur 29 ∧ ∀ k, k < n → cur[k]? = us[k]?
  els : ∀ k, k < n → ∃ b c cs, us[k]? = some (.slice (some ⟨b, 0, none⟩) 32 c) ∧ Blk w b cs 5 ∧ 32 ≤ cs.size ∧ base ≤ b ∧ b < top

theorem Ovr.set {base top : Nat} {w : World} {g n : Nat} {us : List Value} (h : Ovr base top w g n us) {b j : Nat} {cs : Array Value} {v : Value} (hb : Blk w b cs 5) : Ovr base top (w.setCell ⟨b, j, none⟩ v) g n us := by
  obtain ⟨⟨cur, h1, h2⟩, h3⟩ := h
  refine ⟨⟨cur, ?_, h2⟩, fun k hk => ?_⟩
  · refine (set_other (fun e => ?_)).trans h1
    rw [e] at h1
    have e1 : w.heap[b]? = some (.cells cur 29 (0, 0)) := h1
    have e2 : w.heap[b]? = some (.cells cs 5 (0, 0)) := hb
    rw [e1] at e2
    simp at e2
  · obtain ⟨b', c, cs', e1, e2, e3, e4, e5⟩ := h3 k hk
    by_cases hbb : b' = b
    · subst hbb
      have e6 : cs' = cs := by
        have x1 : w.heap[b']? = some (.cells cs' 5 (0, 0)) := e2
        have x2 : w.heap[b']? = some (.cells cs 5 (0, 0)) := hb
        rw [x1] at x2
        simpa using x2
      exact ⟨b', c, _, e1, e2.set j v, by simp [e3], e4, e5⟩
    · exact ⟨b', c, cs', e1, (set_other hbb).trans e2, e3, e4, e5⟩

theorem Mid.set {base top : Nat} {w w' : World} {b j : Nat} {v : Value} (h : Mid base top w w') (h1 : base ≤ b) (h2 : b < top) : Mid base top w (w'.setCell ⟨b, j, none⟩ v) :=
  ⟨h.os, h.tape, h.output, by rw [set_size]; exact h.size, fun k hk => by rw [set_other (by omega)]; exact h.block k hk⟩

set_option maxRecDepth 100000 in
set_option maxHeartbeats 1000000 in
theorem over_some {base top : Nat} {w : World} {g n c : Nat} {us : List Value} (hN : n ≤ 1000000) (h : Ovr base top w g n us) :
    Calls Tryd.prog 23 #[.slice (some ⟨g, 0, none⟩) n c] w fun e w' => e = .returned (.tuple #[]) ∧ Mid base top w w' := by
  have H := hide h
  clear h
  go_enter Tryd.func23, Tryd.ntmps23
  go_wp2
  go_loopw [2, 3] (fun v2 _ wr => ∃ i : Nat, i ≤ n ∧ v2 = .int .i64 (i : Int) ∧ Ovr base top wr g n us ∧ Mid base top w wr) (fun v2 _ _ => n - (intOf v2).toNat)
  case atStart => exact ⟨0, Nat.zero_le _, rfl, unhide H, Mid.refl _ _ _⟩
  case round =>
    rename World => wr
    obtain ⟨i, hi, rfl, ho, hm⟩ := hrel
    by_cases hlt : i < n
    · obtain ⟨b, d, cs, e1, _, _, hb1, hb2⟩ := ho.els i hlt
      have HC : Hid (∀ wy, Ovr base top wy g n us → wy.cell? ⟨g, i, none⟩ = some (.slice (some ⟨b, 0, none⟩) 32 d)) := hide (fun wy hy => by
        obtain ⟨cur, h1, h2⟩ := hy.row
        rw [h1.cell i, h2 i hlt, e1])
      have hci := unhide HC _ ho
      have HO := hide ho
      have HM := hide hm
      have HE1 := hide e1
      clear ho hm e1
      go_wp2
      go_loopw [3] (fun v3 wy => ∃ k : Nat, k ≤ 32 ∧ v3 = .int .i64 (k : Int) ∧ Ovr base top wy g n us ∧ Mid base top w wy) (fun v3 _ => 32 - (intOf v3).toNat)
      case atStart => exact ⟨0, Nat.zero_le _, rfl, unhide HO, unhide HM⟩
      case round =>
        rename World => wy
        obtain ⟨k, hk, rfl, hoy, hmy⟩ := hrel
        have hcy := unhide HC _ hoy
        by_cases hk32 : k < 32
        · obtain ⟨b', d', cs', e1', hbk, hsz, _, _⟩ := hoy.els i hlt
          have hbb : b' = b := by
            rw [unhide HE1] at e1'
            have := (Value.slice.inj (Option.some.inj e1')).1
            have := Option.some.inj this
            exact (Addr.mk.inj this).1.symm
          subst hbb
          have hcell : wy.cell? ⟨b', k, none⟩ = some (cs'[k]'(by omega)) := by rw [hbk.cell k, Array.getElem?_eq_getElem]
          have hfree := hbk.free k
          have HR : Hid (Ovr base top (wy.setCell ⟨b', k, none⟩ (.int .u8 0)) g n us ∧ Mid base top w (wy.setCell ⟨b', k, none⟩ (.int .u8 0))) := hide ⟨hoy.set hbk, hmy.set hb1 hb2⟩
          have hk32i : (k : Int) < 32 := by omega
          generalize (cs'[k]'(by omega)) = old at hcell
          clear hbk hsz hoy hmy e1' hci
          go_wp2
          go_roundw
          case rel => exact ⟨k + 1, hk32, by push_cast; rfl, unhide HR⟩
          case measure => simp [intOf]; omega
        · have HR : Hid (Ovr base top wy g n us ∧ Mid base top w wy) := hide ⟨hoy, hmy⟩
          have hk32i : ¬ ((k : Int) < 32) := by omega
          clear hoy hmy hci
          go_wp2
          go_roundw
          case rel => exact ⟨i + 1, hlt, by push_cast; rfl, unhide HR⟩
          case measure => simp [intOf]; omega
    · have HM := hide hm
      clear ho hm
      go_wp2
      exact bodyPost_end (v := .tuple #[]) (by simp [results, Tryd.results23, go_sem]) rfl ⟨rfl, unhide HM⟩

theorem over_none {w : World} {a : Option Addr} {c : Nat} : Calls Tryd.prog 23 #[.slice a 0 c] w fun e w' => e = .returned (.tuple #[]) ∧ w' = w := by
  go_enter Tryd.func23, Tryd.ntmps23
  go_wp2
  go_loop [2, 3] (fun v2 _ => v2 = .int .i64 0) (fun _ _ => 0)
  case atStart => rfl
  case round =>
    obtain rfl := hrel
    go_wp2
    exact bodyPost_end (v := .tuple #[]) (by simp [results, Tryd.results23, go_sem]) rfl ⟨rfl, rfl⟩

end Go.Proofs.YtkpmbbeidcpclaaDoor
