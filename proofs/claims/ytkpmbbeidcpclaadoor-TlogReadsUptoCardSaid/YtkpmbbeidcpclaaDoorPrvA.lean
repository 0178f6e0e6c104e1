/-
  Lists of hashes held against one another.
-/
import Derived.Test.YtkpmbbeidcpclaaDoorChk
namespace Go.Proofs.YtkpmbbeidcpclaaDoor
open Go.RowKit

set_option maxRecDepth 100000 in
set_option maxHeartbeats 1000000 in
theorem sameLists_same {w : World} {a b : Option Addr} {n c d : Nat} {ps : List Bs} (hn : ps.length = n) (hN : n ≤ 1000000) (hl : ∀ p ∈ ps, p.length ≤ 1073741824) (h : PAt w a ps) (h2 : PAt w b ps) :
    Calls Tryd.prog 22 #[.slice a n c, .slice b n d] w fun e w' => e = .returned (.bool true) ∧ ∃ q, w' = w.drewN q := by
  have HN := hide hn
  have H := hide h
  have H2 := hide h2
  have HL := hide hl
  clear hn h h2 hl
  go_enter Tryd.func22, Tryd.ntmps22
  go_wp2
  go_loopw [5] (fun v5 wr => ∃ k q : Nat, k ≤ n ∧ v5 = .int .i64 (k : Int) ∧ wr = w.drewN q) (fun v5 _ => n - (intOf v5).toNat)
  case atStart => exact ⟨0, 0, Nat.zero_le _, rfl, rfl⟩
  case round =>
    rename World => wr
    obtain ⟨k, q, hk, rfl, hwr⟩ := hrel
    by_cases hlt : k < n
    · have hkp : k < ps.length := by rw [unhide HN]; exact hlt
      rcases (unhide H).els with h0 | ⟨B, O, rfl, he⟩
      · rw [h0] at hkp; simp at hkp
      rcases (unhide H2).els with h0 | ⟨B2, O2, rfl, he2⟩
      · rw [h0] at hkp; simp at hkp
      obtain ⟨x, e, hc, hb⟩ := he k hkp
      obtain ⟨y, f, hc2, hb2⟩ := he2 k hkp
      have hpl := unhide HL ps[k] (List.getElem_mem hkp)
      obtain ⟨p, hp⟩ : ∃ p, ps[k] = p := ⟨_, rfl⟩
      rw [hp] at hc hb hc2 hb2 hpl
      obtain ⟨m, hm⟩ : ∃ m, p.length = m := ⟨_, rfl⟩
      rw [hm] at hc hc2 hpl
      have bwr : Below w.heap.size w wr := by rw [hwr]; exact ⟨rfl, rfl, rfl, Nat.le_refl _, fun _ _ => rfl⟩
      have kc : wr.cell? ⟨B, O + k, none⟩ = some (.slice x m e) := (bwr.cell (lt_of_cell hc)).trans hc
      have kc2 : wr.cell? ⟨B2, O2 + k, none⟩ = some (.slice y m f) := (bwr.cell (lt_of_cell hc2)).trans hc2
      have HSB : Hid (∀ wx, (∃ q, wx = wr.drewN q) → Calls Tryd.prog 20 #[.slice x m e, .slice y m f] wx fun e w' => e = .returned (.bool true) ∧ ∃ q, w' = wx.drewN q) := hide (fun wx ⟨q', hq'⟩ => by
        have bx : Below w.heap.size w wx := by rw [hq', hwr]; exact ⟨rfl, rfl, rfl, Nat.le_refl _, fun _ _ => rfl⟩
        refine (sameBytes_any (c := e) (c2 := f) hm hm (by omega) (by omega) (hb.low bx) (hb2.low bx)).mono ?_
        rintro e w' ⟨rfl, h⟩
        exact ⟨by rw [decide_eq_true rfl], h⟩)
      have HWR := hide hwr
      clear he he2 hc hc2 hb hb2 hp hm bwr hwr
      go_wp2
      go_quiet ((go_at_call 20; exact Calls.quiet_of (unhide HSB _ ⟨_, rfl⟩)))
      go_wp2
      go_roundw
      case rel => exact ⟨k + 1, q + nq, hlt, by push_cast; rfl, by rw [unhide HWR]; first | rfl | rw [World.drewN_drewN]⟩
      case measure => simp [intOf]; omega
    · have HWR := hide hwr
      clear hwr
      go_wp2
      go_ret
      exact ⟨rfl, q, unhide HWR⟩

end Go.Proofs.YtkpmbbeidcpclaaDoor
