/-
  The schedule.
-/
import Derived.Test.YtkablmjkffdloaaGreatDoorShaP
import Derived.Deep.RegionHeld3
import Derived.Lib.Walk
namespace Go.Proofs.YtkablmjkffdloaaGreatDoor
open Go.RowKit

def encW (x : UInt32) : Value := .int .u32 (x.toNat : Int)
/-- 64 words whose first ones are these. -/
def wArr (l : List UInt32) : Array Value := (l.map encW ++ List.replicate (64 - l.length) (Value.int .u32 0)).toArray
abbrev zero64 : Array Value := #[.int .u32 0, .int .u32 0, .int .u32 0, .int .u32 0, .int .u32 0, .int .u32 0, .int .u32 0, .int .u32 0, .int .u32 0, .int .u32 0, .int .u32 0, .int .u32 0, .int .u32 0, .int .u32 0, .int .u32 0, .int .u32 0, .int .u32 0, .int .u32 0, .int .u32 0, .int .u32 0, .int .u32 0, .int .u32 0, .int .u32 0, .int .u32 0, .int .u32 0, .int .u32 0, .int .u32 0, .int .u32 0, .int .u32 0, .int .u32 0, .int .u32 0, .int .u32 0, .int .u32 0, .int .u32 0, .int .u32 0, .int .u32 0, .int .u32 0, .int .u32 0, .int .u32 0, .int .u32 0, .int .u32 0, .int .u32 0, .int .u32 0, .int .u32 0, .int .u32 0, .int .u32 0, .int .u32 0, .int .u32 0, .int .u32 0, .int .u32 0, .int .u32 0, .int .u32 0, .int .u32 0, .int .u32 0, .int .u32 0, .int .u32 0, .int .u32 0, .int .u32 0, .int .u32 0, .int .u32 0, .int .u32 0, .int .u32 0, .int .u32 0, .int .u32 0]
theorem wArr_nil : wArr [] = zero64 := rfl
theorem wArr_size {l : List UInt32} (h : l.length ≤ 64) : (wArr l).size = 64 := by unfold wArr; simp; omega
theorem wArr_get {l : List UInt32} {k : Nat} (h : k < l.length) : (wArr l)[k]? = some (.int .u32 (l[k].toNat : Int)) := by
  unfold wArr
  rw [List.getElem?_toArray, List.getElem?_append_left (by simpa using h)]
  simp [h, encW]
theorem wArr_set {l : List UInt32} (h : l.length < 64) (x : UInt32) : (wArr l).setIfInBounds l.length (.int .u32 (x.toNat : Int)) = wArr (l ++ [x]) := by
  unfold wArr
  obtain ⟨m, hm⟩ : ∃ m, 64 - l.length = m + 1 := ⟨63 - l.length, by omega⟩
  have e : 64 - (l ++ [x]).length = m := by simp; omega
  rw [hm, e, List.setIfInBounds_toArray, List.set_append_right _ _ (by simp)]
  simp [List.replicate_succ, encW]
theorem wArr_full {l : List UInt32} (h : l.length = 64) : wArr l = (l.map encW).toArray := by unfold wArr; rw [h]; simp

/-- While the schedule is made: the words so far, in a world that has grown out of w. -/
structure SchR (w wr : World) (l : List UInt32) : Prop where
  low : Below w.heap.size w wr
  res : Blk wr w.heap.size zero64 123
  row : Blk wr (w.heap.size + 1) (wArr l) 123

theorem SchR.drew {w wr : World} {l : List UInt32} (h : SchR w wr l) : SchR w wr.drew l := ⟨h.low.drew, h.res, h.row⟩
theorem SchR.drewN {w wr : World} {l : List UInt32} (h : SchR w wr l) (n : Nat) : SchR w (wr.drewN n) l := ⟨⟨h.low.os, h.low.tape, h.low.output, h.low.size, h.low.block⟩, h.res, h.row⟩
theorem SchR.put {w wr : World} {l : List UInt32} (h : SchR w wr l) (hl : l.length < 64) (x : UInt32) : SchR w (wr.setCell ⟨w.heap.size + 1, l.length, none⟩ (.int .u32 (x.toNat : Int))) (l ++ [x]) := by
  refine ⟨h.low.setCell (p := ⟨w.heap.size + 1, _, none⟩) (Nat.le_succ _) _, h.res.other (by simp) _, ?_⟩
  have := h.row.set l.length (.int .u32 (x.toNat : Int))
  rw [wArr_set hl] at this
  exact this
theorem SchR.old {w wr : World} {l : List UInt32} (h : SchR w wr l) (hl : l.length ≤ 64) {j : Nat} (hj : j < 64) : ∃ v, wr.cell? ⟨w.heap.size + 1, j, none⟩ = some v :=
  ⟨_, (h.row.cell j).trans (Array.getElem?_eq_getElem (by rw [wArr_size hl]; exact hj))⟩

theorem schR_new (w : World) : SchR w ((w.alloc (.cells zero64 123)).alloc (.cells zero64 123)) [] := by
  have sz : (w.alloc (.cells zero64 123)).heap.size = w.heap.size + 1 := by show (w.heap.push _).size = _; simp
  have b1 := (Below.refl w.heap.size w).alloc (Nat.le_refl _) (.cells zero64 123)
  refine ⟨b1.alloc b1.size _, (Blk.new w _ _).alloc _, ?_⟩
  have := Blk.new (w.alloc (.cells zero64 123)) zero64 123
  rw [sz] at this
  rw [wArr_nil]
  exact this

theorem low_setRow {B g : Nat} {w0 w : World} (h : Below B w0 w) (hg : B ≤ g) (cs : Array Value) : Below B w0 (w.setRow g cs) := by
  refine ⟨h.os, h.tape, h.output, ?_, fun k hk => ?_⟩
  · show w0.heap.size ≤ (w.setRow g cs).heap.size
    have : (w.setRow g cs).heap.size = w.heap.size := by simp [World.setRow]
    rw [this]
    exact h.size
  · rw [setRow_other _ _ _ _ (by omega)]
    exact h.block k hk

theorem be32_eq (a b c d : UInt8) : bits .or .u32 (bits .or .u32 (bits .or .u32 ((a.toNat : Int) * 16777216) ((b.toNat : Int) * 65536)) ((c.toNat : Int) * 256)) (d.toNat : Int) = ((be32 a b c d).toNat : Int) := by
  have la := u8_lt a
  have lb := u8_lt b
  have lc := u8_lt c
  have ea : (a.toNat : Int) * 16777216 = ((a.toUInt32 <<< (UInt32.ofNat 24)).toNat : Int) := by
    rw [← shlN a.toUInt32 (k := 24) (p := 16777216) (by decide) (by decide), UInt8.toNat_toUInt32]
    omega
  have eb : (b.toNat : Int) * 65536 = ((b.toUInt32 <<< (UInt32.ofNat 16)).toNat : Int) := by
    rw [← shlN b.toUInt32 (k := 16) (p := 65536) (by decide) (by decide), UInt8.toNat_toUInt32]
    omega
  have ec : (c.toNat : Int) * 256 = ((c.toUInt32 <<< (UInt32.ofNat 8)).toNat : Int) := by
    rw [← shlN c.toUInt32 (k := 8) (p := 256) (by decide) (by decide), UInt8.toNat_toUInt32]
    omega
  rw [ea, eb, ec, u8_32 d, bor, bor, bor]
  rfl

theorem sg0_eq (x : UInt32) : bits .xor .u32 (bits .xor .u32 ((rotr x 7).toNat : Int) ((rotr x 18).toNat : Int)) ((x.toNat : Int) / 8) = ((sg0 x).toNat : Int) := by
  have e : (x.toNat : Int) / 8 = ((x >>> (UInt32.ofNat 3)).toNat : Int) := shrN x (k := 3) (p := 8) (by decide) (by decide)
  rw [e, bx, bx]
  rfl
theorem sg1_eq (x : UInt32) : bits .xor .u32 (bits .xor .u32 ((rotr x 17).toNat : Int) ((rotr x 19).toNat : Int)) ((x.toNat : Int) / 1024) = ((sg1 x).toNat : Int) := by
  have e : (x.toNat : Int) / 1024 = ((x >>> (UInt32.ofNat 10)).toNat : Int) := shrN x (k := 10) (p := 1024) (by decide) (by decide)
  rw [e, bx, bx]
  rfl
theorem madd (x y : UInt32) : ((x.toNat : Int) + (y.toNat : Int)) % 4294967296 = ((x + y).toNat : Int) := by rw [← wadd, IntKind.wrap_u32']

theorem madd4 (a b c d : UInt32) : ((a.toNat : Int) + (b.toNat : Int) + (c.toNat : Int) + (d.toNat : Int)) % 4294967296 = ((((a + b) + c) + d).toNat : Int) := by
  rw [UInt32.toNat_add, UInt32.toNat_add, UInt32.toNat_add]
  omega

theorem words_next {xs : Bs} {i : Nat} (h : 4 * i + 3 < xs.length) : (words xs).take (i + 1) = (words xs).take i ++ [be32 xs[4 * i] xs[4 * i + 1] xs[4 * i + 2] xs[4 * i + 3]] := by
  rw [List.take_add_one, words_at xs i h]
  rfl

set_option maxRecDepth 100000 in
set_option maxHeartbeats 1000000 in
theorem sch_any {w : World} {B O c : Nat} {xs : Bs} (hn : xs.length = 64) (hc : 64 ≤ c) (hc2 : c ≤ 9223372036854775807) (h : ∀ k (hk : k < xs.length), w.cell? ⟨B, O + k, none⟩ = some (.int .u8 (xs[k].toNat : Int))) :
    Calls Tryz.prog 142 #[.slice (some ⟨B, O, none⟩) 64 c] w fun e w' => e = .returned (.agg ((sched xs).map (fun x => Value.int .u32 (x.toNat : Int))).toArray) ∧ Below w.heap.size w w' := by
  have HN := hide hn
  have H := hide h
  clear hn h
  go_enter Tryz.func142, Tryz.ntmps142
  go_wp2
  go_loopw [4, 5, 11] (fun _ _ v11 wr => ∃ i : Nat, i ≤ 16 ∧ v11 = .int .i64 i ∧ SchR w wr ((words xs).take i)) (fun _ _ v11 _ => 16 - (intOf v11).toNat)
  case atStart => exact ⟨0, Nat.zero_le _, rfl, schR_new w⟩
  case round =>
    rename World => wr
    obtain ⟨i, hi, rfl, hr⟩ := hrel
    have HR := hide hr
    by_cases hlt : i < 16
    · have hw : ∀ j (hj : j < 4), wr.cell? ⟨B, O + 4 * i + j, none⟩ = some (.int .u8 ((xs[4 * i + j]'(by rw [unhide HN]; omega)).toNat : Int)) := by
        intro j hj
        have h0 := unhide H (4 * i + j) (by rw [unhide HN]; omega)
        rw [← Nat.add_assoc] at h0
        exact (hr.low.cell (p := ⟨B, O + 4 * i + j, none⟩) (lt_of_cell h0)).trans h0
      have HT := hide (words_next (xs := xs) (i := i) (by rw [unhide HN]; omega))
      have hlen : ((words xs).take i).length = i := by rw [List.length_take, words_length, unhide HN]; omega
      obtain ⟨a, ha⟩ : ∃ a, xs[4 * i]'(by rw [unhide HN]; omega) = a := ⟨_, rfl⟩
      obtain ⟨b, hb⟩ : ∃ a, xs[4 * i + 1]'(by rw [unhide HN]; omega) = a := ⟨_, rfl⟩
      obtain ⟨cc, hcc⟩ : ∃ a, xs[4 * i + 2]'(by rw [unhide HN]; omega) = a := ⟨_, rfl⟩
      obtain ⟨d, hd⟩ : ∃ a, xs[4 * i + 3]'(by rw [unhide HN]; omega) = a := ⟨_, rfl⟩
      have c0 := hw 0 (by omega)
      have c1 := hw 1 (by omega)
      have c2 := hw 2 (by omega)
      have c3 := hw 3 (by omega)
      simp only [Nat.add_zero] at c0
      rw [ha] at c0
      rw [hb] at c1
      rw [hcc] at c2
      rw [hd] at c3
      rw [ha, hb, hcc, hd] at HT
      obtain ⟨ov, hov⟩ := hr.old (j := i) (by rw [hlen]; omega) (by omega)
      have hfr := hr.row.free i
      have l1 := u8_lt a
      have l2 := u8_lt b
      have l3 := u8_lt cc
      have l4 := u8_lt d
      have i16 : (i : Int) < 16 := by omega
      have i0 : (0 : Int) ≤ (i : Int) := by omega
      have i64 : (i : Int) < 64 := by omega
      have q1 : 4 * (i : Int) ≤ (c : Int) := by omega
      have q2 : 4 * (i : Int) + 4 ≤ (c : Int) := by omega
      have hci : ¬ c = 4 * i := by omega
      clear hw ha hb hcc hd hr
      go_wp2
      go_region
      all_goals
        go_wp2
        have hput := (unhide HR).put (by rw [hlen]; omega) (be32 a b cc d)
        rw [hlen, ← unhide HT, ← be32_eq] at hput
        have HP := hide hput
        clear hput
        go_roundw
        case rel => exact ⟨i + 1, hlt, by simp, (unhide HP).drew⟩
        case measure => simp [intOf]; omega
    · have hi16 : i = 16 := by omega
      subst hi16
      rw [show ((16 : Nat) : Int) = (16 : Int) from rfl]
      have hall : (words xs).take 16 = words xs := List.take_of_length_le (by rw [words_length, unhide HN]; omega)
      have hwl : (words xs).length = 16 := by rw [words_length, unhide HN]
      rw [hall] at HR
      have HG : Hid (growW 48 (words xs) = sched xs) := hide rfl
      have HWL := hide hwl
      clear hr hall hwl hlt hi
      go_wp2
      go_loopw [6, 7, 8, 9, 10] (fun v6 _ _ _ _ wq => ∃ (i : Nat) (l : List UInt32), 16 ≤ i ∧ i ≤ 64 ∧ l.length = i ∧ v6 = .int .i64 i ∧ growW (64 - i) l = sched xs ∧ SchR w wq l) (fun v6 _ _ _ _ _ => 64 - (intOf v6).toNat)
      case atStart => exact ⟨16, words xs, by omega, by omega, unhide HWL, rfl, unhide HG, unhide HR⟩
      case round =>
        rename World => wq
        clear HR HG HWL
        obtain ⟨i, l, h16, h64, hl, rfl, hg, hr⟩ := hrel
        have HL := hide hl
        have HG := hide hg
        have HR := hide hr
        by_cases hlt : i < 64
        · have hcell : ∀ k (hk : k < l.length), wq.cell? ⟨w.heap.size + 1, k, none⟩ = some (.int .u32 (l[k].toNat : Int)) := fun k hk => (hr.row.cell k).trans (wArr_get hk)
          obtain ⟨j15, h15⟩ : ∃ j, i - 15 = j := ⟨_, rfl⟩
          obtain ⟨j2, h2⟩ : ∃ j, i - 2 = j := ⟨_, rfl⟩
          obtain ⟨j16, hj16⟩ : ∃ j, i - 16 = j := ⟨_, rfl⟩
          obtain ⟨j7, h7⟩ : ∃ j, i - 7 = j := ⟨_, rfl⟩
          have k15 : j15 < l.length := by omega
          have k2 : j2 < l.length := by omega
          have k16 : j16 < l.length := by omega
          have k7 : j7 < l.length := by omega
          have c15 := hcell j15 k15
          have c2 := hcell j2 k2
          have c16 := hcell j16 k16
          have c7 := hcell j7 k7
          have hnx : nextW l = ((l[j16] + sg0 l[j15]) + l[j7]) + sg1 l[j2] := by
            unfold nextW
            rw [hl, hj16, h15, h7, h2]
            simp [List.getD_eq_getElem?_getD, k15, k2, k16, k7]
          obtain ⟨x15, e15⟩ : ∃ x, l[j15] = x := ⟨_, rfl⟩
          obtain ⟨x2, e2⟩ : ∃ x, l[j2] = x := ⟨_, rfl⟩
          obtain ⟨x16, e16⟩ : ∃ x, l[j16] = x := ⟨_, rfl⟩
          obtain ⟨x7, e7⟩ : ∃ x, l[j7] = x := ⟨_, rfl⟩
          rw [e15] at c15 hnx
          rw [e2] at c2 hnx
          rw [e16] at c16 hnx
          rw [e7] at c7 hnx
          have HX := hide hnx
          obtain ⟨ov, hov⟩ := hr.old (j := i) (by omega) hlt
          have hfr := hr.row.free i
          have d15 : (i : Int) - 15 = (j15 : Int) := by omega
          have d2 : (i : Int) - 2 = (j2 : Int) := by omega
          have d16 : (i : Int) - 16 = (j16 : Int) := by omega
          have d7 : (i : Int) - 7 = (j7 : Int) := by omega
          have b15 : (j15 : Int) < 64 := by omega
          have b2 : (j2 : Int) < 64 := by omega
          have b16 : (j16 : Int) < 64 := by omega
          have b7 : (j7 : Int) < 64 := by omega
          have bi : (i : Int) < 64 := by omega
          have z0 := sg0_eq x15
          have z1 := sg1_eq x2
          clear hcell hnx e15 e2 e16 e7 h15 h2 hj16 h7 k15 k2 k16 k7 hl hg hr
          go_wp2
          go_quiet (fail)
          go_wp2_with (go_at_call 143; fail)
          refine (rot7 x15 _).mono ?_
          rintro e w9 ⟨rfl, hw⟩
          rw [hw]; clear hw w9
          go_wp2_with (go_at_call 143; fail)
          refine (rot18 x15 _).mono ?_
          rintro e w9 ⟨rfl, hw⟩
          rw [hw]; clear hw w9
          go_wp2_with (go_at_call 143; fail)
          refine (rot17 x2 _).mono ?_
          rintro e w9 ⟨rfl, hw⟩
          rw [hw]; clear hw w9
          go_wp2_with (go_at_call 143; fail)
          refine (rot19 x2 _).mono ?_
          rintro e w9 ⟨rfl, hw⟩
          rw [hw]; clear hw w9
          go_wp2
          go_region
          all_goals
            go_wp2
            have hput := ((unhide HR).drewN (nq + 1)).put (by rw [unhide HL]; exact hlt) (nextW l)
            rw [unhide HL, unhide HX, ← madd4] at hput
            have HP := hide hput
            have HGN : Hid (growW (64 - (i + 1)) (l ++ [nextW l]) = sched xs) := hide (by
              rw [← unhide HG]
              have e : 64 - i = (64 - (i + 1)) + 1 := by omega
              rw [e]
              rfl)
            rw [unhide HX] at HGN
            clear hput
            go_roundw
            case rel =>
              refine ⟨i + 1, _, by omega, by omega, ?_, by simp, unhide HGN, ?_⟩
              · simp [unhide HL]
              · exact unhide HP
            case measure => simp [intOf]; omega
        · have hi64 : i = 64 := by omega
          subst hi64
          have hls : l = sched xs := by rw [← hg]; rfl
          have hsz : (wArr l).size = 64 := wArr_size (by rw [hl]; exact Nat.le_refl _)
          have hinf : (Tryz.prog.info? 123).map (·.size) = some (wArr l).size := by rw [hsz]; kernel_rfl
          have hrow : wq.heap[w.heap.size + 1]? = some (.cells (wArr l) 123 (0, 0)) := hr.row
          have hres : wq.heap[w.heap.size]? = some (.cells zero64 123 (0, 0)) := hr.res
          have hone : (wArr l).all (·.oneCell') = true := by
            rw [wArr_full hl]
            simp [encW, Value.oneCell']
          have HF : Hid ((wArr l) = ((sched xs).map (fun x => Value.int .u32 (x.toNat : Int))).toArray ∧ Below w.heap.size w (wq.setRow w.heap.size (wArr l)) ∧ (wq.setRow w.heap.size (wArr l)).heap[w.heap.size]? = some (.cells (wArr l) 123 (0, 0))) := hide ⟨by rw [wArr_full hl, hls]; rfl, low_setRow hr.low (Nat.le_refl _) _, setRow_heap _ _ _ _ _ _ hres⟩
          clear hlt h16 h64 HR HG HL hr hg
          go_wp2_with (first | (refine wpList_load_row rfl 123 _ rfl (w.heap.size + 1) rfl 123 (wArr l) (0, 0) _ hrow Tryz.underlying123 rfl hinf ?_) | (refine wpList_store_row rfl 123 _ _ rfl w.heap.size (wArr l) rfl rfl 123 zero64 hres hinf (by rw [hsz]; rfl) hone ?_))
          exact bodyPost_ret (v := .agg (wArr l)) (results_cell_row Tryz.results142 _ _ w.heap.size 123 (wArr l) (0, 0) _ rfl (unhide HF).2.2 Tryz.underlying123 rfl hinf) rfl ⟨by rw [(unhide HF).1], (unhide HF).2.1⟩

end Go.Proofs.YtkablmjkffdloaaGreatDoor
