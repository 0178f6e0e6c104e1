/-
  Numbers laid behind bytes, the low byte first.
-/
import Derived.Test.YtkablmjkffdloaaGreatDoorB64Y
namespace Go.Proofs.YtkablmjkffdloaaGreatDoor
open Go.RowKit

/-- So many bytes of a number, the low one first. -/
def leN : Nat → Nat → Bs
  | 0, _ => []
  | i + 1, x => leN i x ++ [UInt8.ofNat (x / 2 ^ (8 * i) % 256)]
theorem leN_len (x : Nat) : ∀ i, (leN i x).length = i
  | 0 => rfl
  | i + 1 => by show (leN i x ++ _).length = _; rw [List.length_append, leN_len x i]; rfl
def leAll (wd : Nat) (ns : List Nat) : Bs := ns.flatMap (leN wd)
theorem leAll_len (wd : Nat) : ∀ ns, (leAll wd ns).length = wd * ns.length
  | [] => rfl
  | x :: ns => by
    show (leN wd x ++ leAll wd ns).length = _
    rw [List.length_append, leN_len, leAll_len wd ns, List.length_cons, Nat.mul_succ]
    omega
theorem leAll_snoc {wd : Nat} {ns : List Nat} {j : Nat} (hj : j < ns.length) : leAll wd (ns.take (j + 1)) = leAll wd (ns.take j) ++ leN wd ns[j] := by
  have e : ns.take (j + 1) = ns.take j ++ [ns[j]] := by simp
  rw [e]
  unfold leAll
  rw [List.flatMap_append]
  simp
/-- Bytes of our own, or the four of a constant's row. -/
def Src (base : Nat) (w : World) (v : Value) (l : Bs) : Prop := OwnB base w v l ∨ ∃ g cs fr, v = .slice (some ⟨g, 0, none⟩) 4 4 ∧ w.heap[g]? = some (.cells cs 5 fr) ∧ base ≤ g ∧ l.length = 4 ∧ ∀ k (hk : k < l.length), cs[k]? = some (byteV l[k])
theorem Src.low {base : Nat} {w w' : World} {v : Value} {l : Bs} (h : Src base w v l) (b : Below w.heap.size w w') : Src base w' v l := by
  rcases h with h | ⟨g, cs, fr, e, hh, r⟩
  · exact Or.inl (OwnB.low h b)
  · exact Or.inr ⟨g, cs, fr, e, (b.block g (Array.getElem?_eq_some_iff.1 hh).1).trans hh, r⟩
theorem Src.at {base : Nat} {w : World} {v : Value} {l : Bs} (h : Src base w v l) : ∃ a c, v = .slice a l.length c ∧ BAt w a l ∧ l.length ≤ c ∧ c ≤ maxLen := by
  rcases h with h | ⟨g, cs, fr, e, hh, hb, h4, hc⟩
  · exact OwnB.at h
  · refine ⟨_, _, by rw [e, h4], ⟨Or.inr ⟨g, 0, rfl, fun k hk => ?_⟩⟩, by omega, by decide⟩
    rw [Nat.zero_add, Lib.cell_of_heap hh, hc k hk]
    rfl
theorem Src.base {base : Nat} {w : World} {v : Value} {l : Bs} (h : Src base w v l) : ∀ g, v.ownBlock = some g → base ≤ g := by
  rcases h with h | ⟨g, cs, fr, e, hh, hb, h4, hc⟩
  · exact OwnB.base h
  · intro k hk
    rw [e] at hk
    have : g = k := Option.some.inj hk
    omega
theorem grB_keep {base : Nat} {w w' : World} {v v' : Value} {l : Bs} (ho : Src base w v l) (g : GrB w w' v v') {k : Nat} (hk : k < w.heap.size) (ht : ∀ cs fr, w.heap[k]? ≠ some (.cells cs 5 fr)) : w'.heap[k]? = w.heap[k]? :=
  g.block k hk (fun e => by
    rcases ho with ho | ⟨g2, cs, fr, e1, hh, _⟩
    · rcases ho.2 with ⟨e1, _⟩ | ⟨g2, cap, cur, e1, _, hh, _⟩
      · rw [e1] at e; cases e
      · rw [e1] at e
        have : k = g2 := Option.some.inj e
        subst this
        exact ht _ _ hh
    · rw [e1] at e
      have : k = g2 := Option.some.inj e
      subst this
      exact ht _ _ hh)
/-- append of a byte. -/
theorem app_src {B : Nat} {w W1 : World} {v : Value} {l : Bs} {c : UInt8} (ho : Src B w v l) (hB : B ≤ w.heap.size) (hl : l.length ≤ 2147483648) (hW : w.alloc (.cells #[.int .u8 (c.toNat : Int)] 5) = W1) :
    ∃ v' w', (Builtin.append_ #[23, 23] 23 #[v, .slice (some ⟨w.heap.size, 0, none⟩) 1 1]).run Tryz.prog W1 = .ok v' w' ∧ Src B w' v' (l ++ [c]) ∧ GrB w w' v v' := by
  have hb : Below w.heap.size w W1 := by rw [← hW]; exact (Below.refl _ _).alloc (Nat.le_refl _) _
  have hblk : Blk W1 w.heap.size #[.int .u8 (c.toNat : Int)] 5 := by rw [← hW]; exact Blk.new _ _ _
  rcases ho with ho | ⟨g, cs, fr, rfl, hh, hg, h4, hc⟩
  · obtain ⟨v', w', h1, h2, h3⟩ := app_bytes (a := ⟨w.heap.size, 0, none⟩) (m := [c]) (n := 1) (c := 1) (ho.low hb) (Nat.le_trans hB hb.size) rfl (fun k hk => by
      have : k = 0 := by simp at hk; omega
      subst this
      exact hblk.cell 0) (by omega)
    have ha : GrB w W1 v v := by rw [← hW]; exact GrB.alloc _ _ _
    exact ⟨v', w', h1, Or.inl h2, ha.trans h3⟩
  · obtain ⟨i0, hi, hz0, hz1, hz2⟩ := info_parts info5
    have hh1 : W1.heap[g]? = some (.cells cs 5 fr) := (hb.block g (Array.getElem?_eq_some_iff.1 hh).1).trans hh
    have hr := run_append_grow (P := Tryz.prog) (w := W1) 23 23 5 i0 (.int .u8 0) Tryz.underlying23 hi hz0 ⟨g, 0, none⟩ 4 4 (l.map byteV) (by rw [List.length_map, h4, hz1]) (fun j v hj => by
      have hjl : j < l.length := by
        have := (List.getElem?_eq_some_iff.1 hj).1
        simpa using this
      rw [List.getElem?_map, List.getElem?_eq_getElem hjl] at hj
      rw [WideShapes.add_plain, Lib.cell_of_heap hh1, Nat.zero_add, hc j hjl]
      exact hj) ⟨w.heap.size, 0, none⟩ 1 1 [byteV c] (by rw [hz1]; rfl) (fun j v hj => by
      match j, hj with
      | 0, hj => simp at hj; rw [← hj]; exact hblk.cell 0) (by decide) (by decide) (by rw [hz2]; decide)
    obtain ⟨cap, hcap⟩ : ∃ cap, grownCap W1 (4 + 1) 4 5 = cap := ⟨_, rfl⟩
    have hcg : 5 ≤ cap := by rw [← hcap]; exact grownCap_ge _ _ _ _
    have hcm : cap ≤ maxLen := by rw [← hcap]; exact grownCap_le_maxLen _ _ _ _ (by decide)
    rw [hcap] at hr
    obtain ⟨CUR, hCUR⟩ : ∃ CUR, (l.map byteV).toArray ++ [byteV c].toArray ++ Builtin.zeroCells (Value.int .u8 0).cells (cap - (4 + 1)) = CUR := ⟨_, rfl⟩
    rw [hCUR] at hr
    have hsz : CUR.size = cap * 1 := by
      rw [← hCUR]
      simp only [Array.size_append, List.size_toArray, size_zeroCells, List.length_map, h4]
      have : (Value.int .u8 0).cells.size = 1 := rfl
      rw [this]
      simp
      omega
    have htk : CUR.toList.take 5 = (l ++ [c]).map byteV := by
      rw [← hCUR]
      simp only [Array.toList_append, List.append_assoc]
      rw [List.map_append, ← List.append_assoc]
      exact List.take_left' (by simp [h4])
    refine ⟨_, _, hr, Or.inl ⟨by simp, Or.inr ⟨W1.heap.size, cap, CUR, by rw [List.length_append, h4]; rfl, Nat.le_trans hB hb.size, heap_alloc_new _ _, by rw [List.length_append, h4]; exact hcg, hcm, hsz, by rw [List.length_append, h4]; exact htk⟩⟩, ?_⟩
    refine ⟨hb.os, hb.tape, hb.output, Nat.le_trans hb.size (by simp), fun k hk _ => ?_, Or.inr ⟨_, rfl, hb.size⟩⟩
    rw [← hb.block k hk]
    exact Below.heap_alloc _ _ _ (Nat.lt_of_lt_of_le hk hb.size)

set_option maxRecDepth 100000 in
set_option maxHeartbeats 2000000 in
theorem low_any {base : Nat} {w : World} {v : Value} {l : Bs} {NB WB wd kc q : Nat} {ns : List Nat} (ho : Src base w v l) (hbase : base ≤ w.heap.size) (hq : ns.length = q) (hN : ∀ j (hj : j < ns.length), w.cell? ⟨NB, j, none⟩ = some (.int .u32 ((ns[j] : Nat) : Int))) (hNt : ∀ cs fr, w.heap[NB]? ≠ some (.cells cs 5 fr)) (hWt : ∀ cs fr, w.heap[WB]? ≠ some (.cells cs 5 fr)) (hW : w.cell? ⟨WB, 0, none⟩ = some (.int .i64 (wd : Int))) (hwd : wd ≤ 4) (hns : ∀ x ∈ ns, x < 4294967296) (hqb : q ≤ 1000) (hl : l.length ≤ 1000000000) :
    Calls Tryz.prog 172 #[v, .slice (some ⟨NB, 0, none⟩) q kc, .pointer (some ⟨WB, 0, none⟩)] w fun e w' => ∃ v', e = .returned v' ∧ Src base w' v' (l ++ leAll wd ns) ∧ GrB w w' v v' := by
  have HO := hide ho
  have HN := hide hN
  have HW := hide hW
  have HNT := hide hNt
  have HWT := hide hWt
  have HQ := hide hq
  have HNS := hide hns
  clear ho hN hW hNt hWt hq hns
  go_enter Tryz.func172, Tryz.ntmps172
  go_wp2
  go_loopw [0, 7, 8, 11] (fun v0 _ _ v11 wr => ∃ j : Nat, j ≤ q ∧ v11 = .int .i64 (j : Int) ∧ Src base wr v0 (l ++ leAll wd (ns.take j)) ∧ GrB w wr v v0) (fun _ _ _ v11 _ => q - (intOf v11).toNat)
  case atStart => exact ⟨0, Nat.zero_le _, rfl, by simpa [leAll] using unhide HO, GrB.refl _ _⟩
  case round =>
    rename World => wr
    obtain ⟨j, hj, rfl, ho, hg⟩ := hrel
    have HO2 := hide ho
    have HG2 := hide hg
    by_cases hlt : j < q
    · have hjl : j < ns.length := by rw [unhide HQ]; exact hlt
      have hc0 := unhide HN j hjl
      have hNk := grB_keep (unhide HO) hg (lt_of_cell hc0) (unhide HNT)
      have hWk := grB_keep (unhide HO) hg (lt_of_cell (unhide HW)) (unhide HWT)
      have k0 : wr.cell? ⟨NB, j, none⟩ = some (.int .u32 ((ns[j] : Nat) : Int)) := (World.cell?_of_block hNk).trans hc0
      have kW : wr.cell? ⟨WB, 0, none⟩ = some (.int .i64 (wd : Int)) := (World.cell?_of_block hWk).trans (unhide HW)
      have hsn := leAll_snoc (wd := wd) hjl
      have hxb := unhide HNS ns[j] (List.getElem_mem hjl)
      obtain ⟨x, hx⟩ : ∃ x, ns[j] = x := ⟨_, rfl⟩
      rw [hx] at k0 hsn hxb
      have HSN := hide hsn
      have hlen : (l ++ leAll wd (ns.take j)).length ≤ 1000004000 := by
        rw [List.length_append, leAll_len, List.length_take]
        have : wd * min j ns.length ≤ 4 * 1000 := Nat.mul_le_mul hwd (by omega)
        omega
      clear ho hg hc0 hNk hWk hsn hx hjl
      go_wp2
      go_loopw [0, 8, 16] (fun v0 _ v16 wt => ∃ i : Nat, i ≤ wd ∧ v16 = .int .i64 (i : Int) ∧ Src base wt v0 ((l ++ leAll wd (ns.take j)) ++ leN i x) ∧ GrB w wt v v0) (fun _ _ v16 _ => wd - (intOf v16).toNat)
      case atStart => exact ⟨0, Nat.zero_le _, rfl, by simpa [leN] using unhide HO2, unhide HG2⟩
      case round =>
        rename World => wt
        obtain ⟨i, hi, rfl, ho, hg⟩ := hrel
        by_cases hiw : i < wd
        · obtain ⟨s, hs⟩ : ∃ s, 8 * i = s := ⟨_, rfl⟩
          have e1 : (8 : Int) * (i : Int) = (s : Int) := by omega
          have hs24 : s ≤ 24 := by omega
          obtain ⟨D, hD⟩ : ∃ D, x / 2 ^ s = D := ⟨_, rfl⟩
          have e2 : (x : Int) / 2 ^ s = (D : Int) := by rw [pow_int, ← Int.natCast_ediv, hD]
          have hDb : D < 4294967296 := by rw [← hD]; exact Nat.lt_of_le_of_lt (Nat.div_le_self _ _) hxb
          obtain ⟨y, hy⟩ : ∃ y : UInt8, UInt8.ofNat (D % 256) = y := ⟨_, rfl⟩
          have yn : y.toNat = D % 256 := by rw [← hy, UInt8.toNat_ofNat']; omega
          have e3 : IntKind.u8.wrap (D : Int) = (y.toNat : Int) := by rw [IntKind.wrap_u8]; omega
          have e4 : (D : Int) % 256 = (y.toNat : Int) := by omega
          have hle : leN (i + 1) x = leN i x ++ [y] := by
            show leN i x ++ [UInt8.ofNat (x / 2 ^ (8 * i) % 256)] = _
            rw [hs, hD, hy]
          obtain ⟨W1, hW1⟩ : ∃ W1, wt.alloc (.cells #[.int .u8 (y.toNat : Int)] 5) = W1 := ⟨_, rfl⟩
          obtain ⟨v', w', happ, hown, hgr2⟩ := app_src ho (Nat.le_trans hbase hg.size) (by rw [List.length_append, leN_len]; omega) hW1
          rw [List.append_assoc, ← hle] at hown
          have HR := hide (And.intro hown (hg.trans hgr2))
          have HW1 := hide hW1
          clear ho hg hs hD hy yn hle hW1 hown hgr2
          go_wp2_with (at_builtin; rw [unhide HW1]; refine Lib.wpList_append_run _ rfl (.tmp 19) (.tmp 25) 23 23 (by rfl) u0 (.slice (some ⟨wt.heap.size, 0, none⟩) 1 1) (by kernel_rfl) (by kernel_rfl) v' w' happ ?_)
          go_roundw
          case rel => exact ⟨i + 1, hiw, by push_cast; rfl, (unhide HR).1, (unhide HR).2⟩
          case measure => simp [intOf]; omega
        · have hie : i = wd := by omega
          subst hie
          rw [List.append_assoc, ← unhide HSN] at ho
          have HR := hide (And.intro ho hg)
          clear ho hg
          go_wp2
          go_roundw
          case rel => exact ⟨j + 1, hlt, by push_cast; rfl, (unhide HR).1, (unhide HR).2⟩
          case measure => simp [intOf]; omega
    · rw [List.take_of_length_le (by rw [unhide HQ]; omega)] at ho
      have HR := hide (And.intro ho hg)
      clear ho hg
      go_wp2
      go_ret
      exact ⟨_, rfl, (unhide HR).1, (unhide HR).2⟩
end Go.Proofs.YtkablmjkffdloaaGreatDoor
