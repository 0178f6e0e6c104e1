/-
  A log is made of records.
-/
import Derived.Test.YtkpmbbeidcpclaaGreatDoorRoot
import Derived.Lib.AppendZeros
import Derived.Laws.Cover3
import Derived.Test.YtkpmbbeidcpclaaGreatDoorLogP
import Derived.Lib.RabinKarpLaws
import Derived.Test.YtkpmbbeidcpclaaGreatDoorRefQ
import Derived.Test.YtkpmbbeidcpclaaGreatDoorSameB
import Derived.Test.YtkpmbbeidcpclaaGreatDoorRefL
import Derived.Test.YtkpmbbeidcpclaaGreatDoorFirst
namespace Go.Proofs.YtkpmbbeidcpclaaGreatDoor
open Go.RowKit

/-- The cells of hashes. -/
def bsV (hs : List Bs) : List Value := hs.flatten.map byteV
/-- Hashes of 32 bytes. -/
def All32 (hs : List Bs) : Prop := ∀ h ∈ hs, h.length = 32
theorem bsV_len {hs : List Bs} (h : All32 hs) : (bsV hs).length = hs.length * 32 := by
  unfold bsV
  rw [List.length_map]
  induction hs with
  | nil => rfl
  | cons x r ih =>
    rw [List.flatten_cons, List.length_append, ih (fun y hy => h y (by simp [hy])), h x (by simp), List.length_cons]
    omega
theorem bsV_snoc (hs : List Bs) (h : Bs) : bsV (hs ++ [h]) = bsV hs ++ h.map byteV := by
  unfold bsV
  simp
/-- A row of hashes. -/
abbrev Hs (base : Nat) (w : World) (v : Value) (hs : List Bs) : Prop := w.ownsRow base 112 32 v hs.length (bsV hs)

theorem info118 : (Tryz.prog.info? 112).map (fun i => (i.zero, i.size, i.bytes)) = some (some (.agg (List.replicate 32 (.int .u8 0)).toArray), 32, 32) := by kernel_rfl

/-- append of one hash that lies in a block. -/
theorem app_hash {B : Nat} {w : World} {v : Value} {hs : List Bs} {h : Bs} {Z : Nat} (ho : Hs B w v hs) (h32 : h.length = 32) (hB : B ≤ w.heap.size) (hz : ∀ k (hk : k < h.length), w.cell? ⟨Z, k, none⟩ = some (byteV h[k])) (hl : hs.length ≤ 4194304) :
    ∃ v' w', (Builtin.append_ #[81, 81] 81 #[v, .slice (some ⟨Z, 0, none⟩) 1 1]).run Tryz.prog w = .ok v' w' ∧ Hs B w' v' (hs ++ [h]) ∧ w.grownBy w' v.ownBlock ∧ (v'.ownBlock = v.ownBlock ∨ v'.ownBlock = some w.heap.size) := by
  obtain ⟨i0, hi, hz0, hz1, hz2⟩ := info_parts info118
  obtain ⟨v', w', h1, h2, h3, _, h5⟩ := run_append_own_at (P := Tryz.prog) w B 81 81 112 i0 _ 32 32 Tryz.underlying81 hi hz0 hz1 hz2 rfl (by decide) v hs.length (bsV hs) ho ⟨Z, 0, none⟩ 1 1 (h.map byteV) (by simp [h32]) (fun j u hu => by
    rw [List.getElem?_map] at hu
    by_cases hj : j < h.length
    · rw [List.getElem?_eq_getElem hj] at hu
      simp only [Option.map_some, Option.some.injEq] at hu
      rw [← hu, WideShapes.add_plain, Nat.zero_add]
      exact hz j hj
    · rw [List.getElem?_eq_none (by omega)] at hu
      cases hu) (byteV_one h) (by unfold maxLen; omega) (by omega) hB
  refine ⟨v', w', h1, ?_, h3, h5⟩
  unfold Hs
  rw [bsV_snoc, List.length_append]
  exact h2

theorem of32 (h : Bs) (hl : h.length = 32) : ∃ x0 x1 x2 x3 x4 x5 x6 x7 x8 x9 x10 x11 x12 x13 x14 x15 x16 x17 x18 x19 x20 x21 x22 x23 x24 x25 x26 x27 x28 x29 x30 x31, h = [x0, x1, x2, x3, x4, x5, x6, x7, x8, x9, x10, x11, x12, x13, x14, x15, x16, x17, x18, x19, x20, x21, x22, x23, x24, x25, x26, x27, x28, x29, x30, x31] :=
  match h, hl with
  | [x0, x1, x2, x3, x4, x5, x6, x7, x8, x9, x10, x11, x12, x13, x14, x15, x16, x17, x18, x19, x20, x21, x22, x23, x24, x25, x26, x27, x28, x29, x30, x31], _ => ⟨x0, x1, x2, x3, x4, x5, x6, x7, x8, x9, x10, x11, x12, x13, x14, x15, x16, x17, x18, x19, x20, x21, x22, x23, x24, x25, x26, x27, x28, x29, x30, x31, rfl⟩

/-- A hash laid into a block of its own. -/
theorem build_hash {w : World} {h : Bs} (h32 : h.length = 32) : (Instr.buildSlice 81 1 #[(0, .agg (h.map byteV).toArray)]).run Tryz.prog w = .ok (.slice (some ⟨w.heap.size, 0, none⟩) 1 1) (w.alloc (.cells (h.map byteV).toArray 112)) := by
  obtain ⟨x0, x1, x2, x3, x4, x5, x6, x7, x8, x9, x10, x11, x12, x13, x14, x15, x16, x17, x18, x19, x20, x21, x22, x23, x24, x25, x26, x27, x28, x29, x30, x31, rfl⟩ := of32 h h32
  kernel_rfl

/-- The load of a hash. -/
theorem load_hash {w : World} {B O : Nat} {h : Bs} (h32 : h.length = 32) (hc : ∀ k (hk : k < h.length), w.cell? ⟨B, O + k, none⟩ = some (byteV h[k])) : (loadVar 112 ⟨B, O, none⟩).run Tryz.prog w = .ok (.agg (h.map byteV).toArray) w := by
  have hl : (loadCells ⟨B, O, none⟩ (h.map byteV).length).run Tryz.prog w = .ok (h.map byteV).toArray w :=
    run_loadCells_list (P := Tryz.prog) w ⟨B, O, none⟩ (h.map byteV) (fun j v hv => by
      rw [WideShapes.add_plain]
      rw [List.getElem?_map] at hv
      by_cases hj : j < h.length
      · rw [List.getElem?_eq_getElem hj] at hv
        simp only [Option.map_some, Option.some.injEq] at hv
        rw [← hv]
        exact hc j hj
      · rw [List.getElem?_eq_none (by omega)] at hv
        cases hv)
  obtain ⟨i0, hi, hz0, hz1, hz2⟩ := info_parts info118
  have hagg : (isAgg 112).run Tryz.prog w = .ok true w := by
    unfold isAgg
    rw [Sem.run_bind, run_underlying Tryz.underlying112 w]
    rfl
  rw [List.length_map, h32] at hl
  simp [loadVar, Sem.run_bind, hagg, sizeOf, typeInfo, hi, hz1, hl]

theorem wp_load_hash {o : Oper} {a : Act} {w : World} {K : Act → World → Prop} {Q : Exit → Act → World → Prop} (x : Operand) (ho : o.op = .load 112 x) {B O : Nat} (hx : a.eval x = .pointer (some ⟨B, O, none⟩)) {h : Bs} (h32 : h.length = 32) (hc : ∀ k (hk : k < h.length), w.cell? ⟨B, O + k, none⟩ = some (byteV h[k]))
    (hK : K (a.put o.dst (.agg (h.map byteV).toArray)) w) : o.wp Tryz.prog a w K Q := by
  unfold Oper.wp execOp
  simp only [ho, hx, Instr.loadAt, Instr.sureAddr, Sem.run_bind, Sem.run_pure, Result.andThen_ok, load_hash h32 hc]
  exact hK

theorem wp_build_hash {o : Oper} {a : Act} {w : World} {K : Act → World → Prop} {Q : Exit → Act → World → Prop} (x : Operand) (ho : o.op = .buildSlice 81 1 #[(0, x)]) {h : Bs} (hx : a.eval x = .agg (h.map byteV).toArray) (h32 : h.length = 32)
    (hK : K (a.put o.dst (.slice (some ⟨w.heap.size, 0, none⟩) 1 1)) (w.alloc (.cells (h.map byteV).toArray 112))) : o.wp Tryz.prog a w K Q := by
  have e : (#[(0, x)] : Array (Nat × Operand)).map (fun y => (y.1, a.eval y.2)) = #[(0, .agg (h.map byteV).toArray)] := by simp [hx]
  unfold Oper.wp execOp
  simp only [ho, Sem.run_bind, Sem.run_pure]
  rw [show (Array.map (fun (y : Nat × Operand) => match y with | (i, x) => (i, a.eval x)) #[(0, x)]) = #[(0, .agg (h.map byteV).toArray)] from e]
  rw [build_hash h32]
  exact hK

end Go.Proofs.YtkpmbbeidcpclaaGreatDoor

namespace Go.Proofs.YtkpmbbeidcpclaaGreatDoor
open Go.RowKit

/-- A log: its number of records and its stored hashes. -/
structure LogAt (base : Nat) (w : World) (F n : Nat) (hs : List Bs) : Prop where
  at_ : ∃ v, Blk w F #[.int .i64 (n : Int), v] 83 ∧ Hs base w v hs
  all : All32 hs
  far : base ≤ F

/-- What a log's own functions leave: the blocks that are none of a log's. -/
structure FrL (base : Nat) (w w' : World) : Prop where
  low : Below base w w'
  size : w.heap.size ≤ w'.heap.size
  block : ∀ k, k < w.heap.size → (∀ cs, w.heap[k]? ≠ some (.cells cs 83 (0, 0))) → (∀ cs, w.heap[k]? ≠ some (.cells cs 112 (0, 0))) → w'.heap[k]? = w.heap[k]?

theorem FrL.refl (base : Nat) (w : World) : FrL base w w := ⟨Below.refl _ _, Nat.le_refl _, fun _ _ _ _ => rfl⟩
theorem FrL.trans {base : Nat} {a b c : World} (h : FrL base a b) (k : FrL base b c) : FrL base a c := by
  refine ⟨h.low.trans k.low, Nat.le_trans h.size k.size, fun x hx h1 h2 => ?_⟩
  have e := h.block x hx h1 h2
  rw [k.block x (Nat.lt_of_lt_of_le hx h.size) (by rw [e]; exact h1) (by rw [e]; exact h2), e]
theorem FrL.of_low {base : Nat} {a b : World} (h : Below a.heap.size a b) (hb : base ≤ a.heap.size) : FrL base a b :=
  ⟨h.mono hb, h.size, fun x hx _ _ => h.block x hx⟩

theorem row118 {w : World} {base n : Nat} {v : Value} {xs : List Value} {g : Nat} (h : w.ownsRow base 112 32 v n xs) (hg : v.ownBlock = some g) : base ≤ g ∧ ∃ cur, w.heap[g]? = some (.cells cur 112 (0, 0)) := by
  rcases h.2 with ⟨rfl, _⟩ | ⟨g', cap, cur, rfl, hb, hh, _⟩
  · cases hg
  · cases hg; exact ⟨hb, cur, hh⟩

theorem LogAt.low {base : Nat} {w w' : World} {F n : Nat} {hs : List Bs} (h : LogAt base w F n hs) (b : Below w.heap.size w w') : LogAt base w' F n hs := by
  obtain ⟨⟨v, h1, h2⟩, h3, h4⟩ := h
  refine ⟨⟨v, h1.low b, h2.1, ?_⟩, h3, h4⟩
  rcases h2.2 with ⟨rfl, hn⟩ | ⟨g, cap, cur, rfl, hb, hh, r⟩
  · exact Or.inl ⟨rfl, hn⟩
  · exact Or.inr ⟨g, cap, cur, rfl, hb, (b.block g (Array.getElem?_eq_some_iff.1 hh).1).trans hh, r⟩

set_option maxRecDepth 100000 in
set_option maxHeartbeats 2000000 in
theorem store_any {base : Nat} {w : World} {F n c B O : Nat} {hs : List Bs} {h : Bs} (hL : LogAt base w F n hs) (hbase : base ≤ w.heap.size) (h32 : h.length = 32) (hb : BAt w (some ⟨B, O, none⟩) h) (hl : hs.length ≤ 4194304) :
    Calls Tryz.prog 71 #[.pointer (some ⟨F, 0, none⟩), .slice (some ⟨B, O, none⟩) 32 c] w fun e w' => e = .returned (.tuple #[]) ∧ LogAt base w' F n (hs ++ [h]) ∧ FrL base w w' := by
  obtain ⟨⟨v, hF, hH⟩, hall, hfar⟩ := hL
  have hc : ∀ k (hk : k < h.length), w.drew.cell? ⟨B, O + k, none⟩ = some (byteV h[k]) := by
    rcases hb.els with e | ⟨B', O', ea, hx⟩
    · rw [e] at h32; simp at h32
    · cases ea; exact hx
  obtain ⟨W1, hW1⟩ : ∃ W1, w.drew.alloc (.cells (h.map byteV).toArray 112) = W1 := ⟨_, rfl⟩
  have b1 : Below w.heap.size w W1 := by rw [← hW1]; exact (Below.refl _ _).drew.alloc (Nat.le_refl _) _
  have hz : Blk W1 w.heap.size (h.map byteV).toArray 112 := by rw [← hW1]; exact Blk.new w.drew _ _
  have hH1 : Hs base W1 v hs := by
    refine ⟨hH.1, ?_⟩
    rcases hH.2 with ⟨rfl, hn⟩ | ⟨g, cap, cur, rfl, hb, hh, r⟩
    · exact Or.inl ⟨rfl, hn⟩
    · exact Or.inr ⟨g, cap, cur, rfl, hb, (b1.block g (Array.getElem?_eq_some_iff.1 hh).1).trans hh, r⟩
  obtain ⟨v', w', happ, hH2, hgr, hown⟩ := app_hash (Z := w.heap.size) hH1 h32 (Nat.le_trans hbase b1.size) (fun k hk => by
    rw [hz.cell k]; simp [hk]) hl
  obtain ⟨ra, rn, rc, rfl⟩ : ∃ ra rn rc, v' = .slice ra rn rc := by
    rcases hH2.2 with ⟨e, _⟩ | ⟨g, cap, _, e, _⟩
    · exact ⟨_, _, _, e⟩
    · exact ⟨_, _, _, e⟩
  have hne : some F ≠ v.ownBlock := by
    intro e
    obtain ⟨_, cur, hcur⟩ := row118 hH e.symm
    have : w.heap[F]? = some (.cells #[.int .i64 (n : Int), v] 83 (0, 0)) := hF
    rw [this] at hcur
    simp at hcur
  have hF1 : Blk W1 F #[.int .i64 (n : Int), v] 83 := hF.low b1
  have hF2 : Blk w' F #[.int .i64 (n : Int), v] 83 := (hgr.block F hF1.lt hne).trans hF1
  have hF3 := hF2.set 1 (.slice ra rn rc)
  have hfz := hF2.free 1
  have hc1 := hF2.cell 1
  have hcF : w.drew.cell? ⟨F, 1, none⟩ = some v := (hF.drew).cell 1
  have HP : Hid (LogAt base (w'.setCell ⟨F, 1, none⟩ (.slice ra rn rc)) F n (hs ++ [h]) ∧ FrL base w (w'.setCell ⟨F, 1, none⟩ (.slice ra rn rc))) := hide (by
    have hFs : Blk (w'.setCell ⟨F, 1, none⟩ (.slice ra rn rc)) F #[.int .i64 (n : Int), .slice ra rn rc] 83 := hF3
    have hoth : ∀ k, k ≠ F → (w'.setCell ⟨F, 1, none⟩ (.slice ra rn rc)).heap[k]? = w'.heap[k]? := fun k hk => Below.heap_setCell _ _ _ _ (by simpa using hk)
    refine ⟨⟨⟨.slice ra rn rc, hFs, hH2.1, ?_⟩, ?_, hfar⟩, ?_⟩
    · rcases hH2.2 with ⟨ev, hn⟩ | ⟨g, cap, cur, ev, hb, hh, r⟩
      · exact Or.inl ⟨ev, hn⟩
      · refine Or.inr ⟨g, cap, cur, ev, hb, ?_, r⟩
        rw [hoth g (by
          intro e
          rw [e] at hh
          have : w'.heap[F]? = some (.cells #[.int .i64 (n : Int), v] 83 (0, 0)) := hF2
          rw [this] at hh
          simp at hh)]
        exact hh
    · intro x hx
      rcases List.mem_append.1 hx with e | e
      · exact hall x e
      · simp at e; rw [e]; exact h32
    · have hsz : (w'.setCell ⟨F, 1, none⟩ (.slice ra rn rc)).heap.size = w'.heap.size := by simp
      have hblk : ∀ k, k < w.heap.size → k ≠ F → some k ≠ v.ownBlock → (w'.setCell ⟨F, 1, none⟩ (.slice ra rn rc)).heap[k]? = w.heap[k]? := fun k hk h1 h2 => by
        rw [hoth k h1, hgr.block k (Nat.lt_of_lt_of_le hk b1.size) h2, b1.block k hk]
      refine ⟨⟨?_, ?_, ?_, ?_, ?_⟩, ?_, ?_⟩
      · exact hgr.os.trans b1.os
      · exact hgr.tape.trans b1.tape
      · exact hgr.output.trans b1.output
      · rw [hsz]; exact Nat.le_trans b1.size hgr.size
      · intro k hk
        refine hblk k (Nat.lt_of_lt_of_le hk hbase) (fun e => by omega) (fun e => ?_)
        obtain ⟨hx, _⟩ := row118 hH e.symm
        omega
      · rw [hsz]; exact Nat.le_trans b1.size hgr.size
      · intro k hk h1 h2
        refine hblk k hk (fun e => h1 _ (by rw [e]; exact hF)) (fun e => ?_)
        obtain ⟨_, cur, hcur⟩ := row118 hH e.symm
        exact h2 cur hcur)
  have hcF1 : W1.cell? ⟨F, 1, none⟩ = some v := hF1.cell 1
  have HW1 := hide hW1
  have mixed : Tryz.prog.follows .mixedOrders = true := by kernel_rfl
  clear hF hH hall hfar hb hz hH1 hH2 hgr hown hF1 hF3 hW1 b1 hne
  go_enter Tryz.func71, Tryz.ntmps71
  go_wp2
  refine wp_region_any mixed ?_
  refine wpAny_take (i := 0) (v := .pointer (some ⟨F, 0, none⟩)) rfl (by kernel_rfl) (by kernel_rfl) (by kernel_rfl) (fun _ _ _ h => h) (Or.inl ⟨rfl, fun _ => rfl⟩) ?_
  refine wpAny_take (i := 1) (v := .pointer (some ⟨F, 0, none⟩)) rfl (by kernel_rfl) (by kernel_rfl) (by kernel_rfl) (fun _ _ _ h => h) (Or.inl ⟨rfl, fun _ => rfl⟩) ?_
  refine wpAny_take (i := 2) (v := .pointer (some ⟨F, 0, none⟩)) rfl (by kernel_rfl) (by kernel_rfl) (by kernel_rfl) (fun _ _ _ h => h) (Or.inl ⟨rfl, fun _ => rfl⟩) ?_
  refine wpAny_take (i := 3) (v := .pointer (some ⟨F, 1, none⟩)) rfl (by kernel_rfl) (by kernel_rfl) (by kernel_rfl) (fun _ _ _ h => h) (Or.inl ⟨rfl, fun _ => by go_simp⟩) ?_
  refine wpAny_take (i := 5) (v := .slice (some ⟨B, O, none⟩) 32 c) rfl (by kernel_rfl) (by kernel_rfl) (by kernel_rfl) (fun _ _ _ h => h) (Or.inl ⟨rfl, fun _ => rfl⟩) ?_
  refine wpAny_take (i := 6) (v := .pointer (some ⟨B, O, none⟩)) rfl (by kernel_rfl) (by kernel_rfl) (by kernel_rfl) (fun _ _ _ h => h) (Or.inl ⟨rfl, fun _ => by go_simp; rw [run_arrayAt _ 112 5 32 _ 32 c Tryz.underlying112 (Nat.le_refl _)]; rfl⟩) ?_
  go_simp
  refine wpAny_ready (rs := [4, 7]) (by kernel_rfl) (by simp) (ready_step _ rfl rfl (fun K hK => ?_) (ready_step _ rfl rfl (fun K hK => ?_) AllReady.nil))
  · go_simp
    refine hK _ _ ?_
    clear hK K
    refine wpAny_ready (rs := [7]) (by kernel_rfl) (by simp) (ready_step _ rfl rfl (fun K hK => ?_) AllReady.nil)
    refine wp_load_hash (.tmp 10) rfl (B := B) (O := O) (by kernel_rfl) h32 hc ?_
    refine hK _ _ ?_
    clear hK K
    refine wpAny_ready (rs := [8]) (by kernel_rfl) (by simp) (ready_step _ rfl rfl (fun K hK => ?_) AllReady.nil)
    refine wp_build_hash (.tmp 11) rfl (h := h) (by kernel_rfl) h32 ?_
    rw [unhide HW1]
    refine hK _ _ ?_
    clear hK K
    refine wpAny_ready (rs := [9]) (by kernel_rfl) (by simp) (ready_step _ rfl rfl (fun K hK => ?_) AllReady.nil)
    refine Lib.wp_append_run _ (.tmp 8) (.tmp 12) 81 81 rfl v (.slice (some ⟨w.heap.size, 0, none⟩) 1 1) (by kernel_rfl) (by kernel_rfl) (.slice ra rn rc) w' happ ?_
    refine hK _ _ ?_
    clear hK K
    refine wpAny_ready (rs := [10]) (by kernel_rfl) (by simp) (ready_step _ rfl rfl (fun K hK => ?_) AllReady.nil)
    go_simp
    refine hK _ _ ?_
    clear hK K
    refine wpAny_ready (rs := [11]) (by kernel_rfl) (by simp) (ready_step _ rfl rfl (fun K hK => ?_) AllReady.nil)
    go_simp
    refine hK _ _ ?_
    clear hK K
    refine wpAny_ready (rs := [12]) (by kernel_rfl) (by simp) (ready_step _ rfl rfl (fun K hK => ?_) AllReady.nil)
    go_simp
    refine hK _ _ ?_
    clear hK K
    refine wpAny_done (by kernel_rfl) ?_ _
    exact bodyPost_end (v := .tuple #[]) (by simp [results, Tryz.results71, go_sem]) rfl ⟨rfl, unhide HP⟩
  · refine wp_load_hash (.tmp 10) rfl (B := B) (O := O) (by kernel_rfl) h32 hc ?_
    refine hK _ _ ?_
    clear hK K
    refine wpAny_ready (rs := [4, 8]) (by kernel_rfl) (by simp) (ready_step _ rfl rfl (fun K hK => ?_) (ready_step _ rfl rfl (fun K hK => ?_) AllReady.nil))
    · go_simp
      refine hK _ _ ?_
      clear hK K
      refine wpAny_ready (rs := [8]) (by kernel_rfl) (by simp) (ready_step _ rfl rfl (fun K hK => ?_) AllReady.nil)
      refine wp_build_hash (.tmp 11) rfl (h := h) (by kernel_rfl) h32 ?_
      rw [unhide HW1]
      refine hK _ _ ?_
      clear hK K
      refine wpAny_ready (rs := [9]) (by kernel_rfl) (by simp) (ready_step _ rfl rfl (fun K hK => ?_) AllReady.nil)
      refine Lib.wp_append_run _ (.tmp 8) (.tmp 12) 81 81 rfl v (.slice (some ⟨w.heap.size, 0, none⟩) 1 1) (by kernel_rfl) (by kernel_rfl) (.slice ra rn rc) w' happ ?_
      refine hK _ _ ?_
      clear hK K
      refine wpAny_ready (rs := [10]) (by kernel_rfl) (by simp) (ready_step _ rfl rfl (fun K hK => ?_) AllReady.nil)
      go_simp
      refine hK _ _ ?_
      clear hK K
      refine wpAny_ready (rs := [11]) (by kernel_rfl) (by simp) (ready_step _ rfl rfl (fun K hK => ?_) AllReady.nil)
      go_simp
      refine hK _ _ ?_
      clear hK K
      refine wpAny_ready (rs := [12]) (by kernel_rfl) (by simp) (ready_step _ rfl rfl (fun K hK => ?_) AllReady.nil)
      go_simp
      refine hK _ _ ?_
      clear hK K
      refine wpAny_done (by kernel_rfl) ?_ _
      exact bodyPost_end (v := .tuple #[]) (by simp [results, Tryz.results71, go_sem]) rfl ⟨rfl, unhide HP⟩
    · refine wp_build_hash (.tmp 11) rfl (h := h) (by kernel_rfl) h32 ?_
      rw [unhide HW1]
      refine hK _ _ ?_
      clear hK K
      refine wpAny_ready (rs := [4]) (by kernel_rfl) (by simp) (ready_step _ rfl rfl (fun K hK => ?_) AllReady.nil)
      go_simp
      refine hK _ _ ?_
      clear hK K
      refine wpAny_ready (rs := [9]) (by kernel_rfl) (by simp) (ready_step _ rfl rfl (fun K hK => ?_) AllReady.nil)
      refine Lib.wp_append_run _ (.tmp 8) (.tmp 12) 81 81 rfl v (.slice (some ⟨w.heap.size, 0, none⟩) 1 1) (by kernel_rfl) (by kernel_rfl) (.slice ra rn rc) w' happ ?_
      refine hK _ _ ?_
      clear hK K
      refine wpAny_ready (rs := [10]) (by kernel_rfl) (by simp) (ready_step _ rfl rfl (fun K hK => ?_) AllReady.nil)
      go_simp
      refine hK _ _ ?_
      clear hK K
      refine wpAny_ready (rs := [11]) (by kernel_rfl) (by simp) (ready_step _ rfl rfl (fun K hK => ?_) AllReady.nil)
      go_simp
      refine hK _ _ ?_
      clear hK K
      refine wpAny_ready (rs := [12]) (by kernel_rfl) (by simp) (ready_step _ rfl rfl (fun K hK => ?_) AllReady.nil)
      go_simp
      refine hK _ _ ?_
      clear hK K
      refine wpAny_done (by kernel_rfl) ?_ _
      exact bodyPost_end (v := .tuple #[]) (by simp [results, Tryz.results71, go_sem]) rfl ⟨rfl, unhide HP⟩

end Go.Proofs.YtkpmbbeidcpclaaGreatDoor

namespace Go.Proofs.YtkpmbbeidcpclaaGreatDoor
open Go.RowKit

theorem flat_at {hs : List Bs} (ha : All32 hs) : ∀ {i j : Nat} {h : Bs}, hs[i]? = some h → (hj : j < h.length) → hs.flatten[i * 32 + j]? = some h[j] := by
  induction hs with
  | nil => intro i j h e _; simp at e
  | cons x r ih =>
    intro i j h e hj
    have hx : x.length = 32 := ha x (by simp)
    cases i with
    | zero =>
      simp only [List.getElem?_cons_zero, Option.some.injEq] at e
      subst e
      rw [List.flatten_cons, List.getElem?_append_left (by omega), Nat.zero_mul, Nat.zero_add, List.getElem?_eq_getElem]
    | succ i =>
      rw [List.getElem?_cons_succ] at e
      rw [List.flatten_cons, List.getElem?_append_right (by omega), hx, show (i + 1) * 32 + j - 32 = i * 32 + j by omega]
      exact ih (fun y hy => ha y (by simp [hy])) e hj

/-- Where a stored hash lies. -/
theorem hash_at {base : Nat} {w : World} {v : Value} {hs : List Bs} {i : Nat} {h : Bs} (ho : Hs base w v hs) (ha : All32 hs) (hi : hs[i]? = some h) : ∃ G cap, v = .slice (some ⟨G, 0, none⟩) hs.length cap ∧ hs.length ≤ cap ∧ cap ≤ maxLen ∧ base ≤ G ∧ BAt w (some ⟨G, i * 32, none⟩) h := by
  have hil : i < hs.length := by
    apply Classical.byContradiction; intro hn
    rw [List.getElem?_eq_none (by omega)] at hi; cases hi
  rcases ho.2 with ⟨_, hn⟩ | ⟨G, cap, cur, e, hb, hh, h1, h2, h3, h4⟩
  · omega
  · refine ⟨G, cap, e, h1, h2, hb, ⟨Or.inr ⟨G, i * 32, rfl, fun k hk => ?_⟩⟩⟩
    have h32 : h.length = 32 := ha h (List.mem_of_getElem? hi)
    have hc : w.cell? ⟨G, i * 32 + k, none⟩ = cur[i * 32 + k]? := Lib.cell_of_heap hh _
    rw [hc]
    have e1 : (bsV hs)[i * 32 + k]? = some (byteV h[k]) := by
      unfold bsV
      rw [List.getElem?_map, flat_at ha hi hk]; rfl
    rw [← h4, List.getElem?_take] at e1
    rw [if_pos (by omega)] at e1
    rw [← Array.getElem?_toList]
    exact e1

set_option maxRecDepth 100000 in
set_option maxHeartbeats 2000000 in
theorem at_any {base : Nat} {w : World} {F n v k p q idx : Nat} {hs : List Bs} {h : Bs} (hL : LogAt base w F n hs) (hv : v ≤ 20) (hp : (k + 1) * 2 ^ v = p) (hq : p = q + 1) (hpm : p ≤ 1048576) (hi : stored q + v = idx) (hh : hs[idx]? = some h) (hlen : hs.length ≤ 4194304) :
    Calls Tryz.prog 51 #[.pointer (some ⟨F, 0, none⟩), .int .i64 (v : Int), .int .i64 (k : Int)] w fun e w' => ∃ G O, e = .returned (.slice (some ⟨G, O, none⟩) 32 32) ∧ BAt w (some ⟨G, O, none⟩) h ∧ base ≤ G ∧ ∃ q, w' = w.drewN q := by
  obtain ⟨⟨sv, hF, hH⟩, hall, hfar⟩ := hL
  obtain ⟨G, cap, rfl, hcap, hcm, hbG, hB⟩ := hash_at hH hall hh
  have hcF : w.cell? ⟨F, 1, none⟩ = some (.slice (some ⟨G, 0, none⟩) hs.length cap) := hF.cell 1
  have hil : idx < hs.length := by
    apply Classical.byContradiction; intro hn
    rw [List.getElem?_eq_none (by omega)] at hh; cases hh
  have HPL := fun wx => place_any hv hp hq hpm wx
  rw [hi] at HPL
  have HPL' := hide HPL
  obtain ⟨len, hlen'⟩ : ∃ len, hs.length = len := ⟨_, rfl⟩
  rw [hlen'] at hcF hil hlen
  have hB' := hide hB
  have i1 : (idx : Int) < (len : Int) := by omega
  have w1 : IntKind.i64.wrap (idx : Int) = (idx : Int) := wrapI idx (by omega)
  clear hF hH hall hfar hB hh hlen' hi HPL hp hq hcap
  go_enter Tryz.func51, Tryz.ntmps51
  go_wp2
  go_quiet ((go_at_call 66; exact Calls.quiet_of_same (unhide HPL' _)))
  go_wp2
  go_ret
  exact ⟨G, idx * 32, rfl, unhide hB', hbG, nq, rfl⟩

end Go.Proofs.YtkpmbbeidcpclaaGreatDoor

namespace Go.Proofs.YtkpmbbeidcpclaaGreatDoor
open Go.RowKit

theorem OwnB.frL {b base : Nat} {w w' : World} {v : Value} {l : Bs} (h : OwnB b w v l) (hf : FrL base w w') : OwnB b w' v l := by
  refine ⟨h.1, ?_⟩
  rcases h.2 with ⟨rfl, hn⟩ | ⟨g, cap, cur, rfl, hb, hh, r⟩
  · exact Or.inl ⟨rfl, hn⟩
  · refine Or.inr ⟨g, cap, cur, rfl, hb, ?_, r⟩
    rw [hf.block g (Array.getElem?_eq_some_iff.1 hh).1 (fun cs e => by rw [hh] at e; simp at e) (fun cs e => by rw [hh] at e; simp at e)]
    exact hh

/-- An owned hash has an address. -/
theorem OwnB.adr {b : Nat} {w : World} {v : Value} {l : Bs} (h : OwnB b w v l) (hl : l.length = 32) : ∃ g c, v = .slice (some ⟨g, 0, none⟩) 32 c ∧ BAt w (some ⟨g, 0, none⟩) l := by
  obtain ⟨a, c, hv, hb, _, _⟩ := OwnB.at h
  rw [hl] at hv
  rcases h.2 with ⟨e, hn⟩ | ⟨g, cap, cur, e, _⟩
  · omega
  · rw [hv, hl] at e
    cases e
    exact ⟨g, c, hv, hb⟩

theorem leaf_len (b : Bs) : (leafL b).length = 32 := by
  unfold leafL shaL
  simp only
  rw [List.length_flatMap]
  rfl

set_option maxRecDepth 100000 in
set_option maxHeartbeats 1000000 in
theorem append_any {base : Nat} {w : World} {F n m c : Nat} {a : Option Addr} {lv hs : List Bs} {b : Bs} (hL : LogAt base w F n hs) (hbase : base ≤ w.heap.size) (hI : Inv lv hs) (hn : lv.length = n) (hn2 : n ≤ 100000) (hm : b.length = m) (hm2 : m ≤ 1000000000) (hb : BAt w a b) :
    Calls Tryz.prog 32 #[.pointer (some ⟨F, 0, none⟩), .slice a m c] w fun e w' => e = .returned (.tuple #[.int .i64 (n : Int), .int .i64 0]) ∧ (∃ hs', LogAt base w' F (n + 1) hs' ∧ Inv (lv ++ [leafL b]) hs') ∧ FrL base w w' := by
  have HLF := hide (leaf_any (c := c) hm hm2 hb)
  have hc0 : w.cell? ⟨F, 0, none⟩ = some (.int .i64 (n : Int)) := by
    obtain ⟨v, hF, _⟩ := hL.at_
    exact hF.cell 0
  have q1 : ((n : Int) == 1048576) = false := by simp; omega
  have HL := hide hL
  have HI := hide hI
  have HN := hide hn
  have hst := stored_le (n := n) (by omega)
  have hsl : hs.length = stored n := by rw [hI.len, hn]
  have HSL := hide hsl
  clear hL hI hn hm hb hsl
  go_enter Tryz.func32, Tryz.ntmps32
  go_wp2_with (go_at_call 27; fail)
  refine (unhide HLF).mono ?_
  rintro e w1 ⟨v1, rfl, o1, b1⟩
  obtain ⟨g1, c1, rfl, hb1⟩ := OwnB.adr o1 (leaf_len b)
  have HST := hide (store_any (c := c1) ((unhide HL).low b1) (Nat.le_trans hbase b1.size) (leaf_len b) hb1 (by rw [unhide HSL]; omega))
  have HF1 := hide (FrL.of_low b1 hbase)
  have HO1 := hide o1
  clear o1 b1 hb1 HLF
  go_wp2_with (go_at_call 71; fail)
  refine (unhide HST).mono ?_
  rintro e w2 ⟨rfl, l2, f2⟩
  have HL2 := hide l2
  have HO2 := hide ((unhide HO1).frL f2)
  have HF2 := hide ((unhide HF1).trans f2)
  clear l2 f2 HST HF1 HO1
  go_wp2
  go_loopw [7, 8, 9] (fun v7 v8 _ wr => ∃ (v : Nat) (ext : List Bs) (hash : Bs), v8 = .int .i64 (v : Int) ∧ v ≤ 20 ∧ hash.length = 32 ∧ ext[v]? = some hash ∧ OwnB w.heap.size wr v7 hash ∧ LogAt base wr F n (hs ++ ext) ∧ FrL base w wr ∧ Ext lv (leafL b) v ext) (fun _ v8 _ _ => 40 - (intOf v8).toNat)
  case atStart => exact ⟨0, [leafL b], leafL b, rfl, by omega, leaf_len b, rfl, unhide HO2, unhide HL2, unhide HF2, Ext.start lv (leafL b)⟩
  case round =>
    rename World => wr
    obtain ⟨v, ext, hash, rfl, hv, h32, hxv, ho, hl, hf, he⟩ := hrel
    clear HL2 HO2 HF2
    obtain ⟨k, hk⟩ : ∃ k, n / 2 ^ v = k := ⟨_, rfl⟩
    have hkn : k ≤ n := by rw [← hk]; exact Nat.div_le_self _ _
    have e1 : (n : Int) / 2 ^ v = (k : Int) := by rw [← hk]; push_cast; rfl
    have e2 : min v 64 = v := by omega
    have hand := Go.Proofs.and_one k (by omega)
    have HO := hide ho
    have HLg := hide hl
    have HFr := hide hf
    have HE := hide he
    have H32 := hide h32
    have HXV := hide hxv
    have HK := hide hk
    clear ho hl hf he h32 hxv hk
    by_cases hodd : k % 2 = 1
    · rw [hodd] at hand
      have hand' : bits .and .i64 (k : Int) 1 = 1 := hand
      clear hand
      obtain ⟨k', hk'⟩ : ∃ k', k = k' + 1 := ⟨k - 1, by omega⟩
      have e4 : (k : Int) - 1 = (k' : Int) := by omega
      have hkv : k * 2 ^ v ≤ n := by rw [← unhide HK]; exact Nat.div_mul_le_self n (2 ^ v)
      have hv16 : v ≤ 16 := by
        apply Classical.byContradiction; intro hc
        have a1 : (2 : Nat) ^ 17 ≤ 2 ^ v := Nat.pow_le_pow_right (by decide) (by omega)
        have a2 : 1 * 2 ^ v ≤ k * 2 ^ v := Nat.mul_le_mul_right _ (by omega)
        have a3 : (2 : Nat) ^ 17 = 131072 := by decide
        omega
      have hpos : 0 < 2 ^ v := Nat.two_pow_pos v
      have hk1 : 1 * 2 ^ v ≤ k * 2 ^ v := Nat.mul_le_mul_right _ (by omega)
      have ht := (unhide HI).tree v k' (by rw [unhide HN, ← hk']; exact hkv)
      rw [← hk'] at ht
      have hlt : stored (k * 2 ^ v - 1) + v < hs.length := by
        apply Classical.byContradiction; intro hc
        rw [List.getElem?_eq_none (by omega)] at ht; cases ht
      have hle : (hs ++ ext).length ≤ 4194304 := by
        rw [List.length_append, (unhide HE).len, unhide HSL]; omega
      have HAT := hide (at_any (v := v) (k := k') (p := k * 2 ^ v) (q := k * 2 ^ v - 1) (unhide HLg) hv (by rw [hk']) (by omega) (by omega) rfl (by rw [List.getElem?_append_left hlt]; exact ht) hle)
      obtain ⟨g7, c7, rfl, hb7⟩ := OwnB.adr (unhide HO) (unhide H32)
      have HH1 := hide ((unhide HLg).all _ (List.mem_append_left _ (List.mem_of_getElem? ht)))
      have HB7 := hide hb7
      have HK' := hide hk'
      clear hb7 ht hlt hkv hk1 hpos hk'
      go_wp2_with (go_at_call 51; fail)
      refine (unhide HAT).mono ?_
      rintro e w3 ⟨G, O, rfl, hbG, _, q, hw3⟩
      have hb3 : Below wr.heap.size wr w3 := by rw [hw3]; exact lowN (Below.refl _ _) _
      have HND := hide (node_any (c := 32) (c2 := c7) (b := treeH v (lv.drop (k' * 2 ^ v))) (b2 := hash) (unhide HH1) (unhide H32) (by omega) (by omega) (hbG.low hb3) ((unhide HB7).low hb3))
      have HL3 := hide ((unhide HLg).low hb3)
      have HF3 := hide ((unhide HFr).trans (FrL.of_low hb3 (Nat.le_trans hbase (unhide HFr).size)))
      have HS3 : Hid (w.heap.size ≤ w3.heap.size) := hide (Nat.le_trans (unhide HFr).size hb3.size)
      clear hbG hw3 hb3 HAT
      go_wp2_with (go_at_call 72; fail)
      refine (unhide HND).mono ?_
      rintro e w4 ⟨v4, rfl, o4, b4⟩
      obtain ⟨g4, c4, rfl, hb4⟩ := OwnB.adr o4 (node_len _ _)
      have HO4 := hide (OwnB.less (unhide HS3) o4)
      have HST := hide (store_any (c := c4) ((unhide HL3).low b4) (Nat.le_trans (Nat.le_trans hbase (unhide HS3)) b4.size) (node_len _ _) hb4 hle)
      have HF4 := hide ((unhide HF3).trans (FrL.of_low b4 (Nat.le_trans hbase (unhide HS3))))
      clear o4 b4 hb4 HND HL3 HF3
      go_wp2_with (go_at_call 71; fail)
      refine (unhide HST).mono ?_
      rintro e w5 ⟨rfl, l5, f5⟩
      have HL5 := hide l5
      have HO5 := hide ((unhide HO4).frL f5)
      have HF5 := hide ((unhide HF4).trans f5)
      clear l5 f5 HST HF4 HO4
      go_wp2
      go_roundw
      case rel =>
        have hx := unhide HE
        refine ⟨v + 1, ext ++ [nodeL (treeH v (lv.drop (k' * 2 ^ v))) hash], _, by push_cast; rfl, by omega, node_len _ _, ?_, unhide HO5, by rw [← List.append_assoc]; exact unhide HL5, unhide HF5, hx.next ?_ ?_⟩
        · rw [List.getElem?_append_right (by rw [hx.len]; omega), hx.len, Nat.sub_self]; rfl
        · rw [unhide HN, unhide HK]; exact hodd
        · have h1 := hx.tree v (Nat.le_refl _)
          rw [unhide HXV] at h1
          rw [Option.some.inj h1, unhide HN, unhide HK, unhide HK']
          rfl
      case measure => simp [intOf]; omega
    · have h0 : k % 2 = 0 := by omega
      rw [h0] at hand
      have hand' : bits .and .i64 (k : Int) 1 = 0 := hand
      clear hand
      have HD : Hid (Inv (lv ++ [leafL b]) (hs ++ ext)) := hide (by
        have hh := unhide HK
        rw [← unhide HN] at hh
        exact Ext.done (unhide HI) (unhide HE) (by rw [hh]; exact h0) (by rw [unhide HN]; omega))
      obtain ⟨sv, hF, hH⟩ := (unhide HLg).at_
      have hcr : wr.cell? ⟨F, 0, none⟩ = some (.int .i64 (n : Int)) := hF.cell 0
      have hfr := hF.free 0
      have HF := hide hF
      have HH := hide hH
      clear hF hH
      obtain ⟨n1, hn1⟩ : ∃ n1, n + 1 = n1 := ⟨_, rfl⟩
      have e3 : (n : Int) + 1 = (n1 : Int) := by omega
      have HN1 := hide hn1
      clear hn1
      have HP : Hid ((∃ hs', LogAt base (wr.setCell ⟨F, 0, none⟩ (.int .i64 (n1 : Int))) F (n + 1) hs' ∧ Inv (lv ++ [leafL b]) hs') ∧ FrL base w (wr.setCell ⟨F, 0, none⟩ (.int .i64 (n1 : Int)))) := hide (by
        have hoth : ∀ k, k ≠ F → (wr.setCell ⟨F, 0, none⟩ (.int .i64 (n1 : Int))).heap[k]? = wr.heap[k]? := fun k hk => Below.heap_setCell _ _ _ _ (by simpa using hk)
        have hsz : (wr.setCell ⟨F, 0, none⟩ (.int .i64 (n1 : Int))).heap.size = wr.heap.size := by simp
        refine ⟨⟨hs ++ ext, ⟨⟨sv, by rw [unhide HN1]; exact (unhide HF).set 0 (.int .i64 (n1 : Int)), (unhide HH).1, ?_⟩, (unhide HLg).all, (unhide HLg).far⟩, unhide HD⟩, (unhide HFr).trans ⟨⟨?_, ?_, ?_, ?_, ?_⟩, ?_, ?_⟩⟩
        · rcases (unhide HH).2 with ⟨ev, hn⟩ | ⟨g, cap, cur, ev, hb, hh, r⟩
          · exact Or.inl ⟨ev, hn⟩
          · refine Or.inr ⟨g, cap, cur, ev, hb, ?_, r⟩
            rw [hoth g (by
              intro e
              rw [e] at hh
              have : wr.heap[F]? = some (.cells #[.int .i64 (n : Int), sv] 83 (0, 0)) := unhide HF
              rw [this] at hh
              simp at hh)]
            exact hh
        · rfl
        · rfl
        · rfl
        · rw [hsz]; exact Nat.le_refl _
        · intro k hk
          have := (unhide HLg).far
          exact hoth k (by omega)
        · rw [hsz]; exact Nat.le_refl _
        · intro k hk h1 _
          exact hoth k (fun e => h1 _ (by rw [e]; exact unhide HF)))
      go_wp2
      go_ret2
      exact ⟨rfl, unhide HP⟩

end Go.Proofs.YtkpmbbeidcpclaaGreatDoor

namespace Go.Proofs.YtkpmbbeidcpclaaGreatDoor
open Go.RowKit

theorem new_any (w : World) : Calls Tryz.prog 30 #[] w fun e w' => e = .returned (.pointer (some ⟨w.heap.size, 0, none⟩)) ∧ LogAt w.heap.size w' w.heap.size 0 [] ∧ Below w.heap.size w w' := by
  have HB : Hid (LogAt w.heap.size (w.alloc (.cells #[.int .i64 0, .slice none 0 0] 83)) w.heap.size 0 [] ∧ Below w.heap.size w (w.alloc (.cells #[.int .i64 0, .slice none 0 0] 83))) := hide
    ⟨⟨⟨_, Blk.new w _ _, rfl, Or.inl ⟨rfl, rfl⟩⟩, fun h hh => by simp at hh, Nat.le_refl _⟩, (Below.refl _ _).alloc (Nat.le_refl _) _⟩
  go_enter Tryz.func30, Tryz.ntmps30
  go_wp2
  go_ret
  exact ⟨rfl, unhide HB⟩

/-- The front of an owned row. -/
theorem OwnB.front {b : Nat} {w : World} {g n cap : Nat} {l m : Bs} (h : OwnB b w (.slice (some ⟨g, 0, none⟩) n cap) (l ++ m)) : BAt w (some ⟨g, 0, none⟩) l := by
  obtain ⟨a, c, hv, hb, _, _⟩ := OwnB.at h
  cases hv
  rcases hb.els with e | ⟨B, O, ea, hx⟩
  · have : l = [] := by
      cases l with
      | nil => rfl
      | cons x r => simp at e
    exact ⟨Or.inl this⟩
  · refine ⟨Or.inr ⟨B, O, ea, fun k hk => ?_⟩⟩
    have := hx k (by rw [List.length_append]; omega)
    rw [List.getElem_append_left hk] at this
    exact this

set_option maxRecDepth 100000 in
set_option maxHeartbeats 1000000 in
theorem lent_any {w : World} {a : Option Addr} {n c : Nat} {b : Bs} (hn : b.length = n) (hN : n ≤ 2000000) (h : BAt w a b) :
    Calls Tryz.prog 31 #[.slice a n c] w fun e w' => ∃ g cap, e = .returned (.slice (some ⟨g, 0, none⟩) n cap) ∧ n + 1 ≤ cap ∧ cap ≤ maxLen ∧ w.heap.size ≤ g ∧ OwnB w.heap.size w' (.slice (some ⟨g, 0, none⟩) (n + 1) cap) (b ++ [201]) ∧ Below w.heap.size w w' := by
  have HBY := hide (bytes_any (c := c) hn (by omega) h)
  have HN := hide hn
  clear hn h
  go_enter Tryz.func31, Tryz.ntmps31
  go_wp2_with (go_at_call 70; fail)
  refine (unhide HBY).mono ?_
  rintro e w1 ⟨v1, rfl, o1, b1⟩
  obtain ⟨W2, hW2⟩ : ∃ W2, w1.alloc (.cells #[.int .u8 ((201 : UInt8).toNat : Int)] 5) = W2 := ⟨_, rfl⟩
  obtain ⟨v3, w3, happ, o3, g3⟩ := app_byte (c := 201) o1 b1.size (by rw [unhide HN]; omega) hW2
  have hb3 : Below w.heap.size w w3 := b1.trans (g3.low b1.size (OwnB.base o1))
  obtain ⟨g, cap, rfl, hgw, hcap, hcm⟩ : ∃ g cap, v3 = .slice (some ⟨g, 0, none⟩) (n + 1) cap ∧ w.heap.size ≤ g ∧ n + 1 ≤ cap ∧ cap ≤ maxLen := by
    rcases o3.2 with ⟨_, hn0⟩ | ⟨g, cap, cur, e, hb, _, h1, h2, _⟩
    · simp at hn0
    · have hl : (b ++ [201]).length = n + 1 := by rw [List.length_append, unhide HN]; rfl
      rw [hl] at e h1
      exact ⟨g, cap, e, hb, h1, h2⟩
  have HP : Hid (w.heap.size ≤ g ∧ OwnB w.heap.size w3 (.slice (some ⟨g, 0, none⟩) (n + 1) cap) (b ++ [201]) ∧ Below w.heap.size w w3) := hide ⟨hgw, o3, hb3⟩
  have hW2' : w1.alloc (.cells #[.int .u8 201] 5) = W2 := hW2
  have HW2 := hide hW2'
  obtain ⟨n1, hn1⟩ : ∃ n1, n + 1 = n1 := ⟨_, rfl⟩
  rw [hn1] at happ hcap
  have HN1 := hide hn1
  have hnc : n ≤ cap := by omega
  have hnci : (n : Int) ≤ (cap : Int) := by omega
  have hcm2 : cap ≤ 9223372036854775807 := hcm
  clear o1 b1 o3 g3 hb3 hW2 hW2' hgw hn1 HBY
  go_wp2_with (at_builtin; rw [unhide HW2]; refine Lib.wpList_append_run _ rfl _ _ _ _ rfl _ _ rfl rfl _ _ happ ?_)
  go_ret
  refine ⟨g, cap, rfl, by rw [unhide HN1]; exact hcap, hcm, unhide HP⟩

set_option maxRecDepth 100000 in
set_option maxHeartbeats 1000000 in
theorem kept_any {w : World} {base g n cap : Nat} {a : Option Addr} {c : Nat} {b : Bs} (hn : b.length = n) (hN : n ≤ 2000000) (hcap : n + 1 ≤ cap) (ho : OwnB base w (.slice (some ⟨g, 0, none⟩) (n + 1) cap) (b ++ [201])) (h : BAt w a b) :
    Calls Tryz.prog 33 #[.slice (some ⟨g, 0, none⟩) n cap, .slice a n c] w fun e w' => e = .returned (.bool true) ∧ ∃ q, w' = w.drewN q := by
  have HSB := hide (sameBytes_any (c := cap) (c2 := c) hn hn (by omega) (by omega) ho.front h)
  have hc : w.cell? ⟨g, n, none⟩ = some (.int .u8 201) := by
    obtain ⟨a', c', hv, hb, _, _⟩ := OwnB.at ho
    have ha : some ⟨g, 0, none⟩ = a' := (Value.slice.inj hv).1
    rcases hb.els with e | ⟨B, O, ea, hx⟩
    · simp at e
    · rw [← ha] at ea
      cases ea
      have := hx n (by rw [List.length_append]; simp; omega)
      rw [List.getElem_append_right (by omega)] at this
      simpa [hn] using this
  obtain ⟨n1, hn1⟩ : ∃ n1, n + 1 = n1 := ⟨_, rfl⟩
  rw [hn1] at hcap
  have e1 : (n : Int) + 1 = (n1 : Int) := by omega
  have e2 : (n1 : Int) ≤ (cap : Int) := by omega
  have e3 : n < n1 := by omega
  have e4 : (n : Int) < (n1 : Int) := by omega
  have hn1b : n1 ≤ 2000001 := by omega
  clear hn ho h hn1
  go_enter Tryz.func33, Tryz.ntmps33
  go_wp2_with (go_at_call 22; fail)
  refine (unhide HSB).mono ?_
  rintro e w1 ⟨rfl, q, hw1⟩
  rw [show decide True = true from rfl]
  have hc1 : w1.cell? ⟨g, n, none⟩ = some (.int .u8 201) := by rw [hw1]; exact hc
  have HW := hide hw1
  clear hw1 hc
  go_wp2
  go_ret
  exact ⟨rfl, q, unhide HW⟩

end Go.Proofs.YtkpmbbeidcpclaaGreatDoor

namespace Go.Proofs.YtkpmbbeidcpclaaGreatDoor
open Go.RowKit

theorem LogAt.keep {base : Nat} {w w' : World} {F n : Nat} {hs : List Bs} (h : LogAt base w F n hs) (hk : ∀ (k : Nat) (cs : Array Value) (t : TypeId), w.heap[k]? = some (Obj.cells cs t (0, 0)) → (t = 83 ∨ t = 112) → w'.heap[k]? = w.heap[k]?) : LogAt base w' F n hs := by
  obtain ⟨⟨v, h1, h2⟩, h3, h4⟩ := h
  refine ⟨⟨v, (hk F _ 83 h1 (Or.inl rfl)).trans h1, h2.1, ?_⟩, h3, h4⟩
  rcases h2.2 with ⟨rfl, hn⟩ | ⟨g, cap, cur, rfl, hb, hh, r⟩
  · exact Or.inl ⟨rfl, hn⟩
  · exact Or.inr ⟨g, cap, cur, rfl, hb, (hk g _ 112 hh (Or.inr rfl)).trans hh, r⟩

theorem set_other {w : World} {g k j : Nat} {v : Value} (h : j ≠ g) : (w.setCell ⟨g, k, none⟩ v).heap[j]? = w.heap[j]? := Below.heap_setCell _ _ _ _ (by simpa using h)
theorem set_size {w : World} {g k : Nat} {v : Value} : (w.setCell ⟨g, k, none⟩ v).heap.size = w.heap.size := by simp

theorem LogAt.set {base : Nat} {w : World} {F n g k : Nat} {hs : List Bs} {cs : Array Value} {v : Value} (h : LogAt base w F n hs) (hg : Blk w g cs 5) : LogAt base (w.setCell ⟨g, k, none⟩ v) F n hs :=
  h.keep fun j _ _ hj ht => set_other (fun e => by
    rw [e] at hj
    have : w.heap[g]? = some (.cells cs 5 (0, 0)) := hg
    rw [this] at hj
    simp only [Option.some.injEq, Obj.cells.injEq] at hj
    obtain ⟨_, rfl, _⟩ := hj
    revert ht
    decide)
theorem FrL.set {base : Nat} {a b : World} {g k : Nat} {v : Value} (h : FrL base a b) (hg : a.heap.size ≤ g) (hB : base ≤ a.heap.size) : FrL base a (b.setCell ⟨g, k, none⟩ v) := by
  refine ⟨h.low.trans ⟨rfl, rfl, rfl, by rw [set_size]; exact Nat.le_refl _, fun j hj => set_other (by omega)⟩, by rw [set_size]; exact h.size, fun j hj h1 h2 => ?_⟩
  rw [set_other (by omega)]
  exact h.block j hj h1 h2

/-- A list of hashes, each in a block of its own. -/
def LvAt (base : Nat) (w : World) (v : Value) (ls : List Bs) : Prop := ∃ us : List Value, w.ownsRow base 32 1 v ls.length us ∧ ∀ k (hk : k < ls.length), ∃ u, us[k]? = some u ∧ OwnB base w u ls[k]

theorem LvAt.nil (base : Nat) (w : World) : LvAt base w (.slice none 0 0) [] := ⟨[], ⟨rfl, Or.inl ⟨rfl, rfl⟩⟩, fun k hk => by simp at hk⟩

theorem row29 {w : World} {base n : Nat} {v : Value} {xs : List Value} {g : Nat} (h : w.ownsRow base 32 1 v n xs) (hg : v.ownBlock = some g) : base ≤ g ∧ ∃ cur, w.heap[g]? = some (.cells cur 32 (0, 0)) := by
  rcases h.2 with ⟨rfl, _⟩ | ⟨g', cap, cur, rfl, hb, hh, _⟩
  · cases hg
  · cases hg; exact ⟨hb, cur, hh⟩

theorem LvAt.keep {base : Nat} {w w' : World} {v : Value} {ls : List Bs} (h : LvAt base w v ls) (hk : ∀ (k : Nat) (cs : Array Value) (t : TypeId), w.heap[k]? = some (Obj.cells cs t (0, 0)) → (t = 5 ∨ t = 32) → w'.heap[k]? = w.heap[k]?) : LvAt base w' v ls := by
  obtain ⟨us, h1, h2⟩ := h
  refine ⟨us, ⟨h1.1, ?_⟩, fun k hkk => ?_⟩
  · rcases h1.2 with ⟨rfl, hn⟩ | ⟨g, cap, cur, rfl, hb, hh, r⟩
    · exact Or.inl ⟨rfl, hn⟩
    · exact Or.inr ⟨g, cap, cur, rfl, hb, (hk g _ 32 hh (Or.inr rfl)).trans hh, r⟩
  · obtain ⟨u, e, o⟩ := h2 k hkk
    refine ⟨u, e, o.1, ?_⟩
    rcases o.2 with ⟨rfl, hn⟩ | ⟨g, cap, cur, rfl, hb, hh, r⟩
    · exact Or.inl ⟨rfl, hn⟩
    · exact Or.inr ⟨g, cap, cur, rfl, hb, (hk g _ 5 hh (Or.inl rfl)).trans hh, r⟩
theorem LvAt.frL {base : Nat} {w w' : World} {v : Value} {ls : List Bs} (h : LvAt base w v ls) (hf : FrL base w w') : LvAt base w' v ls :=
  h.keep fun k _ _ hk ht => hf.block k (Array.getElem?_eq_some_iff.1 hk).1 (fun cs' e => by rw [hk] at e; simp only [Option.some.injEq, Obj.cells.injEq] at e; obtain ⟨_, rfl, _⟩ := e; revert ht; decide) (fun cs' e => by rw [hk] at e; simp only [Option.some.injEq, Obj.cells.injEq] at e; obtain ⟨_, rfl, _⟩ := e; revert ht; decide)
theorem LvAt.low {base : Nat} {w w' : World} {v : Value} {ls : List Bs} (h : LvAt base w v ls) (b : Below w.heap.size w w') : LvAt base w' v ls :=
  h.keep fun k _ _ hk _ => b.block k (Array.getElem?_eq_some_iff.1 hk).1
theorem LvAt.len {base : Nat} {w : World} {v : Value} {ls : List Bs} (h : LvAt base w v ls) : ∃ a c, v = .slice a ls.length c ∧ ls.length ≤ c ∧ c ≤ maxLen := by
  obtain ⟨us, h1, _⟩ := h
  rcases h1.2 with ⟨rfl, hn⟩ | ⟨g, cap, cur, rfl, hb, hh, h2, h3, _⟩
  · exact ⟨none, 0, by rw [hn], by omega, by unfold maxLen; omega⟩
  · exact ⟨_, cap, rfl, h2, h3⟩
/-- It is a list of hashes at a slice. -/
theorem LvAt.pat {base : Nat} {w : World} {v : Value} {ls : List Bs} (h : LvAt base w v ls) : ∃ a c, v = .slice a ls.length c ∧ ls.length ≤ c ∧ PAt w a ls := by
  obtain ⟨us, h1, h2⟩ := h
  rcases h1.2 with ⟨rfl, hn⟩ | ⟨g, cap, cur, rfl, hb, hh, h3, _, h4, h5⟩
  · exact ⟨none, 0, by rw [hn], by omega, ⟨Or.inl (List.length_eq_zero_iff.1 hn)⟩⟩
  · refine ⟨_, cap, rfl, h3, ⟨Or.inr ⟨g, 0, rfl, fun k hk => ?_⟩⟩⟩
    obtain ⟨u, e, o⟩ := h2 k hk
    obtain ⟨a, c, rfl, hb2, _, _⟩ := OwnB.at o
    refine ⟨a, c, ?_, hb2⟩
    have hc : w.cell? ⟨g, 0 + k, none⟩ = cur[0 + k]? := Lib.cell_of_heap hh _
    rw [hc, Nat.zero_add]
    rw [← h5, List.getElem?_take, if_pos (by omega)] at e
    rw [← Array.getElem?_toList]
    exact e

theorem info29 : (Tryz.prog.info? 32).map (fun i => (i.zero, i.size, i.bytes)) = some (some (.slice none 0 0), 1, 24) := by kernel_rfl

/-- append of one hash's slice, laid into a block of its own. -/
theorem app_leaf {base : Nat} {w W1 : World} {v : Value} {ls : List Bs} {h : Bs} {a : Option Addr} {n c : Nat} (hl : LvAt base w v ls) (hu : OwnB base w (.slice a n c) h) (hB : base ≤ w.heap.size) (hls : ls.length ≤ 1000000) (hW : w.alloc (.cells #[.slice a n c] 32) = W1) :
    ∃ v' w', (Builtin.append_ #[22, 22] 22 #[v, .slice (some ⟨w.heap.size, 0, none⟩) 1 1]).run Tryz.prog W1 = .ok v' w' ∧ LvAt base w' v' (ls ++ [h]) ∧ Below base w w' ∧ ∀ k, k < w.heap.size → (∀ cs, w.heap[k]? ≠ some (.cells cs 32 (0, 0))) → w'.heap[k]? = w.heap[k]? := by
  obtain ⟨i0, hi, hz0, hz1, hz2⟩ := info_parts info29
  have b1 : Below w.heap.size w W1 := by rw [← hW]; exact (Below.refl _ _).alloc (Nat.le_refl _) _
  have hz : Blk W1 w.heap.size #[.slice a n c] 32 := by rw [← hW]; exact Blk.new _ _ _
  obtain ⟨us, h1, h2⟩ := hl.low b1
  obtain ⟨us0, g1, _⟩ := hl
  obtain ⟨v', w', r1, r2, r3, _, r5⟩ := run_append_own_at (P := Tryz.prog) W1 base 22 22 32 i0 _ 1 24 Tryz.underlying22 hi hz0 hz1 hz2 rfl (by decide) v ls.length us h1 ⟨w.heap.size, 0, none⟩ 1 1 [.slice a n c] rfl (fun j u hj => by
    cases j with
    | zero =>
      simp only [List.getElem?_cons_zero, Option.some.injEq] at hj
      rw [← hj]
      exact hz.cell 0
    | succ j => simp at hj) (fun u hu => by simp at hu; rw [hu]; rfl) (by unfold maxLen; omega) (by omega) (Nat.le_trans hB b1.size)
  have hblk : ∀ k, k < w.heap.size → (∀ cs, w.heap[k]? ≠ some (.cells cs 32 (0, 0))) → w'.heap[k]? = w.heap[k]? := fun k hk hne => by
    rw [r3.block k (Nat.lt_of_lt_of_le hk b1.size) (fun e => by
      obtain ⟨_, cur, hc⟩ := row29 g1 e.symm
      exact hne cur hc), b1.block k hk]
  have hown : ∀ u l, OwnB base w u l → OwnB base w' u l := fun u l o => by
    refine ⟨o.1, ?_⟩
    rcases o.2 with ⟨rfl, hn⟩ | ⟨g, cap, cur, rfl, hb, hh, r⟩
    · exact Or.inl ⟨rfl, hn⟩
    · refine Or.inr ⟨g, cap, cur, rfl, hb, ?_, r⟩
      rw [hblk g (Array.getElem?_eq_some_iff.1 hh).1 (fun cs e => by rw [hh] at e; simp at e)]
      exact hh
  refine ⟨v', w', r1, ⟨us ++ [.slice a n c], by rw [List.length_append]; exact r2, fun k hk => ?_⟩, ⟨r3.os.trans b1.os, r3.tape.trans b1.tape, r3.output.trans b1.output, Nat.le_trans b1.size r3.size, fun k hk => ?_⟩, hblk⟩
  · have hul : us.length = ls.length := by have := h1.1; omega
    by_cases hkl : k < ls.length
    · obtain ⟨u, e, o⟩ := h2 k hkl
      rw [List.getElem_append_left hkl, List.getElem?_append_left (by omega)]
      refine ⟨u, e, ?_⟩
      -- the leaf lay in the world before
      rcases o.2 with ⟨rfl, hn⟩ | ⟨g, cap, cur, rfl, hb, hh, r⟩
      · exact ⟨o.1, Or.inl ⟨rfl, hn⟩⟩
      · refine ⟨o.1, Or.inr ⟨g, cap, cur, rfl, hb, ?_, r⟩⟩
        rw [r3.block g (Array.getElem?_eq_some_iff.1 hh).1 (fun e2 => by
          obtain ⟨_, cur2, hc⟩ := row29 h1 e2.symm
          rw [hh] at hc
          simp at hc)]
        exact hh
    · rw [List.length_append] at hk
      simp only [List.length_cons, List.length_nil] at hk
      have hke : k = ls.length := by omega
      subst hke
      rw [List.getElem_append_right (by omega), List.getElem?_append_right (by omega)]
      refine ⟨.slice a n c, by simp [hul], ?_⟩
      simpa using hown _ _ hu
  · rw [r3.block k (Nat.lt_of_lt_of_le hk (Nat.le_trans hB b1.size)) (fun e => by
      obtain ⟨hx, _⟩ := row29 g1 e.symm
      omega), b1.block k (Nat.lt_of_lt_of_le hk hB)]

end Go.Proofs.YtkpmbbeidcpclaaGreatDoor

namespace Go.Proofs.YtkpmbbeidcpclaaGreatDoor
open Go.RowKit

/-- What made leaves: a log, and its leaves' hashes. -/
structure Made (base : Nat) (w0 w : World) (F n : Nat) (v : Value) (ls : List Bs) : Prop where
  log : ∃ hs, LogAt base w F n hs ∧ Inv ls hs
  lv : LvAt base w v ls
  low : Below base w0 w
  far : base ≤ w.heap.size

theorem BAt.fr {base : Nat} {w w' : World} {a : Option Addr} {l : Bs} (h : BAt w a l) (hb : Below base w w') (hl : ∀ B O, a = some ⟨B, O, none⟩ → B < base) : BAt w' a l := by
  rcases h.els with e | ⟨B, O, ea, hx⟩
  · exact ⟨Or.inl e⟩
  · refine ⟨Or.inr ⟨B, O, ea, fun k hk => ?_⟩⟩
    rw [hb.cell (hl B O ea)]
    exact hx k hk

set_option maxRecDepth 100000 in
set_option maxHeartbeats 1000000 in
theorem made_any {w : World} {a : Option Addr} {n c : Nat} {ps : List Bs} (hn : ps.length = n) (hN : n ≤ 1000) (hps : ∀ p ∈ ps, p.length ≤ 1100000) (h : PAt w a ps) :
    Calls Tryz.prog 8 #[.slice a n c] w fun e w' => ∃ F v, e = .returned (.tuple #[.pointer (some ⟨F, 0, none⟩), v]) ∧ Made w.heap.size w w' F n v (ps.map leafL) := by
  have HN := hide hn
  have HPS := hide hps
  have H := hide h
  clear hn hps h
  go_enter Tryz.func8, Tryz.ntmps8
  go_wp2_with (go_at_call 30; fail)
  refine (new_any w).mono ?_
  rintro e w1 ⟨rfl, l1, b1⟩
  obtain ⟨F, hF⟩ : ∃ F, w.heap.size = F := ⟨_, rfl⟩
  rw [hF]
  have HM : Hid (Made w.heap.size w w1 F 0 (.slice none 0 0) []) := hide ⟨⟨[], by rw [← hF]; exact l1, Inv.nil⟩, LvAt.nil _ _, b1, b1.size⟩
  clear l1 b1 hF
  go_wp2
  go_loopw [5, 6, 7, 8, 9, 10] (fun v5 v6 _ _ _ _ wr => ∃ i : Nat, i ≤ n ∧ v6 = .int .i64 (i : Int) ∧ Made w.heap.size w wr F i v5 ((ps.take i).map leafL)) (fun _ v6 _ _ _ _ _ => n - (intOf v6).toNat)
  case atStart => exact ⟨0, Nat.zero_le _, rfl, unhide HM⟩
  case round =>
    rename World => wr
    obtain ⟨i, hi, rfl, hm⟩ := hrel
    clear HM
    by_cases hlt : i < n
    · have hip : i < ps.length := by rw [unhide HN]; exact hlt
      rcases (unhide H).els with h0 | ⟨B, O, rfl, he⟩
      · rw [h0] at hip; simp at hip
      obtain ⟨x, d, hc, hbx⟩ := he i hip
      have hpl := unhide HPS ps[i] (List.getElem_mem hip)
      obtain ⟨b, hb⟩ : ∃ b, ps[i] = b := ⟨_, rfl⟩
      rw [hb] at hc hbx hpl
      obtain ⟨m, hmm⟩ : ∃ m, b.length = m := ⟨_, rfl⟩
      rw [hmm] at hc hpl
      have htake : (ps.take (i + 1)).map leafL = (ps.take i).map leafL ++ [leafL b] := by
        rw [List.take_add_one, List.getElem?_eq_getElem hip, List.map_append, hb]; rfl
      obtain ⟨⟨hs, hlog, hinv⟩, hlv, hlow, hfar⟩ := hm
      have hlen : ((ps.take i).map leafL).length = i := by rw [List.length_map, List.length_take]; omega
      have hcr : wr.cell? ⟨B, O + i, none⟩ = some (.slice x m d) := (hlow.cell (lt_of_cell hc)).trans hc
      have hbr : BAt wr x b := hbx.low hlow
      have HLN := hide (lent_any (c := d) hmm (by omega) hbr)
      have HTK := hide htake
      have HLV := hide hlv
      have HLOW := hide hlow
      have HLOG := hide hlog
      have HINV := hide hinv
      have HLEN := hide hlen
      have HBX := hide hbx
      have HC := hide hc
      have HMM := hide hmm
      clear he hc hbx hlog hinv hlv hlow htake hlen hbr hb hmm
      go_wp2_with (go_at_call 31; fail)
      refine (unhide HLN).mono ?_
      rintro e w2 ⟨g, cap, rfl, hcap, hcm, hg, o2, b2⟩
      have HAP := hide (append_any (c := cap) ((unhide HLOG).low b2) (Nat.le_trans hfar b2.size) (unhide HINV) (unhide HLEN) (by omega) (unhide HMM) (by omega) o2.front)
      have HO2 := hide o2
      have HF2 := hide (FrL.of_low b2 hfar)
      have hnc : m ≤ cap := by omega
      clear o2 b2 HLN hcr
      go_wp2_with (go_at_call 32; fail)
      refine (unhide HAP).mono ?_
      rintro e w3 ⟨rfl, ⟨hs3, l3, i3⟩, f3⟩
      have hF3 := (unhide HF2).trans f3
      have hc3 : w3.cell? ⟨B, O + i, none⟩ = some (.slice x m d) := ((unhide HLOW).trans hF3.low |>.cell (lt_of_cell (unhide HC))).trans (unhide HC)
      have hlow3 := (unhide HLOW).trans hF3.low
      have o3 := (unhide HO2).frL f3
      have HKP := hide (kept_any (c := d) (unhide HMM) (by omega) hcap o3 ((unhide HBX).low hlow3))
      have HO3 := hide o3
      have HL3 := hide l3
      have HI3 := hide i3
      have HF3 := hide hF3
      clear o3 l3 i3 f3 hF3 hlow3 HAP HF2 HO2 HLOG HINV
      go_wp2_with (go_at_call 21; fail)
      refine (errno_any _ _).mono ?_
      rintro e w4 ⟨rfl, rfl⟩
      go_wp2_with (go_at_call 33; fail)
      refine (unhide HKP).mono ?_
      rintro e w5 ⟨rfl, q, hw5⟩
      have hb5 : Below w4.heap.size w4 w5 := by rw [hw5]; exact lowN (Below.refl _ _) _
      obtain ⟨cs5, hk5, hsz5⟩ : ∃ cs, Blk w5 g cs 5 ∧ cs.size = cap := by
        rcases (OwnB.low (unhide HO3) hb5).2 with ⟨e, _⟩ | ⟨g', cap', cur, e, _, hh, _, _, hcs, _⟩
        · cases e
        · obtain ⟨e1, _, e3⟩ := Value.slice.inj e
          cases e1
          exact ⟨cur, hh, by rw [hcs, Nat.mul_one, e3]⟩
      have HK5 : Hid (∃ cs, Blk w5 g cs 5 ∧ cs.size = cap) := hide ⟨cs5, hk5, hsz5⟩
      have HL5 := hide ((unhide HL3).low hb5)
      have HF5 := hide ((unhide HF3).trans (FrL.of_low hb5 (Nat.le_trans hfar (unhide HF3).size)))
      clear hw5 hb5 hk5 hsz5 cs5 HKP HO3 HL3 HF3 hc3
      go_wp2
      go_loopw [10] (fun v10 wy => ∃ k : Nat, k ≤ m ∧ v10 = .int .i64 (k : Int) ∧ (∃ cs, Blk wy g cs 5 ∧ cs.size = cap) ∧ LogAt w.heap.size wy F (i + 1) hs3 ∧ FrL w.heap.size wr wy) (fun v10 _ => m - (intOf v10).toNat)
      case atStart => exact ⟨0, Nat.zero_le _, rfl, unhide HK5, unhide HL5, unhide HF5⟩
      case round =>
        rename World => wy
        obtain ⟨k, hk, rfl, ⟨cs, hbk, hsz⟩, hly, hfy⟩ := hrel
        clear HK5 HL5 HF5
        by_cases hkm : k < m
        · have hcell : wy.cell? ⟨g, k, none⟩ = some (cs[k]'(by omega)) := by rw [hbk.cell k, Array.getElem?_eq_getElem]
          have hfree := hbk.free k
          have HR : Hid ((∃ cs, Blk (wy.setCell ⟨g, k, none⟩ (.int .u8 77)) g cs 5 ∧ cs.size = cap) ∧ LogAt w.heap.size (wy.setCell ⟨g, k, none⟩ (.int .u8 77)) F (i + 1) hs3 ∧ FrL w.heap.size wr (wy.setCell ⟨g, k, none⟩ (.int .u8 77))) := hide ⟨⟨_, hbk.set k _, by simp [hsz]⟩, hly.set hbk, hfy.set hg hfar⟩
          generalize (cs[k]'(by omega)) = old at hcell
          clear hbk hsz hly hfy
          go_wp2
          go_roundw
          case rel => exact ⟨k + 1, hkm, by push_cast; rfl, unhide HR⟩
          case measure => simp [intOf]; omega
        · have hcy : wy.cell? ⟨B, O + i, none⟩ = some (.slice x m d) := ((unhide HLOW).trans hfy.low |>.cell (lt_of_cell (unhide HC))).trans (unhide HC)
          have hlowy := (unhide HLOW).trans hfy.low
          have HRL := hide (refLeaf_any (c := d) (unhide HMM) (by omega) ((unhide HBX).low hlowy))
          have HLY := hide hly
          have HFY := hide hfy
          clear hly hfy hlowy hbk hsz
          go_wp2_with (go_at_call 34; fail)
          refine (unhide HRL).mono ?_
          rintro e w8 ⟨v8, rfl, o8, b8⟩
          obtain ⟨g8, c8, rfl, _⟩ := OwnB.adr o8 (leaf_len b)
          have hf8 : FrL w.heap.size wr w8 := (unhide HFY).trans (FrL.of_low b8 (Nat.le_trans hfar (unhide HFY).size))
          have hB8 : w.heap.size ≤ w8.heap.size := Nat.le_trans hfar hf8.size
          obtain ⟨W9, hW9⟩ : ∃ W9, w8.alloc (.cells #[.slice (some ⟨g8, 0, none⟩) 32 c8] 32) = W9 := ⟨_, rfl⟩
          obtain ⟨v10, w10, happ, lv10, low10, blk10⟩ := app_leaf ((unhide HLV).frL hf8) (OwnB.less (Nat.le_trans hfar (unhide HFY).size) o8) hB8 (by rw [unhide HLEN]; omega) hW9
          have HM : Hid (Made w.heap.size w w10 F (i + 1) v10 ((ps.take (i + 1)).map leafL)) := hide (by
            refine ⟨⟨hs3, ((unhide HLY).low b8).keep fun k cs t hk ht => blk10 k (Array.getElem?_eq_some_iff.1 hk).1 (fun cs' e => by
              rw [hk] at e; simp only [Option.some.injEq, Obj.cells.injEq] at e; obtain ⟨_, rfl, _⟩ := e; revert ht; decide), ?_⟩, ?_, ((unhide HLOW).trans hf8.low).trans low10, Nat.le_trans hB8 low10.size⟩
            · rw [unhide HTK]; exact unhide HI3
            · rw [unhide HTK]; exact lv10)
          have HW9 := hide hW9
          clear o8 b8 hf8 hB8 hW9 lv10 low10 blk10 HRL HLY HFY
          go_wp2_with (at_builtin; rw [unhide HW9]; refine Lib.wpList_append_run _ rfl _ _ _ _ rfl _ _ rfl rfl _ _ happ ?_)
          go_roundw
          case rel => exact ⟨i + 1, hlt, by push_cast; rfl, unhide HM⟩
          case measure => simp [intOf]; omega
    · have hin : i = n := by omega
      have HM : Hid (Made w.heap.size w wr F n u5 (ps.map leafL)) := hide (by
        rw [hin, List.take_of_length_le (by rw [unhide HN]; omega)] at hm
        exact hm)
      clear hm
      go_wp2
      go_ret2
      exact ⟨F, u5, rfl, unhide HM⟩

end Go.Proofs.YtkpmbbeidcpclaaGreatDoor
