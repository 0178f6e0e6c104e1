/-
  Sorting by sort.SliceStable where 'less' makes blocks: what is asked of 'less' and 'swap', and the contracts of swapRange_func and rotate_func.
-/
import Derived.Test.YtcmafidnaojkiaaGreatDoorVersA
import Derived.Shelf.GgSortFunc.Insertion
namespace Go.Proofs.YtcmafidnaojkiaaGreatDoor
open Go.RowKit

/-- Everything but one block is as it was. -/
structure Fr (blk : Nat) (w w' : World) : Prop where
  os : w'.os = w.os
  tape : w'.tape = w.tape
  output : w'.output = w.output
  size : w.heap.size ≤ w'.heap.size
  block : ∀ k, k < w.heap.size → k ≠ blk → w'.heap[k]? = w.heap[k]?

theorem Fr.refl (blk : Nat) (w : World) : Fr blk w w := ⟨rfl, rfl, rfl, Nat.le_refl _, fun _ _ _ => rfl⟩
theorem Fr.trans {blk : Nat} {a b c : World} (h : Fr blk a b) (k : Fr blk b c) : Fr blk a c :=
  ⟨k.os.trans h.os, k.tape.trans h.tape, k.output.trans h.output, Nat.le_trans h.size k.size, fun i hi hn => (k.block i (Nat.lt_of_lt_of_le hi h.size) hn).trans (h.block i hi hn)⟩
theorem Fr.alloc (blk : Nat) (w : World) (o : Obj) : Fr blk w (w.alloc o) := ⟨rfl, rfl, rfl, by simp, fun k hk _ => Below.heap_alloc w o k hk⟩
theorem Fr.drew {blk : Nat} {a w : World} (h : Fr blk a w) : Fr blk a w.drew := ⟨h.os, h.tape, h.output, h.size, h.block⟩
theorem Fr.below {blk : Nat} {a w : World} (h : Below a.heap.size a w) : Fr blk a w := ⟨h.os, h.tape, h.output, h.size, fun k hk _ => h.block k hk⟩
theorem Fr.cell {blk : Nat} {a w : World} (h : Fr blk a w) {p : Addr} (hp : p.block < a.heap.size) (hn : p.block ≠ blk) : w.cell? p = a.cell? p := by
  have e := h.block p.block hp hn
  unfold World.cell?
  rw [e]

/-- What is asked of the two closures. -/
structure Sorts {α : Type} (g : Nat) (lb : Array Value) (sf : Nat) (sb : Array Value) (blk n : Nat) (lt : α → α → Bool) (R : List α → World → Prop) : Prop where
  enter : ∀ args w, (callFunc g args).run Tryz.prog w = .ok (.enter g args) w
  small : n ≤ 1099511627776
  len : ∀ d w, R d w → d.length = n
  inside : ∀ d w, R d w → blk < w.heap.size
  less : ∀ (d : List α) (w : World) (i j : Nat) (hi : i < d.length) (hj : j < d.length), R d w →
    Calls Tryz.prog g (#[.int .i64 (i : Int), .int .i64 (j : Int)] ++ lb) w fun e w' => e = .returned (.bool (lt d[i] d[j])) ∧ R d w' ∧ Fr blk w w'
  swap : ∀ (d : List α) (w : World) (i j : Nat) (hi : i < d.length) (hj : j < d.length), R d w →
    ∃ w', (callFunc sf (#[.int .i64 (i : Int), .int .i64 (j : Int)] ++ sb)).run Tryz.prog w = .ok (.value (.tuple #[])) w' ∧ R ((d.set i d[j]).set j d[i]) w' ∧ Fr blk w w'
  alloc : ∀ d w o, R d w → R d (w.alloc o)

theorem set_at {α : Type} (A : List α) (x z : α) (B : List α) : (A ++ x :: B).set A.length z = A ++ z :: B := by simp
theorem get_at {α : Type} {d A B : List α} {x : α} (h : d = A ++ x :: B) (hi : A.length < d.length) : d[A.length] = x := by
  subst h; simp

theorem seg_swap {α : Type} {d A B C : List α} {x y : α} {i j : Nat} (h : d = A ++ x :: (B ++ y :: C)) (hi : i = A.length) (hj : j = A.length + 1 + B.length) (h1 : i < d.length) (h2 : j < d.length) : (d.set i d[j]).set j d[i] = A ++ y :: (B ++ x :: C) := by
  subst hi hj h
  have e1 : (A ++ x :: (B ++ y :: C))[A.length + 1 + B.length] = y := by
    have : A ++ x :: (B ++ y :: C) = (A ++ x :: B) ++ y :: C := by simp
    have hl : (A ++ x :: B).length = A.length + 1 + B.length := by simp; omega
    have e : (A ++ x :: (B ++ y :: C))[A.length + 1 + B.length]? = some y := by rw [this, ← hl]; simp
    rw [List.getElem?_eq_getElem h2] at e
    exact Option.some.inj e
  have e2 : (A ++ x :: (B ++ y :: C))[A.length] = x := by simp
  rw [e1, e2, set_at]
  have hl : (A ++ y :: B).length = A.length + 1 + B.length := by simp; omega
  have e3 : A ++ y :: (B ++ y :: C) = (A ++ y :: B) ++ y :: C := by simp
  rw [e3, ← hl, set_at]
  simp

theorem seg_swap2 {α : Type} {d A B C : List α} {x y : α} {i j : Nat} (h : d = A ++ x :: (B ++ y :: C)) (hi : i = A.length) (hj : j = A.length + 1 + B.length) (h1 : i < d.length) (h2 : j < d.length) : (d.set j d[i]).set i d[j] = A ++ y :: (B ++ x :: C) := by
  rw [← seg_swap h hi hj h1 h2, List.set_comm _ _ (by omega)]

variable {α : Type} {g : Nat} {lb : Array Value} {sf : Nat} {sb : Array Value} {blk n : Nat} {lt : α → α → Bool} {R : List α → World → Prop}

/-- The two closures as they are handed on. -/
abbrev duo (g : Nat) (lb : Array Value) (sf : Nat) (sb : Array Value) : Value := .agg #[.func (.func g) #[] lb, .func (.func sf) #[] sb]
abbrev duoBox (g : Nat) (lb : Array Value) (sf : Nat) (sb : Array Value) : Obj := .cells #[.func (.func g) #[] lb, .func (.func sf) #[] sb] 104

theorem box_at {w wr : World} (hb : blk < w.heap.size) (h : Fr blk (w.alloc (duoBox g lb sf sb)) wr) : wr.cell? ⟨w.heap.size, 0, none⟩ = some (.func (.func g) #[] lb) ∧ wr.cell? ⟨w.heap.size, 1, none⟩ = some (.func (.func sf) #[] sb) := by
  have hlt : w.heap.size < (w.alloc (duoBox g lb sf sb)).heap.size := by
    show w.heap.size < (w.heap.push _).size
    simp
  have h0 := heap_new w (duoBox g lb sf sb)
  constructor
  · rw [h.cell (p := ⟨w.heap.size, 0, none⟩) hlt (by show w.heap.size ≠ blk; omega), Lib.cell_of_heap h0]; rfl
  · rw [h.cell (p := ⟨w.heap.size, 1, none⟩) hlt (by show w.heap.size ≠ blk; omega), Lib.cell_of_heap h0]; rfl

theorem sw_seg {A X B Y C : List α} {i : Nat} (hi : i < X.length) (hy : i < Y.length) : A ++ ((Y.take i ++ X.drop i) ++ (B ++ ((X.take i ++ Y.drop i) ++ C))) = (A ++ Y.take i) ++ X[i] :: ((X.drop (i + 1) ++ (B ++ X.take i)) ++ Y[i] :: (Y.drop (i + 1) ++ C)) := by
  rw [List.drop_eq_getElem_cons hi, List.drop_eq_getElem_cons hy]
  simp only [List.append_assoc, List.cons_append]
theorem sw_seg2 {A X B Y C : List α} {i : Nat} (hi : i < X.length) (hy : i < Y.length) : A ++ ((Y.take (i + 1) ++ X.drop (i + 1)) ++ (B ++ ((X.take (i + 1) ++ Y.drop (i + 1)) ++ C))) = (A ++ Y.take i) ++ Y[i] :: ((X.drop (i + 1) ++ (B ++ X.take i)) ++ X[i] :: (Y.drop (i + 1) ++ C)) := by
  rw [List.take_add_one, List.take_add_one, List.getElem?_eq_getElem hi, List.getElem?_eq_getElem hy]
  simp only [List.append_assoc, List.cons_append, Option.toList_some, List.nil_append]

/-- One exchange within the two ranges. -/
theorem sw_step (S : Sorts g lb sf sb blk n lt R) {A X B Y C : List α} {k a b i : Nat} (hX : X.length = k) (hY : Y.length = k) (ha : A.length = a) (hb : A.length + k + B.length = b) (hi : i < k) {w wr : World} (hR : R (A ++ ((Y.take i ++ X.drop i) ++ (B ++ ((X.take i ++ Y.drop i) ++ C)))) wr) (hF : Fr blk w wr) :
    ∃ w', (callFunc sf (#[.int .i64 ((a : Int) + (i : Int)), .int .i64 ((b : Int) + (i : Int))] ++ sb)).run Tryz.prog wr = .ok (.value (.tuple #[])) w' ∧ R (A ++ ((Y.take (i + 1) ++ X.drop (i + 1)) ++ (B ++ ((X.take (i + 1) ++ Y.drop (i + 1)) ++ C)))) w' ∧ Fr blk w w' := by
  have hx : i < X.length := by omega
  have hy : i < Y.length := by omega
  have e := sw_seg (A := A) (B := B) (C := C) hx hy
  have l1 : (A ++ Y.take i).length = a + i := by simp; omega
  have l2 : (X.drop (i + 1) ++ (B ++ X.take i)).length = k - (i + 1) + B.length + i := by simp; omega
  have lt1 : a + i < (A ++ ((Y.take i ++ X.drop i) ++ (B ++ ((X.take i ++ Y.drop i) ++ C)))).length := by
    simp only [List.length_append, List.length_take, List.length_drop]; omega
  have lt2 : b + i < (A ++ ((Y.take i ++ X.drop i) ++ (B ++ ((X.take i ++ Y.drop i) ++ C)))).length := by
    simp only [List.length_append, List.length_take, List.length_drop]; omega
  obtain ⟨w', h1, h2, h3⟩ := S.swap _ wr (a + i) (b + i) lt1 lt2 hR
  rw [seg_swap e (by rw [l1]) (by rw [l1, l2]; omega) lt1 lt2, ← sw_seg2 hx hy] at h2
  rw [show ((a + i : Nat) : Int) = (a : Int) + (i : Int) by omega, show ((b + i : Nat) : Int) = (b : Int) + (i : Int) by omega] at h1
  exact ⟨w', h1, h2, hF.trans h3⟩

set_option maxHeartbeats 1000000 in
theorem swapRange_any (S : Sorts g lb sf sb blk n lt R) {A X B Y C : List α} {k : Nat} (hX : X.length = k) (hY : Y.length = k) {w : World} (hR : R (A ++ (X ++ (B ++ (Y ++ C)))) w) :
    Calls Tryz.prog 176 #[duo g lb sf sb, .int .i64 (A.length : Int), .int .i64 ((A.length + k + B.length : Nat) : Int), .int .i64 (k : Int)] w fun e w' => e = .returned (.tuple #[]) ∧ R (A ++ (Y ++ (B ++ (X ++ C)))) w' ∧ Fr blk w w' := by
  have hb := S.inside _ _ hR
  have hln := S.len _ _ hR
  have hsm := S.small
  simp only [List.length_append] at hln
  have u104 := Tryz.underlying104
  obtain ⟨b, hbb⟩ : ∃ b, A.length + k + B.length = b := ⟨_, rfl⟩
  obtain ⟨a, haa⟩ : ∃ a, A.length = a := ⟨_, rfl⟩
  rw [hbb, haa]
  have HR := hide hR
  have HS := hide S
  have HX := hide hX
  have HY := hide hY
  have HB := hide hbb
  have HAA := hide haa
  have hbn : b + k ≤ n := by omega
  have hab : a + k ≤ b := by omega
  clear hR S hX hY hbb haa hln
  go_enter Tryz.func176, Tryz.ntmps176
  go_wp2
  go_loopw [8] (fun v wr => ∃ i : Nat, i ≤ k ∧ v = .int .i64 i ∧ R (A ++ ((Y.take i ++ X.drop i) ++ (B ++ ((X.take i ++ Y.drop i) ++ C)))) wr ∧ Fr blk (w.alloc (duoBox g lb sf sb)) wr) (fun v _ => k - (intOf v).toNat)
  case atStart => exact ⟨0, Nat.zero_le _, rfl, by simpa using (unhide HS).alloc _ _ _ (unhide HR), Fr.refl _ _⟩
  case round =>
    obtain ⟨i, hik, rfl, hr, hf⟩ := hrel
    have c1 := (box_at hb hf).2
    have HRI := hide hr
    have HF := hide hf
    clear hr hf
    by_cases hlt : i < k
    · obtain ⟨w', hrun, hR', hF'⟩ := sw_step (unhide HS) (unhide HX) (unhide HY) (unhide HAA) (unhide HB) hlt (unhide HRI) (unhide HF)
      have HR' := hide hR'
      have HF' := hide hF'
      clear hR' hF' HRI HF
      go_wp2
      go_roundw
      case rel => exact ⟨i + 1, hlt, by simp, unhide HR', unhide HF'⟩
      case measure => simp [intOf]; omega
    · have hke : i = k := by omega
      subst hke
      have HE : Hid (R (A ++ (Y ++ (B ++ (X ++ C)))) wr) := by
        have e1 : Y.take i = Y := List.take_of_length_le (by rw [unhide HY]; exact Nat.le_refl _)
        have e2 : X.drop i = [] := List.drop_of_length_le (by rw [unhide HX]; exact Nat.le_refl _)
        have e3 : X.take i = X := List.take_of_length_le (by rw [unhide HX]; exact Nat.le_refl _)
        have e4 : Y.drop i = [] := List.drop_of_length_le (by rw [unhide HY]; exact Nat.le_refl _)
        have := unhide HRI
        rw [e1, e2, e3, e4] at this
        simp only [List.append_nil] at this
        exact this
      go_wp2
      go_end0
      exact ⟨rfl, unhide HE, (Fr.alloc _ _ _).trans (unhide HF)⟩

end Go.Proofs.YtcmafidnaojkiaaGreatDoor
