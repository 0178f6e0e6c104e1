/-
  What New says, as plain data: the pages and the faults that are handed in, one step of each loop.
-/
import Derived.Test.YtmbcjdlpdibalaaAddC
namespace Go.Proofs.Ytmbcjdlpdibalaa
open Go.RowKit Go.WideMaps Go.Maps Go.MuLone

abbrev Pg := ByteArray × List UInt8

structure Fa where
  u : ByteArray
  k : Int
  kd : Int
  m : Int
  l : List UInt8

def stepP (s : St) (p : Pg) : Except Int St :=
  match s.pg p.1 with
  | some _ => .error 3
  | none => if validB p.1 then .ok (setS s p.1 p.2) else .error 13

def stepF (s : St) (f : Fa) : Except Int St :=
  if validB f.u then
    match effOf f.kd f.m.toNat f.l with
    | none => .error 7
    | some e => if f.k < 1 ∨ f.m < 0 then .error 6 else match s.ft f.u f.k with
      | some _ => .error 3
      | none => .ok (addS s f.u f.k e)
  else .error 13

def run {α : Type} (step : St → α → Except Int St) : List α → St → Except Int St
  | [], s => .ok s
  | x :: xs, s => match step s x with
    | .error e => .error e
    | .ok s' => run step xs s'

theorem run_app {α : Type} {step : St → α → Except Int St} {xs ys : List α} {s s' : St} (h : run step xs s = .ok s') : run step (xs ++ ys) s = run step ys s' := by
  induction xs generalizing s with
  | nil => cases h; rfl
  | cons x xs ih =>
    simp only [run, List.cons_append] at h ⊢
    cases hx : step s x with
    | error e => rw [hx] at h; cases h
    | ok s1 => rw [hx] at h; exact ih h

theorem run_next {α : Type} {step : St → α → Except Int St} {xs : List α} {k : Nat} (hk : k < xs.length) {s s' s2 : St} (h : run step (xs.take k) s = .ok s') (h2 : step s' xs[k] = .ok s2) : run step (xs.take (k + 1)) s = .ok s2 := by
  rw [List.take_succ_eq_append_getElem hk, run_app h]
  simp only [run, h2]

theorem run_stop {α : Type} {step : St → α → Except Int St} {xs : List α} {k : Nat} (hk : k < xs.length) {s s' : St} {e : Int} (h : run step (xs.take k) s = .ok s') (h2 : step s' xs[k] = .error e) : run step xs s = .error e := by
  have : xs = xs.take k ++ xs[k] :: xs.drop (k + 1) := by rw [List.getElem_cons_drop, List.take_append_drop]
  rw [this, run_app h]
  simp only [run, h2]

theorem run_all {α : Type} {step : St → α → Except Int St} {xs : List α} {k : Nat} (hk : xs.length ≤ k) {s s' : St} (h : run step (xs.take k) s = .ok s') : run step xs s = .ok s' := by
  rwa [List.take_of_length_le hk] at h

def emptyS : St := ⟨fun _ => none, fun _ _ => none, fun _ => 0, 0⟩

def newR (ps : List Pg) (fs : List Fa) : Except Int St :=
  match run stepP ps emptyS with
  | .error e => .error e
  | .ok s => run stepF fs s

structure PgAt (w : World) (b o : Nat) (p : Pg) : Prop where
  url : w.cell? ⟨b, o, none⟩ = some (.string p.1)
  small : p.1.size ≤ maxLen
  cap : ∀ a n c, w.cell? ⟨b, o + 1, none⟩ = some (.slice a n c) → n ≤ c
  data : ∃ a n c, w.cell? ⟨b, o + 1, none⟩ = some (.slice a n c) ∧ Bytes w a n p.2 ∧ n ≤ 1099511627776 ∧ ∀ ad, a = some ad → 0 < n → ad.block < w.heap.size

structure PgsAt (w : World) (a : Option Addr) (n : Nat) (ps : List Pg) : Prop where
  len : ps.length = n
  els : n = 0 ∨ ∃ b o, a = some ⟨b, o, none⟩ ∧ ∀ k (hk : k < ps.length), PgAt w b (o + k * 2) ps[k]

structure FaAt (w : World) (b o : Nat) (f : Fa) : Prop where
  url : w.cell? ⟨b, o, none⟩ = some (.string f.u)
  small : f.u.size ≤ maxLen
  num : w.cell? ⟨b, o + 1, none⟩ = some (.int .i64 f.k) ∧ w.cell? ⟨b, o + 2, none⟩ = some (.int .i64 f.kd) ∧ w.cell? ⟨b, o + 3, none⟩ = some (.int .i64 f.m)
  wf : (Lit.int .i64 f.k).wf = true ∧ (Lit.int .i64 f.kd).wf = true ∧ (Lit.int .i64 f.m).wf = true
  data : ∃ a n c, w.cell? ⟨b, o + 4, none⟩ = some (.slice a n c) ∧ Bytes w a n f.l ∧ n ≤ 1099511627776 ∧ ∀ ad, a = some ad → 0 < n → ad.block < w.heap.size

structure FasAt (w : World) (a : Option Addr) (n : Nat) (fs : List Fa) : Prop where
  len : fs.length = n
  els : n = 0 ∨ ∃ b o, a = some ⟨b, o, none⟩ ∧ ∀ k (hk : k < fs.length), FaAt w b (o + k * 5) fs[k]

end Go.Proofs.Ytmbcjdlpdibalaa
