/-
  What a crash leaves of the files, in plain data.
-/
import Derived.Test.YtbdbobikiikbgaaDoorReplS
namespace Go.Proofs.YtbdbobikiikbgaaDoor
open Go.RowKit Go.WideMaps Go.Maps Go.Sort

theorem nums_contains {D : DataW Unit} {nm : List UInt8} (h : nm ∈ namesOf D) : (numsOf D).contains (num D ⟨nm.toArray⟩) = true := by
  have : num D ⟨nm.toArray⟩ ∈ numsOf D := List.mem_map.2 ⟨nm, h, rfl⟩
  simpa using this

def dataOf (tk : AF → List UInt8) : Option AF → List UInt8
  | some f => tk f
  | none => []
theorem fileL_eq (s : AS) (D : DataW Unit) (tk : AF → List UInt8) : fileL s D tk = (namesOf D).map fun nm => (nm, dataOf tk (s.files (num D ⟨nm.toArray⟩))) := by
  unfold fileL
  refine List.map_congr_left fun nm _ => ?_
  cases s.files (num D ⟨nm.toArray⟩) <;> rfl

theorem kept_at {S : AS} {e : Int} {nm : List UInt8} (h : nm ∈ namesOf S.durable) : keptF S e (num S.durable ⟨nm.toArray⟩) = (S.files (num S.durable ⟨nm.toArray⟩)).map (crashF e) := by
  unfold keptF
  rw [if_pos (nums_contains h)]

theorem crash_data (s : AS) (n e : Int) : fileL (crashS s n e) (crashS s n e).names (fun f => f.data) = fileL (crashS s n e) (crashS s n e).durable (fun f => f.data.take f.dur) := by
  obtain ⟨S, hS⟩ : ∃ S, S = settleS s (min (max n 0).toNat s.pending.length) := ⟨_, rfl⟩
  have e1 : crashS s n e = downS S e := by unfold crashS; rw [hS]
  rw [e1, fileL_eq, fileL_eq]
  show (namesOf S.durable).map (fun nm => (nm, dataOf (fun f => f.data) (keptF S e (num S.durable ⟨nm.toArray⟩)))) = (namesOf S.durable).map (fun nm => (nm, dataOf (fun f => f.data.take f.dur) (keptF S e (num S.durable ⟨nm.toArray⟩))))
  refine List.map_congr_left fun nm hnm => ?_
  rw [kept_at hnm]
  cases S.files (num S.durable ⟨nm.toArray⟩) with
  | none => rfl
  | some f => simp [dataOf, crashF, List.take_take]

theorem crash_zero {s : AS} {n : Int} (hn : n ≤ 0) (e : Int) : crashS s n e = downS (settleS s 0) e := by
  unfold crashS
  rw [show min (max n 0).toNat s.pending.length = 0 by omega]

theorem crash_none (s : AS) : fileL (crashS s 0 0) (crashS s 0 0).names (fun f => f.data) = fileL s s.durable (fun f => f.data.take f.dur) := by
  rw [crash_zero (Int.le_refl 0), fileL_eq, fileL_eq]
  show (namesOf s.durable).map (fun nm => (nm, dataOf (fun f => f.data) (keptF (settleS s 0) 0 (num s.durable ⟨nm.toArray⟩)))) = _
  refine List.map_congr_left fun nm hnm => ?_
  rw [show keptF (settleS s 0) 0 (num s.durable ⟨nm.toArray⟩) = (s.files (num s.durable ⟨nm.toArray⟩)).map (crashF 0) from kept_at (S := settleS s 0) hnm]
  cases s.files (num s.durable ⟨nm.toArray⟩) with
  | none => rfl
  | some f => simp [dataOf, crashF]

theorem crashF_twice (a e : Int) (f : AF) : (crashF a (crashF e f)).data = (crashF e f).data := by
  obtain ⟨d, hd⟩ : ∃ d, d = f.dur + min (max e 0).toNat (f.data.length - f.dur) := ⟨_, rfl⟩
  have h1 : crashF e f = ⟨f.data.take d, d⟩ := by rw [hd]; rfl
  rw [h1]
  have h2 : (f.data.take d).length - d = 0 := by simp; omega
  show (f.data.take d).take (d + min (max a 0).toNat ((f.data.take d).length - d)) = f.data.take d
  rw [h2]
  simp [List.take_take]

theorem crash_again (s : AS) (n e a b : Int) : fileL (crashS (crashS s n e) a b) (crashS (crashS s n e) a b).names (fun f => f.data) = fileL (crashS s n e) (crashS s n e).names (fun f => f.data) := by
  obtain ⟨S, hS⟩ : ∃ S, S = settleS s (min (max n 0).toNat s.pending.length) := ⟨_, rfl⟩
  have e1 : crashS s n e = downS S e := by unfold crashS; rw [hS]
  rw [e1]
  have e2 : crashS (downS S e) a b = downS (downS S e) b := by
    unfold crashS
    rw [settle_nil rfl]
  rw [e2, fileL_eq, fileL_eq]
  show (namesOf S.durable).map (fun nm => (nm, dataOf (fun f => f.data) (keptF (downS S e) b (num S.durable ⟨nm.toArray⟩)))) = (namesOf S.durable).map (fun nm => (nm, dataOf (fun f => f.data) (keptF S e (num S.durable ⟨nm.toArray⟩))))
  refine List.map_congr_left fun nm hnm => ?_
  rw [show keptF (downS S e) b (num S.durable ⟨nm.toArray⟩) = (keptF S e (num S.durable ⟨nm.toArray⟩)).map (crashF b) from kept_at (S := downS S e) hnm, kept_at hnm]
  cases S.files (num S.durable ⟨nm.toArray⟩) with
  | none => rfl
  | some f =>
    show (nm, (crashF b (crashF e f)).data) = (nm, (crashF e f).data)
    rw [crashF_twice]

theorem kept_len {s : AS} {n : Int} (hn : n ≤ 0) (e : Int) : (fileL (crashS s n e) (crashS s n e).names (fun f => f.data)).length = (fileL s s.durable (fun f => f.data.take f.dur)).length := by
  rw [crash_zero hn, fileL_eq, fileL_eq, List.length_map, List.length_map]; rfl

theorem kept_get {s : AS} {n : Int} (hn : n ≤ 0) (e : Int) (i : Nat) (x y : List UInt8 × List UInt8) (hx : (fileL (crashS s n e) (crashS s n e).names (fun f => f.data))[i]? = some x) (hy : (fileL s s.durable (fun f => f.data.take f.dur))[i]? = some y) :
    x.1 = y.1 ∧ y.2.length ≤ x.2.length ∧ (x.2.length : Int) - (y.2.length : Int) ≤ max e 0 ∧ x.2.take y.2.length = y.2 := by
  rw [crash_zero hn, fileL_eq] at hx
  rw [fileL_eq] at hy
  have hx' : ((namesOf s.durable).map fun nm => (nm, dataOf (fun f => f.data) (keptF (settleS s 0) e (num s.durable ⟨nm.toArray⟩))))[i]? = some x := hx
  rw [List.getElem?_map] at hx' hy
  cases hq : (namesOf s.durable)[i]? with
  | none => rw [hq] at hy; cases hy
  | some nm =>
    have hnm : nm ∈ namesOf s.durable := List.mem_of_getElem? hq
    rw [hq] at hx' hy
    have k1 : keptF (settleS s 0) e (num s.durable ⟨nm.toArray⟩) = (s.files (num s.durable ⟨nm.toArray⟩)).map (crashF e) := kept_at (S := settleS s 0) hnm
    simp only [Option.map_some, Option.some.injEq] at hx' hy
    rw [k1] at hx'
    subst hx' hy
    refine ⟨rfl, ?_⟩
    cases s.files (num s.durable ⟨nm.toArray⟩) with
    | none => simp [dataOf]; omega
    | some f =>
      obtain ⟨d, hd⟩ : ∃ d, d = f.dur + min (max e 0).toNat (f.data.length - f.dur) := ⟨_, rfl⟩
      have h1 : crashF e f = ⟨f.data.take d, d⟩ := by rw [hd]; rfl
      show (f.data.take f.dur).length ≤ (crashF e f).data.length ∧ ((crashF e f).data.length : Int) - ((f.data.take f.dur).length : Int) ≤ max e 0 ∧ (crashF e f).data.take (f.data.take f.dur).length = f.data.take f.dur
      rw [h1]
      simp only [List.length_take, List.take_take]
      refine ⟨by omega, by omega, ?_⟩
      rw [show min (min f.dur f.data.length) d = min f.dur f.data.length by omega]
      by_cases hle : f.dur ≤ f.data.length
      · rw [Nat.min_eq_left hle]
      · rw [Nat.min_eq_right (by omega), List.take_of_length_le (Nat.le_refl _), List.take_of_length_le (by omega)]

end Go.Proofs.YtbdbobikiikbgaaDoor
