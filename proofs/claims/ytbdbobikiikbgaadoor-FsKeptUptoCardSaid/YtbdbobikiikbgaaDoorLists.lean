/-
  The contracts of front and List; how a list of files that was answered lies in memory.
-/
import Derived.Test.YtbdbobikiikbgaaDoorSorted
namespace Go.Proofs.YtbdbobikiikbgaaDoor
open Go.RowKit Go.WideMaps Go.Maps Go.Sort

theorem list_all {w : World} {G : Lie} {s : AS} (h : Rep w G s) (hb : Bd s) :
    Calls Tryd.prog 33 #[.pointer (some ⟨G.F, 0, none⟩), .string ⟨#[]⟩] w fun e w' => ∃ (g cap : Nat), e = .returned (.slice (some ⟨g, 0, none⟩) (namesOf s.names).length cap) ∧
      w'.ownsRow w.heap.size 9 1 (.slice (some ⟨g, 0, none⟩) (namesOf s.names).length cap) (namesOf s.names).length ((namesOf s.names).map encStr) ∧ Below w.heap.size w w' := by
  have HC := hide (sorted_any G.N _ s.names w h.tN hb.mN)
  have k3 : w.cell? ⟨G.F, 3, none⟩ = some (.map (some G.N)) := cell_fs h.fsb rfl
  clear h hb
  go_enter Tryd.func33, Tryd.ntmps33
  go_wp2_with (go_at_call 53; refine (unhide HC).mono ?_; rintro e w1 ⟨g, cap, rfl, hrow, hbl⟩)
  go_ret
  exact ⟨g, cap, rfl, hrow, hbl⟩

theorem front_any (b len dur fc : Nat) (fa : Option Addr) (w : World) (k0 : w.cell? ⟨b, 0, none⟩ = some (.slice fa len fc)) (k1 : w.cell? ⟨b, 1, none⟩ = some (.int .i64 dur)) (hd : dur ≤ len) (hl : len ≤ fc) (hfc : fc ≤ 9223372036854775807) (hn : fa = none → fc = 0) :
    Calls Tryd.prog 54 #[.pointer (some ⟨b, 0, none⟩)] w fun e w' => e = .returned (.slice fa dur fc) ∧ ∃ nq, w' = w.drewN nq := by
  have h1 : (0 : Int) ≤ (dur : Int) := by omega
  have h2 : (dur : Int) ≤ (fc : Int) := by omega
  cases fa with
  | none =>
    obtain rfl := hn rfl
    obtain rfl : len = 0 := by omega
    obtain rfl : dur = 0 := by omega
    go_enter Tryd.func54, Tryd.ntmps54
    go_wp2
    go_quiet (fail)
    go_wp2
    go_ret
    exact ⟨rfl, nq, rfl⟩
  | some ad =>
    go_enter Tryd.func54, Tryd.ntmps54
    go_wp2
    go_quiet (fail)
    go_wp2
    go_ret
    exact ⟨rfl, nq, rfl⟩

def fileCells : List (List UInt8 × List UInt8) → List Value → List Value
  | x :: xs, v :: vs => encStr x.1 :: v :: fileCells xs vs
  | _, _ => []

/-- The slice v, among the blocks from base on, holds the files fl. -/
def FilesAt (w : World) (base : Nat) (v : Value) (fl : List (List UInt8 × List UInt8)) : Prop :=
  ∃ vs : List Value, vs.length = fl.length ∧ w.ownsRow base 46 2 v fl.length (fileCells fl vs) ∧ ∀ (k : Nat) (x : List UInt8 × List UInt8) (u : Value), fl[k]? = some x → vs[k]? = some u → w.ownsRow base 5 1 u x.2.length (bytesV x.2)

theorem fileCells_snoc (x : List UInt8 × List UInt8) (u : Value) : ∀ (fl : List (List UInt8 × List UInt8)) (vs : List Value), vs.length = fl.length → fileCells (fl ++ [x]) (vs ++ [u]) = fileCells fl vs ++ [encStr x.1, u]
  | [], [], _ => rfl
  | a :: fl, b :: vs, h => by simp [fileCells, fileCells_snoc x u fl vs (by simpa using h)]

theorem rows_ne {w : World} {b1 b2 e1 e2 s1 s2 n1 n2 : Nat} {v1 v2 : Value} {x1 x2 : List Value} (h1 : w.ownsRow b1 e1 s1 v1 n1 x1) (h2 : w.ownsRow b2 e2 s2 v2 n2 x2) (hne : e1 ≠ e2) (g : Nat) (hg : v1.ownBlock = some g) : some g ≠ v2.ownBlock := by
  intro hg2
  rcases h1.2 with ⟨e, _⟩ | ⟨g1, c1, u1, e, _, hh1, _⟩
  · rw [e] at hg; cases hg
  · rcases h2.2 with ⟨e', _⟩ | ⟨g2, c2, u2, e', _, hh2, _⟩
    · rw [e'] at hg2; cases hg2
    · rw [e] at hg; rw [e'] at hg2
      have a1 : g1 = g := by have q : some g1 = some g := hg; simpa using q
      have a2 : g2 = g := by have q : some g = some g2 := hg2; simpa using q.symm
      rw [a1] at hh1; rw [a2, hh1] at hh2
      simp at hh2; exact hne hh2.2

theorem row_lt {w : World} {b e s n : Nat} {v : Value} {xs : List Value} (h : w.ownsRow b e s v n xs) (g : Nat) (hg : v.ownBlock = some g) : g < w.heap.size := by
  rcases h.2 with ⟨e, _⟩ | ⟨g1, c1, u1, e, _, hh1, _⟩
  · rw [e] at hg; cases hg
  · rw [e] at hg
    have a1 : g1 = g := by have q : some g1 = some g := hg; simpa using q
    rw [← a1]; exact (Array.getElem?_eq_some_iff.1 hh1).1

theorem row_below {w w' : World} {b e s n : Nat} {v : Value} {xs : List Value} (h : w.ownsRow b e s v n xs) (hb : Below w.heap.size w w') : w'.ownsRow b e s v n xs :=
  row_congr h (fun g hg => hb.block g (row_lt h g hg))
theorem row_grown {w w' : World} {b e s n b2 e2 s2 n2 : Nat} {v v2 : Value} {xs x2 : List Value} (h : w.ownsRow b e s v n xs) (h2 : w.ownsRow b2 e2 s2 v2 n2 x2) (hne : e ≠ e2) (hg : w.grownBy w' v2.ownBlock) : w'.ownsRow b e s v n xs :=
  row_congr h (fun g hg' => hg.block g (row_lt h g hg') (rows_ne h h2 hne g hg'))
theorem row_mono {w : World} {b b' e s n : Nat} {v : Value} {xs : List Value} (h : w.ownsRow b e s v n xs) (hb : b' ≤ b) : w.ownsRow b' e s v n xs := by
  refine ⟨h.1, h.2.imp id ?_⟩
  rintro ⟨g, cap, cur, h1, h3, h2⟩
  exact ⟨g, cap, cur, h1, Nat.le_trans hb h3, h2⟩

theorem FilesAt.below {w w' : World} {base : Nat} {v : Value} {fl : List (List UInt8 × List UInt8)} (h : FilesAt w base v fl) (hb : Below w.heap.size w w') : FilesAt w' base v fl := by
  obtain ⟨vs, h1, h2, h3⟩ := h
  exact ⟨vs, h1, row_below h2 hb, fun k x u hx hu => row_below (h3 k x u hx hu) hb⟩

theorem FilesAt.snoc {W w4 : World} {base : Nat} {v v' u : Value} {fl : List (List UInt8 × List UInt8)} {nm l : List UInt8} {cells : List Value} (h1 : ∃ vs : List Value, vs.length = fl.length ∧ cells = fileCells fl vs ∧ ∀ (k : Nat) (x : List UInt8 × List UInt8) (u : Value), fl[k]? = some x → vs[k]? = some u → W.ownsRow base 5 1 u x.2.length (bytesV x.2))
    (hv : W.ownsRow base 46 2 v fl.length cells) (hu : W.ownsRow base 5 1 u l.length (bytesV l)) (hg : W.grownBy w4 v.ownBlock) (hrow : w4.ownsRow base 46 2 v' (fl.length + 1) (cells ++ [encStr nm, u])) : FilesAt w4 base v' (fl ++ [(nm, l)]) := by
  obtain ⟨vs, a1, a2, a3⟩ := h1
  subst a2
  refine ⟨vs ++ [u], by simp [a1], ?_, ?_⟩
  · rw [fileCells_snoc _ _ _ _ a1, List.length_append]; exact hrow
  · intro k x y hx hy
    by_cases hk : k < fl.length
    · rw [List.getElem?_append_left hk] at hx
      rw [List.getElem?_append_left (by omega)] at hy
      exact row_grown (a3 k x y hx hy) hv (by decide) hg
    · have hk2 : k = fl.length := by
        have := (List.getElem?_eq_some_iff.1 hx).1; simp at this; omega
      subst hk2
      rw [List.getElem?_append_right (Nat.le_refl _)] at hx
      rw [List.getElem?_append_right (by omega)] at hy
      simp at hx
      have hy2 : u = y := by rw [a1] at hy; simpa using hy
      subst hx hy2
      exact row_grown hu hv (by decide) hg

theorem Tryd.info46 : (Tryd.prog.info? 46).map (fun i => (i.zero, i.size, i.bytes)) = some (some (.agg #[.string ⟨#[]⟩, .slice none 0 0]), 2, 40) := by kernel_rfl

/-- The files of a table, by rising names. -/
def fileL (s : AS) (D : DataW Unit) (tk : AF → List UInt8) : List (List UInt8 × List UInt8) :=
  (namesOf D).map fun nm => (nm, match s.files (num D ⟨nm.toArray⟩) with | some f => tk f | none => [])

theorem namesOf_le {w : World} {N n : Nat} {D : DataW Unit} (h : Tab w N n D) (l : List UInt8) (hl : l ∈ namesOf D) : l.length ≤ maxLen :=
  strKeys_le h Tryd.underlying9 l ((List.mergeSort_perm _ _).mem_iff.1 hl)

end Go.Proofs.YtbdbobikiikbgaaDoor
