/-
  sort.SliceStable over stable_func; rows of texts and their exchange.
-/
import Derived.Test.YtcmafidnaojkiaaGreatDoorSortJ
import Derived.Shelf.GgSortMore.Stable
import Derived.Shelf.Lay
import Derived.Ground.GgtProg
namespace Go.Proofs
open Go.Shelf Go.RowKit Go.Lib Go.Sort

shelf_lay LaysGt.n8 Ggt 8 at Tryz as Tryz.sl58

namespace YtcmafidnaojkiaaGreatDoor

/-- A block holds these texts. -/
def RowT (blk : Nat) (d : List Str) (w : World) : Prop := ∀ k (hk : k < d.length), w.cell? ⟨blk, k, none⟩ = some (.string (ba d[k])) ∧ w.frozen? ⟨blk, k, none⟩ = false

theorem RowT.put {blk : Nat} {d : List Str} {w : World} (h : RowT blk d w) {i : Nat} (hi : i < d.length) (x : Str) : RowT blk (d.set i x) (w.setCell ⟨blk, i, none⟩ (.string (ba x))) := by
  intro k hk
  have hk' : k < d.length := by simpa using hk
  refine ⟨?_, by rw [World.frozen?_setCell]; exact (h k hk').2⟩
  rw [List.getElem_set]
  by_cases e : i = k
  · subst e
    rw [if_pos rfl]
    exact World.cell?_setCell_same' _ _ _ (by rw [(h i hi).1]; rfl)
  · rw [if_neg e, World.cell?_setCell_other (w := w) (a := ⟨blk, i, none⟩) (b := ⟨blk, k, none⟩) (h := by intro hh; exact e (congrArg Addr.off hh))]
    exact (h k hk').1

theorem Fr.put (blk : Nat) (w : World) (k : Nat) (x : Value) : Fr blk w (w.setCell ⟨blk, k, none⟩ x) :=
  ⟨rfl, rfl, rfl, by simp [World.setCell], fun i _ hn => Below.heap_setCell _ _ _ _ hn⟩

noncomputable def infoS : TypeInfo := (Tryz.prog.info? 9).get (by kernel_rfl)
theorem infoS_at : Tryz.prog.info? 9 = some infoS := by kernel_rfl
theorem infoS_size : infoS.size = 1 := by kernel_rfl
theorem aggS (w : World) : (isAgg 9).run Tryz.prog w = .ok false w := by kernel_rfl

/-- Swapper's literal exchanges two texts. -/
theorem swapT {blk n c : Nat} {d : List Str} {w : World} (hn : d.length = n) (h : RowT blk d w) {i j : Nat} (hi : i < d.length) (hj : j < d.length) :
    (callFunc 136 (#[.int .i64 (i : Int), .int .i64 (j : Int)] ++ #[.slice (some ⟨blk, 0, none⟩) n c, typeHandle Tryz.prog 9])).run Tryz.prog w = .ok (.value (.tuple #[])) ((w.setCell ⟨blk, i, none⟩ (.string (ba d[j]))).setCell ⟨blk, j, none⟩ (.string (ba d[i]))) := by
  have hr := run_swap_one (P := Tryz.prog) true 9 infoS infoS_at infoS_size aggS blk 0 n c i j (by omega) (by omega) (.string (ba d[i])) (.string (ba d[j])) rfl rfl w (by rw [Nat.zero_add]; exact (h i hi).1) (by rw [Nat.zero_add]; exact (h j hj).1) (by rw [Nat.zero_add]; exact (h i hi).2) (by rw [Nat.zero_add]; exact (h j hj).2)
  rw [Nat.zero_add, Nat.zero_add] at hr
  rw [run_callFunc_extern Tryz.func136 (by kernel_rfl) (by kernel_rfl) (by kernel_rfl) (e := Extern.ReflectliteSwapper.swap true) (by kernel_rfl),
    show (#[Value.int .i64 (i : Int), Value.int .i64 (j : Int)] ++ #[Value.slice (some ⟨blk, 0, none⟩) n c, typeHandle Tryz.prog 9]) = #[.int .i64 i, .int .i64 j, .slice (some ⟨blk, 0, none⟩) n c, typeHandle Tryz.prog 9] from rfl, hr]
  rfl

end YtcmafidnaojkiaaGreatDoor
end Go.Proofs
