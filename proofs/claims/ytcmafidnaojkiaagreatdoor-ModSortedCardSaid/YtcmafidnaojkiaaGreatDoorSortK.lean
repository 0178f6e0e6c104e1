/-
  sort.SliceStable over stable_func; rows of texts and their exchange.
-/
import Derived.Test.YtcmafidnaojkiaaGreatDoorSortJ
import Derived.Shelf.GgSortMore.Stable
import Derived.Ground.GgtProg
namespace Go.Proofs
open Go.Shelf Go.RowKit Go.Lib Go.Sort

def Tryz.sl58_ren : Go.Shelf.Ren := ⟨fun | 8 => 58 | 13 => 105 | 14 => 106 | 16 => 108 | 15 => 107 | 29 => 142 | 30 => 143 | 42 => 158 | 49 => 176 | n => n, fun | 20 => 20 | 26 => 70 | 36 => 98 | 0 => 0 | 38 => 100 | 42 => 104 | 3 => 3 | 4 => 4 | 47 => 122 | 17 => 17 | 33 => 95 | 34 => 96 | 89 => 173 | 12 => 12 | 56 => 138 | 82 => 167 | 5 => 5 | 83 => 168 | 84 => 169 | 85 => 110 | 86 => 170 | 87 => 171 | n => n, fun | n => n⟩
theorem Tryz.sl58 : Go.Proofs.LaysGt.n8 Tryz.prog Tryz.sl58_ren := {
  mixed := by kernel_rfl
  f8 := Tryz.func58.trans (congrArg some (by kernel_rfl))
  f13 := Tryz.func105.trans (congrArg some (by kernel_rfl))
  f14 := Tryz.func106.trans (congrArg some (by kernel_rfl))
  f15 := Tryz.func107.trans (congrArg some (by kernel_rfl))
  f16 := Tryz.func108.trans (congrArg some (by kernel_rfl))
  f29 := Tryz.func142.trans (congrArg some (by kernel_rfl))
  f30 := Tryz.func143.trans (congrArg some (by kernel_rfl))
  f42 := Tryz.func158.trans (congrArg some (by kernel_rfl))
  f49 := Tryz.func176.trans (congrArg some (by kernel_rfl))
  t0 := Tryz.underlying0
  a0 := Tryz.isAgg0
  z0 := Tryz.sizeOf0
  v0 := Tryz.zeroValue0
  i0 := by kernel_rfl
  t3 := Tryz.underlying3
  a3 := Tryz.isAgg3
  z3 := Tryz.sizeOf3
  v3 := Tryz.zeroValue3
  i3 := by kernel_rfl
  t4 := Tryz.underlying4
  a4 := Tryz.isAgg4
  z4 := Tryz.sizeOf4
  v4 := Tryz.zeroValue4
  i4 := by kernel_rfl
  t5 := Tryz.underlying5
  a5 := Tryz.isAgg5
  z5 := Tryz.sizeOf5
  v5 := Tryz.zeroValue5
  i5 := by kernel_rfl
  t12 := Tryz.underlying12
  a12 := Tryz.isAgg12
  z12 := Tryz.sizeOf12
  v12 := Tryz.zeroValue12
  i12 := by kernel_rfl
  t17 := Tryz.underlying17
  a17 := Tryz.isAgg17
  z17 := Tryz.sizeOf17
  v17 := Tryz.zeroValue17
  i17 := by kernel_rfl
  t20 := Tryz.underlying20
  a20 := Tryz.isAgg20
  z20 := Tryz.sizeOf20
  v20 := Tryz.zeroValue20
  i20 := by kernel_rfl
  t26 := Tryz.underlying70
  a26 := Tryz.isAgg70
  z26 := Tryz.sizeOf70
  v26 := Tryz.zeroValue70
  i26 := by kernel_rfl
  t33 := Tryz.underlying95
  a33 := Tryz.isAgg95
  z33 := Tryz.sizeOf95
  v33 := Tryz.zeroValue95
  i33 := by kernel_rfl
  t34 := Tryz.underlying96
  a34 := Tryz.isAgg96
  z34 := Tryz.sizeOf96
  v34 := Tryz.zeroValue96
  i34 := by kernel_rfl
  t36 := Tryz.underlying98
  a36 := Tryz.isAgg98
  z36 := Tryz.sizeOf98
  v36 := Tryz.zeroValue98
  i36 := by kernel_rfl
  t38 := Tryz.underlying100
  a38 := Tryz.isAgg100
  z38 := Tryz.sizeOf100
  v38 := Tryz.zeroValue100
  i38 := by kernel_rfl
  t42 := Tryz.underlying104
  a42 := Tryz.isAgg104
  z42 := Tryz.sizeOf104
  v42 := Tryz.zeroValue104
  i42 := by kernel_rfl
  t47 := Tryz.underlying122
  a47 := Tryz.isAgg122
  z47 := Tryz.sizeOf122
  v47 := Tryz.zeroValue122
  i47 := by kernel_rfl
  t56 := Tryz.underlying138
  a56 := Tryz.isAgg138
  z56 := Tryz.sizeOf138
  v56 := Tryz.zeroValue138
  i56 := by kernel_rfl
  t82 := Tryz.underlying167
  a82 := Tryz.isAgg167
  z82 := Tryz.sizeOf167
  v82 := Tryz.zeroValue167
  i82 := by kernel_rfl
  t83 := Tryz.underlying168
  a83 := Tryz.isAgg168
  z83 := Tryz.sizeOf168
  v83 := Tryz.zeroValue168
  i83 := by kernel_rfl
  t84 := Tryz.underlying169
  a84 := Tryz.isAgg169
  z84 := Tryz.sizeOf169
  v84 := Tryz.zeroValue169
  i84 := by kernel_rfl
  t85 := Tryz.underlying110
  a85 := Tryz.isAgg110
  z85 := Tryz.sizeOf110
  v85 := Tryz.zeroValue110
  i85 := by kernel_rfl
  t86 := Tryz.underlying170
  a86 := Tryz.isAgg170
  z86 := Tryz.sizeOf170
  v86 := Tryz.zeroValue170
  i86 := by kernel_rfl
  t87 := Tryz.underlying171
  a87 := Tryz.isAgg171
  z87 := Tryz.sizeOf171
  v87 := Tryz.zeroValue171
  i87 := by kernel_rfl
  t89 := Tryz.underlying173
  a89 := Tryz.isAgg173
  z89 := Tryz.sizeOf173
  v89 := Tryz.zeroValue173
  i89 := by kernel_rfl }

namespace YtcmafidnaojkiaaGreatDoor

/-- A block holds these texts. -/
def RowT (blk : Nat) (d : List Str) (w : World) : Prop := ∀ k (hk : k < d.length), w.cell? ⟨blk, k, none⟩ = some (.string (ba d[k])) ∧ w.frozen? ⟨blk, k, none⟩ = false

theorem RowT.put {blk : Nat} {d : List Str} {w : World} (h : RowT blk d w) {i : Nat} (hi : i < d.length) (x : Str) : RowT blk (d.set i x) (w.setCell ⟨blk, i, none⟩ (.string (ba x))) := by
  intro k hk
  have hk' : k < d.length := by simpa using hk
  refine ⟨?_, by rw [World.frozen?_setCell]; exact (h k hk').2⟩
  rw [List.getElem_set]
  by_cases e : i = k
  · subst e
    rw [if_pos rfl]
    exact World.cell?_setCell_same' _ _ _ (by rw [(h i hi).1]; rfl)
  · rw [if_neg e, World.cell?_setCell_other (w := w) (a := ⟨blk, i, none⟩) (b := ⟨blk, k, none⟩) (h := by intro hh; exact e (congrArg Addr.off hh))]
    exact (h k hk').1

theorem Fr.put (blk : Nat) (w : World) (k : Nat) (x : Value) : Fr blk w (w.setCell ⟨blk, k, none⟩ x) :=
  ⟨rfl, rfl, rfl, by simp [World.setCell], fun i _ hn => Below.heap_setCell _ _ _ _ hn⟩

noncomputable def infoS : TypeInfo := (Tryz.prog.info? 9).get (by kernel_rfl)
theorem infoS_at : Tryz.prog.info? 9 = some infoS := by kernel_rfl
theorem infoS_size : infoS.size = 1 := by kernel_rfl
theorem aggS (w : World) : (isAgg 9).run Tryz.prog w = .ok false w := by kernel_rfl

/-- Swapper's literal exchanges two texts. -/
theorem swapT {blk n c : Nat} {d : List Str} {w : World} (hn : d.length = n) (h : RowT blk d w) {i j : Nat} (hi : i < d.length) (hj : j < d.length) :
    (callFunc 136 (#[.int .i64 (i : Int), .int .i64 (j : Int)] ++ #[.slice (some ⟨blk, 0, none⟩) n c, typeHandle Tryz.prog 9])).run Tryz.prog w = .ok (.value (.tuple #[])) ((w.setCell ⟨blk, i, none⟩ (.string (ba d[j]))).setCell ⟨blk, j, none⟩ (.string (ba d[i]))) := by
  have hr := run_swap_one (P := Tryz.prog) true 9 infoS infoS_at infoS_size aggS blk 0 n c i j (by omega) (by omega) (.string (ba d[i])) (.string (ba d[j])) rfl rfl w (by rw [Nat.zero_add]; exact (h i hi).1) (by rw [Nat.zero_add]; exact (h j hj).1) (by rw [Nat.zero_add]; exact (h i hi).2) (by rw [Nat.zero_add]; exact (h j hj).2)
  rw [Nat.zero_add, Nat.zero_add] at hr
  rw [run_callFunc_extern Tryz.func136 (by kernel_rfl) (by kernel_rfl) (by kernel_rfl) (e := Extern.ReflectliteSwapper.swap true) (by kernel_rfl),
    show (#[Value.int .i64 (i : Int), Value.int .i64 (j : Int)] ++ #[Value.slice (some ⟨blk, 0, none⟩) n c, typeHandle Tryz.prog 9]) = #[.int .i64 i, .int .i64 j, .slice (some ⟨blk, 0, none⟩) n c, typeHandle Tryz.prog 9] from rfl, hr]
  rfl

end YtcmafidnaojkiaaGreatDoor
end Go.Proofs
