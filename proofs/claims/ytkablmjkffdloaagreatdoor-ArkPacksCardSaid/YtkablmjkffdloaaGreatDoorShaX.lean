/-
  SHA256: the first state and the numbers of the rounds.
-/
import Derived.Test.YtkablmjkffdloaaGreatDoorBas
import Derived.Maps.AppendAt
import Derived.Deep.AppendLies
import Derived.Lib.AppendZeros
import Derived.OwnWalk
import Derived.Deep.RegionHeld3
import Derived.Lib.Walk
import Derived.Deep.RegionLaw
namespace Go.Proofs.YtkablmjkffdloaaGreatDoor
open Go.RowKit

def rotr (x : UInt32) (k : Nat) : UInt32 := (x <<< (UInt32.ofNat (32 - k))) ||| (x >>> (UInt32.ofNat k))

theorem shlN (x : UInt32) {k p : Nat} (hk : k < 32) (hp : 2 ^ k = p) : (x.toNat : Int) * (p : Int) % 4294967296 = ((x <<< (UInt32.ofNat k)).toNat : Int) := by
  rw [UInt32.toNat_shiftLeft]
  have e : (UInt32.ofNat k).toNat % 32 = k := by rw [UInt32.toNat_ofNat']; omega
  rw [e, Nat.shiftLeft_eq, hp]
  have h32 : (2 : Nat) ^ 32 = 4294967296 := rfl
  rw [h32]
  simp
theorem shrN (x : UInt32) {k p : Nat} (hk : k < 32) (hp : 2 ^ k = p) : (x.toNat : Int) / (p : Int) = ((x >>> (UInt32.ofNat k)).toNat : Int) := by
  rw [UInt32.toNat_shiftRight]
  have e : (UInt32.ofNat k).toNat % 32 = k := by rw [UInt32.toNat_ofNat']; omega
  rw [e, Nat.shiftRight_eq_div_pow, hp]
  simp

theorem rot_eq (x : UInt32) {k p q : Nat} (h0 : 0 < k) (hk : k < 32) (hp : 2 ^ (32 - k) = p) (hq : 2 ^ k = q) : bits .or .u32 ((x.toNat : Int) * (p : Int) % 4294967296) ((x.toNat : Int) / (q : Int)) = ((rotr x k).toNat : Int) := by
  rw [shlN x (by omega) hp, shrN x hk hq, bor]
  rfl

theorem rot2 (x : UInt32) (w : World) : Calls Tryz.prog 143 #[.int .u32 (x.toNat : Int), .int .i64 (-2)] w fun e w' => e = .returned (.int .u32 ((rotr x 2).toNat : Int)) ∧ w' = w := by
  have hx := u32_lt x
  have hk : bits .and .u64 (IntKind.u64.wrap (-2)) 31 = 30 := by decide +kernel
  have he : bits .or .u32 ((x.toNat : Int) * 1073741824 % 4294967296) ((x.toNat : Int) / 4) = ((rotr x 2).toNat : Int) := rot_eq x (k := 2) (by decide) (by decide) (by decide : 2 ^ (32 - 2) = 1073741824) (by decide : 2 ^ 2 = 4)
  go_enter Tryz.func143, Tryz.ntmps143
  go_wp2
  go_ret
  first | exact ⟨rfl, rfl⟩ | exact ⟨congrArg (fun z => Ending.returned (.int .u32 z)) he, rfl⟩
theorem rot6 (x : UInt32) (w : World) : Calls Tryz.prog 143 #[.int .u32 (x.toNat : Int), .int .i64 (-6)] w fun e w' => e = .returned (.int .u32 ((rotr x 6).toNat : Int)) ∧ w' = w := by
  have hx := u32_lt x
  have hk : bits .and .u64 (IntKind.u64.wrap (-6)) 31 = 26 := by decide +kernel
  have he : bits .or .u32 ((x.toNat : Int) * 67108864 % 4294967296) ((x.toNat : Int) / 64) = ((rotr x 6).toNat : Int) := rot_eq x (k := 6) (by decide) (by decide) (by decide : 2 ^ (32 - 6) = 67108864) (by decide : 2 ^ 6 = 64)
  go_enter Tryz.func143, Tryz.ntmps143
  go_wp2
  go_ret
  first | exact ⟨rfl, rfl⟩ | exact ⟨congrArg (fun z => Ending.returned (.int .u32 z)) he, rfl⟩
theorem rot7 (x : UInt32) (w : World) : Calls Tryz.prog 143 #[.int .u32 (x.toNat : Int), .int .i64 (-7)] w fun e w' => e = .returned (.int .u32 ((rotr x 7).toNat : Int)) ∧ w' = w := by
  have hx := u32_lt x
  have hk : bits .and .u64 (IntKind.u64.wrap (-7)) 31 = 25 := by decide +kernel
  have he : bits .or .u32 ((x.toNat : Int) * 33554432 % 4294967296) ((x.toNat : Int) / 128) = ((rotr x 7).toNat : Int) := rot_eq x (k := 7) (by decide) (by decide) (by decide : 2 ^ (32 - 7) = 33554432) (by decide : 2 ^ 7 = 128)
  go_enter Tryz.func143, Tryz.ntmps143
  go_wp2
  go_ret
  first | exact ⟨rfl, rfl⟩ | exact ⟨congrArg (fun z => Ending.returned (.int .u32 z)) he, rfl⟩
theorem rot11 (x : UInt32) (w : World) : Calls Tryz.prog 143 #[.int .u32 (x.toNat : Int), .int .i64 (-11)] w fun e w' => e = .returned (.int .u32 ((rotr x 11).toNat : Int)) ∧ w' = w := by
  have hx := u32_lt x
  have hk : bits .and .u64 (IntKind.u64.wrap (-11)) 31 = 21 := by decide +kernel
  have he : bits .or .u32 ((x.toNat : Int) * 2097152 % 4294967296) ((x.toNat : Int) / 2048) = ((rotr x 11).toNat : Int) := rot_eq x (k := 11) (by decide) (by decide) (by decide : 2 ^ (32 - 11) = 2097152) (by decide : 2 ^ 11 = 2048)
  go_enter Tryz.func143, Tryz.ntmps143
  go_wp2
  go_ret
  first | exact ⟨rfl, rfl⟩ | exact ⟨congrArg (fun z => Ending.returned (.int .u32 z)) he, rfl⟩
theorem rot13 (x : UInt32) (w : World) : Calls Tryz.prog 143 #[.int .u32 (x.toNat : Int), .int .i64 (-13)] w fun e w' => e = .returned (.int .u32 ((rotr x 13).toNat : Int)) ∧ w' = w := by
  have hx := u32_lt x
  have hk : bits .and .u64 (IntKind.u64.wrap (-13)) 31 = 19 := by decide +kernel
  have he : bits .or .u32 ((x.toNat : Int) * 524288 % 4294967296) ((x.toNat : Int) / 8192) = ((rotr x 13).toNat : Int) := rot_eq x (k := 13) (by decide) (by decide) (by decide : 2 ^ (32 - 13) = 524288) (by decide : 2 ^ 13 = 8192)
  go_enter Tryz.func143, Tryz.ntmps143
  go_wp2
  go_ret
  first | exact ⟨rfl, rfl⟩ | exact ⟨congrArg (fun z => Ending.returned (.int .u32 z)) he, rfl⟩
theorem rot17 (x : UInt32) (w : World) : Calls Tryz.prog 143 #[.int .u32 (x.toNat : Int), .int .i64 (-17)] w fun e w' => e = .returned (.int .u32 ((rotr x 17).toNat : Int)) ∧ w' = w := by
  have hx := u32_lt x
  have hk : bits .and .u64 (IntKind.u64.wrap (-17)) 31 = 15 := by decide +kernel
  have he : bits .or .u32 ((x.toNat : Int) * 32768 % 4294967296) ((x.toNat : Int) / 131072) = ((rotr x 17).toNat : Int) := rot_eq x (k := 17) (by decide) (by decide) (by decide : 2 ^ (32 - 17) = 32768) (by decide : 2 ^ 17 = 131072)
  go_enter Tryz.func143, Tryz.ntmps143
  go_wp2
  go_ret
  first | exact ⟨rfl, rfl⟩ | exact ⟨congrArg (fun z => Ending.returned (.int .u32 z)) he, rfl⟩
theorem rot18 (x : UInt32) (w : World) : Calls Tryz.prog 143 #[.int .u32 (x.toNat : Int), .int .i64 (-18)] w fun e w' => e = .returned (.int .u32 ((rotr x 18).toNat : Int)) ∧ w' = w := by
  have hx := u32_lt x
  have hk : bits .and .u64 (IntKind.u64.wrap (-18)) 31 = 14 := by decide +kernel
  have he : bits .or .u32 ((x.toNat : Int) * 16384 % 4294967296) ((x.toNat : Int) / 262144) = ((rotr x 18).toNat : Int) := rot_eq x (k := 18) (by decide) (by decide) (by decide : 2 ^ (32 - 18) = 16384) (by decide : 2 ^ 18 = 262144)
  go_enter Tryz.func143, Tryz.ntmps143
  go_wp2
  go_ret
  first | exact ⟨rfl, rfl⟩ | exact ⟨congrArg (fun z => Ending.returned (.int .u32 z)) he, rfl⟩
theorem rot19 (x : UInt32) (w : World) : Calls Tryz.prog 143 #[.int .u32 (x.toNat : Int), .int .i64 (-19)] w fun e w' => e = .returned (.int .u32 ((rotr x 19).toNat : Int)) ∧ w' = w := by
  have hx := u32_lt x
  have hk : bits .and .u64 (IntKind.u64.wrap (-19)) 31 = 13 := by decide +kernel
  have he : bits .or .u32 ((x.toNat : Int) * 8192 % 4294967296) ((x.toNat : Int) / 524288) = ((rotr x 19).toNat : Int) := rot_eq x (k := 19) (by decide) (by decide) (by decide : 2 ^ (32 - 19) = 8192) (by decide : 2 ^ 19 = 524288)
  go_enter Tryz.func143, Tryz.ntmps143
  go_wp2
  go_ret
  first | exact ⟨rfl, rfl⟩ | exact ⟨congrArg (fun z => Ending.returned (.int .u32 z)) he, rfl⟩
theorem rot22 (x : UInt32) (w : World) : Calls Tryz.prog 143 #[.int .u32 (x.toNat : Int), .int .i64 (-22)] w fun e w' => e = .returned (.int .u32 ((rotr x 22).toNat : Int)) ∧ w' = w := by
  have hx := u32_lt x
  have hk : bits .and .u64 (IntKind.u64.wrap (-22)) 31 = 10 := by decide +kernel
  have he : bits .or .u32 ((x.toNat : Int) * 1024 % 4294967296) ((x.toNat : Int) / 4194304) = ((rotr x 22).toNat : Int) := rot_eq x (k := 22) (by decide) (by decide) (by decide : 2 ^ (32 - 22) = 1024) (by decide : 2 ^ 22 = 4194304)
  go_enter Tryz.func143, Tryz.ntmps143
  go_wp2
  go_ret
  first | exact ⟨rfl, rfl⟩ | exact ⟨congrArg (fun z => Ending.returned (.int .u32 z)) he, rfl⟩
theorem rot25 (x : UInt32) (w : World) : Calls Tryz.prog 143 #[.int .u32 (x.toNat : Int), .int .i64 (-25)] w fun e w' => e = .returned (.int .u32 ((rotr x 25).toNat : Int)) ∧ w' = w := by
  have hx := u32_lt x
  have hk : bits .and .u64 (IntKind.u64.wrap (-25)) 31 = 7 := by decide +kernel
  have he : bits .or .u32 ((x.toNat : Int) * 128 % 4294967296) ((x.toNat : Int) / 33554432) = ((rotr x 25).toNat : Int) := rot_eq x (k := 25) (by decide) (by decide) (by decide : 2 ^ (32 - 25) = 128) (by decide : 2 ^ 25 = 33554432)
  go_enter Tryz.func143, Tryz.ntmps143
  go_wp2
  go_ret
  first | exact ⟨rfl, rfl⟩ | exact ⟨congrArg (fun z => Ending.returned (.int .u32 z)) he, rfl⟩

theorem wrapI (a : Nat) (ha : a < 67108864) : IntKind.i64.wrap (a : Int) = (a : Int) := by rw [IntKind.wrap_i64]; omega
theorem pow_int (v : Nat) : ((2 : Int) ^ v) = ((2 ^ v : Nat) : Int) := by push_cast; rfl
end Go.Proofs.YtkablmjkffdloaaGreatDoor

namespace Go.Proofs.YtkablmjkffdloaaGreatDoor

/-- Four bytes as a word, the high one first. -/
def be32 (a b c d : UInt8) : UInt32 := (((a.toUInt32 <<< 24) ||| (b.toUInt32 <<< 16)) ||| (c.toUInt32 <<< 8)) ||| d.toUInt32
def sg0 (x : UInt32) : UInt32 := (rotr x 7 ^^^ rotr x 18) ^^^ (x >>> 3)
def sg1 (x : UInt32) : UInt32 := (rotr x 17 ^^^ rotr x 19) ^^^ (x >>> 10)
/-- The next word of a schedule. -/
def nextW (l : List UInt32) : UInt32 := ((l.getD (l.length - 16) 0 + sg0 (l.getD (l.length - 15) 0)) + l.getD (l.length - 7) 0) + sg1 (l.getD (l.length - 2) 0)
def growW : Nat → List UInt32 → List UInt32
  | 0, l => l
  | n + 1, l => growW n (l ++ [nextW l])
def words : Bs → List UInt32
  | a :: b :: c :: d :: r => be32 a b c d :: words r
  | _ => []
def sched (b : Bs) : List UInt32 := growW 48 (words b)

theorem growW_length : ∀ (n : Nat) (l : List UInt32), (growW n l).length = l.length + n
  | 0, l => rfl
  | n + 1, l => by
    unfold growW
    rw [growW_length n]
    simp
    omega
theorem words_length : ∀ (b : Bs), (words b).length = b.length / 4
  | [] => by simp [words]
  | [_] => by simp [words]
  | [_, _] => by simp [words]
  | [_, _, _] => by simp [words]
  | a :: b :: c :: d :: r => by
    simp only [words, List.length_cons, words_length r]
    omega
theorem words_at : ∀ (b : Bs) (i : Nat) (h : 4 * i + 3 < b.length), (words b)[i]? = some (be32 b[4 * i] b[4 * i + 1] b[4 * i + 2] b[4 * i + 3])
  | [], i, h => by simp at h
  | [_], i, h => by exfalso; simp at h; try omega
  | [_, _], i, h => by exfalso; simp at h; try omega
  | [_, _, _], i, h => by exfalso; simp at h; try omega
  | a :: b :: c :: d :: r, 0, h => rfl
  | a :: b :: c :: d :: r, i + 1, h => by
    have ih := words_at r i (by simp at h; omega)
    have e : 4 * (i + 1) = 4 * i + 1 + 1 + 1 + 1 := by omega
    simp only [words, List.getElem?_cons_succ, ih, e]
    rfl

/-- The state. -/
structure St where
  a : UInt32
  b : UInt32
  c : UInt32
  d : UInt32
  e : UInt32
  f : UInt32
  g : UInt32
  h : UInt32

/-- A round. -/
def rnd (s : St) (k w : UInt32) : St :=
  let te := (rotr s.e 6 ^^^ rotr s.e 11) ^^^ rotr s.e 25
  let ch := (s.e &&& s.f) ^^^ (~~~ s.e &&& s.g)
  let one := (((s.h + te) + ch) + k) + w
  let ta := (rotr s.a 2 ^^^ rotr s.a 13) ^^^ rotr s.a 22
  let ma := ((s.a &&& s.b) ^^^ (s.a &&& s.c)) ^^^ (s.b &&& s.c)
  ⟨(one + ta) + ma, s.a, s.b, s.c, s.d + one, s.e, s.f, s.g⟩
/-- All rounds. -/
def rnds (s : St) : List UInt32 → List UInt32 → St
  | k :: ks, w :: ws => rnds (rnd s k w) ks ws
  | _, _ => s
def addS (s t : St) : St := ⟨s.a + t.a, s.b + t.b, s.c + t.c, s.d + t.d, s.e + t.e, s.f + t.f, s.g + t.g, s.h + t.h⟩
def kL : List UInt32 := [0x428a2f98, 0x71374491, 0xb5c0fbcf, 0xe9b5dba5, 0x3956c25b, 0x59f111f1, 0x923f82a4, 0xab1c5ed5,
  0xd807aa98, 0x12835b01, 0x243185be, 0x550c7dc3, 0x72be5d74, 0x80deb1fe, 0x9bdc06a7, 0xc19bf174,
  0xe49b69c1, 0xefbe4786, 0x0fc19dc6, 0x240ca1cc, 0x2de92c6f, 0x4a7484aa, 0x5cb0a9dc, 0x76f988da,
  0x983e5152, 0xa831c66d, 0xb00327c8, 0xbf597fc7, 0xc6e00bf3, 0xd5a79147, 0x06ca6351, 0x14292967,
  0x27b70a85, 0x2e1b2138, 0x4d2c6dfc, 0x53380d13, 0x650a7354, 0x766a0abb, 0x81c2c92e, 0x92722c85,
  0xa2bfe8a1, 0xa81a664b, 0xc24b8b70, 0xc76c51a3, 0xd192e819, 0xd6990624, 0xf40e3585, 0x106aa070,
  0x19a4c116, 0x1e376c08, 0x2748774c, 0x34b0bcb5, 0x391c0cb3, 0x4ed8aa4a, 0x5b9cca4f, 0x682e6ff3,
  0x748f82ee, 0x78a5636f, 0x84c87814, 0x8cc70208, 0x90befffa, 0xa4506ceb, 0xbef9a3f7, 0xc67178f2]
/-- The state behind a block. -/
def mix (s : St) (b : Bs) : St := addS s (rnds s kL (sched b))
def st0 : St := ⟨0x6a09e667, 0xbb67ae85, 0x3c6ef372, 0xa54ff53a, 0x510e527f, 0x9b05688c, 0x1f83d9ab, 0x5be0cd19⟩
/-- The blocks of a text. -/
def mixAll : Nat → St → Bs → St
  | 0, s, _ => s
  | n + 1, s, b => mixAll n (mix s (b.take 64)) (b.drop 64)
def be4 (x : UInt32) : Bs := [(x >>> 24).toUInt8, (x >>> 16).toUInt8, (x >>> 8).toUInt8, x.toUInt8]
def stL (s : St) : List UInt32 := [s.a, s.b, s.c, s.d, s.e, s.f, s.g, s.h]
def be8 (n : Nat) : Bs := [UInt8.ofNat (n >>> 56), UInt8.ofNat (n >>> 48), UInt8.ofNat (n >>> 40), UInt8.ofNat (n >>> 32), UInt8.ofNat (n >>> 24), UInt8.ofNat (n >>> 16), UInt8.ofNat (n >>> 8), UInt8.ofNat n]
/-- What is laid behind a text. -/
def padL (r : Bs) (n : Nat) : Bs := (r ++ 0x80 :: List.replicate ((119 - r.length) % 64) 0) ++ be8 (n * 8)
def shaL (b : Bs) : Bs :=
  let q := b.length / 64
  let e := padL (b.drop (q * 64)) b.length
  (stL (mixAll (e.length / 64) (mixAll q st0 b) e)).flatMap be4

end Go.Proofs.YtkablmjkffdloaaGreatDoor

namespace Go.Proofs.YtkablmjkffdloaaGreatDoor
open Go.RowKit

def byteV (c : UInt8) : Value := .int .u8 (c.toNat : Int)
/-- A row of bytes. -/
abbrev OwnB (base : Nat) (w : World) (v : Value) (l : Bs) : Prop := w.ownsRow base 5 1 v l.length (l.map byteV)

/-- What a call leaves that may write into one row alone. -/
structure GrB (w w' : World) (v v' : Value) : Prop where
  os : w'.os = w.os
  tape : w'.tape = w.tape
  output : w'.output = w.output
  size : w.heap.size ≤ w'.heap.size
  block : ∀ k, k < w.heap.size → some k ≠ v.ownBlock → w'.heap[k]? = w.heap[k]?
  own : v'.ownBlock = v.ownBlock ∨ ∃ g, v'.ownBlock = some g ∧ w.heap.size ≤ g

theorem GrB.refl (w : World) (v : Value) : GrB w w v v := ⟨rfl, rfl, rfl, Nat.le_refl _, fun _ _ _ => rfl, Or.inl rfl⟩
theorem GrB.trans {a b c : World} {u v x : Value} (h : GrB a b u v) (k : GrB b c v x) : GrB a c u x := by
  refine ⟨k.os.trans h.os, k.tape.trans h.tape, k.output.trans h.output, Nat.le_trans h.size k.size, fun i hi hne => ?_, ?_⟩
  · have hv : some i ≠ v.ownBlock := by
      rcases h.own with e | ⟨g, e, hg⟩
      · rw [e]; exact hne
      · rw [e]; intro hh; cases hh; omega
    exact (k.block i (Nat.lt_of_lt_of_le hi h.size) hv).trans (h.block i hi hne)
  · rcases k.own with e | ⟨g, e, hg⟩
    · rw [e]; exact h.own
    · exact Or.inr ⟨g, e, Nat.le_trans h.size hg⟩
theorem GrB.drew {a b : World} {u v : Value} (h : GrB a b u v) : GrB a b.drew u v := ⟨h.os, h.tape, h.output, h.size, h.block, h.own⟩
theorem GrB.alloc (w : World) (o : Obj) (v : Value) : GrB w (w.alloc o) v v := ⟨rfl, rfl, rfl, by simp, fun k hk _ => Below.heap_alloc _ _ _ hk, Or.inl rfl⟩
/-- Seen from a base below the row nothing has turned. -/
theorem GrB.low {B : Nat} {a b : World} {u v : Value} (h : GrB a b u v) (hB : B ≤ a.heap.size) (hu : ∀ g, u.ownBlock = some g → B ≤ g) : Below B a b :=
  ⟨h.os, h.tape, h.output, h.size, fun k hk => h.block k (by omega) (fun e => by have := hu k e.symm; omega)⟩

theorem info5 : (Tryz.prog.info? 5).map (fun i => (i.zero, i.size, i.bytes)) = some (some (.int .u8 0), 1, 1) := by kernel_rfl

theorem OwnB.base {B : Nat} {w : World} {v : Value} {l : Bs} (h : OwnB B w v l) : ∀ g, v.ownBlock = some g → B ≤ g := by
  intro g hg
  rcases h.2 with ⟨rfl, _⟩ | ⟨g', cap, cur, rfl, hb, _⟩
  · cases hg
  · cases hg; exact hb
theorem OwnB.at {B : Nat} {w : World} {v : Value} {l : Bs} (h : OwnB B w v l) : ∃ a c, v = .slice a l.length c ∧ BAt w a l ∧ l.length ≤ c ∧ c ≤ maxLen := by
  rcases h.2 with ⟨rfl, h0⟩ | ⟨g, cap, cur, rfl, hb, hblk, hcap, hcm, hcs, hcur⟩
  · exact ⟨none, 0, by rw [h0], ⟨Or.inl (List.length_eq_zero_iff.1 h0)⟩, by omega, by omega⟩
  · refine ⟨_, cap, rfl, ⟨Or.inr ⟨g, 0, rfl, fun k hk => ?_⟩⟩, hcap, hcm⟩
    have h1 : cur.toList[k]? = (l.map byteV)[k]? := by rw [← hcur, List.getElem?_take_of_lt (by omega)]
    have h2 : cur[k]? = cur.toList[k]? := by simp
    rw [Nat.zero_add, Lib.cell_of_heap hblk, h2, h1]
    simp [hk, byteV]
theorem OwnB.keep {B : Nat} {w w' : World} {v : Value} {l : Bs} (h : OwnB B w v l) (hk : ∀ g, v.ownBlock = some g → w'.heap[g]? = w.heap[g]?) : OwnB B w' v l := by
  refine ⟨h.1, h.2.imp id ?_⟩
  rintro ⟨g, cap, cur, rfl, hb, hblk, hr⟩
  exact ⟨g, cap, cur, rfl, hb, (hk g rfl).trans hblk, hr⟩
theorem OwnB.lt {B : Nat} {w : World} {v : Value} {l : Bs} (h : OwnB B w v l) : ∀ g, v.ownBlock = some g → g < w.heap.size := by
  intro g hg
  rcases h.2 with ⟨rfl, _⟩ | ⟨g', cap, cur, rfl, hb, hblk, _⟩
  · cases hg
  · cases hg; exact (Array.getElem?_eq_some_iff.1 hblk).1
theorem OwnB.low {B : Nat} {w w' : World} {v : Value} {l : Bs} (h : OwnB B w v l) (hb : Below w.heap.size w w') : OwnB B w' v l := h.keep fun g hg => hb.block g (h.lt g hg)

theorem ownB_cat {B : Nat} {w : World} {v : Value} {l m : Bs} (h : w.ownsRow B 5 1 v (l.length + m.length) (l.map byteV ++ m.map byteV)) : OwnB B w v (l ++ m) := by
  unfold OwnB
  rw [List.map_append, List.length_append]
  exact h

theorem byteV_one (l : Bs) : ∀ u ∈ l.map byteV, u.oneCell' = true := by
  intro u hu
  obtain ⟨c, _, rfl⟩ := List.mem_map.1 hu
  rfl

/-- append of bytes that lie somewhere onto a row. -/
theorem app_bytes {B : Nat} {w : World} {v : Value} {l m : Bs} {a : Addr} {n c : Nat} (ho : OwnB B w v l) (hB : B ≤ w.heap.size) (hn : m.length = n) (hm : ∀ k (hk : k < m.length), w.cell? (a.add k) = some (byteV m[k])) (hl : l.length + n ≤ 4294967296) :
    ∃ v' w', (Builtin.append_ #[23, 23] 23 #[v, .slice (some a) n c]).run Tryz.prog w = .ok v' w' ∧ OwnB B w' v' (l ++ m) ∧ GrB w w' v v' := by
  obtain ⟨i0, hi, hz0, hz1, hz2⟩ := info_parts info5
  subst hn
  obtain ⟨v', w', h1, h2, h3, _, h5⟩ := run_append_own_at (P := Tryz.prog) w B 23 23 5 i0 _ 1 1 Tryz.underlying23 hi hz0 hz1 hz2 rfl (by decide) v l.length (l.map byteV) ho a m.length c (m.map byteV) (by simp) (fun j u hu => by
    rw [List.getElem?_map] at hu
    by_cases hj : j < m.length
    · rw [List.getElem?_eq_getElem hj] at hu
      simp only [Option.map_some, Option.some.injEq] at hu
      rw [← hu]
      exact hm j hj
    · rw [List.getElem?_eq_none (by omega)] at hu
      cases hu) (byteV_one m) (by unfold maxLen; omega) (by omega) hB
  refine ⟨v', w', h1, ownB_cat h2, ⟨h3.os, h3.tape, h3.output, h3.size, fun k hk hne => h3.block k hk hne, ?_⟩⟩
  rcases h5 with e | e
  · exact Or.inl e
  · exact Or.inr ⟨_, e, Nat.le_refl _⟩

/-- append of one byte, laid into a block of its own. -/
theorem app_byte {B : Nat} {w W1 : World} {v : Value} {l : Bs} {c : UInt8} (ho : OwnB B w v l) (hB : B ≤ w.heap.size) (hl : l.length ≤ 2147483648) (hW : w.alloc (.cells #[.int .u8 (c.toNat : Int)] 5) = W1) :
    ∃ v' w', (Builtin.append_ #[23, 23] 23 #[v, .slice (some ⟨w.heap.size, 0, none⟩) 1 1]).run Tryz.prog W1 = .ok v' w' ∧ OwnB B w' v' (l ++ [c]) ∧ GrB w w' v v' := by
  have hb : Below w.heap.size w W1 := by rw [← hW]; exact (Below.refl _ _).alloc (Nat.le_refl _) _
  have hblk : Blk W1 w.heap.size #[.int .u8 (c.toNat : Int)] 5 := by rw [← hW]; exact Blk.new _ _ _
  obtain ⟨v', w', h1, h2, h3⟩ := app_bytes (a := ⟨w.heap.size, 0, none⟩) (m := [c]) (n := 1) (c := 1) (ho.low hb) (Nat.le_trans hB hb.size) rfl (fun k hk => by
    have : k = 0 := by simp at hk; exact hk
    subst this
    exact hblk.cell 0) (by omega)
  have ha : GrB w W1 v v := by rw [← hW]; exact GrB.alloc _ _ _
  exact ⟨v', w', h1, h2, ha.trans h3⟩

theorem byte4_24 (x : UInt32) : (x.toNat : Int) / (16777216 : Int) % (256 : Int) = ((x >>> 24).toUInt8.toNat : Int) := by
  rw [show (x.toNat : Int) / (16777216 : Int) = ((x >>> (UInt32.ofNat 24)).toNat : Int) from shrN x (k := 24) (p := 16777216) (by decide) (by decide), UInt32.toNat_toUInt8]
  simp
theorem byte4_16 (x : UInt32) : (x.toNat : Int) / (65536 : Int) % (256 : Int) = ((x >>> 16).toUInt8.toNat : Int) := by
  rw [show (x.toNat : Int) / (65536 : Int) = ((x >>> (UInt32.ofNat 16)).toNat : Int) from shrN x (k := 16) (p := 65536) (by decide) (by decide), UInt32.toNat_toUInt8]
  simp
theorem byte4_8 (x : UInt32) : (x.toNat : Int) / (256 : Int) % (256 : Int) = ((x >>> 8).toUInt8.toNat : Int) := by
  rw [show (x.toNat : Int) / (256 : Int) = ((x >>> (UInt32.ofNat 8)).toNat : Int) from shrN x (k := 8) (p := 256) (by decide) (by decide), UInt32.toNat_toUInt8]
  simp
theorem byte4_0 (x : UInt32) : (x.toNat : Int) % (256 : Int) = (x.toUInt8.toNat : Int) := by
  rw [UInt32.toNat_toUInt8]
  simp

set_option maxRecDepth 100000 in
set_option maxHeartbeats 2000000 in
theorem high4 {base : Nat} {w : World} {v : Value} {l : Bs} {cB : Nat} {x : UInt32} (ho : OwnB base w v l) (hcell : w.cell? ⟨cB, 0, none⟩ = some (.int .i64 4)) (hb : base ≤ w.heap.size) (hl : l.length ≤ 1000000) :
    Calls Tryz.prog 144 #[v, .int .u64 (x.toNat : Int), .pointer (some ⟨cB, 0, none⟩)] w fun e w' => ∃ v', e = .returned v' ∧ OwnB base w' v' (l ++ be4 x) ∧ GrB w w' v v' := by
  have HO := hide ho
  have HB := hide hb
  clear ho hb
  go_enter Tryz.func144, Tryz.ntmps144
  go_wp2
  clear hcell
  go_loopw [0, 6] (fun v0 v6 wr => ∃ j : Nat, j ≤ 4 ∧ v6 = .int .i64 (24 - 8 * (j : Int)) ∧ OwnB base wr v0 (l ++ (be4 x).take j) ∧ GrB w wr v v0 ∧ base ≤ wr.heap.size) (fun _ v6 _ => (intOf v6 + 8).toNat)
  case atStart => exact ⟨0, Nat.zero_le _, by simp, by simpa using unhide HO, GrB.refl _ _, unhide HB⟩
  case round =>
    rename World => wr
    obtain ⟨j, hj, rfl, hrow, hgr0, hsz⟩ := hrel
    have hlen : (l ++ (be4 x).take j).length ≤ 2147483648 := by rw [List.length_append, List.length_take]; omega
    by_cases hlt : j < 4
    · have hj4 : j = 0 ∨ j = 1 ∨ j = 2 ∨ j = 3 := by omega
      rcases hj4 with rfl | rfl | rfl | rfl
      · have hbv : (x.toNat : Int) / (16777216 : Int) % (256 : Int) = (((x >>> 24).toUInt8).toNat : Int) := byte4_24 x
        obtain ⟨W1, hW1⟩ : ∃ W1, wr.alloc (.cells #[.int .u8 ((x.toNat : Int) / (16777216 : Int) % (256 : Int))] 5) = W1 := ⟨_, rfl⟩
        obtain ⟨v', w', happ, hown, hgr⟩ := app_byte (c := (x >>> 24).toUInt8) (W1 := W1) hrow hsz hlen (by rw [← hW1, hbv])
        have HP : Hid (OwnB base w' v' (l ++ (be4 x).take 1) ∧ GrB w w' v v' ∧ base ≤ w'.heap.size) := hide ⟨by have := hown; rw [List.append_assoc] at this; exact this, hgr0.trans hgr, Nat.le_trans hsz hgr.size⟩
        have HW1 := hide hW1
        rw [show (((0 : Nat) : Int)) = (0 : Int) from rfl]
        clear hrow hgr0 hsz hbv hown hgr hW1 hj hlt
        go_wp2_with (at_builtin; rw [unhide HW1]; refine Lib.wpList_append_run _ rfl _ _ _ _ rfl _ _ rfl rfl _ _ happ ?_)
        go_roundw
        case rel => exact ⟨1, by omega, by simp, (unhide HP).1, (unhide HP).2.1, (unhide HP).2.2⟩
        case measure => simp [intOf]
      · have hbv : (x.toNat : Int) / (65536 : Int) % (256 : Int) = (((x >>> 16).toUInt8).toNat : Int) := byte4_16 x
        obtain ⟨W1, hW1⟩ : ∃ W1, wr.alloc (.cells #[.int .u8 ((x.toNat : Int) / (65536 : Int) % (256 : Int))] 5) = W1 := ⟨_, rfl⟩
        obtain ⟨v', w', happ, hown, hgr⟩ := app_byte (c := (x >>> 16).toUInt8) (W1 := W1) hrow hsz hlen (by rw [← hW1, hbv])
        have HP : Hid (OwnB base w' v' (l ++ (be4 x).take 2) ∧ GrB w w' v v' ∧ base ≤ w'.heap.size) := hide ⟨by have := hown; rw [List.append_assoc] at this; exact this, hgr0.trans hgr, Nat.le_trans hsz hgr.size⟩
        have HW1 := hide hW1
        rw [show (((1 : Nat) : Int)) = (1 : Int) from rfl]
        clear hrow hgr0 hsz hbv hown hgr hW1 hj hlt
        go_wp2_with (at_builtin; rw [unhide HW1]; refine Lib.wpList_append_run _ rfl _ _ _ _ rfl _ _ rfl rfl _ _ happ ?_)
        go_roundw
        case rel => exact ⟨2, by omega, by simp, (unhide HP).1, (unhide HP).2.1, (unhide HP).2.2⟩
        case measure => simp [intOf]
      · have hbv : (x.toNat : Int) / (256 : Int) % (256 : Int) = (((x >>> 8).toUInt8).toNat : Int) := byte4_8 x
        obtain ⟨W1, hW1⟩ : ∃ W1, wr.alloc (.cells #[.int .u8 ((x.toNat : Int) / (256 : Int) % (256 : Int))] 5) = W1 := ⟨_, rfl⟩
        obtain ⟨v', w', happ, hown, hgr⟩ := app_byte (c := (x >>> 8).toUInt8) (W1 := W1) hrow hsz hlen (by rw [← hW1, hbv])
        have HP : Hid (OwnB base w' v' (l ++ (be4 x).take 3) ∧ GrB w w' v v' ∧ base ≤ w'.heap.size) := hide ⟨by have := hown; rw [List.append_assoc] at this; exact this, hgr0.trans hgr, Nat.le_trans hsz hgr.size⟩
        have HW1 := hide hW1
        rw [show (((2 : Nat) : Int)) = (2 : Int) from rfl]
        clear hrow hgr0 hsz hbv hown hgr hW1 hj hlt
        go_wp2_with (at_builtin; rw [unhide HW1]; refine Lib.wpList_append_run _ rfl _ _ _ _ rfl _ _ rfl rfl _ _ happ ?_)
        go_roundw
        case rel => exact ⟨3, by omega, by simp, (unhide HP).1, (unhide HP).2.1, (unhide HP).2.2⟩
        case measure => simp [intOf]
      · have hbv : (x.toNat : Int) % (256 : Int) = ((x.toUInt8).toNat : Int) := byte4_0 x
        obtain ⟨W1, hW1⟩ : ∃ W1, wr.alloc (.cells #[.int .u8 ((x.toNat : Int) % (256 : Int))] 5) = W1 := ⟨_, rfl⟩
        obtain ⟨v', w', happ, hown, hgr⟩ := app_byte (c := x.toUInt8) (W1 := W1) hrow hsz hlen (by rw [← hW1, hbv])
        have HP : Hid (OwnB base w' v' (l ++ (be4 x).take 4) ∧ GrB w w' v v' ∧ base ≤ w'.heap.size) := hide ⟨by have := hown; rw [List.append_assoc] at this; exact this, hgr0.trans hgr, Nat.le_trans hsz hgr.size⟩
        have HW1 := hide hW1
        rw [show (((3 : Nat) : Int)) = (3 : Int) from rfl]
        clear hrow hgr0 hsz hbv hown hgr hW1 hj hlt
        go_wp2_with (at_builtin; rw [unhide HW1]; refine Lib.wpList_append_run _ rfl _ _ _ _ rfl _ _ rfl rfl _ _ happ ?_)
        go_roundw
        case rel => exact ⟨4, by omega, by simp, (unhide HP).1, (unhide HP).2.1, (unhide HP).2.2⟩
        case measure => simp [intOf]
    · have hj4 : j = 4 := by omega
      subst hj4
      have HR := hide hrow
      have HG := hide hgr0
      rw [show (((4 : Nat) : Int)) = (4 : Int) from rfl]
      clear hrow hgr0 hsz hj hlt
      go_wp2
      go_ret
      exact ⟨_, rfl, unhide HR, unhide HG⟩

theorem byteN (n : Nat) {k p : Nat} (hp : 2 ^ k = p) : (n : Int) / (p : Int) % (256 : Int) = ((UInt8.ofNat (n >>> k)).toNat : Int) := by
  rw [UInt8.toNat_ofNat', Nat.shiftRight_eq_div_pow, hp]
  simp
theorem byteN0 (n : Nat) : (n : Int) % (256 : Int) = ((UInt8.ofNat n).toNat : Int) := by
  rw [UInt8.toNat_ofNat']
  simp

set_option maxRecDepth 100000 in
set_option maxHeartbeats 2000000 in
theorem high8 {base : Nat} {w : World} {v : Value} {l : Bs} {cB : Nat} {n : Nat} (ho : OwnB base w v l) (hcell : w.cell? ⟨cB, 0, none⟩ = some (.int .i64 8)) (hb : base ≤ w.heap.size) (hl : l.length ≤ 1000000) :
    Calls Tryz.prog 144 #[v, .int .u64 (n : Int), .pointer (some ⟨cB, 0, none⟩)] w fun e w' => ∃ v', e = .returned v' ∧ OwnB base w' v' (l ++ be8 n) ∧ GrB w w' v v' := by
  have HO := hide ho
  have HB := hide hb
  clear ho hb
  go_enter Tryz.func144, Tryz.ntmps144
  go_wp2
  clear hcell
  go_loopw [0, 6] (fun v0 v6 wr => ∃ j : Nat, j ≤ 8 ∧ v6 = .int .i64 (56 - 8 * (j : Int)) ∧ OwnB base wr v0 (l ++ (be8 n).take j) ∧ GrB w wr v v0 ∧ base ≤ wr.heap.size) (fun _ v6 _ => (intOf v6 + 8).toNat)
  case atStart => exact ⟨0, Nat.zero_le _, by simp, by simpa using unhide HO, GrB.refl _ _, unhide HB⟩
  case round =>
    rename World => wr
    obtain ⟨j, hj, rfl, hrow, hgr0, hsz⟩ := hrel
    have hlen : (l ++ (be8 n).take j).length ≤ 2147483648 := by rw [List.length_append, List.length_take]; omega
    by_cases hlt : j < 8
    · have hj4 : j = 0 ∨ j = 1 ∨ j = 2 ∨ j = 3 ∨ j = 4 ∨ j = 5 ∨ j = 6 ∨ j = 7 := by omega
      rcases hj4 with rfl | rfl | rfl | rfl | rfl | rfl | rfl | rfl
      · have hbv : (n : Int) / (72057594037927936 : Int) % (256 : Int) = ((UInt8.ofNat (n >>> 56)).toNat : Int) := byteN n (k := 56) (p := 72057594037927936) (by decide)
        obtain ⟨W1, hW1⟩ : ∃ W1, wr.alloc (.cells #[.int .u8 ((n : Int) / (72057594037927936 : Int) % (256 : Int))] 5) = W1 := ⟨_, rfl⟩
        obtain ⟨v', w', happ, hown, hgr⟩ := app_byte (c := UInt8.ofNat (n >>> 56)) (W1 := W1) hrow hsz hlen (by rw [← hW1, hbv])
        have HP : Hid (OwnB base w' v' (l ++ (be8 n).take 1) ∧ GrB w w' v v' ∧ base ≤ w'.heap.size) := hide ⟨by have := hown; rw [List.append_assoc] at this; exact this, hgr0.trans hgr, Nat.le_trans hsz hgr.size⟩
        have HW1 := hide hW1
        rw [show (((0 : Nat) : Int)) = (0 : Int) from rfl]
        clear hrow hgr0 hsz hbv hown hgr hW1 hj hlt
        go_wp2_with (at_builtin; rw [unhide HW1]; refine Lib.wpList_append_run _ rfl _ _ _ _ rfl _ _ rfl rfl _ _ happ ?_)
        go_roundw
        case rel => exact ⟨1, by omega, by simp, (unhide HP).1, (unhide HP).2.1, (unhide HP).2.2⟩
        case measure => simp [intOf]
      · have hbv : (n : Int) / (281474976710656 : Int) % (256 : Int) = ((UInt8.ofNat (n >>> 48)).toNat : Int) := byteN n (k := 48) (p := 281474976710656) (by decide)
        obtain ⟨W1, hW1⟩ : ∃ W1, wr.alloc (.cells #[.int .u8 ((n : Int) / (281474976710656 : Int) % (256 : Int))] 5) = W1 := ⟨_, rfl⟩
        obtain ⟨v', w', happ, hown, hgr⟩ := app_byte (c := UInt8.ofNat (n >>> 48)) (W1 := W1) hrow hsz hlen (by rw [← hW1, hbv])
        have HP : Hid (OwnB base w' v' (l ++ (be8 n).take 2) ∧ GrB w w' v v' ∧ base ≤ w'.heap.size) := hide ⟨by have := hown; rw [List.append_assoc] at this; exact this, hgr0.trans hgr, Nat.le_trans hsz hgr.size⟩
        have HW1 := hide hW1
        rw [show (((1 : Nat) : Int)) = (1 : Int) from rfl]
        clear hrow hgr0 hsz hbv hown hgr hW1 hj hlt
        go_wp2_with (at_builtin; rw [unhide HW1]; refine Lib.wpList_append_run _ rfl _ _ _ _ rfl _ _ rfl rfl _ _ happ ?_)
        go_roundw
        case rel => exact ⟨2, by omega, by simp, (unhide HP).1, (unhide HP).2.1, (unhide HP).2.2⟩
        case measure => simp [intOf]
      · have hbv : (n : Int) / (1099511627776 : Int) % (256 : Int) = ((UInt8.ofNat (n >>> 40)).toNat : Int) := byteN n (k := 40) (p := 1099511627776) (by decide)
        obtain ⟨W1, hW1⟩ : ∃ W1, wr.alloc (.cells #[.int .u8 ((n : Int) / (1099511627776 : Int) % (256 : Int))] 5) = W1 := ⟨_, rfl⟩
        obtain ⟨v', w', happ, hown, hgr⟩ := app_byte (c := UInt8.ofNat (n >>> 40)) (W1 := W1) hrow hsz hlen (by rw [← hW1, hbv])
        have HP : Hid (OwnB base w' v' (l ++ (be8 n).take 3) ∧ GrB w w' v v' ∧ base ≤ w'.heap.size) := hide ⟨by have := hown; rw [List.append_assoc] at this; exact this, hgr0.trans hgr, Nat.le_trans hsz hgr.size⟩
        have HW1 := hide hW1
        rw [show (((2 : Nat) : Int)) = (2 : Int) from rfl]
        clear hrow hgr0 hsz hbv hown hgr hW1 hj hlt
        go_wp2_with (at_builtin; rw [unhide HW1]; refine Lib.wpList_append_run _ rfl _ _ _ _ rfl _ _ rfl rfl _ _ happ ?_)
        go_roundw
        case rel => exact ⟨3, by omega, by simp, (unhide HP).1, (unhide HP).2.1, (unhide HP).2.2⟩
        case measure => simp [intOf]
      · have hbv : (n : Int) / (4294967296 : Int) % (256 : Int) = ((UInt8.ofNat (n >>> 32)).toNat : Int) := byteN n (k := 32) (p := 4294967296) (by decide)
        obtain ⟨W1, hW1⟩ : ∃ W1, wr.alloc (.cells #[.int .u8 ((n : Int) / (4294967296 : Int) % (256 : Int))] 5) = W1 := ⟨_, rfl⟩
        obtain ⟨v', w', happ, hown, hgr⟩ := app_byte (c := UInt8.ofNat (n >>> 32)) (W1 := W1) hrow hsz hlen (by rw [← hW1, hbv])
        have HP : Hid (OwnB base w' v' (l ++ (be8 n).take 4) ∧ GrB w w' v v' ∧ base ≤ w'.heap.size) := hide ⟨by have := hown; rw [List.append_assoc] at this; exact this, hgr0.trans hgr, Nat.le_trans hsz hgr.size⟩
        have HW1 := hide hW1
        rw [show (((3 : Nat) : Int)) = (3 : Int) from rfl]
        clear hrow hgr0 hsz hbv hown hgr hW1 hj hlt
        go_wp2_with (at_builtin; rw [unhide HW1]; refine Lib.wpList_append_run _ rfl _ _ _ _ rfl _ _ rfl rfl _ _ happ ?_)
        go_roundw
        case rel => exact ⟨4, by omega, by simp, (unhide HP).1, (unhide HP).2.1, (unhide HP).2.2⟩
        case measure => simp [intOf]
      · have hbv : (n : Int) / (16777216 : Int) % (256 : Int) = ((UInt8.ofNat (n >>> 24)).toNat : Int) := byteN n (k := 24) (p := 16777216) (by decide)
        obtain ⟨W1, hW1⟩ : ∃ W1, wr.alloc (.cells #[.int .u8 ((n : Int) / (16777216 : Int) % (256 : Int))] 5) = W1 := ⟨_, rfl⟩
        obtain ⟨v', w', happ, hown, hgr⟩ := app_byte (c := UInt8.ofNat (n >>> 24)) (W1 := W1) hrow hsz hlen (by rw [← hW1, hbv])
        have HP : Hid (OwnB base w' v' (l ++ (be8 n).take 5) ∧ GrB w w' v v' ∧ base ≤ w'.heap.size) := hide ⟨by have := hown; rw [List.append_assoc] at this; exact this, hgr0.trans hgr, Nat.le_trans hsz hgr.size⟩
        have HW1 := hide hW1
        rw [show (((4 : Nat) : Int)) = (4 : Int) from rfl]
        clear hrow hgr0 hsz hbv hown hgr hW1 hj hlt
        go_wp2_with (at_builtin; rw [unhide HW1]; refine Lib.wpList_append_run _ rfl _ _ _ _ rfl _ _ rfl rfl _ _ happ ?_)
        go_roundw
        case rel => exact ⟨5, by omega, by simp, (unhide HP).1, (unhide HP).2.1, (unhide HP).2.2⟩
        case measure => simp [intOf]
      · have hbv : (n : Int) / (65536 : Int) % (256 : Int) = ((UInt8.ofNat (n >>> 16)).toNat : Int) := byteN n (k := 16) (p := 65536) (by decide)
        obtain ⟨W1, hW1⟩ : ∃ W1, wr.alloc (.cells #[.int .u8 ((n : Int) / (65536 : Int) % (256 : Int))] 5) = W1 := ⟨_, rfl⟩
        obtain ⟨v', w', happ, hown, hgr⟩ := app_byte (c := UInt8.ofNat (n >>> 16)) (W1 := W1) hrow hsz hlen (by rw [← hW1, hbv])
        have HP : Hid (OwnB base w' v' (l ++ (be8 n).take 6) ∧ GrB w w' v v' ∧ base ≤ w'.heap.size) := hide ⟨by have := hown; rw [List.append_assoc] at this; exact this, hgr0.trans hgr, Nat.le_trans hsz hgr.size⟩
        have HW1 := hide hW1
        rw [show (((5 : Nat) : Int)) = (5 : Int) from rfl]
        clear hrow hgr0 hsz hbv hown hgr hW1 hj hlt
        go_wp2_with (at_builtin; rw [unhide HW1]; refine Lib.wpList_append_run _ rfl _ _ _ _ rfl _ _ rfl rfl _ _ happ ?_)
        go_roundw
        case rel => exact ⟨6, by omega, by simp, (unhide HP).1, (unhide HP).2.1, (unhide HP).2.2⟩
        case measure => simp [intOf]
      · have hbv : (n : Int) / (256 : Int) % (256 : Int) = ((UInt8.ofNat (n >>> 8)).toNat : Int) := byteN n (k := 8) (p := 256) (by decide)
        obtain ⟨W1, hW1⟩ : ∃ W1, wr.alloc (.cells #[.int .u8 ((n : Int) / (256 : Int) % (256 : Int))] 5) = W1 := ⟨_, rfl⟩
        obtain ⟨v', w', happ, hown, hgr⟩ := app_byte (c := UInt8.ofNat (n >>> 8)) (W1 := W1) hrow hsz hlen (by rw [← hW1, hbv])
        have HP : Hid (OwnB base w' v' (l ++ (be8 n).take 7) ∧ GrB w w' v v' ∧ base ≤ w'.heap.size) := hide ⟨by have := hown; rw [List.append_assoc] at this; exact this, hgr0.trans hgr, Nat.le_trans hsz hgr.size⟩
        have HW1 := hide hW1
        rw [show (((6 : Nat) : Int)) = (6 : Int) from rfl]
        clear hrow hgr0 hsz hbv hown hgr hW1 hj hlt
        go_wp2_with (at_builtin; rw [unhide HW1]; refine Lib.wpList_append_run _ rfl _ _ _ _ rfl _ _ rfl rfl _ _ happ ?_)
        go_roundw
        case rel => exact ⟨7, by omega, by simp, (unhide HP).1, (unhide HP).2.1, (unhide HP).2.2⟩
        case measure => simp [intOf]
      · have hbv : (n : Int) % (256 : Int) = ((UInt8.ofNat n).toNat : Int) := byteN0 n
        obtain ⟨W1, hW1⟩ : ∃ W1, wr.alloc (.cells #[.int .u8 ((n : Int) % (256 : Int))] 5) = W1 := ⟨_, rfl⟩
        obtain ⟨v', w', happ, hown, hgr⟩ := app_byte (c := UInt8.ofNat n) (W1 := W1) hrow hsz hlen (by rw [← hW1, hbv])
        have HP : Hid (OwnB base w' v' (l ++ (be8 n).take 8) ∧ GrB w w' v v' ∧ base ≤ w'.heap.size) := hide ⟨by have := hown; rw [List.append_assoc] at this; exact this, hgr0.trans hgr, Nat.le_trans hsz hgr.size⟩
        have HW1 := hide hW1
        rw [show (((7 : Nat) : Int)) = (7 : Int) from rfl]
        clear hrow hgr0 hsz hbv hown hgr hW1 hj hlt
        go_wp2_with (at_builtin; rw [unhide HW1]; refine Lib.wpList_append_run _ rfl _ _ _ _ rfl _ _ rfl rfl _ _ happ ?_)
        go_roundw
        case rel => exact ⟨8, by omega, by simp, (unhide HP).1, (unhide HP).2.1, (unhide HP).2.2⟩
        case measure => simp [intOf]
    · have hj4 : j = 8 := by omega
      subst hj4
      have HR := hide hrow
      have HG := hide hgr0
      rw [show (((8 : Nat) : Int)) = (8 : Int) from rfl]
      clear hrow hgr0 hsz hj hlt
      go_wp2
      go_ret
      exact ⟨_, rfl, unhide HR, unhide HG⟩

end Go.Proofs.YtkablmjkffdloaaGreatDoor

namespace Go.Proofs.YtkablmjkffdloaaGreatDoor
open Go.RowKit

def encW (x : UInt32) : Value := .int .u32 (x.toNat : Int)
/-- 64 words whose first ones are these. -/
def wArr (l : List UInt32) : Array Value := (l.map encW ++ List.replicate (64 - l.length) (Value.int .u32 0)).toArray
abbrev zero64 : Array Value := #[.int .u32 0, .int .u32 0, .int .u32 0, .int .u32 0, .int .u32 0, .int .u32 0, .int .u32 0, .int .u32 0, .int .u32 0, .int .u32 0, .int .u32 0, .int .u32 0, .int .u32 0, .int .u32 0, .int .u32 0, .int .u32 0, .int .u32 0, .int .u32 0, .int .u32 0, .int .u32 0, .int .u32 0, .int .u32 0, .int .u32 0, .int .u32 0, .int .u32 0, .int .u32 0, .int .u32 0, .int .u32 0, .int .u32 0, .int .u32 0, .int .u32 0, .int .u32 0, .int .u32 0, .int .u32 0, .int .u32 0, .int .u32 0, .int .u32 0, .int .u32 0, .int .u32 0, .int .u32 0, .int .u32 0, .int .u32 0, .int .u32 0, .int .u32 0, .int .u32 0, .int .u32 0, .int .u32 0, .int .u32 0, .int .u32 0, .int .u32 0, .int .u32 0, .int .u32 0, .int .u32 0, .int .u32 0, .int .u32 0, .int .u32 0, .int .u32 0, .int .u32 0, .int .u32 0, .int .u32 0, .int .u32 0, .int .u32 0, .int .u32 0, .int .u32 0]
theorem wArr_nil : wArr [] = zero64 := rfl
theorem wArr_size {l : List UInt32} (h : l.length ≤ 64) : (wArr l).size = 64 := by unfold wArr; simp; omega
theorem wArr_get {l : List UInt32} {k : Nat} (h : k < l.length) : (wArr l)[k]? = some (.int .u32 (l[k].toNat : Int)) := by
  unfold wArr
  rw [List.getElem?_toArray, List.getElem?_append_left (by simpa using h)]
  simp [h, encW]
theorem wArr_set {l : List UInt32} (h : l.length < 64) (x : UInt32) : (wArr l).setIfInBounds l.length (.int .u32 (x.toNat : Int)) = wArr (l ++ [x]) := by
  unfold wArr
  obtain ⟨m, hm⟩ : ∃ m, 64 - l.length = m + 1 := ⟨63 - l.length, by omega⟩
  have e : 64 - (l ++ [x]).length = m := by simp; omega
  rw [hm, e, List.setIfInBounds_toArray, List.set_append_right _ _ (by simp)]
  simp [List.replicate_succ, encW]
theorem wArr_full {l : List UInt32} (h : l.length = 64) : wArr l = (l.map encW).toArray := by unfold wArr; rw [h]; simp

/-- While the schedule is made: the words so far, in a world that has grown out of w. -/
structure SchR (w wr : World) (l : List UInt32) : Prop where
  low : Below w.heap.size w wr
  res : Blk wr w.heap.size zero64 123
  row : Blk wr (w.heap.size + 1) (wArr l) 123

theorem SchR.drew {w wr : World} {l : List UInt32} (h : SchR w wr l) : SchR w wr.drew l := ⟨h.low.drew, h.res, h.row⟩
theorem SchR.drewN {w wr : World} {l : List UInt32} (h : SchR w wr l) (n : Nat) : SchR w (wr.drewN n) l := ⟨⟨h.low.os, h.low.tape, h.low.output, h.low.size, h.low.block⟩, h.res, h.row⟩
theorem SchR.put {w wr : World} {l : List UInt32} (h : SchR w wr l) (hl : l.length < 64) (x : UInt32) : SchR w (wr.setCell ⟨w.heap.size + 1, l.length, none⟩ (.int .u32 (x.toNat : Int))) (l ++ [x]) := by
  refine ⟨h.low.setCell (p := ⟨w.heap.size + 1, _, none⟩) (Nat.le_succ _) _, h.res.other (by simp) _, ?_⟩
  have := h.row.set l.length (.int .u32 (x.toNat : Int))
  rw [wArr_set hl] at this
  exact this
theorem SchR.old {w wr : World} {l : List UInt32} (h : SchR w wr l) (hl : l.length ≤ 64) {j : Nat} (hj : j < 64) : ∃ v, wr.cell? ⟨w.heap.size + 1, j, none⟩ = some v :=
  ⟨_, (h.row.cell j).trans (Array.getElem?_eq_getElem (by rw [wArr_size hl]; exact hj))⟩

theorem schR_new (w : World) : SchR w ((w.alloc (.cells zero64 123)).alloc (.cells zero64 123)) [] := by
  have sz : (w.alloc (.cells zero64 123)).heap.size = w.heap.size + 1 := by show (w.heap.push _).size = _; simp
  have b1 := (Below.refl w.heap.size w).alloc (Nat.le_refl _) (.cells zero64 123)
  refine ⟨b1.alloc b1.size _, (Blk.new w _ _).alloc _, ?_⟩
  have := Blk.new (w.alloc (.cells zero64 123)) zero64 123
  rw [sz] at this
  rw [wArr_nil]
  exact this

theorem low_setRow {B g : Nat} {w0 w : World} (h : Below B w0 w) (hg : B ≤ g) (cs : Array Value) : Below B w0 (w.setRow g cs) := by
  refine ⟨h.os, h.tape, h.output, ?_, fun k hk => ?_⟩
  · show w0.heap.size ≤ (w.setRow g cs).heap.size
    have : (w.setRow g cs).heap.size = w.heap.size := by simp [World.setRow]
    rw [this]
    exact h.size
  · rw [setRow_other _ _ _ _ (by omega)]
    exact h.block k hk

theorem be32_eq (a b c d : UInt8) : bits .or .u32 (bits .or .u32 (bits .or .u32 ((a.toNat : Int) * 16777216) ((b.toNat : Int) * 65536)) ((c.toNat : Int) * 256)) (d.toNat : Int) = ((be32 a b c d).toNat : Int) := by
  have la := u8_lt a
  have lb := u8_lt b
  have lc := u8_lt c
  have ea : (a.toNat : Int) * 16777216 = ((a.toUInt32 <<< (UInt32.ofNat 24)).toNat : Int) := by
    rw [← shlN a.toUInt32 (k := 24) (p := 16777216) (by decide) (by decide), UInt8.toNat_toUInt32]
    omega
  have eb : (b.toNat : Int) * 65536 = ((b.toUInt32 <<< (UInt32.ofNat 16)).toNat : Int) := by
    rw [← shlN b.toUInt32 (k := 16) (p := 65536) (by decide) (by decide), UInt8.toNat_toUInt32]
    omega
  have ec : (c.toNat : Int) * 256 = ((c.toUInt32 <<< (UInt32.ofNat 8)).toNat : Int) := by
    rw [← shlN c.toUInt32 (k := 8) (p := 256) (by decide) (by decide), UInt8.toNat_toUInt32]
    omega
  rw [ea, eb, ec, u8_32 d, bor, bor, bor]
  rfl

theorem sg0_eq (x : UInt32) : bits .xor .u32 (bits .xor .u32 ((rotr x 7).toNat : Int) ((rotr x 18).toNat : Int)) ((x.toNat : Int) / 8) = ((sg0 x).toNat : Int) := by
  have e : (x.toNat : Int) / 8 = ((x >>> (UInt32.ofNat 3)).toNat : Int) := shrN x (k := 3) (p := 8) (by decide) (by decide)
  rw [e, bx, bx]
  rfl
theorem sg1_eq (x : UInt32) : bits .xor .u32 (bits .xor .u32 ((rotr x 17).toNat : Int) ((rotr x 19).toNat : Int)) ((x.toNat : Int) / 1024) = ((sg1 x).toNat : Int) := by
  have e : (x.toNat : Int) / 1024 = ((x >>> (UInt32.ofNat 10)).toNat : Int) := shrN x (k := 10) (p := 1024) (by decide) (by decide)
  rw [e, bx, bx]
  rfl
theorem madd (x y : UInt32) : ((x.toNat : Int) + (y.toNat : Int)) % 4294967296 = ((x + y).toNat : Int) := by rw [← wadd, IntKind.wrap_u32']

theorem madd4 (a b c d : UInt32) : ((a.toNat : Int) + (b.toNat : Int) + (c.toNat : Int) + (d.toNat : Int)) % 4294967296 = ((((a + b) + c) + d).toNat : Int) := by
  rw [UInt32.toNat_add, UInt32.toNat_add, UInt32.toNat_add]
  omega

theorem words_next {xs : Bs} {i : Nat} (h : 4 * i + 3 < xs.length) : (words xs).take (i + 1) = (words xs).take i ++ [be32 xs[4 * i] xs[4 * i + 1] xs[4 * i + 2] xs[4 * i + 3]] := by
  rw [List.take_add_one, words_at xs i h]
  rfl

set_option maxRecDepth 100000 in
set_option maxHeartbeats 1000000 in
theorem sch_any {w : World} {B O c : Nat} {xs : Bs} (hn : xs.length = 64) (hc : 64 ≤ c) (hc2 : c ≤ 9223372036854775807) (h : ∀ k (hk : k < xs.length), w.cell? ⟨B, O + k, none⟩ = some (.int .u8 (xs[k].toNat : Int))) :
    Calls Tryz.prog 142 #[.slice (some ⟨B, O, none⟩) 64 c] w fun e w' => e = .returned (.agg ((sched xs).map (fun x => Value.int .u32 (x.toNat : Int))).toArray) ∧ Below w.heap.size w w' := by
  have HN := hide hn
  have H := hide h
  clear hn h
  go_enter Tryz.func142, Tryz.ntmps142
  go_wp2
  go_loopw [4, 5, 11] (fun _ _ v11 wr => ∃ i : Nat, i ≤ 16 ∧ v11 = .int .i64 i ∧ SchR w wr ((words xs).take i)) (fun _ _ v11 _ => 16 - (intOf v11).toNat)
  case atStart => exact ⟨0, Nat.zero_le _, rfl, schR_new w⟩
  case round =>
    rename World => wr
    obtain ⟨i, hi, rfl, hr⟩ := hrel
    have HR := hide hr
    by_cases hlt : i < 16
    · have hw : ∀ j (hj : j < 4), wr.cell? ⟨B, O + 4 * i + j, none⟩ = some (.int .u8 ((xs[4 * i + j]'(by rw [unhide HN]; omega)).toNat : Int)) := by
        intro j hj
        have h0 := unhide H (4 * i + j) (by rw [unhide HN]; omega)
        rw [← Nat.add_assoc] at h0
        exact (hr.low.cell (p := ⟨B, O + 4 * i + j, none⟩) (lt_of_cell h0)).trans h0
      have HT := hide (words_next (xs := xs) (i := i) (by rw [unhide HN]; omega))
      have hlen : ((words xs).take i).length = i := by rw [List.length_take, words_length, unhide HN]; omega
      obtain ⟨a, ha⟩ : ∃ a, xs[4 * i]'(by rw [unhide HN]; omega) = a := ⟨_, rfl⟩
      obtain ⟨b, hb⟩ : ∃ a, xs[4 * i + 1]'(by rw [unhide HN]; omega) = a := ⟨_, rfl⟩
      obtain ⟨cc, hcc⟩ : ∃ a, xs[4 * i + 2]'(by rw [unhide HN]; omega) = a := ⟨_, rfl⟩
      obtain ⟨d, hd⟩ : ∃ a, xs[4 * i + 3]'(by rw [unhide HN]; omega) = a := ⟨_, rfl⟩
      have c0 := hw 0 (by omega)
      have c1 := hw 1 (by omega)
      have c2 := hw 2 (by omega)
      have c3 := hw 3 (by omega)
      simp only [Nat.add_zero] at c0
      rw [ha] at c0
      rw [hb] at c1
      rw [hcc] at c2
      rw [hd] at c3
      rw [ha, hb, hcc, hd] at HT
      obtain ⟨ov, hov⟩ := hr.old (j := i) (by rw [hlen]; omega) (by omega)
      have hfr := hr.row.free i
      have l1 := u8_lt a
      have l2 := u8_lt b
      have l3 := u8_lt cc
      have l4 := u8_lt d
      have i16 : (i : Int) < 16 := by omega
      have i0 : (0 : Int) ≤ (i : Int) := by omega
      have i64 : (i : Int) < 64 := by omega
      have q1 : 4 * (i : Int) ≤ (c : Int) := by omega
      have q2 : 4 * (i : Int) + 4 ≤ (c : Int) := by omega
      have hci : ¬ c = 4 * i := by omega
      clear hw ha hb hcc hd hr
      go_wp2
      go_region
      all_goals
        go_wp2
        have hput := (unhide HR).put (by rw [hlen]; omega) (be32 a b cc d)
        rw [hlen, ← unhide HT, ← be32_eq] at hput
        have HP := hide hput
        clear hput
        go_roundw
        case rel => exact ⟨i + 1, hlt, by simp, (unhide HP).drew⟩
        case measure => simp [intOf]; omega
    · have hi16 : i = 16 := by omega
      subst hi16
      rw [show ((16 : Nat) : Int) = (16 : Int) from rfl]
      have hall : (words xs).take 16 = words xs := List.take_of_length_le (by rw [words_length, unhide HN]; omega)
      have hwl : (words xs).length = 16 := by rw [words_length, unhide HN]
      rw [hall] at HR
      have HG : Hid (growW 48 (words xs) = sched xs) := hide rfl
      have HWL := hide hwl
      clear hr hall hwl hlt hi
      go_wp2
      go_loopw [6, 7, 8, 9, 10] (fun v6 _ _ _ _ wq => ∃ (i : Nat) (l : List UInt32), 16 ≤ i ∧ i ≤ 64 ∧ l.length = i ∧ v6 = .int .i64 i ∧ growW (64 - i) l = sched xs ∧ SchR w wq l) (fun v6 _ _ _ _ _ => 64 - (intOf v6).toNat)
      case atStart => exact ⟨16, words xs, by omega, by omega, unhide HWL, rfl, unhide HG, unhide HR⟩
      case round =>
        rename World => wq
        clear HR HG HWL
        obtain ⟨i, l, h16, h64, hl, rfl, hg, hr⟩ := hrel
        have HL := hide hl
        have HG := hide hg
        have HR := hide hr
        by_cases hlt : i < 64
        · have hcell : ∀ k (hk : k < l.length), wq.cell? ⟨w.heap.size + 1, k, none⟩ = some (.int .u32 (l[k].toNat : Int)) := fun k hk => (hr.row.cell k).trans (wArr_get hk)
          obtain ⟨j15, h15⟩ : ∃ j, i - 15 = j := ⟨_, rfl⟩
          obtain ⟨j2, h2⟩ : ∃ j, i - 2 = j := ⟨_, rfl⟩
          obtain ⟨j16, hj16⟩ : ∃ j, i - 16 = j := ⟨_, rfl⟩
          obtain ⟨j7, h7⟩ : ∃ j, i - 7 = j := ⟨_, rfl⟩
          have k15 : j15 < l.length := by omega
          have k2 : j2 < l.length := by omega
          have k16 : j16 < l.length := by omega
          have k7 : j7 < l.length := by omega
          have c15 := hcell j15 k15
          have c2 := hcell j2 k2
          have c16 := hcell j16 k16
          have c7 := hcell j7 k7
          have hnx : nextW l = ((l[j16] + sg0 l[j15]) + l[j7]) + sg1 l[j2] := by
            unfold nextW
            rw [hl, hj16, h15, h7, h2]
            simp [List.getD_eq_getElem?_getD, k15, k2, k16, k7]
          obtain ⟨x15, e15⟩ : ∃ x, l[j15] = x := ⟨_, rfl⟩
          obtain ⟨x2, e2⟩ : ∃ x, l[j2] = x := ⟨_, rfl⟩
          obtain ⟨x16, e16⟩ : ∃ x, l[j16] = x := ⟨_, rfl⟩
          obtain ⟨x7, e7⟩ : ∃ x, l[j7] = x := ⟨_, rfl⟩
          rw [e15] at c15 hnx
          rw [e2] at c2 hnx
          rw [e16] at c16 hnx
          rw [e7] at c7 hnx
          have HX := hide hnx
          obtain ⟨ov, hov⟩ := hr.old (j := i) (by omega) hlt
          have hfr := hr.row.free i
          have d15 : (i : Int) - 15 = (j15 : Int) := by omega
          have d2 : (i : Int) - 2 = (j2 : Int) := by omega
          have d16 : (i : Int) - 16 = (j16 : Int) := by omega
          have d7 : (i : Int) - 7 = (j7 : Int) := by omega
          have b15 : (j15 : Int) < 64 := by omega
          have b2 : (j2 : Int) < 64 := by omega
          have b16 : (j16 : Int) < 64 := by omega
          have b7 : (j7 : Int) < 64 := by omega
          have bi : (i : Int) < 64 := by omega
          have z0 := sg0_eq x15
          have z1 := sg1_eq x2
          clear hcell hnx e15 e2 e16 e7 h15 h2 hj16 h7 k15 k2 k16 k7 hl hg hr
          go_wp2
          go_quiet (fail)
          go_wp2_with (go_at_call 143; fail)
          refine (rot7 x15 _).mono ?_
          rintro e w9 ⟨rfl, hw⟩
          rw [hw]; clear hw w9
          go_wp2_with (go_at_call 143; fail)
          refine (rot18 x15 _).mono ?_
          rintro e w9 ⟨rfl, hw⟩
          rw [hw]; clear hw w9
          go_wp2_with (go_at_call 143; fail)
          refine (rot17 x2 _).mono ?_
          rintro e w9 ⟨rfl, hw⟩
          rw [hw]; clear hw w9
          go_wp2_with (go_at_call 143; fail)
          refine (rot19 x2 _).mono ?_
          rintro e w9 ⟨rfl, hw⟩
          rw [hw]; clear hw w9
          go_wp2
          go_region
          all_goals
            go_wp2
            have hput := ((unhide HR).drewN (nq + 1)).put (by rw [unhide HL]; exact hlt) (nextW l)
            rw [unhide HL, unhide HX, ← madd4] at hput
            have HP := hide hput
            have HGN : Hid (growW (64 - (i + 1)) (l ++ [nextW l]) = sched xs) := hide (by
              rw [← unhide HG]
              have e : 64 - i = (64 - (i + 1)) + 1 := by omega
              rw [e]
              rfl)
            rw [unhide HX] at HGN
            clear hput
            go_roundw
            case rel =>
              refine ⟨i + 1, _, by omega, by omega, ?_, by simp, unhide HGN, ?_⟩
              · simp [unhide HL]
              · exact unhide HP
            case measure => simp [intOf]; omega
        · have hi64 : i = 64 := by omega
          subst hi64
          have hls : l = sched xs := by rw [← hg]; rfl
          have hsz : (wArr l).size = 64 := wArr_size (by rw [hl]; exact Nat.le_refl _)
          have hinf : (Tryz.prog.info? 123).map (·.size) = some (wArr l).size := by rw [hsz]; kernel_rfl
          have hrow : wq.heap[w.heap.size + 1]? = some (.cells (wArr l) 123 (0, 0)) := hr.row
          have hres : wq.heap[w.heap.size]? = some (.cells zero64 123 (0, 0)) := hr.res
          have hone : (wArr l).all (·.oneCell') = true := by
            rw [wArr_full hl]
            simp [encW, Value.oneCell']
          have HF : Hid ((wArr l) = ((sched xs).map (fun x => Value.int .u32 (x.toNat : Int))).toArray ∧ Below w.heap.size w (wq.setRow w.heap.size (wArr l)) ∧ (wq.setRow w.heap.size (wArr l)).heap[w.heap.size]? = some (.cells (wArr l) 123 (0, 0))) := hide ⟨by rw [wArr_full hl, hls]; rfl, low_setRow hr.low (Nat.le_refl _) _, setRow_heap _ _ _ _ _ _ hres⟩
          clear hlt h16 h64 HR HG HL hr hg
          go_wp2_with (first | (refine wpList_load_row rfl 123 _ rfl (w.heap.size + 1) rfl 123 (wArr l) (0, 0) _ hrow Tryz.underlying123 rfl hinf ?_) | (refine wpList_store_row rfl 123 _ _ rfl w.heap.size (wArr l) rfl rfl 123 zero64 hres hinf (by rw [hsz]; rfl) hone ?_))
          exact bodyPost_ret (v := .agg (wArr l)) (results_cell_row Tryz.results142 _ _ w.heap.size 123 (wArr l) (0, 0) _ rfl (unhide HF).2.2 Tryz.underlying123 rfl hinf) rfl ⟨by rw [(unhide HF).1], (unhide HF).2.1⟩

end Go.Proofs.YtkablmjkffdloaaGreatDoor

namespace Go.Proofs.YtkablmjkffdloaaGreatDoor
open Go.RowKit

abbrev stC (s : St) : Array Value := #[.int .u32 (s.a.toNat : Int), .int .u32 (s.b.toNat : Int), .int .u32 (s.c.toNat : Int), .int .u32 (s.d.toNat : Int), .int .u32 (s.e.toNat : Int), .int .u32 (s.f.toNat : Int), .int .u32 (s.g.toNat : Int), .int .u32 (s.h.toNat : Int)]
abbrev zero8 : Array Value := #[.int .u32 0, .int .u32 0, .int .u32 0, .int .u32 0, .int .u32 0, .int .u32 0, .int .u32 0, .int .u32 0]

/-- While a block is mixed in. -/
structure MxR (w wr : World) (kb : Nat) (sc KA WA : Array Value) : Prop where
  low : Below w.heap.size w wr
  st : Blk wr w.heap.size sc 121
  kk : Blk wr (w.heap.size + 1) KA 123
  res : Blk wr (w.heap.size + 1 + 1) zero8 121
  ww : Blk wr kb WA 123
  far : w.heap.size + 3 ≤ kb

theorem MxR.drewN {w wr : World} {kb : Nat} {sc KA WA : Array Value} (h : MxR w wr kb sc KA WA) (n : Nat) : MxR w (wr.drewN n) kb sc KA WA := ⟨⟨h.low.os, h.low.tape, h.low.output, h.low.size, h.low.block⟩, h.st, h.kk, h.res, h.ww, h.far⟩

/-- The state, its first words added to. -/
def mixS (s t : St) : Nat → St
  | 0 => ⟨s.a, s.b, s.c, s.d, s.e, s.f, s.g, s.h⟩
  | 1 => ⟨s.a + t.a, s.b, s.c, s.d, s.e, s.f, s.g, s.h⟩
  | 2 => ⟨s.a + t.a, s.b + t.b, s.c, s.d, s.e, s.f, s.g, s.h⟩
  | 3 => ⟨s.a + t.a, s.b + t.b, s.c + t.c, s.d, s.e, s.f, s.g, s.h⟩
  | 4 => ⟨s.a + t.a, s.b + t.b, s.c + t.c, s.d + t.d, s.e, s.f, s.g, s.h⟩
  | 5 => ⟨s.a + t.a, s.b + t.b, s.c + t.c, s.d + t.d, s.e + t.e, s.f, s.g, s.h⟩
  | 6 => ⟨s.a + t.a, s.b + t.b, s.c + t.c, s.d + t.d, s.e + t.e, s.f + t.f, s.g, s.h⟩
  | 7 => ⟨s.a + t.a, s.b + t.b, s.c + t.c, s.d + t.d, s.e + t.e, s.f + t.f, s.g + t.g, s.h⟩
  | _ => ⟨s.a + t.a, s.b + t.b, s.c + t.c, s.d + t.d, s.e + t.e, s.f + t.f, s.g + t.g, s.h + t.h⟩

theorem MxR.put {w wr : World} {kb : Nat} {sc KA WA : Array Value} (h : MxR w wr kb sc KA WA) (k : Nat) (v : Value) : MxR w (wr.setCell ⟨w.heap.size, k, none⟩ v) kb (sc.setIfInBounds k v) KA WA := by
  have hf := h.far
  exact ⟨h.low.setCell (p := ⟨w.heap.size, k, none⟩) (Nat.le_refl _) v, h.st.set k v, h.kk.other (by simp) v, h.res.other (by show w.heap.size + 1 + 1 ≠ w.heap.size; omega) v, h.ww.other (by show kb ≠ w.heap.size; omega) v, hf⟩

theorem len39 : 39 < Tryz.prog.types.size := by decide +kernel
theorem size39 : (Tryz.prog.types[39]'len39).size = 1 := by kernel_rfl

theorem rnds_cons (s : St) (k x : UInt32) (ks ws : List UInt32) : rnds s (k :: ks) (x :: ws) = rnds (rnd s k x) ks ws := rfl

theorem te_eq (e : UInt32) : bits .xor .u32 (bits .xor .u32 ((rotr e 6).toNat : Int) ((rotr e 11).toNat : Int)) ((rotr e 25).toNat : Int) = (((rotr e 6 ^^^ rotr e 11) ^^^ rotr e 25).toNat : Int) := by rw [bx, bx]
theorem sum7 (a b c d e f g : UInt32) : (((a.toNat : Int) + (b.toNat : Int) + (c.toNat : Int) + (d.toNat : Int) + (e.toNat : Int) + (f.toNat : Int)) % 4294967296 + (g.toNat : Int)) % 4294967296 = (((((((a + b) + c) + d) + e) + f) + g).toNat : Int) := by
  rw [UInt32.toNat_add, UInt32.toNat_add, UInt32.toNat_add, UInt32.toNat_add, UInt32.toNat_add, UInt32.toNat_add]
  omega
theorem sum6 (z a b c d e : UInt32) : ((z.toNat : Int) + ((a.toNat : Int) + (b.toNat : Int) + (c.toNat : Int) + (d.toNat : Int) + (e.toNat : Int)) % 4294967296) % 4294967296 = ((z + ((((a + b) + c) + d) + e)).toNat : Int) := by
  rw [UInt32.toNat_add, UInt32.toNat_add, UInt32.toNat_add, UInt32.toNat_add, UInt32.toNat_add]
  omega
theorem ta_eq (a : UInt32) : bits .xor .u32 (bits .xor .u32 ((rotr a 2).toNat : Int) ((rotr a 13).toNat : Int)) ((rotr a 22).toNat : Int) = (((rotr a 2 ^^^ rotr a 13) ^^^ rotr a 22).toNat : Int) := by rw [bx, bx]
theorem ch_eq (e f g : UInt32) : bits .xor .u32 (bits .and .u32 (e.toNat : Int) (f.toNat : Int)) (bits .and .u32 (bits .xor .u32 IntKind.u32.max (e.toNat : Int)) (g.toNat : Int)) = (((e &&& f) ^^^ (~~~ e &&& g)).toNat : Int) := by
  rw [show bits .xor .u32 IntKind.u32.max (e.toNat : Int) = ((~~~ e).toNat : Int) from bnot e, ban, ban, bx]
theorem ma_eq (a b c : UInt32) : bits .xor .u32 (bits .xor .u32 (bits .and .u32 (a.toNat : Int) (b.toNat : Int)) (bits .and .u32 (a.toNat : Int) (c.toNat : Int))) (bits .and .u32 (b.toNat : Int) (c.toNat : Int)) = ((((a &&& b) ^^^ (a &&& c)) ^^^ (b &&& c)).toNat : Int) := by rw [ban, ban, ban, bx, bx]

set_option maxRecDepth 100000 in
set_option maxHeartbeats 2000000 in
theorem mix_is {w : World} {B O c : Nat} {xs : Bs} {s : St} {ks ws : List UInt32} (hkl : ks.length = 64) (hsw : sched xs = ws) (hn : xs.length = 64) (hc : 64 ≤ c) (hc2 : c ≤ 9223372036854775807) (h : ∀ k (hk : k < xs.length), w.cell? ⟨B, O + k, none⟩ = some (.int .u8 (xs[k].toNat : Int))) :
    Calls Tryz.prog 85 #[.agg (stC s), .slice (some ⟨B, O, none⟩) 64 c, .agg (wArr ks)] w fun e w' => e = .returned (.agg (stC (addS s (rnds s ks ws)))) ∧ Below w.heap.size w w' := by
  obtain ⟨KA, hKA⟩ : ∃ KA, wArr ks = KA := ⟨_, rfl⟩
  obtain ⟨WA, hWA⟩ : ∃ WA, wArr ws = WA := ⟨_, rfl⟩
  rw [hKA]
  have hsl : ws.length = 64 := by rw [← hsw]; unfold sched; rw [growW_length, words_length, hn]
  have HKA := hide hKA
  have HWA := hide hWA
  have HSL := hide hsl
  have HKL := hide hkl
  have hks : KA.size = 64 := by rw [← hKA]; exact wArr_size (by rw [hkl]; exact Nat.le_refl _)
  have hws : WA.size = 64 := by rw [← hWA]; exact wArr_size (by rw [hsl]; exact Nat.le_refl _)
  obtain ⟨W0, hW0⟩ : ∃ W0, ((w.alloc (.cells (stC s) 121)).alloc (.cells KA 123)).alloc (.cells zero8 121) = W0 := ⟨_, rfl⟩
  have b0 : Below w.heap.size w W0 := by rw [← hW0]; exact (((Below.refl _ _).alloc (Nat.le_refl _) _).alloc (by simp) _).alloc (by simp; omega) _
  have s0 : W0.heap.size = w.heap.size + 3 := by rw [← hW0]; simp
  have r0 : Blk W0 w.heap.size (stC s) 121 := by rw [← hW0]; exact ((Blk.new w _ _).alloc _).alloc _
  have r1 : Blk W0 (w.heap.size + 1) KA 123 := by
    rw [← hW0]
    have := Blk.new (w.alloc (.cells (stC s) 121)) KA 123
    rw [show (w.alloc (.cells (stC s) 121)).heap.size = w.heap.size + 1 by simp] at this
    exact this.alloc _
  have r2 : Blk W0 (w.heap.size + 1 + 1) zero8 121 := by
    rw [← hW0]
    have := Blk.new ((w.alloc (.cells (stC s) 121)).alloc (.cells KA 123)) zero8 121
    rw [show ((w.alloc (.cells (stC s) 121)).alloc (.cells KA 123)).heap.size = w.heap.size + 1 + 1 by simp] at this
    exact this
  have HS := hide (sch_any hn hc hc2 (fun k hk => (b0.cell (lt_of_cell (h k hk))).trans (h k hk)))
  rw [hsw] at HS
  have hwf : (ws.map (fun x => Value.int .u32 (x.toNat : Int))).toArray = WA := by rw [← hWA, wArr_full hsl]; rfl
  rw [hwf] at HS
  have hinf : (Tryz.prog.info? 123).map (·.size) = some WA.size := by rw [hws]; kernel_rfl
  have hone : WA.all (·.oneCell') = true := by
    rw [← hwf]
    simp [Value.oneCell']
  have HF : Hid (∀ w1, Below W0.heap.size W0 w1 → MxR w ((w1.alloc (.cells zero64 123)).setRow w1.heap.size WA) w1.heap.size (stC s) KA WA) := by
    intro w1 hb
    have hl := hb.size
    rw [s0] at hl
    have al : ∀ {b : Nat} {cs : Array Value} {t : TypeId}, Blk W0 b cs t → Blk ((w1.alloc (.cells zero64 123)).setRow w1.heap.size WA) b cs t := fun {b cs t} hb0 => by
      have e := hb0.lt
      rw [s0] at e
      exact (setRow_other _ _ _ _ (by omega)).trans ((hb0.low hb).alloc _)
    exact ⟨low_setRow ((low_trans b0 hb).alloc (by omega) _) (by omega) _, al r0, al r1, al r2, setRow_heap _ _ _ _ _ _ (Blk.new w1 zero64 123), by omega⟩
  have HW0 := hide hW0
  clear hKA hWA hsl hkl hsw hW0 b0 s0 r0 r1 r2 hn h hwf
  go_enter Tryz.func85, Tryz.ntmps85
  go_wp2_with (go_at_call 142; fail)
  rw [unhide HW0]
  refine (unhide HS).mono ?_
  rintro e w1 ⟨rfl, b1⟩
  have hm := unhide HF w1 b1
  obtain ⟨W1, hW1⟩ : ∃ W1, (w1.alloc (.cells zero64 123)).setRow w1.heap.size WA = W1 := ⟨_, rfl⟩
  rw [hW1] at hm
  have hnew : (w1.alloc (.cells zero64 123)).heap[w1.heap.size]? = some (.cells zero64 123 (0, 0)) := Blk.new w1 zero64 123
  have HM := hide hm
  clear b1 HF HS hm
  have HW1 := hide hW1
  clear hW1
  go_wp2_with (refine wpList_store_row rfl 123 _ _ rfl w1.heap.size WA rfl rfl 123 zero64 hnew hinf (by rw [hws]; rfl) hone ?_; rw [unhide HW1])
  clear hnew hinf hone HW1
  have p0 : W1.cell? ⟨w.heap.size, 0, none⟩ = some (.int .u32 (s.a.toNat : Int)) := (unhide HM).st.cell 0
  have p1 : W1.cell? ⟨w.heap.size, 1, none⟩ = some (.int .u32 (s.b.toNat : Int)) := (unhide HM).st.cell 1
  have p2 : W1.cell? ⟨w.heap.size, 2, none⟩ = some (.int .u32 (s.c.toNat : Int)) := (unhide HM).st.cell 2
  have p3 : W1.cell? ⟨w.heap.size, 3, none⟩ = some (.int .u32 (s.d.toNat : Int)) := (unhide HM).st.cell 3
  have p4 : W1.cell? ⟨w.heap.size, 4, none⟩ = some (.int .u32 (s.e.toNat : Int)) := (unhide HM).st.cell 4
  have p5 : W1.cell? ⟨w.heap.size, 5, none⟩ = some (.int .u32 (s.f.toNat : Int)) := (unhide HM).st.cell 5
  have p6 : W1.cell? ⟨w.heap.size, 6, none⟩ = some (.int .u32 (s.g.toNat : Int)) := (unhide HM).st.cell 6
  have p7 : W1.cell? ⟨w.heap.size, 7, none⟩ = some (.int .u32 (s.h.toNat : Int)) := (unhide HM).st.cell 7
  go_quiet (fail)
  clear p0 p1 p2 p3 p4 p5 p6 p7
  go_wp2
  go_loopw [8, 9, 10, 11, 12, 13, 14, 15, 16, 17, 18, 19, 20, 21, 42] (fun v8 v9 v10 v11 v12 v13 v14 v15 _ _ _ _ _ _ v42 wr => ∃ (i n : Nat) (t : St), i ≤ 64 ∧ v42 = .int .i64 i ∧ v8 = .int .u32 (t.a.toNat : Int) ∧ v9 = .int .u32 (t.b.toNat : Int) ∧ v10 = .int .u32 (t.c.toNat : Int) ∧ v11 = .int .u32 (t.d.toNat : Int) ∧ v12 = .int .u32 (t.e.toNat : Int) ∧ v13 = .int .u32 (t.f.toNat : Int) ∧ v14 = .int .u32 (t.g.toNat : Int) ∧ v15 = .int .u32 (t.h.toNat : Int) ∧ rnds t (ks.drop i) (ws.drop i) = rnds s ks ws ∧ wr = W1.drewN n) (fun _ _ _ _ _ _ _ _ _ _ _ _ _ _ v42 _ => 64 - (intOf v42).toNat)
  case atStart => exact ⟨0, _, s, Nat.zero_le _, rfl, rfl, rfl, rfl, rfl, rfl, rfl, rfl, rfl, rfl, rfl⟩
  case round =>
    rename World => wr
    obtain ⟨i, n, t, hi, rfl, rfl, rfl, rfl, rfl, rfl, rfl, rfl, rfl, hrn, hwr⟩ := hrel
    have HRN := hide hrn
    have HWR := hide hwr
    have hmr : MxR w wr w1.heap.size (stC s) KA WA := by rw [hwr]; exact (unhide HM).drewN n
    have HMR := hide hmr
    by_cases hlt : i < 64
    · have hik : i < ks.length := by rw [unhide HKL]; exact hlt
      have hiw : i < ws.length := by rw [unhide HSL]; exact hlt
      have q1 : wr.cell? ⟨w.heap.size + 1, i, none⟩ = some (.int .u32 (ks[i].toNat : Int)) := by rw [hmr.kk.cell, ← unhide HKA]; exact wArr_get hik
      have q2 : wr.cell? ⟨w1.heap.size, i, none⟩ = some (.int .u32 (ws[i].toNat : Int)) := by rw [hmr.ww.cell, ← unhide HWA]; exact wArr_get hiw
      have HN : Hid (rnds t (ks.drop i) (ws.drop i) = rnds (rnd t ks[i] ws[i]) (ks.drop (i + 1)) (ws.drop (i + 1))) := hide (by rw [List.drop_eq_getElem_cons hik, List.drop_eq_getElem_cons hiw, rnds_cons])
      obtain ⟨k, hk⟩ : ∃ k, ks[i] = k := ⟨_, rfl⟩
      obtain ⟨x, hx⟩ : ∃ x, ws[i] = x := ⟨_, rfl⟩
      rw [hk, hx] at HN
      rw [hk] at q1
      rw [hx] at q2
      obtain ⟨a, b, cc, d, e, f, g, hh⟩ := t
      have z1 := te_eq e
      have z2 := ch_eq e f g
      have z3 := ta_eq a
      have z4 := ma_eq a b cc
      obtain ⟨te, hte⟩ : ∃ te, (rotr e 6 ^^^ rotr e 11) ^^^ rotr e 25 = te := ⟨_, rfl⟩
      obtain ⟨ch, hch⟩ : ∃ ch, (e &&& f) ^^^ (~~~ e &&& g) = ch := ⟨_, rfl⟩
      obtain ⟨ta, hta⟩ : ∃ ta, (rotr a 2 ^^^ rotr a 13) ^^^ rotr a 22 = ta := ⟨_, rfl⟩
      obtain ⟨ma, hma⟩ : ∃ ma, ((a &&& b) ^^^ (a &&& cc)) ^^^ (b &&& cc) = ma := ⟨_, rfl⟩
      have HRD : Hid (rnd ⟨a, b, cc, d, e, f, g, hh⟩ k x = ⟨(((((hh + te) + ch) + k) + x) + ta) + ma, a, b, cc, d + ((((hh + te) + ch) + k) + x), e, f, g⟩) := hide (by rw [← hte, ← hch, ← hta, ← hma]; rfl)
      rw [hte] at z1
      rw [hch] at z2
      rw [hta] at z3
      rw [hma] at z4
      have i64 : (i : Int) < 64 := by omega
      clear hik hiw hk hx hte hch hta hma hmr hrn hwr
      simp only
      go_wp2_with (go_at_call 143; fail)
      refine (rot6 e _).mono ?_
      rintro _ w9 ⟨rfl, hw⟩
      rw [hw]; clear hw w9
      go_wp2_with (go_at_call 143; fail)
      refine (rot11 e _).mono ?_
      rintro _ w9 ⟨rfl, hw⟩
      rw [hw]; clear hw w9
      go_wp2_with (go_at_call 143; fail)
      refine (rot25 e _).mono ?_
      rintro _ w9 ⟨rfl, hw⟩
      rw [hw]; clear hw w9
      go_wp2
      go_quiet (fail)
      go_wp2_with (go_at_call 143; fail)
      refine (rot2 a _).mono ?_
      rintro _ w9 ⟨rfl, hw⟩
      rw [hw]; clear hw w9
      go_wp2_with (go_at_call 143; fail)
      refine (rot13 a _).mono ?_
      rintro _ w9 ⟨rfl, hw⟩
      rw [hw]; clear hw w9
      go_wp2_with (go_at_call 143; fail)
      refine (rot22 a _).mono ?_
      rintro _ w9 ⟨rfl, hw⟩
      rw [hw]; clear hw w9
      go_wp2
      go_roundw
      case rel => exact ⟨i + 1, n + nq, rnd ⟨a, b, cc, d, e, f, g, hh⟩ k x, hlt, by simp, by rw [unhide HRD, sum7], by rw [unhide HRD], by rw [unhide HRD], by rw [unhide HRD], by rw [unhide HRD, sum6], by rw [unhide HRD], by rw [unhide HRD], by rw [unhide HRD], by rw [← unhide HN]; exact unhide HRN, by rw [unhide HWR, World.drewN_drewN]⟩
      case measure => simp [intOf]; omega
    · have hi64 : i = 64 := by omega
      subst hi64
      have hT : t = rnds s ks ws := by
        rw [← hrn, List.drop_of_length_le (by rw [unhide HKL]; exact Nat.le_refl _), List.drop_of_length_le (by rw [unhide HSL]; exact Nat.le_refl _)]
        rfl
      have HT := hide hT
      obtain ⟨a, b, cc, d, e, f, g, hh⟩ := t
      obtain ⟨a', b', c', d', e', f', g', h'⟩ := s
      rw [show ((64 : Nat) : Int) = (64 : Int) from rfl]
      clear hrn hwr hT HRN HWR hmr hlt hi
      simp only
      go_wp2
      go_loopw [22, 23, 117] (fun _ _ v117 wq => ∃ j : Nat, j ≤ 8 ∧ v117 = .int .i64 j ∧ MxR w wq w1.heap.size (stC (mixS ⟨a', b', c', d', e', f', g', h'⟩ ⟨a, b, cc, d, e, f, g, hh⟩ j)) KA WA) (fun _ _ v117 _ => 8 - (intOf v117).toNat)
      case atStart => exact ⟨0, Nat.zero_le _, rfl, unhide HMR⟩
      case round =>
        rename World => wq
        clear HMR
        obtain ⟨j, hj, rfl, hm⟩ := hrel
        have HQ := hide hm
        by_cases hlt : j < 8
        · have hj8 : j = 0 ∨ j = 1 ∨ j = 2 ∨ j = 3 ∨ j = 4 ∨ j = 5 ∨ j = 6 ∨ j = 7 := by omega
          rcases hj8 with rfl | rfl | rfl | rfl | rfl | rfl | rfl | rfl
          · have c0 : wq.cell? ⟨w.heap.size, 0, none⟩ = some (.int .u32 (a'.toNat : Int)) := hm.st.cell 0
            have f0 := hm.st.free 0
            have HP : Hid (MxR w (wq.setCell ⟨w.heap.size, 0, none⟩ (.int .u32 (((a'.toNat : Int) + (a.toNat : Int)) % 4294967296))) w1.heap.size (stC (mixS ⟨a', b', c', d', e', f', g', h'⟩ ⟨a, b, cc, d, e, f, g, hh⟩ 1)) KA WA) := hide (by rw [madd]; exact hm.put 0 _)
            rw [show ((0 : Nat) : Int) = (0 : Int) from rfl]
            clear hm HQ hj hlt
            go_wp2
            rename_i hK
            refine hK _ _ ?_
            clear hK
            simp only [size39, Nat.mul_one, show Int.toNat 0 = 0 from rfl, List.getElem_toArray, List.getElem_cons_zero]
            go_wp2
            go_roundw
            case rel => exact ⟨1, by omega, rfl, unhide HP⟩
            case measure => simp [intOf]
          · have c0 : wq.cell? ⟨w.heap.size, 1, none⟩ = some (.int .u32 (b'.toNat : Int)) := hm.st.cell 1
            have f0 := hm.st.free 1
            have HP : Hid (MxR w (wq.setCell ⟨w.heap.size, 1, none⟩ (.int .u32 (((b'.toNat : Int) + (b.toNat : Int)) % 4294967296))) w1.heap.size (stC (mixS ⟨a', b', c', d', e', f', g', h'⟩ ⟨a, b, cc, d, e, f, g, hh⟩ 2)) KA WA) := hide (by rw [madd]; exact hm.put 1 _)
            rw [show ((1 : Nat) : Int) = (1 : Int) from rfl]
            clear hm HQ hj hlt
            go_wp2
            rename_i hK
            refine hK _ _ ?_
            clear hK
            simp only [size39, Nat.mul_one, show Int.toNat 1 = 1 from rfl, List.getElem_toArray, List.getElem_cons_zero, List.getElem_cons_succ]
            go_wp2
            go_roundw
            case rel => exact ⟨2, by omega, rfl, unhide HP⟩
            case measure => simp [intOf]
          · have c0 : wq.cell? ⟨w.heap.size, 2, none⟩ = some (.int .u32 (c'.toNat : Int)) := hm.st.cell 2
            have f0 := hm.st.free 2
            have HP : Hid (MxR w (wq.setCell ⟨w.heap.size, 2, none⟩ (.int .u32 (((c'.toNat : Int) + (cc.toNat : Int)) % 4294967296))) w1.heap.size (stC (mixS ⟨a', b', c', d', e', f', g', h'⟩ ⟨a, b, cc, d, e, f, g, hh⟩ 3)) KA WA) := hide (by rw [madd]; exact hm.put 2 _)
            rw [show ((2 : Nat) : Int) = (2 : Int) from rfl]
            clear hm HQ hj hlt
            go_wp2
            rename_i hK
            refine hK _ _ ?_
            clear hK
            simp only [size39, Nat.mul_one, show Int.toNat 2 = 2 from rfl, List.getElem_toArray, List.getElem_cons_zero, List.getElem_cons_succ]
            go_wp2
            go_roundw
            case rel => exact ⟨3, by omega, rfl, unhide HP⟩
            case measure => simp [intOf]
          · have c0 : wq.cell? ⟨w.heap.size, 3, none⟩ = some (.int .u32 (d'.toNat : Int)) := hm.st.cell 3
            have f0 := hm.st.free 3
            have HP : Hid (MxR w (wq.setCell ⟨w.heap.size, 3, none⟩ (.int .u32 (((d'.toNat : Int) + (d.toNat : Int)) % 4294967296))) w1.heap.size (stC (mixS ⟨a', b', c', d', e', f', g', h'⟩ ⟨a, b, cc, d, e, f, g, hh⟩ 4)) KA WA) := hide (by rw [madd]; exact hm.put 3 _)
            rw [show ((3 : Nat) : Int) = (3 : Int) from rfl]
            clear hm HQ hj hlt
            go_wp2
            rename_i hK
            refine hK _ _ ?_
            clear hK
            simp only [size39, Nat.mul_one, show Int.toNat 3 = 3 from rfl, List.getElem_toArray, List.getElem_cons_zero, List.getElem_cons_succ]
            go_wp2
            go_roundw
            case rel => exact ⟨4, by omega, rfl, unhide HP⟩
            case measure => simp [intOf]
          · have c0 : wq.cell? ⟨w.heap.size, 4, none⟩ = some (.int .u32 (e'.toNat : Int)) := hm.st.cell 4
            have f0 := hm.st.free 4
            have HP : Hid (MxR w (wq.setCell ⟨w.heap.size, 4, none⟩ (.int .u32 (((e'.toNat : Int) + (e.toNat : Int)) % 4294967296))) w1.heap.size (stC (mixS ⟨a', b', c', d', e', f', g', h'⟩ ⟨a, b, cc, d, e, f, g, hh⟩ 5)) KA WA) := hide (by rw [madd]; exact hm.put 4 _)
            rw [show ((4 : Nat) : Int) = (4 : Int) from rfl]
            clear hm HQ hj hlt
            go_wp2
            rename_i hK
            refine hK _ _ ?_
            clear hK
            simp only [size39, Nat.mul_one, show Int.toNat 4 = 4 from rfl, List.getElem_toArray, List.getElem_cons_zero, List.getElem_cons_succ]
            go_wp2
            go_roundw
            case rel => exact ⟨5, by omega, rfl, unhide HP⟩
            case measure => simp [intOf]
          · have c0 : wq.cell? ⟨w.heap.size, 5, none⟩ = some (.int .u32 (f'.toNat : Int)) := hm.st.cell 5
            have f0 := hm.st.free 5
            have HP : Hid (MxR w (wq.setCell ⟨w.heap.size, 5, none⟩ (.int .u32 (((f'.toNat : Int) + (f.toNat : Int)) % 4294967296))) w1.heap.size (stC (mixS ⟨a', b', c', d', e', f', g', h'⟩ ⟨a, b, cc, d, e, f, g, hh⟩ 6)) KA WA) := hide (by rw [madd]; exact hm.put 5 _)
            rw [show ((5 : Nat) : Int) = (5 : Int) from rfl]
            clear hm HQ hj hlt
            go_wp2
            rename_i hK
            refine hK _ _ ?_
            clear hK
            simp only [size39, Nat.mul_one, show Int.toNat 5 = 5 from rfl, List.getElem_toArray, List.getElem_cons_zero, List.getElem_cons_succ]
            go_wp2
            go_roundw
            case rel => exact ⟨6, by omega, rfl, unhide HP⟩
            case measure => simp [intOf]
          · have c0 : wq.cell? ⟨w.heap.size, 6, none⟩ = some (.int .u32 (g'.toNat : Int)) := hm.st.cell 6
            have f0 := hm.st.free 6
            have HP : Hid (MxR w (wq.setCell ⟨w.heap.size, 6, none⟩ (.int .u32 (((g'.toNat : Int) + (g.toNat : Int)) % 4294967296))) w1.heap.size (stC (mixS ⟨a', b', c', d', e', f', g', h'⟩ ⟨a, b, cc, d, e, f, g, hh⟩ 7)) KA WA) := hide (by rw [madd]; exact hm.put 6 _)
            rw [show ((6 : Nat) : Int) = (6 : Int) from rfl]
            clear hm HQ hj hlt
            go_wp2
            rename_i hK
            refine hK _ _ ?_
            clear hK
            simp only [size39, Nat.mul_one, show Int.toNat 6 = 6 from rfl, List.getElem_toArray, List.getElem_cons_zero, List.getElem_cons_succ]
            go_wp2
            go_roundw
            case rel => exact ⟨7, by omega, rfl, unhide HP⟩
            case measure => simp [intOf]
          · have c0 : wq.cell? ⟨w.heap.size, 7, none⟩ = some (.int .u32 (h'.toNat : Int)) := hm.st.cell 7
            have f0 := hm.st.free 7
            have HP : Hid (MxR w (wq.setCell ⟨w.heap.size, 7, none⟩ (.int .u32 (((h'.toNat : Int) + (hh.toNat : Int)) % 4294967296))) w1.heap.size (stC (mixS ⟨a', b', c', d', e', f', g', h'⟩ ⟨a, b, cc, d, e, f, g, hh⟩ 8)) KA WA) := hide (by rw [madd]; exact hm.put 7 _)
            rw [show ((7 : Nat) : Int) = (7 : Int) from rfl]
            clear hm HQ hj hlt
            go_wp2
            rename_i hK
            refine hK _ _ ?_
            clear hK
            simp only [size39, Nat.mul_one, show Int.toNat 7 = 7 from rfl, List.getElem_toArray, List.getElem_cons_zero, List.getElem_cons_succ]
            go_wp2
            go_roundw
            case rel => exact ⟨8, by omega, rfl, unhide HP⟩
            case measure => simp [intOf]
        · have hj8 : j = 8 := by omega
          subst hj8
          rw [show ((8 : Nat) : Int) = (8 : Int) from rfl]
          obtain ⟨RA, hRA⟩ : ∃ RA, stC (mixS ⟨a', b', c', d', e', f', g', h'⟩ ⟨a, b, cc, d, e, f, g, hh⟩ 8) = RA := ⟨_, rfl⟩
          have hst : wq.heap[w.heap.size]? = some (.cells RA 121 (0, 0)) := by rw [← hRA]; exact hm.st
          have hre : wq.heap[w.heap.size + 1 + 1]? = some (.cells zero8 121 (0, 0)) := hm.res
          have hinf2 : (Tryz.prog.info? 121).map (·.size) = some RA.size := by rw [← hRA]; kernel_rfl
          have hone2 : RA.all (·.oneCell') = true := by rw [← hRA]; simp [Value.oneCell']
          have hsz2 : zero8.size = RA.size := by rw [← hRA]; rfl
          have HZ : Hid (RA = stC (addS ⟨a', b', c', d', e', f', g', h'⟩ (rnds ⟨a', b', c', d', e', f', g', h'⟩ ks ws)) ∧ Below w.heap.size w (wq.setRow (w.heap.size + 1 + 1) RA) ∧ (wq.setRow (w.heap.size + 1 + 1) RA).heap[w.heap.size + 1 + 1]? = some (.cells RA 121 (0, 0))) := hide ⟨by rw [← hRA, ← unhide HT]; rfl, low_setRow hm.low (by omega) _, setRow_heap _ _ _ _ _ _ hre⟩
          clear hm HQ hj hlt hRA HT
          go_wp2_with (first | (refine wpList_load_row rfl 121 _ rfl w.heap.size rfl 121 RA (0, 0) _ hst Tryz.underlying121 rfl hinf2 ?_) | (refine wpList_store_row rfl 121 _ _ rfl (w.heap.size + 1 + 1) RA rfl rfl 121 zero8 hre hinf2 hsz2 hone2 ?_))
          exact bodyPost_ret (v := .agg RA) (results_cell_row Tryz.results85 _ _ (w.heap.size + 1 + 1) 121 RA (0, 0) _ rfl (unhide HZ).2.2 Tryz.underlying121 rfl hinf2) rfl ⟨by rw [(unhide HZ).1], (unhide HZ).2.1⟩

theorem mix_any {w : World} {B O c : Nat} {xs : Bs} {s : St} (hn : xs.length = 64) (hc : 64 ≤ c) (hc2 : c ≤ 9223372036854775807) (h : ∀ k (hk : k < xs.length), w.cell? ⟨B, O + k, none⟩ = some (.int .u8 (xs[k].toNat : Int))) :
    Calls Tryz.prog 85 #[.agg (stC s), .slice (some ⟨B, O, none⟩) 64 c, .agg (wArr kL)] w fun e w' => e = .returned (.agg (stC (mix s xs))) ∧ Below w.heap.size w w' :=
  mix_is rfl rfl hn hc hc2 h

end Go.Proofs.YtkablmjkffdloaaGreatDoor

namespace Go.Proofs.YtkablmjkffdloaaGreatDoor
open Go.RowKit

theorem highF (n : Int) (w : World) : Calls Tryz.prog 87 #[.int .i64 n] w fun e w' => e = .returned (.func (.func 144) #[] #[.pointer (some ⟨w.heap.size, 0, none⟩)]) ∧ w' = w.alloc (.cells #[.int .i64 n] 3) := by
  go_enter Tryz.func87, Tryz.ntmps87
  go_wp2
  go_ret
  exact ⟨rfl, rfl⟩

theorem append_none {B : Nat} {w : World} {v : Value} {l : Bs} {c : Nat} (ho : OwnB B w v l) : (Builtin.append_ #[23, 23] 23 #[v, .slice none 0 c]).run Tryz.prog w = .ok v w := by
  obtain ⟨i0, hi, hz0, hz1, hz2⟩ := info_parts info5
  rcases ho.2 with ⟨rfl, h0⟩ | ⟨g, cap, cur, rfl, _, _, hnc, _⟩
  · simp [Builtin.append_, run_underlying Tryz.underlying23, sizeOf, typeInfo, hi, Builtin.lenOf, Builtin.firstCells]
  · simp [Builtin.append_, run_underlying Tryz.underlying23, sizeOf, typeInfo, hi, Builtin.lenOf, Builtin.firstCells, hnc, storeCells]

/-- append of bytes at a slice, wherever it lies. -/
theorem app_at {B : Nat} {w : World} {v : Value} {l r : Bs} {a : Option Addr} {m c : Nat} (hm : r.length = m) (hr : BAt w a r) (ho : OwnB B w v l) (hB : B ≤ w.heap.size) (hl : l.length + m ≤ 4294967296) :
    ∃ v' w', (Builtin.append_ #[23, 23] 23 #[v, .slice a m c]).run Tryz.prog w = .ok v' w' ∧ OwnB B w' v' (l ++ r) ∧ GrB w w' v v' := by
  cases a with
  | none =>
    have h0 : r = [] := by
      rcases hr.els with h | ⟨B, O, hb, _⟩
      · exact h
      · cases hb
    subst h0
    have : m = 0 := by simpa using hm.symm
    subst this
    exact ⟨v, w, append_none ho, by rw [List.append_nil]; exact ho, GrB.refl _ _⟩
  | some ad =>
    refine app_bytes ho hB hm (fun k hk => ?_) hl
    obtain ⟨B', O, ha, hc⟩ := hr.at hk
    cases ha
    have hadd : (⟨B', O, none⟩ : Addr).add k = ⟨B', O + k, none⟩ := by unfold Addr.add; split <;> simp_all
    rw [hadd]
    exact hc

def sliceLen : Value → Nat
  | .slice _ n _ => n
  | _ => 0

theorem low_grownN {w w' : World} (h : w.grownBy w' none) : Below w.heap.size w w' := ⟨h.os, h.tape, h.output, h.size, fun k hk => h.block k hk (by simp)⟩

set_option maxRecDepth 100000 in
set_option maxHeartbeats 2000000 in
theorem last_any {w : World} {a : Option Addr} {r : Bs} {m c n : Nat} (hm : r.length = m) (h64 : m < 64) (hr : BAt w a r) :
    Calls Tryz.prog 86 #[.slice a m c, .int .u64 ((n : Nat) : Int)] w fun e w' => ∃ v', e = .returned v' ∧ OwnB w.heap.size w' v' ((r ++ 0x80 :: List.replicate ((119 - m) % 64) 0) ++ be8 n) ∧ Below w.heap.size w w' := by
  obtain ⟨i0, hi, hz0, hz1, hz2⟩ := info_parts info5
  have HM := hide hm
  have HR := hide hr
  clear hm hr
  go_enter Tryz.func86, Tryz.ntmps86
  go_wp2_with (first
    | (at_make; refine wpList_make_own _ rfl _ _ 23 rfl w.heap.size 5 i0 (.int .u8 0) 1 Tryz.underlying23 hi hz0 hz1 _ _ _ 128 rfl rfl rfl (by rw [hz2]; omega) (by unfold maxLen; omega) (Nat.le_refl _) ?_; intro w1 hown hgrow; have hlow := low_grownN hgrow; obtain ⟨v2, w2, happ1, ho2, hg2⟩ := app_at (l := []) (c := c) (unhide HM) ((unhide HR).low hlow) hown hlow.size (by simp; omega); have HB : Hid (Below w.heap.size w w2) := hide (hlow.trans (hg2.low hlow.size (OwnB.base (l := []) hown))); have HS : Hid (w.heap.size ≤ w2.heap.size) := hide (Nat.le_trans hlow.size hg2.size); have HO := hide ho2; clear hown hgrow hlow hg2 ho2)
    | (at_builtin; refine Lib.wpList_append_run _ rfl _ _ _ _ rfl _ _ rfl rfl _ _ happ1 ?_; clear happ1; obtain ⟨W3, hW3⟩ : ∃ W3, w2.alloc (.cells #[.int .u8 128] 5) = W3 := ⟨_, rfl⟩; obtain ⟨v4, w4, happ2, ho4, hg4⟩ := app_byte (c := 0x80) (W1 := W3) (unhide HO) (unhide HS) (by rw [List.nil_append, unhide HM]; omega) hW3; have HB4 : Hid (Below w.heap.size w w4) := hide ((unhide HB).trans (hg4.low (unhide HS) (OwnB.base (unhide HO)))); have HS4 : Hid (w.heap.size ≤ w4.heap.size) := hide (Nat.le_trans (unhide HS) hg4.size); have HO4 := hide ho4; have HW3 := hide hW3; clear ho4 hg4 hW3)
    | (at_builtin; rw [unhide HW3]; refine Lib.wpList_append_run _ rfl _ _ _ _ rfl _ _ rfl rfl _ _ happ2 ?_; clear happ2))
  obtain ⟨z, hz⟩ : ∃ z, (119 - m) % 64 = z := ⟨_, rfl⟩
  rw [List.nil_append] at HO4
  have HZ := hide hz
  have hzm : m + 1 + z = 56 ∨ m + 1 + z = 120 := by omega
  have hz64 : z < 64 := by omega
  clear hi hz0 hz1 hz2 HO HS HB HR hz
  go_loopw [5] (fun v5 wr => ∃ k : Nat, k ≤ z ∧ OwnB w.heap.size wr v5 (r ++ 0x80 :: List.replicate k 0) ∧ Below w.heap.size w wr) (fun v5 _ => 200 - sliceLen v5)
  case atStart => exact ⟨0, Nat.zero_le _, unhide HO4, unhide HB4⟩
  case round =>
    rename World => wr
    clear HO4 HB4 HS4 HW3
    obtain ⟨k, hk, hrow, hlow⟩ := hrel
    have hlen : (r ++ 0x80 :: List.replicate k 0).length = m + 1 + k := by rw [List.length_append, List.length_cons, List.length_replicate, unhide HM]; omega
    obtain ⟨a5, c5, hv5, _, _, hc5⟩ := OwnB.at hrow
    rw [hlen] at hv5
    subst hv5
    have HO := hide hrow
    have HL := hide hlow
    by_cases hlt : k < z
    · have hne : ((m + 1 + k : Nat) : Int) % 64 ≠ 56 := by omega
      obtain ⟨W3, hW3⟩ : ∃ W3, wr.alloc (.cells #[.int .u8 0] 5) = W3 := ⟨_, rfl⟩
      obtain ⟨v4, w4, happ2, ho4, hg4⟩ := app_byte (c := 0) (W1 := W3) hrow hlow.size (by rw [hlen]; omega) hW3
      have HW3 := hide hW3
      have hcat : (r ++ 0x80 :: List.replicate k 0) ++ [0] = r ++ 0x80 :: List.replicate (k + 1) 0 := by rw [List.replicate_succ', List.append_assoc]; rfl
      rw [hcat] at ho4
      obtain ⟨a6, c6, hv6, _, _, _⟩ := OwnB.at ho4
      have hl6 : (r ++ 0x80 :: List.replicate (k + 1) 0).length = m + 1 + (k + 1) := by rw [← hcat, List.length_append, hlen]; rfl
      rw [hl6] at hv6
      subst hv6
      have HP : Hid (OwnB w.heap.size w4 _ (r ++ 0x80 :: List.replicate (k + 1) 0) ∧ Below w.heap.size w w4) := hide ⟨ho4, hlow.trans (hg4.low hlow.size (OwnB.base hrow))⟩
      clear hW3 hrow hlow ho4 hg4 hcat hl6
      go_wp2_with (at_builtin; rw [unhide HW3]; refine Lib.wpList_append_run _ rfl _ _ _ _ rfl _ _ rfl rfl _ _ happ2 ?_)
      go_roundw
      case rel => exact ⟨k + 1, hlt, (unhide HP).1, (unhide HP).2⟩
      case measure => simp [sliceLen]; omega
    · have hkz : k = z := by omega
      subst hkz
      have heq : ((m + 1 + k : Nat) : Int) % 64 = 56 := by omega
      obtain ⟨W4, hW4⟩ : ∃ W4, wr.alloc (.cells #[.int .i64 8] 3) = W4 := ⟨_, rfl⟩
      have b4 : Below wr.heap.size wr W4 := by rw [← hW4]; exact (Below.refl _ _).alloc (Nat.le_refl _) _
      have k4 : Blk W4 wr.heap.size #[.int .i64 8] 3 := by rw [← hW4]; exact Blk.new _ _ _
      have H8 := hide (high8 (n := n) (OwnB.low hrow b4) (k4.cell 0) (Nat.le_trans hlow.size b4.size) (by rw [hlen]; omega))
      have HL4 := hide (hlow.trans (b4.mono hlow.size))
      have HB4 : Hid (w.heap.size ≤ W4.heap.size) := hide (Nat.le_trans hlow.size b4.size)
      have HBA := hide (OwnB.base hrow)
      have HW4 := hide hW4
      clear hrow hlow b4 k4 hW4
      go_wp2_with (go_at_call 87; fail)
      refine (highF 8 wr).mono ?_
      rintro e w9 ⟨rfl, hw⟩
      rw [hw, unhide HW4]; clear hw w9
      go_wp2_with (go_at_call 144; fail)
      refine (unhide H8).mono ?_
      rintro e w9 ⟨v9, rfl, o9, g9⟩
      have HD : Hid (OwnB w.heap.size w9 v9 ((r ++ 0x80 :: List.replicate k 0) ++ be8 n) ∧ Below w.heap.size w w9) := hide ⟨o9, (unhide HL4).trans (g9.low (unhide HB4) (unhide HBA))⟩
      clear o9 g9
      go_wp2
      go_ret
      rw [unhide HZ]
      exact ⟨_, rfl, (unhide HD).1, (unhide HD).2⟩

end Go.Proofs.YtkablmjkffdloaaGreatDoor

namespace Go.Proofs.YtkablmjkffdloaaGreatDoor
open Go.RowKit

abbrev lit8 : Array Value := #[.int .u32 1779033703, .int .u32 3144134277, .int .u32 1013904242, .int .u32 2773480762, .int .u32 1359893119, .int .u32 2600822924, .int .u32 528734635, .int .u32 1541459225]
abbrev lit64 : Array Value := #[.int .u32 1116352408, .int .u32 1899447441, .int .u32 3049323471, .int .u32 3921009573, .int .u32 961987163, .int .u32 1508970993, .int .u32 2453635748, .int .u32 2870763221, .int .u32 3624381080, .int .u32 310598401, .int .u32 607225278, .int .u32 1426881987, .int .u32 1925078388, .int .u32 2162078206, .int .u32 2614888103, .int .u32 3248222580, .int .u32 3835390401, .int .u32 4022224774, .int .u32 264347078, .int .u32 604807628, .int .u32 770255983, .int .u32 1249150122, .int .u32 1555081692, .int .u32 1996064986, .int .u32 2554220882, .int .u32 2821834349, .int .u32 2952996808, .int .u32 3210313671, .int .u32 3336571891, .int .u32 3584528711, .int .u32 113926993, .int .u32 338241895, .int .u32 666307205, .int .u32 773529912, .int .u32 1294757372, .int .u32 1396182291, .int .u32 1695183700, .int .u32 1986661051, .int .u32 2177026350, .int .u32 2456956037, .int .u32 2730485921, .int .u32 2820302411, .int .u32 3259730800, .int .u32 3345764771, .int .u32 3516065817, .int .u32 3600352804, .int .u32 4094571909, .int .u32 275423344, .int .u32 430227734, .int .u32 506948616, .int .u32 659060556, .int .u32 883997877, .int .u32 958139571, .int .u32 1322822218, .int .u32 1537002063, .int .u32 1747873779, .int .u32 1955562222, .int .u32 2024104815, .int .u32 2227730452, .int .u32 2361852424, .int .u32 2428436474, .int .u32 2756734187, .int .u32 3204031479, .int .u32 3329325298]

set_option maxRecDepth 100000 in
set_option maxHeartbeats 1000000 in
theorem st_any (w : World) : Calls Tryz.prog 83 #[] w fun e w' => e = .returned (.agg (stC st0)) ∧ Below w.heap.size w w' := by
  have hnew : (w.alloc (.cells zero8 121)).heap[w.heap.size]? = some (.cells zero8 121 (0, 0)) := Blk.new w zero8 121
  have hinf : (Tryz.prog.info? 121).map (·.size) = some lit8.size := by kernel_rfl
  have hone : lit8.all (·.oneCell') = true := by decide +kernel
  have hsz : zero8.size = lit8.size := by rfl
  have heq : lit8 = (stC st0) := by kernel_rfl
  have HZ : Hid (Below w.heap.size w ((w.alloc (.cells zero8 121)).setRow w.heap.size lit8) ∧ ((w.alloc (.cells zero8 121)).setRow w.heap.size lit8).heap[w.heap.size]? = some (.cells lit8 121 (0, 0))) := hide ⟨low_setRow ((Below.refl _ _).alloc (Nat.le_refl _) _) (Nat.le_refl _) _, setRow_heap _ _ _ _ _ _ hnew⟩
  have HE := hide heq
  clear heq
  go_enter Tryz.func83, Tryz.ntmps83
  go_wp2_with (refine wpList_store_row rfl 121 _ _ rfl w.heap.size lit8 rfl rfl 121 zero8 hnew hinf hsz hone ?_)
  exact bodyPost_ret (v := .agg lit8) (results_cell_row Tryz.results83 _ _ w.heap.size 121 lit8 (0, 0) _ rfl (unhide HZ).2 Tryz.underlying121 rfl hinf) rfl ⟨by rw [unhide HE], (unhide HZ).1⟩

set_option maxRecDepth 100000 in
set_option maxHeartbeats 1000000 in
theorem num_any (w : World) : Calls Tryz.prog 84 #[] w fun e w' => e = .returned (.agg (wArr kL)) ∧ Below w.heap.size w w' := by
  have hnew : (w.alloc (.cells zero64 123)).heap[w.heap.size]? = some (.cells zero64 123 (0, 0)) := Blk.new w zero64 123
  have hinf : (Tryz.prog.info? 123).map (·.size) = some lit64.size := by kernel_rfl
  have hone : lit64.all (·.oneCell') = true := by decide +kernel
  have hsz : zero64.size = lit64.size := by rfl
  have heq : lit64 = (wArr kL) := by kernel_rfl
  have HZ : Hid (Below w.heap.size w ((w.alloc (.cells zero64 123)).setRow w.heap.size lit64) ∧ ((w.alloc (.cells zero64 123)).setRow w.heap.size lit64).heap[w.heap.size]? = some (.cells lit64 123 (0, 0))) := hide ⟨low_setRow ((Below.refl _ _).alloc (Nat.le_refl _) _) (Nat.le_refl _) _, setRow_heap _ _ _ _ _ _ hnew⟩
  have HE := hide heq
  clear heq
  go_enter Tryz.func84, Tryz.ntmps84
  go_wp2_with (refine wpList_store_row rfl 123 _ _ rfl w.heap.size lit64 rfl rfl 123 zero64 hnew hinf hsz hone ?_)
  exact bodyPost_ret (v := .agg lit64) (results_cell_row Tryz.results84 _ _ w.heap.size 123 lit64 (0, 0) _ rfl (unhide HZ).2 Tryz.underlying123 rfl hinf) rfl ⟨by rw [unhide HE], (unhide HZ).1⟩


end Go.Proofs.YtkablmjkffdloaaGreatDoor
