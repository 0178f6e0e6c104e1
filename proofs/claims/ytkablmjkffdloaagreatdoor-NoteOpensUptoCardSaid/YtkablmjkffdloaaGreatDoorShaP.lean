/-
  SHA-256 over plain words.
-/
import Derived.Test.YtkablmjkffdloaaGreatDoorRot
namespace Go.Proofs.YtkablmjkffdloaaGreatDoor

/-- Four bytes as a word, the high one first. -/
def be32 (a b c d : UInt8) : UInt32 := (((a.toUInt32 <<< 24) ||| (b.toUInt32 <<< 16)) ||| (c.toUInt32 <<< 8)) ||| d.toUInt32
def sg0 (x : UInt32) : UInt32 := (rotr x 7 ^^^ rotr x 18) ^^^ (x >>> 3)
def sg1 (x : UInt32) : UInt32 := (rotr x 17 ^^^ rotr x 19) ^^^ (x >>> 10)
/-- The next word of a schedule. -/
def nextW (l : List UInt32) : UInt32 := ((l.getD (l.length - 16) 0 + sg0 (l.getD (l.length - 15) 0)) + l.getD (l.length - 7) 0) + sg1 (l.getD (l.length - 2) 0)
def growW : Nat → List UInt32 → List UInt32
  | 0, l => l
  | n + 1, l => growW n (l ++ [nextW l])
def words : Bs → List UInt32
  | a :: b :: c :: d :: r => be32 a b c d :: words r
  | _ => []
def sched (b : Bs) : List UInt32 := growW 48 (words b)

theorem growW_length : ∀ (n : Nat) (l : List UInt32), (growW n l).length = l.length + n
  | 0, l => rfl
  | n + 1, l => by
    unfold growW
    rw [growW_length n]
    simp
    omega
theorem words_length : ∀ (b : Bs), (words b).length = b.length / 4
  | [] => by simp [words]
  | [_] => by simp [words]
  | [_, _] => by simp [words]
  | [_, _, _] => by simp [words]
  | a :: b :: c :: d :: r => by
    simp only [words, List.length_cons, words_length r]
    omega
theorem words_at : ∀ (b : Bs) (i : Nat) (h : 4 * i + 3 < b.length), (words b)[i]? = some (be32 b[4 * i] b[4 * i + 1] b[4 * i + 2] b[4 * i + 3])
  | [], i, h => by simp at h
  | [_], i, h => by exfalso; simp at h; try omega
  | [_, _], i, h => by exfalso; simp at h; try omega
  | [_, _, _], i, h => by exfalso; simp at h; try omega
  | a :: b :: c :: d :: r, 0, h => rfl
  | a :: b :: c :: d :: r, i + 1, h => by
    have ih := words_at r i (by simp at h; omega)
    have e : 4 * (i + 1) = 4 * i + 1 + 1 + 1 + 1 := by omega
    simp only [words, List.getElem?_cons_succ, ih, e]
    rfl

/-- The state. -/
structure St where
  a : UInt32
  b : UInt32
  c : UInt32
  d : UInt32
  e : UInt32
  f : UInt32
  g : UInt32
  h : UInt32

/-- A round. -/
def rnd (s : St) (k w : UInt32) : St :=
  let te := (rotr s.e 6 ^^^ rotr s.e 11) ^^^ rotr s.e 25
  let ch := (s.e &&& s.f) ^^^ (~~~ s.e &&& s.g)
  let one := (((s.h + te) + ch) + k) + w
  let ta := (rotr s.a 2 ^^^ rotr s.a 13) ^^^ rotr s.a 22
  let ma := ((s.a &&& s.b) ^^^ (s.a &&& s.c)) ^^^ (s.b &&& s.c)
  ⟨(one + ta) + ma, s.a, s.b, s.c, s.d + one, s.e, s.f, s.g⟩
/-- All rounds. -/
def rnds (s : St) : List UInt32 → List UInt32 → St
  | k :: ks, w :: ws => rnds (rnd s k w) ks ws
  | _, _ => s
def addS (s t : St) : St := ⟨s.a + t.a, s.b + t.b, s.c + t.c, s.d + t.d, s.e + t.e, s.f + t.f, s.g + t.g, s.h + t.h⟩
def kL : List UInt32 := [0x428a2f98, 0x71374491, 0xb5c0fbcf, 0xe9b5dba5, 0x3956c25b, 0x59f111f1, 0x923f82a4, 0xab1c5ed5,
  0xd807aa98, 0x12835b01, 0x243185be, 0x550c7dc3, 0x72be5d74, 0x80deb1fe, 0x9bdc06a7, 0xc19bf174,
  0xe49b69c1, 0xefbe4786, 0x0fc19dc6, 0x240ca1cc, 0x2de92c6f, 0x4a7484aa, 0x5cb0a9dc, 0x76f988da,
  0x983e5152, 0xa831c66d, 0xb00327c8, 0xbf597fc7, 0xc6e00bf3, 0xd5a79147, 0x06ca6351, 0x14292967,
  0x27b70a85, 0x2e1b2138, 0x4d2c6dfc, 0x53380d13, 0x650a7354, 0x766a0abb, 0x81c2c92e, 0x92722c85,
  0xa2bfe8a1, 0xa81a664b, 0xc24b8b70, 0xc76c51a3, 0xd192e819, 0xd6990624, 0xf40e3585, 0x106aa070,
  0x19a4c116, 0x1e376c08, 0x2748774c, 0x34b0bcb5, 0x391c0cb3, 0x4ed8aa4a, 0x5b9cca4f, 0x682e6ff3,
  0x748f82ee, 0x78a5636f, 0x84c87814, 0x8cc70208, 0x90befffa, 0xa4506ceb, 0xbef9a3f7, 0xc67178f2]
/-- The state behind a block. -/
def mix (s : St) (b : Bs) : St := addS s (rnds s kL (sched b))
def st0 : St := ⟨0x6a09e667, 0xbb67ae85, 0x3c6ef372, 0xa54ff53a, 0x510e527f, 0x9b05688c, 0x1f83d9ab, 0x5be0cd19⟩
/-- The blocks of a text. -/
def mixAll : Nat → St → Bs → St
  | 0, s, _ => s
  | n + 1, s, b => mixAll n (mix s (b.take 64)) (b.drop 64)
def be4 (x : UInt32) : Bs := [(x >>> 24).toUInt8, (x >>> 16).toUInt8, (x >>> 8).toUInt8, x.toUInt8]
def stL (s : St) : List UInt32 := [s.a, s.b, s.c, s.d, s.e, s.f, s.g, s.h]
def be8 (n : Nat) : Bs := [UInt8.ofNat (n >>> 56), UInt8.ofNat (n >>> 48), UInt8.ofNat (n >>> 40), UInt8.ofNat (n >>> 32), UInt8.ofNat (n >>> 24), UInt8.ofNat (n >>> 16), UInt8.ofNat (n >>> 8), UInt8.ofNat n]
/-- What is laid behind a text. -/
def padL (r : Bs) (n : Nat) : Bs := (r ++ 0x80 :: List.replicate ((119 - r.length) % 64) 0) ++ be8 (n * 8)
def shaL (b : Bs) : Bs :=
  let q := b.length / 64
  let e := padL (b.drop (q * 64)) b.length
  (stL (mixAll (e.length / 64) (mixAll q st0 b) e)).flatMap be4

end Go.Proofs.YtkablmjkffdloaaGreatDoor
