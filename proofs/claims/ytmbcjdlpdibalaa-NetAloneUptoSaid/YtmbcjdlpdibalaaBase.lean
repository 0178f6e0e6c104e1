/-
  Slices of bytes that came in; bytes.Clone; the laws of the keys.
-/
import Derived.Shelf.LaysM
import Derived.Ground.SlbCloneProg
import Derived.Shelf.Bytes.SlClone
import Derived.Test.YtmbcjdlpdibalaaLocks
import Derived.Conc.MuLone
import Derived.WalkKit
import Derived.WalkLawsBesides
import Derived.WalkSpells
import Derived.Maps.OwnSet
import Derived.Maps.OwnOps
import Derived.Deep.QuietTactic
import Derived.BigQuiet
namespace Go.Proofs
open Go.Shelf
def Try.laysSlK4_ren : Go.Shelf.Ren := ⟨fun | 4 => 39 | n => n, fun | 22 => 32 | 4 => 4 | 5 => 5 | n => n, fun | n => n⟩
theorem Try.laysSlK4 : Go.Proofs.SlLaysK.n4 Try.prog Try.laysSlK4_ren := {
  mixed := by kernel_rfl
  f4 := Try.func39.trans (congrArg some (by kernel_rfl))
  t4 := Try.underlying4
  a4 := Try.isAgg4
  z4 := Try.sizeOf4
  v4 := Try.zeroValue4
  t22 := Try.underlying32
  a22 := Try.isAgg32
  z22 := Try.sizeOf32
  v22 := Try.zeroValue32
  t5 := Try.underlying5
  i5 := by kernel_rfl }
open Go.RowKit Go.Lib in
theorem Try.bytes_Clone_at (a : Addr) (n c : Nat) (xs : List Int) (w : World) (hx : xs.length = n) (hbig : n ≤ 140737488355328) (hc : ∀ i, i < n → w.cell? (a.add i) = some (.int .u8 (xs.getD i 0))) :
    Calls Try.prog 39 #[.slice (some a) n c] w fun e w' => ∃ v', e = .returned v' ∧ w'.ownsRow w.heap.size 5 1 v' n (xs.map (Value.int .u8)) ∧ v' ≠ .slice none 0 0 ∧ Below w.heap.size w w' := Any.bytes_Clone_at Try.laysSlK4 a n c xs w hx hbig hc
open Go.RowKit Go.Lib in
theorem Try.bytes_Clone_nil (n c : Nat) (w : World) :
    Calls Try.prog 39 #[.slice none n c] w fun e w' => e = .returned (.slice none 0 0) ∧ w' = w := Any.bytes_Clone_nil Try.laysSlK4 n c w
end Go.Proofs
namespace Go.Proofs.Ytmbcjdlpdibalaa
open Go.RowKit Go.WideMaps Go.Maps

theorem hide {p : Prop} (h : p) : Hid p := h
theorem unhide {p : Prop} (h : Hid p) : p := h
abbrev i64 (n : Int) : DataW Unit := .lit (.int .i64 n)
theorem lawS : Keyed Try.prog 9 := string_keyed Try.underlying9
theorem lawI : Keyed Try.prog 3 := int_keyed Try.underlying3

theorem lt_of_cell {w : World} {a : Addr} {v : Value} (h : w.cell? a = some v) : a.block < w.heap.size := by
  unfold World.cell? at h
  split at h
  · rename_i e; exact (Array.getElem?_eq_some_iff.1 e).1
  · cases h

theorem row_form {w : World} {base e size n : Nat} {v : Value} {xs : List Value} (h : w.ownsRow base e size v n xs) : ∃ a cap, v = .slice a n cap := by
  rcases h.2 with ⟨rfl, rfl⟩ | ⟨g, cap, cur, rfl, _⟩
  · exact ⟨_, _, rfl⟩
  · exact ⟨_, _, rfl⟩
theorem ret_bool {a b : Bool} (h : a = b) : Ending.returned (.bool a) = .returned (.bool b) := by rw [h]
def bytesV (l : List UInt8) : List Value := l.map fun c => Value.int .u8 (c.toNat : Int)

/-- The slice at a, of n bytes, holds l. -/
structure Bytes (w : World) (a : Option Addr) (n : Nat) (l : List UInt8) : Prop where
  len : n = l.length
  nil : a = none → n = 0
  cell : ∀ ad, a = some ad → ∀ i, i < n → w.cell? (ad.add i) = some (.int .u8 ((l.getD i 0).toNat : Int))

theorem bytesV_eq (l : List UInt8) : (l.map fun c => (c.toNat : Int)).map (Value.int .u8) = bytesV l := by simp [bytesV]

theorem clone_any {w : World} {a : Option Addr} {n : Nat} {l : List UInt8} (c : Nat) (h : Bytes w a n l) (hbig : n ≤ 140737488355328) :
    Calls Try.prog 39 #[.slice a n c] w fun e w' => ∃ a' c', e = .returned (.slice a' n c') ∧ w'.ownsRow w.heap.size 5 1 (.slice a' n c') n (bytesV l) ∧ Below w.heap.size w w' := by
  cases a with
  | none =>
    have h0 := h.nil rfl
    subst h0
    have hl : l = [] := List.length_eq_zero_iff.1 h.len.symm
    refine (Try.bytes_Clone_nil 0 c w).mono ?_
    rintro e w' ⟨rfl, rfl⟩
    exact ⟨none, 0, rfl, by rw [hl]; exact World.ownsRow_nil _ _ _ _, Below.refl _ _⟩
  | some ad =>
    refine (Try.bytes_Clone_at ad n c (l.map fun c => (c.toNat : Int)) w (by simp [h.len]) hbig ?_).mono ?_
    · intro i hi
      rw [h.cell ad rfl i hi]
      have : i < l.length := by have := h.len; omega
      simp [List.getD, this]
    · rintro e w' ⟨v', rfl, h1, _, h3⟩
      rw [bytesV_eq] at h1
      obtain ⟨a', c', rfl⟩ := row_form h1
      exact ⟨a', c', rfl, h1, h3⟩

theorem bytes_below {w w' : World} {a : Option Addr} {n : Nat} {l : List UInt8} (h : Bytes w a n l) (hb : Below w.heap.size w w') : Bytes w' a n l :=
  ⟨h.len, h.nil, fun ad ha i hi => (hb.cell (by exact lt_of_cell (h.cell ad ha i hi))).trans (h.cell ad ha i hi)⟩


end Go.Proofs.Ytmbcjdlpdibalaa
