/-
  The reference's Valid.
-/
import Derived.Test.YthcafeoamabkgaaGreatDoorRefD
namespace Go.Proofs.YthcafeoamabkgaaGreatDoor
open Go.RowKit

theorem refValid_any (v : Str) (w : World) : Tells 153 #[.string (ba v)] w (.bool (parseV v).isSome) := by
  unfold Tells
  obtain ⟨a, b, c, p, ok, hp⟩ : ∃ (a b c : Int) (p : ByteArray) (ok : Bool), partsV (parseV v) = .tuple #[.int .i64 a, .int .i64 b, .int .i64 c, .string p, .bool ok] ∧ ok = (parseV v).isSome := ⟨_, _, _, _, _, rfl, rfl⟩
  obtain ⟨hp, hok⟩ := hp
  rw [← hok]
  have HP := hide hp
  clear hp hok
  go_enter Tryz.func153, Tryz.ntmps153
  go_wp2_with (go_at_call 193; fail)
  refine (refParts_any v _).mono ?_
  rintro e w1 ⟨rfl, b1⟩
  rw [unhide HP]
  go_wp2
  go_ret
  exact ⟨rfl, b1⟩
theorem refValid_is {v : Str} {b : Bool} (h : (parseV v).isSome = b) (w : World) : Tells 153 #[.string (ba v)] w (.bool b) := by rw [← h]; exact refValid_any v w
theorem refParts_none {v : Str} (h : parseV v = none) (w : World) : Tells 193 #[.string (ba v)] w (.tuple #[.int .i64 0, .int .i64 0, .int .i64 0, .string ⟨#[]⟩, .bool false]) := by
  have := refParts_any v w
  rw [h] at this
  exact this
theorem refParts_some {v : Str} {x : Ver} (h : parseV v = some x) (w : World) : Tells 193 #[.string (ba v)] w (.tuple #[.int .i64 (x.a : Int), .int .i64 (x.b : Int), .int .i64 (x.c : Int), .string (ba x.pre), .bool true]) := by
  have := refParts_any v w
  rw [h] at this
  exact this

end Go.Proofs.YthcafeoamabkgaaGreatDoor
