/-
  kind.of: a fault becomes an effect.
-/
import Derived.Test.YtmbcjdlpdibalaaEff4
import Derived.Laws.EntriesVeiled
namespace Go.Proofs.Ytmbcjdlpdibalaa
open Go.RowKit Go.WideMaps Go.Maps

theorem make66 {m : Int} {a : Option Addr} {n c b : Nat} (w : World) : Calls Try.prog 66 #[.int .i64 m, .slice a n c, .pointer (some ⟨b, 0, none⟩)] w fun e w' => e = .returned (.func (.func 67) #[] #[.pointer (some ⟨b, 0, none⟩)]) ∧ w' = w := by
  go_enter Try.func66, Try.ntmps66
  go_wp2
  go_ret
  exact ⟨rfl, rfl⟩

theorem make50 {m : Int} {a : Option Addr} {n c : Nat} (w : World) : Calls Try.prog 50 #[.int .i64 m, .slice a n c] w fun e w' => e = .returned (.func (.func 68) #[] #[.pointer (some ⟨w.heap.size, 0, none⟩)]) ∧ w' = w.alloc (.cells #[.int .i64 m] 3) := by
  go_enter Try.func50, Try.ntmps50
  go_wp2
  go_ret
  exact ⟨rfl, rfl⟩

theorem make51 {m : Int} {a : Option Addr} {n c : Nat} (w : World) : Calls Try.prog 51 #[.int .i64 m, .slice a n c] w fun e w' => e = .returned (.func (.func 69) #[] #[.pointer (some ⟨w.heap.size, 0, none⟩)]) ∧ w' = w.alloc (.cells #[.int .i64 m] 3) := by
  go_enter Try.func51, Try.ntmps51
  go_wp2
  go_ret
  exact ⟨rfl, rfl⟩

theorem make53 {m : Int} {a : Option Addr} {n c : Nat} (w : World) : Calls Try.prog 53 #[.int .i64 m, .slice a n c] w fun e w' => e = .returned (.func (.func 71) #[] #[.pointer (some ⟨w.heap.size, 0, none⟩)]) ∧ w' = w.alloc (.cells #[.int .i64 m] 3) := by
  go_enter Try.func53, Try.ntmps53
  go_wp2
  go_ret
  exact ⟨rfl, rfl⟩

theorem make52 {m : Int} {a : Option Addr} {n c : Nat} {l : List UInt8} {w : World} (h : Bytes w a n l) (hs : n ≤ 1099511627776) :
    Calls Try.prog 52 #[.int .i64 m, .slice a n c] w fun e w' => ∃ b, e = .returned (.func (.func 70) #[] #[.pointer (some ⟨b, 0, none⟩)]) ∧ EffAt w.heap.size w'.heap.size w' (.func (.func 70) #[] #[.pointer (some ⟨b, 0, none⟩)]) (.forge l) ∧ Below w.heap.size w w' := by
  have HC := hide (clone_any c h (by omega))
  go_enter Try.func52, Try.ntmps52
  go_wp2_with (go_at_call 39; fail)
  refine (unhide HC).mono ?_
  rintro e w2 ⟨a', c', rfl, hown, b2⟩
  have e1 := h.len
  have HE : Hid (EffAt w.heap.size (w2.alloc (.cells #[.slice a' n c'] 32)).heap.size (w2.alloc (.cells #[.slice a' n c'] 32)) (.func (.func 70) #[] #[.pointer (some ⟨w2.heap.size, 0, none⟩)]) (.forge l)) := by
    subst e1
    have hown3 := hown.alloc (.cells #[.slice a' l.length c'] 32)
    obtain ⟨k1, k2, k3, k4⟩ := row_bytes hown3
    refine ⟨w2.heap.size, a', l.length, c', b2.size, by show w2.heap.size < (w2.heap.push _).size; simp, rfl, Lib.cell_of_heap (heap_new _ _) 0, k1, hs, fun ad ha => ?_⟩
    obtain ⟨g, rfl, g1, g2⟩ := k4 ad ha
    exact ⟨g1, g2⟩
  have HB := hide (b2.alloc b2.size (.cells #[.slice a' n c'] 32))
  clear hown b2 HC e1
  go_wp2
  go_ret
  exact ⟨_, rfl, unhide HE, unhide HB⟩

/-- The world in which of has boxed its two parameters. -/
abbrev ofW (w : World) (any : Bool) (f : Value) (url : Value) (at' kind m : Int) (s : Value) : World := (w.alloc (.cells #[.bool any, f] 96)).alloc (.cells #[url, .int .i64 at', .int .i64 kind, .int .i64 m, s] 50)
theorem of_size (w : World) (any : Bool) (f url : Value) (at' kind m : Int) (s : Value) : (ofW w any f url at' kind m s).heap.size = w.heap.size + 2 := by
  show ((w.heap.push _).push _).size = _
  simp
theorem of_below (w : World) (any : Bool) (f url : Value) (at' kind m : Int) (s : Value) : Below w.heap.size w (ofW w any f url at' kind m s) := ((Below.refl _ _).alloc (Nat.le_refl _) _).alloc (by simp) _

theorem of_tell {w : World} {b : Nat} {url : ByteArray} {at' kind m : Int} {a : Option Addr} {n c : Nat} :
    Calls Try.prog 41 #[kv true (tellV b), .agg #[.string url, .int .i64 at', .int .i64 kind, .int .i64 m, .slice a n c]] w fun e w' => e = .returned (.func (.func 67) #[] #[.pointer (some ⟨b, 0, none⟩)]) ∧ Below w.heap.size w w' := by
  go_enter Try.func41, Try.ntmps41
  go_wp2_with (go_at_call 66; fail)
  refine (make66 (ofW w true (tellV b) (.string url) at' kind m (.slice a n c))).mono ?_
  rintro e w1 ⟨rfl, hw⟩
  rw [hw]; clear hw w1
  unfold ofW
  go_wp2
  go_ret
  exact ⟨rfl, (of_below w true (tellV b) (.string url) at' kind m (.slice a n c)).alloc (by rw [of_size]; omega) _⟩

theorem of_50 {w : World} {url : ByteArray} {at' kind : Int} {m : Nat} {a : Option Addr} {n c : Nat} :
    Calls Try.prog 41 #[kv false (.func (.func 50) #[] #[]), .agg #[.string url, .int .i64 at', .int .i64 kind, .int .i64 (m : Int), .slice a n c]] w fun e w' => ∃ fv, e = .returned fv ∧ EffAt w.heap.size w'.heap.size w' fv (.cut m) ∧ Below w.heap.size w w' := by
  have sz := of_size w false (.func (.func 50) #[] #[]) (.string url) at' kind m (.slice a n c)
  go_enter Try.func41, Try.ntmps41
  go_wp2_with (go_at_call 50; fail)
  refine (make50 (ofW w false (.func (.func 50) #[] #[]) (.string url) at' kind m (.slice a n c))).mono ?_
  rintro e w1 ⟨rfl, hw⟩
  obtain ⟨W, hW⟩ : ∃ W, ofW w false (.func (.func 50) #[] #[]) (.string url) at' kind m (.slice a n c) = W := ⟨_, rfl⟩
  have bW : Below w.heap.size w W := by rw [← hW]; exact of_below _ _ _ _ _ _ _ _
  have hbox : W.heap[w.heap.size]? = some (.cells #[.bool false, .func (.func 50) #[] #[]] 96 (0, 0)) := by
    rw [← hW]
    show ((w.heap.push _).push _)[w.heap.size]? = _
    rw [Array.getElem?_push_lt (by simp)]
    simp
  rw [hW] at hw sz
  have s1 : w1.heap.size = w.heap.size + 3 := by rw [hw]; show (W.heap.push _).size = _; simp [sz]
  have cb : w1.cell? ⟨w.heap.size, 0, none⟩ = some (.bool false) := by
    rw [hw]
    have := Lib.cell_of_heap (((World.grownBy_alloc W (.cells #[.int .i64 m] 3) none).block w.heap.size (by omega) (by simp)).trans hbox) 0
    exact this
  have k2 : w1.cell? ⟨w.heap.size + 2, 0, none⟩ = some (.int .i64 m) := by rw [hw, ← sz]; exact Lib.cell_of_heap (heap_new _ _) 0
  have cb2 : (w1.alloc (.cells #[.func (.func 68) #[] #[.pointer (some ⟨w.heap.size + 2, 0, none⟩)]] 84)).cell? ⟨w.heap.size, 0, none⟩ = some (.bool false) := cell_same (a := ⟨w.heap.size, 0, none⟩) ((World.grownBy_alloc w1 _ none).block w.heap.size (by omega) (by simp)) cb
  have b1 : Below w.heap.size w w1 := by rw [hw]; exact bW.alloc (by omega) _
  have HE : Hid (EffAt w.heap.size (w1.alloc (.cells #[.func (.func 68) #[] #[.pointer (some ⟨w.heap.size + 2, 0, none⟩)]] 84)).heap.size (w1.alloc (.cells #[.func (.func 68) #[] #[.pointer (some ⟨w.heap.size + 2, 0, none⟩)]] 84)) (.func (.func 54) #[] #[.pointer (some ⟨w1.heap.size, 0, none⟩)]) (.cut m)) := by
    have s2 : (w1.alloc (.cells #[.func (.func 68) #[] #[.pointer (some ⟨w.heap.size + 2, 0, none⟩)]] 84)).heap.size = w.heap.size + 4 := by show (w1.heap.push _).size = _; simp [s1]
    refine ⟨w1.heap.size, w.heap.size + 2, by omega, by omega, by omega, by omega, rfl, ?_, ?_⟩
    · exact Lib.cell_of_heap (heap_new _ _) 0
    · exact cell_same (a := ⟨w.heap.size + 2, 0, none⟩) ((World.grownBy_alloc w1 _ none).block (w.heap.size + 2) (by omega) (by simp)) k2
  have HB := hide (b1.alloc b1.size (.cells #[.func (.func 68) #[] #[.pointer (some ⟨w.heap.size + 2, 0, none⟩)]] 84))
  rw [hW, sz]
  clear hw hW bW hbox k2 b1 sz s1
  go_wp2
  go_ret
  exact ⟨_, rfl, unhide HE, unhide HB⟩

theorem of_51 {w : World} {url : ByteArray} {at' kind : Int} {m : Nat} {a : Option Addr} {n c : Nat} (hm : m ≤ 9223372036854775807) :
    Calls Try.prog 41 #[kv false (.func (.func 51) #[] #[]), .agg #[.string url, .int .i64 at', .int .i64 kind, .int .i64 (m : Int), .slice a n c]] w fun e w' => ∃ fv, e = .returned fv ∧ EffAt w.heap.size w'.heap.size w' fv (.flip m) ∧ Below w.heap.size w w' := by
  have sz := of_size w false (.func (.func 51) #[] #[]) (.string url) at' kind m (.slice a n c)
  go_enter Try.func41, Try.ntmps41
  go_wp2_with (go_at_call 51; fail)
  refine (make51 (ofW w false (.func (.func 51) #[] #[]) (.string url) at' kind m (.slice a n c))).mono ?_
  rintro e w1 ⟨rfl, hw⟩
  obtain ⟨W, hW⟩ : ∃ W, ofW w false (.func (.func 51) #[] #[]) (.string url) at' kind m (.slice a n c) = W := ⟨_, rfl⟩
  have bW : Below w.heap.size w W := by rw [← hW]; exact of_below _ _ _ _ _ _ _ _
  have hbox : W.heap[w.heap.size]? = some (.cells #[.bool false, .func (.func 51) #[] #[]] 96 (0, 0)) := by
    rw [← hW]
    show ((w.heap.push _).push _)[w.heap.size]? = _
    rw [Array.getElem?_push_lt (by simp)]
    simp
  rw [hW] at hw sz
  have s1 : w1.heap.size = w.heap.size + 3 := by rw [hw]; show (W.heap.push _).size = _; simp [sz]
  have cb : w1.cell? ⟨w.heap.size, 0, none⟩ = some (.bool false) := by
    rw [hw]
    have := Lib.cell_of_heap (((World.grownBy_alloc W (.cells #[.int .i64 m] 3) none).block w.heap.size (by omega) (by simp)).trans hbox) 0
    exact this
  have k2 : w1.cell? ⟨w.heap.size + 2, 0, none⟩ = some (.int .i64 m) := by rw [hw, ← sz]; exact Lib.cell_of_heap (heap_new _ _) 0
  have cb2 : (w1.alloc (.cells #[.func (.func 69) #[] #[.pointer (some ⟨w.heap.size + 2, 0, none⟩)]] 84)).cell? ⟨w.heap.size, 0, none⟩ = some (.bool false) := cell_same (a := ⟨w.heap.size, 0, none⟩) ((World.grownBy_alloc w1 _ none).block w.heap.size (by omega) (by simp)) cb
  have b1 : Below w.heap.size w w1 := by rw [hw]; exact bW.alloc (by omega) _
  have HE : Hid (EffAt w.heap.size (w1.alloc (.cells #[.func (.func 69) #[] #[.pointer (some ⟨w.heap.size + 2, 0, none⟩)]] 84)).heap.size (w1.alloc (.cells #[.func (.func 69) #[] #[.pointer (some ⟨w.heap.size + 2, 0, none⟩)]] 84)) (.func (.func 54) #[] #[.pointer (some ⟨w1.heap.size, 0, none⟩)]) (.flip m)) := by
    have s2 : (w1.alloc (.cells #[.func (.func 69) #[] #[.pointer (some ⟨w.heap.size + 2, 0, none⟩)]] 84)).heap.size = w.heap.size + 4 := by show (w1.heap.push _).size = _; simp [s1]
    refine ⟨w1.heap.size, w.heap.size + 2, by omega, by omega, by omega, by omega, rfl, ?_, ?_, hm⟩
    · exact Lib.cell_of_heap (heap_new _ _) 0
    · exact cell_same (a := ⟨w.heap.size + 2, 0, none⟩) ((World.grownBy_alloc w1 _ none).block (w.heap.size + 2) (by omega) (by simp)) k2
  have HB := hide (b1.alloc b1.size (.cells #[.func (.func 69) #[] #[.pointer (some ⟨w.heap.size + 2, 0, none⟩)]] 84))
  rw [hW, sz]
  clear hw hW bW hbox k2 b1 sz s1
  go_wp2
  go_ret
  exact ⟨_, rfl, unhide HE, unhide HB⟩

theorem of_53 {w : World} {url : ByteArray} {at' kind : Int} {m : Int} {a : Option Addr} {n c : Nat} :
    Calls Try.prog 41 #[kv false (.func (.func 53) #[] #[]), .agg #[.string url, .int .i64 at', .int .i64 kind, .int .i64 m, .slice a n c]] w fun e w' => ∃ fv, e = .returned fv ∧ EffAt w.heap.size w'.heap.size w' fv (.late m) ∧ Below w.heap.size w w' := by
  have sz := of_size w false (.func (.func 53) #[] #[]) (.string url) at' kind m (.slice a n c)
  go_enter Try.func41, Try.ntmps41
  go_wp2_with (go_at_call 53; fail)
  refine (make53 (ofW w false (.func (.func 53) #[] #[]) (.string url) at' kind m (.slice a n c))).mono ?_
  rintro e w1 ⟨rfl, hw⟩
  obtain ⟨W, hW⟩ : ∃ W, ofW w false (.func (.func 53) #[] #[]) (.string url) at' kind m (.slice a n c) = W := ⟨_, rfl⟩
  have bW : Below w.heap.size w W := by rw [← hW]; exact of_below _ _ _ _ _ _ _ _
  have hbox : W.heap[w.heap.size]? = some (.cells #[.bool false, .func (.func 53) #[] #[]] 96 (0, 0)) := by
    rw [← hW]
    show ((w.heap.push _).push _)[w.heap.size]? = _
    rw [Array.getElem?_push_lt (by simp)]
    simp
  rw [hW] at hw sz
  have s1 : w1.heap.size = w.heap.size + 3 := by rw [hw]; show (W.heap.push _).size = _; simp [sz]
  have cb : w1.cell? ⟨w.heap.size, 0, none⟩ = some (.bool false) := by
    rw [hw]
    have := Lib.cell_of_heap (((World.grownBy_alloc W (.cells #[.int .i64 m] 3) none).block w.heap.size (by omega) (by simp)).trans hbox) 0
    exact this
  have k2 : w1.cell? ⟨w.heap.size + 2, 0, none⟩ = some (.int .i64 m) := by rw [hw, ← sz]; exact Lib.cell_of_heap (heap_new _ _) 0
  have cb2 : (w1.alloc (.cells #[.func (.func 71) #[] #[.pointer (some ⟨w.heap.size + 2, 0, none⟩)]] 84)).cell? ⟨w.heap.size, 0, none⟩ = some (.bool false) := cell_same (a := ⟨w.heap.size, 0, none⟩) ((World.grownBy_alloc w1 _ none).block w.heap.size (by omega) (by simp)) cb
  have b1 : Below w.heap.size w w1 := by rw [hw]; exact bW.alloc (by omega) _
  have HE : Hid (EffAt w.heap.size (w1.alloc (.cells #[.func (.func 71) #[] #[.pointer (some ⟨w.heap.size + 2, 0, none⟩)]] 84)).heap.size (w1.alloc (.cells #[.func (.func 71) #[] #[.pointer (some ⟨w.heap.size + 2, 0, none⟩)]] 84)) (.func (.func 54) #[] #[.pointer (some ⟨w1.heap.size, 0, none⟩)]) (.late m)) := by
    have s2 : (w1.alloc (.cells #[.func (.func 71) #[] #[.pointer (some ⟨w.heap.size + 2, 0, none⟩)]] 84)).heap.size = w.heap.size + 4 := by show (w1.heap.push _).size = _; simp [s1]
    refine ⟨w1.heap.size, w.heap.size + 2, by omega, by omega, by omega, by omega, rfl, ?_, ?_⟩
    · exact Lib.cell_of_heap (heap_new _ _) 0
    · exact cell_same (a := ⟨w.heap.size + 2, 0, none⟩) ((World.grownBy_alloc w1 _ none).block (w.heap.size + 2) (by omega) (by simp)) k2
  have HB := hide (b1.alloc b1.size (.cells #[.func (.func 71) #[] #[.pointer (some ⟨w.heap.size + 2, 0, none⟩)]] 84))
  rw [hW, sz]
  clear hw hW bW hbox k2 b1 sz s1
  go_wp2
  go_ret
  exact ⟨_, rfl, unhide HE, unhide HB⟩

theorem of_52 {w : World} {url : ByteArray} {at' kind m : Int} {a : Option Addr} {n c : Nat} {l : List UInt8} (h : Bytes w a n l) (hs : n ≤ 1099511627776) :
    Calls Try.prog 41 #[kv true (.func (.func 52) #[] #[]), .agg #[.string url, .int .i64 at', .int .i64 kind, .int .i64 m, .slice a n c]] w fun e w' => ∃ fv, e = .returned fv ∧ EffAt w.heap.size w'.heap.size w' fv (.forge l) ∧ Below w.heap.size w w' := by
  have sz := of_size w true (.func (.func 52) #[] #[]) (.string url) at' kind m (.slice a n c)
  obtain ⟨W, hW⟩ : ∃ W, ofW w true (.func (.func 52) #[] #[]) (.string url) at' kind m (.slice a n c) = W := ⟨_, rfl⟩
  have bW : Below w.heap.size w W := by rw [← hW]; exact of_below _ _ _ _ _ _ _ _
  have hbox : W.heap[w.heap.size]? = some (.cells #[.bool true, .func (.func 52) #[] #[]] 96 (0, 0)) := by
    rw [← hW]
    show ((w.heap.push _).push _)[w.heap.size]? = _
    rw [Array.getElem?_push_lt (by simp)]
    simp
  rw [hW] at sz
  have HM : Hid (Calls Try.prog 52 #[.int .i64 m, .slice a n c] (ofW w true (.func (.func 52) #[] #[]) (.string url) at' kind m (.slice a n c)) fun e w' => ∃ b, e = .returned (.func (.func 70) #[] #[.pointer (some ⟨b, 0, none⟩)]) ∧ EffAt W.heap.size w'.heap.size w' (.func (.func 70) #[] #[.pointer (some ⟨b, 0, none⟩)]) (.forge l) ∧ Below W.heap.size W w') := by
    rw [hW]
    exact make52 (bytes_below h bW) hs
  clear hW
  go_enter Try.func41, Try.ntmps41
  go_wp2_with (go_at_call 52; fail)
  refine (unhide HM).mono ?_
  rintro e w1 ⟨b, rfl, hE, b1⟩
  have hs1 := b1.size
  have cb : w1.cell? ⟨w.heap.size, 0, none⟩ = some (.bool true) := Lib.cell_of_heap ((b1.block w.heap.size (by omega)).trans hbox) 0
  have cb2 : (w1.alloc (.cells #[.func (.func 70) #[] #[.pointer (some ⟨b, 0, none⟩)]] 84)).cell? ⟨w.heap.size, 0, none⟩ = some (.bool true) := cell_same (a := ⟨w.heap.size, 0, none⟩) ((World.grownBy_alloc w1 _ none).block w.heap.size (by omega) (by simp)) cb
  have HE : Hid (EffAt w.heap.size (w1.alloc (.cells #[.func (.func 70) #[] #[.pointer (some ⟨b, 0, none⟩)]] 84)).heap.size (w1.alloc (.cells #[.func (.func 70) #[] #[.pointer (some ⟨b, 0, none⟩)]] 84)) (.func (.func 70) #[] #[.pointer (some ⟨b, 0, none⟩)]) (.forge l)) :=
    (hE.keep (fun k _ hk => (World.grownBy_alloc w1 _ none).block k hk (by simp))).wide (by omega) (by show w1.heap.size ≤ (w1.heap.push _).size; simp)
  have HB := hide ((below_trans bW b1).alloc (below_trans bW b1).size (.cells #[.func (.func 70) #[] #[.pointer (some ⟨b, 0, none⟩)]] 84))
  clear hE b1 bW hbox HM h
  go_wp2
  go_ret
  exact ⟨_, rfl, unhide HE, unhide HB⟩

end Go.Proofs.Ytmbcjdlpdibalaa
