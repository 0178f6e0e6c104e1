/-
  What Add needs: the kinds by their number, of at every kind.
-/
import Derived.Test.YtmbcjdlpdibalaaSet
namespace Go.Proofs.Ytmbcjdlpdibalaa
open Go.RowKit Go.WideMaps Go.Maps Go.MuLone

/-- A kind's entry: whether it needs no page, the function, what it holds. -/
def kindOf (B : Nat) (kd : Int) : Option (Bool × Nat × Array Value) :=
  if kd = 1 then some (true, 66, #[.pointer (some ⟨B + 1, 0, none⟩)]) else if kd = 2 then some (false, 50, #[]) else if kd = 3 then some (false, 51, #[]) else if kd = 4 then some (true, 52, #[]) else if kd = 5 then some (false, 53, #[]) else if kd = 6 then some (true, 66, #[.pointer (some ⟨B + 2, 0, none⟩)]) else if kd = 7 then some (true, 66, #[.pointer (some ⟨B + 3, 0, none⟩)]) else none

/-- The effect of a fault. -/
def effOf (kd : Int) (m : Nat) (l : List UInt8) : Option Eff :=
  if kd = 1 then some (.tell 0) else if kd = 2 then some (.cut m) else if kd = 3 then some (.flip m) else if kd = 4 then some (.forge l) else if kd = 5 then some (.late m) else if kd = 6 then some (.tell 404) else if kd = 7 then some (.tell 503) else none

theorem kind_eff (B : Nat) (kd : Int) (m : Nat) (l : List UInt8) : (kindOf B kd).isSome = (effOf kd m l).isSome := by
  unfold kindOf effOf
  repeat' split
  all_goals rfl

theorem ikey (n : Int) : WideAt.IsKeyLit (.int .i64 n) := trivial

theorem kinds_has (B : Nat) (kd : Int) : Maps.has (kindsD B) (.int .i64 kd) = (kindOf B kd).isSome ∧ ∀ any i cap, kindOf B kd = some (any, i, cap) → ∀ z, (kindsD B).atKey (.int .i64 kd) z = .held (.agg #[.bool any, .func (.func i) #[] cap]) := by
  have ne : ∀ a b : Int, a ≠ b → (Lit.int .i64 a) ≠ .int .i64 b := fun a b h e => h (by simpa using e)
  have im : ∀ (D : DataW Value) k d, IsMap D → IsMap (D.put k d) := fun D k d h => h.put k d
  have m0 : IsMap (.map [] : DataW Value) := isMap_empty
  unfold kindsD kindOf
  by_cases h7 : kd = 7
  · subst h7
    refine ⟨by rw [has_put_same (by repeat' (first | exact m0 | apply im)) (ikey 7)]; rfl, fun any i cap h z => ?_⟩
    simp at h
    obtain ⟨rfl, rfl, rfl⟩ := h
    rw [atKey_put_same (by repeat' (first | exact m0 | apply im)) (ikey 7)]
  · rw [has_put_other (ne _ _ h7)]
    simp only [atKey_put_other (ne _ _ h7)]
    by_cases h6 : kd = 6
    · subst h6
      refine ⟨by rw [has_put_same (by repeat' (first | exact m0 | apply im)) (ikey 6)]; rfl, fun any i cap h z => ?_⟩
      simp at h
      obtain ⟨rfl, rfl, rfl⟩ := h
      rw [atKey_put_same (by repeat' (first | exact m0 | apply im)) (ikey 6)]
    · rw [has_put_other (ne _ _ h6)]
      simp only [atKey_put_other (ne _ _ h6)]
      by_cases h5 : kd = 5
      · subst h5
        refine ⟨by rw [has_put_same (by repeat' (first | exact m0 | apply im)) (ikey 5)]; rfl, fun any i cap h z => ?_⟩
        simp at h
        obtain ⟨rfl, rfl, rfl⟩ := h
        rw [atKey_put_same (by repeat' (first | exact m0 | apply im)) (ikey 5)]
      · rw [has_put_other (ne _ _ h5)]
        simp only [atKey_put_other (ne _ _ h5)]
        by_cases h4 : kd = 4
        · subst h4
          refine ⟨by rw [has_put_same (by repeat' (first | exact m0 | apply im)) (ikey 4)]; rfl, fun any i cap h z => ?_⟩
          simp at h
          obtain ⟨rfl, rfl, rfl⟩ := h
          rw [atKey_put_same (by repeat' (first | exact m0 | apply im)) (ikey 4)]
        · rw [has_put_other (ne _ _ h4)]
          simp only [atKey_put_other (ne _ _ h4)]
          by_cases h3 : kd = 3
          · subst h3
            refine ⟨by rw [has_put_same (by repeat' (first | exact m0 | apply im)) (ikey 3)]; rfl, fun any i cap h z => ?_⟩
            simp at h
            obtain ⟨rfl, rfl, rfl⟩ := h
            rw [atKey_put_same (by repeat' (first | exact m0 | apply im)) (ikey 3)]
          · rw [has_put_other (ne _ _ h3)]
            simp only [atKey_put_other (ne _ _ h3)]
            by_cases h2 : kd = 2
            · subst h2
              refine ⟨by rw [has_put_same (by repeat' (first | exact m0 | apply im)) (ikey 2)]; rfl, fun any i cap h z => ?_⟩
              simp at h
              obtain ⟨rfl, rfl, rfl⟩ := h
              rw [atKey_put_same (by repeat' (first | exact m0 | apply im)) (ikey 2)]
            · rw [has_put_other (ne _ _ h2)]
              simp only [atKey_put_other (ne _ _ h2)]
              by_cases h1 : kd = 1
              · subst h1
                refine ⟨by rw [has_put_same m0 (ikey 1)]; rfl, fun any i cap h z => ?_⟩
                simp at h
                obtain ⟨rfl, rfl, rfl⟩ := h
                rw [atKey_put_same m0 (ikey 1)]
              · rw [has_put_other (ne _ _ h1)]
                refine ⟨by simp [h1, h2, h3, h4, h5, h6, h7, Maps.has], fun any i cap h z => by simp [h1, h2, h3, h4, h5, h6, h7] at h⟩

/-- of, at every kind. -/
theorem of_any {w : World} {B lo : Nat} {kd : Int} {m : Nat} {any : Bool} {i : Nat} {cap : Array Value} {e : Eff} {url : ByteArray} {at' : Int} {a : Option Addr} {n c : Nat} {l : List UInt8} (hk : kindOf B kd = some (any, i, cap)) (he : effOf kd m l = some e) (hl : Bytes w a n l) (hs : n ≤ 1099511627776) (hm : m ≤ 9223372036854775807)
    (hlo : lo ≤ B) (hB : B + 3 < w.heap.size) (hc : w.cell? ⟨B + 1, 0, none⟩ = some (.int .i64 0) ∧ w.cell? ⟨B + 2, 0, none⟩ = some (.int .i64 404) ∧ w.cell? ⟨B + 3, 0, none⟩ = some (.int .i64 503)) :
    Calls Try.prog 41 #[.agg #[.bool any, .func (.func i) #[] cap], .agg #[.string url, .int .i64 at', .int .i64 kd, .int .i64 (m : Int), .slice a n c]] w fun e' w' => ∃ fv, e' = .returned fv ∧ EffAt lo w'.heap.size w' fv e ∧ Below w.heap.size w w' := by
  obtain ⟨c1, c2, c3⟩ := hc
  have tell : ∀ (b : Nat) (st : Int), lo ≤ b → b < w.heap.size → w.cell? ⟨b, 0, none⟩ = some (.int .i64 st) → Calls Try.prog 41 #[.agg #[.bool true, .func (.func 66) #[] #[.pointer (some ⟨b, 0, none⟩)]], .agg #[.string url, .int .i64 at', .int .i64 kd, .int .i64 (m : Int), .slice a n c]] w fun e' w' => ∃ fv, e' = .returned fv ∧ EffAt lo w'.heap.size w' fv (.tell st) ∧ Below w.heap.size w w' :=
    fun b st h1 h2 h3 => of_tell.mono fun e' w' ⟨g1, g2⟩ => ⟨_, g1, ⟨b, h1, Nat.lt_of_lt_of_le h2 g2.size, rfl, (g2.cell (p := ⟨b, 0, none⟩) h2).trans h3⟩, g2⟩
  have wide : ∀ {x : Eff} {args : Array Value}, Calls Try.prog 41 args w (fun e' w' => ∃ fv, e' = .returned fv ∧ EffAt w.heap.size w'.heap.size w' fv x ∧ Below w.heap.size w w') → Calls Try.prog 41 args w fun e' w' => ∃ fv, e' = .returned fv ∧ EffAt lo w'.heap.size w' fv x ∧ Below w.heap.size w w' :=
    fun h => h.mono fun e' w' ⟨fv, g1, g2, g3⟩ => ⟨fv, g1, g2.wide (by omega) (Nat.le_refl _), g3⟩
  unfold kindOf at hk
  unfold effOf at he
  split at hk
  · rename_i h; rw [if_pos h] at he; cases hk; cases he; exact tell _ _ (by omega) (by omega) c1
  · rename_i h1; rw [if_neg h1] at he
    split at hk
    · rename_i h; rw [if_pos h] at he; cases hk; cases he; exact wide of_50
    · rename_i h2; rw [if_neg h2] at he
      split at hk
      · rename_i h; rw [if_pos h] at he; cases hk; cases he; exact wide (of_51 hm)
      · rename_i h3; rw [if_neg h3] at he
        split at hk
        · rename_i h; rw [if_pos h] at he; cases hk; cases he; exact wide (of_52 hl hs)
        · rename_i h4; rw [if_neg h4] at he
          split at hk
          · rename_i h; rw [if_pos h] at he; cases hk; cases he; exact wide of_53
          · rename_i h5; rw [if_neg h5] at he
            split at hk
            · rename_i h; rw [if_pos h] at he; cases hk; cases he; exact tell _ _ (by omega) (by omega) c2
            · rename_i h6; rw [if_neg h6] at he
              split at hk
              · rename_i h; rw [if_pos h] at he; cases hk; cases he; exact tell _ _ (by omega) (by omega) c3
              · cases hk

end Go.Proofs.Ytmbcjdlpdibalaa
