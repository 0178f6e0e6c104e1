/-
  insertionSort_func: a range is sorted.
-/
import Derived.Test.YtcmafidnaojkiaaGreatDoorSortB
namespace Go.Proofs.YtcmafidnaojkiaaGreatDoor
open Go.RowKit
variable {α : Type} {g : Nat} {lb : Array Value} {sf : Nat} {sb : Array Value} {blk n : Nat} {lt : α → α → Bool} {R : List α → World → Prop}

structure Strict (lt : α → α → Bool) : Prop where
  asym : ∀ x y, lt x y = true → lt y x = false
  ntrans : ∀ x y z, lt y x = false → lt z y = false → lt z x = false

/-- Rising. -/
abbrev Srt (lt : α → α → Bool) (l : List α) : Prop := l.Pairwise (fun x y => lt y x = false)

theorem seg_get {D A B C : List α} {x y : α} (h : D = A ++ x :: (B ++ y :: C)) (h1 : A.length < D.length) (h2 : A.length + 1 + B.length < D.length) : D[A.length] = x ∧ D[A.length + 1 + B.length] = y := by
  subst h
  refine ⟨by simp, ?_⟩
  have : A ++ x :: (B ++ y :: C) = (A ++ x :: B) ++ y :: C := by simp
  have hl : (A ++ x :: B).length = A.length + 1 + B.length := by simp; omega
  have e : (A ++ x :: (B ++ y :: C))[A.length + 1 + B.length]? = some y := by rw [this, ← hl]; simp
  rw [List.getElem?_eq_getElem h2] at e
  exact Option.some.inj e

theorem less_fwd (S : Sorts g lb sf sb blk n lt R) {A B C : List α} {x y : α} {i j : Int} {w0 w : World} (hi : i = (A.length : Int)) (hj : j = ((A.length + 1 + B.length : Nat) : Int)) (hR : R (A ++ x :: (B ++ y :: C)) w) (hF : Fr blk w0 w) :
    Calls Tryz.prog g (#[.int .i64 i, .int .i64 j] ++ lb) w fun e w' => e = .returned (.bool (lt x y)) ∧ R (A ++ x :: (B ++ y :: C)) w' ∧ Fr blk w0 w' := by
  have h1 : A.length < (A ++ x :: (B ++ y :: C)).length := by simp
  have h2 : A.length + 1 + B.length < (A ++ x :: (B ++ y :: C)).length := by simp; omega
  have hc := S.less _ w A.length (A.length + 1 + B.length) h1 h2 hR
  rw [(seg_get rfl h1 h2).1, (seg_get rfl h1 h2).2, ← hi, ← hj] at hc
  exact hc.mono fun e w' ⟨he, ha, hb⟩ => ⟨he, ha, hF.trans hb⟩

theorem less_bwd (S : Sorts g lb sf sb blk n lt R) {A B C : List α} {x y : α} {i j : Int} {w0 w : World} (hi : i = (A.length : Int)) (hj : j = ((A.length + 1 + B.length : Nat) : Int)) (hR : R (A ++ x :: (B ++ y :: C)) w) (hF : Fr blk w0 w) :
    Calls Tryz.prog g (#[.int .i64 j, .int .i64 i] ++ lb) w fun e w' => e = .returned (.bool (lt y x)) ∧ R (A ++ x :: (B ++ y :: C)) w' ∧ Fr blk w0 w' := by
  have h1 : A.length < (A ++ x :: (B ++ y :: C)).length := by simp
  have h2 : A.length + 1 + B.length < (A ++ x :: (B ++ y :: C)).length := by simp; omega
  have hc := S.less _ w (A.length + 1 + B.length) A.length h2 h1 hR
  rw [(seg_get rfl h1 h2).1, (seg_get rfl h1 h2).2, ← hi, ← hj] at hc
  exact hc.mono fun e w' ⟨he, ha, hb⟩ => ⟨he, ha, hF.trans hb⟩

theorem swap_fwd (S : Sorts g lb sf sb blk n lt R) {A B C : List α} {x y : α} {i j : Int} {w0 w : World} (hi : i = (A.length : Int)) (hj : j = ((A.length + 1 + B.length : Nat) : Int)) (hR : R (A ++ x :: (B ++ y :: C)) w) (hF : Fr blk w0 w) :
    ∃ w', (callFunc sf (#[.int .i64 i, .int .i64 j] ++ sb)).run Tryz.prog w = .ok (.value (.tuple #[])) w' ∧ R (A ++ y :: (B ++ x :: C)) w' ∧ Fr blk w0 w' := by
  have h1 : A.length < (A ++ x :: (B ++ y :: C)).length := by simp
  have h2 : A.length + 1 + B.length < (A ++ x :: (B ++ y :: C)).length := by simp; omega
  obtain ⟨w', ha, hb, hc⟩ := S.swap _ w A.length (A.length + 1 + B.length) h1 h2 hR
  rw [seg_swap rfl rfl rfl h1 h2] at hb
  rw [← hi, ← hj] at ha
  exact ⟨w', ha, hb, hF.trans hc⟩

theorem swap_bwd (S : Sorts g lb sf sb blk n lt R) {A B C : List α} {x y : α} {i j : Int} {w0 w : World} (hi : i = (A.length : Int)) (hj : j = ((A.length + 1 + B.length : Nat) : Int)) (hR : R (A ++ x :: (B ++ y :: C)) w) (hF : Fr blk w0 w) :
    ∃ w', (callFunc sf (#[.int .i64 j, .int .i64 i] ++ sb)).run Tryz.prog w = .ok (.value (.tuple #[])) w' ∧ R (A ++ y :: (B ++ x :: C)) w' ∧ Fr blk w0 w' := by
  have h1 : A.length < (A ++ x :: (B ++ y :: C)).length := by simp
  have h2 : A.length + 1 + B.length < (A ++ x :: (B ++ y :: C)).length := by simp; omega
  obtain ⟨w', ha, hb, hc⟩ := S.swap _ w (A.length + 1 + B.length) A.length h2 h1 hR
  rw [seg_swap2 rfl rfl rfl h1 h2] at hb
  rw [← hi, ← hj] at ha
  exact ⟨w', ha, hb, hF.trans hc⟩

theorem ins_fit (O : Strict lt) {l r : List α} {z : α} (h : Srt lt (l ++ r)) (hz : ∀ q ∈ r, lt z q = true) (hl : l = [] ∨ ∃ l' q, l = l' ++ [q] ∧ lt z q = false) : Srt lt (l ++ z :: r) := by
  have h' := List.pairwise_append.1 h
  refine List.pairwise_append.2 ⟨h'.1, List.pairwise_cons.2 ⟨fun q hq => O.asym _ _ (hz q hq), h'.2.1⟩, ?_⟩
  intro x hx y hy
  rcases List.mem_cons.1 hy with rfl | hy
  · rcases hl with rfl | ⟨l', q, rfl, hq⟩
    · cases hx
    · rcases List.mem_append.1 hx with hx | hx
      · have h1 := (List.pairwise_append.1 h'.1).2.2 x hx q (by simp)
        exact O.ntrans _ _ _ h1 hq
      · simp at hx; subst hx; exact hq
  · exact h'.2.2 x hx y hy

/-- The outer loop. -/
def InsO (lt : α → α → Bool) (R : List α → World → Prop) (blk a : Nat) (w0 : World) (p u s : List α) (i : Nat) (wr : World) : Prop :=
  ∃ x y : List α, x.length + a = i ∧ (x ++ y).Perm u ∧ Srt lt x ∧ R (p ++ (x ++ (y ++ s))) wr ∧ Fr blk w0 wr
/-- The inner loop. -/
def InsI (lt : α → α → Bool) (R : List α → World → Prop) (blk a : Nat) (w0 : World) (p u s : List α) (i j : Nat) (wr : World) : Prop :=
  ∃ (l r y : List α) (z : α), l.length + a = j ∧ l.length + r.length + a = i ∧ ((l ++ r) ++ z :: y).Perm u ∧ Srt lt (l ++ r) ∧ (∀ q ∈ r, lt z q = true) ∧ R (p ++ (l ++ (z :: (r ++ (y ++ s))))) wr ∧ Fr blk w0 wr

theorem InsO.enter {a b i : Nat} {w0 wr : World} {p u s : List α} (h : InsO lt R blk a w0 p u s i wr) (hu : a + u.length = b) (hib : i < b) : InsI lt R blk a w0 p u s i i wr := by
  obtain ⟨x, y, hx, hp, hs, hR, hF⟩ := h
  have hl := hp.length_eq
  simp only [List.length_append] at hl
  cases y with
  | nil => simp at hl; omega
  | cons z y => exact ⟨x, [], y, z, hx, by simpa using hx, by simpa using hp, by simpa using hs, by simp, by simpa using hR, hF⟩

theorem ins_done (O : Strict lt) {a i : Nat} {w0 wr : World} {p u s l r y : List α} {z : α} (h2 : l.length + r.length + a = i) (h3 : ((l ++ r) ++ z :: y).Perm u) (h4 : Srt lt (l ++ r)) (h5 : ∀ q ∈ r, lt z q = true) (h6 : R (p ++ (l ++ (z :: (r ++ (y ++ s))))) wr) (h7 : Fr blk w0 wr) (hl : l = [] ∨ ∃ l' q, l = l' ++ [q] ∧ lt z q = false) : InsO lt R blk a w0 p u s (i + 1) wr := by
  refine ⟨l ++ z :: r, y, by simp; omega, ?_, ins_fit O h4 h5 hl, by simpa using h6, h7⟩
  refine List.Perm.trans ?_ h3
  simp only [List.append_assoc, List.cons_append]
  exact List.Perm.append_left _ List.perm_middle.symm

theorem InsI.front (O : Strict lt) {a i : Nat} {w0 wr : World} {p u s : List α} (h : InsI lt R blk a w0 p u s i a wr) : InsO lt R blk a w0 p u s (i + 1) wr := by
  obtain ⟨l, r, y, z, h1, h2, h3, h4, h5, h6, h7⟩ := h
  have hl : l = [] := List.length_eq_zero_iff.1 (by omega)
  exact ins_done O h2 h3 h4 h5 h6 h7 (Or.inl hl)

/-- What follows on the answer of 'less'. -/
def InsA (lt : α → α → Bool) (R : List α → World → Prop) (blk a sf : Nat) (sb : Array Value) (w0 : World) (p u s : List α) (i j : Nat) (bv : Bool) (w' : World) : Prop :=
  Fr blk w0 w' ∧ (bv = true → ∃ w2, (callFunc sf (#[.int .i64 (j : Int), .int .i64 ((j : Int) - 1)] ++ sb)).run Tryz.prog w' = .ok (.value (.tuple #[])) w2 ∧ InsI lt R blk a w0 p u s i (j - 1) w2) ∧ (bv = false → InsO lt R blk a w0 p u s (i + 1) w')

theorem InsI.ask (S : Sorts g lb sf sb blk n lt R) (O : Strict lt) {a i j : Nat} {w0 wr : World} {p u s : List α} (hp : p.length = a) (h : InsI lt R blk a w0 p u s i j wr) (hj : a < j) :
    ∃ bv, Calls Tryz.prog g (#[.int .i64 (j : Int), .int .i64 ((j : Int) - 1)] ++ lb) wr fun e w' => e = .returned (.bool bv) ∧ InsA lt R blk a sf sb w0 p u s i j bv w' := by
  obtain ⟨l, r, y, z, h1, h2, h3, h4, h5, h6, h7⟩ := h
  obtain ⟨l', q, rfl⟩ : ∃ l' q, l = l' ++ [q] := by
    rcases List.eq_nil_or_concat l with hl | ⟨l', q, hl⟩
    · rw [hl] at h1; simp at h1; omega
    · exact ⟨l', q, by rw [hl, List.concat_eq_append]⟩
  have e : p ++ ((l' ++ [q]) ++ (z :: (r ++ (y ++ s)))) = (p ++ l') ++ q :: ([] ++ z :: (r ++ (y ++ s))) := by simp
  have lq : (p ++ l').length + 1 = j := by simp at h1 ⊢; omega
  have hR := h6
  rw [e] at hR
  refine ⟨lt z q, (less_bwd S (i := (j : Int) - 1) (j := (j : Int)) (by omega) (by simp at lq ⊢; omega) hR h7).mono ?_⟩
  rintro e' w' ⟨rfl, hR', hF'⟩
  refine ⟨rfl, hF', fun hb => ?_, fun hb => ?_⟩
  · obtain ⟨w2, k1, k2, k3⟩ := swap_bwd S (i := (j : Int) - 1) (j := (j : Int)) (by omega) (by simp at lq ⊢; omega) hR' hF'
    refine ⟨w2, k1, l', q :: r, y, z, by simp at h1; omega, by simp at h2 ⊢; omega, by simpa using h3, by simpa using h4, ?_, by simpa using k2, k3⟩
    intro x hx
    rcases List.mem_cons.1 hx with rfl | hx
    · exact hb
    · exact h5 x hx
  · rw [← e] at hR'
    exact ins_done O h2 h3 h4 h5 hR' hF' (Or.inr ⟨l', q, rfl, hb⟩)

set_option maxRecDepth 100000 in
theorem ins_none {a b : Nat} (h : b ≤ a + 1) (hb : a ≤ 1099511627776) (w : World) :
    Calls Tryz.prog 142 #[duo g lb sf sb, .int .i64 (a : Int), .int .i64 (b : Int)] w fun e w' => e = .returned (.tuple #[]) ∧ w' = w.alloc (duoBox g lb sf sb) := by
  have u104 := Tryz.underlying104
  go_enter Tryz.func142, Tryz.ntmps142
  go_wp2
  refine wp_loop_rounds 1 ?_
  rw [rounds_succ]
  go_wp2
  all_goals first | (exfalso; omega) | (go_end0; exact ⟨rfl, rfl⟩)

set_option maxHeartbeats 1000000 in
theorem ins_some (S : Sorts g lb sf sb blk n lt R) (O : Strict lt) {p u s : List α} {a b : Nat} (ha : p.length = a) (hu : a + u.length = b) (h0 : 0 < u.length) {w : World} (hR : R (p ++ (u ++ s)) w) :
    Calls Tryz.prog 142 #[duo g lb sf sb, .int .i64 (a : Int), .int .i64 (b : Int)] w fun e w' => e = .returned (.tuple #[]) ∧ ∃ x, x.Perm u ∧ Srt lt x ∧ R (p ++ (x ++ s)) w' ∧ Fr blk w w' := by
  have hbl := S.inside _ _ hR
  have hsm := S.small
  have hln := S.len _ _ hR
  simp only [List.length_append] at hln
  have u104 := Tryz.underlying104
  have eg := S.enter
  have hbn : b ≤ n := by omega
  have hab : a < b := by omega
  have HI : Hid (InsO lt R blk a (w.alloc (duoBox g lb sf sb)) p u s (a + 1) (w.alloc (duoBox g lb sf sb))) := by
    cases u with
    | nil => simp at h0
    | cons z u => exact ⟨[z], u, by simp; omega, by simp, by simp [Srt], by simpa using S.alloc _ _ (duoBox g lb sf sb) hR, Fr.refl _ _⟩
  have HS := hide S
  have HU := hide hu
  have HP := hide ha
  clear S hR hu ha h0 hln
  go_enter Tryz.func142, Tryz.ntmps142
  go_wp2
  go_loopw [6] (fun v wr => ∃ i : Nat, v = .int .i64 i ∧ a < i ∧ i ≤ b ∧ InsO lt R blk a (w.alloc (duoBox g lb sf sb)) p u s i wr) (fun v _ => b - (intOf v).toNat)
  case atStart => exact ⟨a + 1, int_eq (by omega), by omega, hab, unhide HI⟩
  case round =>
    obtain ⟨i, rfl, hai, hib, hO⟩ := hrel
    have HO := hide hO
    clear hO HI
    by_cases hlt : i < b
    · go_wp2
      go_loopw [7] (fun v wr2 => ∃ j : Nat, v = .int .i64 j ∧ a ≤ j ∧ j ≤ i ∧ InsI lt R blk a (w.alloc (duoBox g lb sf sb)) p u s i j wr2) (fun v _ => (intOf v).toNat)
      case atStart => exact ⟨i, rfl, by omega, Nat.le_refl _, InsO.enter (unhide HO) (unhide HU) hlt⟩
      case round =>
        obtain ⟨j, rfl, haj, hji, hI⟩ := hrel
        have hf : Fr blk (w.alloc (duoBox g lb sf sb)) wr := by obtain ⟨_, _, _, _, _, _, _, _, _, _, hf⟩ := hI; exact hf
        have c0 := (box_at hbl hf).1
        have c1 := (box_at hbl hf).2
        clear hf
        by_cases hja : a < j
        · obtain ⟨bv, hc⟩ := InsI.ask (unhide HS) O (unhide HP) hI hja
          have HC := hide hc
          clear hc hI
          cases bv with
          | true =>
            go_wp2_with (go_at_fn g; fail)
            refine (unhide HC).mono ?_
            rintro e w1 ⟨rfl, hA⟩
            have hf := hA.1
            have d0 := (box_at hbl hf).1
            have d1 := (box_at hbl hf).2
            obtain ⟨w2, hrun, hI2⟩ := hA.2.1 rfl
            have HI2 := hide hI2
            clear hA hf hI2 HC
            go_wp2
            go_roundw
            case rel => exact ⟨j - 1, int_eq (by omega), by omega, by omega, unhide HI2⟩
            case measure => simp [intOf]; omega
          | false =>
            go_wp2_with (go_at_fn g; fail)
            refine (unhide HC).mono ?_
            rintro e w1 ⟨rfl, hA⟩
            have HO2 := hide (hA.2.2 rfl)
            clear hA HC HO
            go_wp2
            go_roundw
            case rel => exact ⟨i + 1, by simp, by omega, hlt, unhide HO2⟩
            case measure => simp [intOf]; omega
        · have hje : j = a := by omega
          subst hje
          have HO2 := hide (InsI.front O hI)
          clear hI HO
          go_wp2
          go_roundw
          case rel => exact ⟨i + 1, by simp, by omega, hlt, unhide HO2⟩
          case measure => simp [intOf]; omega
    · have hie : i = b := by omega
      subst hie
      go_wp2
      go_end0
      obtain ⟨x, y, h1, h2, h3, h4, h5⟩ := unhide HO
      have hl := h2.length_eq
      simp only [List.length_append] at hl
      have hy : y = [] := List.length_eq_zero_iff.1 (by have := unhide HU; omega)
      subst hy
      exact ⟨rfl, x, by simpa using h2, h3, by simpa using h4, (Fr.alloc _ _ _).trans h5⟩

theorem ins_any (S : Sorts g lb sf sb blk n lt R) (O : Strict lt) {p u s : List α} {a b : Nat} (ha : p.length = a) (hu : a + u.length = b) {w : World} (hR : R (p ++ (u ++ s)) w) :
    Calls Tryz.prog 142 #[duo g lb sf sb, .int .i64 (a : Int), .int .i64 (b : Int)] w fun e w' => e = .returned (.tuple #[]) ∧ ∃ x, x.Perm u ∧ Srt lt x ∧ R (p ++ (x ++ s)) w' ∧ Fr blk w w' := by
  by_cases h0 : 0 < u.length
  · exact ins_some S O ha hu h0 hR
  · have hn : u = [] := List.length_eq_zero_iff.1 (by omega)
    have hln := S.len _ _ hR
    have hsm := S.small
    simp only [List.length_append] at hln
    subst hn
    refine (ins_none (by simp at hu; omega) (by omega) w).mono ?_
    rintro e w' ⟨rfl, rfl⟩
    exact ⟨rfl, [], List.Perm.refl _, List.Pairwise.nil, S.alloc _ _ _ hR, Fr.alloc _ _ _⟩

end Go.Proofs.YtcmafidnaojkiaaGreatDoor
