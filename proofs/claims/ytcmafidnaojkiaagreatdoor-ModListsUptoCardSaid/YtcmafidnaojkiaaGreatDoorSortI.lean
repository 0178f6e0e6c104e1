/-
  stable_func: the whole row is sorted.
-/
import Derived.Test.YtcmafidnaojkiaaGreatDoorSortH
namespace Go.Proofs.YtcmafidnaojkiaaGreatDoor
open Go.RowKit
variable {α : Type} {g : Nat} {lb : Array Value} {sf : Nat} {sb : Array Value} {blk n : Nat} {lt : α → α → Bool} {R : List α → World → Prop}

/-- Rising blocks of one length. -/
def Blks (lt : α → α → Bool) (k : Nat) (bs : List (List α)) : Prop := ∀ b ∈ bs, b.length = k ∧ Srt lt b

theorem blks_len {k : Nat} : ∀ {bs : List (List α)}, Blks lt k bs → bs.flatten.length = bs.length * k
  | [], _ => by simp
  | b :: bs, h => by
    have ih := blks_len (bs := bs) (fun c hc => h c (List.mem_cons_of_mem _ hc))
    have hb := (h b (by simp)).1
    simp only [List.flatten_cons, List.length_append, List.length_cons, ih, hb, Nat.add_mul, Nat.one_mul]
    omega

/-- The first loop: blocks of 20. -/
def StaA (lt : α → α → Bool) (R : List α → World → Prop) (blk : Nat) (w0 : World) (d : List α) (a : Nat) (wr : World) : Prop :=
  ∃ (bs : List (List α)) (y : List α), Blks lt 20 bs ∧ bs.flatten.length = a ∧ (bs.flatten ++ y).Perm d ∧ R (bs.flatten ++ y) wr ∧ Fr blk w0 wr

theorem StaA.step (S : Sorts g lb sf sb blk n lt R) (O : Strict lt) {w0 wr : World} {d : List α} {a : Nat} (h : StaA lt R blk w0 d a wr) (hn : a + 20 ≤ n) :
    Calls Tryz.prog 142 #[duo g lb sf sb, .int .i64 (a : Int), .int .i64 ((a + 20 : Nat) : Int)] wr fun e w' => e = .returned (.tuple #[]) ∧ StaA lt R blk w0 d (a + 20) w' := by
  obtain ⟨bs, y, h1, h2, h3, h4, h5⟩ := h
  have hl := S.len _ _ h4
  simp only [List.length_append] at hl
  have e : bs.flatten ++ y = bs.flatten ++ (y.take 20 ++ y.drop 20) := by rw [List.take_append_drop]
  rw [e] at h4
  have ly : (y.take 20).length = 20 := by simp; omega
  refine (ins_any S O h2 (by rw [ly]) h4).mono ?_
  rintro e' w' ⟨rfl, x, p1, p2, p3, p4⟩
  have lx : x.length = 20 := by rw [p1.length_eq, ly]
  refine ⟨rfl, bs ++ [x], y.drop 20, ?_, by simp [← h2, lx], ?_, by simpa using p3, h5.trans p4⟩
  · intro b hb
    rcases List.mem_append.1 hb with hb | hb
    · exact h1 b hb
    · simp at hb; subst hb; exact ⟨lx, p2⟩
  · refine List.Perm.trans ?_ h3
    rw [e]
    simp only [List.flatten_append, List.flatten_cons, List.flatten_nil, List.append_nil, List.append_assoc]
    exact List.Perm.append_left _ (List.Perm.append_right _ p1)

/-- Blocks of k and what is left. -/
def StaB (lt : α → α → Bool) (R : List α → World → Prop) (blk : Nat) (w0 : World) (d : List α) (k : Nat) (wr : World) : Prop :=
  ∃ (bs : List (List α)) (t : List α), Blks lt k bs ∧ Srt lt t ∧ t.length < k ∧ (bs.flatten ++ t).Perm d ∧ R (bs.flatten ++ t) wr ∧ Fr blk w0 wr

theorem StaA.last (S : Sorts g lb sf sb blk n lt R) (O : Strict lt) {w0 wr : World} {d : List α} {a : Nat} (h : StaA lt R blk w0 d a wr) (hn : n < a + 20) :
    Calls Tryz.prog 142 #[duo g lb sf sb, .int .i64 (a : Int), .int .i64 (n : Int)] wr fun e w' => e = .returned (.tuple #[]) ∧ StaB lt R blk w0 d 20 w' := by
  obtain ⟨bs, y, h1, h2, h3, h4, h5⟩ := h
  have hl := S.len _ _ h4
  simp only [List.length_append] at hl
  have h4' : R (bs.flatten ++ (y ++ [])) wr := by simpa using h4
  refine (ins_any S O h2 (by omega) h4').mono ?_
  rintro e' w' ⟨rfl, x, p1, p2, p3, p4⟩
  have lx := p1.length_eq
  exact ⟨rfl, bs, x, h1, p2, by omega, (List.Perm.append_left _ p1).trans h3, by simpa using p3, h5.trans p4⟩

/-- The inner loop: pairs of blocks become blocks of twice the length. -/
def StaC (lt : α → α → Bool) (R : List α → World → Prop) (blk : Nat) (w0 : World) (d : List α) (k a : Nat) (wr : World) : Prop :=
  ∃ (ds bs : List (List α)) (t : List α), Blks lt (2 * k) ds ∧ ds.flatten.length = a ∧ Blks lt k bs ∧ Srt lt t ∧ t.length < k ∧ (ds.flatten ++ (bs.flatten ++ t)).Perm d ∧ R (ds.flatten ++ (bs.flatten ++ t)) wr ∧ Fr blk w0 wr

theorem StaB.start {w0 wr : World} {d : List α} {k : Nat} (h : StaB lt R blk w0 d k wr) : StaC lt R blk w0 d k 0 wr := by
  obtain ⟨bs, t, h1, h2, h3, h4, h5, h6⟩ := h
  exact ⟨[], bs, t, (by intro b hb; cases hb), rfl, h1, h2, h3, by simpa using h4, by simpa using h5, h6⟩

theorem StaC.pair (S : Sorts g lb sf sb blk n lt R) (O : Strict lt) {w0 wr : World} {d : List α} {k a : Nat} (h : StaC lt R blk w0 d k a wr) (hk : 0 < k) (hn : a + 2 * k ≤ n) :
    Calls Tryz.prog 143 #[duo g lb sf sb, .int .i64 (a : Int), .int .i64 ((a + k : Nat) : Int), .int .i64 ((a + 2 * k : Nat) : Int)] wr fun e w' => e = .returned (.tuple #[]) ∧ StaC lt R blk w0 d k (a + 2 * k) w' := by
  obtain ⟨ds, bs, t, h1, h2, h3, h4, h5, h6, h7, h8⟩ := h
  have hl := S.len _ _ h7
  have hbl := blks_len h3
  simp only [List.length_append] at hl
  match bs, h3, h6, h7, hl, hbl with
  | [], _, _, _, hl, _ => rw [show ([] : List (List α)).flatten.length = 0 from rfl] at hl; omega
  | [b], h3, _, _, hl, _ =>
    have := (h3 b (by simp)).1
    rw [show ([b] : List (List α)).flatten.length = b.length by simp] at hl; omega
  | b1 :: b2 :: bs, h3, h6, h7, hl, hbl =>
    have q1 := h3 b1 (by simp)
    have q2 := h3 b2 (by simp)
    have e : ds.flatten ++ ((b1 :: b2 :: bs).flatten ++ t) = ds.flatten ++ (b1 ++ (b2 ++ (bs.flatten ++ t))) := by simp
    rw [e] at h7
    refine (sym_any S O (b1.length + b2.length + 1) ds.flatten b1 b2 (bs.flatten ++ t) a (a + k) (a + 2 * k) wr (by omega) (by omega) (by omega) h2 (by omega) (by omega) q1.2 q2.2 h7).mono ?_
    rintro e' w' ⟨rfl, x, p1, p2, p3, p4⟩
    have lx := p1.length_eq
    simp only [List.length_append] at lx
    refine ⟨rfl, ds ++ [x], bs, t, ?_, (by rw [List.flatten_append, List.length_append, h2]; simp only [List.flatten_cons, List.flatten_nil, List.append_nil]; omega), fun b hb => h3 b (by simp [hb]), h4, h5, ?_, by simpa using p3, h8.trans p4⟩
    · intro b hb
      rcases List.mem_append.1 hb with hb | hb
      · exact h1 b hb
      · simp at hb; subst hb; exact ⟨by omega, p2⟩
    · refine List.Perm.trans ?_ h6
      rw [e]
      simp only [List.flatten_append, List.flatten_cons, List.flatten_nil, List.append_nil, List.append_assoc]
      refine List.Perm.append_left _ ?_
      have := List.Perm.append_right (bs.flatten ++ t) p1
      simpa using this

theorem StaC.rest (S : Sorts g lb sf sb blk n lt R) (O : Strict lt) {w0 wr : World} {d : List α} {k a : Nat} (h : StaC lt R blk w0 d k a wr) (hn : n < a + 2 * k) (hm : a + k < n) :
    Calls Tryz.prog 143 #[duo g lb sf sb, .int .i64 (a : Int), .int .i64 ((a + k : Nat) : Int), .int .i64 (n : Int)] wr fun e w' => e = .returned (.tuple #[]) ∧ StaB lt R blk w0 d (2 * k) w' := by
  obtain ⟨ds, bs, t, h1, h2, h3, h4, h5, h6, h7, h8⟩ := h
  have hl := S.len _ _ h7
  have hbl := blks_len h3
  simp only [List.length_append] at hl
  match bs, h3, h6, h7, hl, hbl with
  | [], _, _, _, hl, _ => rw [show ([] : List (List α)).flatten.length = 0 from rfl] at hl; omega
  | [b], h3, h6, h7, hl, _ =>
    have q1 := h3 b (by simp)
    have e : ds.flatten ++ (([b] : List (List α)).flatten ++ t) = ds.flatten ++ (b ++ (t ++ [])) := by simp
    rw [e] at h7
    rw [show ([b] : List (List α)).flatten.length = b.length by simp] at hl
    refine (sym_any S O (b.length + t.length + 1) ds.flatten b t [] a (a + k) n wr (by omega) (by omega) (by omega) h2 (by omega) (by omega) q1.2 h4 h7).mono ?_
    rintro e' w' ⟨rfl, x, p1, p2, p3, p4⟩
    have lx := p1.length_eq
    simp only [List.length_append] at lx
    refine ⟨rfl, ds, x, h1, p2, by omega, ?_, by simpa using p3, h8.trans p4⟩
    refine List.Perm.trans (List.Perm.append_left _ p1) ?_
    simpa using h6
  | b1 :: b2 :: bs, h3, _, _, hl, hbl =>
    simp only [List.length_cons] at hbl
    have : (bs.length + 1 + 1) * k = bs.length * k + 2 * k := by rw [Nat.add_mul, Nat.add_mul]; omega
    omega

theorem StaC.none (S : Sorts g lb sf sb blk n lt R) {w0 wr : World} {d : List α} {k a : Nat} (h : StaC lt R blk w0 d k a wr) (hn : n < a + 2 * k) (hm : n ≤ a + k) : StaB lt R blk w0 d (2 * k) wr := by
  obtain ⟨ds, bs, t, h1, h2, h3, h4, h5, h6, h7, h8⟩ := h
  have hl := S.len _ _ h7
  have hbl := blks_len h3
  simp only [List.length_append] at hl
  match bs, h3, h6, h7, hl, hbl with
  | [], _, h6, h7, hl, _ => exact ⟨ds, t, h1, h4, by omega, by simpa using h6, by simpa using h7, h8⟩
  | [b], h3, h6, h7, hl, _ =>
    have q1 := h3 b (by simp)
    rw [show ([b] : List (List α)).flatten.length = b.length by simp] at hl
    have ht : t = [] := List.length_eq_zero_iff.1 (by omega)
    subst ht
    exact ⟨ds, b, h1, q1.2, by omega, by simpa using h6, by simpa using h7, h8⟩
  | b1 :: b2 :: bs, h3, _, _, hl, hbl =>
    simp only [List.length_cons] at hbl
    have : (bs.length + 1 + 1) * k = bs.length * k + 2 * k := by rw [Nat.add_mul, Nat.add_mul]; omega
    omega

theorem StaB.done (S : Sorts g lb sf sb blk n lt R) {w0 wr : World} {d : List α} {k : Nat} (h : StaB lt R blk w0 d k wr) (hn : n ≤ k) : ∃ x, x.Perm d ∧ Srt lt x ∧ R x wr ∧ Fr blk w0 wr := by
  obtain ⟨bs, t, h1, h2, h3, h4, h5, h6⟩ := h
  have hl := S.len _ _ h5
  have hbl := blks_len h1
  simp only [List.length_append] at hl
  refine ⟨bs.flatten ++ t, h4, ?_, h5, h6⟩
  match bs, h1, hl, hbl with
  | [], _, _, _ => simpa using h2
  | [b], h1, hl, _ =>
    have q := h1 b (by simp)
    rw [show ([b] : List (List α)).flatten.length = b.length by simp] at hl
    have ht : t = [] := List.length_eq_zero_iff.1 (by omega)
    subst ht
    simpa using q.2
  | b1 :: b2 :: bs, h1, hl, hbl =>
    simp only [List.length_cons] at hbl
    have : (bs.length + 1 + 1) * k = bs.length * k + 2 * k := by rw [Nat.add_mul, Nat.add_mul]; omega
    omega

end Go.Proofs.YtcmafidnaojkiaaGreatDoor
