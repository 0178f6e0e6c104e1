/-
  Sums of files that have the same names and hashes are the same (plain).
-/
import Derived.Test.YtkablmjkffdloaaGreatDoorFlsC
namespace Go.Proofs.YtkablmjkffdloaaGreatDoor
open Go.RowKit

theorem nmE_nodup : ∀ (l seen : List Bs), nmE seen l = 0 → l.Nodup ∧ ∀ x ∈ l, lowL x ∉ seen
  | [], _, _ => ⟨List.nodup_nil, by simp⟩
  | x :: r, seen, h => by
    simp only [nmE] at h
    split at h
    · cases h
    · split at h
      · cases h
      · rename_i h2
        obtain ⟨h3, h4⟩ := nmE_nodup r _ h
        refine ⟨List.nodup_cons.2 ⟨fun hm => (h4 x hm) (by simp), h3⟩, fun y hy => ?_⟩
        rcases List.mem_cons.1 hy with rfl | hy
        · exact h2
        · exact fun hm => h4 y hy (by simp [hm])

/-- A file's name and its bytes' hash. -/
abbrev Kh := Bs × Bs
def Stp (l : List Kh) : Prop := l.Pairwise fun a b => Lib.compareBytes a.1 b.1 < 0
theorem stp_sub : ∀ (l m : List Kh), Stp l → Stp m → (∀ x ∈ l, x ∈ m) → l.length ≤ m.length
  | [], _, _, _, _ => Nat.zero_le _
  | a :: l, [], _, _, h => by have := h a (by simp); cases this
  | a :: l, b :: m, hl, hm, h => by
    have hl' := List.pairwise_cons.1 hl
    have hm' := List.pairwise_cons.1 hm
    have self : ∀ z : Bs, ¬ Lib.compareBytes z z < 0 := fun z => by rw [orders_bytes.self]; omega
    by_cases hab : a = b
    · subst hab
      have := stp_sub l m hl'.2 hm'.2 (fun x hx => by
        rcases List.mem_cons.1 (h x (by simp [hx])) with rfl | h1
        · exact absurd (hl'.1 x hx) (self _)
        · exact h1)
      simp
      omega
    · have ha : a ∈ m := by
        rcases List.mem_cons.1 (h a (by simp)) with h1 | h1
        · exact absurd h1 hab
        · exact h1
      have hba := hm'.1 a ha
      have := stp_sub (a :: l) m hl hm'.2 (fun x hx => by
        rcases List.mem_cons.1 (h x hx) with rfl | h1
        · exfalso
          rcases List.mem_cons.1 hx with h2 | h2
          · exact hab h2.symm
          · exact self _ (orders_bytes.lt _ _ _ hba (hl'.1 x h2))
        · exact h1)
      simp at this ⊢
      omega
theorem stp_eq : ∀ (l m : List Kh), Stp l → Stp m → (∀ x ∈ l, x ∈ m) → l.length = m.length → l = m
  | [], [], _, _, _, _ => rfl
  | [], _ :: _, _, _, _, h => by simp at h
  | _ :: _, [], _, _, _, h => by simp at h
  | a :: l, b :: m, hl, hm, h, hlen => by
    have hl' := List.pairwise_cons.1 hl
    have hm' := List.pairwise_cons.1 hm
    have self : ∀ z : Bs, ¬ Lib.compareBytes z z < 0 := fun z => by rw [orders_bytes.self]; omega
    by_cases hab : a = b
    · subst hab
      rw [stp_eq l m hl'.2 hm'.2 (fun x hx => by
        rcases List.mem_cons.1 (h x (by simp [hx])) with rfl | h1
        · exact absurd (hl'.1 x hx) (self _)
        · exact h1) (by simpa using hlen)]
    · exfalso
      have ha : a ∈ m := by
        rcases List.mem_cons.1 (h a (by simp)) with h1 | h1
        · exact absurd h1 hab
        · exact h1
      have hba := hm'.1 a ha
      have := stp_sub (a :: l) m hl hm'.2 (fun x hx => by
        rcases List.mem_cons.1 (h x hx) with rfl | h1
        · exfalso
          rcases List.mem_cons.1 hx with h2 | h2
          · exact hab h2.symm
          · exact self _ (orders_bytes.lt _ _ _ hba (hl'.1 x h2))
        · exact h1)
      simp at this hlen
      omega
def khF (dat : Fl → Bs) (x : Fl) : Kh := (x.nm, shaL (dat x))
theorem rising_stp {l : List Fl} {dat : Fl → Bs} (hr : Rising l) (hn : (l.map Fl.nm).Nodup) : Stp (l.map (khF dat)) := by
  unfold Stp
  rw [List.pairwise_iff_getElem]
  intro i j hi hj hij
  simp at hi hj
  have h1 := hr i j hi hj hij
  have h2 := List.pairwise_iff_getElem.1 hn i j (by simpa using hi) (by simpa using hj) hij
  simp only [List.getElem_map] at h2 ⊢
  unfold cmpN at h1
  have t := orders_bytes.turn l[i].nm l[j].nm
  have h3 : Lib.compareBytes l[i].nm l[j].nm ≠ 0 := fun e => h2 ((orders_bytes.eq _ _).1 e)
  show Lib.compareBytes l[i].nm l[j].nm < 0
  omega
theorem lines_kh (dat : Fl → Bs) (l : List Fl) : linesF dat l = (l.map (khF dat)).flatMap fun p => hexL p.2 ++ (32 :: 32 :: (p.1 ++ [10])) := by
  unfold linesF
  rw [List.flatMap_map]
  rfl
theorem sums_same {xs ys xs' ys' : List Fl} {dx dy : Fl → Bs} (hx : nmE [] (xs.map Fl.nm) = 0) (hy : nmE [] (ys.map Fl.nm) = 0) (hp : xs'.Perm xs) (hq : ys'.Perm ys) (rx : Rising xs') (ry : Rising ys') (hl : xs.length = ys.length) (hm : ∀ x ∈ xs, ∃ y ∈ ys, y.nm = x.nm ∧ shaL (dy y) = shaL (dx x)) : sumF dx xs' = sumF dy ys' := by
  have nx : (xs'.map Fl.nm).Nodup := (hp.map Fl.nm).nodup_iff.2 (nmE_nodup _ _ hx).1
  have ny : (ys'.map Fl.nm).Nodup := (hq.map Fl.nm).nodup_iff.2 (nmE_nodup _ _ hy).1
  have e := stp_eq _ _ (rising_stp (dat := dx) rx nx) (rising_stp (dat := dy) ry ny) (fun p hp2 => by
    obtain ⟨x, hx2, rfl⟩ := List.mem_map.1 hp2
    obtain ⟨y, hy2, e1, e2⟩ := hm x (hp.mem_iff.1 hx2)
    exact List.mem_map.2 ⟨y, hq.mem_iff.2 hy2, by unfold khF; rw [e1, e2]⟩) (by rw [List.length_map, List.length_map, hp.length_eq, hq.length_eq, hl])
  unfold sumF
  rw [lines_kh, lines_kh, e]
end Go.Proofs.YtkablmjkffdloaaGreatDoor
