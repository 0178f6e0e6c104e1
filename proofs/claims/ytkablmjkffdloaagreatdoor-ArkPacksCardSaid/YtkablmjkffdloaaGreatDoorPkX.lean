/-
  The program and the reference pack, sum, strip and add alike: the law's walk.
-/
import Derived.Test.YtkablmjkffdloaaGreatDoorRPkX
import Derived.Test.YtkablmjkffdloaaGreatDoorRHoX
import Derived.Test.YtkablmjkffdloaaGreatDoorUnpV
import Derived.Test.YtkablmjkffdloaaGreatDoorTelY
import Derived.Test.YtkablmjkffdloaaGreatDoorRAdX
import Derived.Test.YtkablmjkffdloaaGreatDoorRUnY
namespace Go.Proofs.YtkablmjkffdloaaGreatDoor
open Go.RowKit

/-- The error and the archive of files. -/
def PkV (M : List Nd) (E : Int) (Z : Bs) : Prop :=
  (100 < M.length ∧ E = 14) ∨ (M.length ≤ 100 ∧ ((nmE [] (M.map Prod.fst) ≠ 0 ∧ E = nmE [] (M.map Prod.fst)) ∨ (nmE [] (M.map Prod.fst) = 0 ∧ ((1048576 < 22 + sizesL M ∧ E = 13) ∨ (22 + sizesL M ≤ 1048576 ∧ E = 0 ∧ ∃ zs : List Nd, zs.Perm M ∧ Stp zs ∧ Z = arcL zs)))))
theorem pk_one {M : List Nd} {E E' : Int} {Z Z' : Bs} (h : PkV M E Z) (k : PkV M E' Z') : E = E' ∧ (E = 0 → Z = Z') := by
  rcases h with ⟨h1, rfl⟩ | ⟨h1, h2⟩ <;> rcases k with ⟨k1, rfl⟩ | ⟨k1, k2⟩
  · exact ⟨rfl, fun e => by cases e⟩
  · omega
  · omega
  · rcases h2 with ⟨h3, rfl⟩ | ⟨h3, h4⟩ <;> rcases k2 with ⟨k3, rfl⟩ | ⟨k3, k4⟩
    · exact ⟨rfl, fun e => absurd e h3⟩
    · exact absurd k3 h3
    · exact absurd h3 k3
    · rcases h4 with ⟨h5, rfl⟩ | ⟨h5, rfl, zs, h6, h7, rfl⟩ <;> rcases k4 with ⟨k5, rfl⟩ | ⟨k5, rfl, ys, k6, k7, rfl⟩
      · exact ⟨rfl, fun e => by cases e⟩
      · omega
      · omega
      · exact ⟨rfl, fun _ => by rw [stp_perm h7 k7 (h6.trans k6.symm)]⟩
def PkE (base : Nat) (M : List Nd) (e : Ending) (w' : World) : Prop := ∃ E Z, PkV M E Z ∧ ((E ≠ 0 ∧ e = .returned (.tuple #[.slice none 0 0, .int .i64 E])) ∨ (E = 0 ∧ ∃ v, e = .returned (.tuple #[v, .int .i64 0]) ∧ OwnB base w' v Z))
theorem fst_map (dat : Fl → Bs) (xs : List Fl) : (xs.map (ndF dat)).map Prod.fst = xs.map Fl.nm := by rw [List.map_map]; rfl
theorem pk_of {base : Nat} {dat : Fl → Bs} {xs : List Fl} {M : List Nd} {e : Ending} {w' : World} (hM : xs.map (ndF dat) = M) (hn : xs.length ≤ 100) (h : PackS base dat xs e w') : PkE base M e w' := by
  subst hM
  have hl : (xs.map (ndF dat)).length ≤ 100 := by rw [List.length_map]; exact hn
  rcases h with ⟨h1, rfl⟩ | ⟨h1, h2, rfl⟩ | ⟨h1, h2, v, ys, rfl, h3, h4, h5⟩
  · exact ⟨_, [], Or.inr ⟨hl, Or.inl ⟨by rw [fst_map]; exact h1, by rw [fst_map]⟩⟩, Or.inl ⟨h1, rfl⟩⟩
  · exact ⟨13, [], Or.inr ⟨hl, Or.inr ⟨by rw [fst_map]; exact h1, Or.inl ⟨h2, rfl⟩⟩⟩, Or.inl ⟨by decide, rfl⟩⟩
  · refine ⟨0, arcL (ys.map (ndF dat)), Or.inr ⟨hl, Or.inr ⟨by rw [fst_map]; exact h1, Or.inr ⟨h2, rfl, ys.map (ndF dat), h3.map _, ?_, rfl⟩⟩⟩, Or.inr ⟨rfl, v, rfl, h5⟩⟩
    exact stp_of (g := dat) h4 ((h3.map Fl.nm).nodup_iff.2 (nmE_nodup _ _ h1).1)
theorem pk_many {base : Nat} {M : List Nd} {w' : World} (h : 100 < M.length) : PkE base M (.returned (.tuple #[.slice none 0 0, .int .i64 14])) w' := ⟨14, [], Or.inl ⟨h, rfl⟩, Or.inl ⟨by decide, rfl⟩⟩
theorem packP {w : World} {a : Option Addr} {n c : Nat} {xs : List Fl} {dat : Fl → Bs} {M : List Nd} (hM : xs.map (ndF dat) = M) (hg : Ml w) (hx : xs.length = n) (hform : (a = none ∧ n = 0 ∧ c = 0) ∨ ∃ B O, a = some ⟨B, O, none⟩) (hc : n ≤ c) (h : FAt w a xs) (hd : DatG w xs dat) :
    Calls Tryz.prog 18 #[.slice a n c] w fun e w' => PkE w.heap.size M e w' ∧ Below w.heap.size w w' := by
  by_cases h1 : 100 < n
  · refine (pack_many h1).mono ?_
    rintro e w' ⟨rfl, rfl⟩
    exact ⟨pk_many (by rw [← hM, List.length_map, hx]; exact h1), Below.refl _ _⟩
  · refine (pack_any hg hx (by omega) hform hc h hd).mono ?_
    rintro e w' ⟨h2, h3⟩
    exact ⟨pk_of hM (by omega) h2, h3⟩
theorem packR {w : World} {a : Option Addr} {n c : Nat} {xs : List Fl} {dat : Fl → Bs} {M : List Nd} (hM : xs.map (ndF dat) = M) (hx : xs.length = n) (hn : n ≤ 1000) (h : FAt w a xs) (hd : DatG w xs dat) :
    Calls Tryz.prog 39 #[.slice a n c] w fun e w' => PkE w.heap.size M e w' ∧ Below w.heap.size w w' := by
  refine (refPack_any hx hn h hd).mono ?_
  rintro e w' ⟨⟨h1, rfl⟩ | ⟨h1, h2⟩, h3⟩
  · exact ⟨pk_many (by rw [← hM, List.length_map, hx]; exact h1), h3⟩
  · exact ⟨pk_of hM (by omega) h2, h3⟩
/-- Two sums of the same files are one. -/
theorem h1_same {xs ys : List Fl} {dx dy : Fl → Bs} {e f : Ending} (hM : xs.map (ndF dx) = ys.map (ndF dy)) (h : H1Said dx xs e) (k : H1Said dy ys f) : e = f := by
  have hnm : xs.map Fl.nm = ys.map Fl.nm := by rw [← fst_map dx, ← fst_map dy, hM]
  rcases h with ⟨h1, zs, h2, h3, rfl⟩ | ⟨h1, rfl⟩ <;> rcases k with ⟨k1, us, k2, k3, rfl⟩ | ⟨k1, rfl⟩
  · have hl : xs.length = ys.length := by have := congrArg List.length hM; simpa using this
    rw [sums_same h1 k1 h2 k2 h3 k3 hl (fun x hx => by
      have : ndF dx x ∈ ys.map (ndF dy) := by rw [← hM]; exact List.mem_map_of_mem hx
      obtain ⟨y, hy, e⟩ := List.mem_map.1 this
      refine ⟨y, hy, congrArg Prod.fst e, ?_⟩
      have e2 := congrArg Prod.snd e
      show shaL (dy y) = shaL (dx x)
      rw [show dy y = dx x from e2])]
  · rw [hnm] at h1
    exact absurd h1 k1
  · rw [hnm] at h1
    exact absurd k1 h1
  · rw [hnm]
end Go.Proofs.YtkablmjkffdloaaGreatDoor

namespace Go.Proofs.YtkablmjkffdloaaGreatDoor
open Go.RowKit

/-- What stripping says: the error, the files. -/
def StV (M : List Nd) (P : Bs) (E : Int) (l : List Nd) : Prop :=
  ((∃ x ∈ M, okP P x.1 = false) ∧ E = 1 ∧ l = []) ∨ ((∀ x ∈ M, okP P x.1 = true) ∧ E = 0 ∧ l = M.map fun x => (x.1.drop P.length, x.2))
theorem st_one {M : List Nd} {P : Bs} {E E' : Int} {l l' : List Nd} (h : StV M P E l) (k : StV M P E' l') : E = E' ∧ l = l' := by
  rcases h with ⟨⟨x, hx, h1⟩, rfl, rfl⟩ | ⟨h1, rfl, rfl⟩ <;> rcases k with ⟨⟨y, hy, k1⟩, rfl, rfl⟩ | ⟨k1, rfl, rfl⟩
  · exact ⟨rfl, rfl⟩
  · rw [k1 x hx] at h1; cases h1
  · rw [h1 y hy] at k1; cases k1
  · exact ⟨rfl, rfl⟩
def adV (P : Bs) (M : List Nd) : List Nd := M.map fun x => (P ++ x.1, x.2)
theorem dat_form {w : World} {xs : List Fl} {dat : Fl → Bs} (hd : DatG w xs dat) : ∀ x ∈ xs, (x.a = none ∨ (∃ B O, x.a = some ⟨B, O, none⟩) ∨ ∃ y, x.a = some y ∧ x.n = 0 ∧ x.c = 0) ∧ x.n ≤ 1073741824 := fun x hx => ⟨hd.form x hx, by have := hd.few x hx; omega⟩
theorem RU.fd {w0 w : World} {v4 v5 : Value} {ys : List Fl} {L : List Sf} {ss : List Nat} (h : RU w0 w v4 v5 ys L ss) : ∃ a c, v4 = .slice a L.length c ∧ FdAt w a (L.map sfN) := by
  obtain ⟨a, c, hv, hat, -⟩ := FRow.at h.l
  have hlen := h.len
  refine ⟨a, c, by rw [hv, hlen], ys, by rw [h.nm, List.map_map]; rfl, hat, by simp [hlen], fun k h1 h2 => ?_⟩
  have h3 : k < L.length := by omega
  obtain ⟨e, o, -⟩ := h.one k h1 h3
  rw [List.getElem_map, List.getElem_map]
  exact ⟨e, (own_parts o).1⟩
theorem stripP {w : World} {a : Option Addr} {n c : Nat} {xs : List Fl} {dat : Fl → Bs} {M : List Nd} {p v : Bs} (hM : xs.map (ndF dat) = M) (hp : p.length ≤ 1000000) (hv : v.length ≤ 1000000) (hx : xs.length = n) (hn : n ≤ 1000) (h : FAt w a xs) (hd : DatG w xs dat) :
    Calls Tryz.prog 42 #[.slice a n c, .agg #[.string (ba p), .string (ba v)]] w fun e w' => (∃ E l a' k c', e = .returned (.tuple #[.slice a' k c', .int .i64 E]) ∧ l.length = k ∧ FdAt w' a' l ∧ StV M (preL p v) E l) ∧ Below w.heap.size w w' := by
  subst hM
  refine (stripG_any hp hv hx hn h hd.one (dat_form hd) (fun x hx => by have := hd.nm x hx; omega)).mono ?_
  rintro e w' ⟨⟨⟨x, hx2, h1⟩, rfl⟩ | ⟨h1, A, ys, rfl, h2, h3, h4⟩, hb⟩
  · exact ⟨⟨1, [], none, 0, 0, rfl, rfl, fd_nil _, Or.inl ⟨⟨_, List.mem_map_of_mem hx2, h1⟩, rfl, rfl⟩⟩, hb⟩
  · refine ⟨⟨0, (xs.map (ndF dat)).map fun x => (x.1.drop (preL p v).length, x.2), some ⟨A, 0, none⟩, n, n, rfl, by simp [hx], ⟨ys, ?_, h3, ?_⟩, Or.inr ⟨fun x hx2 => ?_, rfl, rfl⟩⟩, hb⟩
    · rw [h2, List.map_map, List.map_map, List.map_map]
      rfl
    · rw [List.map_map, List.map_map]
      exact h4
    · obtain ⟨y, hy, rfl⟩ := List.mem_map.1 hx2
      exact h1 y hy
theorem stripR {w : World} {a : Option Addr} {n c : Nat} {xs : List Fl} {dat : Fl → Bs} {M : List Nd} {p v : Bs} (hM : xs.map (ndF dat) = M) (hp : p.length ≤ 1000000) (hv : v.length ≤ 1000000) (hx : xs.length = n) (hn : n ≤ 1000) (h : FAt w a xs) (hd : DatG w xs dat) :
    Calls Tryz.prog 43 #[.slice a n c, .agg #[.string (ba p), .string (ba v)]] w fun e w' => (∃ E l a' k c', e = .returned (.tuple #[.slice a' k c', .int .i64 E]) ∧ l.length = k ∧ FdAt w' a' l ∧ StV M (preL p v) E l) ∧ Below w.heap.size w w' := by
  subst hM
  refine (refStrip_any hp hv hx hn h hd).mono ?_
  rintro e w' ⟨⟨⟨x, hx2, h1⟩, rfl⟩ | ⟨h1, r, ys, rfl, h2⟩, hb⟩
  · exact ⟨⟨1, [], none, 0, 0, rfl, rfl, fd_nil _, Or.inl ⟨⟨_, List.mem_map_of_mem hx2, h1⟩, rfl, rfl⟩⟩, hb⟩
  · obtain ⟨a', c', rfl, hf⟩ := h2.fd
    have e : (xs.map (sfS (preL p v) dat)).map sfN = (xs.map (ndF dat)).map fun x => (x.1.drop (preL p v).length, x.2) := by
      rw [List.map_map, List.map_map]
      rfl
    rw [e] at hf
    exact ⟨⟨0, _, a', _, c', rfl, by simp, hf, Or.inr ⟨fun x hx2 => by
      obtain ⟨y, hy, rfl⟩ := List.mem_map.1 hx2
      exact h1 y hy, rfl, rfl⟩⟩, hb⟩
theorem addP {w : World} {a : Option Addr} {n c : Nat} {xs : List Fl} {dat : Fl → Bs} {M : List Nd} {p v : Bs} (hM : xs.map (ndF dat) = M) (hp : p.length ≤ 1000000) (hv : v.length ≤ 1000000) (hx : xs.length = n) (hn : n ≤ 1000) (h : FAt w a xs) (hd : DatG w xs dat) :
    Calls Tryz.prog 44 #[.slice a n c, .agg #[.string (ba p), .string (ba v)]] w fun e w' => ∃ A, e = .returned (.slice (some ⟨A, 0, none⟩) n n) ∧ FdOwn w.heap.size w' A (adV (preL p v) M) ∧ Below w.heap.size w w' := by
  subst hM
  refine (addO_any hp hv hx hn h hd.one (dat_form hd) (fun x hx => by have := hd.nm x hx; omega)).mono ?_
  rintro e w' ⟨A, ys, rfl, h1, h2, h3, hb⟩
  have hln : (adV (preL p v) (xs.map (ndF dat))).length = n := by unfold adV; simp [hx]
  refine ⟨A, rfl, ⟨ys, ?_, by rw [hln]; exact h2, ?_⟩, hb⟩
  · rw [h1]
    unfold adV
    rw [List.map_map, List.map_map, List.map_map]
    rfl
  · unfold adV
    rw [List.map_map, List.map_map]
    exact h3
theorem addR {w : World} {a : Option Addr} {n c : Nat} {xs : List Fl} {dat : Fl → Bs} {M : List Nd} {p v : Bs} (hM : xs.map (ndF dat) = M) (hp : p.length ≤ 1000000) (hv : v.length ≤ 1000000) (hx : xs.length = n) (hn : n ≤ 1000) (h : FAt w a xs) (hd : DatG w xs dat) :
    Calls Tryz.prog 45 #[.slice a n c, .agg #[.string (ba p), .string (ba v)]] w fun e w' => ∃ a' c', e = .returned (.slice a' n c') ∧ FdAt w' a' (adV (preL p v) M) ∧ Below w.heap.size w w' := by
  subst hM
  refine (refAdd_any hp hv hx hn h hd).mono ?_
  rintro e w' ⟨r, ys, rfl, h2⟩
  obtain ⟨a', c', rfl, hf⟩ := h2.fd
  have e : (xs.map (sfA (preL p v) dat)).map sfN = adV (preL p v) (xs.map (ndF dat)) := by
    unfold adV
    rw [List.map_map, List.map_map]
    rfl
  rw [e] at hf
  exact ⟨a', c', by rw [List.length_map, hx], hf, h2.low⟩
/-- The error and the bytes that packing hands out. -/
def PkT (M : List Nd) (E : Int) (T : Bs) : Prop := (∃ Z, PkV M E Z ∧ (E ≠ 0 → T = []) ∧ (E = 0 → T = Z)) ∧ T.length ≤ 1048576
theorem pkt_one {M : List Nd} {E E' : Int} {T T' : Bs} (h : PkT M E T) (k : PkT M E' T') : E = E' ∧ T = T' := by
  obtain ⟨⟨Z, h1, h2, h3⟩, -⟩ := h
  obtain ⟨⟨Z', k1, k2, k3⟩, -⟩ := k
  obtain ⟨e, f⟩ := pk_one h1 k1
  refine ⟨e, ?_⟩
  by_cases h0 : E = 0
  · rw [h3 h0, k3 (by rw [← e]; exact h0), f h0]
  · rw [h2 h0, k2 (by rw [← e]; exact h0)]
theorem pk_len {M : List Nd} {Z : Bs} (h : PkV M 0 Z) : Z.length ≤ 1048576 := by
  rcases h with ⟨_, e⟩ | ⟨_, ⟨h1, e⟩ | ⟨_, ⟨_, e⟩ | ⟨h2, _, zs, h3, _, rfl⟩⟩⟩
  · cases e
  · exact absurd e.symm h1
  · cases e
  · rw [arc_len, sizes_perm h3]
    omega
theorem PkE.form {B : Nat} {M : List Nd} {e : Ending} {w' : World} (h : PkE B M e w') : ∃ E T a c, e = .returned (.tuple #[.slice a T.length c, .int .i64 E]) ∧ BAt w' a T ∧ PkT M E T := by
  obtain ⟨E, Z, h1, ⟨h2, rfl⟩ | ⟨rfl, v, rfl, h3⟩⟩ := h
  · exact ⟨E, [], none, 0, rfl, ⟨Or.inl rfl⟩, ⟨Z, h1, fun _ => rfl, fun e => absurd e h2⟩, by simp⟩
  · obtain ⟨a, c, rfl, hat, -, -⟩ := OwnB.at h3
    exact ⟨0, Z, a, c, rfl, hat, ⟨Z, h1, fun e => absurd rfl e, fun _ => rfl⟩, pk_len h1⟩
theorem Mu.up {w0 w : World} {A i j : Nat} {ys : List Fl} (h : Mu w0 w A i ys) (hij : i ≤ j) : Mu w0 w A j ys :=
  ⟨h.low, h.sz, by obtain ⟨cs, hb, hc⟩ := h.row; exact ⟨cs, hb, fun k hk h2 => hc k hk (by omega)⟩, fun k hk h2 => h.one k hk (by omega), h.ap⟩
theorem Mu.put1 {w0 w : World} {A i g k : Nat} {ys : List Fl} (h : Mu w0 w A i ys) (hi : i < ys.length) (ha : ys[i].a = some ⟨g, 0, none⟩) : Mu w0 (w.setCell ⟨g, k, none⟩ (.int .u8 1)) A i ys := by
  have hown : (flV ys[i]).ownBlock = some g := by unfold flV; rw [ha]; rfl
  obtain ⟨d, e, hd, o, n⟩ := h.one i hi (Nat.le_refl _)
  have hgA : g ≠ A := fun e => n (by rw [hown, e])
  have hgb := OwnB.base o g hown
  refine ⟨low_set h.low hgb _, h.sz, ?_, fun j hj hij => ?_, h.ap⟩
  · obtain ⟨cs, hb, hc⟩ := h.row
    exact ⟨cs, Blk.other hb (by show A ≠ g; exact fun e => hgA e.symm) _, hc⟩
  · by_cases hji : j = i
    · subst hji
      refine ⟨d.set k 1, by rw [List.length_set]; exact e, by rw [List.length_set]; exact hd, ?_, n⟩
      have o2 := o
      unfold flV at o2 ⊢
      rw [ha] at o2 ⊢
      exact OwnB.put o2 k 1
    · obtain ⟨d2, e2, hd2, o2, n2⟩ := h.one j hj hij
      refine ⟨d2, e2, hd2, OwnB.keep o2 fun q hq => Below.heap_setCell _ _ _ _ ?_, n2⟩
      show q ≠ g
      intro e
      subst e
      exact h.ap i j hi hj (by omega) q hq hown
end Go.Proofs.YtkablmjkffdloaaGreatDoor

namespace Go.Proofs.YtkablmjkffdloaaGreatDoor
open Go.RowKit

set_option maxRecDepth 100000 in
set_option maxHeartbeats 16000000 in
theorem packs_law {w : World} {a : Option Addr} {n c : Nat} {xs : List Fl} {dx : Fl → Bs} {p v s : Bs} (hg : Ml w) (hx : xs.length = n) (hn : n ≤ 9223372036854775807) (_hc : n ≤ c) (ha : (a = none ∧ n = 0 ∧ c = 0) ∨ ∃ B O, a = some ⟨B, O, none⟩) (hX : FAt w a xs) (hDX : DatW w xs dx) :
    Calls Tryz.prog 5 #[.slice a n c, .agg #[.string (ba p), .string (ba v)], .string (ba s)] w fun e w' => e = .returned (.bool true) ∧ Below w.heap.size w w' := by
  obtain ⟨S, hS⟩ : ∃ S, w.heap.size = S := ⟨_, rfl⟩
  obtain ⟨W1, hW1⟩ : ∃ W1, w.alloc (.cells #[.string (ba p), .string (ba v)] 45) = W1 := ⟨_, rfl⟩
  have b1 : Below w.heap.size w W1 := by rw [← hW1]; exact lowAA (Below.refl _ _) _
  have q1 : Blk W1 S #[.string (ba p), .string (ba v)] 45 := by rw [← hW1, ← hS]; exact Blk.new _ _ _
  have HG := hide hg
  have HXN := hide hx
  have HA := hide ha
  have HX := hide hX
  have HDX := hide hDX
  have HB1 := hide b1
  have HQ1 := hide q1
  have HW1 := hide hW1
  have HS := hide hS
  obtain ⟨pl, hpl⟩ : ∃ pl, p.length = pl := ⟨_, rfl⟩
  obtain ⟨vl, hvl⟩ : ∃ vl, v.length = vl := ⟨_, rfl⟩
  obtain ⟨sl, hsl⟩ : ∃ sl, s.length = sl := ⟨_, rfl⟩
  have hsp : (ba p).size = pl := by rw [ba_size]; exact hpl
  have hsv : (ba v).size = vl := by rw [ba_size]; exact hvl
  have hss : (ba s).size = sl := by rw [ba_size]; exact hsl
  have HPL := hide hpl
  have HVL := hide hvl
  have HSL := hide hsl
  clear hg hx ha hX hDX b1 q1 hW1 hS hpl hvl hsl
  go_enter Tryz.func5, Tryz.ntmps5
  go_wp2_with (go_at_call 16; fail)
  rw [unhide HW1, unhide HS]
  refine (first_any W1).mono ?_
  rintro e w2 ⟨rfl, b2⟩
  have HB2 := hide (low_trans (unhide HB1) b2)
  have HQ2 := hide ((unhide HQ1).low b2)
  clear b2
  have K1 := hide (fewF_any (c := c) (unhide HXN) hn ((unhide HX).low (unhide HB2)))
  go_wp2_with (go_at_call 17; fail)
  refine (unhide K1).mono ?_
  rintro e wn ⟨⟨f1, rfl, hf1⟩, hwn⟩
  rw [hwn]
  clear hwn wn K1
  have HF1 := hide hf1
  have x0 := (unhide HQ2).cell 0
  have x1 := (unhide HQ2).cell 1
  clear hf1
  cases f1 with
  | false =>
    go_wp2
    go_ret
    exact ⟨rfl, unhide HB2⟩
  | true =>
    by_cases g1 : 110 < n
    · have a1 : (110 : Int) < (n : Int) := by omega
      go_wp2
      go_ret
      exact ⟨rfl, unhide HB2⟩
    have a1 : ¬ (110 : Int) < (n : Int) := by omega
    by_cases g2 : 4000 < pl
    · have a2 : (4000 : Int) < (pl : Int) := by omega
      go_wp2
      go_ret
      exact ⟨rfl, unhide HB2⟩
    have a2 : ¬ (4000 : Int) < (pl : Int) := by omega
    by_cases g3 : 4000 < vl
    · have a3 : (4000 : Int) < (vl : Int) := by omega
      go_wp2
      go_ret
      exact ⟨rfl, unhide HB2⟩
    have a3 : ¬ (4000 : Int) < (vl : Int) := by omega
    by_cases g4 : 4000 < sl
    · have a4 : (4000 : Int) < (sl : Int) := by omega
      go_wp2
      go_ret
      exact ⟨rfl, unhide HB2⟩
    have a4 : ¬ (4000 : Int) < (sl : Int) := by omega
    have HGX := hide ((unhide HDX).small (unhide HF1 (by first | trivial | rfl)))
    have hpb : p.length ≤ 1000000 := by have := unhide HPL; omega
    have hvb : v.length ≤ 1000000 := by have := unhide HVL; omega
    have HPB := hide hpb
    have HVB := hide hvb
    obtain ⟨M, hM⟩ : ∃ M, xs.map (ndF dx) = M := ⟨_, rfl⟩
    have HM := hide hM
    have HMS : Hid (∀ x ∈ M, x.2.length ≤ 1048576) := hide (fun x hx => by
      rw [← hM] at hx
      obtain ⟨y, hy, rfl⟩ := List.mem_map.1 hx
      show (dx y).length ≤ 1048576
      rw [(unhide HGX).len y hy]
      exact (unhide HGX).few y hy)
    have HML : Hid (M.length = n) := hide (by rw [← hM, List.length_map]; exact unhide HXN)
    clear hM HF1 HDX hpb hvb
    have KF := hide (refFiles_any (c := c) (unhide HXN) (by omega) ((unhide HX).low (unhide HB2)) ((unhide HGX).low (unhide HB2)))
    go_wp2_with (go_at_call 38; fail)
    refine (unhide KF).mono ?_
    rintro e w3 ⟨v9, ys, rfl, hru⟩
    have HB3 := hide (low_trans (unhide HB2) hru.low)
    have HQ3 := hide ((unhide HQ2).low hru.low)
    have hyn : ys.length = n := by rw [hru.len, List.length_map]; exact unhide HXN
    obtain ⟨hdy, hmy⟩ := hru.datg (fun s hs => by
      obtain ⟨x, hx2, rfl⟩ := List.mem_map.1 hs
      show (dx x).length ≤ 1048576
      rw [(unhide HGX).len x hx2]
      exact (unhide HGX).few x hx2) (fun s hs => by
      obtain ⟨x, hx2, rfl⟩ := List.mem_map.1 hs
      exact (unhide HGX).nm x hx2)
    rw [sfd_nd, unhide HM] at hmy
    obtain ⟨a9, c9, rfl, hat9, hc9, hf9⟩ := FRow.adr hru.l
    rw [hyn] at hc9 hf9 ⊢
    have HYN := hide hyn
    have HDY := hide hdy
    have HMY := hide hmy
    have HAT9 := hide hat9
    have HF9 := hide hf9
    clear hru hyn hdy hmy hat9 hf9 x0 x1 KF
    have KP := hide (packP (w := w3) (unhide HMY) ((unhide HG).low (unhide HB3)) (unhide HYN) (unhide HF9) hc9 (unhide HAT9) (unhide HDY))
    go_wp2_with (go_at_call 18; fail)
    refine (unhide KP).mono ?_
    rintro e w4 ⟨hp4, b4⟩
    obtain ⟨E, T, pa, pc, rfl, tat, hkt⟩ := hp4.form
    have HB4 := hide (low_trans (unhide HB3) b4)
    have HR4 := hide b4
    have HT4 := hide tat
    have HKT := hide hkt
    clear hp4 tat b4 hkt KP
    have KR := hide (packR (w := w4) (c := c) (unhide HM) (unhide HXN) (by omega) ((unhide HX).low (unhide HB4)) ((unhide HGX).low (unhide HB4)))
    go_wp2_with (go_at_call 39; fail)
    refine (unhide KR).mono ?_
    rintro e w5 ⟨hp5, b5⟩
    obtain ⟨E', T', pa2, pc2, rfl, tat2, hkt2⟩ := hp5.form
    obtain ⟨hE, hT⟩ := pkt_one (unhide HKT) hkt2
    subst hE
    subst hT
    have HB5 := hide (low_trans (unhide HB4) b5)
    have HR5 := hide (low_trans (unhide HR4) b5)
    have HT5 := hide ((unhide HT4).low b5)
    have HU5 := hide tat2
    clear hp5 tat2 b5 hkt2 KR
    have K40 := hide (h1_any (w := w5) ((unhide HG).low (unhide HB5)) (unhide HYN) (unhide HF9) ((unhide HAT9).low (unhide HR5)) (by omega) hc9 ((unhide HDY).low (unhide HR5)))
    go_wp2_with (go_at_call 40; fail)
    refine (unhide K40).mono ?_
    rintro e w6 ⟨hs6, b6⟩
    obtain ⟨S1, F1, hes, -⟩ := H1Said.r hs6
    subst hes
    have HH6 := hide hs6
    have HB6 := hide (low_trans (unhide HB5) b6)
    have HR6 := hide (low_trans (unhide HR5) b6)
    have HT6 := hide ((unhide HT5).low b6)
    have HU6 := hide ((unhide HU5).low b6)
    clear hs6 b6 K40
    have K41 := hide (refH1_any (w := w6) (c := c) (unhide HXN) (by omega) ((unhide HX).low (unhide HB6)) ((unhide HGX).low (unhide HB6)))
    go_wp2_with (go_at_call 41; fail)
    refine (unhide K41).mono ?_
    rintro e w7 ⟨hs7, b7⟩
    have hee := h1_same ((unhide HMY).trans (unhide HM).symm) (unhide HH6) hs7
    subst hee
    have HB7 := hide (low_trans (unhide HB6) b7)
    have HR7 := hide (low_trans (unhide HR6) b7)
    have HT7 := hide ((unhide HT6).low b7)
    have HU7 := hide ((unhide HU6).low b7)
    have q7 := (unhide HQ3).low (unhide HR7)
    have x0 := q7.cell 0
    have x1 := q7.cell 1
    clear hs7 b7 K41 HH6 q7
    have K42 := hide (stripP (w := w7) (c := c9) (unhide HMY) (unhide HPB) (unhide HVB) (unhide HYN) (by omega) ((unhide HAT9).low (unhide HR7)) ((unhide HDY).low (unhide HR7)))
    go_wp2_with (go_at_call 42; fail)
    refine (unhide K42).mono ?_
    rintro e w8 ⟨⟨E8, l8, a8, k8, c8, rfl, hl8, hfd8, hst8⟩, b8⟩
    have HB8 := hide (low_trans (unhide HB7) b8)
    have HR8 := hide (low_trans (unhide HR7) b8)
    have HT8 := hide ((unhide HT7).low b8)
    have HU8 := hide ((unhide HU7).low b8)
    have HFD8 := hide hfd8
    have HST8 := hide hst8
    have HL8 := hide hl8
    have q8 := (unhide HQ3).low (unhide HR8)
    clear x0 x1 hfd8 hst8 b8 K42 hl8
    have x0 := q8.cell 0
    have x1 := q8.cell 1
    have K43 := hide (stripR (w := w8) (c := c) (unhide HM) (unhide HPB) (unhide HVB) (unhide HXN) (by omega) ((unhide HX).low (unhide HB8)) ((unhide HGX).low (unhide HB8)))
    go_wp2_with (go_at_call 43; fail)
    refine (unhide K43).mono ?_
    rintro e w10 ⟨⟨E9, l9, a10, k9, c10, rfl, hl9, hfd9, hst9⟩, b9⟩
    obtain ⟨hE9, hl89⟩ := st_one (unhide HST8) hst9
    subst hE9
    subst hl89
    have hkk : k8 = k9 := by rw [← unhide HL8, ← hl9]
    subst hkk
    have HLS : Hid (k8 ≤ 1000 ∧ ∀ x ∈ l8, x.2.length ≤ 1073741824) := hide (by
      rcases unhide HST8 with ⟨_, _, rfl⟩ | ⟨_, _, rfl⟩
      · have := unhide HL8
        simp at this
        exact ⟨by omega, fun x hx => by cases hx⟩
      · have := unhide HL8
        rw [List.length_map, unhide HML] at this
        refine ⟨by omega, fun x hx => ?_⟩
        obtain ⟨y, hy, rfl⟩ := List.mem_map.1 hx
        have := unhide HMS y hy
        show y.2.length ≤ 1073741824
        omega)
    have HB10 := hide (low_trans (unhide HB8) b9)
    have HR10 := hide (low_trans (unhide HR8) b9)
    have HT10 := hide ((unhide HT8).low b9)
    have HU10 := hide ((unhide HU8).low b9)
    have HFD10 := hide ((unhide HFD8).low b9)
    have HFE10 := hide hfd9
    have q10 := (unhide HQ3).low (unhide HR10)
    clear x0 x1 hfd9 hst9 b9 K43 hl9 q8 HST8 HFD8
    have x0 := q10.cell 0
    have x1 := q10.cell 1
    have K44 := hide (addP (w := w10) (c := c9) (unhide HMY) (unhide HPB) (unhide HVB) (unhide HYN) (by omega) ((unhide HAT9).low (unhide HR10)) ((unhide HDY).low (unhide HR10)))
    go_wp2_with (go_at_call 44; fail)
    refine (unhide K44).mono ?_
    rintro e w11 ⟨A, rfl, hfo, b11⟩
    obtain ⟨AL, hAL⟩ : ∃ AL, adV (preL p v) M = AL := ⟨_, rfl⟩
    rw [hAL] at hfo
    have HAL := hide hAL
    have HALn : Hid (AL.length = n) := hide (by rw [← hAL]; unfold adV; rw [List.length_map]; exact unhide HML)
    have HALS : Hid (∀ x ∈ AL, x.2.length ≤ 1048576) := hide (fun x hx => by
      rw [← hAL] at hx
      obtain ⟨y, hy, rfl⟩ := List.mem_map.1 hx
      exact unhide HMS y hy)
    have HFO := hide hfo
    have HB11 := hide (low_trans (unhide HB10) b11)
    have HR11 := hide (low_trans (unhide HR10) b11)
    have HZ11 := hide b11
    have HT11 := hide ((unhide HT10).low b11)
    have HU11 := hide ((unhide HU10).low b11)
    have HFD11 := hide ((unhide HFD10).low b11)
    have HFE11 := hide ((unhide HFE10).low b11)
    have htl : T.length ≤ 1048576 := (unhide HKT).2
    clear x0 x1 hfo b11 K44 hAL q10
    obtain ⟨tl, htl2⟩ : ∃ t, T.length = t := ⟨_, rfl⟩
    rw [htl2] at htl ⊢
    have KS := hide (sameBytes_any (w := w11) (c := pc) (c2 := pc2) htl2 htl2 (by omega) (by omega) (unhide HT11) (unhide HU11))
    rw [decide_eq_true rfl] at KS
    clear htl2
    go_wp2_with (go_at_call 23; fail)
    refine (unhide KS).mono ?_
    rintro e w12 ⟨rfl, q12, hw12⟩
    have b12 : Below w11.heap.size w11 w12 := by rw [hw12]; exact low_q _
    have HZ12 := hide (low_trans (unhide HZ11) b12)
    have HV12 := hide b12
    have HB12 := hide (low_trans (unhide HB11) b12)
    have KT := hide (sameFd_any (w := w12) (c := c8) (c2 := c10) (unhide HL8) (unhide HL8) (by have := (unhide HLS).1; omega) (by have := (unhide HLS).1; omega) (unhide HLS).2 (unhide HLS).2 ((unhide HFD11).low b12) ((unhide HFE11).low b12))
    rw [decide_eq_true rfl] at KT
    clear b12 hw12 KS
    go_wp2_with (go_at_call 21; fail)
    refine (unhide KT).mono ?_
    rintro e w13 ⟨rfl, q13, hw13⟩
    have b13 : Below w12.heap.size w12 w13 := by rw [hw13]; exact low_q _
    have HZ13 := hide (low_trans (unhide HZ12) b13)
    have HV13 := hide (low_trans (unhide HV12) b13)
    have HB13 := hide (low_trans (unhide HB12) b13)
    have HR13 := hide (low_trans (unhide HR10) (unhide HZ13))
    have q13b := (unhide HQ3).low (unhide HR13)
    have x0 := q13b.cell 0
    have x1 := q13b.cell 1
    clear b13 hw13 KT q13b
    have K45 := hide (addR (w := w13) (c := c) (unhide HM) (unhide HPB) (unhide HVB) (unhide HXN) (by omega) ((unhide HX).low (unhide HB13)) ((unhide HGX).low (unhide HB13)))
    go_wp2_with (go_at_call 45; fail)
    refine (unhide K45).mono ?_
    rintro e w14 ⟨a14, c14, rfl, hfr, b14⟩
    rw [unhide HAL] at hfr
    have HZ14 := hide (low_trans (unhide HZ13) b14)
    have hv14 := low_trans (unhide HV13) b14
    have KV := hide (sameFd_any (w := w14) (a := some ⟨A, 0, none⟩) (c := n) (c2 := c14) (unhide HALn) (unhide HALn) (by omega) (by omega) (fun x hx => by have := unhide HALS x hx; omega) (fun x hx => by have := unhide HALS x hx; omega) ((unhide HFO).at.low hv14) hfr)
    rw [decide_eq_true rfl] at KV
    have HV14 := hide hv14
    clear x0 x1 b14 hv14 hfr K45
    go_wp2_with (go_at_call 21; fail)
    refine (unhide KV).mono ?_
    rintro e w15 ⟨rfl, q15, hw15⟩
    have b15 : Below w14.heap.size w14 w15 := by rw [hw15]; exact low_q _
    have HZ15 := hide (low_trans (unhide HZ14) b15)
    have HMU : Hid (∃ zs : List Fl, zs.length = n ∧ (n ≠ 0 → Mu w10 w15 A 0 zs)) := hide (by
      by_cases h0 : n = 0
      · exact ⟨[], by simp [h0], fun h => absurd h0 h⟩
      · obtain ⟨zs, y1, y2, y3⟩ := unhide HFO
        have bb := low_trans (unhide HV14) b15
        obtain ⟨us, z1, z2⟩ := Mu.start (l := AL) ⟨zs, y1, u_row_low y2 bb, y3.low bb⟩ (unhide HZ15) (unhide HALS)
        exact ⟨us, z1.trans (unhide HALn), fun _ => z2⟩)
    clear b15 hw15 KV HFO
    obtain ⟨zs, hzn, hmu0⟩ := unhide HMU
    have HZN := hide hzn
    have HMU0 := hide hmu0
    clear hzn hmu0 HMU
    go_wp2
    go_loopw [24, 25] (fun v24 _ wr => ∃ i : Nat, i ≤ n ∧ v24 = .int .i64 (i : Int) ∧ Hid (n ≠ 0 → Mu w10 wr A i zs) ∧ Hid (Below w10.heap.size w10 wr)) (fun v24 _ _ => n - (intOf v24).toNat)
    case atStart => exact ⟨0, Nat.zero_le _, rfl, HMU0, HZ15⟩
    case round =>
      rename World => wr
      obtain ⟨i, hi, rfl, hmu, HBR⟩ := hrel
      by_cases hlt : i < n
      · have hlt' : (i : Int) < (n : Int) := by omega
        have hiy : i < zs.length := by rw [unhide HZN]; exact hlt
        have hm0 := hide (unhide hmu (by omega))
        clear hmu HMU0 HBR
        go_wp2
        go_loopw [25] (fun v25 wk => ∃ q : Nat, q ≤ zs[i].n ∧ v25 = .int .i64 (q : Int) ∧ Hid (Mu w10 wk A i zs)) (fun v25 _ => zs[i].n - (intOf v25).toNat)
        case atStart => exact ⟨0, Nat.zero_le _, rfl, hm0⟩
        case round =>
          rename World => wk
          obtain ⟨q, hq, rfl, hmk⟩ := hrel
          clear hm0
          obtain ⟨cl, fz⟩ := (unhide hmk).cell hiy
          have mput : ∀ g, zs[i].a = some ⟨g, 0, none⟩ → Mu w10 (wk.setCell ⟨g, q, none⟩ (.int .u8 1)) A i zs := fun g hg => (unhide hmk).put1 hiy hg
          obtain ⟨d, hdl, hdm, hdo, -⟩ := (unhide hmk).one i hiy (Nat.le_refl _)
          obtain ⟨x, hxx⟩ : ∃ x, zs[i] = x := ⟨_, rfl⟩
          rw [hxx] at hq cl mput hdl hdo ⊢
          obtain ⟨xnm, xa, xn, xc⟩ := x
          unfold flV at cl hdo
          simp only at hq cl mput hdl hdo ⊢
          have hxb : xn ≤ 1048576 := by omega
          by_cases hqn : q < xn
          · have hqn' : (q : Int) < (xn : Int) := by omega
            obtain ⟨gg, cc, e1, o1, -, -, -, -, fzg⟩ := OwnB.val hdo (by omega)
            have e2 := (Value.slice.inj e1).1
            subst e2
            have cq : wk.cell? ⟨gg, q, none⟩ = some (.int .u8 ((d[q]'(by omega)).toNat : Int)) := by
              obtain ⟨a', c', hv, hat, -, -⟩ := OwnB.at hdo
              have e3 := (Value.slice.inj hv).1
              rw [← e3] at hat
              obtain ⟨B', O', e, h2⟩ := hat.at (by omega : q < d.length)
              cases e
              rw [Nat.zero_add] at h2
              exact h2
            have fq := fzg q
            have HP := hide (mput gg rfl)
            clear mput hdo e1 o1 fzg
            go_wp2
            go_roundw
            case rel => exact ⟨q + 1, hqn, by push_cast; rfl, HP⟩
            case measure => simp [intOf]; omega
          · have hqn' : ¬ (q : Int) < (xn : Int) := by omega
            have HM8 := hide (And.intro (unhide hmk) (unhide hmk).low)
            clear hdo mput hmk hxx
            go_wp2
            go_roundw
            case rel => exact ⟨i + 1, hlt, by push_cast; rfl, hide (fun _ => (unhide HM8).1.up (Nat.le_succ _)), hide (unhide HM8).2⟩
            case measure => simp [intOf]; omega
      · have hb := unhide HBR
        have hRw := low_trans (unhide HR10) hb
        have HWW := hide (low_trans (unhide HB10) hb)
        have q21 := (unhide HQ3).low hRw
        have hS : wr.cell? ⟨S, 0, none⟩ = some (.string (ba p)) ∧ wr.cell? ⟨S, 1, none⟩ = some (.string (ba v)) ∧ Below wr.heap.size wr wr := ⟨q21.cell 0, q21.cell 1, Below.refl _ _⟩
        have hSd : wr.drew.cell? ⟨S, 0, none⟩ = some (.string (ba p)) ∧ wr.drew.cell? ⟨S, 1, none⟩ = some (.string (ba v)) ∧ Below wr.heap.size wr wr.drew := ⟨hS.1, hS.2.1, (Below.refl _ _).drew⟩
        have hstep : ∀ wx wy, (wx.cell? ⟨S, 0, none⟩ = some (.string (ba p)) ∧ wx.cell? ⟨S, 1, none⟩ = some (.string (ba v)) ∧ Below wr.heap.size wr wx) → Below wx.heap.size wx wy → (wy.cell? ⟨S, 0, none⟩ = some (.string (ba p)) ∧ wy.cell? ⟨S, 1, none⟩ = some (.string (ba v)) ∧ Below wr.heap.size wr wy) := fun wx wy hx b => ⟨(b.cell (lt_of_cell hx.1)).trans hx.1, (b.cell (lt_of_cell hx.2.1)).trans hx.2.1, low_trans hx.2.2 b⟩
        have HSTEP := hide hstep
        obtain ⟨PR, hPR⟩ : ∃ P, preL p v = P := ⟨_, rfl⟩
        obtain ⟨nf, hnf⟩ : ∃ f, nameF s = f := ⟨_, rfl⟩
        have KX21 : Hid (∀ wx, (wx.cell? ⟨S, 0, none⟩ = some (.string (ba p)) ∧ wx.cell? ⟨S, 1, none⟩ = some (.string (ba v)) ∧ Below wr.heap.size wr wx) → Calls Tryz.prog 21 #[.slice a9 n c9, .slice a n c] wx fun e w' => e = .returned (.bool true) ∧ (w'.cell? ⟨S, 0, none⟩ = some (.string (ba p)) ∧ w'.cell? ⟨S, 1, none⟩ = some (.string (ba v)) ∧ Below wr.heap.size wr w')) := hide (fun wx hx => by
          have h3 := low_trans (low_trans (unhide HR10) (unhide HBR)) hx.2.2
          have h0 := low_trans (unhide HWW) hx.2.2
          have f1 := fd_of ((unhide HAT9).low h3) ((unhide HDY).low h3)
          have f2 := fd_of ((unhide HX).low h0) ((unhide HGX).low h0)
          rw [unhide HMY] at f1
          rw [unhide HM] at f2
          have kk := sameFd_any (c := c9) (c2 := c) (unhide HML) (unhide HML) (by omega) (by omega) (fun x hx => by have := unhide HMS x hx; omega) (fun x hx => by have := unhide HMS x hx; omega) f1 f2
          rw [decide_eq_true rfl] at kk
          refine kk.mono ?_
          rintro e w' ⟨rfl, q, hw⟩
          exact ⟨rfl, unhide HSTEP _ _ hx (by rw [hw]; exact low_q _)⟩)
        have KX46 : Hid (∀ wx, (wx.cell? ⟨S, 0, none⟩ = some (.string (ba p)) ∧ wx.cell? ⟨S, 1, none⟩ = some (.string (ba v)) ∧ Below wr.heap.size wr wx) → Calls Tryz.prog 46 #[.agg #[.string (ba p), .string (ba v)]] wx fun e w' => e = .returned (.string (ba PR)) ∧ (w'.cell? ⟨S, 0, none⟩ = some (.string (ba p)) ∧ w'.cell? ⟨S, 1, none⟩ = some (.string (ba v)) ∧ Below wr.heap.size wr w')) := hide (fun wx hx => by
          refine (prefix_any (unhide HPB) (unhide HVB) wx).mono ?_
          rintro e w' ⟨rfl, b⟩
          exact ⟨by rw [hPR], unhide HSTEP _ _ hx b⟩)
        have KX47 : Hid (∀ wx, (wx.cell? ⟨S, 0, none⟩ = some (.string (ba p)) ∧ wx.cell? ⟨S, 1, none⟩ = some (.string (ba v)) ∧ Below wr.heap.size wr wx) → Calls Tryz.prog 47 #[.agg #[.string (ba p), .string (ba v)]] wx fun e w' => e = .returned (.string (ba PR)) ∧ (w'.cell? ⟨S, 0, none⟩ = some (.string (ba p)) ∧ w'.cell? ⟨S, 1, none⟩ = some (.string (ba v)) ∧ Below wr.heap.size wr w')) := hide (fun wx hx => by
          refine (refPre_any (unhide HPB) (unhide HVB) wx).mono ?_
          rintro e w' ⟨rfl, b⟩
          exact ⟨by rw [hPR], unhide HSTEP _ _ hx b⟩)
        have KX48 : Hid (∀ wx, (wx.cell? ⟨S, 0, none⟩ = some (.string (ba p)) ∧ wx.cell? ⟨S, 1, none⟩ = some (.string (ba v)) ∧ Below wr.heap.size wr wx) → Calls Tryz.prog 48 #[.string (ba s)] wx fun e w' => e = .returned (.bool nf) ∧ (w'.cell? ⟨S, 0, none⟩ = some (.string (ba p)) ∧ w'.cell? ⟨S, 1, none⟩ = some (.string (ba v)) ∧ Below wr.heap.size wr w')) := hide (fun wx hx => by
          refine (validName_any (l := s) ((unhide HG).low (low_trans (unhide HWW) hx.2.2))).mono ?_
          rintro e w' ⟨rfl, b⟩
          exact ⟨by rw [hnf], unhide HSTEP _ _ hx b⟩)
        have KX49 : Hid (∀ wx, (wx.cell? ⟨S, 0, none⟩ = some (.string (ba p)) ∧ wx.cell? ⟨S, 1, none⟩ = some (.string (ba v)) ∧ Below wr.heap.size wr wx) → Calls Tryz.prog 49 #[.string (ba s)] wx fun e w' => e = .returned (.bool nf) ∧ (w'.cell? ⟨S, 0, none⟩ = some (.string (ba p)) ∧ w'.cell? ⟨S, 1, none⟩ = some (.string (ba v)) ∧ Below wr.heap.size wr w')) := hide (fun wx hx => by
          refine (refValid_any (l := s) (by have := unhide HSL; omega) wx).mono ?_
          rintro e w' ⟨rfl, b⟩
          exact ⟨by rw [hnf], unhide HSTEP _ _ hx b⟩)
        have e1 : (E == E) = true := by simp
        have s1 : ((ba S1).toList == (ba S1).toList) = true := by simp
        have e2 : (F1 == F1) = true := by simp
        have e3 : (E8 == E8) = true := by simp
        have s2 : ((ba PR).toList == (ba PR).toList) = true := by simp
        have e4 : (nf == nf) = true := by simp
        clear hmu HMU0 hb hRw q21 hstep hPR hnf
        go_wp2
        go_region_held3 (fun wx => wx.cell? ⟨S, 0, none⟩ = some (.string (ba p)) ∧ wx.cell? ⟨S, 1, none⟩ = some (.string (ba v)) ∧ Below wr.heap.size wr wx)
          (first | assumption | exact hS | exact hSd)
          (first
            | (go_at_call 19; refine (errno_any _ _).mono ?_; rintro e wn ⟨rfl, rfl⟩)
            | (go_at_call 21; refine (unhide KX21 _ (by assumption)).mono ?_; rintro e w9 ⟨rfl, hS9⟩)
            | (go_at_call 46; refine (unhide KX46 _ (by assumption)).mono ?_; rintro e w9 ⟨rfl, hS9⟩)
            | (go_at_call 47; refine (unhide KX47 _ (by assumption)).mono ?_; rintro e w9 ⟨rfl, hS9⟩)
            | (go_at_call 48; refine (unhide KX48 _ (by assumption)).mono ?_; rintro e w9 ⟨rfl, hS9⟩)
            | (go_at_call 49; refine (unhide KX49 _ (by assumption)).mono ?_; rintro e w9 ⟨rfl, hS9⟩))
        all_goals
          have HFIN := hide (low_trans (unhide HWW) hS9.2.2)
          clear hS hSd hS9
          go_wp2
          go_ret
          exact ⟨rfl, unhide HFIN⟩
end Go.Proofs.YtkablmjkffdloaaGreatDoor
