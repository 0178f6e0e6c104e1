/-
  The law SumfileMerged: what it needs of a merge, and its walk.
-/
import Derived.Test.YthcafeoamabkgaaGreatDoorMerg
import Derived.Test.YthcafeoamabkgaaGreatDoorKeepM
import Derived.Test.YthcafeoamabkgaaGreatDoorLinR
import Derived.Test.YthcafeoamabkgaaGreatDoorFrsX
import Derived.Deep.RegionHeld3
namespace Go.Proofs.YthcafeoamabkgaaGreatDoor

section
open Go.RowKit Go.Lib
theorem findR_mem {xs : List Ln} {mp mv : Str} {kk : Int} {x : Ln} (h : findR xs mp mv kk = some x) : x ∈ xs ∧ keyL x = ((mp, mv), kk) := by
  unfold findR at h
  have h1 := List.mem_of_find?_eq_some h
  have h2 := List.find?_some h
  simp only [decide_eq_true_eq] at h2
  exact ⟨h1, by unfold keyL; rw [h2.1, h2.2.1, h2.2.2]⟩
theorem findR_none {xs : List Ln} {mp mv : Str} {kk : Int} (h : findR xs mp mv kk = none) {x : Ln} (hx : x ∈ xs) : ¬ keyL x = ((mp, mv), kk) := by
  unfold findR at h
  have := List.find?_eq_none.1 h x hx
  simp only [decide_eq_true_eq] at this
  intro e
  unfold keyL at e
  simp only [Prod.mk.injEq] at e
  exact this ⟨e.1.1, e.1.2, e.2⟩

theorem find_once {l zs : List Ln} (h : Once l zs) {x : Ln} (hx : x ∈ l) : findR zs x.p x.v x.k = some x := by
  have hz : x ∈ zs := (h.2 x).2 hx
  cases hf : findR zs x.p x.v x.k with
  | none => exact absurd rfl (findR_none hf hz)
  | some y =>
    obtain ⟨h1, h2⟩ := findR_mem hf
    rw [h.1.one h1 hz h2]

theorem find_part {l zs xs : List Ln} (h : Once l zs) (hs : ∀ y ∈ xs, y ∈ l) {x : Ln} (hx : x ∈ zs) : findR xs x.p x.v x.k = some x ∨ (findR xs x.p x.v x.k = none ∧ ¬ x ∈ xs) := by
  cases hf : findR xs x.p x.v x.k with
  | none => exact Or.inr ⟨rfl, fun hm => absurd rfl (findR_none hf hm)⟩
  | some y =>
    obtain ⟨h1, h2⟩ := findR_mem hf
    have := h.1.one ((h.2 y).2 (hs y h1)) hx h2
    rw [this]
    exact Or.inl rfl

theorem clash_comm {xs ys : List Ln} : Clash (xs ++ ys) → Clash (ys ++ xs) := fun h => h.mem fun x hx => by
  rcases List.mem_append.1 hx with h | h
  · exact List.mem_append.2 (Or.inr h)
  · exact List.mem_append.2 (Or.inl h)

theorem steep_calm {zs : List Ln} (h : Steep zs) : ¬ Clash (zs ++ zs) := by
  rintro ⟨x, hx, y, hy, hk, hs⟩
  have hx' : x ∈ zs := by simpa using hx
  have hy' : y ∈ zs := by simpa using hy
  exact hs (by rw [h.one hx' hy' hk])

theorem once_self {zs ys : List Ln} (h : Steep zs) (hy : Once (zs ++ zs) ys) : ys = zs :=
  steep_unique hy.1 h fun x => by rw [hy.2 x]; simp

theorem keep_self {zs : List Ln} : keepR (zs.map fun x => (x.p, x.v)) zs = zs := by
  unfold keepR
  refine List.filter_eq_self.2 fun x hx => ?_
  simp only [decide_eq_true_eq]
  exact List.mem_map.2 ⟨x, hx, rfl⟩

/-- The cells of modules. -/
def mdsV : List Md → List Value
  | [] => []
  | x :: xs => .string (ba x.1) :: .string (ba x.2) :: mdsV xs
theorem mdsV_append (l m : List Md) : mdsV (l ++ m) = mdsV l ++ mdsV m := by
  induction l with
  | nil => rfl
  | cons x l ih => simp [mdsV, ih]
theorem mdsV_length (l : List Md) : (mdsV l).length = l.length * 2 := by
  induction l with
  | nil => rfl
  | cons x l ih => simp [mdsV, ih]; omega
theorem mdsV_at : ∀ (xs : List Md) (k : Nat) (hk : k < xs.length), (mdsV xs)[k * 2]? = some (.string (ba xs[k].1)) ∧ (mdsV xs)[k * 2 + 1]? = some (.string (ba xs[k].2))
  | [], k, hk => by simp at hk
  | x :: xs, 0, _ => by simp [mdsV]
  | x :: xs, k + 1, hk => by
    have := mdsV_at xs k (by simpa using hk)
    have e : (k + 1) * 2 = k * 2 + 1 + 1 := by omega
    rw [e]
    simpa [mdsV] using this

theorem info36 : (Tryz.prog.info? 36).map (fun i => (i.zero, i.size, i.bytes)) = some (some (.agg #[.string ⟨#[]⟩, .string ⟨#[]⟩]), 2, 32) := by kernel_rfl

/-- The row of a list of modules. -/
abbrev Mods (base : Nat) (w : World) (v : Value) (xs : List Md) : Prop := w.ownsRow base 36 2 v xs.length (mdsV xs)

theorem mods_nil (B : Nat) (w : World) : Mods B w (.slice none 0 0) [] := ⟨rfl, Or.inl ⟨rfl, rfl⟩⟩
theorem mods_snoc {base : Nat} {w : World} {v : Value} {xs : List Md} {x : Md} (h : w.ownsRow base 36 2 v (xs.length + 1) (mdsV xs ++ [.string (ba x.1), .string (ba x.2)])) : Mods base w v (xs ++ [x]) := by
  unfold Mods
  rw [mdsV_append, List.length_append]
  exact h

theorem Mods.at {B : Nat} {w : World} {v : Value} {xs : List Md} (h : Mods B w v xs) : ∃ a c, v = .slice a xs.length c ∧ MRow w a xs := by
  rcases h.2 with ⟨rfl, h0⟩ | ⟨g, cap, cur, rfl, hb, hblk, hcap, hcm, hcs, hcur⟩
  · exact ⟨none, 0, by rw [h0], ⟨Or.inl (List.length_eq_zero_iff.1 h0)⟩⟩
  · refine ⟨_, cap, rfl, ⟨Or.inr ⟨g, 0, rfl, fun k hk => ?_⟩⟩⟩
    have at' : ∀ j, j < xs.length * 2 → w.cell? ⟨g, j, none⟩ = (mdsV xs)[j]? := by
      intro j hj
      have h1 : cur.toList[j]? = (mdsV xs)[j]? := by rw [← hcur, List.getElem?_take_of_lt hj]
      have h2 : cur[j]? = cur.toList[j]? := by simp
      rw [Lib.cell_of_heap hblk, h2, h1]
    obtain ⟨a1, a2⟩ := mdsV_at xs k hk
    rw [Nat.zero_add]
    exact ⟨by rw [at' _ (by omega), a1], by rw [at' _ (by omega), a2]⟩
end

section
open Go.RowKit Go.Lib
/-- Find, where the answer is known. -/
theorem find_is {w : World} {a : Option Addr} {n c : Nat} {xs : List Ln} {x : Ln} (hn : xs.length = n) (hN : n ≤ 1000000) (h : LRow w a xs) (hf : findR xs x.p x.v x.k = some x) :
    Calls Tryz.prog 17 #[.slice a n c, .agg #[.string (ba x.p), .string (ba x.v)], .int .i64 x.k] w fun e w' => e = .returned (.tuple #[.string (ba x.s), .bool true]) ∧ Below w.heap.size w w' := by
  have := find_any (c := c) (mp := x.p) (mv := x.v) (kk := x.k) hn hN h
  rw [hf] at this
  exact this
theorem find_not {w : World} {a : Option Addr} {n c : Nat} {xs : List Ln} {x : Ln} (hn : xs.length = n) (hN : n ≤ 1000000) (h : LRow w a xs) (hf : findR xs x.p x.v x.k = none) :
    Calls Tryz.prog 17 #[.slice a n c, .agg #[.string (ba x.p), .string (ba x.v)], .int .i64 x.k] w fun e w' => e = .returned (.tuple #[.string ⟨#[]⟩, .bool false]) ∧ Below w.heap.size w w' := by
  have := find_any (c := c) (mp := x.p) (mv := x.v) (kk := x.k) hn hN h
  rw [hf] at this
  exact this

/-- The cells of a line at a place, in a world that has grown out of another. -/
abbrev HeldL (w6 : World) (B O i : Nat) (x : Ln) (wq : World) : Prop :=
  wq.cell? ⟨B, O + i * 4, none⟩ = some (.string (ba x.p)) ∧ wq.cell? ⟨B, O + i * 4 + 1, none⟩ = some (.string (ba x.v)) ∧ wq.cell? ⟨B, O + i * 4 + 2, none⟩ = some (.int .i64 x.k) ∧ wq.cell? ⟨B, O + i * 4 + 3, none⟩ = some (.string (ba x.s)) ∧ Below w6.heap.size w6 wq
theorem HeldL.on {w6 wq w' : World} {B O i : Nat} {x : Ln} (h : HeldL w6 B O i x wq) (b : Below wq.heap.size wq w') : HeldL w6 B O i x w' := by
  obtain ⟨h1, h2, h3, h4, h5⟩ := h
  have t : ∀ {p : Addr} {u : Value}, wq.cell? p = some u → w'.cell? p = some u := fun {p u} hp => (b.cell (lt_of_cell hp)).trans hp
  exact ⟨t h1, t h2, t h3, t h4, low_trans h5 b⟩
theorem HeldL.drew {w6 wq : World} {B O i : Nat} {x : Ln} (h : HeldL w6 B O i x wq) : HeldL w6 B O i x wq.drew := h.on (Below.refl _ _).drew
theorem find_held {w6 wq : World} {B O i n c : Nat} {a : Option Addr} {x : Ln} {r : Value} (hf : ∀ W, Below w6.heap.size w6 W → Calls Tryz.prog 17 #[.slice a n c, .agg #[.string (ba x.p), .string (ba x.v)], .int .i64 x.k] W fun e w' => e = .returned r ∧ Below W.heap.size W w') (h : HeldL w6 B O i x wq) :
    Calls Tryz.prog 17 #[.slice a n c, .agg #[.string (ba x.p), .string (ba x.v)], .int .i64 x.k] wq fun e w' => e = .returned r ∧ HeldL w6 B O i x w' := by
  refine (hf wq h.2.2.2.2).mono ?_
  rintro e w' ⟨rfl, b⟩
  exact ⟨rfl, h.on b⟩

set_option maxRecDepth 100000 in
set_option maxHeartbeats 16000000 in
theorem merged_any {w : World} {a b : Option Addr} {n m ac bc : Nat} {xs ys : List Ln} (hg : Gd w) (hx : xs.length = n) (hy : ys.length = m) (hA : LRow w a xs) (hB : LRow w b ys) (hxo : ∀ x ∈ xs, MdOk (x.p, x.v)) (hyo : ∀ x ∈ ys, MdOk (x.p, x.v)) :
    Calls Tryz.prog 8 #[.slice a n ac, .slice b m bc] w fun e w' => e = .returned (.bool true) ∧ Below w.heap.size w w' := by
  have HG := hide hg
  have HX := hide hx
  have HY := hide hy
  have HA := hide hA
  have HB := hide hB
  have HXO := hide hxo
  have HYO := hide hyo
  clear hg hx hy hA hB hxo hyo
  go_enter Tryz.func8, Tryz.ntmps8
  go_wp2_with (go_at_call 11; fail)
  refine (first_any (unhide HG)).mono ?_
  rintro e w1 ⟨rfl, b1⟩
  have F1 := hide (fewL_any (c := ac) (unhide HX) ((unhide HA).low b1))
  have B1 := hide b1
  clear b1
  go_wp2_with (go_at_call 12; fail)
  refine (unhide F1).mono ?_
  rintro e w2 ⟨⟨r, rfl, hr⟩, q, hw⟩
  rw [hw]; clear hw w2 F1
  cases r with
  | false =>
    clear hr
    go_wp2
    go_ret
    exact ⟨rfl, low_drewN (unhide B1) q⟩
  | true =>
    have hn100 := hr rfl
    clear hr
    have F2 := hide (fewL_any (c := bc) (unhide HY) ((unhide HB).low (low_drewN (unhide B1) q)))
    go_wp2_with (go_at_call 12; fail)
    refine (unhide F2).mono ?_
    rintro e w2 ⟨⟨r, rfl, hr⟩, q2, hw⟩
    rw [hw]; clear hw w2 F2
    cases r with
    | false =>
      clear hr
      go_wp2
      go_ret
      exact ⟨rfl, low_drewN (unhide B1) (q + q2)⟩
    | true =>
      have hm100 := hr rfl
      clear hr
      obtain ⟨W, hW⟩ : ∃ W, (w1.drewN q).drewN q2 = W := ⟨_, rfl⟩
      have BW : Hid (Below w.heap.size w W) := hide (by rw [← hW]; exact low_drewN (low_drewN (unhide B1) q) q2)
      rw [hW]
      clear hW
      have M1 := hide (merge_any (ac := ac) (bc := bc) ((unhide HG).low (unhide BW)) (unhide HX) (unhide HY) (by omega) (by omega) ((unhide HA).low (unhide BW)) ((unhide HB).low (unhide BW)))
      go_wp2_with (go_at_call 27; fail)
      refine (unhide M1).mono ?_
      rintro e w4 h4
      clear M1
      rcases h4 with ⟨hc, rfl, b4⟩ | ⟨hc, v4, zs, rfl, l4, o4, z4, b4⟩
      · have B4 := hide (low_trans (unhide BW) b4)
        have HC := hide hc
        clear b4 hc
        have M2 := hide (merge_any (ac := bc) (bc := ac) ((unhide HG).low (unhide B4)) (unhide HY) (unhide HX) (by omega) (by omega) ((unhide HB).low (unhide B4)) ((unhide HA).low (unhide B4)))
        go_wp2_with (go_at_call 27; fail)
        refine (unhide M2).mono ?_
        rintro e w5 h5
        clear M2
        rcases h5 with ⟨_, rfl, b5⟩ | ⟨hc2, _⟩
        · have B5 := hide (low_trans (unhide B4) b5)
          clear b5
          have A1 := hide (alike_same (w := w5) (a := none) (b := none) (n := 0) (ac := 0) (bc := 0) (xs := []) rfl (by omega) ⟨Or.inl rfl⟩ ⟨Or.inl rfl⟩)
          go_wp2_with (go_at_call 18; fail)
          refine (unhide A1).mono ?_
          rintro e w6 ⟨rfl, b6⟩
          have B6 := hide (low_trans (unhide B5) b6)
          clear b6 A1
          go_wp2_with (go_at_call 15; refine (num_any 28 _).mono ?_; rintro e w7 ⟨rfl, hw⟩; rw [hw]; clear hw w7)
          go_ret
          exact ⟨rfl, unhide B6⟩
        · exact absurd (clash_comm (unhide HC)) hc2
      · obtain ⟨a4, c4, rfl, lr4, _⟩ := Lines.at l4
        obtain ⟨N, hN⟩ : ∃ N, zs.length = N := ⟨_, rfl⟩
        rw [hN]
        have hNs : N ≤ 200 := by rw [List.length_append, unhide HX, unhide HY] at z4; omega
        have HN := hide hN
        have HO := hide o4
        have HL4 := hide lr4
        have HC := hide hc
        have B4 := hide (low_trans (unhide BW) b4)
        have M2 := hide (merge_any (ac := bc) (bc := ac) ((unhide HG).low (unhide B4)) (unhide HY) (unhide HX) (by omega) (by omega) ((unhide HB).low (unhide B4)) ((unhide HA).low (unhide B4)))
        clear hN z4 o4 l4 lr4 hc b4
        go_wp2_with (go_at_call 27; fail)
        refine (unhide M2).mono ?_
        rintro e w5 h5
        clear M2
        rcases h5 with ⟨hc2, _⟩ | ⟨_, v5, zs5, rfl, l5, o5, _, b5⟩
        · exact absurd (clash_comm hc2) (unhide HC)
        · have e5 : zs5 = zs := once_unique o5 (unhide HO) (fun x => by simp [or_comm])
          subst e5
          obtain ⟨a5, c5, rfl, lr5, _⟩ := Lines.at l5
          rw [unhide HN]
          have B5 := hide (low_trans (unhide B4) b5)
          have HL5 := hide ((unhide HL4).low b5)
          have A1 := hide (alike_same (ac := c4) (bc := c5) (unhide HN) (by omega) (unhide HL5) lr5)
          clear b5 l5 o5 lr5 HL4
          go_wp2_with (go_at_call 18; fail)
          refine (unhide A1).mono ?_
          rintro e w6 ⟨rfl, b6⟩
          have B6 := hide (low_trans (unhide B5) b6)
          have HL6 := hide ((unhide HL5).low b6)
          clear b6 A1 HL5
          go_wp2_with (go_at_call 15; refine (num_any 0 _).mono ?_; rintro e w7 ⟨rfl, hw⟩; rw [hw]; clear hw w7)
          go_loopw [11, 12, 13] (fun v11 _ _ wr => ∃ i : Nat, i ≤ n ∧ v11 = .int .i64 i ∧ Below w6.heap.size w6 wr) (fun v11 _ _ _ => n - (intOf v11).toNat)
          case atStart => exact ⟨0, Nat.zero_le _, rfl, Below.refl _ _⟩
          case round =>
            rename World => wr
            obtain ⟨i, hi, rfl, hlow⟩ := hrel
            have HW := hide hlow
            clear hlow
            by_cases hlt : i < n
            · have hit : i < xs.length := by rw [unhide HX]; exact hlt
              obtain ⟨B, O, rfl, he⟩ : ∃ B O, a = some ⟨B, O, none⟩ ∧ ∀ k (hk : k < xs.length), LnAt wr B (O + k * 4) xs[k] := by
                rcases ((unhide HA).low (low_trans (unhide B6) (unhide HW))).els with h | h
                · rw [h] at hit; simp at hit
                · exact h
              obtain ⟨m1, m2, m3, m4⟩ := he i hit
              have hf := find_once (unhide HO) (List.mem_append.2 (Or.inl (List.getElem_mem hit)))
              obtain ⟨x, hx⟩ : ∃ x, xs[i] = x := ⟨_, rfl⟩
              rw [hx] at m1 m2 m3 m4 hf
              have FI := hide (fun W (hW : Below w6.heap.size w6 W) => find_is (c := c4) (unhide HN) (by omega) ((unhide HL6).low hW) hf)
              have H1 : HeldL w6 B O i x wr := ⟨m1, m2, m3, m4, unhide HW⟩
              obtain ⟨p, v, k, s⟩ := x
              simp only at m1 m2 m3 m4
              clear he hx hf
              go_wp2
              go_region_held3 (fun w' => w'.cell? ⟨B, O + i * 4, none⟩ = some (.string (ba p)) ∧ w'.cell? ⟨B, O + i * 4 + 1, none⟩ = some (.string (ba v)) ∧ w'.cell? ⟨B, O + i * 4 + 2, none⟩ = some (.int .i64 k) ∧ w'.cell? ⟨B, O + i * 4 + 3, none⟩ = some (.string (ba s)) ∧ Below w6.heap.size w6 w')
                (first | assumption | exact HeldL.drew (by assumption) | exact H1 | exact HeldL.drew H1)
                (first | (go_at_call 17; refine (find_held (B := B) (O := O) (i := i) (x := ⟨p, v, k, s⟩) (unhide FI) (by assumption)).mono ?_; rintro e w' ⟨rfl, kh⟩))
              have kz : HeldL w6 B O i ⟨p, v, k, s⟩ w' := kh
              have HB8 := hide kz.2.2.2.2
              obtain ⟨r1, r2, r3, r4, _⟩ := id kz
              clear kz
              go_wp2
              go_roundw
              case rel => exact ⟨i + 1, hlt, by simp, unhide HB8⟩
              case measure => simp [intOf]; omega
            · go_wp2
              clear hlt
              go_loopw [14, 15, 16, 17, 18] (fun v14 _ _ _ _ wr => ∃ i : Nat, i ≤ N ∧ v14 = .int .i64 i ∧ Below w6.heap.size w6 wr) (fun v14 _ _ _ _ _ => N - (intOf v14).toNat)
              case atStart => exact ⟨0, Nat.zero_le _, rfl, unhide HW⟩
              case round =>
                rename World => wq
                clear HW hi
                obtain ⟨i, hi, rfl, hlow⟩ := hrel
                have HW := hide hlow
                clear hlow
                by_cases hlt : i < N
                · have hit : i < zs5.length := by rw [unhide HN]; exact hlt
                  obtain ⟨B, O, rfl, he⟩ : ∃ B O, a4 = some ⟨B, O, none⟩ ∧ ∀ k (hk : k < zs5.length), LnAt wq B (O + k * 4) zs5[k] := by
                    rcases ((unhide HL6).low (unhide HW)).els with h | h
                    · rw [h] at hit; simp at hit
                    · exact h
                  obtain ⟨m1, m2, m3, m4⟩ := he i hit
                  have hmem := List.getElem_mem hit
                  obtain ⟨x, hx⟩ : ∃ x, zs5[i] = x := ⟨_, rfl⟩
                  rw [hx] at m1 m2 m3 m4 hmem
                  have h1 := find_part (unhide HO) (xs := xs) (fun y hy => List.mem_append.2 (Or.inl hy)) hmem
                  have h2 := find_part (unhide HO) (xs := ys) (fun y hy => List.mem_append.2 (Or.inr hy)) hmem
                  have h12 : findR xs x.p x.v x.k = some x ∨ findR ys x.p x.v x.k = some x := by
                    rcases h1 with h1 | ⟨_, h1⟩
                    · exact Or.inl h1
                    · rcases h2 with h2 | ⟨_, h2⟩
                      · exact Or.inr h2
                      · rcases List.mem_append.1 (((unhide HO).2 x).1 hmem) with h | h
                        · exact absurd h h1
                        · exact absurd h h2
                  have h3 : (findR xs x.p x.v x.k = some x ∧ findR ys x.p x.v x.k = some x) ∨ (findR xs x.p x.v x.k = some x ∧ findR ys x.p x.v x.k = none) ∨ (findR xs x.p x.v x.k = none ∧ findR ys x.p x.v x.k = some x) := by
                    rcases h1 with h1 | ⟨h1, _⟩
                    · rcases h2 with h2 | ⟨h2, _⟩
                      · exact Or.inl ⟨h1, h2⟩
                      · exact Or.inr (Or.inl ⟨h1, h2⟩)
                    · rcases h12 with h | h
                      · rw [h1] at h; cases h
                      · exact Or.inr (Or.inr ⟨h1, h⟩)
                  have LA := hide (fun W (hW : Below w6.heap.size w6 W) => (unhide HA).low (low_trans (unhide B6) hW))
                  have LB := hide (fun W (hW : Below w6.heap.size w6 W) => (unhide HB).low (low_trans (unhide B6) hW))
                  have H1 : HeldL w6 B O i x wq := ⟨m1, m2, m3, m4, unhide HW⟩
                  clear h1 h2 h12 he hx hmem
                  rcases h3 with ⟨h1, h2⟩ | ⟨h1, h2⟩ | ⟨h1, h2⟩
                  · have FA := hide (fun W (hW : Below w6.heap.size w6 W) => find_is (c := ac) (unhide HX) (by omega) (unhide LA W hW) h1)
                    have FB := hide (fun W (hW : Below w6.heap.size w6 W) => find_is (c := bc) (unhide HY) (by omega) (unhide LB W hW) h2)
                    obtain ⟨p, v, k, s⟩ := x
                    simp only at m1 m2 m3 m4
                    clear h1 h2 LA LB
                    go_wp2
                    go_region_held3 (fun w' => w'.cell? ⟨B, O + i * 4, none⟩ = some (.string (ba p)) ∧ w'.cell? ⟨B, O + i * 4 + 1, none⟩ = some (.string (ba v)) ∧ w'.cell? ⟨B, O + i * 4 + 2, none⟩ = some (.int .i64 k) ∧ w'.cell? ⟨B, O + i * 4 + 3, none⟩ = some (.string (ba s)) ∧ Below w6.heap.size w6 w')
                      (first | assumption | exact HeldL.drew (by assumption) | exact H1 | exact HeldL.drew H1)
                      (first | (go_at_call 17; refine (find_held (B := B) (O := O) (i := i) (x := ⟨p, v, k, s⟩) (unhide FA) (by assumption)).mono ?_; rintro e w' ⟨rfl, kh⟩))
                    have kz : HeldL w6 B O i ⟨p, v, k, s⟩ w' := kh
                    obtain ⟨r1, r2, r3, r4, r5⟩ := id kz
                    clear m1 m2 m3 m4 H1
                    go_wp2
                    go_region_held3 (fun w' => w'.cell? ⟨B, O + i * 4, none⟩ = some (.string (ba p)) ∧ w'.cell? ⟨B, O + i * 4 + 1, none⟩ = some (.string (ba v)) ∧ w'.cell? ⟨B, O + i * 4 + 2, none⟩ = some (.int .i64 k) ∧ w'.cell? ⟨B, O + i * 4 + 3, none⟩ = some (.string (ba s)) ∧ Below w6.heap.size w6 w')
                      (first | assumption | exact HeldL.drew (by assumption) | exact kz | exact HeldL.drew kz)
                      (first | (go_at_call 17; refine (find_held (B := B) (O := O) (i := i) (x := ⟨p, v, k, s⟩) (unhide FB) (by assumption)).mono ?_; rintro e w' ⟨rfl, kh⟩))
                    have ky : HeldL w6 B O i ⟨p, v, k, s⟩ w' := kh
                    have HB9 := hide ky.2.2.2.2
                    obtain ⟨t1, t2, t3, t4, _⟩ := id ky
                    clear ky kz r5
                    go_wp2
                    go_roundw
                    case rel => exact ⟨i + 1, hlt, by simp, unhide HB9⟩
                    case measure => simp [intOf]; omega
                  · have FA := hide (fun W (hW : Below w6.heap.size w6 W) => find_is (c := ac) (unhide HX) (by omega) (unhide LA W hW) h1)
                    have FB := hide (fun W (hW : Below w6.heap.size w6 W) => find_not (c := bc) (unhide HY) (by omega) (unhide LB W hW) h2)
                    obtain ⟨p, v, k, s⟩ := x
                    simp only at m1 m2 m3 m4
                    clear h1 h2 LA LB
                    go_wp2
                    go_region_held3 (fun w' => w'.cell? ⟨B, O + i * 4, none⟩ = some (.string (ba p)) ∧ w'.cell? ⟨B, O + i * 4 + 1, none⟩ = some (.string (ba v)) ∧ w'.cell? ⟨B, O + i * 4 + 2, none⟩ = some (.int .i64 k) ∧ w'.cell? ⟨B, O + i * 4 + 3, none⟩ = some (.string (ba s)) ∧ Below w6.heap.size w6 w')
                      (first | assumption | exact HeldL.drew (by assumption) | exact H1 | exact HeldL.drew H1)
                      (first | (go_at_call 17; refine (find_held (B := B) (O := O) (i := i) (x := ⟨p, v, k, s⟩) (unhide FA) (by assumption)).mono ?_; rintro e w' ⟨rfl, kh⟩))
                    have kz : HeldL w6 B O i ⟨p, v, k, s⟩ w' := kh
                    obtain ⟨r1, r2, r3, r4, r5⟩ := id kz
                    clear m1 m2 m3 m4 H1
                    go_wp2
                    go_region_held3 (fun w' => w'.cell? ⟨B, O + i * 4, none⟩ = some (.string (ba p)) ∧ w'.cell? ⟨B, O + i * 4 + 1, none⟩ = some (.string (ba v)) ∧ w'.cell? ⟨B, O + i * 4 + 2, none⟩ = some (.int .i64 k) ∧ w'.cell? ⟨B, O + i * 4 + 3, none⟩ = some (.string (ba s)) ∧ Below w6.heap.size w6 w')
                      (first | assumption | exact HeldL.drew (by assumption) | exact kz | exact HeldL.drew kz)
                      (first | (go_at_call 17; refine (find_held (B := B) (O := O) (i := i) (x := ⟨p, v, k, s⟩) (unhide FB) (by assumption)).mono ?_; rintro e w' ⟨rfl, kh⟩))
                    have ky : HeldL w6 B O i ⟨p, v, k, s⟩ w' := kh
                    have HB9 := hide ky.2.2.2.2
                    obtain ⟨t1, t2, t3, t4, _⟩ := id ky
                    clear ky kz r5
                    go_wp2
                    go_roundw
                    case rel => exact ⟨i + 1, hlt, by simp, unhide HB9⟩
                    case measure => simp [intOf]; omega
                  · have FA := hide (fun W (hW : Below w6.heap.size w6 W) => find_not (c := ac) (unhide HX) (by omega) (unhide LA W hW) h1)
                    have FB := hide (fun W (hW : Below w6.heap.size w6 W) => find_is (c := bc) (unhide HY) (by omega) (unhide LB W hW) h2)
                    obtain ⟨p, v, k, s⟩ := x
                    simp only at m1 m2 m3 m4
                    clear h1 h2 LA LB
                    go_wp2
                    go_region_held3 (fun w' => w'.cell? ⟨B, O + i * 4, none⟩ = some (.string (ba p)) ∧ w'.cell? ⟨B, O + i * 4 + 1, none⟩ = some (.string (ba v)) ∧ w'.cell? ⟨B, O + i * 4 + 2, none⟩ = some (.int .i64 k) ∧ w'.cell? ⟨B, O + i * 4 + 3, none⟩ = some (.string (ba s)) ∧ Below w6.heap.size w6 w')
                      (first | assumption | exact HeldL.drew (by assumption) | exact H1 | exact HeldL.drew H1)
                      (first | (go_at_call 17; refine (find_held (B := B) (O := O) (i := i) (x := ⟨p, v, k, s⟩) (unhide FA) (by assumption)).mono ?_; rintro e w' ⟨rfl, kh⟩))
                    have kz : HeldL w6 B O i ⟨p, v, k, s⟩ w' := kh
                    obtain ⟨r1, r2, r3, r4, r5⟩ := id kz
                    clear m1 m2 m3 m4 H1
                    go_wp2
                    go_region_held3 (fun w' => w'.cell? ⟨B, O + i * 4, none⟩ = some (.string (ba p)) ∧ w'.cell? ⟨B, O + i * 4 + 1, none⟩ = some (.string (ba v)) ∧ w'.cell? ⟨B, O + i * 4 + 2, none⟩ = some (.int .i64 k) ∧ w'.cell? ⟨B, O + i * 4 + 3, none⟩ = some (.string (ba s)) ∧ Below w6.heap.size w6 w')
                      (first | assumption | exact HeldL.drew (by assumption) | exact kz | exact HeldL.drew kz)
                      (first | (go_at_call 17; refine (find_held (B := B) (O := O) (i := i) (x := ⟨p, v, k, s⟩) (unhide FB) (by assumption)).mono ?_; rintro e w' ⟨rfl, kh⟩))
                    have ky : HeldL w6 B O i ⟨p, v, k, s⟩ w' := kh
                    have HB9 := hide ky.2.2.2.2
                    obtain ⟨t1, t2, t3, t4, _⟩ := id ky
                    clear ky kz r5
                    go_wp2
                    go_roundw
                    case rel => exact ⟨i + 1, hlt, by simp, unhide HB9⟩
                    case measure => simp [intOf]; omega
                · have M3 := hide (merge_any (ac := c4) (bc := c4) ((unhide HG).low (low_trans (unhide B6) (unhide HW))) (unhide HN) (unhide HN) (by omega) (by omega) ((unhide HL6).low (unhide HW)) ((unhide HL6).low (unhide HW)))
                  go_wp2_with (go_at_call 27; fail)
                  refine (unhide M3).mono ?_
                  rintro e w7 h7
                  clear M3
                  rcases h7 with ⟨hc3, _⟩ | ⟨_, v7, zs7, rfl, l7, o7, _, b7⟩
                  · exact absurd hc3 (steep_calm (unhide HO).1)
                  · have e7 : zs7 = zs5 := once_self (unhide HO).1 o7
                    subst e7
                    obtain ⟨a7, c7, rfl, lr7, _⟩ := Lines.at l7
                    rw [unhide HN]
                    have B7 := hide (low_trans (unhide HW) b7)
                    have HL7 := hide lr7
                    obtain ⟨i0, hi0, hz0, hz1, hz2⟩ := info_parts info36
                    clear l7 o7 b7 lr7
                    go_wp2
                    go_loopw [21, 22] (fun v21 v22 wu => ∃ i : Nat, i ≤ N ∧ v22 = .int .i64 i ∧ Mods w7.heap.size wu v21 ((zs7.take i).map fun x => (x.p, x.v)) ∧ Below w7.heap.size w7 wu) (fun _ v22 _ => N - (intOf v22).toNat)
                    case atStart => exact ⟨0, Nat.zero_le _, rfl, mods_nil _ _, Below.refl _ _⟩
                    case round =>
                      rename World => wu
                      clear HW hi
                      obtain ⟨i, hi, rfl, hrow, hlow⟩ := hrel
                      have HR := hide hrow
                      have HW := hide hlow
                      clear hrow hlow
                      by_cases hlt : i < N
                      · have hit : i < zs7.length := by rw [unhide HN]; exact hlt
                        obtain ⟨B, O, rfl, he⟩ : ∃ B O, a4 = some ⟨B, O, none⟩ ∧ ∀ k (hk : k < zs7.length), LnAt wu B (O + k * 4) zs7[k] := by
                          rcases ((unhide HL6).low (low_trans (unhide B7) (unhide HW))).els with h | h
                          · rw [h] at hit; simp at hit
                          · exact h
                        obtain ⟨m1, m2, m3, m4⟩ := he i hit
                        have HT : Hid ((zs7.take (i + 1)).map (fun x => (x.p, x.v)) = (zs7.take i).map (fun x => (x.p, x.v)) ++ [(zs7[i].p, zs7[i].v)]) := hide (by rw [List.take_add_one, List.getElem?_eq_getElem hit, List.map_append]; rfl)
                        have hlen : ((zs7.take i).map fun x => (x.p, x.v)).length = i := by rw [List.length_map, List.length_take]; omega
                        obtain ⟨x, hx⟩ : ∃ x, zs7[i] = x := ⟨_, rfl⟩
                        rw [hx] at m1 m2 m3 m4 HT
                        obtain ⟨p, v, k, s⟩ := x
                        simp only at m1 m2 HT
                        obtain ⟨W1, hW1⟩ : ∃ W1, wu.alloc (.cells #[.string (ba p), .string (ba v)] 36) = W1 := ⟨_, rfl⟩
                        have bW1 : Below wu.heap.size wu W1 := by rw [← hW1]; exact (Below.refl _ _).alloc (Nat.le_refl _) _
                        have kW1 : Blk W1 wu.heap.size #[.string (ba p), .string (ba v)] 36 := by rw [← hW1]; exact Blk.new _ _ _
                        have hrW := (unhide HR).alloc (.cells #[.string (ba p), .string (ba v)] 36)
                        rw [hW1] at hrW
                        have hlW := low_trans (unhide HW) bW1
                        obtain ⟨v', w', happ, hown, hgr, _, _⟩ := run_append_own_at (P := Tryz.prog) W1 w7.heap.size 53 53 36 i0 _ 2 32 Tryz.underlying53 hi0 hz0 hz1 hz2 rfl (by decide) _ _ _ hrW ⟨wu.heap.size, 0, none⟩ 1 1 [.string (ba p), .string (ba v)] (by rfl) (World.news_of_block kW1) (by simp [Value.oneCell']) (by unfold maxLen; omega) (by omega) hlW.size
                        have HD : Hid (Mods w7.heap.size w' v' ((zs7.take (i + 1)).map fun x => (x.p, x.v)) ∧ Below w7.heap.size w7 w') := hide ⟨by rw [unhide HT]; exact mods_snoc hown, hlW.grown hgr hlW.size (fun j hj => (hrW.lt _ hj).1)⟩
                        clear he hx bW1 kW1 hrW hlW hown hgr m3 m4
                        have HW1 := hide hW1
                        clear hW1
                        go_wp2_with (at_builtin; rw [unhide HW1]; refine Lib.wpList_append_run _ rfl _ _ _ _ rfl _ _ rfl rfl _ _ happ ?_)
                        go_roundw
                        case rel => exact ⟨i + 1, hlt, by simp, (unhide HD).1, (unhide HD).2⟩
                        case measure => simp [intOf]; omega
                      · have hin : zs7.take i = zs7 := List.take_of_length_le (by rw [unhide HN]; omega)
                        rw [hin] at HR
                        obtain ⟨a8, c8, hv8, mr8⟩ := Mods.at (unhide HR)
                        subst hv8
                        have hl8 : (zs7.map fun x : Ln => (x.p, x.v)).length = N := by rw [List.length_map]; exact unhide HN
                        rw [hl8]
                        have A7 := hide (alike_same (ac := c7) (bc := c4) (unhide HN) (by omega) ((unhide HL7).low (unhide HW)) ((unhide HL6).low (low_trans (unhide B7) (unhide HW))))
                        have HM8 := hide mr8
                        have HL8 := hide hl8
                        have HMO : Hid (∀ x ∈ zs7, MdOk (x.p, x.v)) := hide (fun x hx => by
                          rcases List.mem_append.1 (((unhide HO).2 x).1 hx) with h | h
                          · exact unhide HXO x h
                          · exact unhide HYO x h)
                        clear hin mr8 hl8 HR
                        go_wp2_with (go_at_call 15; fail)
                        refine (num_any 0 _).mono ?_
                        rintro e w9 ⟨rfl, hw⟩
                        rw [hw]; clear hw w9
                        go_wp2_with (go_at_call 18; fail)
                        refine (unhide A7).mono ?_
                        rintro e w9 ⟨rfl, b9⟩
                        have B9 := hide (low_trans (unhide HW) b9)
                        have K9 := hide (keep_any (c := c4) (d := c8) (unhide HN) (unhide HL8) (by omega) (by omega) ((unhide HL6).low (low_trans (unhide B7) (unhide B9))) ((unhide HM8).low b9) (unhide HMO) (fun x hx => by
                          obtain ⟨y, hy, rfl⟩ := List.mem_map.1 hx
                          exact unhide HMO y hy))
                        clear b9 A7
                        go_wp2_with (go_at_call 30; fail)
                        refine (unhide K9).mono ?_
                        rintro e w10 ⟨v10, rfl, l10, b10⟩
                        rw [keep_self] at l10
                        obtain ⟨a10, c10, rfl, lr10, _⟩ := Lines.at l10
                        rw [unhide HN]
                        have B10 := hide (low_trans (unhide B9) b10)
                        have A10 := hide (alike_same (ac := c10) (bc := c4) (unhide HN) (by omega) lr10 ((unhide HL6).low (low_trans (unhide B7) (unhide B10))))
                        clear l10 lr10 b10 K9
                        go_wp2_with (go_at_call 18; fail)
                        refine (unhide A10).mono ?_
                        rintro e w11 ⟨rfl, b11⟩
                        have BZ := hide (low_trans (low_trans (low_trans (unhide B6) (unhide B7)) (unhide B10)) b11)
                        clear b11
                        go_wp2
                        go_ret
                        exact ⟨rfl, unhide BZ⟩
end

end Go.Proofs.YthcafeoamabkgaaGreatDoor
