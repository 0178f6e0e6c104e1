/-
  The reference's Merge: the contract; what both Merges answer, as plain data.
-/
import Derived.Test.YthcafeoamabkgaaGreatDoorOrdR
import Derived.Test.YthcafeoamabkgaaGreatDoorMerg
import Derived.BigQuiet
namespace Go.Proofs.YthcafeoamabkgaaGreatDoor
open Go.RowKit

/-- What a merge answers: the number of its error, and its lines. -/
def MOut (l : List Ln) (en : Int) (zs : List Ln) : Prop := (Clash l ∧ en = 28 ∧ zs = []) ∨ (¬ Clash l ∧ en = 0 ∧ Once l zs)

theorem MOut.one {l zs ys : List Ln} {a b : Int} (h : MOut l a zs) (k : MOut l b ys) : a = b ∧ zs = ys := by
  rcases h with ⟨h1, h2, h3⟩ | ⟨h1, h2, h3⟩ <;> rcases k with ⟨k1, k2, k3⟩ | ⟨k1, k2, k3⟩
  · exact ⟨h2.trans k2.symm, h3.trans k3.symm⟩
  · exact absurd h1 k1
  · exact absurd k1 h1
  · exact ⟨h2.trans k2.symm, once_unique h3 k3 fun _ => Iff.rfl⟩

theorem merge_out {w : World} {n m ac bc : Nat} {a b : Option Addr} {xs ys : List Ln} (hg : Gd w) (hx : xs.length = n) (hy : ys.length = m) (hn : n ≤ 1000) (hm : m ≤ 1000) (hA : LRow w a xs) (hB : LRow w b ys) :
    Calls Tryz.prog 27 #[.slice a n ac, .slice b m bc] w fun e w' => ∃ v en zs, e = .returned (.tuple #[v, .int .i64 en]) ∧ Lines w.heap.size w' v zs ∧ MOut (xs ++ ys) en zs ∧ zs.length ≤ n + m ∧ Below w.heap.size w w' := by
  refine (merge_any (ac := ac) (bc := bc) hg hx hy hn hm hA hB).mono ?_
  rintro e w' (⟨hc, rfl, hb⟩ | ⟨hc, v, zs, rfl, hl, ho, hz, hb⟩)
  · exact ⟨_, _, [], rfl, lines_nil _ _, Or.inl ⟨hc, rfl, rfl⟩, Nat.zero_le _, hb⟩
  · exact ⟨v, _, zs, rfl, hl, Or.inr ⟨hc, rfl, ho⟩, by rw [List.length_append] at hz; omega, hb⟩

/-- What has been gathered so far: each key once. -/
structure Nub (l out : List Ln) : Prop where
  sub : ∀ x ∈ out, x ∈ l
  all : ∀ x ∈ l, x ∈ out
  apart : out.Pairwise (fun x y => ¬ keyL x = keyL y)

theorem Nub.calm {l out : List Ln} (h : Nub l out) : ¬ Clash l := by
  rintro ⟨x, hx, y, hy, hk, hs⟩
  have hx' := h.all x hx
  have hy' := h.all y hy
  obtain ⟨i, hi, rfl⟩ := List.getElem_of_mem hx'
  obtain ⟨j, hj, rfl⟩ := List.getElem_of_mem hy'
  have hp := List.pairwise_iff_getElem.1 h.apart
  rcases Nat.lt_trichotomy i j with hij | hij | hij
  · exact hp i j hi hj hij hk
  · subst hij; exact hs rfl
  · exact hp j i hj hi hij hk.symm

theorem Nub.once {l out ys : List Ln} (h : Nub l out) (hp : ys.Perm out) (hr : Rising ys) : Once l ys := by
  refine ⟨?_, fun x => ⟨fun hx => h.sub x (hp.mem_iff.1 hx), fun hx => hp.mem_iff.2 (h.all x hx)⟩⟩
  have hd : ys.Pairwise (fun x y => ¬ keyL x = keyL y) := (hp.pairwise_iff (fun {x y} hxy e => hxy e.symm)).2 h.apart
  refine (List.Pairwise.and hr.pairwise hd).imp ?_
  rintro x y ⟨h1, h2⟩
  have t := cmpL_turn x y
  apply Classical.byContradiction
  intro h3
  exact h2 (key_of (by omega) (by omega))

theorem nub_has {l out : List Ln} {k : Nat} (h : Nub (l.take k) out) (hk : k < l.length) (hx : l[k] ∈ out) : Nub (l.take (k + 1)) out := by
  have e : l.take (k + 1) = l.take k ++ [l[k]] := by rw [List.take_add_one, List.getElem?_eq_getElem hk]; rfl
  refine ⟨fun x hx => by rw [e]; exact List.mem_append.2 (Or.inl (h.sub x hx)), fun x hm => ?_, h.apart⟩
  rw [e] at hm
  rcases List.mem_append.1 hm with hm | hm
  · exact h.all x hm
  · simp at hm; subst hm; exact hx

theorem nub_new {l out : List Ln} {k : Nat} (h : Nub (l.take k) out) (hk : k < l.length) (hx : ∀ y ∈ out, ¬ keyL y = keyL l[k]) : Nub (l.take (k + 1)) (out ++ [l[k]]) := by
  have e : l.take (k + 1) = l.take k ++ [l[k]] := by rw [List.take_add_one, List.getElem?_eq_getElem hk]; rfl
  refine ⟨fun x hm => ?_, fun x hm => ?_, List.pairwise_append.2 ⟨h.apart, by simp, fun a ha b hb => ?_⟩⟩
  · rw [e]
    rcases List.mem_append.1 hm with hm | hm
    · exact List.mem_append.2 (Or.inl (h.sub x hm))
    · exact List.mem_append.2 (Or.inr hm)
  · rw [e] at hm
    rcases List.mem_append.1 hm with hm | hm
    · exact List.mem_append.2 (Or.inl (h.all x hm))
    · exact List.mem_append.2 (Or.inr hm)
  · simp at hb; subst hb; exact hx a ha

/-- What the look through those gathered has found. -/
def Seen (out : List Ln) (x : Ln) (j : Nat) (b : Bool) : Prop := (b = true → x ∈ out) ∧ (b = false → ∀ y ∈ out.take j, ¬ keyL y = keyL x)

theorem seen_hit {out : List Ln} {x : Ln} {j : Nat} (hj : j < out.length) (hk : keyL out[j] = keyL x) (hs : out[j].s = x.s) : Seen out x (j + 1) true :=
  ⟨fun _ => by have := ln_eq hk hs; rw [← this]; exact List.getElem_mem hj, fun h => by cases h⟩
theorem seen_on {out : List Ln} {x : Ln} {j : Nat} {b : Bool} (h : Seen out x j b) (hj : j < out.length) (hk : ¬ keyL out[j] = keyL x) : Seen out x (j + 1) b := by
  refine ⟨h.1, fun hb y hy => ?_⟩
  rw [List.take_add_one, List.getElem?_eq_getElem hj] at hy
  rcases List.mem_append.1 hy with hy | hy
  · exact h.2 hb y hy
  · simp at hy; subst hy; exact hk

set_option maxRecDepth 100000 in
set_option maxHeartbeats 8000000 in
theorem refMerge_any {w : World} {n m ac bc : Nat} {a b : Option Addr} {xs ys : List Ln} (hx : xs.length = n) (hy : ys.length = m) (hn : n ≤ 1000) (hm : m ≤ 1000) (hA : LRow w a xs) (hB : LRow w b ys) :
    Calls Tryz.prog 28 #[.slice a n ac, .slice b m bc] w fun e w' => ∃ v en zs, e = .returned (.tuple #[v, .int .i64 en]) ∧ RLines w.heap.size w' v zs ∧ MOut (xs ++ ys) en zs ∧ Below w.heap.size w w' := by
  have b1 : Below w.heap.size w (w.alloc (.cells #[] 105)) := (Below.refl _ _).alloc (Nat.le_refl _) _
  obtain ⟨v1, w1, r1, l1, g1⟩ := rapp_row (c := ac) 44 (rlines_new w) hx (hA.low b1) b1.size (by simp; omega)
  rw [List.nil_append] at l1
  have bw1 : Below w.heap.size w w1 := b1.grown g1 b1.size (fun j hj => ((rlines_new w).lt _ hj).1)
  obtain ⟨v2, w2, r2, l2, g2⟩ := rapp_row (c := bc) 44 l1 hy (hB.low bw1) bw1.size (by omega)
  have bw2 : Below w.heap.size w w2 := bw1.grown g2 bw1.size (fun j hj => (l1.lt _ hj).1)
  obtain ⟨L, hL⟩ : ∃ L, xs ++ ys = L := ⟨_, rfl⟩
  obtain ⟨N, hN⟩ : ∃ N, L.length = N := ⟨_, rfl⟩
  have hNN : N = n + m := by rw [← hN, ← hL, List.length_append, hx, hy]
  rw [hL] at l2 ⊢
  obtain ⟨a2, c2, rfl, lr2, _⟩ := RLines.at l2
  rw [hN] at r2
  have HN := hide hN
  have HL2 := hide lr2
  have HB2 := hide bw2
  have hN2 : N ≤ 2000 := by omega
  clear hx hy hA hB b1 l1 g1 bw1 g2 bw2 l2 lr2 hL hNN
  go_enter Tryz.func28, Tryz.ntmps28
  go_wp2_with (at_builtin; first | refine Lib.wpList_append_run _ rfl _ _ _ _ rfl _ _ rfl rfl _ _ r1 ?_ | refine Lib.wpList_append_run _ rfl _ _ _ _ rfl _ _ rfl rfl _ _ r2 ?_)
  go_loopw [7, 8, 9, 10] (fun v7 v8 _ _ wr => ∃ (i : Nat) (out : List Ln), i ≤ N ∧ v8 = .int .i64 i ∧ out.length ≤ i ∧ RLines w2.heap.size wr v7 out ∧ Nub (L.take i) out ∧ Below w2.heap.size w2 wr) (fun _ v8 _ _ _ => N - (intOf v8).toNat)
  case atStart => exact ⟨0, [], Nat.zero_le _, rfl, Nat.zero_le _, rlines_nil _ _, ⟨by simp, by simp, List.Pairwise.nil⟩, Below.refl _ _⟩
  case round =>
    rename World => wr
    obtain ⟨i, out, hi, rfl, hol, hrow, hnub, hlow2⟩ := hrel
    have HR := hide hrow
    have HL := hide (low_trans (unhide HB2) hlow2)
    have HLL := hide hlow2
    have HNB := hide hnub
    obtain ⟨a7, c7, hv7, hr7, _⟩ := RLines.at hrow
    obtain ⟨M, hM⟩ : ∃ M, out.length = M := ⟨_, rfl⟩
    rw [hM] at hv7 hol
    have HM := hide hM
    have HR7 := hide hr7
    clear hrow hlow2 hnub hr7 hM
    subst hv7
    by_cases hlt : i < N
    · have hit : i < L.length := by rw [unhide HN]; exact hlt
      obtain ⟨B, O, rfl, he⟩ : ∃ B O, a2 = some ⟨B, O, none⟩ ∧ ∀ k (hk : k < L.length), LnAt wr B (O + k * 4) L[k] := by
        rcases ((unhide HL2).low (unhide HLL)).els with h | h
        · rw [h] at hit; simp at hit
        · exact h
      have ha := he i hit
      have HAS := hide (nub_has (unhide HNB) hit)
      have HNEW := hide (nub_new (unhide HNB) hit)
      have hxm := List.getElem_mem hit
      obtain ⟨x, hx⟩ : ∃ x, L[i] = x := ⟨_, rfl⟩
      rw [hx] at ha HAS HNEW hxm
      have HXM := hide hxm
      have HA := hide ha
      clear he hx ha hxm
      go_wp2
      go_loopw [9, 10] (fun v9 v10 wq => ∃ (j q : Nat) (b : Bool), j ≤ M ∧ v10 = .int .i64 j ∧ v9 = .bool b ∧ Seen out x j b ∧ wq = wr.drewN q) (fun _ v10 _ => M - (intOf v10).toNat)
      case atStart => exact ⟨0, 0, false, Nat.zero_le _, rfl, rfl, ⟨fun h => absurd h (by decide), fun _ y hy => absurd hy (by simp)⟩, rfl⟩
      case round =>
        rename World => wq
        obtain ⟨j, q, bb, hj, rfl, rfl, hseen, hwq⟩ := hrel
        have HSE := hide hseen
        have HQ := hide hwq
        clear hseen
        by_cases hjm : j < M
        · have hjt : j < out.length := by rw [unhide HM]; exact hjm
          obtain ⟨Y, Z, rfl, hz⟩ : ∃ Y Z, a7 = some ⟨Y, Z, none⟩ ∧ ∀ k (hk : k < out.length), LnAt wr Y (Z + k * 4) out[k] := by
            rcases (unhide HR7).els with h | h
            · rw [h] at hjt; simp at hjt
            · exact h
          have hzj := hz j hjt
          have HHIT := hide (seen_hit (x := x) hjt)
          have HON := hide (seen_on (unhide HSE) hjt)
          have HIN := hide ((unhide HNB).sub _ (List.getElem_mem hjt))
          obtain ⟨y, hy⟩ : ∃ y, out[j] = y := ⟨_, rfl⟩
          rw [hy] at hzj HHIT HON HIN
          obtain ⟨m1, m2, m3, m4⟩ := unhide HA
          obtain ⟨p1, p2, p3, p4⟩ := hzj
          have q1 : wq.cell? ⟨B, O + i * 4, none⟩ = some (.string (ba x.p)) := by rw [hwq]; exact m1
          have q2 : wq.cell? ⟨B, O + i * 4 + 1, none⟩ = some (.string (ba x.v)) := by rw [hwq]; exact m2
          have q3 : wq.cell? ⟨B, O + i * 4 + 2, none⟩ = some (.int .i64 x.k) := by rw [hwq]; exact m3
          have q4 : wq.cell? ⟨B, O + i * 4 + 3, none⟩ = some (.string (ba x.s)) := by rw [hwq]; exact m4
          have q5 : wq.cell? ⟨Y, Z + j * 4, none⟩ = some (.string (ba y.p)) := by rw [hwq]; exact p1
          have q6 : wq.cell? ⟨Y, Z + j * 4 + 1, none⟩ = some (.string (ba y.v)) := by rw [hwq]; exact p2
          have q7 : wq.cell? ⟨Y, Z + j * 4 + 2, none⟩ = some (.int .i64 y.k) := by rw [hwq]; exact p3
          have q8 : wq.cell? ⟨Y, Z + j * 4 + 3, none⟩ = some (.string (ba y.s)) := by rw [hwq]; exact p4
          clear hz hy hwq m1 m2 m3 m4 p1 p2 p3 p4 HSE
          rcases key_part y x with ⟨hk, hs, f1, f2, f3, f4, f5⟩ | ⟨hk, hs, f1, f2, f3, f4, f5⟩ | ⟨hk, f1⟩ | ⟨hk, f1, f2⟩ | ⟨hk, f1, f2, f3⟩
          · have HS := hide ((unhide HHIT) hk hs)
            clear hk hs HHIT HON
            go_wp2
            go_quiet (fail)
            go_wp2
            go_quiet (fail)
            go_wp2
            go_roundw
            case rel => exact ⟨j + 1, _, true, hjm, by simp, rfl, unhide HS, by rw [unhide HQ, World.drewN_drewN]⟩
            case measure => simp [intOf]; omega
          · have HS : Hid (Clash L) := hide ⟨y, List.mem_of_mem_take (unhide HIN), x, unhide HXM, hk, hs⟩
            clear hk hs HHIT HON
            go_wp2
            go_quiet (fail)
            go_wp2
            go_quiet (fail)
            go_wp2
            go_ret2
            exact ⟨_, _, [], rfl, rlines_nil _ _, Or.inl ⟨unhide HS, rfl, rfl⟩, low_drewN (low_drewN (by rw [unhide HQ]; exact low_drewN (unhide HL) _) _) _⟩
          all_goals
            have HS := hide ((unhide HON) hk)
            clear hk HHIT HON
            go_wp2
            go_quiet (fail)
            go_wp2
            go_roundw
            case rel => exact ⟨j + 1, q + nq, bb, hjm, by simp, rfl, unhide HS, by rw [unhide HQ, World.drewN_drewN]⟩
            case measure => simp [intOf]; omega
        · have hall : out.take j = out := List.take_of_length_le (by rw [unhide HM]; omega)
          have HLW2 : Hid (Below w2.heap.size w2 wq) := hide (by rw [hwq]; exact low_drewN (unhide HLL) _)
          have hRW : RLines w2.heap.size wq (.slice a7 M c7) out := by rw [hwq]; exact row_drewN (unhide HR) _
          cases bb with
          | true =>
            have HD := hide ((unhide HAS) ((unhide HSE).1 rfl))
            have HRW := hide hRW
            clear hall hwq hRW HAS HNEW
            go_wp2
            go_roundw
            case rel => exact ⟨i + 1, out, hlt, by simp, by rw [unhide HM]; omega, unhide HRW, unhide HD, unhide HLW2⟩
            case measure => simp [intOf]; omega
          | false =>
            have HD := hide ((unhide HNEW) (by have := (unhide HSE).2 rfl; rwa [hall] at this))
            obtain ⟨v', w', happ, hown, hb⟩ := rapp_one (x := x) hRW (unhide HLW2).size (by rw [unhide HM]; omega)
            have HE : Hid (RLines w2.heap.size w' v' (out ++ [x]) ∧ Below w2.heap.size w2 w') := hide ⟨hown, (unhide HLW2).trans hb⟩
            obtain ⟨m1, m2, m3, m4⟩ := unhide HA
            have q1 : wq.cell? ⟨B, O + i * 4, none⟩ = some (.string (ba x.p)) := by rw [hwq]; exact m1
            have q2 : wq.cell? ⟨B, O + i * 4 + 1, none⟩ = some (.string (ba x.v)) := by rw [hwq]; exact m2
            have q3 : wq.cell? ⟨B, O + i * 4 + 2, none⟩ = some (.int .i64 x.k) := by rw [hwq]; exact m3
            have q4 : wq.cell? ⟨B, O + i * 4 + 3, none⟩ = some (.string (ba x.s)) := by rw [hwq]; exact m4
            clear hall hwq hRW HAS HNEW hown hb m1 m2 m3 m4
            obtain ⟨xp, xv, xk, xz⟩ := x
            simp only at q1 q2 q3 q4 happ
            go_wp2_with (at_builtin; refine Lib.wpList_append_run _ rfl _ _ _ _ rfl _ _ rfl rfl _ _ happ ?_)
            go_roundw
            case rel => exact ⟨i + 1, out ++ [⟨xp, xv, xk, xz⟩], hlt, by simp, by rw [List.length_append, unhide HM]; simp; omega, (unhide HE).1, unhide HD, (unhide HE).2⟩
            case measure => simp [intOf]; omega
    · have hin : L.take i = L := List.take_of_length_le (by rw [unhide HN]; omega)
      have hnb := unhide HNB
      rw [hin] at hnb
      have HO := hide hnb
      have HORD := hide (ordered_any (c := c7) (unhide HM) (by omega) (unhide HR7))
      clear hin hnb
      go_wp2_with (go_at_call 64; fail)
      refine (unhide HORD).mono ?_
      rintro e w9 ⟨v9, zs, rfl, l9, hp, hr, b9⟩
      have HD : Hid (∃ v en ys, Ending.returned (.tuple #[v9, .int .i64 0]) = .returned (.tuple #[v, .int .i64 en]) ∧ RLines w.heap.size w9 v ys ∧ MOut L en ys ∧ Below w.heap.size w w9) := hide ⟨v9, 0, zs, rfl, rlines_mono l9 (unhide HL).size, Or.inr ⟨(unhide HO).calm, rfl, (unhide HO).once hp hr⟩, low_trans (unhide HL) b9⟩
      clear l9 hp hr b9 HORD
      go_wp2
      go_ret2
      exact unhide HD

end Go.Proofs.YthcafeoamabkgaaGreatDoor
