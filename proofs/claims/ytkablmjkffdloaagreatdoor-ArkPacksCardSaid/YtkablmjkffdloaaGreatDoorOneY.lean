/-
  One form: the law's walk.
-/
import Derived.Test.YtkablmjkffdloaaGreatDoorUnpV
import Derived.Test.YtkablmjkffdloaaGreatDoorTelY
import Derived.Test.YtkablmjkffdloaaGreatDoorByX
namespace Go.Proofs.YtkablmjkffdloaaGreatDoor
open Go.RowKit

theorem FdAt.low {w w' : World} {a : Option Addr} {l : List Nd} (h : FdAt w a l) (hb : Below w.heap.size w w') : FdAt w' a l := by
  obtain ⟨ys, h1, h2, h3⟩ := h
  exact ⟨ys, h1, h2.low hb, h3.low hb⟩
theorem FdAt.get {w : World} {a : Option Addr} {l : List Nd} (h : FdAt w a l) {k : Nat} (hk : k < l.length) : ∃ B O fa fn fc, a = some ⟨B, O, none⟩ ∧ w.cell? ⟨B, O + k * 2, none⟩ = some (.string (ba l[k].1)) ∧ w.cell? ⟨B, O + k * 2 + 1, none⟩ = some (.slice fa fn fc) ∧ l[k].2.length = fn ∧ BAt w fa l[k].2 := by
  obtain ⟨ys, h1, h2, h3⟩ := h
  have hl : ys.length = l.length := by have := congrArg List.length h1; simpa using this
  have hky : k < ys.length := by omega
  obtain ⟨B, O, e, g0, g1⟩ := h2.get hky
  have hn : ys[k].nm = l[k].1 := by
    have h4 : (ys.map Fl.nm)[k]? = (l.map Prod.fst)[k]? := by rw [h1]
    simp [hky, hk] at h4
    exact h4
  obtain ⟨l1, t1⟩ := h3.one k hky (by rw [List.length_map]; exact hk)
  rw [List.getElem_map] at l1 t1
  exact ⟨B, O, ys[k].a, ys[k].n, ys[k].c, e, by rw [← hn]; exact g0, g1, l1, t1⟩

set_option maxRecDepth 100000 in
set_option maxHeartbeats 4000000 in
theorem sameFd_any {w : World} {a a2 : Option Addr} {n m c c2 : Nat} {l1 l2 : List Nd} (h1 : l1.length = n) (h2 : l2.length = m) (hn : n ≤ 1000000) (hm : m ≤ 1000000) (hs1 : ∀ p ∈ l1, p.2.length ≤ 1073741824) (hs2 : ∀ p ∈ l2, p.2.length ≤ 1073741824) (F1 : FdAt w a l1) (F2 : FdAt w a2 l2) :
    Calls Tryz.prog 21 #[.slice a n c, .slice a2 m c2] w fun e w' => e = .returned (.bool (decide (l1 = l2))) ∧ ∃ q, w' = w.drewN q := by
  obtain ⟨RES, hR⟩ : ∃ R, decide (l1 = l2) = R := ⟨_, rfl⟩
  rw [hR]
  have HR := hide hR
  have H1 := hide h1
  have H2 := hide h2
  have HF1 := hide F1
  have HF2 := hide F2
  have HS1 := hide hs1
  have HS2 := hide hs2
  clear hR h1 h2 F1 F2 hs1 hs2
  by_cases hnm : n = m
  · subst hnm
    go_enter Tryz.func21, Tryz.ntmps21
    go_wp2
    go_loopw [5] (fun v5 wr => ∃ k q : Nat, k ≤ n ∧ v5 = .int .i64 (k : Int) ∧ Hid (∀ j (_ : j < k) (h1 : j < l1.length) (h2 : j < l2.length), l1[j] = l2[j]) ∧ wr = w.drewN q) (fun v5 _ => n - (intOf v5).toNat)
    case atStart => exact ⟨0, 0, Nat.zero_le _, rfl, hide (fun j h => by omega), rfl⟩
    case round =>
      rename World => wr
      obtain ⟨k, q, hk, rfl, hsame, hwr⟩ := hrel
      have HWR := hide hwr
      by_cases hlt : k < n
      · have hk1 : k < l1.length := by rw [unhide H1]; exact hlt
        have hk2 : k < l2.length := by rw [unhide H2]; exact hlt
        have hlt' : (k : Int) < (n : Int) := by omega
        have hbw : Below w.heap.size w wr := by rw [hwr]; exact low_q _
        obtain ⟨B, O, fa, fn, fc, rfl, g0, g1, u1, t1⟩ := ((unhide HF1).low hbw).get hk1
        obtain ⟨B2, O2, fa2, fn2, fc2, rfl, k0, k1, u2, t2⟩ := ((unhide HF2).low hbw).get hk2
        have b1 := unhide HS1 _ (List.getElem_mem hk1)
        have b2 := unhide HS2 _ (List.getElem_mem hk2)
        have hnext : Hid (l1[k] = l2[k] → ∀ j (_ : j < k + 1) (h1 : j < l1.length) (h2 : j < l2.length), l1[j] = l2[j]) := hide (fun e j hj h1 h2 => by
          by_cases e2 : j = k
          · subst e2; exact e
          · exact unhide hsame j (by omega) h1 h2)
        have hfail : Hid (l1[k] ≠ l2[k] → RES = false) := hide (fun e => by
          rw [← unhide HR]
          refine decide_eq_false (fun e2 => e ?_)
          subst e2
          rfl)
        obtain ⟨x, hxx⟩ : ∃ x, l1[k] = x := ⟨_, rfl⟩
        obtain ⟨y, hyy⟩ : ∃ y, l2[k] = y := ⟨_, rfl⟩
        rw [hxx] at g0 u1 t1 b1 hnext hfail
        rw [hyy] at k0 u2 t2 b2 hnext hfail
        obtain ⟨xnm, xd⟩ := x
        obtain ⟨ynm, yd⟩ := y
        simp only at g0 u1 t1 b1 k0 u2 t2 b2
        obtain ⟨sb, hsb⟩ : ∃ sb, decide (xd = yd) = sb := ⟨_, rfl⟩
        have HC : Hid (∀ nq, Calls Tryz.prog 23 #[.slice fa fn fc, .slice fa2 fn2 fc2] (wr.drewN nq) fun e w' => e = .returned (.bool sb) ∧ ∃ m, w' = (wr.drewN nq).drewN m) := hide (fun nq => by
          have kk := sameBytes_any (w := wr.drewN nq) (c := fc) (c2 := fc2) u1 u2 (by omega) (by omega) (t1.low (low_q _)) (t2.low (low_q _))
          rw [hsb] at kk
          exact kk)
        clear hxx hyy u1 t1 b1 u2 t2 b2 hbw hwr hk1 hk2
        by_cases hne : xnm = ynm
        · subst hne
          have ss : ((ba xnm).toList != (ba xnm).toList) = false := by simp
          have ss2 : ((ba xnm).toList == (ba xnm).toList) = true := by simp
          cases sb with
          | true =>
            have HNX := hide (unhide hnext (by rw [of_decide_eq_true hsb]))
            clear hnext hfail hsb hsame
            go_wp2
            go_quiet ((go_at_call 23; exact Calls.quiet_of (unhide HC _)))
            go_wp2
            go_roundw
            case rel => exact ⟨k + 1, q + nq, hlt, by push_cast; rfl, HNX, by rw [unhide HWR, World.drewN_drewN]⟩
            case measure => simp [intOf]; omega
          | false =>
            have HNX := hide (unhide hfail (fun e => by
              have : xd = yd := congrArg Prod.snd e
              exact absurd this (of_decide_eq_false hsb)))
            clear hnext hfail hsb hsame
            go_wp2
            go_quiet ((go_at_call 23; exact Calls.quiet_of (unhide HC _)))
            go_wp2
            go_ret
            exact ⟨by rw [unhide HNX]; rfl, q + nq, by rw [unhide HWR, World.drewN_drewN]⟩
        · have ss2 : ((ba xnm).toList == (ba ynm).toList) = false := by
            rw [baL_list, baL_list]
            simpa using hne
          have ss : ((ba xnm).toList != (ba ynm).toList) = true := by
            rw [bne, ss2]; rfl
          have HNX := hide (unhide hfail (fun e => hne (congrArg Prod.fst e)))
          clear hnext hfail hsb hsame hne HC
          go_wp2
          go_quiet (fail)
          go_wp2
          go_ret
          exact ⟨by rw [unhide HNX]; rfl, q + nq, by rw [unhide HWR, World.drewN_drewN]⟩
      · have hkn : k = n := by omega
        subst hkn
        have HF : Hid (RES = true) := hide (by
          rw [← unhide HR]
          refine decide_eq_true (List.ext_getElem (by rw [unhide H1, unhide H2]) (fun j g1 g2 => unhide hsame j (by rw [unhide H1] at g1; exact g1) g1 g2))
          )
        clear hwr hsame
        go_wp2
        go_ret
        exact ⟨by rw [unhide HF]; rfl, q, unhide HWR⟩
  · have hne : ((n : Int) == (m : Int)) = false := by simp; omega
    have hne2 : ((n : Int) != (m : Int)) = true := by simp; omega
    have HF : Hid (RES = false) := hide (by
      rw [← unhide HR]
      refine decide_eq_false (fun e => hnm ?_)
      rw [← unhide H1, ← unhide H2, e])
    clear hnm
    go_enter Tryz.func21, Tryz.ntmps21
    go_wp2
    go_ret
    exact ⟨by rw [unhide HF]; rfl, 0, rfl⟩
end Go.Proofs.YtkablmjkffdloaaGreatDoor

namespace Go.Proofs.YtkablmjkffdloaaGreatDoor
open Go.RowKit

theorem nmE_iff : ∀ (l seen : List Bs), nmE seen l = 0 ↔ (∀ x ∈ l, nameF x = true) ∧ (l.map lowL).Nodup ∧ ∀ x ∈ l, lowL x ∉ seen
  | [], seen => by simp [nmE]
  | x :: r, seen => by
    simp only [nmE]
    by_cases h1 : nameF x = false
    · rw [if_pos h1]
      constructor
      · intro h; cases h
      · rintro ⟨h, _⟩
        have := h x (by simp)
        rw [h1] at this
        cases this
    · rw [if_neg h1]
      have h1' : nameF x = true := by simpa using h1
      by_cases h2 : lowL x ∈ seen
      · rw [if_pos h2]
        constructor
        · intro h; cases h
        · rintro ⟨_, _, h⟩
          exact absurd h2 (h x (by simp))
      · rw [if_neg h2, nmE_iff r]
        constructor
        · rintro ⟨a1, a2, a3⟩
          refine ⟨fun y hy => ?_, ?_, fun y hy => ?_⟩
          · rcases List.mem_cons.1 hy with rfl | hy
            · exact h1'
            · exact a1 y hy
          · rw [List.map_cons]
            refine List.nodup_cons.2 ⟨fun hm => ?_, a2⟩
            obtain ⟨z, hz, e⟩ := List.mem_map.1 hm
            exact a3 z hz (by rw [e]; simp)
          · rcases List.mem_cons.1 hy with rfl | hy
            · exact h2
            · exact fun hm => a3 y hy (by simp [hm])
        · rintro ⟨a1, a2, a3⟩
          rw [List.map_cons] at a2
          obtain ⟨a4, a5⟩ := List.nodup_cons.1 a2
          refine ⟨fun y hy => a1 y (by simp [hy]), a5, fun y hy hm => ?_⟩
          rcases List.mem_cons.1 hm with e | hm
          · exact a4 (by rw [← e]; exact List.mem_map_of_mem hy)
          · exact a3 y (by simp [hy]) hm
theorem nmE_perm {l m : List Bs} (h : l.Perm m) : nmE [] l = 0 ↔ nmE [] m = 0 := by
  rw [nmE_iff, nmE_iff]
  have e := (h.map lowL).nodup_iff
  constructor
  · rintro ⟨a1, a2, _⟩
    exact ⟨fun x hx => a1 x (h.mem_iff.2 hx), e.1 a2, by simp⟩
  · rintro ⟨a1, a2, _⟩
    exact ⟨fun x hx => a1 x (h.mem_iff.1 hx), e.2 a2, by simp⟩
/-- These files can be packed. -/
def Good (dat : Fl → Bs) (xs : List Fl) : Prop := xs.length ≤ 100 ∧ nmE [] (xs.map Fl.nm) = 0 ∧ 22 + sizesL (xs.map (ndF dat)) ≤ 1048576
theorem Good.perm {dat : Fl → Bs} {xs ys : List Fl} (h : Good dat xs) (p : xs.Perm ys) : Good dat ys :=
  ⟨by rw [← p.length_eq]; exact h.1, (nmE_perm (p.map Fl.nm)).1 h.2.1, by rw [← sizes_perm (p.map (ndF dat))]; exact h.2.2⟩
/-- What Pack answers to any files. -/
def PkR (base : Nat) (dat : Fl → Bs) (xs : List Fl) (e : Ending) (w' : World) : Prop :=
  (¬ Good dat xs ∧ ∃ E : Int, E ≠ 0 ∧ e = .returned (.tuple #[.slice none 0 0, .int .i64 E])) ∨
  (Good dat xs ∧ ∃ v ys, e = .returned (.tuple #[v, .int .i64 0]) ∧ ys.Perm xs ∧ Rising ys ∧ OwnB base w' v (arcL (ys.map (ndF dat))))
theorem pack_all {w : World} {a : Option Addr} {n c : Nat} {xs : List Fl} {dat : Fl → Bs} (hg : Ml w) (hx : xs.length = n) (hform : (a = none ∧ n = 0 ∧ c = 0) ∨ ∃ B O, a = some ⟨B, O, none⟩) (hc : n ≤ c) (h : FAt w a xs) (hd : DatG w xs dat) :
    Calls Tryz.prog 18 #[.slice a n c] w fun e w' => PkR w.heap.size dat xs e w' ∧ Below w.heap.size w w' := by
  by_cases hn : n ≤ 100
  · refine (pack_any hg hx hn hform hc h hd).mono ?_
    rintro e w' ⟨hp, b⟩
    refine ⟨?_, b⟩
    rcases hp with ⟨h1, rfl⟩ | ⟨h1, h2, rfl⟩ | ⟨h1, h2, v, ys, rfl, h3, h4, h5⟩
    · exact Or.inl ⟨fun hg => h1 hg.2.1, _, h1, rfl⟩
    · exact Or.inl ⟨fun hg => by have := hg.2.2; omega, 13, by decide, rfl⟩
    · exact Or.inr ⟨⟨by omega, h1, h2⟩, v, ys, rfl, h3, h4, h5⟩
  · refine (pack_many (by omega)).mono ?_
    rintro e w' ⟨rfl, rfl⟩
    exact ⟨Or.inl ⟨fun hg => by have := hg.1; omega, 14, by decide, rfl⟩, Below.refl _ _⟩
theorem arc_pos (l : List Nd) : 22 ≤ (arcL l).length := by
  unfold arcL endL
  simp [leAll_len]
  omega
theorem arc_len (l : List Nd) : (arcL l).length = sizesL l + 22 := by
  have := parts_len l 0
  unfold arcL endL
  simp [leAll_len]
  omega
/-- Sorted files of one bag are packed alike. -/
theorem arcs_same {dat : Fl → Bs} {xs ys zs : List Fl} (hn : nmE [] (xs.map Fl.nm) = 0) (hy : ys.Perm xs) (hz : zs.Perm xs) (ry : Rising ys) (rz : Rising zs) : ys.map (ndF dat) = zs.map (ndF dat) := by
  have hnd := (nmE_nodup _ _ hn).1
  exact stp_perm (stp_of ry ((hy.map Fl.nm).nodup_iff.2 hnd)) (stp_of rz ((hz.map Fl.nm).nodup_iff.2 hnd)) ((hy.trans hz.symm).map _)
/-- A byte of an archive turned: other files. -/
theorem turn_tells {dat : Fl → Bs} {xs ys zs : List Fl} {L : List Sf} {p : Nat} {x : UInt8} (hn : nmE [] (xs.map Fl.nm) = 0) (hy : ys.Perm xs) (ry : Rising ys) (hz : zs.Perm xs) (rz : Rising zs) (hp : p < (arcL (ys.map (ndF dat))).length) (hx : (arcL (ys.map (ndF dat)))[p] ≠ x) (hL : Packs L ((arcL (ys.map (ndF dat))).set p x)) : ¬ L.map sfN = zs.map (ndF dat) := by
  intro e
  obtain ⟨qs, h1, h2, h3, -⟩ := hL
  have hnd := (nmE_nodup _ _ hn).1
  have hs : Stp (zs.map (ndF dat)) := stp_of rz ((hz.map Fl.nm).nodup_iff.2 hnd)
  have e2 : qs = zs.map (ndF dat) := stp_perm h2 hs (by rw [← e]; exact h1)
  rw [e2, ← arcs_same hn hy hz ry rz] at h3
  have h4 : (arcL (ys.map (ndF dat)))[p]? = ((arcL (ys.map (ndF dat))).set p x)[p]? := by rw [← h3]
  rw [List.getElem?_set_self hp, List.getElem?_eq_getElem hp] at h4
  exact hx (Option.some.inj h4)
theorem mod_snd (i : Int) {N : Nat} (hN : 1 ≤ N) : ∃ (r : Int) (s j : Nat), i.tmod (N : Int) = r ∧ r + (N : Int) = (s : Int) ∧ s < 2 * N ∧ (s : Int).tmod (N : Int) = (j : Int) ∧ j < N := by
  have h1 : i.tmod (N : Int) < N := Int.tmod_lt_of_pos i (by omega)
  have h2 : -(N : Int) < i.tmod (N : Int) := Int.lt_tmod_of_pos i (by omega)
  refine ⟨_, (i.tmod (N : Int) + N).toNat, (i.tmod (N : Int) + N).toNat % N, rfl, by omega, by omega, ?_, Nat.mod_lt _ (by omega)⟩
  rw [Int.tmod_eq_emod_of_nonneg (by omega)]
  omega
end Go.Proofs.YtkablmjkffdloaaGreatDoor

namespace Go.Proofs.YtkablmjkffdloaaGreatDoor
open Go.RowKit

theorem OwnB.val {B : Nat} {w : World} {v : Value} {l : Bs} (h : OwnB B w v l) (h1 : 1 ≤ l.length) : ∃ g c, v = .slice (some ⟨g, 0, none⟩) l.length c ∧ OwnB B w (.slice (some ⟨g, 0, none⟩) l.length c) l ∧ B ≤ g ∧ l.length ≤ c ∧ c ≤ maxLen ∧ w.frozen? ⟨g, 0, none⟩ = false ∧ ∀ p, w.frozen? ⟨g, p, none⟩ = false := by
  rcases h.2 with ⟨_, h0⟩ | ⟨g, cap, cur, e, hb, hblk, hcap, hcm, hr⟩
  · omega
  · subst e
    exact ⟨g, cap, rfl, h, hb, hcap, hcm, Lib.frozen_of_heap hblk 0, fun p => Lib.frozen_of_heap hblk p⟩

theorem low_set {w0 w : World} (b : Below w0.heap.size w0 w) {g k : Nat} (h : w0.heap.size ≤ g) (v : Value) : Below w0.heap.size w0 (w.setCell ⟨g, k, none⟩ v) :=
  ⟨b.os, b.tape, b.output, by simp [World.setCell]; exact b.size, fun j hj => (Below.heap_setCell w ⟨g, k, none⟩ v j (by show j ≠ g; omega)).trans (b.block j hj)⟩
theorem unp_ok {b : Bs} {L : List Sf} (h : UnpS b 0) (hL : headsR b = some L) : L.length ≤ 100 ∧ Packs L b ∧ chkE [] L = 0 ∧ b.length ≤ 1048576 := by
  rcases h with ⟨_, e⟩ | ⟨_, _, e⟩ | ⟨L', hb, hL', h⟩
  · cases e
  · cases e
  · rw [hL] at hL'
    obtain rfl := Option.some.inj hL'
    rcases h with ⟨_, e⟩ | ⟨h1, h2⟩
    · cases e
    · rcases h2 with ⟨h3, e⟩ | ⟨h3, h4⟩
      · exact absurd e.symm h3
      · rcases h4 with ⟨_, e⟩ | ⟨h5, _⟩
        · cases e
        · exact ⟨h1, h5, h3, hb⟩
theorem sizes_mem {l : List Nd} {p : Nd} (h : p ∈ l) : p.2.length ≤ sizesL l := by
  induction l with
  | nil => cases h
  | cons q r ih =>
    rw [sizes_cons]
    rcases List.mem_cons.1 h with rfl | h
    · omega
    · have := ih h
      omega
theorem fd_of {w : World} {a : Option Addr} {ys : List Fl} {dat : Fl → Bs} (h : FAt w a ys) (hd : DatG w ys dat) : FdAt w a (ys.map (ndF dat)) := ⟨ys, by rw [List.map_map]; rfl, h, by
  rw [List.map_map]
  exact hd.one⟩

set_option maxRecDepth 100000 in
set_option maxHeartbeats 8000000 in
theorem one_law {w : World} {a : Option Addr} {n c : Nat} {xs : List Fl} {dx : Fl → Bs} {t : Int} {xb : UInt8} (hg : Ml w) (hx : xs.length = n) (hn : n ≤ 9223372036854775807) (hc : n ≤ c) (ha : (a = none ∧ n = 0 ∧ c = 0) ∨ ∃ B O, a = some ⟨B, O, none⟩) (hX : FAt w a xs) (hDX : DatW w xs dx) :
    Calls Tryz.prog 8 #[.slice a n c, .int .i64 t, .int .u8 (xb.toNat : Int)] w fun e w' => e = .returned (.bool true) ∧ Below w.heap.size w w' := by
  have HG := hide hg
  have HXN := hide hx
  have HA := hide ha
  have HX := hide hX
  have HDX := hide hDX
  clear hg hx ha hX hDX
  go_enter Tryz.func8, Tryz.ntmps8
  go_wp2_with (go_at_call 16; fail)
  refine (first_any w).mono ?_
  rintro e w2 ⟨rfl, b2⟩
  have HB2 := hide b2
  clear b2
  have K1 := hide (fewF_any (c := c) (unhide HXN) hn ((unhide HX).low (unhide HB2)))
  go_wp2_with (go_at_call 17; fail)
  refine (unhide K1).mono ?_
  rintro e wn ⟨⟨f1, rfl, hf1⟩, hwn⟩
  rw [hwn]
  clear hwn wn K1
  have HF1 := hide hf1
  clear hf1
  cases f1 with
  | false =>
    go_wp2
    go_ret
    exact ⟨rfl, unhide HB2⟩
  | true =>
    by_cases g1 : 110 < n
    · have a1 : (110 : Int) < (n : Int) := by omega
      go_wp2
      go_ret
      exact ⟨rfl, unhide HB2⟩
    have a1 : ¬ (110 : Int) < (n : Int) := by omega
    have hn110 : n ≤ 110 := by omega
    have hsx := unhide HF1 (by first | trivial | rfl)
    have HGX := hide (((unhide HDX).small hsx).low (unhide HB2))
    have HX2 := hide ((unhide HX).low (unhide HB2))
    have HG2 := hide ((unhide HG).low (unhide HB2))
    clear hsx HF1 HX HG HDX hn g1
    have b0 : -1 ≤ (n : Int) - 1 := by omega
    go_wp2
    go_loopw [9, 10] (fun v9 v10 wr => ∃ r : Nat, r ≤ n ∧ v10 = .int .i64 ((r : Int) - 1) ∧ FRow w2.heap.size wr v9 ((xs.drop r).reverse) ∧ Below w2.heap.size w2 wr) (fun _ v10 _ => (intOf v10 + 1).toNat)
    case atStart => exact ⟨n, Nat.le_refl _, rfl, by rw [List.drop_of_length_le (by rw [unhide HXN]; exact Nat.le_refl _)]; exact World.ownsRow_nil _ _ _ _, Below.refl _ _⟩
    case round =>
      rename World => wr
      obtain ⟨r, hr, rfl, hrow, hbw⟩ := hrel
      cases r with
      | succ r =>
        have hrx : r < xs.length := by rw [unhide HXN]; exact hr
        have e1 : ((r + 1 : Nat) : Int) - 1 = (r : Int) := by omega
        rw [e1]
        have hrn : (r : Int) < (n : Int) := by omega
        have hr0 : (0 : Int) ≤ (r : Int) := by omega
        obtain ⟨B, O, rfl, k0, k1⟩ := ((unhide HX2).low hbw).get hrx
        have hdr : (xs.drop r).reverse = (xs.drop (r + 1)).reverse ++ [xs[r]] := by
          rw [List.drop_eq_getElem_cons hrx, List.reverse_cons]
        obtain ⟨x, hxx⟩ : ∃ x, xs[r] = x := ⟨_, rfl⟩
        rw [hxx] at k0 k1 hdr
        obtain ⟨W3, hW3⟩ : ∃ W3, wr.alloc (.cells #[.string (ba x.nm), .slice x.a x.n x.c] 56) = W3 := ⟨_, rfl⟩
        obtain ⟨v4, w4, happ, hrow4, b4⟩ := app_F hrow hbw.size (by rw [List.length_reverse, List.length_drop, unhide HXN]; omega) hW3
        have HR4 : Hid (FRow w2.heap.size w4 v4 ((xs.drop r).reverse) ∧ Below w2.heap.size w2 w4) := hide ⟨by rw [hdr]; exact hrow4, hbw.trans b4⟩
        have HW3 := hide hW3
        clear hrow hbw hrow4 b4 hW3 hdr hxx e1
        go_wp2_with (at_builtin; rw [unhide HW3]; refine Lib.wpList_append_run _ rfl (.tmp 43) (.tmp 48) 22 22 rfl _ _ rfl rfl _ _ happ ?_; clear happ)
        go_roundw
        case rel => exact ⟨r, by omega, rfl, (unhide HR4).1, (unhide HR4).2⟩
        case measure => simp [intOf]
      | zero =>
        have e1 : ((0 : Nat) : Int) - 1 = -1 := by omega
        rw [e1]
        rw [List.drop_zero] at hrow
        obtain ⟨ga, gc, rfl, hgat, hgc, hgf⟩ := FRow.adr hrow
        have hxr : xs.reverse.length = n := by rw [List.length_reverse]; exact unhide HXN
        rw [hxr] at hgc hgf ⊢
        have HGAT := hide hgat
        have HGF := hide hgf
        have HXR := hide hxr
        have HBR := hide hbw
        clear hgat hgf hxr hbw hrow
        have KP1 := hide (pack_all ((unhide HG2).low (unhide HBR)) (unhide HXN) (unhide HA) hc ((unhide HX2).low (unhide HBR)) ((unhide HGX).low (unhide HBR)))
        go_wp2_with (go_at_call 18; fail)
        refine (unhide KP1).mono ?_
        rintro e w5 ⟨hp1, b5⟩
        have HB5 := hide (low_trans (unhide HBR) b5)
        have HR5 := hide ((unhide HGAT).low b5)
        clear b5 KP1
        have KP2 := hide (pack_all (c := gc) (dat := dx) ((unhide HG2).low (unhide HB5)) (unhide HXR) (unhide HGF) hgc (unhide HR5) (((unhide HGX).low (unhide HB5)).perm (List.reverse_perm xs)))
        rcases hp1 with ⟨hbad, E1, hE1, rfl⟩ | ⟨hgood, v1, ys, rfl, hper, hris, hown⟩
        · have HBAD := hide hbad
          have n1 : (E1 == 0) = false := by simpa using hE1
          have n1' : (E1 != 0) = true := by simpa using hE1
          clear hbad hE1
          go_wp2_with (go_at_call 18; fail)
          refine (unhide KP2).mono ?_
          rintro e w6 ⟨hp2, b6⟩
          have HB6 := hide (low_trans (unhide HB5) b6)
          have HR6 := hide ((unhide HR5).low b6)
          clear b6 KP2
          rcases hp2 with ⟨-, E2, hE2, rfl⟩ | ⟨hgood, -⟩
          · have n2 : (E2 == 0) = false := by simpa using hE2
            have n2' : (E2 != 0) = true := by simpa using hE2
            clear hE2
            have KH1 := hide (h1_any (dat := dx) ((unhide HG2).low (unhide HB6)) (unhide HXN) (unhide HA) ((unhide HX2).low (unhide HB6)) (by omega) hc ((unhide HGX).low (unhide HB6)))
            go_wp2_with (go_at_call 40; fail)
            refine (unhide KH1).mono ?_
            rintro e w7 ⟨hs1, b7⟩
            obtain ⟨S1, F1, rfl, -⟩ := H1Said.r hs1
            have HB7 := hide (low_trans (unhide HB6) b7)
            have HR7 := hide ((unhide HR6).low b7)
            clear hs1 b7 KH1
            have KH2 := hide (h1_any (dat := dx) (c := gc) ((unhide HG2).low (unhide HB7)) (unhide HXR) (unhide HGF) (unhide HR7) (by omega) hgc (((unhide HGX).low (unhide HB7)).perm (List.reverse_perm xs)))
            go_wp2_with (go_at_call 40; fail)
            refine (unhide KH2).mono ?_
            rintro e w8 ⟨hs2, b8⟩
            obtain ⟨S2, F2, rfl, -⟩ := H1Said.r hs2
            have HZ := hide (low_trans (unhide HB2) (low_trans (unhide HB7) b8))
            clear hs2 b8 KH2
            go_wp2_with (go_at_call 19; refine (errno_any _ _).mono ?_; rintro e wn ⟨rfl, hwn⟩; rw [hwn]; clear hwn wn)
            go_ret
            exact ⟨rfl, unhide HZ⟩
          · exact absurd (hgood.perm (List.reverse_perm xs)) (unhide HBAD)
        · obtain ⟨g1, c1, rfl, hown1, hg1, hzc, hcm, -, hfz⟩ := OwnB.val hown (by have := arc_pos (ys.map (ndF dx)); omega)
          have HGOOD := hide (And.intro hgood (And.intro hper hris))
          obtain ⟨Z, hZ⟩ : ∃ Z, arcL (ys.map (ndF dx)) = Z := ⟨_, rfl⟩
          rw [hZ] at hown1 hzc
          rw [hZ]
          obtain ⟨z, hz⟩ : ∃ z, Z.length = z := ⟨_, rfl⟩
          have hown5 : OwnB wr.heap.size w5 (.slice (some ⟨g1, 0, none⟩) z c1) Z := by rw [← hz]; exact hown1
          have hz22 : 22 ≤ z := by rw [← hz, ← hZ]; exact arc_pos _
          have hzM : z ≤ 1048576 := by
            rw [← hz, ← hZ, arc_len]
            have h1 := hgood.2.2
            rw [← sizes_perm (hper.map (ndF dx))] at h1
            omega
          rw [hz] at hzc
          rw [hz]
          have HO5 := hide hown5
          have HZZ := hide (And.intro hZ hz)
          clear hgood hper hris hown hown1 hown5 hZ hz hfz
          go_wp2_with (go_at_call 18; fail)
          refine (unhide KP2).mono ?_
          rintro e w6 ⟨hp2, b6⟩
          have HB6 := hide (low_trans (unhide HB5) b6)
          have HR6 := hide ((unhide HR5).low b6)
          have HO6 := hide (OwnB.low (unhide HO5) b6)
          clear b6 KP2
          rcases hp2 with ⟨hbad, -⟩ | ⟨-, v2, ys2, rfl, hper2, hris2, hown2⟩
          · exact absurd ((unhide HGOOD).1.perm (List.reverse_perm xs).symm) hbad
          · have hsame : arcL (ys2.map (ndF dx)) = Z := by
              rw [arcs_same (unhide HGOOD).1.2.1 (hper2.trans (List.reverse_perm xs)) (unhide HGOOD).2.1 hris2 (unhide HGOOD).2.2]
              exact (unhide HZZ).1
            rw [hsame] at hown2
            obtain ⟨a2, c2, rfl, hat2, -, -⟩ := OwnB.at hown2
            rw [(unhide HZZ).2]
            have HA2 := hide hat2
            clear hper2 hris2 hown2 hsame hat2
            have KH1 := hide (h1_any (dat := dx) ((unhide HG2).low (unhide HB6)) (unhide HXN) (unhide HA) ((unhide HX2).low (unhide HB6)) (by omega) hc ((unhide HGX).low (unhide HB6)))
            go_wp2_with (go_at_call 40; fail)
            refine (unhide KH1).mono ?_
            rintro e w7 ⟨hs1, b7⟩
            have HB7 := hide (low_trans (unhide HB6) b7)
            have HR7 := hide ((unhide HR6).low b7)
            have HO7 := hide (OwnB.low (unhide HO6) b7)
            have HA7 := hide ((unhide HA2).low b7)
            clear b7 KH1
            rcases hs1 with ⟨-, zs1, hq1, hi1, rfl⟩ | ⟨hno, -⟩
            case inr => exact absurd (unhide HGOOD).1.2.1 hno
            obtain ⟨S1, hS1⟩ : ∃ S, sumF dx zs1 = S := ⟨_, rfl⟩
            rw [hS1]
            have HQ1 := hide (And.intro hq1 (And.intro hi1 hS1))
            clear hq1 hi1 hS1
            have KH2 := hide (h1_any (dat := dx) (c := gc) ((unhide HG2).low (unhide HB7)) (unhide HXR) (unhide HGF) (unhide HR7) (by omega) hgc (((unhide HGX).low (unhide HB7)).perm (List.reverse_perm xs)))
            go_wp2_with (go_at_call 40; fail)
            refine (unhide KH2).mono ?_
            rintro e w8 ⟨hs2, b8⟩
            have HB8 := hide (low_trans (unhide HB7) b8)
            have HO8 := hide (OwnB.low (unhide HO7) b8)
            have HA8 := hide ((unhide HA7).low b8)
            clear b8 KH2
            rcases hs2 with ⟨-, zs2, hq2, hi2, rfl⟩ | ⟨hno, -⟩
            case inr => exact absurd ((nmE_perm ((List.reverse_perm xs).map Fl.nm)).2 (unhide HGOOD).1.2.1) hno
            have hS2 : sumF dx zs2 = S1 := by
              rw [← (unhide HQ1).2.2]
              exact sums_same (dx := dx) (dy := dx) ((nmE_perm ((List.reverse_perm xs).map Fl.nm)).2 (unhide HGOOD).1.2.1) (unhide HGOOD).1.2.1 hq2 (unhide HQ1).1 hi2 (unhide HQ1).2.1 (by rw [List.length_reverse]) (fun y hy => ⟨y, by simpa using hy, rfl, rfl⟩)
            rw [hS2]
            clear hq2 hi2 hS2
            have ss : ((ba S1).toList != (ba S1).toList) = false := by simp
            have ss2 : ((ba S1).toList == (ba S1).toList) = true := by simp
            have hat1 : BAt w8 (some ⟨g1, 0, none⟩) Z := by
              obtain ⟨a1', c1', he1, h, -, -⟩ := OwnB.at (unhide HO8)
              injection he1 with q1 q2 q3
              rw [q1]
              exact h
            have KS := hide (sameBytes_any (w := w8) (c := c1) (c2 := c2) (unhide HZZ).2 (unhide HZZ).2 (by omega) (by omega) hat1 (unhide HA8))
            rw [decide_eq_true rfl] at KS
            clear hat1
            go_wp2_with (first | (go_at_call 19; refine (errno_any _ _).mono ?_; rintro e wn ⟨rfl, hwn⟩; rw [hwn]; clear hwn wn) | (go_at_call 23; fail))
            refine (unhide KS).mono ?_
            rintro e w9 ⟨rfl, q, hw9⟩
            have b9 : Below w8.heap.size w8 w9 := by rw [hw9]; exact low_q _
            have HB9 := hide (low_trans (unhide HB8) b9)
            have HO9 := hide (OwnB.low (unhide HO8) b9)
            clear b9 hw9 KS
            obtain ⟨r1, s1, p, m1, m2, m3, m4, m5⟩ := mod_snd t (N := z) (by omega)
            have u1 : -(1048576 : Int) ≤ r1 ∧ r1 ≤ 1048576 := by omega
            have z1 : ((z : Int) == 0) = false := by simp; omega
            have y3 : ¬ ((z : Int) = 0) := by omega
            have hpz : p < Z.length := by rw [(unhide HZZ).2]; exact m5
            have hpi : (p : Int) < (z : Int) := by omega
            obtain ⟨zb, hzb⟩ : ∃ zb, Z[p]'hpz = zb := ⟨_, rfl⟩
            have k0 : w9.cell? ⟨g1, p, none⟩ = some (.int .u8 (zb.toNat : Int)) := by
              obtain ⟨a1', c1', he1, h, -, -⟩ := OwnB.at (unhide HO9)
              injection he1 with q1 q2 q3
              obtain ⟨B', O', e, h2⟩ := h.at hpz
              rw [← q1] at e
              cases e
              rw [Nat.zero_add] at h2
              rw [← hzb]
              exact h2
            have HPZ := hide hpz
            by_cases heq : zb = xb
            · subst heq
              have ee : ((zb.toNat : Int) == (zb.toNat : Int)) = true := by simp
              have HZ : Hid (Below w.heap.size w w9) := hide (low_trans (unhide HB2) (unhide HB9))
              clear hzb hpz
              go_wp2
              go_ret
              exact ⟨rfl, unhide HZ⟩
            · have ee : ((zb.toNat : Int) == (xb.toNat : Int)) = false := by
                simp
                intro e
                exact heq (UInt8.toNat_inj.1 (by omega))
              have HNE : Hid (Z[p]'hpz ≠ xb) := hide (by rw [hzb]; exact heq)
              obtain ⟨W10, hW10⟩ : ∃ W, w9.setCell ⟨g1, p, none⟩ (.int .u8 (xb.toNat : Int)) = W := ⟨_, rfl⟩
              have b10 : Below w2.heap.size w2 W10 := by rw [← hW10]; exact low_set (unhide HB9) (Nat.le_trans (unhide HBR).size hg1) _
              have o10 : OwnB wr.heap.size W10 (.slice (some ⟨g1, 0, none⟩) z c1) (Z.set p xb) := by rw [← hW10]; exact OwnB.put (unhide HO9) p xb
              have hfz : w9.frozen? ⟨g1, p, none⟩ = false := by
                have h1 := unhide HO9
                obtain ⟨g', c', he, -, -, -, -, -, h⟩ := OwnB.val h1 (by omega)
                injection he with q1 q2 q3
                cases q1
                exact h p
              have hat10 : BAt W10 (some ⟨g1, 0, none⟩) (Z.set p xb) := by
                obtain ⟨a1', c1', he1, h, -, -⟩ := OwnB.at o10
                injection he1 with q1 q2 q3
                rw [q1]
                exact h
              have KU := hide (unpack_any (c := c1) ((unhide HG2).low b10) (by rw [List.length_set]; exact (unhide HZZ).2 : (Z.set p xb).length = z) hzc (by unfold maxLen at hcm; omega) (Or.inr ⟨_, _, rfl⟩) hat10)
              have HB10 := hide b10
              have HW10 := hide hW10
              clear hzb heq b10 o10 hat10 hW10
              go_wp2_with (go_at_call 20; fail)
              rw [unhide HW10]
              refine (unhide KU).mono ?_
              rintro e w11 ⟨⟨E, hus, hcase⟩, b11⟩
              have HB11 := hide (low_trans (unhide HB10) b11)
              clear b11 KU
              rcases hcase with ⟨hne, rfl⟩ | ⟨hE0, A, L, hL, rfl, hfd⟩
              · have n1 : (E != 0) = true := by simpa using hne
                have HZ : Hid (Below w.heap.size w w11) := hide (low_trans (unhide HB2) (unhide HB11))
                clear hus hne
                go_wp2_with (go_at_call 19; refine (errno_any _ _).mono ?_; rintro e wn ⟨rfl, hwn⟩; rw [hwn]; clear hwn wn)
                go_ret
                exact ⟨rfl, unhide HZ⟩
              · subst hE0
                obtain ⟨hl100, hpk, -, -⟩ := unp_ok hus hL
                obtain ⟨k, hk⟩ : ∃ k, L.length = k := ⟨_, rfl⟩
                rw [hk] at hl100
                rw [hk]
                have hkl : (L.map sfN).length = k := by rw [List.length_map]; exact hk
                have HLB : Hid (∀ x ∈ L.map sfN, x.2.length ≤ 1073741824) := hide (fun x hx => by
                  obtain ⟨qs, h1, _, _, h4⟩ := hpk
                  have := sizes_mem (h1.mem_iff.2 hx)
                  omega)
                have HPK := hide hpk
                have HFD := hide hfd.at
                have HKL := hide hkl
                have KB := hide (refByName_any (c := c) (unhide HXN) (by omega) ((unhide HX2).low (unhide HB11)))
                clear hus hL hpk hk hkl hfd
                go_wp2_with (first | (go_at_call 19; refine (errno_any _ _).mono ?_; rintro e wn ⟨rfl, hwn⟩; rw [hwn]; clear hwn wn) | (go_at_call 22; fail))
                refine (unhide KB).mono ?_
                rintro e w12 ⟨v12, ys3, rfl, hr12, hp3, hi3, b12⟩
                obtain ⟨a3, c3, rfl, hat3, -⟩ := FRow.at hr12
                have hl3 : ys3.length = n := by rw [hp3.length_eq]; exact unhide HXN
                rw [hl3]
                have hd3 := ((unhide HGX).low (low_trans (unhide HB11) b12)).perm hp3
                have KF := hide (sameFd_any (w := w12) (c := k) (c2 := c3) (unhide HKL) (by rw [List.length_map]; exact hl3 : (ys3.map (ndF dx)).length = n) (by omega) (by omega) (unhide HLB) (fun x hx => by
                  obtain ⟨y, hy, rfl⟩ := List.mem_map.1 hx
                  have h1 := hd3.len y hy
                  have h2 := hd3.few y hy
                  show (dx y).length ≤ 1073741824
                  omega) ((unhide HFD).low b12) (fd_of hat3 hd3))
                have hno : decide (L.map sfN = ys3.map (ndF dx)) = false := by
                  refine decide_eq_false ?_
                  have h1 := (unhide HZZ).1
                  have h2 := unhide HNE
                  have h3 := unhide HPK
                  have h4 := unhide HPZ
                  subst h1
                  exact turn_tells (unhide HGOOD).1.2.1 (unhide HGOOD).2.1 (unhide HGOOD).2.2 hp3 hi3 h4 h2 h3
                rw [hno] at KF
                have HZ : Hid (Below w.heap.size w w12) := hide (low_trans (unhide HB2) (low_trans (unhide HB11) b12))
                clear hr12 hp3 hi3 b12 hat3 hl3 hd3 hno KB
                go_wp2_with (go_at_call 21; fail)
                refine (unhide KF).mono ?_
                rintro e w13 ⟨rfl, q13, hw13⟩
                have HZ2 : Hid (Below w.heap.size w w13) := hide (by rw [hw13]; exact low_trans (unhide HZ) (low_q _))
                clear hw13 KF
                go_wp2
                go_ret
                exact ⟨rfl, unhide HZ2⟩
end Go.Proofs.YtkablmjkffdloaaGreatDoor
