/-
  At the limit: the law's walk.
-/
import Derived.Test.YtkablmjkffdloaaGreatDoorBackW
import Derived.Laws.OwnMore
namespace Go.Proofs.YtkablmjkffdloaaGreatDoor
open Go.RowKit

/-- A row of zeros, made. -/
theorem made_row {w' : World} {base g n : Nat} (h : w'.ownsRow base 5 1 (.slice (some ⟨g, 0, none⟩) n n) n (madeCells (Value.int .u8 0).cells (n * 1)).toList) : ∃ d : Bs, d.length = n ∧ OwnB base w' (.slice (some ⟨g, 0, none⟩) n n) d := by
  refine ⟨List.replicate n 0, List.length_replicate .., ?_⟩
  unfold OwnB
  rw [List.length_replicate, List.map_replicate]
  have e : (madeCells (Value.int .u8 0).cells (n * 1)).toList = List.replicate n (byteV 0) := by
    rw [Nat.mul_one]
    exact toList_madeCells_one _ n
  rw [← e]
  exact h
theorem unp_long {b : Bs} {E : Int} (h : 1048576 < b.length) (hu : UnpS b E) : E = 13 := by
  rcases hu with ⟨_, e⟩ | ⟨h1, _⟩ | ⟨_, h1, _⟩
  · exact e
  · omega
  · omega

set_option maxRecDepth 100000 in
set_option maxHeartbeats 8000000 in
theorem long_law {w : World} {t : Int} {nm : Bs} (hg : Ml w) : Calls Tryz.prog 7 #[.int .i64 t, .string (ba nm)] w fun e w' => e = .returned (.bool true) ∧ Below w.heap.size w w' := by
  obtain ⟨z, hz⟩ : ∃ z, nm.length = z := ⟨_, rfl⟩
  have hsz : (ba nm).size = z := by rw [ba_size]; exact hz
  have HZL := hide hz
  have HG := hide hg
  obtain ⟨i0, hi, hz0, hz1, hz2⟩ := info_parts info5
  clear hz hg
  go_enter Tryz.func7, Tryz.ntmps7
  go_wp2_with (go_at_call 16; fail)
  refine (first_any w).mono ?_
  rintro e w2 ⟨rfl, b2⟩
  have HB2 := hide b2
  clear b2
  by_cases h3 : z = 3
  case neg =>
    have q3 : ((z : Int) == 3) = false := by simp; omega
    have q3' : ((z : Int) != 3) = true := by simp; omega
    go_wp2
    go_ret
    exact ⟨rfl, unhide HB2⟩
  subst h3
  have KV := hide (validName_any (l := nm) ((unhide HG).low (unhide HB2)))
  obtain ⟨nf, hnf⟩ : ∃ nf, nameF nm = nf := ⟨_, rfl⟩
  rw [hnf] at KV
  have HNF := hide hnf
  clear hnf
  go_wp2_with (go_at_call 48; fail)
  refine (unhide KV).mono ?_
  rintro e w3 ⟨rfl, b3⟩
  have HB3 := hide (low_trans (unhide HB2) b3)
  clear b3 KV
  cases nf with
  | false =>
    go_wp2
    go_ret
    exact ⟨rfl, unhide HB3⟩
  | true =>
    obtain ⟨r1, s1, j, m1, m2, m3, m4, m5⟩ := mod_snd t (N := 3) (by omega)
    have m1' : t.tmod 3 = r1 := m1
    have m2' : r1 + 3 = (s1 : Int) := m2
    have m4' : (s1 : Int).tmod 3 = (j : Int) := m4
    have u1 : -(3 : Int) ≤ r1 ∧ r1 ≤ 3 := by omega
    obtain ⟨v, hv⟩ : ∃ v : Int, (j : Int) - 1 = v := ⟨_, rfl⟩
    have u2 : -(1 : Int) ≤ v ∧ v ≤ 1 := by omega
    obtain ⟨K, hK⟩ : ∃ K, 1048471 + j = K := ⟨_, rfl⟩
    have eK : (1048472 : Int) + v = (K : Int) := by omega
    have hKj : K = 1048471 + j := hK.symm
    have HKJ := hide hKj
    have hK2 : K ≤ 1048473 := by omega
    have HJV : Hid ((j : Int) - 1 = v) := hide hv
    clear m1 m2 m4 hK hKj
    go_wp2_with (at_make; refine wpList_make_full _ rfl _ _ 23 rfl w3.heap.size 5 i0 (.int .u8 0) 1 Tryz.underlying23 hi hz0 hz1 _ _ _ _ K rfl rfl (by first | exact eK | rfl | omega) (by first | exact eK | rfl | omega) (by rw [hz2]; omega) (by unfold maxLen; omega) (Nat.le_refl _) ?_; intro w4 hown4 hgrow4; have HOW4 := hide hown4; have HB4 : Hid (Below w3.heap.size w3 w4) := hide (low_grownN hgrow4); clear hown4 hgrow4)
    obtain ⟨g, hgg⟩ : ∃ g, w3.heap.size = g := ⟨_, rfl⟩
    rw [hgg] at HOW4
    rw [hgg]
    obtain ⟨d, hdl, hod⟩ := made_row (unhide HOW4)
    obtain ⟨G, hG⟩ : ∃ G, w4.heap.size = G := ⟨_, rfl⟩
    obtain ⟨W5, hW5⟩ : ∃ W5, w4.alloc (.cells #[.string (ba nm), .slice (some ⟨g, 0, none⟩) K K] 56) = W5 := ⟨_, rfl⟩
    have b5 : Below w4.heap.size w4 W5 := by rw [← hW5]; exact lowAA (Below.refl _ _) _
    have q5 : Blk W5 G #[.string (ba nm), .slice (some ⟨g, 0, none⟩) K K] 56 := by rw [← hW5, ← hG]; exact Blk.new _ _ _
    have hdat : BAt W5 (some ⟨g, 0, none⟩) d := by
      obtain ⟨a', c', hv2, hat, -, -⟩ := OwnB.at hod
      injection hv2 with q1 q2 q3
      rw [q1]
      exact hat.low b5
    have hfat : FAt W5 (some ⟨G, 0, none⟩) [⟨nm, some ⟨g, 0, none⟩, K, K⟩] := ⟨Or.inr ⟨_, 0, rfl, fun j u hu => by
      have hj : j < 2 := by
        have := (List.getElem?_eq_some_iff.1 hu).1
        simpa [flsV] using this
      have : j = 0 ∨ j = 1 := by omega
      rcases this with rfl | rfl
      · simp [flsV] at hu; rw [← hu]; exact q5.cell 0
      · simp [flsV] at hu; rw [← hu]; exact q5.cell 1⟩⟩
    have one : ∀ x ∈ ([⟨nm, some ⟨g, 0, none⟩, K, K⟩] : List Fl), x = ⟨nm, some ⟨g, 0, none⟩, K, K⟩ := fun x hx => by simpa using hx
    have hz3 := unhide HZL
    have hdg : DatG W5 [⟨nm, some ⟨g, 0, none⟩, K, K⟩] (fun _ => d) := ⟨fun x hx => by rw [one x hx]; exact hdl, fun x hx => by rw [one x hx]; show K ≤ 1048576; omega, fun x hx => by rw [one x hx]; exact Nat.le_refl _, fun x hx => by rw [one x hx]; show K ≤ 9223372036854775807; omega, fun x hx => by rw [one x hx]; exact Or.inr (Or.inl ⟨_, _, rfl⟩), fun x hx => by rw [one x hx]; exact hdat, fun x hx => by rw [one x hx]; show nm.length ≤ 100000; omega⟩
    have hb5 := low_trans (unhide HB3) (low_trans (unhide HB4) b5)
    have KP := hide (pack_any (w := W5) (n := 1) (c := 1) ((unhide HG).low hb5) rfl (by decide) (Or.inr ⟨_, _, rfl⟩) (Nat.le_refl _) hfat hdg)
    have HB5 := hide hb5
    have HW5 := hide hW5
    have HSZ : Hid (22 + sizesL ([(⟨nm, some ⟨g, 0, none⟩, K, K⟩ : Fl)].map (ndF fun _ => d)) = 104 + K) := hide (by
      show 22 + sizesL [(nm, d)] = _
      rw [sizes_cons]
      show 22 + (76 + 2 * nm.length + d.length + 0) = _
      omega)
    have HDL := hide hdl
    obtain ⟨xs, hxs⟩ : ∃ xs : List Fl, [⟨nm, some ⟨g, 0, none⟩, K, K⟩] = xs := ⟨_, rfl⟩
    rw [hxs] at KP HSZ
    have HXS := hide hxs
    have HN0 : Hid (nmE [] (xs.map Fl.nm) = 0) := hide (by
      rw [← hxs]
      show nmE [] [nm] = 0
      unfold nmE
      rw [if_neg (by rw [unhide HNF]; simp), if_neg (by simp)]
      rfl)
    rw [hG]
    clear hod b5 q5 hdat hfat one hz3 hdg hb5 hW5 hdl hxs hgg HOW4
    go_wp2_with (go_at_call 18; fail)
    rw [unhide HW5]
    refine (unhide KP).mono ?_
    rintro e w6 ⟨hp, b6⟩
    have HB6 := hide (low_trans (unhide HB5) b6)
    clear b6 KP
    rcases hp with ⟨hbad, -⟩ | ⟨-, hlong, rfl⟩ | ⟨-, hfit, v6, ys, rfl, hper, hris, hown⟩
    · exact absurd (unhide HN0) hbad
    · have hj2 : j = 2 := by
        have h1 := unhide HSZ
        have h2 := unhide HKJ
        omega
      have hv1 : v = 1 := by have := unhide HJV; omega
      subst hv1
      obtain ⟨K2, hK2'⟩ : ∃ K2, K2 = 1048577 := ⟨_, rfl⟩
      have eK2 : (1048577 : Int) = (K2 : Int) := by omega
      have HK2 := hide hK2'
      have hK2b : K2 ≤ 1048577 := by omega
      clear hlong hK2' hj2
      go_wp2_with (first | (go_at_call 19; refine (errno_any _ _).mono ?_; rintro e wn ⟨rfl, hwn⟩; rw [hwn]; clear hwn wn) | (at_make; refine wpList_make_full _ rfl _ _ 23 rfl w6.heap.size 5 i0 (.int .u8 0) 1 Tryz.underlying23 hi hz0 hz1 _ _ _ _ K2 rfl rfl (by first | exact eK2 | omega) (by first | exact eK2 | omega) (by rw [hz2]; omega) (by unfold maxLen; omega) (Nat.le_refl _) ?_; intro w7 hown7 hgrow7; have HOW7 := hide hown7; have HB7 : Hid (Below w6.heap.size w6 w7) := hide (low_grownN hgrow7); clear hown7 hgrow7))
      obtain ⟨d2, hdl2, -⟩ := made_row (unhide HOW7)
      have hbig : 1048576 < K2 := by have := unhide HK2; omega
      have KU := hide (unpack_long (w := w7) (a := some ⟨w6.heap.size, 0, none⟩) (c := K2) hdl2 hbig)
      have HL2 : Hid (1048576 < d2.length) := hide (by rw [hdl2]; exact hbig)
      have HB8 := hide (low_trans (unhide HB6) (unhide HB7))
      clear hdl2 hbig HOW7
      go_wp2_with (first | (go_at_call 19; refine (errno_any _ _).mono ?_; rintro e wn ⟨rfl, hwn⟩; rw [hwn]; clear hwn wn) | (go_at_call 20; fail))
      refine (unhide KU).mono ?_
      rintro e wn ⟨⟨E, hus, hcase⟩, hwn⟩
      obtain rfl := unp_long (unhide HL2) hus
      rcases hcase with ⟨-, rfl⟩ | ⟨h, _⟩
      case inr => cases h
      rw [hwn]
      clear hus hwn wn KU
      go_wp2_with (go_at_call 19; refine (errno_any _ _).mono ?_; rintro e wn ⟨rfl, hwn⟩; rw [hwn]; clear hwn wn)
      go_ret
      exact ⟨rfl, unhide HB8⟩
    · have hj1 : j ≤ 1 := by
        have h1 := unhide HSZ
        have h2 := unhide HKJ
        omega
      have hv0 : ¬ (0 : Int) < v := by have := unhide HJV; omega
      have hys : ys = xs := by
        rw [← unhide HXS] at hper ⊢
        exact List.perm_singleton.1 hper
      subst hys
      have hmap : ys.map (ndF fun _ => d) = [(nm, d)] := by rw [← unhide HXS]; rfl
      rw [hmap] at hown hfit
      obtain ⟨Z, hZ⟩ : ∃ Z, arcL [(nm, d)] = Z := ⟨_, rfl⟩
      obtain ⟨zl, hzl⟩ : ∃ zl, Z.length = zl := ⟨_, rfl⟩
      have hzlv : (1048576 : Int) + v = (zl : Int) := by
        have h1 := arc_len [(nm, d)]
        have h2 := unhide HSZ
        rw [hmap] at h2
        have h3 := unhide HKJ
        have h4 := unhide HJV
        rw [hZ, hzl] at h1
        omega
      have hzM : zl ≤ 1048576 := by omega
      obtain ⟨g1, k1, rfl, hown1, -, hzc, hkm, -, -⟩ := OwnB.val hown (by have := arc_pos [(nm, d)]; omega)
      have hz1 : BAt w6 (some ⟨g1, 0, none⟩) (arcL [(nm, d)]) := by
        obtain ⟨a', c', hv, hat, -, -⟩ := OwnB.at hown1
        injection hv with q1 q2 q3
        rw [q1]
        exact hat
      have hok : ∀ p ∈ [(nm, d)], ndOk p := fun p hp => by
        have : p = (nm, d) := by simpa using hp
        subst this
        have h1 := unhide HZL
        have h2 := unhide HDL
        exact ⟨by show nm.length < 65536; omega, by show d.length < 4294967296; omega⟩
      have hn0 : nmE [] ([(nm, d)].map Prod.fst) = 0 := by
        have h1 := unhide HN0
        rw [← unhide HXS] at h1
        exact h1
      have HPZ : Hid (∀ E, UnpS Z E → E = 0) := hide (fun E h => by
        rw [← hZ] at h
        exact unp_of_arc hok (by simp) hn0 (by unfold Stp; simp) hfit h)
      have HPL : Hid (headsR Z = some ([(nm, d)].map sfP)) := hide (by rw [← hZ]; exact arc_back hok)
      rw [hZ] at hzc hz1
      rw [hZ]
      rw [hzl] at hzc
      rw [hzl]
      have KU := hide (unpack_any (w := w6) (c := k1) ((unhide HG).low (unhide HB6)) hzl hzc (by unfold maxLen at hkm; omega) (Or.inr ⟨_, _, rfl⟩) hz1)
      clear hfit hper hris hown hown1 hz1 hZ hzl hok hn0 hmap hj1
      go_wp2_with (first | (go_at_call 19; refine (errno_any _ _).mono ?_; rintro e wn ⟨rfl, hwn⟩; rw [hwn]; clear hwn wn) | (go_at_call 20; fail))
      refine (unhide KU).mono ?_
      rintro e w8 ⟨⟨E, hus, hcase⟩, b8⟩
      obtain rfl := unhide HPZ E hus
      rcases hcase with ⟨hne, -⟩ | ⟨-, A, L, hL, rfl, hfd⟩
      · exact absurd rfl hne
      rw [unhide HPL] at hL
      obtain rfl := Option.some.inj hL
      rw [sfp_n] at hfd
      obtain ⟨B, O, fa, fn, fc, hA, f0, f1, hfl, -⟩ := hfd.at.get (k := 0) (by simp)
      cases hA
      have f0' : w8.cell? ⟨A, 0, none⟩ = some (.string (ba nm)) := f0
      have f1' : w8.cell? ⟨A, 1, none⟩ = some (.slice fa fn fc) := f1
      have hfK : fn = K := by
        have h1 := unhide HDL
        have h2 : d.length = fn := hfl
        omega
      subst hfK
      have HB8 := hide (low_trans (unhide HB6) b8)
      have s1 : ((ba nm).toList == (ba nm).toList) = true := by simp
      have s2 : (nm == (ba nm).toList) = true := by rw [baL_list]; simp
      have hlen : ([(nm, d)].map sfP).length = 1 := rfl
      rw [hlen]
      clear hus hfd f0 f1 hfl b8 KU hL hlen HPZ HPL
      go_wp2_with (go_at_call 19; refine (errno_any _ _).mono ?_; rintro e wn ⟨rfl, hwn⟩; rw [hwn]; clear hwn wn)
      go_ret
      exact ⟨rfl, unhide HB8⟩
end Go.Proofs.YtkablmjkffdloaaGreatDoor
