/-
  Any text opened as a note by any keys: the law's walk.
-/
import Derived.Test.YtkablmjkffdloaaGreatDoorRopQ
import Derived.Test.YtkablmjkffdloaaGreatDoorSpX
namespace Go.Proofs.YtkablmjkffdloaaGreatDoor
open Go.RowKit

/-- What Open answers, all of it. -/
def openR (s : Bs) (ks : List Ky) : Int × Bs × List Bs × List Bs :=
  match splitR s with
  | none => (15, [], [], [])
  | some (T, L) => if 8 < L.length then (14, [], [], []) else
      (match chk T ks [] [] [] L with
       | (E, g, u) => if E = 0 then (0, T, g, u) else (E, [], [], []))
theorem chk_len (text : Bs) (ks : List Ky) : ∀ (L : List (Bs × Bs)) (ah : List Sg) (g u g' u' : List Bs) (E : Int), chk text ks ah g u L = (E, g', u') → g'.length ≤ g.length + L.length ∧ u'.length ≤ u.length + L.length
  | [], ah, g, u, g', u', E, h => by
    simp only [chk] at h
    split at h
    · simp at h
      obtain ⟨-, rfl, rfl⟩ := h
      simp
    · simp at h
      obtain ⟨-, rfl, rfl⟩ := h
      simp
  | s :: r, ah, g, u, g', u', E, h => by
    simp only [chk] at h
    split at h
    · simp at h
      obtain ⟨-, rfl, rfl⟩ := h
      simp
    · cases hk : keyFor (sgS s) ks with
      | none =>
        rw [hk] at h
        have := chk_len text ks r _ _ _ _ _ _ h
        simp at this ⊢
        omega
      | some k =>
        rw [hk] at h
        simp only at h
        split at h
        · have := chk_len text ks r _ _ _ _ _ _ h
          simp at this ⊢
          omega
        · simp at h
          obtain ⟨-, rfl, rfl⟩ := h
          simp
theorem open_len (s : Bs) (ks : List Ky) {E : Int} {T : Bs} {g u : List Bs} (h : openR s ks = (E, T, g, u)) : g.length ≤ 8 ∧ u.length ≤ 8 := by
  unfold openR at h
  split at h
  · cases h; simp
  · rename_i T' L hs
    split at h
    · cases h; simp
    · split at h
      rename_i E' g' u' hc
      split at h
      · cases h
        have := chk_len _ _ _ _ _ _ _ _ _ hc
        simp at this
        omega
      · cases h; simp
theorem open_no {s : Bs} {ks : List Ky} {E : Int} (h0 : E ≠ 0) (h : openE s ks = E) : openR s ks = (E, [], [], []) := by
  unfold openE at h
  unfold openR
  split at h
  · rename_i hs
    rw [hs]
    simp only
    rw [← h]
  · rename_i T L hs
    rw [hs]
    simp only
    split at h
    · rename_i h8
      rw [if_pos h8, ← h]
    · rename_i h8
      rw [if_neg h8]
      cases hc : chk T ks [] [] [] L with
      | mk E' gu =>
        obtain ⟨g, u⟩ := gu
        rw [hc] at h
        simp only at h ⊢
        rw [h, if_neg h0]
theorem open_yes {s : Bs} {ks : List Ky} {T : Bs} {L : List (Bs × Bs)} {g u : List Bs} (hs : splitR s = some (T, L)) (h8 : L.length ≤ 8) (hc : chk T ks [] [] [] L = (0, g, u)) : openR s ks = (0, T, g, u) := by
  unfold openR
  rw [hs]
  simp only
  rw [if_neg (by omega), hc]
  simp
/-- An opened note as a value. -/
def OVal (w : World) (s : Bs) (ks : List Ky) (e : Ending) : Prop := ∃ (E : Int) (T : Bs) (g u : List Bs) (ga ua : Option Addr) (gl gc ul uc : Nat), openR s ks = (E, T, g, u) ∧ e = .returned (.tuple #[.agg #[.string (ba T), .slice ga gl gc, .slice ua ul uc], .int .i64 E]) ∧ g.length = gl ∧ u.length = ul ∧ TxR w ga g ∧ TxR w ua u
theorem OpnSaid.val {base : Nat} {s : Bs} {ks : List Ky} {e : Ending} {w : World} (h : OpnSaid base s ks e w) : OVal w s ks e := by
  rcases h with ⟨E, hE0, hE, rfl⟩ | ⟨T, L, g, u, ga, gc, ua, uc, hsp, h8, -, hchk, -, rfl, tg, tu⟩
  · exact ⟨E, [], [], [], none, none, 0, 0, 0, 0, open_no hE0 hE, rfl, rfl, rfl, ⟨Or.inl rfl⟩, ⟨Or.inl rfl⟩⟩
  · exact ⟨0, T, g, u, ga, ua, _, gc, _, uc, open_yes hsp h8 hchk, rfl, rfl, rfl, TOwn.txr tg, TOwn.txr tu⟩
theorem ROpnSaid.val {base : Nat} {s : Bs} {ks : List Ky} {e : Ending} {w : World} (h : ROpnSaid base s ks e w) : OVal w s ks e := by
  rcases h with ⟨E, hE0, hE, rfl⟩ | ⟨T, L, g, u, ga, gc, ua, uc, hsp, h8, hchk, -, rfl, tg, tu⟩
  · exact ⟨E, [], [], [], none, none, 0, 0, 0, 0, open_no hE0 hE, rfl, rfl, rfl, ⟨Or.inl rfl⟩, ⟨Or.inl rfl⟩⟩
  · exact ⟨0, T, g, u, ga, ua, _, gc, _, uc, open_yes hsp h8 hchk, rfl, rfl, rfl, TOwn.txr tg, TOwn.txr tu⟩

set_option maxRecDepth 100000 in
set_option maxHeartbeats 8000000 in
theorem opens_law {w : World} {text : Bs} {a : Option Addr} {n c : Nat} {ts : List Wk} (hg : Gy w) (hn : ts.length = n) (hok : ∀ t ∈ ts, t.nm.length ≤ 2000000 ∧ t.sec.length ≤ 2000000) (hb : ∀ t ∈ ts, BAt w t.a t.sec) (hp : PRow w a ts) :
    Calls Tryz.prog 12 #[.string (ba text), .slice a n c] w fun e w' => e = .returned (.bool true) ∧ Below w.heap.size w w' := by
  have K0 := hide (noteFirst_any hg)
  have HGY := hide hg
  have HN := hide hn
  have HO := hide hok
  have HBT := hide hb
  have HP := hide hp
  obtain ⟨tl, htl⟩ : ∃ tl, text.length = tl := ⟨_, rfl⟩
  have hsz : (ba text).size = tl := by rw [ba_size]; exact htl
  have HTL := hide htl
  clear hg hn hok hb hp htl
  go_enter Tryz.func12, Tryz.ntmps12
  go_wp2_with (go_at_call 51; fail)
  refine (unhide K0).mono ?_
  rintro e w1 ⟨rfl, b1⟩
  have HB1 := hide b1
  have KF := hide (few_any (c := c) (unhide HN) (unhide HO) ((unhide HP).low b1))
  clear b1 K0
  go_wp2_with (go_at_call 52; fail)
  refine (unhide KF).mono ?_
  rintro e w2 ⟨⟨b, rfl, hfew⟩, q, hw2⟩
  have HB2 : Hid (Below w.heap.size w w2) := hide (by rw [hw2]; exact low_trans (unhide HB1) (low_drewN _ _))
  clear hw2 KF HB1
  cases b with
  | false =>
    clear hfew
    go_wp2
    go_ret
    exact ⟨rfl, unhide HB2⟩
  | true =>
    have hn20 := hfew rfl
    clear hfew
    by_cases g1 : 8000 < tl
    · have a1 : (8000 : Int) < (tl : Int) := by omega
      go_wp2
      go_ret
      exact ⟨rfl, unhide HB2⟩
    have a1 : ¬ (8000 : Int) < (tl : Int) := by omega
    have KK := hide (keys_any (c := c) (unhide HN) (by omega) (unhide HO) ((unhide HP).low (unhide HB2)) (fun t ht => (unhide HBT t ht).low (unhide HB2)))
    go_wp2_with (go_at_call 53; fail)
    refine (unhide KK).mono ?_
    rintro e w3 ⟨a1', c1', a2', c2', rfl, hk3, hp3, b3⟩
    have hbw3 := low_trans (unhide HB2) b3
    obtain ⟨us, hus⟩ : ∃ us, gd ts = us := ⟨_, rfl⟩
    have hgood : ∀ t ∈ us, goodB t.nm t.sec = true := by rw [← hus]; exact gd_good
    have hbt : ∀ t ∈ us, BAt w3 t.a t.sec := by rw [← hus]; exact fun t ht => (unhide HBT t (gd_sub t ht)).low hbw3
    have hum : us.length ≤ 1000 := by rw [← hus]; have := gd_len ts; have := unhide HN; omega
    rw [hus] at hk3 hp3
    obtain ⟨m, hm⟩ : ∃ m, us.length = m := ⟨_, rfl⟩
    have hkl : (us.map kyOf).length = m := by rw [List.length_map]; exact hm
    have hkok : ∀ k ∈ us.map kyOf, KyOk k := fun k hk => by
      obtain ⟨t, ht, rfl⟩ := List.mem_map.1 hk
      have := good_len (hgood t ht)
      exact ⟨Nat.le_trans this.1 (by omega), Nat.le_trans this.2 (by omega)⟩
    have hm2 : m ≤ 1000 := by omega
    have KO := hide (open_any (w := w3) (s := text) (ks := us.map kyOf) (n := m) (c := c1') (by have := unhide HTL; omega) hkl hm2 hkok hk3 ((unhide HGY).low hbw3))
    have KR : Hid (∀ W, Below w3.heap.size w3 W → Calls Tryz.prog 58 #[.string (ba text), .slice a2' m c2'] W fun e w' => ROpnSaid W.heap.size text (us.map kyOf) e w' ∧ Below W.heap.size W w') := hide (fun W hW => refOpen_any (w := W) (c := c2') (by have := unhide HTL; omega) hm hm2 hgood (fun t ht => (hbt t ht).low hW) (hp3.low hW))
    have HBW3 := hide hbw3
    rw [hus, hm]
    clear hk3 hp3 b3 hbw3 hgood hbt hum hkok hus hm hkl KK HB2
    go_wp2_with (go_at_call 56; fail)
    refine (unhide KO).mono ?_
    rintro e w4 ⟨hsd, b4⟩
    obtain ⟨E, T, g, u, ga, ua, gl, gc, ul, uc, hR, rfl, hgl, hul, xg, xu⟩ := OpnSaid.val hsd
    obtain ⟨D, hD⟩ : ∃ D, w4.heap.size = D := ⟨_, rfl⟩
    obtain ⟨W5, hW5⟩ : ∃ W5, w4.alloc (.cells #[.string (ba T), .slice ga gl gc, .slice ua ul uc] 78) = W5 := ⟨_, rfl⟩
    have b5 : Below w4.heap.size w4 W5 := by rw [← hW5]; exact lowA (Below.refl _ _) _
    have q5 : Blk W5 D #[.string (ba T), .slice ga gl gc, .slice ua ul uc] 78 := by rw [← hW5, ← hD]; exact Blk.new _ _ _
    have hlen := open_len _ _ hR
    have KR5 := hide (unhide KR W5 (low_trans b4 b5))
    have HXG := hide (xg.low b5)
    have HXU := hide (xu.low b5)
    have HRR := hide hR
    have HGL := hide hgl
    have HUL := hide hul
    have HLN := hide hlen
    have HB5 := hide (low_trans (unhide HBW3) (low_trans b4 b5))
    have HQ5 := hide q5
    have HW5 := hide hW5
    have HD := hide hD
    clear hsd b4 hR hgl hul xg xu hD hW5 b5 q5 hlen KO KR
    go_wp2_with (go_at_call 58; fail)
    rw [unhide HW5, unhide HD]
    refine (unhide KR5).mono ?_
    rintro e w6 ⟨hsd, b6⟩
    obtain ⟨E', T', g', u', ga', ua', gl', gc', ul', uc', hR', rfl, hgl', hul', xg', xu'⟩ := ROpnSaid.val hsd
    have h1 := unhide HRR
    rw [hR'] at h1
    obtain ⟨e1, h2⟩ := Prod.mk.inj h1
    obtain ⟨e2, h3⟩ := Prod.mk.inj h2
    obtain ⟨e3, e4⟩ := Prod.mk.inj h3
    subst e1 e2 e3 e4
    obtain ⟨F, hF⟩ : ∃ F, w6.heap.size = F := ⟨_, rfl⟩
    obtain ⟨W7, hW7⟩ : ∃ W7, w6.alloc (.cells #[.string (ba T'), .slice ga' gl' gc', .slice ua' ul' uc'] 82) = W7 := ⟨_, rfl⟩
    have b7 : Below w6.heap.size w6 W7 := by rw [← hW7]; exact lowA (Below.refl _ _) _
    have q7 : Blk W7 F #[.string (ba T'), .slice ga' gl' gc', .slice ua' ul' uc'] 82 := by rw [← hW7, ← hF]; exact Blk.new _ _ _
    have q57 := (unhide HQ5).low (low_trans b6 b7)
    have x0 : W7.cell? ⟨D, 0, none⟩ = some (.string (ba T')) := q57.cell 0
    have x1 : W7.cell? ⟨D, 1, none⟩ = some (.slice ga gl gc) := q57.cell 1
    have x2 : W7.cell? ⟨D, 2, none⟩ = some (.slice ua ul uc) := q57.cell 2
    have y0 : W7.cell? ⟨F, 0, none⟩ = some (.string (ba T')) := q7.cell 0
    have y1 : W7.cell? ⟨F, 1, none⟩ = some (.slice ga' gl' gc') := q7.cell 1
    have y2 : W7.cell? ⟨F, 2, none⟩ = some (.slice ua' ul' uc') := q7.cell 2
    have hg9 : g'.length = gl := unhide HGL
    have hu9 : u'.length = ul := unhide HUL
    have hgg : gl = gl' := by omega
    have huu : ul = ul' := by omega
    subst hgg huu
    have hl8 := unhide HLN
    have KS := hide (same_same (w := W7) (T := T') (c := gc) (c2 := gc') (d := uc) (d2 := uc') hg9 hu9 (by omega) (by omega) ((unhide HXG).low (low_trans b6 b7)) (xg'.low b7) ((unhide HXU).low (low_trans b6 b7)) (xu'.low b7))
    have KE := hide (errno_any E')
    have hee : (E' == E') = true := by simp
    have HB7 := hide (low_trans (unhide HB5) (low_trans b6 b7))
    have HW7 := hide hW7
    have HF := hide hF
    rw [← hW7, ← hF] at y0 y1 y2
    rw [← hW7] at x0 x1 x2
    clear hsd b6 hR' hgl' hul' xg' xu' hF hW7 b7 q7 q57 hg9 hu9 hl8 h1 h2 h3 KR5
    go_wp2_with (go_at_call 63; fail)
    rw [unhide HW7]
    refine (unhide KS).mono ?_
    rintro e w8 ⟨rfl, b8⟩
    have HZ := hide (low_trans (unhide HB7) b8)
    clear b8 KS
    go_wp2_with (go_at_call 19; refine (unhide KE _).mono ?_; rintro e wn ⟨rfl, hwn⟩; rw [hwn]; clear hwn wn)
    go_ret
    exact ⟨rfl, unhide HZ⟩
end Go.Proofs.YtkablmjkffdloaaGreatDoor
