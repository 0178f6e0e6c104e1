/-
  A text signed by any keys, the reference's.
-/
import Derived.Test.YtkablmjkffdloaaGreatDoorKysQ
namespace Go.Proofs.YtkablmjkffdloaaGreatDoor
open Go.RowKit

theorem or_parts {p x y : Nat} (k : Nat) (h : y < 2 ^ k) (hx : x = p * 2 ^ k) : x ||| y = x + y := by
  subst hx
  rw [Nat.mul_comm, ← Nat.two_pow_add_eq_or_of_lt h]
theorem be32_nat (a b c d : UInt8) : (be32 a b c d).toNat = a.toNat * 16777216 + b.toNat * 65536 + c.toNat * 256 + d.toNat := by
  have la := u8_lt a
  have lb := u8_lt b
  have lc := u8_lt c
  have ld := u8_lt d
  unfold be32
  simp only [UInt32.toNat_or, UInt32.toNat_shiftLeft, UInt8.toNat_toUInt32]
  have e1 : a.toNat <<< ((24 : UInt32).toNat % 32) % 2 ^ 32 = a.toNat * 16777216 := by
    have : ((24 : UInt32).toNat % 32) = 24 := by decide
    rw [this, Nat.shiftLeft_eq]; omega
  have e2 : b.toNat <<< ((16 : UInt32).toNat % 32) % 2 ^ 32 = b.toNat * 65536 := by
    have : ((16 : UInt32).toNat % 32) = 16 := by decide
    rw [this, Nat.shiftLeft_eq]; omega
  have e3 : c.toNat <<< ((8 : UInt32).toNat % 32) % 2 ^ 32 = c.toNat * 256 := by
    have : ((8 : UInt32).toNat % 32) = 8 := by decide
    rw [this, Nat.shiftLeft_eq]; omega
  rw [e1, e2, e3]
  have o1 : a.toNat * 16777216 ||| b.toNat * 65536 = a.toNat * 16777216 + b.toNat * 65536 := or_parts (p := a.toNat) 24 (by omega) (by omega)
  rw [o1]
  have o2 : a.toNat * 16777216 + b.toNat * 65536 ||| c.toNat * 256 = a.toNat * 16777216 + b.toNat * 65536 + c.toNat * 256 := or_parts (p := a.toNat * 256 + b.toNat) 16 (by omega) (by omega)
  rw [o2]
  exact or_parts (p := a.toNat * 65536 + b.toNat * 256 + c.toNat) 8 (by omega) (by omega)
theorem be4_be32 (a b c d : UInt8) : be4 (be32 a b c d) = [a, b, c, d] := by
  have la := u8_lt a
  have lb := u8_lt b
  have lc := u8_lt c
  have ld := u8_lt d
  have h := be32_nat a b c d
  have e0 := byte4_24 (be32 a b c d)
  have e1 := byte4_16 (be32 a b c d)
  have e2 := byte4_8 (be32 a b c d)
  have e3 := byte4_0 (be32 a b c d)
  unfold be4
  obtain ⟨N, hN⟩ : ∃ N, (be32 a b c d).toNat = N := ⟨_, rfl⟩
  rw [hN] at e0 e1 e2 e3 h
  have f0 : (be32 a b c d >>> 24).toUInt8 = a := UInt8.toNat_inj.1 (by omega)
  have f1 : (be32 a b c d >>> 16).toUInt8 = b := UInt8.toNat_inj.1 (by omega)
  have f2 : (be32 a b c d >>> 8).toUInt8 = c := UInt8.toNat_inj.1 (by omega)
  have f3 : (be32 a b c d).toUInt8 = d := UInt8.toNat_inj.1 (by omega)
  rw [f0, f1, f2, f3]
theorem be4_num {b : Bs} (h : 4 ≤ b.length) : be4 (numU b) = b.take 4 := by
  match b, h with
  | x0 :: x1 :: x2 :: x3 :: t, _ => exact be4_be32 _ _ _ _

/-- What Sign says. -/
def signE (text : Bs) (ks : List Ky) : Int := if textB text = false then 15 else if ks.length = 0 then 20 else if signB ks = false then 20 else if 8 < ks.length then 14 else 0
def signT (text : Bs) (ks : List Ky) : Bs := if signE text ks = 0 then noteL text ks else []

set_option maxRecDepth 100000 in
set_option maxHeartbeats 2000000 in
theorem sign_any {w : World} {text : Bs} {a : Option Addr} {n c : Nat} {ks : List Ky} (hl : text.length ≤ 65536) (hn : ks.length = n) (hN : n ≤ 1000) (hok : ∀ k ∈ ks, KyOk k) (h : KRow w a ks) :
    Calls Tryz.prog 54 #[.string (ba text), .slice a n c] w fun e w' => e = .returned (.tuple #[.string (ba (signT text ks)), .int .i64 (signE text ks)]) ∧ Below w.heap.size w w' := by
  obtain ⟨p, hp⟩ : ∃ p, textB text = p := ⟨_, rfl⟩
  have KT : Hid (∀ W, Calls Tryz.prog 106 #[.string (ba text)] W fun e w' => e = .returned (.bool p) ∧ w' = W) := hide (fun W => by have k := isText_any (l := text) (by omega) W; rw [hp] at k; exact k)
  have z0 : (ba text).size = text.length := ba_size _
  obtain ⟨tl, htl⟩ : ∃ tl, text.length = tl := ⟨_, rfl⟩
  rw [htl] at z0
  have hi65 : ¬ (65536 : Int) < (tl : Int) := by omega
  cases p with
  | false =>
    have hE : signE text ks = 15 := by unfold signE; rw [if_pos hp]
    have HE := hide hE
    have HT : Hid (signT text ks = []) := hide (by unfold signT; rw [hE]; rfl)
    clear hp hn hok h htl hl hE
    go_enter Tryz.func54, Tryz.ntmps54
    go_wp2_with (go_at_call 106; refine (unhide KT _).mono ?_; rintro e wn ⟨rfl, hwn⟩; rw [hwn]; clear hwn wn)
    go_ret2
    exact ⟨by rw [unhide HE, unhide HT]; rfl, Below.refl _ _⟩
  | true =>
    by_cases h0 : n = 0
    · have hE : signE text ks = 20 := by unfold signE; rw [if_neg (by rw [hp]; simp), if_pos (by omega)]
      have HE := hide hE
      have HT : Hid (signT text ks = []) := hide (by unfold signT; rw [hE]; rfl)
      have i0 : ((n : Int) == 0) = true := by simp; omega
      clear hp hn hok h htl hl hE h0
      go_enter Tryz.func54, Tryz.ntmps54
      go_wp2_with (go_at_call 106; refine (unhide KT _).mono ?_; rintro e wn ⟨rfl, hwn⟩; rw [hwn]; clear hwn wn)
      go_ret2
      exact ⟨by rw [unhide HE, unhide HT]; rfl, Below.refl _ _⟩
    · have i0 : ((n : Int) == 0) = false := by simp; omega
      obtain ⟨s, hs⟩ : ∃ s, signB ks = s := ⟨_, rfl⟩
      have KA : Hid (Calls Tryz.prog 107 #[.slice a n c] w fun e w' => e = .returned (.bool s) ∧ Below w.heap.size w w') := hide (by
        have k := areSigners_any (c := c) hn hN hok h
        rw [hs] at k
        exact k)
      cases s with
      | false =>
        have hE : signE text ks = 20 := by unfold signE; rw [if_neg (by rw [hp]; simp), if_neg (by omega), if_pos hs]
        have HE := hide hE
        have HT : Hid (signT text ks = []) := hide (by unfold signT; rw [hE]; rfl)
        clear hp hn hok h htl hl hE h0 hs
        go_enter Tryz.func54, Tryz.ntmps54
        go_wp2_with (go_at_call 106; refine (unhide KT _).mono ?_; rintro e wn ⟨rfl, hwn⟩; rw [hwn]; clear hwn wn)
        go_wp2_with (go_at_call 107; fail)
        refine (unhide KA).mono ?_
        rintro e w1 ⟨rfl, b1⟩
        go_wp2
        go_ret2
        exact ⟨by rw [unhide HE, unhide HT]; rfl, b1⟩
      | true =>
        by_cases h8 : 8 < n
        · have hE : signE text ks = 14 := by unfold signE; rw [if_neg (by rw [hp]; simp), if_neg (by omega), if_neg (by rw [hs]; simp), if_pos (by omega)]
          have HE := hide hE
          have HT : Hid (signT text ks = []) := hide (by unfold signT; rw [hE]; rfl)
          have i8 : (8 : Int) < (n : Int) := by omega
          clear hp hn hok h htl hl hE h0 hs
          go_enter Tryz.func54, Tryz.ntmps54
          go_wp2_with (go_at_call 106; refine (unhide KT _).mono ?_; rintro e wn ⟨rfl, hwn⟩; rw [hwn]; clear hwn wn)
          go_wp2_with (go_at_call 107; fail)
          refine (unhide KA).mono ?_
          rintro e w1 ⟨rfl, b1⟩
          go_wp2
          go_ret2
          exact ⟨by rw [unhide HE, unhide HT]; rfl, b1⟩
        · have hE : signE text ks = 0 := by unfold signE; rw [if_neg (by rw [hp]; simp), if_neg (by omega), if_neg (by rw [hs]; simp), if_neg (by omega)]
          have hT : signT text ks = noteL text ks := by unfold signT; rw [if_pos hE]
          rw [hE, hT]
          exact sign_ok hp hl hn (by omega) (by omega) hs (fun k hk => (hok k hk).2) h
end Go.Proofs.YtkablmjkffdloaaGreatDoor

namespace Go.Proofs.YtkablmjkffdloaaGreatDoor
open Go.RowKit

/-- Who a key's lines say. -/
def sg (t : Wk) : Sg := (t.nm, idN t.nm t.sec)
theorem sg_of (ts : List Wk) : (ts.map kyOf).map sgOf = ts.map sg := by rw [List.map_map]; rfl
theorem nodup_snoc {l : List Sg} {x : Sg} (h : l.Nodup) (hx : ¬ x ∈ l) : (l ++ [x]).Nodup := by
  rw [List.nodup_append]
  refine ⟨h, by simp, ?_⟩
  intro a ha b hb e
  simp at hb
  subst hb
  exact hx (e ▸ ha)
theorem dup_not {ts : List Wk} {k i : Nat} (hk : k < i) (hi : i < ts.length) (h : sg (ts[k]'(by omega)) = sg ts[i]) : ¬ (ts.map sg).Nodup := by
  intro hnd
  have := List.pairwise_iff_getElem.1 hnd k i (by simp; omega) (by simpa using hi) hk
  simp at this
  exact this h
theorem all_good {ts : List Wk} (h : ∀ t ∈ ts, goodB t.nm t.sec = true) : (ts.map kyOf).all (fun k => nameB k.1) = true := by
  rw [List.all_eq_true]
  intro k hk
  obtain ⟨t, ht, rfl⟩ := List.mem_map.1 hk
  have := h t ht
  unfold goodB at this
  simp only [Bool.and_eq_true] at this
  exact this.1
theorem sign_dup {ts : List Wk} (hd : ¬ (ts.map sg).Nodup) : signB (ts.map kyOf) = false := by
  unfold signB
  rw [sg_of, decide_eq_false hd, Bool.and_false]
theorem sign_nodup {ts : List Wk} (h : ∀ t ∈ ts, goodB t.nm t.sec = true) (hd : (ts.map sg).Nodup) : signB (ts.map kyOf) = true := by
  unfold signB
  rw [all_good h, sg_of, decide_eq_true hd]
  rfl
theorem four_at {p1 p2 p3 p4 : Addr} {p q r s : Value} {w6 w w' : World} (h : (w.cell? p1 = some p ∧ w.cell? p2 = some q) ∧ (w.cell? p3 = some r ∧ w.cell? p4 = some s) ∧ Below w6.heap.size w6 w) (b : Below w.heap.size w w') : (w'.cell? p1 = some p ∧ w'.cell? p2 = some q) ∧ (w'.cell? p3 = some r ∧ w'.cell? p4 = some s) ∧ Below w6.heap.size w6 w' :=
  ⟨⟨(b.cell (lt_of_cell h.1.1)).trans h.1.1, (b.cell (lt_of_cell h.1.2)).trans h.1.2⟩, ⟨(b.cell (lt_of_cell h.2.1.1)).trans h.2.1.1, (b.cell (lt_of_cell h.2.1.2)).trans h.2.1.2⟩, low_trans h.2.2 b⟩
theorem two_at {p1 p2 : Addr} {p q : Value} {w6 w w' : World} (h : (w.cell? p1 = some p ∧ w.cell? p2 = some q) ∧ Below w6.heap.size w6 w) (b : Below w.heap.size w w') : (w'.cell? p1 = some p ∧ w'.cell? p2 = some q) ∧ Below w6.heap.size w6 w' :=
  ⟨⟨(b.cell (lt_of_cell h.1.1)).trans h.1.1, (b.cell (lt_of_cell h.1.2)).trans h.1.2⟩, low_trans h.2 b⟩

set_option maxRecDepth 100000 in
set_option maxHeartbeats 8000000 in
theorem refSign_any {w : World} {text : Bs} {a : Option Addr} {n c : Nat} {ts : List Wk} (hl : text.length ≤ 65536) (hn : ts.length = n) (hN : n ≤ 1000) (hgd : ∀ t ∈ ts, goodB t.nm t.sec = true) (hb : ∀ t ∈ ts, BAt w t.a t.sec) (h : PRow w a ts) :
    Calls Tryz.prog 59 #[.string (ba text), .slice a n c] w fun e w' => e = .returned (.tuple #[.string (ba (signT text (ts.map kyOf))), .int .i64 (signE text (ts.map kyOf))]) ∧ Below w.heap.size w w' := by
  obtain ⟨p, hp⟩ : ∃ p, textB text = p := ⟨_, rfl⟩
  have KT : Hid (∀ W, Calls Tryz.prog 115 #[.string (ba text)] W fun e w' => e = .returned (.bool p) ∧ w' = W) := hide (fun W => by have k := refBody_any (l := text) (by omega) W; rw [hp] at k; exact k)
  have z0 : (ba text).size = text.length := ba_size _
  obtain ⟨tl, htl⟩ : ∃ tl, text.length = tl := ⟨_, rfl⟩
  rw [htl] at z0
  have hi65 : ¬ (65536 : Int) < (tl : Int) := by omega
  have hsz : ∀ t ∈ ts, t.nm.length ≤ 50 ∧ t.sec.length ≤ 64 := fun t ht => by
    have h1 := hgd t ht
    unfold goodB nameB at h1
    simp only [Bool.and_eq_true, decide_eq_true_eq] at h1
    exact ⟨h1.1.2.2, h1.2.2⟩
  have HGD := hide hgd
  have HBT := hide hb
  have HH := hide h
  have HN := hide hn
  have HSZ := hide hsz
  have HP := hide hp
  have HTL := hide htl
  have HL := hide hl
  clear hgd hb h hn hsz hp htl hl
  cases p with
  | false =>
    have hE : signE text (ts.map kyOf) = 15 := by unfold signE; rw [if_pos (unhide HP)]
    have HE := hide hE
    have HT : Hid (signT text (ts.map kyOf) = []) := hide (by unfold signT; rw [hE]; rfl)
    clear hE
    go_enter Tryz.func59, Tryz.ntmps59
    go_wp2_with (go_at_call 115; refine (unhide KT _).mono ?_; rintro e wn ⟨rfl, hwn⟩; rw [hwn]; clear hwn wn)
    go_ret2
    exact ⟨by rw [unhide HE, unhide HT]; rfl, Below.refl _ _⟩
  | true =>
    have HDUP : Hid (¬ (ts.map sg).Nodup → signE text (ts.map kyOf) = 20 ∧ signT text (ts.map kyOf) = []) := hide (fun hd => by
      have hE : signE text (ts.map kyOf) = 20 := by
        unfold signE
        rw [if_neg (by rw [unhide HP]; simp), sign_dup hd]
        simp
      exact ⟨hE, by unfold signT; rw [hE]; rfl⟩)
    go_enter Tryz.func59, Tryz.ntmps59
    go_wp2_with (go_at_call 115; refine (unhide KT _).mono ?_; rintro e wn ⟨rfl, hwn⟩; rw [hwn]; clear hwn wn)
    go_loopw [7, 8] (fun v7 _ wr => ∃ i : Nat, i ≤ n ∧ v7 = .int .i64 (i : Int) ∧ Hid (((ts.take i).map sg).Nodup) ∧ Below w.heap.size w wr) (fun v7 _ _ => n - (intOf v7).toNat)
    case atStart => exact ⟨0, Nat.zero_le _, rfl, hide (by simp), Below.refl _ _⟩
    case round =>
      rename World => wr
      obtain ⟨i, hi, rfl, hnd, hbw⟩ := hrel
      by_cases hlt : i < n
      · have hil : i < ts.length := by rw [unhide HN]; exact hlt
        have hlt' : (i : Int) < (n : Int) := by omega
        go_wp2
        go_loopw [8] (fun v8 ws => ∃ k : Nat, k ≤ i ∧ v8 = .int .i64 (k : Int) ∧ Hid (∀ k' (_ : k' < k) (hk : k' < ts.length), sg ts[k'] ≠ sg (ts[i]'(by have := unhide HN; omega))) ∧ Below w.heap.size w ws) (fun v8 _ => i - (intOf v8).toNat)
        case atStart => exact ⟨0, Nat.zero_le _, rfl, hide (fun k' h => by omega), hbw⟩
        case round =>
          rename World => ws
          obtain ⟨k, hk, rfl, hne, hbs⟩ := hrel
          by_cases hki : k < i
          · have hkl : k < ts.length := by omega
            have hki' : (k : Int) < (i : Int) := by omega
            have hkn' : (k : Int) < (n : Int) := by omega
            have hp2 := (unhide HH).low hbs
            obtain ⟨B, O, rfl, g0, g1⟩ := hp2.at hkl
            obtain ⟨B', O', e', g2, g3⟩ := hp2.at hil
            cases e'
            have hsk := unhide HSZ _ (List.getElem_mem hkl)
            have hsi := unhide HSZ _ (List.getElem_mem hil)
            have hbk := (unhide HBT _ (List.getElem_mem hkl)).low hbs
            have hbi := (unhide HBT _ (List.getElem_mem hil)).low hbs
            have hdn : ∀ (hh : sg ts[k] = sg ts[i]), ¬ (ts.map sg).Nodup := fun hh => dup_not hki hil hh
            obtain ⟨x, hx⟩ : ∃ x, ts[k] = x := ⟨_, rfl⟩
            obtain ⟨y, hy⟩ : ∃ y, ts[i] = y := ⟨_, rfl⟩
            have HNE : Hid (sg x ≠ sg y → ∀ k' (_ : k' < k + 1) (hk : k' < ts.length), sg ts[k'] ≠ sg ts[i]) := hide (fun hh k' h1 h2 => by
              by_cases e : k' = k
              · subst e; rw [hx, hy]; exact hh
              · exact unhide hne k' (by omega) h2)
            rw [hx] at g0 g1 hsk hbk hdn
            rw [hy] at g2 g3 hsi hbi hdn
            have HDN := hide hdn
            clear hx hy hdn hne hp2
            obtain ⟨nk, sk, ak, ck⟩ := x
            obtain ⟨ni, si, ai, ci⟩ := y
            simp only at g0 g1 g2 g3 hsk hsi hbk hbi
            obtain ⟨lk, hlk⟩ : ∃ lk, sk.length = lk := ⟨_, rfl⟩
            obtain ⟨li, hli⟩ : ∃ li, si.length = li := ⟨_, rfl⟩
            rw [hlk] at g1 hsk
            rw [hli] at g3 hsi
            have HBS := hide hbs
            by_cases hname : nk = ni
            · subst hname
              obtain ⟨IK, hIK⟩ : ∃ IK : Int, ((idN nk sk).toNat : Int) = IK := ⟨_, rfl⟩
              obtain ⟨II, hII⟩ : ∃ II : Int, ((idN nk si).toNat : Int) = II := ⟨_, rfl⟩
              have hS : (ws.cell? ⟨B, O + k * 2, none⟩ = some (.string (ba nk)) ∧ ws.cell? ⟨B, O + k * 2 + 1, none⟩ = some (.slice ak lk ck)) ∧ (ws.cell? ⟨B, O + i * 2, none⟩ = some (.string (ba nk)) ∧ ws.cell? ⟨B, O + i * 2 + 1, none⟩ = some (.slice ai li ci)) ∧ Below ws.heap.size ws ws := ⟨⟨g0, g1⟩, ⟨g2, g3⟩, Below.refl _ _⟩
              have hSd := four_at hS (lowD (Below.refl _ _))
              have HK1 : Hid (∀ wx, ((wx.cell? ⟨B, O + k * 2, none⟩ = some (.string (ba nk)) ∧ wx.cell? ⟨B, O + k * 2 + 1, none⟩ = some (.slice ak lk ck)) ∧ (wx.cell? ⟨B, O + i * 2, none⟩ = some (.string (ba nk)) ∧ wx.cell? ⟨B, O + i * 2 + 1, none⟩ = some (.slice ai li ci)) ∧ Below ws.heap.size ws wx) → Calls Tryz.prog 105 #[.agg #[.string (ba nk), .slice ak lk ck]] wx fun e w' => e = .returned (.int .u32 IK) ∧ ((w'.cell? ⟨B, O + k * 2, none⟩ = some (.string (ba nk)) ∧ w'.cell? ⟨B, O + k * 2 + 1, none⟩ = some (.slice ak lk ck)) ∧ (w'.cell? ⟨B, O + i * 2, none⟩ = some (.string (ba nk)) ∧ w'.cell? ⟨B, O + i * 2 + 1, none⟩ = some (.slice ai li ci)) ∧ Below ws.heap.size ws w')) := hide (fun wx hx => by
                have kk := refNumber_any (nm := nk) (sec := sk) (c := ck) (by omega) hlk (by omega) (hbk.low hx.2.2)
                rw [hIK] at kk
                refine kk.mono ?_
                rintro e w' ⟨rfl, b⟩
                exact ⟨rfl, four_at hx b⟩)
              have HK2 : Hid (∀ wx, ((wx.cell? ⟨B, O + k * 2, none⟩ = some (.string (ba nk)) ∧ wx.cell? ⟨B, O + k * 2 + 1, none⟩ = some (.slice ak lk ck)) ∧ (wx.cell? ⟨B, O + i * 2, none⟩ = some (.string (ba nk)) ∧ wx.cell? ⟨B, O + i * 2 + 1, none⟩ = some (.slice ai li ci)) ∧ Below ws.heap.size ws wx) → Calls Tryz.prog 105 #[.agg #[.string (ba nk), .slice ai li ci]] wx fun e w' => e = .returned (.int .u32 II) ∧ ((w'.cell? ⟨B, O + k * 2, none⟩ = some (.string (ba nk)) ∧ w'.cell? ⟨B, O + k * 2 + 1, none⟩ = some (.slice ak lk ck)) ∧ (w'.cell? ⟨B, O + i * 2, none⟩ = some (.string (ba nk)) ∧ w'.cell? ⟨B, O + i * 2 + 1, none⟩ = some (.slice ai li ci)) ∧ Below ws.heap.size ws w')) := hide (fun wx hx => by
                have kk := refNumber_any (nm := nk) (sec := si) (c := ci) (by omega) hli (by omega) (hbi.low hx.2.2)
                rw [hII] at kk
                refine kk.mono ?_
                rintro e w' ⟨rfl, b⟩
                exact ⟨rfl, four_at hx b⟩)
              have hq : ((ba nk).toList == (ba nk).toList) = true := by simp
              obtain ⟨b, hbb⟩ : ∃ b, (IK == II) = b := ⟨_, rfl⟩
              have HEQ : Hid (b = true ↔ sg ⟨nk, sk, ak, ck⟩ = sg ⟨nk, si, ai, ci⟩) := hide (by
                rw [← hbb, beq_iff_eq, ← hIK, ← hII]
                unfold sg
                simp only [Prod.mk.injEq, true_and]
                constructor
                · intro e; exact UInt32.toNat_inj.1 (by omega)
                · intro e; rw [e])
              clear hbk hbi hsk hsi hIK hII hlk hli hbs
              go_wp2
              go_region_held3 (fun wx => (wx.cell? ⟨B, O + k * 2, none⟩ = some (.string (ba nk)) ∧ wx.cell? ⟨B, O + k * 2 + 1, none⟩ = some (.slice ak lk ck)) ∧ (wx.cell? ⟨B, O + i * 2, none⟩ = some (.string (ba nk)) ∧ wx.cell? ⟨B, O + i * 2 + 1, none⟩ = some (.slice ai li ci)) ∧ Below ws.heap.size ws wx)
                (first | assumption | exact hS | exact hSd)
                (first
                  | (go_at_call_of 105 (Value.agg #[Value.string (ba nk), Value.slice ak lk ck]); refine (unhide HK1 _ (by assumption)).mono ?_; rintro e w9 ⟨rfl, hS9⟩)
                  | (go_at_call_of 105 (Value.agg #[Value.string (ba nk), Value.slice ai li ci]); refine (unhide HK2 _ (by assumption)).mono ?_; rintro e w9 ⟨rfl, hS9⟩))
              all_goals
                have HB9 : Hid (Below w.heap.size w w9) := hide (low_trans (unhide HBS) hS9.2.2)
                clear hS hSd hS9 g0 g1 g2 g3
                cases b with
                | true =>
                  obtain ⟨hE, hT⟩ := unhide HDUP (unhide HDN ((unhide HEQ).1 rfl))
                  have HE := hide hE
                  have HT := hide hT
                  clear hE hT
                  go_wp2
                  go_ret2
                  exact ⟨by rw [unhide HE, unhide HT]; rfl, unhide HB9⟩
                | false =>
                  have HF := hide (unhide HNE (fun e => by have := (unhide HEQ).2 e; cases this))
                  go_wp2
                  go_roundw
                  case rel => exact ⟨k + 1, hki, by push_cast; rfl, HF, unhide HB9⟩
                  case measure => simp [intOf]; omega
            · have hq : ((ba nk).toList == (ba ni).toList) = false := by
                rw [Bool.eq_false_iff]
                intro e
                rw [beq_iff_eq] at e
                rw [Lib.toList_data, Lib.toList_data, ba_data, ba_data] at e
                exact hname (by simpa using e)
              have HF := hide (unhide HNE (fun e => hname (congrArg Prod.fst e)))
              clear hbk hbi hsk hsi hbs hlk hli
              go_wp2
              go_quiet (fail)
              go_wp2
              go_roundw
              case rel => exact ⟨k + 1, hki, by push_cast; rfl, HF, by first | exact (unhide HBS).drewN _ | (have hh := unhide HBS; exact ⟨hh.os, hh.tape, hh.output, hh.size, hh.block⟩)⟩
              case measure => simp [intOf]; omega
          · have hke : k = i := by omega
            subst hke
            have HND : Hid (((ts.take (k + 1)).map sg).Nodup) := hide (by
              rw [take_snoc hil, List.map_append]
              refine nodup_snoc (unhide hnd) (fun hm => ?_)
              obtain ⟨t, ht, e⟩ := List.mem_map.1 hm
              obtain ⟨k', hk', rfl⟩ := List.getElem_of_mem ht
              rw [List.length_take] at hk'
              rw [List.getElem_take] at e
              exact unhide hne k' (by omega) (by omega) e)
            have HBS := hide hbs
            clear hne hbs hnd
            go_wp2
            go_roundw
            case rel => exact ⟨k + 1, hlt, by push_cast; rfl, HND, unhide HBS⟩
            case measure => simp [intOf]; omega
      · have hie : i = n := by omega
        subst hie
        have hnd2 := unhide hnd
        rw [List.take_of_length_le (by rw [unhide HN]; exact Nat.le_refl _)] at hnd2
        have hsb := sign_nodup (unhide HGD) hnd2
        have hkl : (ts.map kyOf).length = i := by rw [List.length_map]; exact unhide HN
        have HKL := hide hkl
        have HBW := hide hbw
        by_cases h0 : i = 0
        · have hE : signE text (ts.map kyOf) = 20 := by unfold signE; rw [if_neg (by rw [unhide HP]; simp), if_pos (by omega)]
          have HE := hide hE
          have HT : Hid (signT text (ts.map kyOf) = []) := hide (by unfold signT; rw [hE]; rfl)
          have i0 : ((i : Int) == 0) = true := by simp; omega
          clear hE hnd hbw hnd2 hsb hkl h0
          go_wp2
          go_ret2
          exact ⟨by rw [unhide HE, unhide HT]; rfl, unhide HBW⟩
        · have i0 : ((i : Int) == 0) = false := by simp; omega
          by_cases h8 : 8 < i
          · have hE : signE text (ts.map kyOf) = 14 := by unfold signE; rw [if_neg (by rw [unhide HP]; simp), if_neg (by omega), if_neg (by rw [hsb]; simp), if_pos (by omega)]
            have HE := hide hE
            have HT : Hid (signT text (ts.map kyOf) = []) := hide (by unfold signT; rw [hE]; rfl)
            have i8 : (8 : Int) < (i : Int) := by omega
            clear hE hnd hbw hnd2 hsb hkl h0
            go_wp2
            go_ret2
            exact ⟨by rw [unhide HE, unhide HT]; rfl, unhide HBW⟩
          · have hE : signE text (ts.map kyOf) = 0 := by unfold signE; rw [if_neg (by rw [unhide HP]; simp), if_neg (by omega), if_neg (by rw [hsb]; simp), if_neg (by omega)]
            have hT : signT text (ts.map kyOf) = noteL text (ts.map kyOf) := by unfold signT; rw [if_pos hE]
            have HE := hide hE
            have HT := hide hT
            have i8 : ¬ (8 : Int) < (i : Int) := by omega
            have hi8 : i ≤ 8 := by omega
            obtain ⟨T1, hT1⟩ : ∃ T1, text ++ [10] = T1 := ⟨_, rfl⟩
            have c1 : ba text ++ (⟨#[10]⟩ : ByteArray) = ba T1 := by rw [← hT1]; exact cat _ [10]
            have g0 : ¬ 9223372036854775807 < tl + 1 := by omega
            have HT1 : Hid (noteL text ((ts.map kyOf).take 0) = T1) := hide (by rw [← hT1]; simp [noteL])
            have HNM : Hid (∀ k ∈ ts.map kyOf, k.1.length ≤ 50) := hide (fun k hk => by
              obtain ⟨t, ht, rfl⟩ := List.mem_map.1 hk
              exact (unhide HSZ t ht).1)
            clear hE hT hnd hbw hnd2 hsb hkl hT1
            go_wp2
            go_loopw [9, 10] (fun v9 v10 ws => ∃ j : Nat, j ≤ i ∧ v10 = .int .i64 (j : Int) ∧ (∃ s, v9 = .string (ba s) ∧ Hid (noteL text ((ts.map kyOf).take j) = s)) ∧ Below w.heap.size w ws) (fun _ v10 _ => i - (intOf v10).toNat)
            case atStart => exact ⟨0, Nat.zero_le _, rfl, ⟨T1, rfl, HT1⟩, unhide HBW⟩
            case round =>
              rename World => ws
              obtain ⟨j, hj, rfl, ⟨N0, rfl, hN0⟩, hbs⟩ := hrel
              clear c1 g0
              by_cases hji : j < i
              · have hjl : j < ts.length := by rw [unhide HN]; exact hji
                have hji' : (j : Int) < (i : Int) := by omega
                have hjk : j < (ts.map kyOf).length := by rw [List.length_map]; exact hjl
                obtain ⟨B, O, rfl, g0, g1⟩ := ((unhide HH).low hbs).at hjl
                have hsj := unhide HSZ _ (List.getElem_mem hjl)
                have hbj := (unhide HBT _ (List.getElem_mem hjl)).low hbs
                have hsn := noteL_snoc (text := text) hjk
                have hkj : (ts.map kyOf)[j] = kyOf ts[j] := by simp
                rw [hkj] at hsn
                have hnl := noteL_len (text := text) (unhide HNM) j (by omega)
                rw [unhide hN0] at hnl hsn
                rw [unhide HTL] at hnl
                obtain ⟨x, hx⟩ : ∃ x, ts[j] = x := ⟨_, rfl⟩
                rw [hx] at g0 g1 hsj hbj hsn
                obtain ⟨nm, sec, xa, xc⟩ := x
                simp only at g0 g1 hsj hbj
                obtain ⟨sl, hsl⟩ : ∃ sl, sec.length = sl := ⟨_, rfl⟩
                rw [hsl] at g1 hsj
                obtain ⟨E, hEE⟩ : ∃ E, b64 (be4 (idN nm sec) ++ sigL sec text) = E := ⟨_, rfl⟩
                have hsg : (sigL sec text).length = 32 := sha32 _
                have hEl : E.length ≤ 48 := by
                  rw [← hEE]
                  exact Nat.le_trans (b64_len 12 _ (by rw [List.length_append, hsg]; simp [be4])) (by omega)
                obtain ⟨P1, hP1⟩ : ∃ P1, N0 ++ dashB = P1 := ⟨_, rfl⟩
                obtain ⟨P2, hP2⟩ : ∃ P2, P1 ++ nm = P2 := ⟨_, rfl⟩
                obtain ⟨P3, hP3⟩ : ∃ P3, P2 ++ [32] = P3 := ⟨_, rfl⟩
                obtain ⟨P4, hP4⟩ : ∃ P4, P3 ++ E = P4 := ⟨_, rfl⟩
                obtain ⟨P5, hP5⟩ : ∃ P5, P4 ++ [10] = P5 := ⟨_, rfl⟩
                have HF : Hid (noteL text ((ts.map kyOf).take (j + 1)) = P5) := hide (by
                  rw [hsn, ← hP5, ← hP4, ← hP3, ← hP2, ← hP1, ← hEE]
                  unfold keyLine sigLine kyOf
                  simp)
                have c1 : ba N0 ++ (⟨#[226, 128, 148, 32]⟩ : ByteArray) = ba P1 := by rw [← hP1]; exact cat N0 dashB
                have c2 : ba P1 ++ ba nm = ba P2 := by rw [← hP2]; exact cat _ _
                have c3 : ba P2 ++ (⟨#[32]⟩ : ByteArray) = ba P3 := by rw [← hP3]; exact cat _ [32]
                have c4 : ba P3 ++ ba E = ba P4 := by rw [← hP4]; exact cat _ _
                have c5 : ba P4 ++ (⟨#[10]⟩ : ByteArray) = ba P5 := by rw [← hP5]; exact cat _ [10]
                obtain ⟨xn, zn⟩ : ∃ x0, (ba nm).size = x0 := ⟨_, rfl⟩
                obtain ⟨xe, ze⟩ : ∃ x0, (ba E).size = x0 := ⟨_, rfl⟩
                obtain ⟨x0, y0⟩ : ∃ x0, (ba N0).size = x0 := ⟨_, rfl⟩
                obtain ⟨x1, y1⟩ : ∃ x1, (ba P1).size = x1 := ⟨_, rfl⟩
                obtain ⟨x2, y2⟩ : ∃ x2, (ba P2).size = x2 := ⟨_, rfl⟩
                obtain ⟨x3, y3⟩ : ∃ x3, (ba P3).size = x3 := ⟨_, rfl⟩
                obtain ⟨x4, y4⟩ : ∃ x4, (ba P4).size = x4 := ⟨_, rfl⟩
                have en : xn ≤ 50 := by rw [← zn, ba_size]; exact hsj.1
                have ee : xe ≤ 48 := by rw [← ze, ba_size]; exact hEl
                have r0 : x0 ≤ 70000 := by rw [← y0, ba_size]; have := unhide HTL; have := unhide HL; omega
                have r1 : x1 = x0 + 4 := by rw [← y1, ← y0, ba_size, ba_size, ← hP1]; simp [dashB]
                have r2 : x2 = x1 + xn := by rw [← y2, ← y1, ← zn, ba_size, ba_size, ba_size, ← hP2]; simp
                have r3 : x3 = x2 + 1 := by rw [← y3, ← y2, ba_size, ba_size, ← hP3]; simp
                have r4 : x4 = x3 + xe := by rw [← y4, ← y3, ← ze, ba_size, ba_size, ba_size, ← hP4]; simp
                have k1 : ¬ 9223372036854775807 < x0 + 4 := by omega
                have k2 : ¬ 9223372036854775807 < x1 + xn := by omega
                have k3 : ¬ 9223372036854775807 < x2 + 1 := by omega
                have k4 : ¬ 9223372036854775807 < x3 + xe := by omega
                have k5 : ¬ 9223372036854775807 < x4 + 1 := by omega
                have hS : (ws.cell? ⟨B, O + j * 2, none⟩ = some (.string (ba nm)) ∧ ws.cell? ⟨B, O + j * 2 + 1, none⟩ = some (.slice xa sl xc)) ∧ Below ws.heap.size ws ws := ⟨⟨g0, g1⟩, Below.refl _ _⟩
                have hSd := two_at hS (lowD (Below.refl _ _))
                have hbl := lt_of_cell g0
                have hbm := lt_of_cell g1
                have H116 : Hid (∀ wx, ((wx.cell? ⟨B, O + j * 2, none⟩ = some (.string (ba nm)) ∧ wx.cell? ⟨B, O + j * 2 + 1, none⟩ = some (.slice xa sl xc)) ∧ Below ws.heap.size ws wx) → Calls Tryz.prog 116 #[.agg #[.string (ba nm), .slice xa sl xc]] wx fun e w' => ∃ g cap, e = .returned (.slice (some ⟨g, 0, none⟩) 4 cap) ∧ Hid (OwnB ws.heap.size w' (.slice (some ⟨g, 0, none⟩) 4 cap) (be4 (idN nm sec))) ∧ ((w'.cell? ⟨B, O + j * 2, none⟩ = some (.string (ba nm)) ∧ w'.cell? ⟨B, O + j * 2 + 1, none⟩ = some (.slice xa sl xc)) ∧ Below ws.heap.size ws w')) := hide (fun wx hx => by
                  refine (refID_any (nm := nm) (sec := sec) (c := xc) (by omega) hsl (by omega) (hbj.low hx.2)).mono ?_
                  rintro e w' ⟨g, cap, rfl, o, b⟩
                  have e4 : (idH nm sec).take 4 = be4 (idN nm sec) := (be4_num (by rw [show (idH nm sec).length = 32 from sha32 _]; omega)).symm
                  rw [e4] at o
                  exact ⟨g, cap, rfl, hide (OwnB.less hx.2.size o), two_at hx b⟩)
                have H116b : Hid (∀ wx g6, ((wx.cell? ⟨B, O + j * 2, none⟩ = some (.string (ba nm)) ∧ wx.cell? ⟨B, O + j * 2 + 1, none⟩ = some (.slice xa sl xc)) ∧ Below ws.heap.size ws wx) → Hid (BAt wx (some ⟨g6, 0, none⟩) (sigL sec text)) → Calls Tryz.prog 116 #[.agg #[.string (ba nm), .slice xa sl xc]] wx fun e w' => ∃ g cap, e = .returned (.slice (some ⟨g, 0, none⟩) 4 cap) ∧ Hid (BAt w' (some ⟨g6, 0, none⟩) (sigL sec text) ∧ OwnB ws.heap.size w' (.slice (some ⟨g, 0, none⟩) 4 cap) (be4 (idN nm sec))) ∧ ((w'.cell? ⟨B, O + j * 2, none⟩ = some (.string (ba nm)) ∧ w'.cell? ⟨B, O + j * 2 + 1, none⟩ = some (.slice xa sl xc)) ∧ Below ws.heap.size ws w')) := hide (fun wx g6 hx hv => by
                  refine (refID_any (nm := nm) (sec := sec) (c := xc) (by omega) hsl (by omega) (hbj.low hx.2)).mono ?_
                  rintro e w' ⟨g, cap, rfl, o, b⟩
                  have e4 : (idH nm sec).take 4 = be4 (idN nm sec) := (be4_num (by rw [show (idH nm sec).length = 32 from sha32 _]; omega)).symm
                  rw [e4] at o
                  exact ⟨g, cap, rfl, hide ⟨(unhide hv).low b, OwnB.less hx.2.size o⟩, two_at hx b⟩)
                have htl3 : text.length ≤ 1000000 := by have := unhide HL; omega
                have H61 : Hid (∀ wx, ((wx.cell? ⟨B, O + j * 2, none⟩ = some (.string (ba nm)) ∧ wx.cell? ⟨B, O + j * 2 + 1, none⟩ = some (.slice xa sl xc)) ∧ Below ws.heap.size ws wx) → Calls Tryz.prog 61 #[.agg #[.string (ba nm), .slice xa sl xc], .string (ba text)] wx fun e w' => ∃ g cap, e = .returned (.slice (some ⟨g, 0, none⟩) 32 cap) ∧ Hid (BAt w' (some ⟨g, 0, none⟩) (sigL sec text)) ∧ ((w'.cell? ⟨B, O + j * 2, none⟩ = some (.string (ba nm)) ∧ w'.cell? ⟨B, O + j * 2 + 1, none⟩ = some (.slice xa sl xc)) ∧ Below ws.heap.size ws w')) := hide (fun wx hx => by
                  refine (refSig_any (nm := nm) (sec := sec) (text := text) (c := xc) hsl (by omega) htl3 (hbj.low hx.2)).mono ?_
                  rintro e w' ⟨v, rfl, o, b⟩
                  obtain ⟨g, cap, rfl, hat, -, -⟩ := OwnB.adr2 o (sha32 _)
                  exact ⟨g, cap, rfl, hide hat, two_at hx b⟩)
                have H61b : Hid (∀ wx g4 c4, ((wx.cell? ⟨B, O + j * 2, none⟩ = some (.string (ba nm)) ∧ wx.cell? ⟨B, O + j * 2 + 1, none⟩ = some (.slice xa sl xc)) ∧ Below ws.heap.size ws wx) → Hid (OwnB ws.heap.size wx (.slice (some ⟨g4, 0, none⟩) 4 c4) (be4 (idN nm sec))) → Calls Tryz.prog 61 #[.agg #[.string (ba nm), .slice xa sl xc], .string (ba text)] wx fun e w' => ∃ g cap, e = .returned (.slice (some ⟨g, 0, none⟩) 32 cap) ∧ Hid (BAt w' (some ⟨g, 0, none⟩) (sigL sec text) ∧ OwnB ws.heap.size w' (.slice (some ⟨g4, 0, none⟩) 4 c4) (be4 (idN nm sec))) ∧ ((w'.cell? ⟨B, O + j * 2, none⟩ = some (.string (ba nm)) ∧ w'.cell? ⟨B, O + j * 2 + 1, none⟩ = some (.slice xa sl xc)) ∧ Below ws.heap.size ws w')) := hide (fun wx g4 c4 hx hv => by
                  refine (refSig_any (nm := nm) (sec := sec) (text := text) (c := xc) hsl (by omega) htl3 (hbj.low hx.2)).mono ?_
                  rintro e w' ⟨v, rfl, o, b⟩
                  obtain ⟨g, cap, rfl, hat, -, -⟩ := OwnB.adr2 o (sha32 _)
                  exact ⟨g, cap, rfl, hide ⟨hat, OwnB.low (unhide hv) b⟩, two_at hx b⟩)
                have HAP : Hid (∀ wx g4 c4 g6 c6, ((wx.cell? ⟨B, O + j * 2, none⟩ = some (.string (ba nm)) ∧ wx.cell? ⟨B, O + j * 2 + 1, none⟩ = some (.slice xa sl xc)) ∧ Below ws.heap.size ws wx) → Hid (BAt wx (some ⟨g6, 0, none⟩) (sigL sec text) ∧ OwnB ws.heap.size wx (.slice (some ⟨g4, 0, none⟩) 4 c4) (be4 (idN nm sec))) → ∃ a' c' w', (Builtin.append_ #[23, 23] 23 #[.slice (some ⟨g4, 0, none⟩) 4 c4, .slice (some ⟨g6, 0, none⟩) 32 c6]).run Tryz.prog wx = .ok (.slice a' 36 c') w' ∧ Hid (BAt w' a' (be4 (idN nm sec) ++ sigL sec text)) ∧ ((w'.cell? ⟨B, O + j * 2, none⟩ = some (.string (ba nm)) ∧ w'.cell? ⟨B, O + j * 2 + 1, none⟩ = some (.slice xa sl xc)) ∧ Below ws.heap.size ws w')) := hide (fun wx g4 c4 g6 c6 hx hv => by
                  obtain ⟨hat, ho⟩ := unhide hv
                  obtain ⟨v', w', hr, o, gr⟩ := app_at (c := c6) hsg hat ho hx.2.size (by simp [be4])
                  have bb := gr.low hx.2.size (OwnB.base ho)
                  obtain ⟨a', c', rfl, hat', -, -⟩ := OwnB.at o
                  have hlen : (be4 (idN nm sec) ++ sigL sec text).length = 36 := by rw [List.length_append, hsg]; rfl
                  rw [hlen] at hr
                  refine ⟨a', c', w', hr, hide hat', ⟨⟨(bb.cell hbl).trans hx.1.1, (bb.cell hbm).trans hx.1.2⟩, hx.2.trans bb⟩⟩)
                have H33 : Hid (∀ wx a' c', ((wx.cell? ⟨B, O + j * 2, none⟩ = some (.string (ba nm)) ∧ wx.cell? ⟨B, O + j * 2 + 1, none⟩ = some (.slice xa sl xc)) ∧ Below ws.heap.size ws wx) → Hid (BAt wx a' (be4 (idN nm sec) ++ sigL sec text)) → Calls Tryz.prog 33 #[.slice a' 36 c'] wx fun e w' => e = .returned (.string (ba E)) ∧ ((w'.cell? ⟨B, O + j * 2, none⟩ = some (.string (ba nm)) ∧ w'.cell? ⟨B, O + j * 2 + 1, none⟩ = some (.slice xa sl xc)) ∧ Below ws.heap.size ws w')) := hide (fun wx a' c' hx hv => by
                  have k := refB64_any (c := c') (by rw [List.length_append, hsg]; rfl : (be4 (idN nm sec) ++ sigL sec text).length = 36) (by omega) (unhide hv)
                  have e9 : (⟨(b64 (be4 (idN nm sec) ++ sigL sec text)).toArray⟩ : ByteArray) = ba E := by rw [hEE]; rfl
                  rw [e9] at k
                  refine k.mono ?_
                  rintro e w' ⟨rfl, b⟩
                  exact ⟨rfl, two_at hx b⟩)
                have HBS := hide hbs
                clear hbs hjk hsj hbj hsn hkj hnl hx hsl hEE hsg hEl hP1 hP2 hP3 hP4 hP5 r0 r1 r2 r3 r4 en ee hbl hbm htl3 hN0
                go_wp2
                go_region_held3 (fun wx => (wx.cell? ⟨B, O + j * 2, none⟩ = some (.string (ba nm)) ∧ wx.cell? ⟨B, O + j * 2 + 1, none⟩ = some (.slice xa sl xc)) ∧ Below ws.heap.size ws wx)
                  (first | assumption | exact hS | exact hSd)
                  (first
                    | (go_at_call 116; first
                        | (revert hv61; intro hv61; refine (unhide H116b _ _ (by assumption) hv61).mono ?_; rintro e w9 ⟨g4, c4, rfl, hvB, hS9⟩)
                        | (refine (unhide H116 _ (by assumption)).mono ?_; rintro e w9 ⟨g4, c4, rfl, hv116, hS9⟩))
                    | (go_at_call 61; first
                        | (revert hv116; intro hv116; refine (unhide H61b _ _ _ (by assumption) hv116).mono ?_; rintro e w9 ⟨g6, c6, rfl, hvB, hS9⟩)
                        | (refine (unhide H61 _ (by assumption)).mono ?_; rintro e w9 ⟨g6, c6, rfl, hv61, hS9⟩))
                    | (go_at_call 33; revert hvA; intro hvA; refine (unhide H33 _ _ _ (by assumption) hvA).mono ?_; rintro e w9 ⟨rfl, hS9⟩)
                    | (revert hvB; intro hvB; obtain ⟨a9, c9, w9, happ9, hvA, hS9⟩ := unhide HAP _ _ _ _ c6 (by assumption) hvB; refine Lib.wp_append_run _ (.tmp 80) (.tmp 86) 23 23 (by rfl) (.slice (some ⟨g4, 0, none⟩) 4 c4) (.slice (some ⟨g6, 0, none⟩) 32 c6) (by kernel_rfl) (by kernel_rfl) _ w9 happ9 ?_))
                all_goals
                  have HB9 : Hid (Below w.heap.size w w9) := hide (low_trans (unhide HBS) hS9.2)
                  clear hS hSd hS9 g0 g1 hvB hvA
                  go_wp2
                  go_roundw
                  case rel => exact ⟨j + 1, hji, by push_cast; rfl, ⟨P5, rfl, HF⟩, unhide HB9⟩
                  case measure => simp [intOf]; omega
              · have hje : j = i := by omega
                subst hje
                have HZ : Hid (noteL text (ts.map kyOf) = N0) := hide (by
                  have h1 := unhide hN0
                  rw [List.take_of_length_le (by rw [unhide HKL]; exact Nat.le_refl _)] at h1
                  exact h1)
                have HBS := hide hbs
                clear hN0 hbs
                go_wp2
                go_ret2
                exact ⟨by rw [unhide HE, unhide HT, unhide HZ]; rfl, unhide HBS⟩
end Go.Proofs.YtkablmjkffdloaaGreatDoor
