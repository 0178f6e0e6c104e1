/-
  symMerge_func: the walk.
-/
import Derived.Test.YtcmafidnaojkiaaGreatDoorSortF
namespace Go.Proofs.YtcmafidnaojkiaaGreatDoor
open Go.RowKit
variable {α : Type} {g : Nat} {lb : Array Value} {sf : Nat} {sb : Array Value} {blk n : Nat} {lt : α → α → Bool} {R : List α → World → Prop}

/-- What symMerge_func promises. -/
def SymSays (g : Nat) (lb : Array Value) (sf : Nat) (sb : Array Value) (blk : Nat) (lt : α → α → Bool) (R : List α → World → Prop) (N : Nat) : Prop :=
  ∀ (p u v s : List α) (a m b : Nat) (w : World), u.length + v.length < N → 0 < u.length → 0 < v.length → p.length = a → a + u.length = m → m + v.length = b → Srt lt u → Srt lt v → R (p ++ (u ++ (v ++ s))) w →
    Calls Tryz.prog 143 #[duo g lb sf sb, .int .i64 (a : Int), .int .i64 (m : Int), .int .i64 (b : Int)] w fun e w' => e = .returned (.tuple #[]) ∧ ∃ x, x.Perm (u ++ v) ∧ Srt lt x ∧ R (p ++ (x ++ s)) w' ∧ Fr blk w w'

def M1 (R : List α → World → Prop) (blk : Nat) (w0 : World) (p u1 u2 v1 v2 s : List α) (wr : World) : Prop := R (p ++ (u1 ++ (v1 ++ (u2 ++ (v2 ++ s))))) wr ∧ Fr blk w0 wr
def M2 (lt : α → α → Bool) (R : List α → World → Prop) (blk : Nat) (w0 : World) (p u1 u2 v1 v2 s : List α) (wr : World) : Prop := ∃ x1, x1.Perm (u1 ++ v1) ∧ Srt lt x1 ∧ R (p ++ (x1 ++ (u2 ++ (v2 ++ s)))) wr ∧ Fr blk w0 wr
def M3 (lt : α → α → Bool) (R : List α → World → Prop) (blk : Nat) (w0 : World) (p u1 u2 v1 v2 s : List α) (wr : World) : Prop := ∃ x1 x2, x1.Perm (u1 ++ v1) ∧ Srt lt x1 ∧ x2.Perm (u2 ++ v2) ∧ Srt lt x2 ∧ R (p ++ (x1 ++ (x2 ++ s))) wr ∧ Fr blk w0 wr

theorem M1.turn (S : Sorts g lb sf sb blk n lt R) {w0 wr : World} {p u v u1 u2 v1 v2 s : List α} (P : Parts4 lt u v u1 u2 v1 v2) {st m e : Nat} (hst : p.length + u1.length = st) (hm : st + u2.length = m) (he : m + v1.length = e) (h1 : 0 < u2.length) (h2 : 0 < v1.length) (hR : R (p ++ (u ++ (v ++ s))) wr) (hF : Fr blk w0 wr) :
    Calls Tryz.prog 158 #[duo g lb sf sb, .int .i64 (st : Int), .int .i64 (m : Int), .int .i64 (e : Int)] wr fun e w' => e = .returned (.tuple #[]) ∧ M1 R blk w0 p u1 u2 v1 v2 s w' := by
  rw [← P.hu, ← P.hv] at hR
  have e1 : p ++ ((u1 ++ u2) ++ ((v1 ++ v2) ++ s)) = (p ++ u1) ++ (u2 ++ (v1 ++ (v2 ++ s))) := by simp
  rw [e1] at hR
  refine (rotate_any S (by simpa using hst) hm he h1 h2 hR).mono ?_
  rintro e' w' ⟨rfl, k1, k2⟩
  exact ⟨rfl, by simpa using k1, hF.trans k2⟩

theorem M1.still {w0 wr : World} {p u v u1 u2 v1 v2 s : List α} (P : Parts4 lt u v u1 u2 v1 v2) (h : u2 = [] ∨ v1 = []) (hR : R (p ++ (u ++ (v ++ s))) wr) (hF : Fr blk w0 wr) : M1 R blk w0 p u1 u2 v1 v2 s wr := by
  rw [← P.hu, ← P.hv] at hR
  rcases h with rfl | rfl
  · exact ⟨by simpa using hR, hF⟩
  · exact ⟨by simpa using hR, hF⟩

theorem M2.call {N : Nat} (IH : SymSays g lb sf sb blk lt R N) {w0 wr : World} {p u v u1 u2 v1 v2 s : List α} (P : Parts4 lt u v u1 u2 v1 v2) {a st mid : Nat} (ha : p.length = a) (hst : a + u1.length = st) (hmid : st + v1.length = mid) (h1 : 0 < u1.length) (h2 : 0 < v1.length) (hN : u1.length + v1.length < N) (h : M1 R blk w0 p u1 u2 v1 v2 s wr) :
    Calls Tryz.prog 143 #[duo g lb sf sb, .int .i64 (a : Int), .int .i64 (st : Int), .int .i64 (mid : Int)] wr fun e w' => e = .returned (.tuple #[]) ∧ M2 lt R blk w0 p u1 u2 v1 v2 s w' := by
  refine (IH p u1 v1 (u2 ++ (v2 ++ s)) a st mid wr hN h1 h2 ha hst hmid P.s1 P.t1 h.1).mono ?_
  rintro e w' ⟨rfl, x, k1, k2, k3, k4⟩
  exact ⟨rfl, x, k1, k2, k3, h.2.trans k4⟩

theorem M2.still {w0 wr : World} {p u v u1 u2 v1 v2 s : List α} (P : Parts4 lt u v u1 u2 v1 v2) (h0 : u1 = [] ∨ v1 = []) (h : M1 R blk w0 p u1 u2 v1 v2 s wr) : M2 lt R blk w0 p u1 u2 v1 v2 s wr := by
  refine ⟨u1 ++ v1, List.Perm.refl _, ?_, by simpa using h.1, h.2⟩
  rcases h0 with rfl | rfl
  · simpa using P.t1
  · simpa using P.s1

theorem M3.call {N : Nat} (IH : SymSays g lb sf sb blk lt R N) {w0 wr : World} {p u v u1 u2 v1 v2 s : List α} (P : Parts4 lt u v u1 u2 v1 v2) {mid e b : Nat} (hmid : p.length + u1.length + v1.length = mid) (he : mid + u2.length = e) (hb : e + v2.length = b) (h1 : 0 < u2.length) (h2 : 0 < v2.length) (hN : u2.length + v2.length < N) (h : M2 lt R blk w0 p u1 u2 v1 v2 s wr) :
    Calls Tryz.prog 143 #[duo g lb sf sb, .int .i64 (mid : Int), .int .i64 (e : Int), .int .i64 (b : Int)] wr fun e w' => e = .returned (.tuple #[]) ∧ M3 lt R blk w0 p u1 u2 v1 v2 s w' := by
  obtain ⟨x1, q1, q2, q3, q4⟩ := h
  have hl := q1.length_eq
  simp only [List.length_append] at hl
  have e1 : p ++ (x1 ++ (u2 ++ (v2 ++ s))) = (p ++ x1) ++ (u2 ++ (v2 ++ s)) := by simp
  rw [e1] at q3
  refine (IH (p ++ x1) u2 v2 s mid e b wr hN h1 h2 (by simp; omega) he hb P.s2 P.t2 q3).mono ?_
  rintro e' w' ⟨rfl, x, k1, k2, k3, k4⟩
  exact ⟨rfl, x1, x, q1, q2, k1, k2, by simpa using k3, q4.trans k4⟩

theorem M3.still {w0 wr : World} {p u v u1 u2 v1 v2 s : List α} (P : Parts4 lt u v u1 u2 v1 v2) (h0 : u2 = [] ∨ v2 = []) (h : M2 lt R blk w0 p u1 u2 v1 v2 s wr) : M3 lt R blk w0 p u1 u2 v1 v2 s wr := by
  obtain ⟨x1, q1, q2, q3, q4⟩ := h
  refine ⟨x1, u2 ++ v2, q1, q2, List.Perm.refl _, ?_, by simpa using q3, q4⟩
  rcases h0 with rfl | rfl
  · simpa using P.t2
  · simpa using P.s2

theorem M3.done {w0 wr : World} {p u v u1 u2 v1 v2 s : List α} (P : Parts4 lt u v u1 u2 v1 v2) (h : M3 lt R blk w0 p u1 u2 v1 v2 s wr) : ∃ x, x.Perm (u ++ v) ∧ Srt lt x ∧ R (p ++ (x ++ s)) wr ∧ Fr blk w0 wr := by
  obtain ⟨x1, x2, p1, s1, p2, s2, hR, hF⟩ := h
  obtain ⟨h1, h2⟩ := P.whole p1 p2 s1 s2
  exact ⟨x1 ++ x2, h1, h2, by simpa using hR, hF⟩

theorem M2.fr {w0 wr : World} {p u1 u2 v1 v2 s : List α} (h : M2 lt R blk w0 p u1 u2 v1 v2 s wr) : Fr blk w0 wr := by obtain ⟨_, _, _, _, h⟩ := h; exact h

theorem nil_of {l : List α} (h : ¬ 0 < l.length) : l = [] := List.length_eq_zero_iff.1 (by omega)

set_option maxHeartbeats 8000000 in
set_option maxRecDepth 100000 in
theorem sym_more_a (S : Sorts g lb sf sb blk n lt R) (O : Strict lt) {N : Nat} (IH : SymSays g lb sf sb blk lt R N) {p u v s : List α} {a m b mid lo hi : Nat} (hN : u.length + v.length ≤ N) (ha : p.length = a) (hm : a + u.length = m) (hb : m + v.length = b) (h1 : 1 < u.length) (h2 : 1 < v.length) (su : Srt lt u) (sv : Srt lt v)
    (hmid : (a + b) / 2 = mid) (hq : mid < m) (hq1 : lo = mid + m - b) (hq2 : hi = mid) {w : World} (hR : R (p ++ (u ++ (v ++ s))) w) :
    Calls Tryz.prog 143 #[duo g lb sf sb, .int .i64 (a : Int), .int .i64 (m : Int), .int .i64 (b : Int)] w fun e w' => e = .returned (.tuple #[]) ∧ ∃ x, x.Perm (u ++ v) ∧ Srt lt x ∧ R (p ++ (x ++ s)) w' ∧ Fr blk w w' := by
  have hbl := S.inside _ _ hR
  have hsm := S.small
  have hln := S.len _ _ hR
  simp only [List.length_append] at hln
  have u104 := Tryz.underlying104
  have eg := S.enter
  have hbn : b ≤ n := by omega
  have hlo : a ≤ lo := by omega
  have hhi : hi ≤ m := by omega
  have hhm : hi ≤ mid := by omega
  have hlb : mid + m ≤ b + lo := by omega
  have hlohi : lo ≤ hi := by omega
  have el : lo = a ∨ mid + m = b + lo := by omega
  have eh : hi = m ∨ hi = mid := by omega
  have HI : Hid (SymS lt R blk a mid lo hi (w.alloc (duoBox g lb sf sb)) p u v s lo hi (w.alloc (duoBox g lb sf sb))) :=
    ⟨Nat.le_refl _, hlohi, Nat.le_refl _, fun x y hq => absurd hq (by omega), fun x y hq => absurd hq (by omega), S.alloc _ _ _ hR, Fr.refl _ _⟩
  have HPT : Hid (∀ st wr, SymS lt R blk a mid lo hi (w.alloc (duoBox g lb sf sb)) p u v s st st wr → Parts4 lt u v (u.take (st - a)) (u.drop (st - a)) (v.take (mid - st)) (v.drop (mid - st))) :=
    fun st wr h => h.parts O hm hb hlo hhi hhm hlb el eh su sv
  have HAsk : Hid (∀ st r c wr, SymS lt R blk a mid lo hi (w.alloc (duoBox g lb sf sb)) p u v s st r wr → st ≤ c → c < r → ∃ bv, Calls Tryz.prog g (#[.int .i64 ((mid : Int) + (m : Int) - 1 - (c : Int)), .int .i64 (c : Int)] ++ lb) wr fun e w' => e = .returned (.bool bv) ∧ SymA lt R blk a mid lo hi (w.alloc (duoBox g lb sf sb)) p u v s st r c bv w') :=
    fun st r c wr h k1 k2 => h.ask S ha hm hb hlo hhi hhm hlb k1 k2
  have hma : ((m : Int) - (a : Int) == 1) = false := by simp; omega
  have hmb : ((b : Int) - (m : Int) == 1) = false := by simp; omega
  have ham : a < m := by omega
  have hmb2 : m < b := by omega
  have hmid2 : ((a : Int) + (b : Int)) / 2 = (mid : Int) := by omega
  have hamid : a < mid := by omega
  have hmidb : mid < b := by omega
  have HS := hide S
  have HIH := hide IH
  have HNN := hide hN
  have HP := hide ha
  have HU := hide hm
  have HV := hide hb
  have hq3 : b ≤ mid + m := by omega
  have hq4 : lo + b = mid + m := by omega
  clear S IH hR ha hm hb hln h1 h2 hN hq1 el eh hmid su sv
  go_enter Tryz.func143, Tryz.ntmps143
  go_wp2
  go_loopw [18, 19, 21] (fun v8 v9 _ wr => ∃ st r : Nat, v8 = .int .i64 st ∧ v9 = .int .i64 r ∧ SymS lt R blk a mid lo hi (w.alloc (duoBox g lb sf sb)) p u v s st r wr) (fun v8 v9 _ _ => (intOf v9).toNat - (intOf v8).toNat)
  case atStart => exact ⟨lo, hi, int_eq (by omega), int_eq (by omega), unhide HI⟩
  case round =>
    obtain ⟨st, r, rfl, rfl, hI⟩ := hrel
    have i1 := hI.1
    have i2 := hI.2.1
    have i3 := hI.2.2.1
    have hf := hI.2.2.2.2.2.2
    have c0 := (box_at hbl hf).1
    have c1 := (box_at hbl hf).2
    clear hf HI
    by_cases hlt : st < r
    · obtain ⟨h, hh⟩ : ∃ h : Nat, (st + r) / 2 = h := ⟨_, rfl⟩
      have hh2 : ((st : Int) + (r : Int)) / 2 = (h : Int) := by omega
      have q1 : st ≤ h := by omega
      have q2 : h < r := by omega
      obtain ⟨bv, hc⟩ := (unhide HAsk) st r h wr hI q1 q2
      have HC := hide hc
      clear hc hI hh
      cases bv with
      | false =>
        go_wp2_with (go_at_fn g; fail)
        refine (unhide HC).mono ?_
        rintro e w1 ⟨rfl, hA⟩
        have HT := hide (hA.2.1 rfl)
        clear hA HC
        go_wp2
        go_roundw
        case rel => exact ⟨h + 1, r, int_eq (by omega), rfl, unhide HT⟩
        case measure => simp [intOf]; omega
      | true =>
        go_wp2_with (go_at_fn g; fail)
        refine (unhide HC).mono ?_
        rintro e w1 ⟨rfl, hA⟩
        have HT := hide (hA.2.2 rfl)
        clear hA HC
        go_wp2
        go_roundw
        case rel => exact ⟨st, h, rfl, rfl, unhide HT⟩
        case measure => simp [intOf]; omega
    · have hij : r = st := by omega
      subst hij
      have P := (unhide HPT) r wr hI
      have hR := hI.2.2.2.2.2.1
      have hF := hI.2.2.2.2.2.2
      obtain ⟨e0, he0⟩ : ∃ e0, mid + m - r = e0 := ⟨_, rfl⟩
      have he : (mid : Int) + (m : Int) - (r : Int) = (e0 : Int) := by omega
      have l1 : a + (u.take (r - a)).length = r := by have := unhide HU; simp; omega
      have l2 : r + (u.drop (r - a)).length = m := by have := unhide HU; simp; omega
      have l3 : r + (v.take (mid - r)).length = mid := by have := unhide HV; simp; omega
      have l4 : e0 + (v.drop (mid - r)).length = b := by have := unhide HV; simp; omega
      obtain ⟨u1, hu1⟩ : ∃ u1, u.take (r - a) = u1 := ⟨_, rfl⟩
      obtain ⟨u2, hu2⟩ : ∃ u2, u.drop (r - a) = u2 := ⟨_, rfl⟩
      obtain ⟨v1, hv1⟩ : ∃ v1, v.take (mid - r) = v1 := ⟨_, rfl⟩
      obtain ⟨v2, hv2⟩ : ∃ v2, v.drop (mid - r) = v2 := ⟨_, rfl⟩
      rw [hu1] at P l1
      rw [hu2] at P l2
      rw [hv1] at P l3
      rw [hv2] at P l4
      have he1 : e0 ≤ b := by omega
      have he2 : m ≤ e0 := by omega
      have he3 : mid ≤ e0 := by omega
      have hNl : u1.length + v1.length < N := by have := unhide HNN; have := unhide HU; have := unhide HV; omega
      have hNr : u2.length + v2.length < N := by have := unhide HNN; have := unhide HU; have := unhide HV; omega
      have hpa := unhide HP
      have f1 : p.length + u1.length = r := by omega
      have f2 : m + v1.length = e0 := by omega
      have f3 : p.length + u1.length + v1.length = mid := by omega
      have f4 : mid + u2.length = e0 := by omega
      have HPP := hide P
      have HR := hide hR
      have HF := hide hF
      have G0 := hide hpa
      have G1 := hide l1
      have G2 := hide l2
      have G3 := hide l3
      have G4 := hide l4
      have K1 := hide f1
      have K2 := hide f2
      have K3 := hide f3
      have K4 := hide f4
      have NL := hide hNl
      have NR := hide hNr
      have z1 : ¬ a < r → u1 = [] := fun h => nil_of (by omega)
      have z2 : ¬ r < mid → v1 = [] := fun h => nil_of (by omega)
      have z3 : ¬ r < m → u2 = [] := fun h => nil_of (by omega)
      have z4 : ¬ e0 < b → v2 = [] := fun h => nil_of (by omega)
      have p1 : a < r → 0 < u1.length := fun h => by omega
      have p2 : r < mid → 0 < v1.length := fun h => by omega
      have p3 : r < m → 0 < u2.length := fun h => by omega
      have p4 : e0 < b → 0 < v2.length := fun h => by omega
      have Z1 := hide z1
      have Z2 := hide z2
      have Z3 := hide z3
      have Z4 := hide z4
      have P1 := hide p1
      have P2 := hide p2
      have P3 := hide p3
      have P4 := hide p4
      clear P hR hF hpa l1 l2 l3 l4 f1 f2 f3 f4 hNl hNr z1 z2 z3 z4 p1 p2 p3 p4 hI hu1 hu2 hv1 hv2 he0
      by_cases b1 : a < r
      · by_cases b2 : r < mid
        · by_cases b3 : r < m
          · by_cases b4 : e0 < b
            · have m1 : m < e0 := by have := unhide K2; have := unhide G3; omega
              have m2 : mid < e0 := by have := unhide K4; have := unhide G2; omega
              go_wp2_with (go_at_call 158; fail)
              refine (M1.turn (unhide HS) (unhide HPP) (unhide K1) (unhide G2) (unhide K2) (unhide P3 b3) (unhide P2 b2) (unhide HR) (unhide HF)).mono ?_
              rintro e w1 ⟨rfl, hM⟩
              have d0 := (box_at hbl hM.2).1
              have d1 := (box_at hbl hM.2).2
              have HM1 := hide hM
              clear hM c0 c1
              go_wp2_with (go_at_call 143; fail)
              refine (M2.call (unhide HIH) (unhide HPP) (unhide G0) (unhide G1) (unhide G3) (unhide P1 b1) (unhide P2 b2) (unhide NL) (unhide HM1)).mono ?_
              rintro e w2 ⟨rfl, hM⟩
              have x0 := (box_at hbl hM.fr).1
              have x1 := (box_at hbl hM.fr).2
              have HM2 := hide hM
              clear hM
              go_wp2_with (go_at_call 143; fail)
              refine (M3.call (unhide HIH) (unhide HPP) (unhide K3) (unhide K4) (unhide G4) (unhide P3 b3) (unhide P4 b4) (unhide NR) (unhide HM2)).mono ?_
              rintro e w3 ⟨rfl, hM⟩
              have HM3 := hide hM
              clear hM
              go_wp2
              go_end0
              obtain ⟨x, k1, k2, k3, k4⟩ := M3.done (unhide HPP) (unhide HM3)
              exact ⟨rfl, x, k1, k2, k3, (Fr.alloc _ _ _).trans k4⟩
            · have m1 : m < e0 := by have := unhide K2; have := unhide G3; omega
              have m2 : mid < e0 := by have := unhide K4; have := unhide G2; omega
              go_wp2_with (go_at_call 158; fail)
              refine (M1.turn (unhide HS) (unhide HPP) (unhide K1) (unhide G2) (unhide K2) (unhide P3 b3) (unhide P2 b2) (unhide HR) (unhide HF)).mono ?_
              rintro e w1 ⟨rfl, hM⟩
              have d0 := (box_at hbl hM.2).1
              have d1 := (box_at hbl hM.2).2
              have HM1 := hide hM
              clear hM c0 c1
              go_wp2_with (go_at_call 143; fail)
              refine (M2.call (unhide HIH) (unhide HPP) (unhide G0) (unhide G1) (unhide G3) (unhide P1 b1) (unhide P2 b2) (unhide NL) (unhide HM1)).mono ?_
              rintro e w2 ⟨rfl, hM⟩
              have x0 := (box_at hbl hM.fr).1
              have x1 := (box_at hbl hM.fr).2
              have HM2 := hide hM
              clear hM
              have HM3 := hide (M3.still (unhide HPP) (Or.inr (unhide Z4 b4)) (unhide HM2))
              go_wp2
              go_end0
              obtain ⟨x, k1, k2, k3, k4⟩ := M3.done (unhide HPP) (unhide HM3)
              exact ⟨rfl, x, k1, k2, k3, (Fr.alloc _ _ _).trans k4⟩
          · by_cases b4 : e0 < b
            · have m1 : m < e0 := by have := unhide K2; have := unhide G3; omega
              have m2 : ¬ mid < e0 := by have := unhide K4; have := unhide G2; omega
              have HM1 := hide (M1.still (unhide HPP) (Or.inl (unhide Z3 b3)) (unhide HR) (unhide HF))
              go_wp2_with (go_at_call 143; fail)
              refine (M2.call (unhide HIH) (unhide HPP) (unhide G0) (unhide G1) (unhide G3) (unhide P1 b1) (unhide P2 b2) (unhide NL) (unhide HM1)).mono ?_
              rintro e w2 ⟨rfl, hM⟩
              have x0 := (box_at hbl hM.fr).1
              have x1 := (box_at hbl hM.fr).2
              have HM2 := hide hM
              clear hM
              have HM3 := hide (M3.still (unhide HPP) (Or.inl (unhide Z3 b3)) (unhide HM2))
              go_wp2
              go_end0
              obtain ⟨x, k1, k2, k3, k4⟩ := M3.done (unhide HPP) (unhide HM3)
              exact ⟨rfl, x, k1, k2, k3, (Fr.alloc _ _ _).trans k4⟩
            · have m1 : m < e0 := by have := unhide K2; have := unhide G3; omega
              have m2 : ¬ mid < e0 := by have := unhide K4; have := unhide G2; omega
              have HM1 := hide (M1.still (unhide HPP) (Or.inl (unhide Z3 b3)) (unhide HR) (unhide HF))
              go_wp2_with (go_at_call 143; fail)
              refine (M2.call (unhide HIH) (unhide HPP) (unhide G0) (unhide G1) (unhide G3) (unhide P1 b1) (unhide P2 b2) (unhide NL) (unhide HM1)).mono ?_
              rintro e w2 ⟨rfl, hM⟩
              have x0 := (box_at hbl hM.fr).1
              have x1 := (box_at hbl hM.fr).2
              have HM2 := hide hM
              clear hM
              have HM3 := hide (M3.still (unhide HPP) (Or.inl (unhide Z3 b3)) (unhide HM2))
              go_wp2
              go_end0
              obtain ⟨x, k1, k2, k3, k4⟩ := M3.done (unhide HPP) (unhide HM3)
              exact ⟨rfl, x, k1, k2, k3, (Fr.alloc _ _ _).trans k4⟩
        · by_cases b3 : r < m
          · by_cases b4 : e0 < b
            · have m1 : ¬ m < e0 := by have := unhide K2; have := unhide G3; omega
              have m2 : mid < e0 := by have := unhide K4; have := unhide G2; omega
              have HM1 := hide (M1.still (unhide HPP) (Or.inr (unhide Z2 b2)) (unhide HR) (unhide HF))
              have HM2 := hide (M2.still (unhide HPP) (Or.inr (unhide Z2 b2)) (unhide HM1))
              go_wp2_with (go_at_call 143; fail)
              refine (M3.call (unhide HIH) (unhide HPP) (unhide K3) (unhide K4) (unhide G4) (unhide P3 b3) (unhide P4 b4) (unhide NR) (unhide HM2)).mono ?_
              rintro e w3 ⟨rfl, hM⟩
              have HM3 := hide hM
              clear hM
              go_wp2
              go_end0
              obtain ⟨x, k1, k2, k3, k4⟩ := M3.done (unhide HPP) (unhide HM3)
              exact ⟨rfl, x, k1, k2, k3, (Fr.alloc _ _ _).trans k4⟩
            · exfalso
              have := unhide G1; have := unhide G2; have := unhide G3; have := unhide G4; have := unhide K2
              omega
          · by_cases b4 : e0 < b
            · have m1 : ¬ m < e0 := by have := unhide K2; have := unhide G3; omega
              have m2 : ¬ mid < e0 := by have := unhide K4; have := unhide G2; omega
              have HM1 := hide (M1.still (unhide HPP) (Or.inl (unhide Z3 b3)) (unhide HR) (unhide HF))
              have HM2 := hide (M2.still (unhide HPP) (Or.inr (unhide Z2 b2)) (unhide HM1))
              have HM3 := hide (M3.still (unhide HPP) (Or.inl (unhide Z3 b3)) (unhide HM2))
              go_wp2
              go_end0
              obtain ⟨x, k1, k2, k3, k4⟩ := M3.done (unhide HPP) (unhide HM3)
              exact ⟨rfl, x, k1, k2, k3, (Fr.alloc _ _ _).trans k4⟩
            · exfalso
              have := unhide G1; have := unhide G2; have := unhide G3; have := unhide G4; have := unhide K2
              omega
      · by_cases b2 : r < mid
        · by_cases b3 : r < m
          · by_cases b4 : e0 < b
            · have m1 : m < e0 := by have := unhide K2; have := unhide G3; omega
              have m2 : mid < e0 := by have := unhide K4; have := unhide G2; omega
              go_wp2_with (go_at_call 158; fail)
              refine (M1.turn (unhide HS) (unhide HPP) (unhide K1) (unhide G2) (unhide K2) (unhide P3 b3) (unhide P2 b2) (unhide HR) (unhide HF)).mono ?_
              rintro e w1 ⟨rfl, hM⟩
              have d0 := (box_at hbl hM.2).1
              have d1 := (box_at hbl hM.2).2
              have HM1 := hide hM
              clear hM c0 c1
              have HM2 := hide (M2.still (unhide HPP) (Or.inl (unhide Z1 b1)) (unhide HM1))
              go_wp2_with (go_at_call 143; fail)
              refine (M3.call (unhide HIH) (unhide HPP) (unhide K3) (unhide K4) (unhide G4) (unhide P3 b3) (unhide P4 b4) (unhide NR) (unhide HM2)).mono ?_
              rintro e w3 ⟨rfl, hM⟩
              have HM3 := hide hM
              clear hM
              go_wp2
              go_end0
              obtain ⟨x, k1, k2, k3, k4⟩ := M3.done (unhide HPP) (unhide HM3)
              exact ⟨rfl, x, k1, k2, k3, (Fr.alloc _ _ _).trans k4⟩
            · have m1 : m < e0 := by have := unhide K2; have := unhide G3; omega
              have m2 : mid < e0 := by have := unhide K4; have := unhide G2; omega
              go_wp2_with (go_at_call 158; fail)
              refine (M1.turn (unhide HS) (unhide HPP) (unhide K1) (unhide G2) (unhide K2) (unhide P3 b3) (unhide P2 b2) (unhide HR) (unhide HF)).mono ?_
              rintro e w1 ⟨rfl, hM⟩
              have d0 := (box_at hbl hM.2).1
              have d1 := (box_at hbl hM.2).2
              have HM1 := hide hM
              clear hM c0 c1
              have HM2 := hide (M2.still (unhide HPP) (Or.inl (unhide Z1 b1)) (unhide HM1))
              have HM3 := hide (M3.still (unhide HPP) (Or.inr (unhide Z4 b4)) (unhide HM2))
              go_wp2
              go_end0
              obtain ⟨x, k1, k2, k3, k4⟩ := M3.done (unhide HPP) (unhide HM3)
              exact ⟨rfl, x, k1, k2, k3, (Fr.alloc _ _ _).trans k4⟩
          · by_cases b4 : e0 < b
            · exfalso
              have := unhide G1; have := unhide G2; have := unhide G3; have := unhide G4; have := unhide K2
              omega
            · exfalso
              have := unhide G1; have := unhide G2; have := unhide G3; have := unhide G4; have := unhide K2
              omega
        · by_cases b3 : r < m
          · by_cases b4 : e0 < b
            · have m1 : ¬ m < e0 := by have := unhide K2; have := unhide G3; omega
              have m2 : mid < e0 := by have := unhide K4; have := unhide G2; omega
              have HM1 := hide (M1.still (unhide HPP) (Or.inr (unhide Z2 b2)) (unhide HR) (unhide HF))
              have HM2 := hide (M2.still (unhide HPP) (Or.inl (unhide Z1 b1)) (unhide HM1))
              go_wp2_with (go_at_call 143; fail)
              refine (M3.call (unhide HIH) (unhide HPP) (unhide K3) (unhide K4) (unhide G4) (unhide P3 b3) (unhide P4 b4) (unhide NR) (unhide HM2)).mono ?_
              rintro e w3 ⟨rfl, hM⟩
              have HM3 := hide hM
              clear hM
              go_wp2
              go_end0
              obtain ⟨x, k1, k2, k3, k4⟩ := M3.done (unhide HPP) (unhide HM3)
              exact ⟨rfl, x, k1, k2, k3, (Fr.alloc _ _ _).trans k4⟩
            · exfalso
              have := unhide G1; have := unhide G2; have := unhide G3; have := unhide G4; have := unhide K2
              omega
          · by_cases b4 : e0 < b
            · exfalso
              have := unhide G1; have := unhide G2; have := unhide G3; have := unhide G4; have := unhide K2
              omega
            · exfalso
              have := unhide G1; have := unhide G2; have := unhide G3; have := unhide G4; have := unhide K2
              omega

end Go.Proofs.YtcmafidnaojkiaaGreatDoor
