/-
  The reference's Sort: it answers the rising permutation.
-/
import Derived.Test.YtcmafidnaojkiaaGreatDoorRefO
import Derived.Test.YtcmafidnaojkiaaGreatDoorSortR
import Derived.Laws.AppendOwnNone
namespace Go.Proofs.YtcmafidnaojkiaaGreatDoor
open Go.RowKit

theorem wrapC {k : Nat} (h : k ≤ 60) : IntKind.i64.wrap (k : Int) = (k : Int) := by rw [IntKind.wrap_i64]; omega

theorem own_new (w : World) : (w.alloc (.cells #[] 9)).ownsRow w.heap.size 9 1 (.slice (some ⟨w.heap.size, 0, none⟩) 0 0) 0 [] :=
  ⟨rfl, Or.inr ⟨w.heap.size, 0, #[], rfl, Nat.le_refl _, heap_new w _, Nat.le_refl _, Nat.zero_le _, rfl, rfl⟩⟩

theorem own_count {w : World} {base n n' : Nat} {v : Value} {xs ys : List Value} (h : w.ownsRow base 9 1 v n xs) (e : n = n') (e2 : xs = ys) : w.ownsRow base 9 1 v n' ys := by rw [← e, ← e2]; exact h

theorem strs_one (p : List Str) : ∀ u ∈ strsV p, u.oneCell' = true := by
  intro u hu
  obtain ⟨x, _, rfl⟩ := List.mem_map.1 hu
  rfl

theorem strs_at {p : List Str} {j : Nat} {u : Value} (h : (strsV p)[j]? = some u) : ∃ hj : j < p.length, u = .string (ba p[j]) := by
  have hj : j < p.length := by
    have := (List.getElem?_eq_some_iff.1 h).1
    simpa [strsV] using this
  refine ⟨hj, ?_⟩
  have : (strsV p)[j]? = some (.string (ba p[j])) := by simp [strsV, hj]
  rw [this] at h
  exact (Option.some.inj h).symm

theorem refcmp_held {W wq : World} {g q B o : Nat} {y t : Str} {r : Int} (hgW : g < W.heap.size) (hBW : B < W.heap.size) (hr : cmpV y t = r)
    (hS : wq.cell? ⟨g, q, none⟩ = some (.string (ba y)) ∧ wq.cell? ⟨B, o, none⟩ = some (.string (ba t)) ∧ Below W.heap.size W wq) :
    Calls Tryz.prog 23 #[.string (ba y), .string (ba t)] wq fun e w' => e = .returned (.int .i64 r) ∧ w'.cell? ⟨g, q, none⟩ = some (.string (ba y)) ∧ w'.cell? ⟨B, o, none⟩ = some (.string (ba t)) ∧ Below W.heap.size W w' := by
  obtain ⟨s1, s2, s3⟩ := hS
  refine (refCmp_is hr wq).mono ?_
  rintro e w' ⟨rfl, b⟩
  exact ⟨rfl, (b.cell (p := ⟨g, q, none⟩) (Nat.lt_of_lt_of_le hgW s3.size)).trans s1, (b.cell (p := ⟨B, o, none⟩) (Nat.lt_of_lt_of_le hBW s3.size)).trans s2, below_trans s3 b⟩

theorem refcmp_drew {W wq : World} {g q B o : Nat} {y t : Str} (hS : wq.cell? ⟨g, q, none⟩ = some (.string (ba y)) ∧ wq.cell? ⟨B, o, none⟩ = some (.string (ba t)) ∧ Below W.heap.size W wq) :
    wq.drew.cell? ⟨g, q, none⟩ = some (.string (ba y)) ∧ wq.drew.cell? ⟨B, o, none⟩ = some (.string (ba t)) ∧ Below W.heap.size W wq.drew := ⟨hS.1, hS.2.1, hS.2.2.drew⟩
theorem refcmp_end {W wq : World} {g q B o : Nat} {y t : Str} (hS : wq.cell? ⟨g, q, none⟩ = some (.string (ba y)) ∧ wq.cell? ⟨B, o, none⟩ = some (.string (ba t)) ∧ Below W.heap.size W wq) : Below W.heap.size W wq := hS.2.2

theorem ins_perm {p r ps : List Str} {t : Str} {k : Nat} (hk : k < ps.length) (ht : ps[k] = t) (h : (p ++ r).Perm (ps.take k)) : (p ++ t :: r).Perm (ps.take (k + 1)) := by
  rw [List.take_add_one, List.getElem?_eq_getElem hk, ht]
  exact List.perm_middle.trans ((h.cons t).trans (List.perm_append_singleton t _).symm)

theorem lt_turn {q t : Str} {r : Int} (h : cmpV q t = r) (h0 : 0 < r) : ltV t q = true := by
  have := orders_v.turn q t
  show decide (cmpV t q < 0) = true
  simp; omega
theorem lt_turn' {q t : Str} {r : Int} (h : cmpV q t = r) (h0 : ¬ 0 < r) : ltV t q = false := by
  have := orders_v.turn q t
  show decide (cmpV t q < 0) = false
  simp; omega

/-- What an insertion leaves. -/
def InsV (ps : List Str) (w : World) (k : Nat) (v : Value) (wr : World) : Prop :=
  ∃ x : List Str, x.length = k ∧ wr.ownsRow w.heap.size 9 1 v x.length (strsV x) ∧ x.Perm (ps.take k) ∧ Srt ltV x ∧ Below w.heap.size w wr

theorem insV_next {ps p r : List Str} {t : Str} {w wr W w3 : World} {k : Nat} {v : Value} (hk : k < ps.length) (ht : ps[k] = t) (hlen : (p ++ r).length = k) (hp : (p ++ r).Perm (ps.take k)) (hs : Srt ltV (p ++ r)) (hr : ∀ q ∈ r, ltV t q = true) (hl : p = [] ∨ ∃ l' q, p = l' ++ [q] ∧ ltV t q = false)
    (b0 : Below w.heap.size w wr) (b1 : Below wr.heap.size wr W) (b2 : Below W.heap.size W w3) {n : Nat} (hn : n = (p ++ t :: r).length) (ho : w3.ownsRow W.heap.size 9 1 v n (strsV (p ++ t :: r))) : InsV ps w (k + 1) v w3 := by
  refine ⟨p ++ t :: r, by simp at hlen ⊢; omega, ?_, ins_perm hk ht hp, ins_fit strictV hs hr hl, below_trans b0 (below_trans b1 b2)⟩
  rw [← hn]
  refine ⟨ho.1, ?_⟩
  rcases ho.2 with h | ⟨g, cap, cur, e, hb, rest⟩
  · exact Or.inl h
  · exact Or.inr ⟨g, cap, cur, e, Nat.le_trans (below_trans b0 b1).size hb, rest⟩

set_option maxHeartbeats 4000000 in
set_option maxRecDepth 100000 in
theorem refSort_T {ps : List Str} {B off c : Nat} {w : World} (hn : ps.length ≤ 60) (hB : B < w.heap.size) (ht : ∀ k (hk : k < ps.length), w.cell? ⟨B, off + k, none⟩ = some (.string (ba ps[k]))) :
    Calls Tryz.prog 22 #[.slice (some ⟨B, off, none⟩) ps.length c] w fun e w' => ∃ v, e = .returned v ∧ InsV ps w ps.length v w' := by
  obtain ⟨i0, hi, hz0, hz1, hz2⟩ := info_parts info9
  obtain ⟨n, hnn⟩ : ∃ n, ps.length = n := ⟨_, rfl⟩
  have HT := hide ht
  rw [hnn] at hn ⊢
  have HN := hide hnn
  clear ht hnn
  go_enter Tryz.func22, Tryz.ntmps22
  go_wp2
  go_loopw [3, 4, 5, 6] (fun v3 v4 _ _ wr => ∃ k : Nat, k ≤ n ∧ v4 = .int .i64 k ∧ InsV ps w k v3 wr) (fun _ v4 _ _ _ => n - (intOf v4).toNat)
  case atStart => exact ⟨0, Nat.zero_le _, rfl, [], rfl, ⟨rfl, Or.inl ⟨rfl, rfl⟩⟩, by simp, List.Pairwise.nil, Below.refl _ _⟩
  case round =>
    obtain ⟨k, hkn, rfl, hins⟩ := hrel
    by_cases hlt : k < n
    · obtain ⟨x, hxl, hown, hperm, hsrt, hb0⟩ := hins
      have hkp : k < ps.length := by rw [unhide HN]; exact hlt
      obtain ⟨t, ht0⟩ : ∃ t, ps[k] = t := ⟨_, rfl⟩
      have HT0 := hide ht0
      have hBr : B < wr.heap.size := Nat.lt_of_lt_of_le hB hb0.size
      have HCT : Hid (wr.cell? ⟨B, off + k, none⟩ = some (.string (ba t))) := by
        have := (unhide HT) k hkp
        rw [ht0] at this
        exact (hb0.cell (p := ⟨B, off + k, none⟩) hB).trans this
      clear ht0
      have HB0 := hide hb0
      clear hb0
      rcases hown.2 with ⟨rfl, h0⟩ | ⟨g, cap, cur, rfl, hg, hblk, hcap, hcm, hcs, hcur⟩
      · have hx0 : x = [] := List.length_eq_zero_iff.1 h0
        subst hx0
        obtain rfl : k = 0 := by simpa using hxl.symm
        have ct0 : wr.cell? ⟨B, off + 0, none⟩ = some (.string (ba t)) := unhide HCT
        rw [Nat.add_zero] at ct0
        have ct1 : (wr.alloc (.cells #[] 9)).cell? ⟨B, off, none⟩ = some (.string (ba t)) := (((Below.refl wr.heap.size wr).alloc (Nat.le_refl _) _).cell (p := ⟨B, off, none⟩) hBr).trans ct0
        have HPE := hide hperm
        have HSR := hide hsrt
        clear hxl hown h0 hperm hsrt hkn
        go_wp2
        refine wp_loop_rounds 1 ?_
        rw [rounds_succ]
        go_wp2
        go_quiet (fail)
        obtain ⟨W, hW⟩ : ∃ W, wr.drewN nq = W := ⟨_, rfl⟩
        have b1 : Below wr.heap.size wr W := by rw [← hW]; exact below_drewN (Below.refl _ _) _
        rw [hW]
        have hBI : B < W.heap.size := Nat.lt_of_lt_of_le hBr b1.size
        have ctI : W.cell? ⟨B, off, none⟩ = some (.string (ba t)) := (b1.cell (p := ⟨B, off, none⟩) hBr).trans ct0
        have ctJ : (W.alloc (.cells #[] 9)).cell? ⟨B, off, none⟩ = some (.string (ba t)) := (((Below.refl W.heap.size W).alloc (Nat.le_refl _) _).cell (p := ⟨B, off, none⟩) hBI).trans ctI
        have HB1 := hide b1
        clear b1 hW ctI ct0
        go_wp2_with (at_builtin; first | refine wpList_append_own_none rfl _ _ 24 rfl W.heap.size 9 i0 1 Tryz.underlying24 hi _ 0 [] rfl (own_new W) rfl ?_ | refine wpList_append_own _ rfl _ _ 24 rfl W.heap.size 9 i0 (.string ByteArray.empty) 1 16 Tryz.underlying24 hi hz0 hz1 hz2 rfl (by decide) _ _ _ rfl ((own_new W).alloc _) ⟨W.heap.size + 1, 0, none⟩ 1 1 [.string (ba t)] rfl rfl ?cells ?kind ?room ?len ?base ?_)
        case cells =>
          intro j u hj
          match j, hj with
          | 0, hj => simp at hj; subst hj; simp [Addr.add]
        case kind => intro u hu; simp at hu; subst hu; rfl
        case room => unfold maxLen; omega
        case len => omega
        case base => simp; omega
        intro v2 w2 own2 grow2 _
        have bg2 := hide ((((Below.refl W.heap.size W).alloc (Nat.le_refl _) _).alloc (by simp) _).grown grow2 (by simp; omega) (fun j hj => by simp [Value.ownBlock] at hj; omega))
        have HO2 := hide own2
        clear own2 grow2
        go_wp2_with (at_builtin; refine wpList_append_own_none rfl _ _ 24 rfl W.heap.size 9 i0 1 Tryz.underlying24 hi _ _ _ rfl (unhide HO2) rfl ?_)
        go_roundw
        case rel => exact ⟨1, hlt, by simp, insV_next (p := []) (r := []) hkp (unhide HT0) rfl (unhide HPE) (unhide HSR) (by simp) (Or.inl rfl) (unhide HB0) (unhide HB1) (unhide bg2) rfl (by simpa [strsV] using unhide HO2)⟩
        case measure => simp [intOf]; omega
      · have hg2 : g < wr.heap.size := (Array.getElem?_eq_some_iff.1 hblk).1
        have HX0 : Hid (∀ j (hj : j < x.length), wr.cell? ⟨g, j, none⟩ = some (.string (ba x[j]))) := by
          intro j hj
          rw [Lib.cell_of_heap hblk]
          have h1 : cur.toList[j]? = (strsV x)[j]? := by rw [← hcur, List.getElem?_take_of_lt (by omega)]
          have h2 : cur[j]? = cur.toList[j]? := by simp
          rw [h2, h1]
          simp [strsV, hj]
        have HPE0 := hide hperm
        have HSR0 := hide hsrt
        have HK := hide hxl
        rw [hxl] at hcap ⊢
        clear hown hperm hsrt hblk hcs hcur hg hxl
        go_wp2
        go_loopw [5] (fun v5 wr2 => ∃ (p r : List Str) (m : Nat), x = p ++ r ∧ p.length = m ∧ v5 = .int .i64 m ∧ (∀ q ∈ r, ltV t q = true) ∧ Below wr.heap.size wr wr2) (fun v5 _ => (intOf v5).toNat)
        case atStart => exact ⟨x, [], k, by simp, unhide HK, rfl, by simp, Below.refl _ _⟩
        case round =>
          obtain ⟨p, r, m, hx, hm, rfl, hr, hbw⟩ := hrel
          rename World => wi
          have HXE := hide hx
          have HM := hide hm
          have HR := hide hr
          have HXL : Hid ((p ++ r).length = k) := by rw [← hx]; exact unhide HK
          have HX : Hid (∀ j (hj : j < (p ++ r).length), wr.cell? ⟨g, j, none⟩ = some (.string (ba (p ++ r)[j]))) := by rw [← hx]; exact unhide HX0
          have HPE : Hid ((p ++ r).Perm (ps.take k)) := by rw [← hx]; exact unhide HPE0
          have HSR : Hid (Srt ltV (p ++ r)) := by rw [← hx]; exact unhide HSR0
          clear hr hx hm
          by_cases hp0 : m = 0
          · have HLAST : Hid (p = [] ∨ ∃ l' q, p = l' ++ [q] ∧ ltV t q = false) := Or.inl (List.length_eq_zero_iff.1 ((unhide HM).trans hp0))
            have k1 : decide (0 < m) = false := by simp; omega
            have k2 : decide ((0 : Int) < (m : Int)) = false := by simp; omega
            clear hp0
            go_wp2
            go_quiet (fail)
            obtain ⟨W, hW⟩ : ∃ W, wi.drewN nq = W := ⟨_, rfl⟩
            have b1 : Below wr.heap.size wr W := by rw [← hW]; exact below_drewN hbw _
            rw [hW]
            clear hW hbw k1 k2
            have hgI : g < W.heap.size := Nat.lt_of_lt_of_le hg2 b1.size
            have hBI : B < W.heap.size := Nat.lt_of_lt_of_le hBr b1.size
            have ctI : W.cell? ⟨B, off + k, none⟩ = some (.string (ba t)) := (b1.cell (p := ⟨B, off + k, none⟩) hBr).trans (unhide HCT)
            have HP1 : Hid (∀ j u, (strsV p)[j]? = some u → (W.alloc (.cells #[] 9)).cell? ((⟨g, 0, none⟩ : Addr).add j) = some u) := by
              intro j u hu
              obtain ⟨hj, rfl⟩ := strs_at hu
              have h1 : (W.alloc (.cells #[] 9)).cell? ⟨g, j, none⟩ = W.cell? ⟨g, j, none⟩ := ((Below.refl W.heap.size W).alloc (Nat.le_refl _) _).cell (p := ⟨g, j, none⟩) hgI
              have h2 := b1.cell (p := ⟨g, j, none⟩) hg2
              have h3 := (unhide HX) j (by simp; omega)
              rw [WideShapes.add_plain, Nat.zero_add, h1, h2, h3, List.getElem_append_left hj]
            have HP2 : Hid (∀ w2, Below W.heap.size W w2 → ∀ j u, (strsV r)[j]? = some u → w2.cell? ((⟨g, m, none⟩ : Addr).add j) = some u) := by
              intro w2 bw j u hu
              obtain ⟨hj, rfl⟩ := strs_at hu
              have hm := unhide HM
              have h1 := bw.cell (p := ⟨g, m + j, none⟩) hgI
              have h2 := b1.cell (p := ⟨g, m + j, none⟩) hg2
              have h3 := (unhide HX) (m + j) (by simp; omega)
              rw [WideShapes.add_plain, h1, h2, h3, List.getElem_append_right (by omega)]
              simp [hm]
            have HB1 := hide b1
            have hmk : m ≤ k := by have h1 := unhide HXL; have h2 := unhide HM; simp at h1; omega
            have hmc : m ≤ cap := by omega
            have HRL : Hid (r.length = k - m) := by have h1 := unhide HXL; have h2 := unhide HM; simp at h1; show r.length = k - m; omega
            clear b1
            go_wp2_with (at_builtin; refine wpList_append_own _ rfl _ _ 24 rfl W.heap.size 9 i0 (.string ByteArray.empty) 1 16 Tryz.underlying24 hi hz0 hz1 hz2 rfl (by decide) _ 0 [] rfl (own_new W) ⟨g, 0, none⟩ m cap (strsV p) rfl (by have := unhide HM; simp [strsV]; omega) ?cells ?kind ?room ?len ?base ?_)
            case cells => exact (unhide HP1)
            case kind => exact strs_one p
            case room => unfold maxLen; omega
            case len => omega
            case base => simp
            intro v1 w1 own1 grow1 _
            have bg1 := hide (((Below.refl W.heap.size W).alloc (Nat.le_refl _) _).grown grow1 (by simp) (fun j hj => by simp [Value.ownBlock] at hj; omega))
            have HO1 := hide own1
            have ct1 : w1.cell? ⟨B, off + k, none⟩ = some (.string (ba t)) := ((unhide bg1).cell (p := ⟨B, off + k, none⟩) hBI).trans ctI
            clear own1 grow1 ctI HP1
            go_wp2_with (at_builtin; refine wpList_append_own _ rfl _ _ 24 rfl W.heap.size 9 i0 (.string ByteArray.empty) 1 16 Tryz.underlying24 hi hz0 hz1 hz2 rfl (by decide) _ _ _ rfl ((unhide HO1).alloc _) ⟨w1.heap.size, 0, none⟩ 1 1 [.string (ba t)] rfl rfl ?cells ?kind ?room ?len ?base ?_)
            case cells =>
              intro j u hj
              match j, hj with
              | 0, hj => simp at hj; subst hj; simp [Addr.add]
            case kind => intro u hu; simp at hu; subst hu; rfl
            case room => unfold maxLen; omega
            case len => omega
            case base => have := (unhide bg1).size; simp; omega
            intro v2 w2 own2 grow2 _
            have bg2 := hide (((unhide bg1).alloc (unhide bg1).size _).grown grow2 (by have := (unhide bg1).size; simp; omega) (fun j hj => ((unhide HO1).lt j hj).1))
            have HO2 := hide own2
            clear own2 grow2 ct1 HO1 bg1
            by_cases hcz : cap = m
            · obtain rfl : k = cap := by omega
              obtain rfl : k = m := by omega
              clear HP2 hcz hmc hmk hcap
              go_wp2_with (at_builtin; refine wpList_append_own _ rfl _ _ 24 rfl W.heap.size 9 i0 (.string ByteArray.empty) 1 16 Tryz.underlying24 hi hz0 hz1 hz2 rfl (by decide) _ _ _ rfl (unhide HO2) _ 0 _ (strsV r) rfl (by have h := unhide HRL; have e : r = [] := List.length_eq_zero_iff.1 (by omega); rw [e]; rfl) ?cells ?kind ?room ?len ?base ?_)
              case cells => intro j u hu; obtain ⟨hj, _⟩ := strs_at hu; have := unhide HRL; omega
              case kind => exact strs_one r
              case room => unfold maxLen; omega
              case len => omega
              case base => exact (unhide bg2).size
              intro v3 w3 own3 grow3 _
              have bg3 := hide ((unhide bg2).grown grow3 (unhide bg2).size (fun j hj => ((unhide HO2).lt j hj).1))
              have HO3 := hide own3
              clear own3 grow3 HO2 bg2
              go_wp2
              go_roundw
              case rel => exact ⟨k + 1, hlt, by simp, insV_next hkp (unhide HT0) (unhide HXL) (unhide HPE) (unhide HSR) (unhide HR) (unhide HLAST) (unhide HB0) (unhide HB1) (unhide bg3) rfl (own_count (unhide HO3) (by have h1 := unhide HXL; have h2 := unhide HM; have h3 := unhide HRL; simp at h1 ⊢; omega) (by simp [strsV]))⟩
              case measure => simp [intOf]; omega
            · have z2 : ¬ m = cap := fun e => hcz e.symm
              have z3 : ¬ cap - m = 0 := by omega
              have z4 : m < cap := by omega
              go_wp2_with (at_builtin; refine wpList_append_own _ rfl _ _ 24 rfl W.heap.size 9 i0 (.string ByteArray.empty) 1 16 Tryz.underlying24 hi hz0 hz1 hz2 rfl (by decide) _ _ _ rfl (unhide HO2) ⟨g, m, none⟩ (k - m) (cap - m) (strsV r) rfl (by have := unhide HRL; simp [strsV]; omega) ?cells ?kind ?room ?len ?base ?_)
              case cells => exact (unhide HP2) _ (unhide bg2)
              case kind => exact strs_one r
              case room => unfold maxLen; omega
              case len => omega
              case base => exact (unhide bg2).size
              intro v3 w3 own3 grow3 _
              have bg3 := hide ((unhide bg2).grown grow3 (unhide bg2).size (fun j hj => ((unhide HO2).lt j hj).1))
              have HO3 := hide own3
              clear own3 grow3 HO2 bg2 HP2
              go_wp2
              go_roundw
              case rel => exact ⟨k + 1, hlt, by simp, insV_next hkp (unhide HT0) (unhide HXL) (unhide HPE) (unhide HSR) (unhide HR) (unhide HLAST) (unhide HB0) (unhide HB1) (unhide bg3) rfl (own_count (unhide HO3) (by have h1 := unhide HXL; have h2 := unhide HM; have h3 := unhide HRL; simp at h1 ⊢; omega) (by simp [strsV]))⟩
              case measure => simp [intOf]; omega
          · obtain ⟨p', y, rfl⟩ : ∃ p' y, p = p' ++ [y] := ⟨p.dropLast, p.getLast (by intro e; have := unhide HM; simp [e] at this; omega), (List.dropLast_concat_getLast _).symm⟩
            obtain ⟨q, hq⟩ : ∃ q, p'.length = q := ⟨_, rfl⟩
            have hpm : q + 1 = m := by have := unhide HM; simp at this; omega
            have cy : wi.cell? ⟨g, q, none⟩ = some (.string (ba y)) := by
              have h1 := (unhide HX) q (by simp; omega)
              have h2 : ((p' ++ [y]) ++ r)[q]'(by simp; omega) = y := by
                subst hq
                simp
              rw [h2] at h1
              exact (hbw.cell (p := ⟨g, q, none⟩) hg2).trans h1
            have ct : wi.cell? ⟨B, off + k, none⟩ = some (.string (ba t)) := (hbw.cell (p := ⟨B, off + k, none⟩) hBr).trans (unhide HCT)
            obtain ⟨rr, hrr⟩ : ∃ rr, cmpV y t = rr := ⟨_, rfl⟩
            have hkm : m ≤ k := by have h1 := unhide HXL; have h2 := unhide HM; simp at h1 h2; omega
            have e1 : (m : Int) - 1 = (q : Int) := by omega
            have k0 : q < k := by omega
            have k1 : decide (0 < m) = true := by simp; omega
            have k2 : decide ((0 : Int) < (m : Int)) = true := by simp; omega
            have k3 : m ≤ 60 := by omega
            have k6 : q ≤ 60 := by omega
            have k8 : IntKind.i64.wrap (q : Int) = (q : Int) := wrapC k6
            have k4 : (q : Int) < (k : Int) := by omega
            have k5 : (k : Int) < (n : Int) := by omega
            have HRR := hide hrr
            have HQ := hide hq
            have HQM := hide hpm
            by_cases h0 : 0 < rr
            · have HR2 : Hid (∀ q ∈ y :: r, ltV t q = true) := by
                intro q hq
                rcases List.mem_cons.1 hq with rfl | h
                · exact lt_turn (unhide HRR) h0
                · exact (unhide HR) q h
              have HX2 : Hid (x = p' ++ (y :: r)) := by show x = p' ++ (y :: r); have := unhide HXE; simpa using this
              clear hrr hp0 hq hpm
              go_wp2
              go_region_held3 (fun w' => w'.cell? ⟨g, q, none⟩ = some (.string (ba y)) ∧ w'.cell? ⟨B, off + k, none⟩ = some (.string (ba t)) ∧ Below wr.heap.size wr w')
                (first | assumption | exact refcmp_drew (by assumption) | exact ⟨cy, ct, hbw⟩ | exact refcmp_drew ⟨cy, ct, hbw⟩)
                (first
                  | (go_at_call 23; refine (refcmp_held hg2 hBr (unhide HRR) (by assumption)).mono ?_; rintro e w' ⟨rfl, hk9⟩))
              go_wp2
              go_roundw
              case rel => exact ⟨p', y :: r, q, unhide HX2, unhide HQ, by simp, unhide HR2, refcmp_end (g := g) (q := q) (B := B) (o := off + k) (y := y) (t := t) (by assumption)⟩
              case measure => have := unhide HQM; simp [intOf]; omega
            · have HLAST : Hid ((p' ++ [y]) = [] ∨ ∃ l' q, (p' ++ [y]) = l' ++ [q] ∧ ltV t q = false) := Or.inr ⟨p', y, rfl, lt_turn' (unhide HRR) h0⟩
              clear hrr hp0 hq hpm
              go_wp2
              go_region_held3 (fun w' => w'.cell? ⟨g, q, none⟩ = some (.string (ba y)) ∧ w'.cell? ⟨B, off + k, none⟩ = some (.string (ba t)) ∧ Below wr.heap.size wr w')
                (first | assumption | exact refcmp_drew (by assumption) | exact ⟨cy, ct, hbw⟩ | exact refcmp_drew ⟨cy, ct, hbw⟩)
                (first
                  | (go_at_call 23; refine (refcmp_held hg2 hBr (unhide HRR) (by assumption)).mono ?_; rintro e w' ⟨rfl, hk9⟩))
              rename World => W
              have b1 : Below wr.heap.size wr W := refcmp_end (g := g) (q := q) (B := B) (o := off + k) (y := y) (t := t) (by assumption)
              obtain ⟨p, hp⟩ : ∃ p, p' ++ [y] = p := ⟨_, rfl⟩
              rw [hp] at HX HPE HSR HXL HM HLAST
              clear e1 k1 k2 k3 k4 k5 k6 k8 cy ct hbw hp
              have hgI : g < W.heap.size := Nat.lt_of_lt_of_le hg2 b1.size
              have hBI : B < W.heap.size := Nat.lt_of_lt_of_le hBr b1.size
              have ctI : W.cell? ⟨B, off + k, none⟩ = some (.string (ba t)) := (b1.cell (p := ⟨B, off + k, none⟩) hBr).trans (unhide HCT)
              have HP1 : Hid (∀ j u, (strsV p)[j]? = some u → (W.alloc (.cells #[] 9)).cell? ((⟨g, 0, none⟩ : Addr).add j) = some u) := by
                intro j u hu
                obtain ⟨hj, rfl⟩ := strs_at hu
                have h1 : (W.alloc (.cells #[] 9)).cell? ⟨g, j, none⟩ = W.cell? ⟨g, j, none⟩ := ((Below.refl W.heap.size W).alloc (Nat.le_refl _) _).cell (p := ⟨g, j, none⟩) hgI
                have h2 := b1.cell (p := ⟨g, j, none⟩) hg2
                have h3 := (unhide HX) j (by simp; omega)
                rw [WideShapes.add_plain, Nat.zero_add, h1, h2, h3, List.getElem_append_left hj]
              have HP2 : Hid (∀ w2, Below W.heap.size W w2 → ∀ j u, (strsV r)[j]? = some u → w2.cell? ((⟨g, m, none⟩ : Addr).add j) = some u) := by
                intro w2 bw j u hu
                obtain ⟨hj, rfl⟩ := strs_at hu
                have hm := unhide HM
                have h1 := bw.cell (p := ⟨g, m + j, none⟩) hgI
                have h2 := b1.cell (p := ⟨g, m + j, none⟩) hg2
                have h3 := (unhide HX) (m + j) (by simp; omega)
                rw [WideShapes.add_plain, h1, h2, h3, List.getElem_append_right (by omega)]
                simp [hm]
              have HB1 := hide b1
              have hmk : m ≤ k := by have h1 := unhide HXL; have h2 := unhide HM; simp at h1; omega
              have hmc : m ≤ cap := by omega
              have HRL : Hid (r.length = k - m) := by have h1 := unhide HXL; have h2 := unhide HM; simp at h1; show r.length = k - m; omega
              clear b1
              go_wp2_with (at_builtin; refine wpList_append_own _ rfl _ _ 24 rfl W.heap.size 9 i0 (.string ByteArray.empty) 1 16 Tryz.underlying24 hi hz0 hz1 hz2 rfl (by decide) _ 0 [] rfl (own_new W) ⟨g, 0, none⟩ m cap (strsV p) rfl (by have := unhide HM; simp [strsV]; omega) ?cells ?kind ?room ?len ?base ?_)
              case cells => exact (unhide HP1)
              case kind => exact strs_one p
              case room => unfold maxLen; omega
              case len => omega
              case base => simp
              intro v1 w1 own1 grow1 _
              have bg1 := hide (((Below.refl W.heap.size W).alloc (Nat.le_refl _) _).grown grow1 (by simp) (fun j hj => by simp [Value.ownBlock] at hj; omega))
              have HO1 := hide own1
              have ct1 : w1.cell? ⟨B, off + k, none⟩ = some (.string (ba t)) := ((unhide bg1).cell (p := ⟨B, off + k, none⟩) hBI).trans ctI
              clear own1 grow1 ctI HP1
              go_wp2_with (at_builtin; refine wpList_append_own _ rfl _ _ 24 rfl W.heap.size 9 i0 (.string ByteArray.empty) 1 16 Tryz.underlying24 hi hz0 hz1 hz2 rfl (by decide) _ _ _ rfl ((unhide HO1).alloc _) ⟨w1.heap.size, 0, none⟩ 1 1 [.string (ba t)] rfl rfl ?cells ?kind ?room ?len ?base ?_)
              case cells =>
                intro j u hj
                match j, hj with
                | 0, hj => simp at hj; subst hj; simp [Addr.add]
              case kind => intro u hu; simp at hu; subst hu; rfl
              case room => unfold maxLen; omega
              case len => omega
              case base => have := (unhide bg1).size; simp; omega
              intro v2 w2 own2 grow2 _
              have bg2 := hide (((unhide bg1).alloc (unhide bg1).size _).grown grow2 (by have := (unhide bg1).size; simp; omega) (fun j hj => ((unhide HO1).lt j hj).1))
              have HO2 := hide own2
              clear own2 grow2 ct1 HO1 bg1
              by_cases hcz : cap = m
              · obtain rfl : k = cap := by omega
                obtain rfl : k = m := by omega
                clear HP2 hcz hmc hmk hcap
                go_wp2_with (at_builtin; refine wpList_append_own _ rfl _ _ 24 rfl W.heap.size 9 i0 (.string ByteArray.empty) 1 16 Tryz.underlying24 hi hz0 hz1 hz2 rfl (by decide) _ _ _ rfl (unhide HO2) _ 0 _ (strsV r) rfl (by have h := unhide HRL; have e : r = [] := List.length_eq_zero_iff.1 (by omega); rw [e]; rfl) ?cells ?kind ?room ?len ?base ?_)
                case cells => intro j u hu; obtain ⟨hj, _⟩ := strs_at hu; have := unhide HRL; omega
                case kind => exact strs_one r
                case room => unfold maxLen; omega
                case len => omega
                case base => exact (unhide bg2).size
                intro v3 w3 own3 grow3 _
                have bg3 := hide ((unhide bg2).grown grow3 (unhide bg2).size (fun j hj => ((unhide HO2).lt j hj).1))
                have HO3 := hide own3
                clear own3 grow3 HO2 bg2
                go_wp2
                go_roundw
                case rel => exact ⟨k + 1, hlt, by simp, insV_next hkp (unhide HT0) (unhide HXL) (unhide HPE) (unhide HSR) (unhide HR) (unhide HLAST) (unhide HB0) (unhide HB1) (unhide bg3) rfl (own_count (unhide HO3) (by have h1 := unhide HXL; have h2 := unhide HM; have h3 := unhide HRL; simp at h1 ⊢; omega) (by simp [strsV]))⟩
                case measure => simp [intOf]; omega
              · have z2 : ¬ m = cap := fun e => hcz e.symm
                have z3 : ¬ cap - m = 0 := by omega
                have z4 : m < cap := by omega
                go_wp2_with (at_builtin; refine wpList_append_own _ rfl _ _ 24 rfl W.heap.size 9 i0 (.string ByteArray.empty) 1 16 Tryz.underlying24 hi hz0 hz1 hz2 rfl (by decide) _ _ _ rfl (unhide HO2) ⟨g, m, none⟩ (k - m) (cap - m) (strsV r) rfl (by have := unhide HRL; simp [strsV]; omega) ?cells ?kind ?room ?len ?base ?_)
                case cells => exact (unhide HP2) _ (unhide bg2)
                case kind => exact strs_one r
                case room => unfold maxLen; omega
                case len => omega
                case base => exact (unhide bg2).size
                intro v3 w3 own3 grow3 _
                have bg3 := hide ((unhide bg2).grown grow3 (unhide bg2).size (fun j hj => ((unhide HO2).lt j hj).1))
                have HO3 := hide own3
                clear own3 grow3 HO2 bg2 HP2
                go_wp2
                go_roundw
                case rel => exact ⟨k + 1, hlt, by simp, insV_next hkp (unhide HT0) (unhide HXL) (unhide HPE) (unhide HSR) (unhide HR) (unhide HLAST) (unhide HB0) (unhide HB1) (unhide bg3) rfl (own_count (unhide HO3) (by have h1 := unhide HXL; have h2 := unhide HM; have h3 := unhide HRL; simp at h1 ⊢; omega) (by simp [strsV]))⟩
                case measure => simp [intOf]; omega
    · have hke : k = n := by omega
      subst hke
      clear hkn
      go_wp2
      go_ret
      exact ⟨_, rfl, hins⟩

end Go.Proofs.YtcmafidnaojkiaaGreatDoor
