/-
  The reference's Cut and SameTexts.
-/
import Derived.Test.YthcafeoamabkgaaGreatDoorMatX
import Derived.Test.YthcafeoamabkgaaGreatDoorPure5
import Derived.Deep.AppendLies
import Derived.BigQuiet
namespace Go.Proofs.YthcafeoamabkgaaGreatDoor
open Go.RowKit

theorem info9 : (Tryz.prog.info? 9).map (fun i => (i.zero, i.size, i.bytes)) = some (some (.string ByteArray.empty), 1, 16) := by kernel_rfl

def strsV (ps : List Str) : List Value := ps.map fun p => Value.string (ba p)

/-- What stands between two rounds of Cut: the pieces that are done, and from where the next one goes. -/
structure CutIn (c : UInt8) (l : Str) (k f : Nat) (done : List Str) : Prop where
  le : k ≤ l.length → f ≤ k ∧ ((l.drop f).take (k - f)).contains c = false ∧ pieces c l = done ++ pieces c (l.drop f)
  all : k = l.length + 1 → done = pieces c l
  len : done.length ≤ k

theorem cutIn_start (c : UInt8) (l : Str) : CutIn c l 0 0 [] := ⟨fun _ => ⟨Nat.le_refl _, by simp, by simp⟩, fun h => by omega, Nat.le_refl _⟩

theorem sub_of (l : Str) (f k : Nat) : (ba l).extract f k = ba ((l.drop f).take (k - f)) := by
  rw [Lib.extract_eq, ba_data]; rfl

theorem cutIn_skip {c : UInt8} {l : Str} {k f : Nat} {done : List Str} (h : CutIn c l k f done) (hk : k < l.length) (hc : l[k] ≠ c) : CutIn c l (k + 1) f done := by
  obtain ⟨h1, h2, h3⟩ := h.le (by omega)
  refine ⟨fun _ => ⟨by omega, ?_, h3⟩, fun e => by omega, by have := h.len; omega⟩
  have e : (l.drop f).take (k + 1 - f) = (l.drop f).take (k - f) ++ [l[k]] := by
    have e1 : k + 1 - f = (k - f) + 1 := by omega
    have e2 : (l.drop f)[k - f]? = some l[k] := by rw [List.getElem?_drop]; rw [show f + (k - f) = k by omega]; exact List.getElem?_eq_getElem hk
    rw [e1, List.take_add_one, e2]; rfl
  rw [e, contains_append, h2]
  simpa using fun h => hc h.symm

theorem cutIn_hit {c : UInt8} {l : Str} {k f : Nat} {done : List Str} (h : CutIn c l k f done) (hk : k < l.length) (hc : l[k] = c) : CutIn c l (k + 1) (k + 1) (done ++ [(l.drop f).take (k - f)]) := by
  obtain ⟨h1, h2, h3⟩ := h.le (by omega)
  have e : l.drop f = (l.drop f).take (k - f) ++ c :: l.drop (k + 1) := by
    have e2 : (l.drop f).drop (k - f) = c :: l.drop (k + 1) := by
      rw [List.drop_drop, show f + (k - f) = k by omega, List.drop_eq_getElem_cons hk, hc]
    rw [← e2, List.take_append_drop]
  refine ⟨fun _ => ⟨Nat.le_refl _, by simp, ?_⟩, fun e => by omega, by simp; have := h.len; omega⟩
  rw [h3]
  conv => lhs; rw [e]
  rw [pieces_join, pieces_one c _ h2]
  simp

theorem cutIn_end {c : UInt8} {l : Str} {f : Nat} {done : List Str} (h : CutIn c l l.length f done) : CutIn c l (l.length + 1) (l.length + 1) (done ++ [(l.drop f).take (l.length - f)]) := by
  obtain ⟨h1, h2, h3⟩ := h.le (Nat.le_refl _)
  refine ⟨fun h => by omega, fun _ => ?_, by simp; have := h.len; omega⟩
  have e : (l.drop f).take (l.length - f) = l.drop f := List.take_of_length_le (by simp)
  rw [e] at h2 ⊢
  rw [h3, pieces_one c _ h2]

set_option maxHeartbeats 2000000 in
set_option maxRecDepth 100000 in
theorem refCut_row (c : UInt8) {l : Str} (hl : l.length < 4294967281) (w : World) : Calls Tryz.prog 44 #[.string (ba l), .int .u8 (c.toNat : Int)] w fun e w' => ∃ v, e = .returned v ∧ w'.ownsRow w.heap.size 9 1 v (pieces c l).length (strsV (pieces c l)) ∧ Below w.heap.size w w' := by
  obtain ⟨i0, hi, hz0, hz1, hz2⟩ := info_parts info9
  have hsz : (ba l).size = l.length := ba_size l
  go_enter Tryz.func44, Tryz.ntmps44
  go_wp2
  go_loopw [5, 6, 7] (fun v fr i wr => ∃ (k f : Nat) (done : List Str), k ≤ l.length + 1 ∧ fr = .int .i64 f ∧ i = .int .i64 k ∧ CutIn c l k f done ∧ wr.ownsRow w.heap.size 9 1 v done.length (strsV done) ∧ Below w.heap.size w wr) (fun _ _ i _ => l.length + 1 - (intOf i).toNat)
  case atStart => exact ⟨0, 0, [], by omega, rfl, rfl, cutIn_start c l, ⟨rfl, Or.inl ⟨rfl, rfl⟩⟩, Below.refl _ _⟩
  case round =>
    obtain ⟨k, f, done, hk, rfl, rfl, hcut, hown, hb⟩ := hrel
    have hbs := hb.size
    have hdl := hcut.len
    have HC := hide hcut
    have HO := hide hown
    have HB := hide hb
    clear hcut hown hb
    by_cases hle : k ≤ l.length
    · have hfk := ((unhide HC).le hle).1
      have hx := sub_of l f k
      obtain ⟨P, hP⟩ : ∃ P, (l.drop f).take (k - f) = P := ⟨_, rfl⟩
      rw [hP] at hx
      by_cases hlt : k < l.length
      · have hg := ba_get l k hlt
        have hne : ¬ (k : Int) = l.length := by omega
        by_cases hc : l[k] = c
        · have q : ((l[k].toNat : Int) == (c.toNat : Int)) = true := by rw [hc]; simp
          have HN := hide (cutIn_hit (unhide HC) hlt hc)
          rw [hP] at HN
          clear hc HC hP
          go_wp2_with (at_builtin; refine wpList_append_own _ rfl _ _ 69 rfl w.heap.size 9 i0 (.string ByteArray.empty) 1 16 Tryz.underlying69 hi hz0 hz1 hz2 rfl (by decide) _ _ _ rfl ((unhide HO).alloc _) ⟨wr.heap.size, 0, none⟩ 1 1 [.string (ba P)] rfl rfl ?cells ?kind ?room ?len ?base ?_)
          case cells =>
            intro j u hj
            match j, hj with
            | 0, hj => simp at hj; subst hj; simp [Addr.add]
          case kind => intro u hu; simp at hu; subst hu; rfl
          case room => unfold maxLen; omega
          case len => omega
          case base => simp; omega
          intro v' w2 hown' hgrow _
          have bg := hide (((unhide HB).alloc (by omega) _).grown hgrow (by simp; omega) (fun j hj => ((unhide HO).lt j hj).1))
          have HO2 := hide hown'
          clear hown' hgrow HO HB
          go_wp2
          go_roundw
          case rel => exact ⟨k + 1, k + 1, done ++ [P], by omega, by simp, by simp, unhide HN, by simpa [strsV] using unhide HO2, unhide bg⟩
          case measure => simp [intOf]; omega
        · have q : ((l[k].toNat : Int) == (c.toNat : Int)) = false := by
            simp only [beq_eq_false_iff_ne]
            intro e
            exact hc (UInt8.toNat_inj.1 (by omega))
          have HN := hide (cutIn_skip (unhide HC) hlt hc)
          clear hc HC hP hx
          go_wp2
          go_roundw
          case rel => exact ⟨k + 1, f, done, by omega, rfl, by simp, unhide HN, unhide HO, unhide HB⟩
          case measure => simp [intOf]; omega
      · have hke : k = l.length := by omega
        subst hke
        have HN := hide (cutIn_end (unhide HC))
        rw [hP] at HN
        clear HC hP
        go_wp2_with (at_builtin; refine wpList_append_own _ rfl _ _ 69 rfl w.heap.size 9 i0 (.string ByteArray.empty) 1 16 Tryz.underlying69 hi hz0 hz1 hz2 rfl (by decide) _ _ _ rfl ((unhide HO).alloc _) ⟨wr.heap.size, 0, none⟩ 1 1 [.string (ba P)] rfl rfl ?cells ?kind ?room ?len ?base ?_)
        case cells =>
          intro j u hj
          match j, hj with
          | 0, hj => simp at hj; subst hj; simp [Addr.add]
        case kind => intro u hu; simp at hu; subst hu; rfl
        case room => unfold maxLen; omega
        case len => omega
        case base => simp; omega
        intro v' w2 hown' hgrow _
        have bg := hide (((unhide HB).alloc (by omega) _).grown hgrow (by simp; omega) (fun j hj => ((unhide HO).lt j hj).1))
        have HO2 := hide hown'
        clear hown' hgrow HO HB
        go_wp2
        go_roundw
        case rel => exact ⟨l.length + 1, l.length + 1, done ++ [P], Nat.le_refl _, by simp, by simp, unhide HN, by simpa [strsV] using unhide HO2, unhide bg⟩
        case measure => simp [intOf]
    · have hke : k = l.length + 1 := by omega
      have HD : Hid (done = pieces c l) := (unhide HC).all hke
      subst hke
      have hq : ¬ (l.length : Int) + 1 ≤ l.length := by omega
      go_wp2
      go_ret
      exact ⟨_, rfl, by rw [← unhide HD]; exact unhide HO, unhide HB⟩

/-- The pieces, by Cut. -/
theorem refCut_any (c : UInt8) {l : Str} (hl : l.length < 4294967281) (w : World) : Calls Tryz.prog 44 #[.string (ba l), .int .u8 (c.toNat : Int)] w fun e w' =>
    ∃ B cp, e = .returned (.slice (some ⟨B, 0, none⟩) (pieces c l).length cp) ∧ Texts w' B (pieces c l) ∧ (B < w'.heap.size ∧ w.heap.size ≤ B) ∧ Below w.heap.size w w' := by
  refine (refCut_row c hl w).mono ?_
  rintro e w' ⟨v, rfl, hown, hb⟩
  rcases hown.2 with ⟨_, h0⟩ | ⟨g, cap, cur, rfl, hg, hblk, _, _, _, ht⟩
  · exact absurd (List.length_eq_zero_iff.1 h0) (pieces_ne c l)
  · refine ⟨g, cap, rfl, ?_, ⟨(Array.getElem?_eq_some_iff.1 hblk).1, hg⟩, hb⟩
    intro k hk
    rw [Lib.cell_of_heap hblk]
    have h1 : cur.toList[k]? = (strsV (pieces c l))[k]? := by rw [← ht, List.getElem?_take_of_lt (by omega)]
    have h2 : cur[k]? = cur.toList[k]? := by simp
    rw [h2, h1]
    simp [strsV, hk]

/-! ### identifier -/

theorem cell_heap {w w' : World} (h : w'.heap = w.heap) {p : Addr} : w'.cell? p = w.cell? p := by
  unfold World.cell?
  rw [h]

set_option maxHeartbeats 1000000 in
theorem sameTexts_same {x : List Str} {A ao ac B bo bc : Nat} {w : World} (hn : x.length ≤ 1099511627776) (ha : ∀ k (hk : k < x.length), w.cell? ⟨A, ao + k, none⟩ = some (.string (ba x[k]))) (hb : ∀ k (hk : k < x.length), w.cell? ⟨B, bo + k, none⟩ = some (.string (ba x[k]))) :
    Calls Tryz.prog 38 #[.slice (some ⟨A, ao, none⟩) x.length ac, .slice (some ⟨B, bo, none⟩) x.length bc] w fun e w' => e = .returned (.bool true) ∧ Below w.heap.size w w' := by
  have HA := hide ha
  have HB := hide hb
  obtain ⟨n, hnn⟩ : ∃ n, x.length = n := ⟨_, rfl⟩
  rw [hnn] at hn ⊢
  have HN := hide hnn
  clear ha hb hnn
  go_enter Tryz.func38, Tryz.ntmps38
  go_wp2
  go_loopw [5] (fun v wr => ∃ k : Nat, k ≤ n ∧ v = .int .i64 k ∧ wr.heap = w.heap ∧ Below w.heap.size w wr) (fun v _ => n - (intOf v).toNat)
  case atStart => exact ⟨0, Nat.zero_le _, rfl, rfl, Below.refl _ _⟩
  case round =>
    obtain ⟨k, hk, rfl, hw, hbw⟩ := hrel
    have HW := hide hw
    have HBW := hide hbw
    by_cases hlt : k < n
    · have hkx : k < x.length := by rw [unhide HN]; exact hlt
      obtain ⟨t, ht⟩ : ∃ t, x[k] = t := ⟨_, rfl⟩
      have ca : wr.cell? ⟨A, ao + k, none⟩ = some (.string (ba t)) := by rw [cell_heap hw, ← ht]; exact (unhide HA) k hkx
      have cb : wr.cell? ⟨B, bo + k, none⟩ = some (.string (ba t)) := by rw [cell_heap hw, ← ht]; exact (unhide HB) k hkx
      have hl := ba_list t
      clear hw ht hbw
      go_wp2
      go_quiet (fail)
      go_wp2
      go_roundw
      case rel => exact ⟨k + 1, hlt, by simp, unhide HW, low_drewN (unhide HBW) _⟩
      case measure => simp [intOf]; omega
    · clear hw hbw
      go_wp2
      go_ret
      exact ⟨rfl, unhide HBW⟩
theorem sameTexts_none {a b : Option Addr} {ac bc : Nat} (w : World) : Calls Tryz.prog 38 #[.slice a 0 ac, .slice b 0 bc] w fun e w' => e = .returned (.bool true) ∧ w' = w := by
  go_enter Tryz.func38, Tryz.ntmps38
  go_wp2
  refine wp_loop_rounds 1 ?_
  rw [rounds_succ]
  go_wp2
  go_ret
  exact ⟨rfl, rfl⟩

end Go.Proofs.YthcafeoamabkgaaGreatDoor
