/-
  newVendorCheck; the lines of a vendor list.
-/
import Derived.Test.YthcafeoamabkgaaGreatDoorVenY
import Derived.Test.YthcafeoamabkgaaGreatDoorReadX
namespace Go.Proofs.YthcafeoamabkgaaGreatDoor
open Go.RowKit Go.WideMaps Go.Maps

/-- What a line does. -/
inductive VAct where
  | bad (e : Int)
  | new (m : Md)
  | same (y : Vd)

def stepV (ms : List Md) (y : Option Vd) (l : Str) : VAct :=
  match modL l with
  | some m => if modE ms m = 0 then .new m else .bad (modE ms m)
  | none => match y with
    | none => .bad 11
    | some y =>
      if l = explL ∧ y.x = false ∧ y.pk = [] then .same ⟨y.m, true, y.pk⟩
      else if l ≠ [] ∧ Lib.hasPrefix l [35] = false then
        (if impE y.m.1 y.pk.reverse l = 0 then .same ⟨y.m, y.x, y.pk ++ [l]⟩ else .bad (impE y.m.1 y.pk.reverse l))
      else .bad 11

/-- The lines of a vendor list, read on. -/
def readV : Nat → List Md → List Vd → Option Vd → Nat → Str → List Vd × Nat × Int
  | 0, _, xs, y, _, _ => (xs ++ y.toList, 0, 0)
  | f + 1, ms, xs, y, k, t =>
    if t = [] then (xs ++ y.toList, 0, 0)
    else match stepV ms y (ahead 10 t) with
      | .bad e => ([], k, e)
      | .new m => if t.contains 10 = true then readV f (m :: ms) (xs ++ y.toList) (some ⟨m, false, []⟩) (k + 1) (behind 10 t) else ([], k, 11)
      | .same y' => if t.contains 10 = true then readV f ms xs (some y') (k + 1) (behind 10 t) else ([], k, 11)

/-- The state behind k lines. -/
def RdAt (w0 w : World) (ck M k : Nat) (ms : List Md) (v : Value) (xs : List Vd) (y : Option Vd) : Prop :=
  ∃ n, n ≤ k ∧ xs.length ≤ k ∧ ((y = none ∧ xs = [] ∧ v = .slice none 0 0 ∧ VChk w0 w ck M n ms [] (.map none)) ∨
    ∃ y1 zs s P, y = some y1 ∧ zs.map Prod.fst = xs ∧ y1.pk.length ≤ k ∧ y1.m.1.length < 4294967281 ∧ Rd1 w0 w ck M n ms v zs y1 s P)

/-- A list, as it lies. -/
def VList (w0 w : World) (v : Value) (xs : List Vd) : Prop := ∃ zs : List (Vd × Value), zs.map Prod.fst = xs ∧ VRow w0 w v zs ∧ VAll w0 w zs

theorem vlist_nil (w0 w : World) : VList w0 w (.slice none 0 0) [] := ⟨[], rfl, ⟨rfl, Or.inl ⟨rfl, rfl⟩⟩, fun z hz => by cases hz⟩

theorem Rd1.list {w0 w : World} {ck M n P : Nat} {ms : List Md} {v s : Value} {zs : List (Vd × Value)} {y : Vd} (h : Rd1 w0 w ck M n ms v zs y s P) : VRow w0 w v (zs ++ [(y, s)]) ∧ VAll w0 w (zs ++ [(y, s)]) := by
  refine ⟨h.row, fun z hz => ?_⟩
  rcases List.mem_append.1 hz with hz | hz
  · exact h.all z hz
  · rw [List.mem_singleton] at hz
    subst hz
    exact h.last

theorem RdAt.list {w0 w : World} {ck M k : Nat} {ms : List Md} {v : Value} {xs : List Vd} {y : Option Vd} (h : RdAt w0 w ck M k ms v xs y) : VList w0 w v (xs ++ y.toList) := by
  obtain ⟨n, _, _, h⟩ := h
  rcases h with ⟨rfl, rfl, rfl, _⟩ | ⟨y1, zs, s, P, rfl, rfl, _, _, h⟩
  · exact vlist_nil _ _
  · exact ⟨zs ++ [(y1, s)], by simp, h.list.1, h.list.2⟩
theorem RdAt.low {w0 w : World} {ck M k : Nat} {ms : List Md} {v : Value} {xs : List Vd} {y : Option Vd} (h : RdAt w0 w ck M k ms v xs y) : Below w0.heap.size w0 w := by
  obtain ⟨n, _, _, h⟩ := h
  rcases h with ⟨_, _, _, h⟩ | ⟨_, _, _, _, _, _, _, _, h⟩
  · exact h.low
  · exact h.c.c.low
theorem RdAt.on {w0 w w' : World} {ck M k : Nat} {ms : List Md} {v : Value} {xs : List Vd} {y : Option Vd} (h : RdAt w0 w ck M k ms v xs y) (b : Below w.heap.size w w') : RdAt w0 w' ck M k ms v xs y := by
  obtain ⟨n, h1, h2, h⟩ := h
  refine ⟨n, h1, h2, ?_⟩
  rcases h with ⟨a, b', c, h⟩ | ⟨y1, zs, s, P, a, b', c, d, h⟩
  · exact Or.inl ⟨a, b', c, h.on b⟩
  · exact Or.inr ⟨y1, zs, s, P, a, b', c, d, h.on b⟩

/-- What one line leaves. -/
def StepSaid (w0 : World) (ck M k : Nat) (ms : List Md) (xs : List Vd) (y : Option Vd) : VAct → Ending → World → Prop
  | .bad e0, e, w' => ∃ v', e = .returned (.tuple #[v', .int .i64 e0]) ∧ Below w0.heap.size w0 w'
  | .new m, e, w' => ∃ v', e = .returned (.tuple #[v', .int .i64 0]) ∧ RdAt w0 w' ck M (k + 1) (m :: ms) v' (xs ++ y.toList) (some ⟨m, false, []⟩)
  | .same y', e, w' => ∃ v', e = .returned (.tuple #[v', .int .i64 0]) ∧ RdAt w0 w' ck M (k + 1) ms v' xs (some y')

theorem row_nil9 (w0 w : World) : w.ownsRow w0.heap.size 9 1 (.slice none 0 0) 0 (strsV []) := ⟨rfl, Or.inl ⟨rfl, rfl⟩⟩

theorem read_any {w0 w : World} {ck M k : Nat} {ms : List Md} {v : Value} {xs : List Vd} {y : Option Vd} {l : Str} (hg : Gd w0) (h : RdAt w0 w ck M k ms v xs y) (hk : k ≤ 999999) (hl : l.length ≤ 65536) :
    Calls Tryz.prog 60 #[.pointer (some ⟨ck, 0, none⟩), v, .string (ba l)] w (StepSaid w0 ck M k ms xs y (stepV ms y l)) := by
  obtain ⟨n, hn, hxs, h⟩ := h
  cases hm : modL l with
  | some m =>
    have hst : stepV ms y l = if modE ms m = 0 then .new m else .bad (modE ms m) := by unfold stepV; rw [hm]
    rw [hst]
    have hmo : MdOk m := ⟨by have := (modL_ok hm).1; unfold maxLen; omega, by have := (modL_ok hm).2; unfold maxLen; omega⟩
    obtain ⟨zs, path, pv, hzs, hc, hrow, hall⟩ : ∃ zs path pv, zs.map Prod.fst = xs ++ y.toList ∧ VChk w0 w ck M n ms path pv ∧ VRow w0 w v zs ∧ VAll w0 w zs := by
      rcases h with ⟨rfl, rfl, rfl, h⟩ | ⟨y1, zs, s, P, rfl, rfl, _, _, h⟩
      · exact ⟨[], _, _, rfl, h, ⟨rfl, Or.inl ⟨rfl, rfl⟩⟩, fun z hz => by cases hz⟩
      · exact ⟨zs ++ [(y1, s)], _, _, by simp, h.c.c, h.list.1, h.list.2⟩
    have hlen : zs.length ≤ k + 1 := by
      have := congrArg List.length hzs
      rw [List.length_map, List.length_append] at this
      have h2 : y.toList.length ≤ 1 := by cases y <;> simp
      omega
    refine (read_new hg hc hrow hall (by omega) hm hmo (by omega) (by omega)).mono ?_
    rintro e w' ⟨v', rfl, h1, h2, h3, _⟩
    by_cases e0 : modE ms m = 0
    · rw [if_pos e0, e0]
      obtain ⟨P, hP⟩ := h3.ok e0
      refine ⟨v', rfl, n + 1, by omega, ?_, Or.inr ⟨_, zs, _, P, rfl, hzs, Nat.zero_le _, ?_, ⟨hP, h1, h2, row_nil9 _ _, fun z _ g hg => by cases hg⟩⟩⟩
      · rw [← hzs, List.length_map]; exact hlen
      · have := (modL_ok hm).1
        show m.1.length < _
        omega
    · rw [if_neg e0]
      exact ⟨v', rfl, h3.low⟩
  | none =>
    rcases h with ⟨rfl, rfl, rfl, h⟩ | ⟨y1, zs, s, P, rfl, hzs, hpk, hpa, h⟩
    · have hst : stepV ms none l = .bad 11 := by unfold stepV; rw [hm]
      rw [hst]
      refine (read_early (hg.low h.low) (by omega) hm).mono ?_
      rintro e w' ⟨rfl, b⟩
      exact ⟨_, rfl, low_trans h.low b⟩
    · have hz : zs.length ≤ 1000000 := by
        have := congrArg List.length hzs
        rw [List.length_map] at this
        omega
      have hst : stepV ms (some y1) l = if l = explL ∧ y1.x = false ∧ y1.pk = [] then .same ⟨y1.m, true, y1.pk⟩ else if l ≠ [] ∧ Lib.hasPrefix l [35] = false then (if impE y1.m.1 y1.pk.reverse l = 0 then .same ⟨y1.m, y1.x, y1.pk ++ [l]⟩ else .bad (impE y1.m.1 y1.pk.reverse l)) else .bad 11 := by unfold stepV; rw [hm]
      rw [hst]
      by_cases h1 : l = explL ∧ y1.x = false ∧ y1.pk = []
      · rw [if_pos h1]
        obtain ⟨rfl, hx, hp⟩ := h1
        refine (read_expl hg h hz hm hx hp).mono ?_
        rintro e w' ⟨rfl, h2, _⟩
        exact ⟨v, rfl, n, by omega, by omega, Or.inr ⟨_, zs, s, P, rfl, hzs, Nat.le_trans hpk (Nat.le_succ _), hpa, h2⟩⟩
      · rw [if_neg h1]
        by_cases h2 : l ≠ [] ∧ Lib.hasPrefix l [35] = false
        · rw [if_pos h2]
          have hne : l ≠ explL := fun e => by
            have h3 := h2.2
            rw [e] at h3
            exact absurd h3 (by decide)
          refine (read_pkg hg h hz (by omega) hpa (by omega) hm hne h2.1 h2.2).mono ?_
          rintro e w' ⟨rfl, b, h3⟩
          by_cases e0 : impE y1.m.1 y1.pk.reverse l = 0
          · rw [if_pos e0, e0]
            obtain ⟨s', h4⟩ := h3 e0
            exact ⟨v, rfl, n, by omega, by omega, Or.inr ⟨_, zs, s', P, rfl, hzs, by show (y1.pk ++ [l]).length ≤ k + 1; rw [List.length_append]; simpa using hpk, hpa, h4⟩⟩
          · rw [if_neg e0]
            exact ⟨v, rfl, b⟩
        · rw [if_neg h2]
          refine (read_bad hg h hz (by omega) hm ⟨h1, h2⟩).mono ?_
          rintro e w' ⟨rfl, b⟩
          exact ⟨_, rfl, low_trans h.c.c.low b⟩

end Go.Proofs.YthcafeoamabkgaaGreatDoor

namespace Go.Proofs.YthcafeoamabkgaaGreatDoor
open Go.RowKit Go.WideMaps Go.Maps

theorem setM_fresh (w : World) : SetMAt (w.alloc (.map #[] 0)) w.heap.size 0 [] :=
  ⟨⟨.map [], World.ownsMap_made w Tryz.prog _ heldR, fun x _ => by simp [Maps.has], fun x _ => by rfl⟩⟩

theorem vendorCheck_any (w : World) : Calls Tryz.prog 54 #[] w fun e w' => e = .returned (.pointer (some ⟨w.heap.size + 1, 0, none⟩)) ∧ RdAt w w' (w.heap.size + 1) w.heap.size 0 [] (.slice none 0 0) [] none := by
  have HS := hide (setM_fresh w)
  have hsz : (w.alloc (.map #[] 0)).heap.size = w.heap.size + 1 := by show (w.heap.push _).size = _; simp
  have hmk := run_makeMap (P := Tryz.prog) 116 w
  go_enter Tryz.func54, Tryz.ntmps54
  go_wp2
  go_ret
  have b := (Below.refl w.heap.size w).alloc (Nat.le_refl _) (.map #[] 0)
  have k := Blk.new (w.alloc (.map #[] 0)) #[.map (some w.heap.size), .string (ba []), .map none] 155
  rw [hsz] at k
  exact ⟨by simp, 0, Nat.le_refl _, Nat.le_refl _, Or.inl ⟨rfl, rfl, rfl, ⟨b.alloc b.size _, k, (unhide HS).low ((Below.refl _ _).alloc (Nat.le_refl _) _), by omega, Nat.le_refl _⟩⟩⟩

/-- What comes of it. -/
def VReadsSaid (w0 : World) (R : List Vd × Nat × Int) (e : Ending) (w' : World) : Prop :=
  ∃ v', e = .returned (.tuple #[v', .int .i64 (R.2.1 : Nat), .int .i64 R.2.2]) ∧ VList w0 w' v' R.1 ∧ Below w0.heap.size w0 w'

/-- The loop, as it goes on. -/
def VReads (w0 : World) (ck M : Nat) (R : List Vd × Nat × Int) (v0 v7 v8 : Value) (wr : World) : Prop :=
  ∃ (t : Str) (n f : Nat) (ms : List Md) (xs : List Vd) (y : Option Vd), v0 = .string (ba t) ∧ v8 = .int .i64 ((n : Int) + 1) ∧ readV f ms xs y (n + 1) t = R ∧ t.length ≤ f ∧ n + t.length ≤ 65536 ∧ RdAt w0 wr ck M n ms v7 xs y

theorem stepV_ne {ms : List Md} {y : Option Vd} {l : Str} {e : Int} (h : stepV ms y l = .bad e) : e ≠ 0 := by
  unfold stepV at h
  split at h
  · split at h
    · cases h
    · cases h; assumption
  · split at h
    · cases h; decide
    · split at h
      · cases h
      · split at h
        · split at h
          · cases h
          · cases h; assumption
        · cases h; decide

set_option maxRecDepth 100000 in
set_option maxHeartbeats 8000000 in
theorem vreadLines_any {w0 w : World} {ck M : Nat} {t : Str} (hg : Gd w0) (h : RdAt w0 w ck M 0 [] (.slice none 0 0) [] none) (ht : t.length ≤ 65536) :
    Calls Tryz.prog 59 #[.string (ba t), .func (.func 60) #[.pointer (some ⟨ck, 0, none⟩)] #[]] w (VReadsSaid w0 (readV t.length [] [] none 1 t)) := by
  obtain ⟨R, hR⟩ : ∃ R, readV t.length [] [] none 1 t = R := ⟨_, rfl⟩
  rw [hR]
  have HR := hide hR
  have HG := hide hg
  have H := hide h
  have hsz : (ba t).size = t.length := ba_size t
  have hq : ¬ (65536 : Int) < (t.length : Int) := by omega
  clear hR hg h
  go_enter Tryz.func59, Tryz.ntmps59
  go_wp2
  go_loopw [0, 7, 8, 9, 10, 11, 12, 13] (fun v0 v7 v8 _ _ _ _ _ wr => VReads w0 ck M R v0 v7 v8 wr) (fun v0 _ _ _ _ _ _ _ _ => strLen v0)
  case atStart => exact ⟨t, 0, t.length, [], [], none, rfl, rfl, unhide HR, Nat.le_refl _, by omega, unhide H⟩
  case round =>
    rename World => wr
    clear H HR hsz hq ht
    obtain ⟨t, n, f, ms, xs, y, rfl, rfl, hR, hf, hnt, hp⟩ := hrel
    have HR := hide hR
    have HP := hide hp
    clear hR hp
    by_cases h0 : t = []
    · have hem : (ba t).toList.isEmpty = true := by rw [h0]; exact ba_em
      have H0 := hide h0
      clear h0
      go_wp2
      go_ret3
      have e : R = (xs ++ y.toList, 0, 0) := by
        rw [← unhide HR, unhide H0]
        cases f <;> rfl
      rw [e]
      exact ⟨_, rfl, (unhide HP).list, (unhide HP).low⟩
    · have hne := ba_ne h0
      obtain ⟨f', rfl⟩ : ∃ f', f = f' + 1 := ⟨f - 1, by have := List.length_pos_iff.2 h0; omega⟩
      have hlt := behind_lt 10 h0
      have hal := ahead_le 10 t
      have HC := hide (cut_any 10 (l := t) (by omega) ((unhide HG).low (unhide HP).low))
      have H0 := hide h0
      clear h0
      go_wp2_with (go_at_call 96; fail)
      refine (unhide HC).mono ?_
      rintro e w1 ⟨rfl, b1⟩
      have P1 := hide ((unhide HP).on b1.low)
      clear b1
      have HD := hide (read_any (unhide HG) (unhide P1) (by omega) (l := ahead 10 t) (by omega))
      have HR := unhide HR
      unfold readV at HR
      rw [if_neg (unhide H0)] at HR
      obtain ⟨o, ho⟩ : ∃ o, stepV ms y (ahead 10 t) = o := ⟨_, rfl⟩
      rw [ho] at HR HD
      cases o with
      | bad e0 =>
        have hne0 := stepV_ne ho
        have hb1 : (e0 == 0) = false := by simp [hne0]
        have hb2 : (e0 != 0) = true := by simp [hne0]
        have HR := hide HR
        clear ho
        go_wp2_with (go_at_call 60; fail)
        refine (unhide HD).mono ?_
        rintro e w2 ⟨v', rfl, b2⟩
        have B2 := hide b2
        clear b2
        go_wp2
        all_goals
          go_ret3
          rw [← unhide HR]
          exact ⟨_, rfl, vlist_nil _ _, unhide B2⟩
      | new m =>
        clear ho
        simp only at HR
        cases hcn : t.contains 10 with
        | true =>
          rw [if_pos hcn] at HR
          have hmem : 10 ∈ t := by simpa using hcn
          have HR := hide HR
          go_wp2_with (go_at_call 60; fail)
          refine (unhide HD).mono ?_
          rintro e w2 ⟨v', rfl, p2⟩
          have P2 := hide p2
          clear p2
          go_wp2
          go_roundw
          case rel => exact ⟨behind 10 t, n + 1, f', _, _, _, rfl, by simp, unhide HR, by omega, by omega, unhide P2⟩
          case measure => simp [strLen, ba_size]; omega
        | false =>
          have hmem : ¬ 10 ∈ t := by simpa using hcn
          rw [if_neg (by simp [hmem])] at HR
          have HR := hide HR
          go_wp2_with (go_at_call 60; fail)
          refine (unhide HD).mono ?_
          rintro e w2 ⟨v', rfl, p2⟩
          have P2 := hide p2
          clear p2
          go_wp2
          all_goals
            go_ret3
            rw [← unhide HR]
            exact ⟨_, rfl, vlist_nil _ _, (unhide P2).low⟩
      | same y' =>
        clear ho
        simp only at HR
        cases hcn : t.contains 10 with
        | true =>
          rw [if_pos hcn] at HR
          have hmem : 10 ∈ t := by simpa using hcn
          have HR := hide HR
          go_wp2_with (go_at_call 60; fail)
          refine (unhide HD).mono ?_
          rintro e w2 ⟨v', rfl, p2⟩
          have P2 := hide p2
          clear p2
          go_wp2
          go_roundw
          case rel => exact ⟨behind 10 t, n + 1, f', _, _, _, rfl, by simp, unhide HR, by omega, by omega, unhide P2⟩
          case measure => simp [strLen, ba_size]; omega
        | false =>
          have hmem : ¬ 10 ∈ t := by simpa using hcn
          rw [if_neg (by simp [hmem])] at HR
          have HR := hide HR
          go_wp2_with (go_at_call 60; fail)
          refine (unhide HD).mono ?_
          rintro e w2 ⟨v', rfl, p2⟩
          have P2 := hide p2
          clear p2
          go_wp2
          all_goals
            go_ret3
            rw [← unhide HR]
            exact ⟨_, rfl, vlist_nil _ _, (unhide P2).low⟩

end Go.Proofs.YthcafeoamabkgaaGreatDoor
