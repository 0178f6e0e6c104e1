/-
  A lock, read line by line.
-/
import Derived.Test.YthcafeoamabkgaaGreatDoorReadB
import Derived.Carry
import Derived.OwnWalk
namespace Go.Proofs.YthcafeoamabkgaaGreatDoor
open Go.RowKit Go.WideMaps Go.Maps

/-- The lines of a lock, read on: what is checked, what is read, the line's number, the text that is left. -/
def readR : Nat → List En → List Ln → Nat → Str → List Ln × Nat × Int
  | 0, _, xs, _, _ => (xs, 0, 0)
  | f + 1, ks, xs, k, t =>
    if t = [] then (xs, 0, 0)
    else match lineR (ahead 10 t) with
      | none => ([], k, 11)
      | some x =>
        if ¬ checkE ks x = 0 then ([], k, checkE ks x)
        else if t.contains 10 = true then readR f (checkK ks x) (xs ++ [x]) (k + 1) (behind 10 t)
        else ([], k, 11)

theorem set_new (w : World) : SetAt (w.alloc (.map #[] 0)) w.heap.size 0 [] :=
  ⟨⟨.map [], World.ownsMap_made w Tryz.prog 93 heldR, fun x _ => by simp [Maps.has], fun x _ => by rfl⟩⟩

theorem lineCheck_any (w : World) : Calls Tryz.prog 45 #[] w fun e w' => e = .returned (.func (.func 84) #[] #[.pointer (some ⟨w.heap.size + 1, 0, none⟩)]) ∧ Blk w' (w.heap.size + 1) #[.map (some w.heap.size)] 132 ∧ SetAt w' w.heap.size 0 [] ∧ Below w.heap.size w w' := by
  have HS := hide (set_new w)
  have hsz : (w.alloc (.map #[] 0)).heap.size = w.heap.size + 1 := by show (w.heap.push _).size = _; simp
  have hmk := run_makeMap (P := Tryz.prog) 132 w
  go_enter Tryz.func45, Tryz.ntmps45
  go_wp2
  go_ret
  have b := (Below.refl w.heap.size w).alloc (Nat.le_refl _) (.map #[] 0)
  refine ⟨by simp, ?_, (unhide HS).low ((Below.refl _ _).alloc (Nat.le_refl _) _), b.alloc b.size _⟩
  have := Blk.new (w.alloc (.map #[] 0)) #[.map (some w.heap.size)] 132
  rw [hsz] at this
  exact this

theorem trim_le (s : Str) (q : Str) : (Lib.trimSuffix s q).length ≤ s.length := by
  unfold Lib.trimSuffix
  split
  · simp
  · exact Nat.le_refl _

theorem getD_le {l : Str} {k : Nat} : ((pieces 32 l).getD k []).length ≤ l.length := by
  rw [List.getD_eq_getElem?_getD]
  by_cases h : k < (pieces 32 l).length
  · rw [List.getElem?_eq_getElem h]
    exact pieces_small 32 l _ (List.getElem_mem h)
  · rw [List.getElem?_eq_none (by omega)]
    simp

theorem lineR_ok {l : Str} {x : Ln} (hl : l.length < 4294967281) (h : lineR l = some x) : LnOk x := by
  unfold lineR at h
  split at h
  · cases h
    exact ⟨Nat.lt_of_le_of_lt getD_le hl, Nat.lt_of_le_of_lt (Nat.le_trans (trim_le _ _) getD_le) hl, Nat.lt_of_le_of_lt getD_le hl⟩
  · cases h

theorem behind_lt (c : UInt8) {l : Str} (h : ¬ l = []) : (behind c l).length + 1 ≤ l.length := by
  have h1 : ((l.dropWhile fun b => b != c)).length ≤ l.length := (List.dropWhile_sublist _).length_le
  have h2 : 0 < l.length := List.length_pos_iff.2 h
  unfold behind
  simp; omega

theorem lines_nil (B : Nat) (w : World) : Lines B w (.slice none 0 0) [] := ⟨rfl, Or.inl ⟨rfl, rfl⟩⟩
theorem row_slice {B : Nat} {w : World} {v : Value} {xs : List Ln} (h : Lines B w v xs) : ∃ a m cap, v = .slice a m cap := by
  rcases h.2 with ⟨rfl, _⟩ | ⟨g, cap, cur, rfl, _⟩
  · exact ⟨_, _, _, rfl⟩
  · exact ⟨_, _, _, rfl⟩

def strLen : Value → Nat
  | .string s => s.size
  | _ => 0

/-- What comes of it. -/
def ReadsSaid (w0 : World) (R : List Ln × Nat × Int) (e : Ending) (w' : World) : Prop :=
  ∃ v', e = .returned (.tuple #[v', .int .i64 (R.2.1 : Nat), .int .i64 R.2.2]) ∧ Lines w0.heap.size w' v' R.1 ∧ Below w0.heap.size w0 w'

/-- The loop, as it goes on. -/
def Reads (w0 : World) (ck c M : Nat) (R : List Ln × Nat × Int) (v0 v7 v8 : Value) (wr : World) : Prop :=
  ∃ (t : Str) (n f : Nat) (ks : List En) (xs : List Ln), v0 = .string (ba t) ∧ v8 = .int .i64 ((n : Int) + 1) ∧ readR f ks xs (n + 1) t = R ∧ t.length ≤ f ∧ n + t.length ≤ 65536 ∧ xs.length = n ∧ Lines w0.heap.size wr v7 xs ∧ PSt w0 wr ck c M n ks

theorem ba_ne {t : Str} (h : ¬ t = []) : (ba t).toList.isEmpty = false := by rw [ba_list]; simp [h]
theorem ba_em : (ba []).toList.isEmpty = true := by rw [ba_list]; rfl

set_option maxRecDepth 100000 in
set_option maxHeartbeats 8000000 in
theorem readLines_any {w0 w : World} {ck c M : Nat} {t : Str} (hg : Gd w0) (h : PSt w0 w ck c M 0 []) (ht : t.length ≤ 65536) :
    Calls Tryz.prog 50 #[.string (ba t), .func (.func 51) #[] #[.pointer (some ⟨ck, 0, none⟩)]] w (ReadsSaid w0 (readR t.length [] [] 1 t)) := by
  obtain ⟨R, hR⟩ : ∃ R, readR t.length [] [] 1 t = R := ⟨_, rfl⟩
  rw [hR]
  have HR := hide hR
  have HG := hide hg
  have H := hide h
  have hsz : (ba t).size = t.length := ba_size t
  have hq : ¬ (65536 : Int) < (t.length : Int) := by omega
  clear hR hg h
  go_enter Tryz.func50, Tryz.ntmps50
  go_wp2
  go_loopw [0, 7, 8, 9, 10, 11, 12, 13] (fun v0 v7 v8 _ _ _ _ _ wr => Reads w0 ck c M R v0 v7 v8 wr) (fun v0 _ _ _ _ _ _ _ _ => strLen v0)
  case atStart => exact ⟨t, 0, t.length, [], [], rfl, rfl, unhide HR, Nat.le_refl _, by omega, rfl, lines_nil _ _, unhide H⟩
  case round =>
    rename World => wr
    clear H HR hsz hq ht
    obtain ⟨t, n, f, ks, xs, rfl, rfl, hR, hf, hnt, hxs, hlin, hp⟩ := hrel
    have HR := hide hR
    have HL := hide hlin
    have HP := hide hp
    clear hR hlin hp
    by_cases h0 : t = []
    · have hem : (ba t).toList.isEmpty = true := by rw [h0]; exact ba_em
      have H0 := hide h0
      clear h0
      go_wp2
      go_ret3
      have e : R = (xs, 0, 0) := by
        rw [← unhide HR, unhide H0]
        cases f <;> rfl
      rw [e]
      exact ⟨_, rfl, unhide HL, (unhide HP).low⟩
    · have hne := ba_ne h0
      obtain ⟨f', rfl⟩ : ∃ f', f = f' + 1 := ⟨f - 1, by have := List.length_pos_iff.2 h0; omega⟩
      have hlt := behind_lt 10 h0
      have hal := ahead_le 10 t
      have HC := hide (cut_any 10 (l := t) (by omega) ((unhide HP).gd (unhide HG)))
      have H0 := hide h0
      clear h0
      go_wp2_with (go_at_call 96; fail)
      refine (unhide HC).mono ?_
      rintro e w1 ⟨rfl, b1⟩
      have P1 := hide ((unhide HP).on b1.low)
      have L1 := hide (row_low (unhide HL) b1.low)
      clear b1
      have HR := unhide HR
      unfold readR at HR
      rw [if_neg (unhide H0)] at HR
      obtain ⟨o, ho⟩ : ∃ o, lineR (ahead 10 t) = o := ⟨_, rfl⟩
      cases o with
      | none =>
        rw [ho] at HR
        have HR := hide HR
        obtain ⟨a, m, cap, rfl⟩ := row_slice (unhide L1)
        have HD := hide (read_none (a := a) (m := m) (cap := cap) (unhide HG) (unhide P1) (by omega) ho)
        clear ho
        go_wp2_with (go_at_call 51; fail)
        refine (unhide HD).mono ?_
        rintro e w2 ⟨rfl, b2⟩
        have P2 := hide ((unhide P1).on b2)
        clear b2
        go_wp2
        all_goals
          go_ret3
          rw [← unhide HR]
          exact ⟨_, rfl, lines_nil _ _, (unhide P2).low⟩
      | some x =>
        rw [ho] at HR
        have HD := hide (read_some (unhide HG) (unhide P1) (unhide L1) (by omega) ho (lineR_ok (by omega) ho) (by omega) (by omega))
        clear ho
        simp only at HR
        by_cases he : checkE ks x = 0
        · rw [if_neg (by simp [he])] at HR
          cases hcn : t.contains 10 with
          | true =>
            rw [if_pos hcn] at HR
            have hmem : 10 ∈ t := by simpa using hcn
            have hlt := behind_lt 10 (unhide H0)
            have HR := hide HR
            go_wp2_with (go_at_call 51; fail)
            refine (unhide HD).mono ?_
            rintro e w2 ⟨v', rfl, l2, p2, z2⟩
            rw [he]
            have L2 := hide l2
            have P2 := hide p2
            clear l2 p2 z2 he
            go_wp2
            go_roundw
            case rel => exact ⟨behind 10 t, n + 1, f', _, xs ++ [x], rfl, by simp, unhide HR, by omega, by omega, by simp [hxs], unhide L2, unhide P2⟩
            case measure => simp [strLen, ba_size]; omega
          | false =>
            have hmem : ¬ 10 ∈ t := by simpa using hcn
            rw [if_neg (by simp [hmem])] at HR
            have HR := hide HR
            go_wp2_with (go_at_call 51; fail)
            refine (unhide HD).mono ?_
            rintro e w2 ⟨v', rfl, l2, p2, z2⟩
            rw [he]
            have P2 := hide p2
            clear l2 p2 z2 he
            go_wp2
            all_goals
              go_ret3
              rw [← unhide HR]
              exact ⟨_, rfl, lines_nil _ _, (unhide P2).low⟩
        · rw [if_pos he] at HR
          have HR := hide HR
          go_wp2_with (go_at_call 51; fail)
          refine (unhide HD).mono ?_
          rintro e w2 ⟨v', rfl, l2, p2, z2⟩
          have P2 := hide p2
          clear l2 p2 z2
          go_wp2
          all_goals
            go_ret3
            rw [← unhide HR]
            exact ⟨_, rfl, lines_nil _ _, (unhide P2).low⟩

end Go.Proofs.YthcafeoamabkgaaGreatDoor
