/-
  New.
-/
import Derived.Test.YtmbcjdlpdibalaaNewA
namespace Go.Proofs.Ytmbcjdlpdibalaa
open Go.RowKit Go.WideMaps Go.Maps Go.MuLone

/-- What New answers. -/
def NewSaid (w : World) (r : Except Int St) (e : Ending) (w' : World) : Prop :=
  match r with
  | .error z => e = .returned (.tuple #[.pointer none, .int .i64 z]) ∧ z ≠ 0 ∧ Below w.heap.size w w'
  | .ok s => ∃ G : Gh, e = .returned (.tuple #[.pointer (some ⟨G.F, 0, none⟩), .int .i64 0]) ∧ Rep w' G s ∧ (w.heap.size ≤ G.F ∧ w.heap.size ≤ G.P ∧ w.heap.size ≤ G.T ∧ w.heap.size ≤ G.A) ∧ Below w.heap.size w w'

abbrev emptyMap : Obj := .map #[] 0
abbrev newW (w : World) : World := (((w.alloc emptyMap).alloc emptyMap).alloc emptyMap).alloc (.cells #[.int .i32 0, .int .u32 0, .map (some w.heap.size), .map (some (w.heap.size + 1)), .map (some (w.heap.size + 1 + 1))] 81)

theorem new_empty (w : World) : Rep (newW w) ⟨w.heap.size + 3, w.heap.size, w.heap.size + 1, w.heap.size + 2, w.heap.size + 4, w.heap.size + 4⟩ emptyS ∧ Below w.heap.size w (newW w) := by
  have s1 : (w.alloc emptyMap).heap.size = w.heap.size + 1 := by show (w.heap.push _).size = _; simp
  have s2 : ((w.alloc emptyMap).alloc emptyMap).heap.size = w.heap.size + 2 := by show ((w.heap.push _).push _).size = _; simp
  have s3 : (((w.alloc emptyMap).alloc emptyMap).alloc emptyMap).heap.size = w.heap.size + 3 := by show (((w.heap.push _).push _).push _).size = _; simp
  have s4 : (newW w).heap.size = w.heap.size + 4 := by show ((((w.heap.push _).push _).push _).push _).size = _; simp
  have b4 : (newW w).heap[w.heap.size + 3]? = some (.cells #[.int .i32 0, .int .u32 0, .map (some w.heap.size), .map (some (w.heap.size + 1)), .map (some (w.heap.size + 2))] 81 (0, 0)) := by rw [← s3]; exact heap_new _ _
  have oP : (newW w).ownsMap Try.prog 9 heldR w.heap.size 0 (.map []) := (((World.ownsMap_made w Try.prog 9 heldR).alloc _).alloc _).alloc _
  have oT : (newW w).ownsMap Try.prog 87 heldR (w.heap.size + 1) 0 (.map []) := by rw [← s1]; exact ((World.ownsMap_made _ Try.prog 87 heldR).alloc _).alloc _
  have oA : (newW w).ownsMap Try.prog 9 heldR (w.heap.size + 2) 0 (.map []) := by rw [← s2]; exact (World.ownsMap_made _ Try.prog 9 heldR).alloc _
  refine ⟨⟨b4, ⟨_, oP, fun u hu => rfl⟩, ⟨_, oT, fun u k hu hk => rfl⟩, ⟨_, oA, fun u hu => rfl⟩, fun u => Nat.le_refl _, ?_, ?_⟩, ?_⟩
  · simp only; omega
  · simp only; omega
  · exact ((((Below.refl _ _).alloc (Nat.le_refl _) _).alloc (by omega) _).alloc (by omega) _).alloc (by omega) _

theorem Fr2.below {F P B : Nat} {w0 w w' : World} (h : Fr2 F P w w') (hb : Below B w0 w) (hB : B ≤ w.heap.size) (hF : B ≤ F) (hP : B ≤ P) : Below B w0 w' :=
  ⟨h.os.trans hb.os, h.tape.trans hb.tape, h.output.trans hb.output, Nat.le_trans hb.size h.size, fun k hk => (h.block k (by omega) (by omega) (by omega)).trans (hb.block k hk)⟩

theorem look_page {w : World} {P n : Nat} {D : DataW Value} {u : ByteArray} (h : w.ownsMap Try.prog 9 heldR P n D) (hu : u.size ≤ maxLen) {fv : Value} {b : Bool} (hb : Maps.has D (.string u.data.toList) = b) (hat : D.atKey (.string u.data.toList) (.held (.slice none 0 0)) = .held fv) :
    (Instr.lookup 70 (.map (some P)) (.string u) true).run Try.prog w = .ok (.tuple #[fv, .bool b]) w := by
  obtain ⟨v, ps, h1, h2⟩ := h.look_ok lawS Try.underlying70 (zero32 w) (zd := .held (.slice none 0 0)) (zp := []) rfl (keyS hu)
  have h3 := held_inv h2
  rw [hat] at h3
  cases h3
  rw [hb] at h1
  exact h1

theorem belowN {B : Nat} {w w' : World} (h : Below B w w') (n : Nat) : Below B w (w'.drewN n) := ⟨h.os, h.tape, h.output, h.size, h.block⟩

theorem stepF_n {s s' : St} {f : Fa} (h : stepF s f = .ok s') : s'.n = s.n + 1 := by
  unfold stepF at h
  repeat' split at h
  all_goals cases h
  rfl

/-- The invariant of both loops. -/
structure Inv {α : Type} (step : St → α → Except Int St) (xs : List α) (s0 : St) (n0 : Nat) (F P T A lo : Nat) (w : World) (k : Nat) (wr : World) : Prop where
  ex : ∃ s hi, run step (xs.take k) s0 = .ok s ∧ s.n = n0 + k ∧ Rep wr ⟨F, P, T, A, lo, hi⟩ s
  low : Below w.heap.size w wr

set_option maxHeartbeats 4000000 in
set_option maxRecDepth 100000 in
theorem new_any {w : World} {a1 a2 : Option Addr} {n1 n2 c1 c2 : Nat} {ps : List Pg} {fs : List Fa} (hp : PgsAt w a1 n1 ps) (hf : FasAt w a2 n2 fs) (h1 : n1 ≤ 100000) (h2 : n2 ≤ 100000) :
    Calls Try.prog 8 #[.slice a1 n1 c1, .slice a2 n2 c2] w (NewSaid w (newR ps fs)) := by
  have hmm := @run_makeMap Try.prog
  obtain ⟨r0, b0⟩ := new_empty w
  obtain ⟨W0, hW0⟩ : ∃ W0, newW w = W0 := ⟨_, rfl⟩
  obtain ⟨F, hF⟩ : ∃ F, w.heap.size + 1 + 1 + 1 = F := ⟨_, rfl⟩
  have HI0 : Hid (Inv stepP ps emptyS 0 F w.heap.size (w.heap.size + 1) (w.heap.size + 2) (w.heap.size + 4) w 0 W0) := by
    rw [hW0] at r0 b0
    rw [← hF]
    exact ⟨⟨emptyS, _, rfl, rfl, r0⟩, b0⟩
  have HFF : Hid (F = w.heap.size + 3) := hF.symm
  have HP := hide hp
  have HF := hide hf
  have HFx := hide hF
  have HWx := hide hW0
  clear r0 b0 hp hf hF hW0
  go_enter Try.func8, Try.ntmps8
  go_wp2
  rw [unhide HFx]
  rw [show (((w.alloc (.map #[] 0)).alloc (.map #[] 0)).alloc (.map #[] 0)).alloc (.cells #[.int .i32 0, .int .u32 0, .map (some w.heap.size), .map (some (w.heap.size + 1)), .map (some (w.heap.size + 1 + 1))] 81) = W0 from unhide HWx]
  clear hmm HFx HWx
  obtain ⟨P, hP⟩ : ∃ P, w.heap.size = P := ⟨_, rfl⟩
  have HPE := hide hP
  rw [hP] at HI0 HFF ⊢
  obtain ⟨Q, hQ⟩ : ∃ Q, NewSaid w (newR ps fs) = Q := ⟨_, rfl⟩
  have HQ := hide hQ
  rw [hQ]
  clear hP hQ
  go_loopw [8, 9, 10, 11, 22] (fun _ _ _ _ v wr => ∃ k : Nat, k ≤ n1 ∧ v = .int .i64 k ∧ Inv stepP ps emptyS 0 F P (P + 1) (P + 2) (P + 4) w k wr) (fun _ _ _ _ v _ => n1 - (intOf v).toNat)
  case atStart => exact ⟨0, Nat.zero_le _, rfl, unhide HI0⟩
  case round =>
    obtain ⟨k, hkn, rfl, hinv⟩ := hrel
    by_cases hlt : k < n1
    · have hkp : k < ps.length := by rw [(unhide HP).len]; exact hlt
      obtain ⟨b, o, ha, hel⟩ : ∃ b o, a1 = some ⟨b, o, none⟩ ∧ ∀ k (hk : k < ps.length), PgAt w b (o + k * 2) ps[k] := by
        rcases (unhide HP).els with h | h
        · omega
        · exact h
      subst ha
      obtain ⟨u, l, hpk⟩ : ∃ u l, ps[k] = (u, l) := ⟨_, _, rfl⟩
      have hk0 := hel k hkp
      rw [hpk] at hk0
      obtain ⟨hu0, hul, _, a, n, c, hd0, hby0, hnl, hbl⟩ := hk0
      simp only at hu0 hul hby0
      obtain ⟨⟨s, hi, hrun, hsn, hrep⟩, hlow⟩ := hinv
      have hb := lt_of_cell hu0
      simp only at hb
      have cu : wr.cell? ⟨b, o + k * 2, none⟩ = some (.string u) := (hlow.cell (p := ⟨b, o + k * 2, none⟩) hb).trans hu0
      have cd : wr.cell? ⟨b, o + k * 2 + 1, none⟩ = some (.slice a n c) := (hlow.cell (p := ⟨b, o + k * 2 + 1, none⟩) hb).trans hd0
      obtain ⟨w1, hw1⟩ : ∃ w1, wr.alloc (.cells #[.string u, .slice a n c] 68) = w1 := ⟨_, rfl⟩
      have al : Below wr.heap.size wr w1 := by rw [← hw1]; exact (Below.refl _ _).alloc (Nat.le_refl _) _
      have bk : w1.heap[wr.heap.size]? = some (.cells #[.string u, .slice a n c] 68 (0, 0)) := by rw [← hw1]; exact heap_new wr _
      have x0 : w1.cell? ⟨wr.heap.size, 0, none⟩ = some (.string u) := Lib.cell_of_heap bk 0
      have x1 : w1.cell? ⟨wr.heap.size, 1, none⟩ = some (.slice a n c) := Lib.cell_of_heap bk 1
      have rep1 := hrep.below al
      have b1 := rep1.blk
      simp only at b1
      have g2 : w1.cell? ⟨F, 2, none⟩ = some (.map (some P)) := Lib.cell_of_heap b1 2
      obtain ⟨DP, oP, hPP⟩ := rep1.pages
      simp only at oP hPP
      have hpg := hPP u hul
      have hS : Hid (s.n ≤ 1000000) := by show s.n ≤ 1000000; omega
      have hby1 : Bytes w1 a n l := bytes_below (bytes_below hby0 hlow) al
      have hneF : ∀ ad, a = some ad → 0 < n → ad.block ≠ F := fun ad h h0 => by have := hbl ad h h0; have := unhide HFF; have := unhide HPE; omega
      have HREP := hide rep1
      have HBY := hide hby1
      have HRUN := hide hrun
      have HSN := hide hsn
      have HLOW : Hid (Below w.heap.size w w1) := hlow.trans (al.mono hlow.size)
      have HPK := hide hpk
      have HNE := hide hneF
      have HW1 := hide hw1
      clear hpk hu0 hd0 hby0 hbl hrun hsn hrep hlow bk rep1 b1 hPP hby1 hneF hel al hw1
      cases hpu : s.pg u with
      | some l0 =>
        rw [hpu] at hpg
        obtain ⟨hh, a9, n9, c9, hat, _⟩ := hpg
        have lP : ∀ nq, (Instr.lookup 70 (.map (some P)) (.string u) true).run Try.prog (w1.drewN nq) = .ok (.tuple #[.slice a9 n9 c9, .bool true]) (w1.drewN nq) := fun nq =>
          look_page (w := w1.drewN nq) (own_same oP rfl) hul hh (hat _)
        have HPU := hide hpu
        clear hpu hh hat oP
        go_wp2
        rw [unhide HW1]
        go_quiet (fail)
        go_wp2
        have hst : stepP s ps[k] = .error 3 := by rw [unhide HPK]; simp only [stepP]; rw [unhide HPU]
        have hnew : newR ps fs = .error 3 := by unfold newR; rw [run_stop hkp (unhide HRUN) hst]
        rw [← unhide HQ, hnew]
        exact ⟨rfl, by decide, belowN (unhide HLOW) _⟩
      | none =>
        rw [hpu] at hpg
        have lP : ∀ nq, (Instr.lookup 70 (.map (some P)) (.string u) true).run Try.prog (w1.drewN nq) = .ok (.tuple #[.slice none 0 0, .bool false]) (w1.drewN nq) := fun nq =>
          look_page (w := w1.drewN nq) (own_same oP rfl) hul hpg (atKey_of_not_has hpg _)
        have HPU := hide hpu
        clear hpu hpg oP
        go_wp2
        rw [unhide HW1]
        go_quiet (fail)
        go_wp2_with (go_at_call 21; fail)
        cases hv : validB u with
        | false =>
          refine (set_bad hv (by unfold maxLen at hul; omega) _).mono ?_
          rintro e w' ⟨rfl, hw⟩
          rw [hw]; clear hw w'
          go_wp2
          have hst : stepP s ps[k] = .error 13 := by rw [unhide HPK]; simp only [stepP]; rw [unhide HPU]; simp [hv]
          have hnew : newR ps fs = .error 13 := by unfold newR; rw [run_stop hkp (unhide HRUN) hst]
          rw [← unhide HQ, hnew]
          exact ⟨rfl, by decide, belowN (unhide HLOW) _⟩
        | true =>
          have hst : stepP s ps[k] = .ok (setS s u l) := by rw [unhide HPK]; simp only [stepP]; rw [unhide HPU]; simp [hv]
          have HST := hide hst
          refine (set_ok (G := ⟨F, P, P + 1, P + 2, P + 4, hi⟩) ((unhide HREP).below (belowN (Below.refl _ _) nq)) (unhide hS) hv hul (bytes_below (unhide HBY) (belowN (Below.refl _ _) nq)) hnl (unhide HNE)).mono ?_
          rintro e w3 ⟨rfl, hr3, hf3⟩
          have HR3 := hide hr3
          have HF3 := hide hf3
          clear hst hr3 hf3 hv
          go_wp2
          go_roundw
          case rel =>
            have hff := unhide HFF
            have hpe := unhide HPE
            have hsz := (unhide HLOW).size
            exact ⟨k + 1, hlt, by simp, ⟨⟨setS s u l, _, run_next hkp (unhide HRUN) (unhide HST), by have := unhide HSN; show s.n + 1 = _; omega, unhide HR3⟩, (unhide HF3).below (belowN (unhide HLOW) nq) hsz (by omega) (by omega)⟩⟩
          case measure => simp [intOf]; omega
    · have hkn1 : k = n1 := by omega
      obtain ⟨⟨s1, hi1, hrun1, hsn1, hrep1⟩, hlow1⟩ := hinv
      have hall : run stepP ps emptyS = .ok s1 := run_all (by rw [(unhide HP).len]; omega) hrun1
      have HNEW : Hid (newR ps fs = run stepF fs s1) := by show newR ps fs = _; unfold newR; rw [hall]
      have HI1 : Hid (Inv stepF fs s1 n1 F P (P + 1) (P + 2) (P + 4) w 0 wr) := ⟨⟨s1, hi1, rfl, by omega, hrep1⟩, hlow1⟩
      clear hall hrun1 hsn1 hrep1 hlow1 hkn1
      go_wp2
      go_loopw [13, 14, 49] (fun _ _ v wx => ∃ j : Nat, j ≤ n2 ∧ v = .int .i64 j ∧ Inv stepF fs s1 n1 F P (P + 1) (P + 2) (P + 4) w j wx) (fun _ _ v _ => n2 - (intOf v).toNat)
      case atStart => exact ⟨0, Nat.zero_le _, rfl, unhide HI1⟩
      case round =>
        obtain ⟨j, hjn, rfl, hinv⟩ := hrel
        rename World => wi
        by_cases hlj : j < n2
        · have hjp : j < fs.length := by rw [(unhide HF).len]; exact hlj
          obtain ⟨b, o, ha, hel⟩ : ∃ b o, a2 = some ⟨b, o, none⟩ ∧ ∀ k (hk : k < fs.length), FaAt w b (o + k * 5) fs[k] := by
            rcases (unhide HF).els with h | h
            · omega
            · exact h
          subst ha
          obtain ⟨u, fk, kd, m, l, hpk⟩ : ∃ u fk kd m l, fs[j] = ⟨u, fk, kd, m, l⟩ := ⟨_, _, _, _, _, rfl⟩
          have hk0 := hel j hjp
          rw [hpk] at hk0
          obtain ⟨hu0, hul, ⟨y1, y2, y3⟩, ⟨z1, z2, z3⟩, a, n, c, hd0, hby0, hnl, hbl⟩ := hk0
          simp only at hu0 hul y1 y2 y3 z1 z2 z3 hby0
          obtain ⟨⟨s, hi, hrun, hsn, hrep⟩, hlow⟩ := hinv
          have hb := lt_of_cell hu0
          simp only at hb
          have q0 : wi.cell? ⟨b, o + j * 5, none⟩ = some (.string u) := (hlow.cell (p := ⟨b, o + j * 5, none⟩) hb).trans hu0
          have q1 : wi.cell? ⟨b, o + j * 5 + 1, none⟩ = some (.int .i64 fk) := (hlow.cell (p := ⟨b, o + j * 5 + 1, none⟩) hb).trans y1
          have q2 : wi.cell? ⟨b, o + j * 5 + 2, none⟩ = some (.int .i64 kd) := (hlow.cell (p := ⟨b, o + j * 5 + 2, none⟩) hb).trans y2
          have q3 : wi.cell? ⟨b, o + j * 5 + 3, none⟩ = some (.int .i64 m) := (hlow.cell (p := ⟨b, o + j * 5 + 3, none⟩) hb).trans y3
          have q4 : wi.cell? ⟨b, o + j * 5 + 4, none⟩ = some (.slice a n c) := (hlow.cell (p := ⟨b, o + j * 5 + 4, none⟩) hb).trans hd0
          obtain ⟨w1, hw1⟩ : ∃ w1, wi.alloc (.cells #[.string u, .int .i64 fk, .int .i64 kd, .int .i64 m, .slice a n c] 50) = w1 := ⟨_, rfl⟩
          have al : Below wi.heap.size wi w1 := by rw [← hw1]; exact (Below.refl _ _).alloc (Nat.le_refl _) _
          have rep1 := hrep.below al
          have hsz : Hid (s.n ≤ 1000000) := by show s.n ≤ 1000000; omega
          have hby1 : Bytes w1 a n l := bytes_below (bytes_below hby0 hlow) al
          have hneF : ∀ ad, a = some ad → 0 < n → ad.block ≠ F := fun ad h h0 => by have := hbl ad h h0; have := unhide HFF; have := unhide HPE; omega
          have HADD := hide (add_any (f := ⟨u, fk, kd, m, l⟩) (c := c) rep1 (unhide hsz) hul z2 z1 z3 hby1 hnl hneF)
          have HRUN := hide hrun
          have HSN := hide hsn
          have HLOW : Hid (Below w.heap.size w w1) := hlow.trans (al.mono hlow.size)
          have HPK := hide hpk
          have HW1 := hide hw1
          clear hpk hu0 hd0 hby0 hbl hrun hsn hrep hlow rep1 hby1 hneF hel al hw1 y1 y2 y3 z1 z2 z3
          go_wp2_with (go_at_call 24; fail)
          rw [unhide HW1]
          refine (unhide HADD).mono ?_
          rintro e w3 hq
          cases hst : stepF s ⟨u, fk, kd, m, l⟩ with
          | error z =>
            rw [hst] at hq
            obtain ⟨rfl, hz, hb3⟩ := hq
            have HB3 := hide hb3
            have HST := hide hst
            have hz2 : ¬ z = 0 := hz
            clear hb3 hst hz
            go_wp2
            go_ret2
            have hnew : newR ps fs = .error z := by rw [unhide HNEW]; exact run_stop hjp (unhide HRUN) (by rw [unhide HPK]; exact unhide HST)
            rw [hnew]
            exact ⟨rfl, hz2, (unhide HLOW).trans ((unhide HB3).mono (unhide HLOW).size)⟩
          | ok s2 =>
            rw [hst] at hq
            obtain ⟨rfl, hr3, hf3⟩ := hq
            have HR3 := hide hr3
            have HF3 := hide hf3
            have HST := hide hst
            clear hr3 hf3 hst
            go_wp2
            go_roundw
            case rel =>
              have hff := unhide HFF
              have hpe := unhide HPE
              have hsz := (unhide HLOW).size
              exact ⟨j + 1, hlj, by simp, ⟨⟨s2, _, run_next hjp (unhide HRUN) (by rw [unhide HPK]; exact unhide HST), by have h5 := unhide HSN; have h6 := stepF_n (unhide HST); omega, unhide HR3⟩, (unhide HF3).below (unhide HLOW) hsz (by omega) (by omega)⟩⟩
            case measure => simp [intOf]; omega
        · obtain ⟨⟨s2, hi2, hrun2, hsn2, hrep2⟩, hlow2⟩ := hinv
          have HALL : Hid (newR ps fs = .ok s2) := by show newR ps fs = _; rw [unhide HNEW]; exact run_all (by rw [(unhide HF).len]; omega) hrun2
          have HR2 := hide hrep2
          have HL2 := hide hlow2
          clear hrun2 hsn2 hrep2 hlow2
          go_wp2
          go_ret2
          rw [unhide HALL]
          have hff := unhide HFF
          have hpe := unhide HPE
          exact ⟨⟨F, P, P + 1, P + 2, P + 4, hi2⟩, rfl, unhide HR2, ⟨by simp only; omega, by simp only; omega, by simp only; omega, by simp only; omega⟩, unhide HL2⟩

end Go.Proofs.Ytmbcjdlpdibalaa
