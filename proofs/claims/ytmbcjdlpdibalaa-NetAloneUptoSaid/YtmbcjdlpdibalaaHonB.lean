/-
  NetHonest: the walk.
-/
import Derived.Test.YtmbcjdlpdibalaaHonA
import Derived.Test.YtmbcjdlpdibalaaGet
namespace Go.Proofs.Ytmbcjdlpdibalaa
open Go.RowKit Go.WideMaps Go.Maps Go.MuLone

theorem Fr.below {G : Gh} {B : Nat} {w0 w w' : World} (h : Fr G w w') (hb : Below B w0 w) (hB : B ≤ w.heap.size) (hF : B ≤ G.F) (hA : B ≤ G.A) : Below B w0 w' :=
  ⟨h.os.trans hb.os, h.tape.trans hb.tape, h.output.trans hb.output, Nat.le_trans hb.size h.size, fun k hk => (h.block k (by omega) (by omega) (by omega)).trans (hb.block k hk)⟩

theorem text_ne {a b : ByteArray} (h : ¬ a = b) : (a.toList == b.toList) = false := by
  have : ¬ a.toList = b.toList := fun e => h (str_inj (by rw [← ByteArray.toList_eq, ← ByteArray.toList_eq]; exact e))
  simpa using this

/-- What holds ahead of each request. -/
structure HonInv (w : World) (G : Gh) (s0 : St) (u : ByteArray) (l : List UInt8) (pb : Nat) (a : Option Addr) (n c : Nat) (k : Nat) (wr : World) : Prop where
  rep : ∃ s, Rep wr G s ∧ s.pg u = some l ∧ (∀ j, s.ft u j = s0.ft u j) ∧ s.aq u + 1 = k ∧ s.n + 1 = s0.n + k
  low : Below w.heap.size w wr
  x0 : wr.cell? ⟨pb, 0, none⟩ = some (.string u)
  x1 : wr.cell? ⟨pb, 1, none⟩ = some (.slice a n c)

set_option maxHeartbeats 4000000 in
set_option maxRecDepth 100000 in
theorem honest_walk {w : World} {a1 a2 : Option Addr} {n1 n2 c1 c2 : Nat} {ps : List Pg} {fs : List Fa} {x y : Int} (FIRST : ∀ w, Calls Try.prog 6 #[] w fun e w' => e = .returned (.bool true) ∧ Below w.heap.size w w') (hp : PgsAt w a1 n1 ps) (hf : FasAt w a2 n2 fs) (h1 : n1 ≤ 1099511627776) (h2 : n2 ≤ 1099511627776) :
    Calls Try.prog 5 #[.slice a1 n1 c1, .slice a2 n2 c2, .int .i64 x, .int .i64 y] w fun e w' => e = .returned (.bool true) ∧ Below w.heap.size w w' := by
  have HP := hide hp
  have HF := hide hf
  have HFI := hide FIRST
  clear hp hf FIRST
  go_enter Try.func5, Try.ntmps5
  go_wp2_with (go_at_call 6; fail)
  refine ((unhide HFI) w).mono ?_
  rintro e w1 ⟨rfl, b1⟩
  have HB1 := hide b1
  clear b1
  go_wp2_with (go_at_call 7; fail)
  refine (few_any ((unhide HP).below (unhide HB1)) ((unhide HF).below (unhide HB1)) h1 h2).mono ?_
  rintro e w2 ⟨⟨bq, rfl, hbq⟩, nq, hw2⟩
  have HB2 : Hid (Below w.heap.size w w2) := by rw [hw2]; exact belowN (unhide HB1) nq
  clear hw2 HB1
  cases bq with
  | false =>
    clear hbq
    go_wp2
    go_ret
    exact ⟨rfl, unhide HB2⟩
  | true =>
    obtain ⟨q1, q2⟩ := hbq rfl
    clear hbq
    by_cases hn0 : n1 = 0
    · subst hn0
      go_wp2
      go_ret
      exact ⟨rfl, unhide HB2⟩
    have hn1 : ((n1 : Int) == 0) = false := by simp; omega
    have hn2 : ¬ (n1 : Int) = 0 := by omega
    go_wp2_with (go_at_call 8; fail)
    refine (new_any ((unhide HP).below (unhide HB2)) ((unhide HF).below (unhide HB2)) (by omega) (by omega)).mono ?_
    rintro e w3 hq
    cases hnew : newR ps fs with
    | error z =>
      rw [hnew] at hq
      obtain ⟨rfl, hz, b3⟩ := hq
      have HB3 : Hid (Below w.heap.size w w3) := (unhide HB2).trans (b3.mono (unhide HB2).size)
      have hz1 : (z != 0) = true := by simp [hz]
      have hz2 : ¬ z = 0 := hz
      clear hnew b3 hz HB2
      go_wp2_with (go_at_call 9; refine (num_any z w3).mono ?_; rintro e w4 ⟨rfl, hw⟩; rw [hw]; clear hw w4)
      go_ret
      exact ⟨rfl, unhide HB3⟩
    | ok s0 =>
      rw [hnew] at hq
      obtain ⟨⟨F, P, T, A, lo, hi⟩, rfl, hrep, hge, b3⟩ := hq
      simp only at hge
      have HB3 : Hid (Below w.heap.size w w3) := (unhide HB2).trans (b3.mono (unhide HB2).size)
      have hsz2 := (unhide HB2).size
      have HGE : Hid (w.heap.size ≤ F ∧ w.heap.size ≤ P ∧ w.heap.size ≤ T ∧ w.heap.size ≤ A) := ⟨by omega, by omega, by omega, by omega⟩
      obtain ⟨f1, f2, f3, f4⟩ := new_facts hnew
      have HF1 := hide f1
      have HF2 := hide f2
      have HF3 : Hid (s0.n = n1 + n2) := by rw [(unhide HP).len, (unhide HF).len] at f3; exact f3
      have HF4 := hide f4
      have HREP := hide hrep
      obtain ⟨N, hN, hNl⟩ := mod_bounds (x := x) (n := n1) (by omega) q1
      have hNp : N < ps.length := by rw [(unhide HP).len]; exact hNl
      obtain ⟨b, o, ha, hel⟩ : ∃ b o, a1 = some ⟨b, o, none⟩ ∧ ∀ k (hk : k < ps.length), PgAt w b (o + k * 2) ps[k] := by
        rcases (unhide HP).els with h | h
        · omega
        · exact h
      subst ha
      obtain ⟨u, l, hpk⟩ : ∃ u l, ps[N] = (u, l) := ⟨_, _, rfl⟩
      have hk0 := hel N hNp
      rw [hpk] at hk0
      obtain ⟨hu0, hul, hcap, a, n, c, hd0, hby0, hnl, hbl⟩ := hk0
      simp only at hu0 hul hby0
      have hb := lt_of_cell hu0
      simp only at hb
      have cu : w3.cell? ⟨b, o + N * 2, none⟩ = some (.string u) := ((unhide HB3).cell (p := ⟨b, o + N * 2, none⟩) hb).trans hu0
      have cd : w3.cell? ⟨b, o + N * 2 + 1, none⟩ = some (.slice a n c) := ((unhide HB3).cell (p := ⟨b, o + N * 2 + 1, none⟩) hb).trans hd0
      have hnc : n ≤ c := hcap a n c hd0
      have HBY := hide hby0
      have HPG : Hid (s0.pg u = some l) := by have := f1 ps[N] (List.getElem_mem _); rw [hpk] at this; exact this
      clear hnew b3 hrep hge f1 f2 f3 f4 HB2 hel hpk hu0 hcap hd0 hby0 hbl
      go_wp2_with (go_at_call 9; refine (num_any 0 w3).mono ?_; rintro e w4 ⟨rfl, hw⟩; rw [hw]; clear hw w4)
      obtain ⟨M, hM, hMl⟩ : ∃ M : Nat, (wrap64 (y.tmod 20 + 20)).tmod 20 = (M : Int) ∧ M < 20 := by
        have := mod_bounds (x := y) (n := 20) (by omega) (by omega)
        simpa using this
      obtain ⟨W5, hW5⟩ : ∃ W5, w3.alloc (.cells #[.string u, .slice a n c] 68) = W5 := ⟨_, rfl⟩
      have HI0 : Hid (HonInv w ⟨F, P, T, A, lo, hi⟩ s0 u l w3.heap.size a n c 1 W5) := by
        have al : Below w3.heap.size w3 W5 := by rw [← hW5]; exact (Below.refl _ _).alloc (Nat.le_refl _) _
        have bk : W5.heap[w3.heap.size]? = some (.cells #[.string u, .slice a n c] 68 (0, 0)) := by rw [← hW5]; exact heap_new w3 _
        exact ⟨⟨s0, (unhide HREP).below al, unhide HPG, fun _ => rfl, by rw [(unhide HF2) u], rfl⟩, (unhide HB3).trans (al.mono (unhide HB3).size), Lib.cell_of_heap bk 0, Lib.cell_of_heap bk 1⟩
      have HORD : Hid (F < w3.heap.size ∧ A < w3.heap.size) := by
        obtain ⟨o1, o2, o3, o4, o5, o6⟩ := (unhide HREP).ord
        simp only at o1 o4 o5 o6
        exact ⟨by omega, by omega⟩
      obtain ⟨pb, hpb⟩ : ∃ pb, w3.heap.size = pb := ⟨_, rfl⟩
      rw [hW5]
      rw [hpb] at HI0 HORD ⊢
      clear hW5 hpb HREP HF2 cu cd
      go_loopw [14, 15, 16, 17, 18] (fun v _ _ _ _ wr => ∃ k : Nat, 1 ≤ k ∧ k ≤ 21 ∧ v = .int .i64 k ∧ HonInv w ⟨F, P, T, A, lo, hi⟩ s0 u l pb a n c k wr) (fun v _ _ _ _ _ => 21 - (intOf v).toNat)
      case atStart => exact ⟨1, Nat.le_refl _, by omega, rfl, unhide HI0⟩
      case round =>
        clear HI0
        obtain ⟨k, hk1, hk21, rfl, hinv⟩ := hrel
        obtain ⟨⟨s, hrep, hpg, hft, haq, hsn⟩, hlow, x0, x1⟩ := hinv
        by_cases hkM : k ≤ M
        · have HR := hide hrep
          have HPGs := hide hpg
          have HFT := hide hft
          have HAQ := hide haq
          have HSN := hide hsn
          have HLOW := hide hlow
          have HX := hide (And.intro x0 x1)
          have hsn' : s.n ≤ 1000000 := by have := unhide HF3; omega
          obtain ⟨ag, hag⟩ : ∃ ag, getR s u = ag := ⟨_, rfl⟩
          have HAG := hide hag
          have HGET := hide (get_any hrep hsn' hul)
          rw [hag] at HGET
          clear hrep hpg hft haq hsn hlow hag
          go_wp2_with (go_at_call 10; fail)
          refine (unhide HGET).mono ?_
          rintro e w4 ⟨v, rfl, hans, hr4, hf4⟩
          obtain ⟨st, d, tk⟩ := ag
          obtain ⟨a', c', rfl, hrow, hdl⟩ := hans
          simp only at hrow hdl ⊢
          obtain ⟨r1, r2, _, _⟩ := row_bytes hrow
          have hk4 : ∀ q, q < wr.heap.size → q ≠ F → q ≠ A → w4.heap[q]? = wr.heap[q]? := hf4.block
          have hpbl : pb < wr.heap.size := lt_of_cell x0
          have hpF : pb ≠ F ∧ pb ≠ A := by have := unhide HORD; omega
          have x4 : w4.cell? ⟨pb, 0, none⟩ = some (.string u) := cell_same (a := ⟨pb, 0, none⟩) (hk4 pb hpbl hpF.1 hpF.2) x0
          have x5 : w4.cell? ⟨pb, 1, none⟩ = some (.slice a n c) := cell_same (a := ⟨pb, 1, none⟩) (hk4 pb hpbl hpF.1 hpF.2) x1
          have low4 : Below w.heap.size w w4 := by
            have hge := unhide HGE
            exact hf4.below (unhide HLOW) (unhide HLOW).size hge.1 hge.2.2.2
          obtain ⟨W6, hW6⟩ : ∃ W6, w4.alloc (.cells #[.int .i64 st, .slice a' d.length c', .int .i64 tk] 34) = W6 := ⟨_, rfl⟩
          have al6 : Below w4.heap.size w4 W6 := by rw [← hW6]; exact (Below.refl _ _).alloc (Nat.le_refl _) _
          have bk6 : W6.heap[w4.heap.size]? = some (.cells #[.int .i64 st, .slice a' d.length c', .int .i64 tk] 34 (0, 0)) := by rw [← hW6]; exact heap_new w4 _
          have pb4 : pb < w4.heap.size := lt_of_cell x4
          have y0 : W6.cell? ⟨pb, 0, none⟩ = some (.string u) := (al6.cell (p := ⟨pb, 0, none⟩) pb4).trans x4
          have y1 : W6.cell? ⟨pb, 1, none⟩ = some (.slice a n c) := (al6.cell (p := ⟨pb, 1, none⟩) pb4).trans x5
          have z0 : W6.cell? ⟨w4.heap.size, 0, none⟩ = some (.int .i64 st) := Lib.cell_of_heap bk6 0
          have z1 : W6.cell? ⟨w4.heap.size, 1, none⟩ = some (.slice a' d.length c') := Lib.cell_of_heap bk6 1
          have z2 : W6.cell? ⟨w4.heap.size, 2, none⟩ = some (.int .i64 tk) := Lib.cell_of_heap bk6 2
          have HR6 : Hid (Rep W6 ⟨F, P, T, A, lo, hi⟩ (getS s u)) := hr4.below al6
          have HL6 : Hid (Below w.heap.size w W6) := low4.trans (al6.mono low4.size)
          have HBD : Hid (Bytes W6 a' d.length d) := bytes_below r1 al6
          have HBL : Hid (Bytes W6 a n l) := bytes_below (unhide HBY) (low4.trans (al6.mono low4.size))
          have HW6 := hide hW6
          have HNEXT : Hid (∀ q, HonInv w ⟨F, P, T, A, lo, hi⟩ s0 u l pb a n c (k + 1) (W6.drewN q)) := fun q =>
            ⟨⟨getS s u, (unhide HR6).below (belowN (Below.refl _ _) q), unhide HPGs, unhide HFT, by have := unhide HAQ; simp [getS]; omega, by have := unhide HSN; show s.n + 1 + 1 = _; omega⟩, belowN (unhide HL6) q, y0, y1⟩
          clear hrow hr4 hf4 hk4 x0 x1 x4 x5 low4 hW6 al6 bk6 r1 HGET HR HLOW
          go_wp2
          rw [unhide HW6]
          go_loopw [16, 17] (fun v16 v17 wx => ∃ j nx : Nat, j ≤ n2 ∧ v17 = .int .i64 j ∧ v16 = .bool (hitB (fs.take j) u k) ∧ wx = W6.drewN nx) (fun _ v17 _ => n2 - (intOf v17).toNat)
          case atStart => exact ⟨0, 0, Nat.zero_le _, rfl, rfl, rfl⟩
          case round =>
            obtain ⟨j, nx, hjn, rfl, rfl, hwx⟩ := hrel
            rename World => wi
            have HWX := hide hwx
            by_cases hlj : j < n2
            · have hjp : j < fs.length := by rw [(unhide HF).len]; exact hlj
              obtain ⟨fb, fo, ha, hel⟩ : ∃ b o, a2 = some ⟨b, o, none⟩ ∧ ∀ k (hk : k < fs.length), FaAt w b (o + k * 5) fs[k] := by
                rcases (unhide HF).els with h | h
                · omega
                · exact h
              subst ha
              obtain ⟨hu0, _, ⟨y1', _, _⟩, _⟩ := hel j hjp
              have hfb := lt_of_cell hu0
              simp only at hfb
              obtain ⟨fu, hfu⟩ : ∃ fu, fs[j].u = fu := ⟨_, rfl⟩
              obtain ⟨fk, hfk⟩ : ∃ fk, fs[j].k = fk := ⟨_, rfl⟩
              have t0 : wi.cell? ⟨fb, fo + j * 5, none⟩ = some (.string fu) := by rw [hwx, ← hfu]; exact ((unhide HL6).cell (p := ⟨fb, fo + j * 5, none⟩) hfb).trans hu0
              have t1 : wi.cell? ⟨fb, fo + j * 5 + 1, none⟩ = some (.int .i64 fk) := by rw [hwx, ← hfk]; exact ((unhide HL6).cell (p := ⟨fb, fo + j * 5 + 1, none⟩) hfb).trans y1'
              have t2 : wi.cell? ⟨pb, 0, none⟩ = some (.string u) := by rw [hwx]; exact y0
              have HNX := hide (hit_next (u := u) (k := (k : Int)) hjp)
              rw [hfu, hfk] at HNX
              obtain ⟨hb0, hhb⟩ : ∃ hb0, hitB (fs.take j) u k = hb0 := ⟨_, rfl⟩
              rw [hhb] at HNX ⊢
              clear hel hu0 y1' hfu hfk hwx hhb y0 y1 z0 z1 z2
              cases hb0 with
              | true =>
                have HN1 : Hid (hitB (fs.take (j + 1)) u k = true) := by show hitB _ _ _ = true; have := unhide HNX; simpa using this
                clear HNX
                go_wp2
                go_quiet (fail)
                go_wp2
                go_roundw
                case rel => exact ⟨j + 1, nx + nq, hlj, by simp, by rw [unhide HN1], by rw [unhide HWX, World.drewN_drewN]⟩
                case measure => simp [intOf]; omega
              | false =>
                by_cases hue : fu = u
                · subst hue
                  have e3 : (fu.toList == fu.toList) = true := by simp
                  by_cases hke : fk = (k : Int)
                  · subst hke
                    have HN1 : Hid (hitB (fs.take (j + 1)) fu k = true) := by show hitB _ _ _ = true; have := unhide HNX; simpa using this
                    clear HNX
                    go_wp2
                    go_quiet (fail)
                    go_wp2
                    go_roundw
                    case rel => exact ⟨j + 1, nx + nq, hlj, by simp, by rw [unhide HN1], by rw [unhide HWX, World.drewN_drewN]⟩
                    case measure => simp [intOf]; omega
                  · have HN1 : Hid (hitB (fs.take (j + 1)) fu k = false) := by show hitB _ _ _ = false; have := unhide HNX; simpa [hke] using this
                    have e4 : (fk == (k : Int)) = false := by simp [hke]
                    clear HNX
                    go_wp2
                    go_quiet (fail)
                    go_wp2
                    go_roundw
                    case rel => exact ⟨j + 1, nx + nq, hlj, by simp, by rw [unhide HN1], by rw [unhide HWX, World.drewN_drewN]⟩
                    case measure => simp [intOf]; omega
                · have HN1 : Hid (hitB (fs.take (j + 1)) u k = false) := by show hitB _ _ _ = false; have := unhide HNX; simpa [hue] using this
                  have e3 : (fu.toList == u.toList) = false := text_ne hue
                  have e5 : ¬ fu.toList = u.toList := by simpa using e3
                  clear HNX
                  go_wp2
                  go_quiet (fail)
                  go_wp2
                  go_roundw
                  case rel => exact ⟨j + 1, nx + nq, hlj, by simp, by rw [unhide HN1], by rw [unhide HWX, World.drewN_drewN]⟩
                  case measure => simp [intOf]; omega
            · have hjn2 : j = n2 := by omega
              have HFULL : Hid (fs.take j = fs) := List.take_of_length_le (by rw [(unhide HF).len]; omega)
              have y0 : wi.cell? ⟨pb, 0, none⟩ = some (.string u) := by rw [hwx]; exact y0
              have y1 : wi.cell? ⟨pb, 1, none⟩ = some (.slice a n c) := by rw [hwx]; exact y1
              have z0 : wi.cell? ⟨w4.heap.size, 0, none⟩ = some (.int .i64 st) := by rw [hwx]; exact z0
              have z1 : wi.cell? ⟨w4.heap.size, 1, none⟩ = some (.slice a' d.length c') := by rw [hwx]; exact z1
              have z2 : wi.cell? ⟨w4.heap.size, 2, none⟩ = some (.int .i64 tk) := by rw [hwx]; exact z2
              have HSB : Hid (Calls Try.prog 11 #[.slice a' d.length c', .slice a n c] wi fun e w' => e = .returned (.bool (decide (d = l))) ∧ ∃ nq, w' = wi.drewN nq) := by
                refine sameBytes_any ?_ ?_ (by omega) r2 hnc
                · rw [hwx]; exact bytes_below (unhide HBD) (belowN (Below.refl _ _) nx)
                · rw [hwx]; exact bytes_below (unhide HBL) (belowN (Below.refl _ _) nx)
              have hfull : hitB (fs.take j) u k = hitB fs u k := by rw [unhide HFULL]
              rw [hfull]
              clear hfull hwx
              cases hhit : hitB fs u k with
              | true =>
                clear hhit
                go_wp2_with (go_at_call 11; fail)
                refine (unhide HSB).mono ?_
                rintro e w7 ⟨rfl, nq, hw7⟩
                have HW7 := hide hw7
                clear hw7
                go_wp2
                go_roundw
                case rel => exact ⟨k + 1, by omega, by omega, by simp, by rw [unhide HW7, unhide HWX, World.drewN_drewN]; exact (unhide HNEXT) _⟩
                case measure => simp [intOf]; omega
              | false =>
                have hnone : s.ft u k = none := hit_not hhit (fun h => (unhide HF4) u k (by rw [(unhide HFT) k] at h; exact h))
                have hgr : getR s u = ⟨200, l, 1⟩ := by
                  unfold getR
                  have hk' : ((s.aq u : Int) + 1) = (k : Int) := by have := unhide HAQ; omega
                  rw [hk', hnone, unhide HPGs]
                  rfl
                rw [unhide HAG] at hgr
                simp only [Ans.mk.injEq] at hgr
                obtain ⟨rfl, rfl, rfl⟩ := hgr
                clear hhit hnone
                go_wp2_with (go_at_call 11; fail)
                refine (unhide HSB).mono ?_
                rintro e w7 ⟨rfl, nq, hw7⟩
                have HW7 := hide hw7
                have z0 : w7.cell? ⟨w4.heap.size, 0, none⟩ = some (.int .i64 200) := by rw [hw7]; exact z0
                have z2 : w7.cell? ⟨w4.heap.size, 2, none⟩ = some (.int .i64 1) := by rw [hw7]; exact z2
                clear hw7
                go_wp2
                go_roundw
                case rel => exact ⟨k + 1, by omega, by omega, by simp, by rw [unhide HW7, unhide HWX, World.drewN_drewN]; exact (unhide HNEXT) _⟩
                case measure => simp [intOf]; omega
        · clear x0 x1
          have HLOW := hide hlow
          clear hrep hpg hft haq hsn hlow
          go_wp2
          go_ret
          exact ⟨rfl, unhide HLOW⟩

end Go.Proofs.Ytmbcjdlpdibalaa
