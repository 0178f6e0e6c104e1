/-
  A text read as base64.
-/
import Derived.Test.YtkablmjkffdloaaGreatDoorB64R
import Derived.Room.Make
namespace Go.Proofs.YtkablmjkffdloaaGreatDoor
open Go.RowKit

theorem idx_let (x : UInt8) : Lib.indexByte lettersB.data.toList x = match posN x with | some v => (v : Int) | none => -1 := by
  have : ∀ i : Fin 256, Lib.indexByte lettersB.data.toList (UInt8.ofNat i.1) = match posN (UInt8.ofNat i.1) with | some v => (v : Int) | none => -1 := by decide +kernel
  have h := this ⟨x.toNat, UInt8.toNat_lt x⟩
  simpa using h

/-- The bytes that are told; the error. -/
def fromV (s : Bs) : Bs := (fromL s).getD []
def fromE (s : Bs) : Int := if (fromL s).isSome then 0 else 15

theorem rd_next {l : Bs} {i : Nat} {t : Rd} {v : Nat} (hi : i < l.length) (h : Rd.all ⟨[], 0, 0⟩ (l.take i) = some t) (hv : posN l[i] = some v) : Rd.all ⟨[], 0, 0⟩ (l.take (i + 1)) = some (t.next v) := by
  rw [List.take_succ_eq_append_getElem hi, Rd.all_app, h]
  show Rd.all t [l[i]] = _
  simp [Rd.all, hv]
theorem rd_stop {l : Bs} {i : Nat} {t : Rd} (hi : i < l.length) (h : Rd.all ⟨[], 0, 0⟩ (l.take i) = some t) (hv : posN l[i] = none) : Rd.all ⟨[], 0, 0⟩ l = none := by
  have e : l = l.take i ++ (l[i] :: l.drop (i + 1)) := by rw [← List.drop_eq_getElem_cons hi, List.take_append_drop]
  rw [e, Rd.all_app, h]
  show Rd.all t (l[i] :: l.drop (i + 1)) = _
  simp [Rd.all, hv]
theorem from_none {s : Bs} (h : Rd.all ⟨[], 0, 0⟩ (trimE s) = none) : fromL s = none := by
  rw [← read_is]
  unfold readL
  rw [h]
theorem from_none2 {s : Bs} {t : Rd} (h : Rd.all ⟨[], 0, 0⟩ (trimE s) = some t) (hb : b64 t.out ≠ s) : fromL s = none := by
  rw [← read_is]
  unfold readL
  rw [h]
  simp [hb]
/-- The numbers of a letter more. -/
theorem rd_nums {h r k v : Nat} (hk : k = 2 ∨ k = 4 ∨ k = 6) (hr : h % 2 ^ k = r) (hv : v < 64) : (h * 64 % 4294967296 + v) / 2 ^ (k - 2) % 256 = (r * 64 + v) / 2 ^ (k - 2) ∧ (h * 64 % 4294967296 + v) % 2 ^ (k - 2) = (r * 64 + v) % 2 ^ (k - 2) ∧ (r * 64 + v) / 2 ^ (k - 2) < 256 ∧ h * 64 % 4294967296 + v < 4294967296 := by
  rcases hk with rfl | rfl | rfl <;> simp at * <;> omega
theorem rd_or {h v : Nat} (hv : v < 64) : h * 64 % 4294967296 ||| v = h * 64 % 4294967296 + v := by
  have e : h * 64 % 4294967296 = 2 ^ 6 * (h % 67108864) := by omega
  rw [e]
  exact (Nat.two_pow_add_eq_or_of_lt (by simpa using hv) _).symm

set_option maxRecDepth 100000 in
set_option maxHeartbeats 4000000 in
theorem fromB64_any {w : World} {s : Bs} (hs : s.length ≤ 1000000) :
    Calls Tryz.prog 24 #[.string ⟨s.toArray⟩] w fun e w' => ∃ v, e = .returned (.tuple #[v, .int .i64 (fromE s)]) ∧ OwnB w.heap.size w' v (fromV s) ∧ Below w.heap.size w w' := by
  obtain ⟨i0, hi, hz0, hz1, hz2⟩ := info_parts info5
  have htr : Lib.trimRightB (⟨s.toArray⟩ : ByteArray).data.toList 61 = trimE s := rfl
  have HTR := hide (Tryz.strings_TrimRight_one ⟨s.toArray⟩ 61 (by decide) w (by show s.toArray.size ≤ _; simp; omega))
  rw [htr] at HTR
  have hll : (trimE s).length ≤ s.length := by
    unfold trimE
    rw [List.length_reverse]
    have := (List.dropWhile_suffix (l := s.reverse) (· == (61 : UInt8))).length_le
    rwa [List.length_reverse] at this
  obtain ⟨l, hl⟩ : ∃ l, trimE s = l := ⟨_, rfl⟩
  rw [hl] at HTR hll
  obtain ⟨S, hS⟩ : ∃ S : ByteArray, ⟨l.toArray⟩ = S := ⟨_, rfl⟩
  rw [hS] at HTR
  obtain ⟨m, hm⟩ : ∃ m, l.length = m := ⟨_, rfl⟩
  have hsz : S.size = m := by rw [← hS]; show l.toArray.size = m; simpa using hm
  have HSA : Hid (∀ i (h1 : i < S.size) (h2 : i < l.length), S[i]'h1 = l[i]'h2) := hide (by
    subst hS
    intro i h1 h2
    rfl)
  have HL := hide hl
  have HM := hide hm
  obtain ⟨q, hq⟩ : ∃ q, m / 4 = q := ⟨_, rfl⟩
  obtain ⟨q3, hq3⟩ : ∃ x, q * 3 = x := ⟨_, rfl⟩
  obtain ⟨q4, hq4⟩ : ∃ x, q3 + 2 = x := ⟨_, rfl⟩
  have e1 : (m : Int) / 4 = (q : Int) := by omega
  have e2 : (q : Int) * 3 = (q3 : Int) := by omega
  have e3 : (q3 : Int) + 2 = (q4 : Int) := by omega
  have q4b : q4 ≤ 1000002 := by omega
  have w4 : IntKind.i64.wrap (q4 : Int) = (q4 : Int) := wrapI q4 (by omega)
  have hmb : m ≤ 1000000 := by omega
  clear htr hl hS hm hq hq3 hq4 hll
  go_enter Tryz.func24, Tryz.ntmps24
  go_wp2_with (first | (go_at_call 78; refine (unhide HTR).mono ?_; rintro e wn ⟨rfl, hwn⟩; rw [hwn]; clear hwn wn) | (at_make; refine wpList_make_own _ rfl _ _ 23 rfl w.heap.size 5 i0 (.int .u8 0) 1 Tryz.underlying23 hi hz0 hz1 _ _ _ q4 rfl rfl rfl (by rw [hz2]; omega) (by unfold maxLen; omega) (Nat.le_refl _) ?_; intro w1 hown hgrow; have HB1 : Hid (Below w.heap.size w w1) := hide (low_grownN hgrow); have HO1 : Hid (OwnB w.heap.size w1 (.slice (some ⟨w.heap.size, 0, none⟩) 0 q4) []) := hide hown; clear hown hgrow))
  clear HTR hi hz0 hz1 hz2
  go_loopw [5, 6, 7, 8, 9, 20] (fun v5 v6 v7 _ _ v20 wr => ∃ (i h : Nat) (t : Rd), i ≤ m ∧ v20 = .int .i64 (i : Int) ∧ Rd.all ⟨[], 0, 0⟩ (l.take i) = some t ∧ t.out.length ≤ i ∧ (t.k = 0 ∨ t.k = 2 ∨ t.k = 4 ∨ t.k = 6) ∧ h % 2 ^ t.k = t.r ∧ h < 4294967296 ∧ v6 = .int .u32 (h : Int) ∧ v7 = .int .u32 (t.k : Int) ∧ OwnB w.heap.size wr v5 t.out ∧ Below w.heap.size w wr) (fun _ _ _ _ _ v20 _ => m - (intOf v20).toNat)
  case atStart => exact ⟨0, 0, ⟨[], 0, 0⟩, Nat.zero_le _, rfl, rfl, Nat.le_refl _, Or.inl rfl, rfl, by decide, rfl, rfl, unhide HO1, unhide HB1⟩
  case round =>
    rename World => wr
    obtain ⟨i, h, t, him, rfl, hrd, hol, hk, hr, hh, rfl, rfl, ho, hbw⟩ := hrel
    clear HO1 HB1
    by_cases hlt : i < m
    · have hil : i < l.length := by rw [unhide HM]; exact hlt
      have hiS : i < S.size := by rw [hsz]; exact hlt
      have hidx := unhide HSA i hiS hil
      obtain ⟨x, hx⟩ : ∃ x, l[i] = x := ⟨_, rfl⟩
      rw [hx] at hidx
      have HIB := hide (Tryz.strings_IndexByte lettersB (x.toNat : Int) wr)
      have hxx : (x.toNat : Int).toNat.toUInt8 = x := by simp
      rw [hxx, idx_let] at HIB
      unfold lettersB at HIB
      cases hp : posN x with
      | none =>
        rw [hp] at HIB
        have hn0 := from_none (s := s) (by rw [unhide HL]; exact rd_stop hil hrd (by rw [hx]; exact hp))
        have HE : Hid (fromE s = 15 ∧ fromV s = []) := hide ⟨by unfold fromE; rw [hn0]; rfl, by unfold fromV; rw [hn0]; rfl⟩
        have HBW := hide hbw
        clear hrd ho hbw hn0 hp hx hil hxx hr hol
        go_wp2_with (go_at_call 79; refine (unhide HIB).mono ?_; rintro e wn ⟨rfl, hwn⟩; rw [hwn]; clear hwn wn)
        go_ret2
        rw [(unhide HE).1, (unhide HE).2]
        exact ⟨.slice none 0 0, rfl, World.ownsRow_nil _ _ _ _, unhide HBW⟩
      | some v =>
        rw [hp] at HIB
        have hv := pos_lt hp
        have hnext := rd_next hil hrd (by rw [hx]; exact hp)
        obtain ⟨A, hA⟩ : ∃ A, h * 64 % 4294967296 = A := ⟨_, rfl⟩
        have hAb : A < 4294967296 := by omega
        have a1 : (h : Int) * 64 % 4294967296 = (A : Int) := by omega
        have hor := rd_or (h := h) hv
        rw [hA] at hor
        obtain ⟨A2, hA2⟩ : ∃ A2, A + v = A2 := ⟨_, rfl⟩
        rw [hA2] at hor
        have hA2b : A2 < 4294967296 := by omega
        have a2 : bits .or .u32 (A : Int) (v : Int) = (A2 : Int) := by
          have := u32_or_nat A v hAb (by omega)
          rw [hor] at this
          exact this
        have a3 : IntKind.u32.wrap (v : Int) = (v : Int) := by rw [IntKind.wrap_u32']; omega
        obtain ⟨kk, hkk⟩ : ∃ kk, t.k = kk := ⟨_, rfl⟩
        rw [hkk] at hk hr ⊢
        obtain ⟨k6, hk6⟩ : ∃ k6, kk + 6 = k6 := ⟨_, rfl⟩
        have a4 : (kk : Int) + 6 = (k6 : Int) := by omega
        have k6b : k6 ≤ 12 := by omega
        by_cases hk0 : kk = 0
        · subst hk0
          have hn2 : t.next v = ⟨t.out, t.r * 64 + v, 6⟩ := by unfold Rd.next; rw [hkk]; rfl
          rw [hn2] at hnext
          have k6e : k6 = 6 := by omega
          subst k6e
          have hr2 : A2 % 2 ^ 6 = t.r * 64 + v := by rw [← hr]; simp; omega
          have HR := hide (And.intro hnext (And.intro hr2 (And.intro ho hbw)))
          have hol' : t.out.length ≤ i + 1 := by omega
          clear hrd ho hbw hnext hp hx hil hxx hr hol hA hA2 hor hn2 hkk hr2 hk hk6
          go_wp2_with (go_at_call 79; refine (unhide HIB).mono ?_; rintro e wn ⟨rfl, hwn⟩; rw [hwn]; clear hwn wn)
          go_roundw
          case rel => exact ⟨i + 1, A2, ⟨t.out, t.r * 64 + v, 6⟩, hlt, by push_cast; rfl, (unhide HR).1, hol', Or.inr (Or.inr (Or.inr rfl)), (unhide HR).2.1, hA2b, rfl, rfl, (unhide HR).2.2.1, (unhide HR).2.2.2⟩
          case measure => simp [intOf]; omega
        · have hk2 : kk = 2 ∨ kk = 4 ∨ kk = 6 := by omega
          obtain ⟨n1, n2, n3, n4⟩ := rd_nums hk2 hr hv
          rw [hA, hA2] at n1 n2
          obtain ⟨k2, hk2e⟩ : ∃ k2, kk - 2 = k2 := ⟨_, rfl⟩
          rw [hk2e] at n1 n2 n3
          have hn2 : t.next v = ⟨t.out ++ [UInt8.ofNat ((t.r * 64 + v) / 2 ^ k2)], (t.r * 64 + v) % 2 ^ k2, k2⟩ := by
            unfold Rd.next
            rw [hkk, if_pos (by omega), hk2e]
          rw [hn2] at hnext
          obtain ⟨y, hy⟩ : ∃ y : UInt8, UInt8.ofNat ((t.r * 64 + v) / 2 ^ k2) = y := ⟨_, rfl⟩
          have hyn : y.toNat = (t.r * 64 + v) / 2 ^ k2 := by rw [← hy, UInt8.toNat_ofNat']; exact Nat.mod_eq_of_lt n3
          rw [hy] at hnext
          have a5 : (k6 : Int) - 8 = (k2 : Int) := by omega
          have k2b : k2 ≤ 4 := by omega
          obtain ⟨D, hD⟩ : ∃ D, A2 / 2 ^ k2 = D := ⟨_, rfl⟩
          have a6 : (A2 : Int) / 2 ^ k2 = (D : Int) := by rw [pow_int, ← Int.natCast_ediv, hD]
          have Db : D < 4294967296 := by rw [← hD]; exact Nat.lt_of_le_of_lt (Nat.div_le_self _ _) hA2b
          have a7 : IntKind.u8.wrap (D : Int) = (y.toNat : Int) := by rw [IntKind.wrap_u8, hyn, ← n1, hD]; omega
          have a8 : (D : Int) % 256 = (y.toNat : Int) := by rw [hyn, ← n1, hD]; omega
          have a9 : (8 : Int) ≤ (k6 : Int) := by omega
          obtain ⟨W1, hW1⟩ : ∃ W1, wr.alloc (.cells #[.int .u8 (y.toNat : Int)] 5) = W1 := ⟨_, rfl⟩
          have hW1' : Hid (wr.alloc (.cells #[.int .u8 (y.toNat : Int)] 5) = W1) := hide hW1
          have bW1 : Below wr.heap.size wr W1 := by rw [← hW1]; exact (Below.refl _ _).alloc (Nat.le_refl _) _
          have kW1 : Blk W1 wr.heap.size #[.int .u8 (y.toNat : Int)] 5 := by rw [← hW1]; exact Blk.new _ _ _
          obtain ⟨v', w', happ, hown, hgr⟩ := app_bytes (a := ⟨wr.heap.size, 0, none⟩) (m := [y]) (n := 1) (c := 1) (ho.low bW1) (Nat.le_trans hbw.size bW1.size) rfl (fun j hj => by
            have : j = 0 := by simp at hj; omega
            subst this
            exact kW1.cell 0) (by omega)
          have hgr2 : GrB wr w' u5 v' := (by rw [← hW1] at hgr; exact (GrB.alloc _ _ _).trans hgr)
          have HR := hide (And.intro hnext (And.intro n2 (And.intro hown (hbw.trans (hgr2.low hbw.size (OwnB.base ho))))))
          have hol' : (t.out ++ [y]).length ≤ i + 1 := by rw [List.length_append]; simp; omega
          have hk2d : k2 = 0 ∨ k2 = 2 ∨ k2 = 4 ∨ k2 = 6 := by omega
          clear hrd ho hbw hnext hp hx hil hxx hr hol hA hA2 hor hn2 hkk hk hk6 n1 n2 n3 n4 hk2e hy hyn hD hW1 bW1 kW1 hown hgr hgr2 hk2
          go_wp2_with (first | (go_at_call 79; refine (unhide HIB).mono ?_; rintro e wn ⟨rfl, hwn⟩; rw [hwn]; clear hwn wn) | (at_builtin; rw [unhide hW1']; refine Lib.wpList_append_run _ rfl (.tmp 40) (.tmp 45) 23 23 (by rfl) u5 (.slice (some ⟨wr.heap.size, 0, none⟩) 1 1) (by kernel_rfl) (by kernel_rfl) v' w' happ ?_))
          go_roundw
          case rel => exact ⟨i + 1, A2, ⟨t.out ++ [y], (t.r * 64 + v) % 2 ^ k2, k2⟩, hlt, by push_cast; rfl, (unhide HR).1, hol', hk2d, (unhide HR).2.1, hA2b, rfl, rfl, (unhide HR).2.2.1, (unhide HR).2.2.2⟩
          case measure => simp [intOf]; omega
    · have hie : i = m := by omega
      subst hie
      rw [List.take_of_length_le (by rw [unhide HM]; exact Nat.le_refl _), ← unhide HL] at hrd
      obtain ⟨oa, oc, rfl, oat, ocap, _⟩ := OwnB.at ho
      have HB6 := hide (base64_any (n := t.out.length) (c := oc) rfl (by omega) ocap oat)
      have hob : t.out.length ≤ 1000000 := by omega
      by_cases hb : b64 t.out = s
      · have hfs := from_is hb
        have HE : Hid (fromE s = 0 ∧ fromV s = t.out) := hide ⟨by unfold fromE; rw [hfs]; rfl, by unfold fromV; rw [hfs]; rfl⟩
        rw [hb] at HB6
        have HR := hide (And.intro ho hbw)
        clear hrd ho hbw hb hfs oat hr hk hol
        go_wp2_with (go_at_call 25; fail)
        refine (unhide HB6).mono ?_
        rintro e w2 ⟨rfl, b2⟩
        have HR2 := hide (And.intro (OwnB.low (unhide HR).1 b2) (low_trans (unhide HR).2 b2))
        clear b2
        go_wp2
        go_ret2
        rw [(unhide HE).1, (unhide HE).2]
        exact ⟨.slice oa t.out.length oc, rfl, (unhide HR2).1, (unhide HR2).2⟩
      · have hfs := from_none2 hrd hb
        have HE : Hid (fromE s = 15 ∧ fromV s = []) := hide ⟨by unfold fromE; rw [hfs]; rfl, by unfold fromV; rw [hfs]; rfl⟩
        have hne : (b64 t.out == s) = false := by simpa using hb
        have HBW := hide hbw
        clear hrd ho hbw hfs oat hr hk hol
        go_wp2_with (go_at_call 25; fail)
        refine (unhide HB6).mono ?_
        rintro e w2 ⟨rfl, b2⟩
        have HR2 := hide (low_trans (unhide HBW) b2)
        clear b2
        go_wp2
        go_ret2
        rw [(unhide HE).1, (unhide HE).2]
        exact ⟨.slice none 0 0, rfl, World.ownsRow_nil _ _ _ _, unhide HR2⟩
end Go.Proofs.YtkablmjkffdloaaGreatDoor
