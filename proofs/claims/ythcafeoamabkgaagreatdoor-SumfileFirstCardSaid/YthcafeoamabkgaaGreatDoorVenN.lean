/-
  ParseVendor.
-/
import Derived.Test.YthcafeoamabkgaaGreatDoorVenM
import Derived.Test.YthcafeoamabkgaaGreatDoorVenZ
namespace Go.Proofs.YthcafeoamabkgaaGreatDoor
open Go.RowKit

/-- What a text says, as a vendor list. -/
def vendF (t : Str) : List Vd × Nat × Int := if 65536 < t.length then ([], 0, 13) else readV t.length [] [] none 1 t

theorem stepV_same {ms : List Md} {y : Option Vd} {l : Str} {y' : Vd} (h : stepV ms y l = .same y') : ∃ y0, y = some y0 ∧ y'.pk.length ≤ y0.pk.length + 1 := by
  unfold stepV at h
  split at h
  · split at h <;> cases h
  · split at h
    · cases h
    · rename_i y0
      split at h
      · cases h; exact ⟨y0, rfl, Nat.le_succ _⟩
      · split at h
        · split at h
          · cases h; exact ⟨y0, rfl, by simp⟩
          · cases h
        · cases h

theorem readV_len {K : Nat} : ∀ (f : Nat) (ms : List Md) (xs : List Vd) (y : Option Vd) (k : Nat) (t : Str), (∀ z ∈ xs, z.pk.length ≤ k) → xs.length ≤ k → (∀ z, y = some z → z.pk.length ≤ k) → k + t.length ≤ K → (∀ z ∈ (readV f ms xs y k t).1, z.pk.length ≤ K) ∧ (readV f ms xs y k t).1.length ≤ K + 1
  | f, ms, xs, y, k, t, h1, h2, h3, h4 => by
    have base : (∀ z ∈ xs ++ y.toList, z.pk.length ≤ K) ∧ (xs ++ y.toList).length ≤ K + 1 := by
      refine ⟨fun z hz => ?_, ?_⟩
      · rcases List.mem_append.1 hz with hz | hz
        · have := h1 z hz; omega
        · have := h3 z (by cases y <;> simp_all); omega
      · rw [List.length_append]
        have : y.toList.length ≤ 1 := by cases y <;> simp
        omega
    have bad : (∀ z ∈ ([] : List Vd), z.pk.length ≤ K) ∧ ([] : List Vd).length ≤ K + 1 := ⟨fun z hz => (by cases hz), Nat.zero_le _⟩
    cases f with
    | zero => exact base
    | succ f =>
      unfold readV
      by_cases h0 : t = []
      · rw [if_pos h0]; exact base
      · rw [if_neg h0]
        have hlt := behind_lt 10 h0
        cases hs : stepV ms y (ahead 10 t) with
        | bad e => exact bad
        | new m =>
          simp only
          split
          · refine readV_len f _ _ _ _ _ (fun z hz => ?_) ?_ (fun z hz => by cases hz; exact Nat.zero_le _) (by omega)
            · rcases List.mem_append.1 hz with hz | hz
              · have := h1 z hz; omega
              · have := h3 z (by cases y <;> simp_all); omega
            · rw [List.length_append]
              have : y.toList.length ≤ 1 := by cases y <;> simp
              omega
          · exact bad
        | same y' =>
          simp only
          obtain ⟨y0, e0, hy⟩ := stepV_same hs
          split
          · exact readV_len f _ _ _ _ _ (fun z hz => by have := h1 z hz; omega) (by omega) (fun z hz => by cases hz; have := h3 y0 e0; omega) (by omega)
          · exact bad

/-- A list that lies in memory, in the form in which it is sorted. -/
theorem vlist_ve {w0 w : World} {v : Value} {xs : List Vd} (h : VList w0 w v xs) (hb : ∀ z ∈ xs, z.pk.length ≤ 1000000) : ∃ (zs : List VE) (a : Option Addr) (c : Nat), zs.map Prod.fst = xs ∧ v = .slice a zs.length c ∧ PlainA a ∧ RowV w a zs ∧ PacksR w zs := by
  obtain ⟨zs, rfl, hrow, hall⟩ := h
  have key : ∀ l : List (Vd × Value), (∀ z ∈ l, w.ownsRow w0.heap.size 9 1 z.2 z.1.pk.length (strsV z.1.pk)) → (∀ z ∈ l, z.1.pk.length ≤ 1000000) → ∃ zs : List VE, zs.map vv = l ∧ PacksR w zs := by
    intro l
    induction l with
    | nil => intro _ _; exact ⟨[], rfl, fun z hz => by cases hz⟩
    | cons z l ih =>
      intro h1 h2
      obtain ⟨zs, e, hp⟩ := ih (fun z hz => h1 z (by simp [hz])) (fun z hz => h2 z (by simp [hz]))
      have hr := h1 z (by simp)
      obtain ⟨a, c, es⟩ := slice_own hr
      refine ⟨(z.1, a, z.1.pk.length, c) :: zs, by rw [List.map_cons, e]; congr 1; unfold vv; rw [← es], fun u hu => ?_⟩
      rcases List.mem_cons.1 hu with rfl | hu
      · refine ⟨rfl, h2 z (by simp), Or.inr ?_, ?_⟩
        · rcases hr.2 with ⟨e1, _⟩ | ⟨g, cap, cur, e1, _⟩
          · rw [es] at e1
            have ea : a = none := (Value.slice.inj e1).1
            intro ad h; rw [ea] at h; cases h
          · rw [es] at e1
            have ea : a = some ⟨g, 0, none⟩ := (Value.slice.inj e1).1
            intro ad h; rw [ea] at h; cases h; exact ⟨_, _, rfl⟩
        · rcases hr.2 with ⟨_, e0⟩ | ⟨g, cap, cur, e1, _⟩
          · exact Or.inl (List.length_eq_zero_iff.1 e0)
          · rw [es] at e1 hr; cases e1
            refine Or.inr ⟨g, 0, rfl, rowT_lt hr rfl, fun j hj => ?_⟩
            rw [Nat.zero_add]
            exact rowT_cell hr (by unfold strsV; rw [List.getElem?_map, List.getElem?_eq_getElem hj]; rfl)
      · exact hp u hu
  obtain ⟨ve, e, hp⟩ := key zs hall (fun z hz => hb _ (List.mem_map_of_mem hz))
  subst e
  have hl : (ve.map vv).length = ve.length := by simp
  unfold VRow at hrow
  rw [hl] at hrow
  obtain ⟨a, c, rfl⟩ := slice_own hrow
  refine ⟨ve, a, c, by rw [List.map_map]; rfl, rfl, ?_, ?_, hp⟩
  · rcases hrow.2 with ⟨e1, _⟩ | ⟨g, cap, cur, e1, _⟩
    · have ea : a = none := (Value.slice.inj e1).1
      intro ad h; rw [ea] at h; cases h
    · have ea : a = some ⟨g, 0, none⟩ := (Value.slice.inj e1).1
      intro ad h; rw [ea] at h; cases h; exact ⟨_, _, rfl⟩
  · rcases hrow.2 with ⟨_, e0⟩ | ⟨g, cap, cur, e1, _⟩
    · exact Or.inl (List.length_eq_zero_iff.1 e0)
    · cases e1
      exact Or.inr ⟨g, 0, rfl, rowT_lt hrow rfl, fun j u hu => by rw [Nat.zero_add]; exact rowT_cell hrow hu⟩

/-- What ParseVendor answers. -/
def VPSaid (w : World) (t : Str) (e : Ending) (w' : World) : Prop :=
  ∃ (v' : Value) (zs : List VE) (W : World), e = .returned (.tuple #[v', .int .i64 ((vendF t).2.1 : Nat), .int .i64 (vendF t).2.2]) ∧ zs.map Prod.fst = (vendF t).1 ∧ VSorted W zs v' w' ∧ Below w.heap.size w W

set_option maxRecDepth 100000 in
set_option maxHeartbeats 2000000 in
theorem vreadLines_long {w : World} {ck : Nat} {t : Str} (ht : 65536 < t.length) (hb : t.length < 4294967281) :
    Calls Tryz.prog 59 #[.string (ba t), .func (.func 60) #[.pointer (some ⟨ck, 0, none⟩)] #[]] w fun e w' => e = .returned (.tuple #[.slice none 0 0, .int .i64 0, .int .i64 13]) ∧ w' = w := by
  have hsz : (ba t).size = t.length := ba_size t
  have hq : (65536 : Int) < (t.length : Int) := by omega
  go_enter Tryz.func59, Tryz.ntmps59
  go_wp2
  go_ret3
  exact ⟨rfl, rfl⟩

set_option maxRecDepth 100000 in
set_option maxHeartbeats 4000000 in
theorem parseV_any {w : World} {t : Str} (hg : Gd w) (hb : t.length < 4294967281) : Calls Tryz.prog 20 #[.string (ba t)] w (VPSaid w t) := by
  have HC := hide (vendorCheck_any w)
  have HG := hide hg
  have HV : ∀ w1, RdAt w w1 (w.heap.size + 1) w.heap.size 0 [] (.slice none 0 0) [] none → Hid (Calls Tryz.prog 59 #[.string (ba t), .func (.func 60) #[.pointer (some ⟨w.heap.size + 1, 0, none⟩)] #[]] w1 (VReadsSaid w (vendF t))) := fun w1 hr => hide (by
    unfold vendF
    by_cases ht : 65536 < t.length
    · rw [if_pos ht]
      refine (vreadLines_long ht hb).mono ?_
      rintro e w' ⟨rfl, rfl⟩
      exact ⟨_, rfl, vlist_nil _ _, hr.low⟩
    · rw [if_neg ht]
      exact vreadLines_any (unhide HG) hr (by omega))
  have HL : Hid (∀ z ∈ (vendF t).1, z.pk.length ≤ 1000000) := hide (by
    unfold vendF
    by_cases ht : 65536 < t.length
    · rw [if_pos ht]; intro z hz; cases hz
    · rw [if_neg ht]
      intro z hz
      have := (readV_len (K := 65537) t.length [] [] none 1 t (fun z hz => by cases hz) (Nat.zero_le _) (fun z hz => by cases hz) (by omega)).1 z hz
      omega)
  have HL2 : Hid ((vendF t).1.length ≤ 1000000) := hide (by
    unfold vendF
    by_cases ht : 65536 < t.length
    · rw [if_pos ht]; exact Nat.zero_le _
    · rw [if_neg ht]
      have := (readV_len (K := 65537) t.length [] [] none 1 t (fun z hz => by cases hz) (Nat.zero_le _) (fun z hz => by cases hz) (by omega)).2
      omega)
  unfold VPSaid
  obtain ⟨R, hR⟩ : ∃ R, vendF t = R := ⟨_, rfl⟩
  rw [hR] at HV HL HL2 ⊢
  obtain ⟨xs, n, en⟩ := R
  have HVV := hide HV
  clear hg hR HV
  go_enter Tryz.func20, Tryz.ntmps20
  go_wp2_with (go_at_call 54; fail)
  refine (unhide HC).mono ?_
  rintro e w1 ⟨rfl, hr⟩
  have H59 := unhide HVV w1 hr
  clear hr HC
  go_wp2_with (go_at_call 59; fail)
  refine (unhide H59).mono ?_
  rintro e w2 ⟨v2, rfl, hl, b2⟩
  obtain ⟨zs, a, c, hz, rfl, h1, h2, h3⟩ := vlist_ve hl (unhide HL)
  have hzl : zs.length ≤ 1000000 := by
    have h4 := congrArg List.length hz
    rw [List.length_map] at h4
    have h5 := unhide HL2
    show zs.length ≤ 1000000
    rw [h4]
    exact h5
  have HS := hide (vendorSorted_any (c := c) ((unhide HG).low b2) rfl hzl h1 h2 h3)
  have HB2 := hide b2
  have HZ := hide hz
  clear hl b2 hz h1 h2 h3 hzl H59
  go_wp2_with (go_at_call 57; fail)
  refine (unhide HS).mono ?_
  rintro e w3 ⟨v3, rfl, hv⟩
  have HD := hide hv
  clear hv
  go_wp2
  go_ret3
  exact ⟨v3, zs, w2, rfl, unhide HZ, unhide HD, unhide HB2⟩

end Go.Proofs.YthcafeoamabkgaaGreatDoor
