/-
  A text signed by keys, the program's: a good one.
-/
import Derived.Test.YtkablmjkffdloaaGreatDoorKeyQ
import Derived.Maps.OwnSet
import Derived.Maps.OwnOps
import Derived.DeepKeys4
import Derived.Laws.EntriesVeiled
import Derived.Test.YtkablmjkffdloaaGreatDoorNamQ
namespace Go.Proofs.YtkablmjkffdloaaGreatDoor
open Go.RowKit Go.WideMaps Go.Maps

/-- A key: its name and its secret. -/
abbrev Ky := Bs × Bs
/-- A signer: a name and a number. -/
abbrev Sg := Bs × UInt32
abbrev sgV (x : Sg) : Value := .agg #[.string (ba x.1), .int .u32 (x.2.toNat : Int)]
abbrev sgK (x : Sg) : Lit := .string (keyBytes [.string x.1, .int .u32 (x.2.toNat : Int)])
def SgOk (x : Sg) : Prop := x.1.length ≤ maxLen
/-- Who a key's lines say. -/
def sgOf (k : Ky) : Sg := (k.1, idN k.1 k.2)

def heldR (v : Value) : Option (DataW Value × List MemPlace) := some (.held v, [])

theorem law154 : Keyed Tryz.prog 154 := Keyed.of_law (deep_law_laid (by kernel_rfl) (m := 2) (by omega) (by decide +kernel) (by kernel_rfl) (by rw [Tryz.underlying154]))

set_option maxRecDepth 100000 in
theorem key154 {x : Sg} (h : SgOk x) : keyOf Tryz.prog 154 (sgV x) = some (sgK x) := by
  obtain ⟨p, v⟩ := x
  have h1 : p.length ≤ maxLen := h
  have s1 : (ba p).size ≤ maxLen := by rw [ba_size]; exact h1
  have h3 : (Lit.int .u32 (v.toNat : Int)).wf = true := by
    have := u32_lt v
    have m1 : IntKind.u32.min = 0 := rfl
    have m2 : IntKind.u32.max = 4294967295 := rfl
    simp [Lit.wf, m1, m2]
    omega
  have hkt : Tryz.prog.keyType 154 = true := by kernel_rfl
  obtain ⟨m, hm⟩ : ∃ m, Tryz.prog.types.size = m + 2 := ⟨_, (by kernel_rfl : Tryz.prog.types.size = (Tryz.prog.types.size - 2) + 2)⟩
  have c154 : Tryz.prog.cellsOf 154 = 2 := by kernel_rfl
  have c9 : Tryz.prog.cellsOf 9 = 1 := by kernel_rfl
  have c39 : Tryz.prog.cellsOf 39 = 1 := by kernel_rfl
  unfold keyOf
  simp only [Tryz.underlying154]
  rw [if_pos (by simp [hkt, Value.formed, Tryz.underlying154, c154]), hm]
  unfold Program.keyLits
  simp only [Tryz.underlying154, Value.cells]
  rw [if_pos (by simp [c154])]
  simp [Program.keyLits, Tryz.underlying9, Tryz.underlying39, c9, c39, s1, h3, ba_data]

theorem sgK_inj {x y : Sg} (hx : SgOk x) (hy : SgOk y) (h : sgK x = sgK y) : x = y := by
  have h1 := key154 hx
  have h2 := key154 hy
  rw [h] at h1
  have h3 := law154.inj h1 h2
  obtain ⟨p, v⟩ := x
  obtain ⟨p', v'⟩ := y
  simp [ba_inj] at h3
  obtain ⟨rfl, h4⟩ := h3
  obtain rfl : v = v' := UInt32.toNat_inj.1 (by omega)
  rfl

/-- How many unlike ones there are. -/
def dcount : List Sg → Nat
  | [] => 0
  | x :: l => if x ∈ l then dcount l else dcount l + 1
theorem dcount_le : ∀ l, dcount l ≤ l.length
  | [] => Nat.le_refl _
  | x :: l => by
    have := dcount_le l
    simp only [dcount, List.length_cons]
    split <;> omega
theorem dcount_all : ∀ l : List Sg, dcount l = l.length ↔ l.Nodup
  | [] => by simp [dcount]
  | x :: l => by
    have h1 := dcount_le l
    have h2 := dcount_all l
    simp only [dcount, List.length_cons, List.nodup_cons]
    split
    · rename_i h; constructor
      · intro e; omega
      · rintro ⟨h3, _⟩; exact absurd h h3
    · rename_i h
      rw [← h2]
      constructor
      · intro e; exact ⟨h, by omega⟩
      · rintro ⟨_, e⟩; omega

/-- The map at block M has these. -/
structure SgAt (w : World) (M : Nat) (ks : List Sg) : Prop where
  own : ∃ D, w.ownsMap Tryz.prog 154 heldR M ks.length D ∧ (∀ x, SgOk x → Maps.has D (sgK x) = decide (x ∈ ks)) ∧ Maps.size D = dcount ks
theorem own_same {w w' : World} {k : TypeId} {b n : Nat} {D : DataW Value} (h : w.ownsMap Tryz.prog k heldR b n D) (hs : w'.heap[b]? = w.heap[b]?) : w'.ownsMap Tryz.prog k heldR b n D := by
  obtain ⟨es, clock, hb, r⟩ := h
  exact ⟨es, clock, hs.trans hb, r⟩
theorem SgAt.lt {w : World} {M : Nat} {ks : List Sg} (h : SgAt w M ks) : M < w.heap.size := by
  obtain ⟨D, h1, _⟩ := h.own
  exact h1.lt
theorem SgAt.low {w w' : World} {M : Nat} {ks : List Sg} (h : SgAt w M ks) (hb : Below w.heap.size w w') : SgAt w' M ks := by
  have hl := h.lt
  obtain ⟨D, h1, h2⟩ := h.own
  exact ⟨⟨D, own_same h1 (hb.block M hl), h2⟩⟩
theorem sg_new (w : World) : SgAt (w.alloc (.map #[] 0)) w.heap.size [] :=
  ⟨⟨.map [], World.ownsMap_made w Tryz.prog 154 heldR, fun x _ => by simp [Maps.has], by rfl⟩⟩

/-- Keys in a row. -/
structure KRow (w : World) (a : Option Addr) (ks : List Ky) : Prop where
  els : ks = [] ∨ ∃ B O, a = some ⟨B, O, none⟩ ∧ ∀ k (hk : k < ks.length), w.cell? ⟨B, O + k * 2, none⟩ = some (.string (ba ks[k].1)) ∧ w.cell? ⟨B, O + k * 2 + 1, none⟩ = some (.string (ba ks[k].2))
theorem KRow.low {w w' : World} {a : Option Addr} {ks : List Ky} (h : KRow w a ks) (hb : Below w.heap.size w w') : KRow w' a ks := by
  rcases h.els with h0 | ⟨B, O, ha, he⟩
  · exact ⟨Or.inl h0⟩
  · refine ⟨Or.inr ⟨B, O, ha, fun k hk => ?_⟩⟩
    obtain ⟨h1, h2⟩ := he k hk
    exact ⟨(hb.cell (lt_of_cell h1)).trans h1, (hb.cell (lt_of_cell h2)).trans h2⟩
theorem KRow.at {w : World} {a : Option Addr} {ks : List Ky} (h : KRow w a ks) {k : Nat} (hk : k < ks.length) : ∃ B O, a = some ⟨B, O, none⟩ ∧ w.cell? ⟨B, O + k * 2, none⟩ = some (.string (ba ks[k].1)) ∧ w.cell? ⟨B, O + k * 2 + 1, none⟩ = some (.string (ba ks[k].2)) := by
  rcases h.els with h0 | ⟨B, O, ha, he⟩
  · rw [h0] at hk; simp at hk
  · exact ⟨B, O, ha, he k hk⟩
def KyOk (k : Ky) : Prop := k.1.length ≤ 1000000 ∧ k.2.length ≤ 1000000
/-- Each key has a name, and no two are one signer's. -/
def signB (ks : List Ky) : Bool := ks.all (fun k => nameB k.1) && decide ((ks.map sgOf).Nodup)
theorem take_snoc {α : Type} {l : List α} {i : Nat} (h : i < l.length) : l.take (i + 1) = l.take i ++ [l[i]] := by
  rw [List.take_add_one, List.getElem?_eq_getElem h]; rfl
theorem dcount_mem {l m : List Sg} (h : ∀ x, x ∈ l ↔ x ∈ m) (hd : dcount l = dcount m) (x : Sg) : dcount (x :: l) = dcount (x :: m) := by
  simp only [dcount, h x, hd]

set_option maxRecDepth 100000 in
set_option maxHeartbeats 4000000 in
theorem areSigners_any {w : World} {a : Option Addr} {n c : Nat} {ks : List Ky} (hn : ks.length = n) (hN : n ≤ 1000) (hok : ∀ k ∈ ks, KyOk k) (h : KRow w a ks) :
    Calls Tryz.prog 107 #[.slice a n c] w fun e w' => e = .returned (.bool (signB ks)) ∧ Below w.heap.size w w' := by
  obtain ⟨M, hM⟩ : ∃ M, w.heap.size = M := ⟨_, rfl⟩
  have HN := hide hn
  have HK := hide h
  have HO := hide hok
  have HM := hide hM
  have hs0 := sg_new w
  rw [hM] at hs0
  have HS0 : Hid (SgAt (w.alloc (.map #[] 0)) M []) := hide hs0
  clear hn h hok hs0
  have hmk := run_makeMap (P := Tryz.prog) 197 w
  go_enter Tryz.func107, Tryz.ntmps107
  go_wp2
  clear hmk
  go_loopw [5, 9] (fun _ v9 wr => ∃ i : Nat, i ≤ n ∧ v9 = .int .i64 (i : Int) ∧ Hid ((ks.take i).all (fun k => nameB k.1) = true) ∧ SgAt wr M ((ks.take i).map sgOf).reverse ∧ Below w.heap.size w wr) (fun _ v9 _ => n - (intOf v9).toNat)
  case atStart => exact ⟨0, Nat.zero_le _, rfl, hide (by simp), by simpa using unhide HS0, lowA (Below.refl _ _) _⟩
  case round =>
    rename World => wr
    obtain ⟨i, hi, rfl, hna, hsg, hbw⟩ := hrel
    by_cases hlt : i < n
    · have hil : i < ks.length := by rw [unhide HN]; exact hlt
      have hlt' : (i : Int) < (n : Int) := by omega
      obtain ⟨B, O, rfl, g0, g1⟩ := ((unhide HK).low hbw).at hil
      obtain ⟨⟨nm, sec⟩, hx⟩ : ∃ x, ks[i] = x := ⟨_, rfl⟩
      rw [hx] at g0 g1
      simp only at g0 g1
      have hko : KyOk (nm, sec) := unhide HO _ (by rw [← hx]; exact List.getElem_mem hil)
      have ho1 : nm.length ≤ 1000000 := hko.1
      have ho2 : sec.length ≤ 1000000 := hko.2
      obtain ⟨bf, hbf⟩ : ∃ bf, wr.heap.size = bf := ⟨_, rfl⟩
      obtain ⟨W4, hW4⟩ : ∃ W4, wr.alloc (.cells #[.string (ba nm), .string (ba sec)] 75) = W4 := ⟨_, rfl⟩
      have b4 : Below wr.heap.size wr W4 := by rw [← hW4]; exact lowA (Below.refl _ _) _
      have q4 : Blk W4 bf #[.string (ba nm), .string (ba sec)] 75 := by rw [← hW4, ← hbf]; exact Blk.new _ _ _
      have f0 : W4.cell? ⟨bf, 0, none⟩ = some (.string (ba nm)) := q4.cell 0
      have f1 : W4.cell? ⟨bf, 1, none⟩ = some (.string (ba sec)) := q4.cell 1
      have KN := hide (isKeyName_any ho1 W4)
      have KS := hide (keySigner_any ho2 ho1 W4)
      unfold keyV at KS
      have HB4 := hide (low_trans hbw b4)
      have HSG := hide (hsg.low b4)
      have HX := hide hx
      have HW4 := hide hW4
      obtain ⟨p, hp⟩ : ∃ p, nameB nm = p := ⟨_, rfl⟩
      rw [hp] at KN
      have HP := hide hp
      clear hW4 b4 q4 hsg hbw hko ho1 ho2 hx hp HS0
      cases p with
      | false =>
        have HF : Hid (signB ks = false) := hide (by
          unfold signB
          have : ks.all (fun k => nameB k.1) = false := by
            rw [Bool.eq_false_iff]
            intro hall
            have := List.all_eq_true.1 hall _ (List.getElem_mem hil)
            rw [unhide HX] at this
            simp only at this
            rw [unhide HP] at this
            cases this
          rw [this]
          rfl)
        go_wp2_with (go_at_call 151; fail)
        rw [unhide HW4]
        go_wp2_with (go_at_call 151; fail)
        refine (unhide KN).mono ?_
        rintro e wn ⟨rfl, hwn⟩
        rw [hwn]
        clear hwn wn
        go_wp2
        go_ret
        exact ⟨by (rw [unhide HF]) <;> rfl, unhide HB4⟩
      | true =>
        have HA : Hid ((ks.take (i + 1)).all (fun k => nameB k.1) = true) := hide (by
          rw [take_snoc hil, List.all_append, unhide hna, unhide HX]
          simp [unhide HP])
        have HT : Hid (((ks.take (i + 1)).map sgOf).reverse = (nm, idN nm sec) :: ((ks.take i).map sgOf).reverse) := hide (by
          rw [take_snoc hil, unhide HX]
          simp [sgOf])
        have hok : SgOk (nm, idN nm sec) := by
          have h1 := (unhide HO _ (List.getElem_mem hil)).1
          rw [unhide HX] at h1
          show nm.length ≤ maxLen
          unfold maxLen
          simp only at h1
          omega
        have hk := key154 hok
        have HOK := hide hok
        have HLI : Hid (((ks.take i).map sgOf).reverse.length ≤ 1000) := hide (by simp; omega)
        clear hok
        go_wp2_with (go_at_call 151; fail)
        rw [unhide HW4]
        go_wp2_with (go_at_call 151; fail)
        refine (unhide KN).mono ?_
        rintro e wn ⟨rfl, hwn⟩
        rw [hwn]
        clear hwn wn
        go_wp2_with (go_at_call 109; fail)
        refine (unhide KS).mono ?_
        rintro e w5 ⟨rfl, b5⟩
        obtain ⟨D, h1, h2, h3⟩ := ((unhide HSG).low b5).own
        have H1 := hide h1
        have H2 := hide h2
        have H3 := hide h3
        have HB5 := hide (low_trans (unhide HB4) b5)
        clear b5 h1 h2 h3
        obtain ⟨m5, hm5⟩ : ∃ m5, ((ks.take i).map sgOf).reverse.length = m5 := ⟨_, rfl⟩
        rw [hm5] at H1 HLI
        have HM5 := hide hm5
        clear hm5
        go_wp2_with (at_mapUpdate; refine wpList_mapUpdate_in _ rfl _ _ _ 197 rfl 154 198 law154 Tryz.underlying197 heldR M m5 D rfl (unhide H1) (by have := unhide HLI; unfold maxLen; omega) _ _ _ rfl rfl hk _ [] rfl ?_; intro w6 hown6 hturn6)
        have g6 := hturn6.grown
        have HB6 : Hid (Below w.heap.size w w6) := hide ((unhide HB5).grown g6 (unhide HB5).size (fun j hj => by cases hj; rw [unhide HM]; exact Nat.le_refl _))
        have HS6 : Hid (SgAt w6 M ((nm, idN nm sec) :: ((ks.take i).map sgOf).reverse)) := hide ⟨⟨_, by rw [List.length_cons, unhide HM5]; exact hown6, fun y hy => by
          by_cases e : y = (nm, idN nm sec)
          · subst e
            rw [has_put_same (unhide H1).isMap (law154.key hk)]
            simp
          · rw [has_put_other (fun e2 => e (sgK_inj hy (unhide HOK) e2)), (unhide H2) y hy]
            simp [e], by
          rw [size_put ((unhide H1).tidy law154), (unhide H2) _ (unhide HOK), unhide H3]
          simp only [dcount]
          simp⟩⟩
        clear hown6 hturn6 g6
        go_wp2
        go_roundw
        case rel => exact ⟨i + 1, hlt, by simp, HA, by rw [unhide HT]; exact unhide HS6, unhide HB6⟩
        case measure => simp [intOf]; omega
    · have hie : i = n := by omega
      subst hie
      obtain ⟨D, h1, h2, h3⟩ := hsg.own
      have hlen := h1.len Tryz.underlying197 3
      obtain ⟨z, hz⟩ : ∃ z, Maps.size D = z := ⟨_, rfl⟩
      rw [hz] at hlen
      have hall : ks.take i = ks := List.take_of_length_le (by rw [unhide HN]; exact Nat.le_refl _)
      rw [hall] at h3
      obtain ⟨b, hb⟩ : ∃ b, ((z : Int) == (i : Int)) = b := ⟨_, rfl⟩
      have HF : Hid (signB ks = b) := hide (by
        unfold signB
        have e1 := unhide hna
        rw [hall] at e1
        rw [e1, Bool.true_and, ← hb, Bool.eq_iff_iff]
        have e2 := dcount_all (ks.map sgOf).reverse
        rw [← h3, hz] at e2
        simp only [List.length_reverse, List.length_map] at e2
        rw [(List.reverse_perm (ks.map sgOf)).nodup_iff] at e2
        rw [unhide HN] at e2
        simp
        rw [← e2]
        omega)
      have HB := hide hbw
      clear h1 h2 h3 hz hall hna hsg hbw HS0
      go_wp2
      go_ret
      exact ⟨by (rw [unhide HF]) <;> rfl, unhide HB⟩
end Go.Proofs.YtkablmjkffdloaaGreatDoor

namespace Go.Proofs.YtkablmjkffdloaaGreatDoor
open Go.RowKit

set_option maxRecDepth 100000 in
set_option maxHeartbeats 1000000 in
theorem isText_any {l : Bs} (hl : l.length ≤ 1000000) (w : World) : Calls Tryz.prog 106 #[.string (ba l)] w fun e w' => e = .returned (.bool (textB l)) ∧ w' = w := by
  have KE : Hid (∀ W, Calls Tryz.prog 155 #[.string (ba l), .string ⟨#[10]⟩] W fun e w' => e = .returned (.bool (Lib.hasSuffix l [10])) ∧ w' = W) := hide (fun W => by
    have k := Tryz.strings_HasSuffix (ba l) (ba [10]) W (by rw [ba_size]; omega)
    rw [ba_data, ba_data] at k
    exact k)
  obtain ⟨n, hn⟩ : ∃ n, l.length = n := ⟨_, rfl⟩
  have hsz : (ba l).size = n := by rw [ba_size]; exact hn
  have HN := hide hn
  have hl2 : n ≤ 1000000 := by omega
  clear hn hl
  go_enter Tryz.func106, Tryz.ntmps106
  go_wp2
  go_loop [3, 6] (fun _ v6 => ∃ k : Nat, k ≤ n ∧ v6 = .int .i64 (k : Int) ∧ Hid ((l.take k).all textC = true)) (fun _ v6 => n - (intOf v6).toNat)
  case atStart => exact ⟨0, Nat.zero_le _, rfl, hide (by simp)⟩
  case round =>
    obtain ⟨k, hk, rfl, hne⟩ := hrel
    by_cases hlt : k < n
    · have hkl : k < l.length := by rw [unhide HN]; exact hlt
      have hlt' : (k : Int) < (n : Int) := by omega
      obtain ⟨c, hc⟩ : ∃ c, l[k] = c := ⟨_, rfl⟩
      have hidx : ∀ (h : k < (ba l).size), (ba l)[k]'h = c := fun h => by rw [← hc]; rfl
      by_cases g0 : c.toNat = 10
      · have a0 : ((c.toNat : Int) != 10) = false := by simp; omega
        have HF := hide (all_upto hkl (unhide hne) (p := textC) (by rw [hc]; unfold textC printB; simp; omega))
        clear hc g0
        go_wp2
        go_round
        case rel => exact ⟨k + 1, hlt, by simp, HF⟩
        case measure => simp [intOf]; omega
      · have a0 : ((c.toNat : Int) != 10) = true := by simp; omega
        have KP := hide (isPrinted_any c)
        obtain ⟨p, hp⟩ : ∃ p, printB c = p := ⟨_, rfl⟩
        rw [hp] at KP
        have hT : textC l[k] = p := by rw [hc]; unfold textC; rw [hp]; simp [g0]
        have HT := hide hT
        clear hT hp hc
        cases p with
        | false =>
          have HF : Hid (textB l = false) := hide (by unfold textB; rw [all_not hkl (unhide HT)]; rfl)
          go_wp2_with (go_at_call 154; refine (unhide KP _).mono ?_; rintro e wn ⟨rfl, hwn⟩; rw [hwn]; clear hwn wn)
          go_ret
          rw [unhide HF]
          exact ⟨rfl, rfl⟩
        | true =>
          have HF := hide (all_upto hkl (unhide hne) (p := textC) (unhide HT))
          go_wp2_with (go_at_call 154; refine (unhide KP _).mono ?_; rintro e wn ⟨rfl, hwn⟩; rw [hwn]; clear hwn wn)
          go_round
          case rel => exact ⟨k + 1, hlt, by simp, HF⟩
          case measure => simp [intOf]; omega
    · have hke : k = n := by omega
      subst hke
      have HA : Hid (l.all textC = true) := hide (by have := unhide hne; rw [List.take_of_length_le (Nat.le_of_eq (unhide HN))] at this; exact this)
      have HB : Hid (textB l = Lib.hasSuffix l [10]) := hide (by unfold textB; rw [unhide HA]; rfl)
      clear hne
      go_wp2_with (go_at_call 155; refine (unhide KE _).mono ?_; rintro e wn ⟨rfl, hwn⟩; rw [hwn]; clear hwn wn)
      go_ret
      rw [unhide HB]
      exact ⟨rfl, rfl⟩

/-- The line of a key. -/
def keyLine (text : Bs) (k : Ky) : Bs := sigLine k.1 (idN k.1 k.2) (sigL k.2 text)
/-- A note. -/
def noteL (text : Bs) (ks : List Ky) : Bs := text ++ [10] ++ ks.flatMap (keyLine text)
theorem noteL_snoc {text : Bs} {ks : List Ky} {i : Nat} (h : i < ks.length) : noteL text (ks.take (i + 1)) = noteL text (ks.take i) ++ keyLine text ks[i] := by
  unfold noteL
  rw [take_snoc h, List.flatMap_append]
  simp
theorem keyLine_len {text : Bs} {k : Ky} (h : k.1.length ≤ 50) : (keyLine text k).length ≤ 104 := by
  unfold keyLine sigLine
  have h1 := b64_len 12 (be4 (idN k.1 k.2) ++ sigL k.2 text) (by
    have : (sigL k.2 text).length = 32 := sha32 _
    rw [List.length_append, this]
    simp [be4])
  simp [dashB]
  omega
theorem noteL_len {text : Bs} {ks : List Ky} (h : ∀ k ∈ ks, k.1.length ≤ 50) : ∀ i, i ≤ ks.length → (noteL text (ks.take i)).length ≤ text.length + 1 + i * 104
  | 0, _ => by simp [noteL]
  | i + 1, hi => by
    have := noteL_len (text := text) h i (by omega)
    rw [noteL_snoc (by omega), List.length_append]
    have := keyLine_len (text := text) (h ks[i] (List.getElem_mem (by omega)))
    omega
end Go.Proofs.YtkablmjkffdloaaGreatDoor

namespace Go.Proofs.YtkablmjkffdloaaGreatDoor
open Go.RowKit

set_option maxRecDepth 100000 in
set_option maxHeartbeats 4000000 in
theorem sign_ok {w : World} {text : Bs} {a : Option Addr} {n c : Nat} {ks : List Ky} (ht : textB text = true) (hl : text.length ≤ 65536) (hn : ks.length = n) (h1 : 1 ≤ n) (h8 : n ≤ 8) (hs : signB ks = true) (hok : ∀ k ∈ ks, k.2.length ≤ 1000000) (h : KRow w a ks) :
    Calls Tryz.prog 54 #[.string (ba text), .slice a n c] w fun e w' => e = .returned (.tuple #[.string (ba (noteL text ks)), .int .i64 0]) ∧ Below w.heap.size w w' := by
  have hnm : ∀ k ∈ ks, k.1.length ≤ 50 := fun k hk => by
    unfold signB at hs
    simp only [Bool.and_eq_true] at hs
    have := List.all_eq_true.1 hs.1 k hk
    unfold nameB at this
    simp only [Bool.and_eq_true, decide_eq_true_eq] at this
    exact this.2.2
  have KT : Hid (∀ W, Calls Tryz.prog 106 #[.string (ba text)] W fun e w' => e = .returned (.bool true) ∧ w' = W) := hide (fun W => by have k := isText_any (l := text) (by omega) W; rw [ht] at k; exact k)
  have KA : Hid (Calls Tryz.prog 107 #[.slice a n c] w fun e w' => e = .returned (.bool true) ∧ Below w.heap.size w w') := hide (by
    have k := areSigners_any (c := c) hn (by omega) (fun k hk => ⟨by have := hnm k hk; omega, hok k hk⟩) h
    rw [hs] at k
    exact k)
  obtain ⟨tl, htl⟩ : ∃ tl, text.length = tl := ⟨_, rfl⟩
  have z0 : (ba text).size = tl := by rw [ba_size]; exact htl
  obtain ⟨T1, hT1⟩ : ∃ T1, text ++ [10] = T1 := ⟨_, rfl⟩
  have c1 : ba text ++ (⟨#[10]⟩ : ByteArray) = ba T1 := by rw [← hT1]; exact cat _ [10]
  have zt : (ba T1).size = tl + 1 := by rw [ba_size, ← hT1, ← htl]; simp
  have htl2 : tl ≤ 65536 := by omega
  have g0 : ¬ 9223372036854775807 < tl + 1 := by omega
  have hi8 : ¬ (8 : Int) < (n : Int) := by omega
  have hi0 : ((n : Int) == 0) = false := by simp; omega
  have hi65 : ¬ (65536 : Int) < (tl : Int) := by omega
  have HN := hide hn
  have HK := hide h
  have HO := hide hok
  have HNM := hide hnm
  have HT1 := hide hT1
  have HTL := hide htl
  clear ht hl hn h1 hs hok h hnm hT1 htl
  go_enter Tryz.func54, Tryz.ntmps54
  go_wp2_with (go_at_call 106; fail)
  refine (unhide KT _).mono ?_
  rintro e wn ⟨rfl, hwn⟩
  rw [hwn]
  clear hwn wn
  go_wp2_with (go_at_call 107; fail)
  refine (unhide KA).mono ?_
  rintro e w1 ⟨rfl, b1⟩
  obtain ⟨A, hA⟩ : ∃ A, w1.heap.size = A := ⟨_, rfl⟩
  obtain ⟨W2, hW2⟩ : ∃ W2, w1.alloc (.cells #[.pointer none, .slice none 0 0] 119) = W2 := ⟨_, rfl⟩
  have hfb := Lib.fresh_isBuilder 119 5 w1
  rw [hW2, hA] at hfb
  have b2 : Below w1.heap.size w1 W2 := by rw [← hW2]; exact lowA (Below.refl _ _) _
  have hA2 : A ≤ W2.heap.size := by rw [← hA]; exact b2.size
  have KW := hide (writeString_any A A [] (ba T1) W2 hfb (by rw [zt]; simp; omega) hA2)
  have HB1 := hide b1
  have HB2 := hide b2
  have HW2 := hide hW2
  have HA := hide hA
  clear b1 b2 hfb hW2 hA KT KA
  go_wp2_with (go_at_call 108; fail)
  rw [unhide HW2, unhide HA]
  refine (unhide KW).mono ?_
  rintro e w3 ⟨rfl, bd3, b3⟩
  have hb3 : Below w1.heap.size w1 w3 := by
    have := unhide HB2
    exact this.trans (by rw [unhide HA]; exact b3)
  have HB3 := hide hb3
  have HD3 : Hid (Lib.IsBuilder 119 5 A A (Lib.byteCells (noteL text (ks.take 0))) w3) := hide (by
    have e : Lib.byteCells (noteL text (ks.take 0)) = [] ++ Lib.strCells (ba T1) := by
      have : noteL text (ks.take 0) = T1 := by unfold noteL; rw [unhide HT1]; simp
      rw [this]
      rfl
    rw [e]
    exact Or.inr bd3)
  clear bd3 b3 hb3 KW HW2
  go_wp2
  go_loopw [8, 35] (fun _ v35 wr => ∃ i : Nat, i ≤ n ∧ v35 = .int .i64 (i : Int) ∧ Lib.IsBuilder 119 5 A A (Lib.byteCells (noteL text (ks.take i))) wr ∧ Below w1.heap.size w1 wr) (fun _ v35 _ => n - (intOf v35).toNat)
  case atStart => exact ⟨0, Nat.zero_le _, rfl, unhide HD3, unhide HB3⟩
  case round =>
    rename World => wr
    obtain ⟨i, hi, rfl, hbd, hbw⟩ := hrel
    clear HD3 HB3
    by_cases hlt : i < n
    · have hil : i < ks.length := by rw [unhide HN]; exact hlt
      have hlt' : (i : Int) < (n : Int) := by omega
      obtain ⟨B, O, rfl, g0', g1⟩ := ((unhide HK).low (low_trans (unhide HB1) hbw)).at hil
      have hnl := noteL_len (text := text) (unhide HNM) i (by omega)
      rw [unhide HTL] at hnl
      have hsn := noteL_snoc (text := text) hil
      have hnm := unhide HNM _ (List.getElem_mem hil)
      have hsc := unhide HO _ (List.getElem_mem hil)
      have hkl := keyLine_len (text := text) hnm
      obtain ⟨⟨nm, sec⟩, hx⟩ : ∃ x, ks[i] = x := ⟨_, rfl⟩
      rw [hx] at g0' g1 hsn hnm hsc hkl
      simp only at g0' g1 hnm hsc
      obtain ⟨LN, hLN⟩ : ∃ LN, keyLine text (nm, sec) = LN := ⟨_, rfl⟩
      rw [hLN] at hsn hkl
      obtain ⟨ln, hln⟩ : ∃ ln, LN.length = ln := ⟨_, rfl⟩
      have zl : (ba LN).size = ln := by rw [ba_size]; exact hln
      obtain ⟨bf, hbf⟩ : ∃ bf, wr.heap.size = bf := ⟨_, rfl⟩
      obtain ⟨W4, hW4⟩ : ∃ W4, wr.alloc (.cells #[.string (ba nm), .string (ba sec)] 75) = W4 := ⟨_, rfl⟩
      have b4 : Below wr.heap.size wr W4 := by rw [← hW4]; exact lowA (Below.refl _ _) _
      have q4 : Blk W4 bf #[.string (ba nm), .string (ba sec)] 75 := by rw [← hW4, ← hbf]; exact Blk.new _ _ _
      have f0 : W4.cell? ⟨bf, 0, none⟩ = some (.string (ba nm)) := q4.cell 0
      have f1 : W4.cell? ⟨bf, 1, none⟩ = some (.string (ba sec)) := q4.cell 1
      have hAbf : A < bf := by
        have h1 := hbw.size
        have h2 : A < wr.heap.size := by
          rcases hbd with ⟨_, _, h3, _⟩ | ⟨_, _, h3, _⟩
          · exact (Array.getElem?_eq_some_iff.1 h3).1
          · exact (Array.getElem?_eq_some_iff.1 h3).1
        omega
      have HSC : Hid (∀ wx, Below W4.heap.size W4 wx → (wx.cell? ⟨bf, 0, none⟩ = some (.string (ba nm)) ∧ wx.cell? ⟨bf, 1, none⟩ = some (.string (ba sec)))) := hide (fun wx b => key_low ⟨f0, f1⟩ b)
      obtain ⟨ID, hID⟩ : ∃ ID, idN nm sec = ID := ⟨_, rfl⟩
      have H109 : Hid (Calls Tryz.prog 109 #[.agg #[.string (ba nm), .string (ba sec)]] W4.drew fun e w' => e = .returned (.agg #[.string (ba nm), .int .u32 (ID.toNat : Int)]) ∧ Hid (Below W4.heap.size W4 w') ∧ (w'.cell? ⟨bf, 0, none⟩ = some (.string (ba nm)) ∧ w'.cell? ⟨bf, 1, none⟩ = some (.string (ba sec)))) := hide (by
        have k := keySigner_any (nm := nm) (sec := sec) hsc (by omega) W4.drew
        rw [hID] at k
        refine k.mono ?_
        rintro e w' ⟨rfl, b⟩
        have bb : Below W4.heap.size W4 w' := low_trans (lowD (Below.refl _ _)) b
        exact ⟨rfl, hide bb, unhide HSC _ bb⟩)
      have H60 : Hid (∀ wx, Hid (Below W4.heap.size W4 wx) → Calls Tryz.prog 60 #[.agg #[.string (ba nm), .string (ba sec)], .string (ba text)] wx fun e w' => ∃ g cc, e = .returned (.slice (some ⟨g, 0, none⟩) 32 cc) ∧ Hid (BAt w' (some ⟨g, 0, none⟩) (sigL sec text) ∧ Below W4.heap.size W4 w') ∧ (w'.cell? ⟨bf, 0, none⟩ = some (.string (ba nm)) ∧ w'.cell? ⟨bf, 1, none⟩ = some (.string (ba sec)))) := hide (fun wx hx => by
        have k := keySign_any (nm := nm) (sec := sec) (text := text) hsc (by rw [unhide HTL]; omega) wx
        unfold keyV at k
        refine k.mono ?_
        rintro e w' ⟨v, rfl, o, b⟩
        obtain ⟨g, cc, rfl, hat, -, -⟩ := OwnB.adr2 o (sha32 _)
        have bb := low_trans (unhide hx) b
        exact ⟨g, cc, rfl, hide ⟨hat, bb⟩, unhide HSC _ bb⟩)
      have H110 : Hid (∀ wx g cc, Hid (BAt wx (some ⟨g, 0, none⟩) (sigL sec text) ∧ Below W4.heap.size W4 wx) → Calls Tryz.prog 110 #[.agg #[.string (ba nm), .int .u32 (ID.toNat : Int), .slice (some ⟨g, 0, none⟩) 32 cc]] wx fun e w' => e = .returned (.string (ba LN)) ∧ Hid (Below W4.heap.size W4 w') ∧ (w'.cell? ⟨bf, 0, none⟩ = some (.string (ba nm)) ∧ w'.cell? ⟨bf, 1, none⟩ = some (.string (ba sec)))) := hide (fun wx g cc hx => by
        have k := line_any (c := cc) (nm := nm) (id := ID) (sig := sigL sec text) (by omega) (sha32 _) (by omega) (unhide hx).1
        refine k.mono ?_
        rintro e w' ⟨rfl, b⟩
        have bb := low_trans (unhide hx).2 b
        exact ⟨by rw [← hLN, ← hID]; rfl, hide bb, unhide HSC _ bb⟩)
      have H108 : Hid (∀ wx, Hid (Below W4.heap.size W4 wx) → Calls Tryz.prog 108 #[.pointer (some ⟨A, 0, none⟩), .string (ba LN)] wx fun e w' => e = .returned (.tuple #[.int .i64 (ln : Int), .nilIface]) ∧ Hid (Lib.IsBuilder 119 5 A A (Lib.byteCells (noteL text (ks.take (i + 1)))) w' ∧ Below w1.heap.size w1 w') ∧ (w'.cell? ⟨bf, 0, none⟩ = some (.string (ba nm)) ∧ w'.cell? ⟨bf, 1, none⟩ = some (.string (ba sec)))) := hide (fun wx hx => by
        have hwx : Below wr.heap.size wr wx := low_trans b4 (unhide hx)
        have hb1x : Below w1.heap.size w1 wx := low_trans hbw hwx
        have hbfx : wx.heap[bf]? = some (.cells #[.string (ba nm), .string (ba sec)] 75 (0, 0)) := ((unhide hx).block bf q4.lt).trans q4
        refine (writeString_k A A (Lib.byteCells (noteL text (ks.take i))) (ba LN) wx (build_low hbd hwx) (by rw [Lib.byteCells_length, zl]; omega) (by rw [← unhide HA]; exact hb1x.size)).mono ?_
        rintro e w' ⟨rfl, bd, b, kp⟩
        have hbf' : w'.heap[bf]? = some (.cells #[.string (ba nm), .string (ba sec)] 75 (0, 0)) := (kp bf (Array.getElem?_eq_some_iff.1 hbfx).1 (by omega) (fun cs fr e => by rw [hbfx] at e; simp at e)).trans hbfx
        refine ⟨by rw [zl], hide ⟨?_, hb1x.trans (by rw [unhide HA]; exact b)⟩, Lib.cell_of_heap hbf' 0, Lib.cell_of_heap hbf' 1⟩
        have e2 : Lib.byteCells (noteL text (ks.take i)) ++ Lib.strCells (ba LN) = Lib.byteCells (noteL text (ks.take (i + 1))) := by rw [hsn, Lib.byteCells_append]; rfl
        rw [e2] at bd
        exact Or.inr bd)
      have hS4 := unhide HSC _ (Below.refl _ _)
      have HW4 := hide hW4
      have HBF := hide hbf
      clear hbd hbw hil hnl hsn hnm hsc hkl hx hLN hln hbf hW4 b4 q4 f0 f1 hAbf hID
      go_wp2
      rw [unhide HW4, unhide HBF]
      go_region_held3 (fun wx => (wx.cell? ⟨bf, 0, none⟩ = some (.string (ba nm)) ∧ wx.cell? ⟨bf, 1, none⟩ = some (.string (ba sec))))
        (first | assumption | exact hS4)
        (first
          | (go_at_call 109; refine (unhide H109).mono ?_; rintro e w5 ⟨rfl, hv5, hS5⟩)
          | (go_at_call 60; revert hv5; intro hv5; refine (unhide H60 _ hv5).mono ?_; rintro e w6 ⟨g6, c6, rfl, hv6, hS6⟩)
          | (go_at_call 110; revert hv6; intro hv6; refine (unhide H110 _ _ _ hv6).mono ?_; rintro e w7 ⟨rfl, hv7, hS7⟩)
          | (go_at_call 108; revert hv7; intro hv7; refine (unhide H108 _ hv7).mono ?_; rintro e w8 ⟨rfl, hv8, hS8⟩))
      clear hv5 hv6 hv7 hS5 hS6 hS7
      go_wp2
      go_roundw
      case rel => exact ⟨i + 1, hlt, by push_cast; rfl, (unhide hv8).1, (unhide hv8).2⟩
      case measure => simp [intOf]; omega
    · have hie : i = n := by omega
      subst hie
      rw [List.take_of_length_le (by rw [unhide HN]; exact Nat.le_refl _)] at hbd
      have KS := hide (Tryz.Builder_String_any _ _ _ wr hbd (by rw [← unhide HA]; exact hbw.size))
      have HBW := hide hbw
      clear hbd hbw
      go_wp2_with (go_at_call 81; fail)
      refine (unhide KS).mono ?_
      rintro e w5 ⟨rfl, b5⟩
      have HZ : Hid (Below w.heap.size w w5) := hide (low_trans (unhide HB1) ((unhide HBW).trans (by rw [unhide HA]; exact b5)))
      clear b5
      go_wp2
      go_ret2
      exact ⟨rfl, unhide HZ⟩
end Go.Proofs.YtkablmjkffdloaaGreatDoor
