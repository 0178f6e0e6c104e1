/-
  A note opened, the program's: any text, any keys.
-/
import Derived.Test.YtkablmjkffdloaaGreatDoorOpeQ
import Derived.Laws.StructEq
import Derived.Test.YtkablmjkffdloaaGreatDoorReaQ
namespace Go.Proofs.YtkablmjkffdloaaGreatDoor
open Go.RowKit

theorem str_ne {a b : Bs} (h : a ≠ b) : ((ba a).toList == (ba b).toList) = false := by
  rw [Bool.eq_false_iff]
  intro e
  rw [beq_iff_eq, Lib.toList_data, Lib.toList_data, ba_data, ba_data] at e
  exact h (by simpa using e)

set_option maxRecDepth 100000 in
set_option maxHeartbeats 4000000 in
theorem is_no {nm kn ks : Bs} {N : Nat} (hne : nm ≠ kn) (w : World) :
    Calls Tryz.prog 195 #[.agg #[.string (ba nm), .int .u32 (N : Int)], .iface 75 (.agg #[.string (ba kn), .string (ba ks)])] w fun e w' => e = .returned (.bool false) ∧ Below w.heap.size w w' := by
  obtain ⟨A, hA⟩ : ∃ A, w.heap.size = A := ⟨_, rfl⟩
  obtain ⟨W1, hW1⟩ : ∃ W1, w.alloc (.cells #[.string (ba nm), .int .u32 (N : Int)] 154) = W1 := ⟨_, rfl⟩
  have b1 : Below w.heap.size w W1 := by rw [← hW1]; exact lowA (Below.refl _ _) _
  have q1 : Blk W1 A #[.string (ba nm), .int .u32 (N : Int)] 154 := by rw [← hW1, ← hA]; exact Blk.new _ _ _
  have k0 : W1.cell? ⟨A, 0, none⟩ = some (.string (ba nm)) := q1.cell 0
  have k1 : W1.cell? ⟨A, 1, none⟩ = some (.int .u32 (N : Int)) := q1.cell 1
  have KN := hide (fun W => keyName_any (nm := kn) (sec := ks) W)
  have ss := str_ne (fun e => hne e.symm : kn ≠ nm)
  have hm1 : ∀ W : World, (method 414 75 (.agg #[.string (ba kn), .string (ba ks)]) "Name").run Tryz.prog W = .ok (55, .agg #[.string (ba kn), .string (ba ks)]) W := fun _ => by kernel_rfl
  have HW := hide hW1
  have HB := hide b1
  have hSd : W1.drew.cell? ⟨A, 0, none⟩ = some (.string (ba nm)) ∧ W1.drew.cell? ⟨A, 1, none⟩ = some (.int .u32 (N : Int)) := ⟨k0, k1⟩
  clear q1 b1 hW1 hne
  go_enter Tryz.func195, Tryz.ntmps195
  go_wp2
  rw [unhide HW]
  clear HW
  refine wp_region_noPanic ?_
  refine wp_region_held_drew (S := fun w' => w'.cell? ⟨A, 0, none⟩ = some (.string (ba nm)) ∧ w'.cell? ⟨A, 1, none⟩ = some (.int .u32 (N : Int))) (by kernel_rfl) ⟨k0, k1⟩ (fun hHeld => ?_)
  refine wpAnyH_take (i := 0) (oi := { dst := some 5, op := Op.move (Operand.tmp 1), type := 226, pos := "line.go:31", after := #[], guard := none }) (v := .iface 75 (.agg #[.string (ba kn), .string (ba ks)])) rfl (by kernel_rfl) (by kernel_rfl) (by kernel_rfl) (fun _ _ _ h => h) (Or.inl ⟨by kernel_rfl, by (intro w hSw; (try dsimp only at hSw); go_simp)⟩) (by assumption) ?_
  try simp only [Act.put, List.setIfInBounds_toArray, List.set_cons_zero, List.set_cons_succ]
  refine wpAnyH_take (i := 2) (oi := { dst := some 7, op := Op.fieldAddr 154 (Operand.tmp 2) 0, type := 0, pos := "line.go:31", after := #[], guard := none }) (v := .pointer (some ⟨A, 0, none⟩)) rfl (by kernel_rfl) (by kernel_rfl) (by kernel_rfl) (fun _ _ _ h => h) (Or.inl ⟨by kernel_rfl, by (intro w hSw; (try dsimp only at hSw); go_simp)⟩) (by assumption) ?_
  try simp only [Act.put, List.setIfInBounds_toArray, List.set_cons_zero, List.set_cons_succ]
  refine wpAnyH_take (i := 3) (oi := { dst := some 8, op := Op.load 9 (Operand.tmp 7), type := 9, pos := "line.go:31", after := #[{ on := 2, ground := Ground.data }], guard := none }) (v := .string (ba nm)) rfl (by kernel_rfl) (by kernel_rfl) (by kernel_rfl) (fun _ _ _ h => h) (Or.inl ⟨by kernel_rfl, by (intro w hSw; (try dsimp only at hSw); go_simp)⟩) (by assumption) ?_
  try simp only [Act.put, List.setIfInBounds_toArray, List.set_cons_zero, List.set_cons_succ]
  refine wpAnyH_ready (rs := [1]) (by kernel_rfl) (by simp) ?_
  refine AllReadyH.cons (o := { dst := some 6, op := Op.call { callee := Callee.invoke (Operand.tmp 5) "Name", args := #[], argTypes := #[] }, type := 9, pos := "line.go:31", after := #[{ on := 0, ground := Ground.data }], guard := none }) rfl (fun K hK => ?_) AllReadyH.nil
  go_simp
  refine (unhide KN _).mono ?_
  rintro e w3 ⟨rfl, b3⟩
  have S3 := key_low (by assumption) b3
  go_simp
  refine hK.out _ _ S3 (fun hHeld => ?_)
  clear hK K
  try simp only [Act.put, List.setIfInBounds_toArray, List.set_cons_zero, List.set_cons_succ]
  refine wpAnyH_take (i := 4) (oi := { dst := some 9, op := Op.binOp BinOp.eql 9 (Operand.tmp 6) (Operand.tmp 8) 9, type := 4, pos := "line.go:31", after := #[{ on := 1, ground := Ground.data }, { on := 3, ground := Ground.data }], guard := none }) (v := .bool false) rfl (by kernel_rfl) (by kernel_rfl) (by kernel_rfl) (fun _ _ _ h => h) (Or.inl ⟨by kernel_rfl, by (intro w hSw; (try dsimp only at hSw); go_simp)⟩) (by assumption) ?_
  try simp only [Act.put, List.setIfInBounds_toArray, List.set_cons_zero, List.set_cons_succ]
  refine wpAnyH_take (i := 5) (oi := { dst := some 10, op := Op.move (Operand.tmp 9), type := 4, pos := "line.go:31", after := #[{ on := 4, ground := Ground.data }, { on := 1, ground := Ground.chain }], guard := none }) (v := .bool false) rfl (by kernel_rfl) (by kernel_rfl) (by kernel_rfl) (fun _ _ _ h => h) (Or.inl ⟨by kernel_rfl, by (intro w hSw; (try dsimp only at hSw); go_simp)⟩) (by assumption) ?_
  try simp only [Act.put, List.setIfInBounds_toArray, List.set_cons_zero, List.set_cons_succ]
  refine wpAnyH_take (i := 6) (oi := { dst := some 11, op := Op.move (Operand.tmp 1), type := 226, pos := "line.go:31", after := #[{ on := 5, ground := Ground.guard }], guard := some (5, true) }) (v := undef) rfl (by kernel_rfl) (by kernel_rfl) (by kernel_rfl) (fun _ _ _ h => h) (Or.inr ⟨by kernel_rfl, rfl⟩) (by assumption) ?_
  try simp only [Act.put, List.setIfInBounds_toArray, List.set_cons_zero, List.set_cons_succ]
  refine wpAnyH_take (i := 7) (oi := { dst := some 12, op := Op.call { callee := Callee.invoke (Operand.tmp 11) "ID", args := #[], argTypes := #[] }, type := 39, pos := "line.go:31", after := #[{ on := 6, ground := Ground.data }, { on := 5, ground := Ground.chain }, { on := 5, ground := Ground.guard }], guard := some (5, true) }) (v := undef) rfl (by kernel_rfl) (by kernel_rfl) (by kernel_rfl) (fun _ _ _ h => h) (Or.inr ⟨by kernel_rfl, rfl⟩) (by assumption) ?_
  try simp only [Act.put, List.setIfInBounds_toArray, List.set_cons_zero, List.set_cons_succ]
  refine wpAnyH_take (i := 8) (oi := { dst := some 13, op := Op.fieldAddr 154 (Operand.tmp 2) 1, type := 0, pos := "line.go:31", after := #[{ on := 5, ground := Ground.guard }], guard := some (5, true) }) (v := undef) rfl (by kernel_rfl) (by kernel_rfl) (by kernel_rfl) (fun _ _ _ h => h) (Or.inr ⟨by kernel_rfl, rfl⟩) (by assumption) ?_
  try simp only [Act.put, List.setIfInBounds_toArray, List.set_cons_zero, List.set_cons_succ]
  refine wpAnyH_take (i := 9) (oi := { dst := some 14, op := Op.load 39 (Operand.tmp 13), type := 39, pos := "line.go:31", after := #[{ on := 8, ground := Ground.data }, { on := 5, ground := Ground.guard }], guard := some (5, true) }) (v := undef) rfl (by kernel_rfl) (by kernel_rfl) (by kernel_rfl) (fun _ _ _ h => h) (Or.inr ⟨by kernel_rfl, rfl⟩) (by assumption) ?_
  try simp only [Act.put, List.setIfInBounds_toArray, List.set_cons_zero, List.set_cons_succ]
  refine wpAnyH_take (i := 10) (oi := { dst := some 15, op := Op.binOp BinOp.eql 39 (Operand.tmp 12) (Operand.tmp 14) 39, type := 4, pos := "line.go:31", after := #[{ on := 7, ground := Ground.data }, { on := 9, ground := Ground.data }, { on := 5, ground := Ground.guard }], guard := some (5, true) }) (v := undef) rfl (by kernel_rfl) (by kernel_rfl) (by kernel_rfl) (fun _ _ _ h => h) (Or.inr ⟨by kernel_rfl, rfl⟩) (by assumption) ?_
  try simp only [Act.put, List.setIfInBounds_toArray, List.set_cons_zero, List.set_cons_succ]
  refine wpAnyH_take (i := 11) (oi := { dst := some 16, op := Op.pick (Operand.tmp 10) (Operand.tmp 15) (Operand.const (Value.bool false)), type := 4, pos := "line.go:31", after := #[{ on := 5, ground := Ground.data }, { on := 10, ground := Ground.data }], guard := none }) (v := .bool false) rfl (by kernel_rfl) (by kernel_rfl) (by kernel_rfl) (fun _ _ _ h => h) (Or.inl ⟨by kernel_rfl, by (intro w hSw; (try dsimp only at hSw); go_simp)⟩) (by assumption) ?_
  try simp only [Act.put, List.setIfInBounds_toArray, List.set_cons_zero, List.set_cons_succ]
  refine wpAnyH_take (i := 12) (oi := { dst := some 4, op := Op.assign (Operand.tmp 16), type := 4, pos := "line.go:31", after := #[{ on := 11, ground := Ground.data }, { on := 7, ground := Ground.chain }, { on := 0, ground := Ground.phase }, { on := 1, ground := Ground.phase }, { on := 2, ground := Ground.phase }, { on := 3, ground := Ground.phase }, { on := 4, ground := Ground.phase }, { on := 5, ground := Ground.phase }, { on := 6, ground := Ground.phase }, { on := 7, ground := Ground.phase }, { on := 8, ground := Ground.phase }, { on := 9, ground := Ground.phase }, { on := 10, ground := Ground.phase }, { on := 11, ground := Ground.phase }], guard := none }) (v := .bool false) rfl (by kernel_rfl) (by kernel_rfl) (by kernel_rfl) (fun _ _ _ h => h) (Or.inl ⟨by kernel_rfl, by (intro w hSw; (try dsimp only at hSw); go_simp)⟩) (by assumption) ?_
  try simp only [Act.put, List.setIfInBounds_toArray, List.set_cons_zero, List.set_cons_succ]
  refine wpAnyH_done (by kernel_rfl) ?_ _
  refine NoPanic.normal ?_
  have HZ : Hid (Below w.heap.size w w3) := hide (low_trans (unhide HB) (low_trans (lowD (Below.refl _ _)) b3))
  clear b3
  go_wp2
  go_ret
  exact ⟨rfl, unhide HZ⟩
end Go.Proofs.YtkablmjkffdloaaGreatDoor

namespace Go.Proofs.YtkablmjkffdloaaGreatDoor
open Go.RowKit

set_option maxRecDepth 100000 in
set_option maxHeartbeats 4000000 in
theorem is_same {nm sec : Bs} {N : Nat} (hn : nm.length ≤ 1000000) (hs : sec.length ≤ 1000000) (w : World) :
    Calls Tryz.prog 195 #[.agg #[.string (ba nm), .int .u32 (N : Int)], .iface 75 (.agg #[.string (ba nm), .string (ba sec)])] w fun e w' => e = .returned (.bool (((idN nm sec).toNat : Int) == (N : Int))) ∧ Below w.heap.size w w' := by
  obtain ⟨I, hI⟩ : ∃ I : Int, ((idN nm sec).toNat : Int) = I := ⟨_, rfl⟩
  rw [hI]
  obtain ⟨bb, hbb⟩ : ∃ bb, (I == (N : Int)) = bb := ⟨_, rfl⟩
  rw [hbb]
  obtain ⟨A, hA⟩ : ∃ A, w.heap.size = A := ⟨_, rfl⟩
  obtain ⟨W1, hW1⟩ : ∃ W1, w.alloc (.cells #[.string (ba nm), .int .u32 (N : Int)] 154) = W1 := ⟨_, rfl⟩
  have b1 : Below w.heap.size w W1 := by rw [← hW1]; exact lowA (Below.refl _ _) _
  have q1 : Blk W1 A #[.string (ba nm), .int .u32 (N : Int)] 154 := by rw [← hW1, ← hA]; exact Blk.new _ _ _
  have k0 : W1.cell? ⟨A, 0, none⟩ = some (.string (ba nm)) := q1.cell 0
  have k1 : W1.cell? ⟨A, 1, none⟩ = some (.int .u32 (N : Int)) := q1.cell 1
  have KN := hide (fun W => keyName_any (nm := nm) (sec := sec) W)
  have KI : Hid (∀ W, Calls Tryz.prog 104 #[.agg #[.string (ba nm), .string (ba sec)]] W fun e w' => e = .returned (.int .u32 I) ∧ Below W.heap.size W w') := hide (fun W => by
    have k := keyID_any hs hn W
    unfold keyV at k
    rw [hI] at k
    exact k)
  have ss : ((ba nm).toList == (ba nm).toList) = true := by simp
  have hm1 : ∀ W : World, (method 414 75 (.agg #[.string (ba nm), .string (ba sec)]) "Name").run Tryz.prog W = .ok (55, .agg #[.string (ba nm), .string (ba sec)]) W := fun _ => by kernel_rfl
  have hm2 : ∀ W : World, (method 414 75 (.agg #[.string (ba nm), .string (ba sec)]) "ID").run Tryz.prog W = .ok (104, .agg #[.string (ba nm), .string (ba sec)]) W := fun _ => by kernel_rfl
  have HW := hide hW1
  have HB := hide b1
  clear q1 b1 hW1 hI
  go_enter Tryz.func195, Tryz.ntmps195
  go_wp2
  rw [unhide HW]
  clear HW
  go_region_held3 (fun w' => w'.cell? ⟨A, 0, none⟩ = some (.string (ba nm)) ∧ w'.cell? ⟨A, 1, none⟩ = some (.int .u32 (N : Int)))
    (first | assumption | exact ⟨k0, k1⟩)
    (first
      | (go_at_call 55; refine (unhide KN _).mono ?_; rintro e w3 ⟨rfl, b3⟩; have S3 := key_low (by assumption) b3)
      | (go_at_call 104; refine (unhide KI _).mono ?_; rintro e w4 ⟨rfl, b4⟩; have S4 := key_low (by assumption) b4))
  have HZ : Hid (Below w.heap.size w w4) := hide (low_trans (unhide HB) (low_trans (lowD (Below.refl _ _)) (low_trans b3 b4)))
  clear b3 b4
  go_wp2
  go_ret
  exact ⟨by first | rfl | (rw [← hbb]; rfl) | simp [hbb], unhide HZ⟩

/-- The first key that is a signer. -/
def keyFor (s : Sg) (ks : List Ky) : Option Ky := ks.find? fun k => decide (sgOf k = s)
def verV : Option Ky → Value
  | none => .nilFunc
  | some k => .func (.method "Verify") #[.iface 75 (.agg #[.string (ba k.1), .string (ba k.2)])] #[]

theorem is_any {nm : Bs} {id : UInt32} {k : Ky} (hk : KyOk k) (w : World) :
    Calls Tryz.prog 195 #[.agg #[.string (ba nm), .int .u32 (id.toNat : Int)], .iface 75 (.agg #[.string (ba k.1), .string (ba k.2)])] w fun e w' => e = .returned (.bool (decide (sgOf k = (nm, id)))) ∧ Below w.heap.size w w' := by
  obtain ⟨kn, ks⟩ := k
  by_cases h : nm = kn
  · subst h
    refine (is_same hk.1 hk.2 w).mono ?_
    rintro e w' ⟨rfl, b⟩
    refine ⟨?_, b⟩
    congr 2
    rw [Bool.eq_iff_iff, beq_iff_eq, decide_eq_true_iff]
    unfold sgOf
    simp only [Prod.mk.injEq, true_and]
    constructor
    · intro e; exact UInt32.toNat_inj.1 (by omega)
    · intro e; rw [e]
  · refine (is_no h w).mono ?_
    rintro e w' ⟨rfl, b⟩
    refine ⟨?_, b⟩
    congr 2
    rw [eq_comm, decide_eq_false_iff_not]
    intro e
    exact h (congrArg Prod.fst e).symm

set_option maxRecDepth 100000 in
set_option maxHeartbeats 4000000 in
theorem verifyOf_any {w : World} {nm : Bs} {id : UInt32} {ks : List Ky} {a : Option Addr} {n c : Nat} (hn : ks.length = n) (hN : n ≤ 1000) (hok : ∀ k ∈ ks, KyOk k) (h : KRow w a ks) :
    Calls Tryz.prog 162 #[.agg #[.string (ba nm), .int .u32 (id.toNat : Int)], .slice a n c] w fun e w' => e = .returned (verV (keyFor (nm, id) ks)) ∧ Below w.heap.size w w' := by
  have KI := hide (fun (k : Ky) (hk : KyOk k) (W : World) => is_any (nm := nm) (id := id) hk W)
  obtain ⟨N, hN'⟩ : ∃ N : Nat, id.toNat = N := ⟨_, rfl⟩
  rw [hN'] at KI ⊢
  obtain ⟨A, hA⟩ : ∃ A, w.heap.size = A := ⟨_, rfl⟩
  obtain ⟨W1, hW1⟩ : ∃ W1, w.alloc (.cells #[.string (ba nm), .int .u32 (N : Int)] 154) = W1 := ⟨_, rfl⟩
  have b1 : Below w.heap.size w W1 := by rw [← hW1]; exact lowA (Below.refl _ _) _
  have q1 : Blk W1 A #[.string (ba nm), .int .u32 (N : Int)] 154 := by rw [← hW1, ← hA]; exact Blk.new _ _ _
  have HN := hide hn
  have HOK := hide hok
  have HK := hide (h.low b1)
  have HW1 := hide hW1
  have HB1 := hide b1
  have HQ1 := hide q1
  have HA := hide hA
  clear hn hok h hW1 b1 q1 hA hN'
  go_enter Tryz.func162, Tryz.ntmps162
  go_wp2
  rw [unhide HW1, unhide HA]
  go_loopw [6, 7, 10] (fun _ _ v10 wr => ∃ i : Nat, i ≤ n ∧ v10 = .int .i64 (i : Int) ∧ Hid (keyFor (nm, id) ks = keyFor (nm, id) (ks.drop i)) ∧ Below W1.heap.size W1 wr) (fun _ _ v10 _ => n - (intOf v10).toNat)
  case atStart => exact ⟨0, Nat.zero_le _, rfl, hide (by rw [List.drop_zero]), Below.refl _ _⟩
  case round =>
    rename World => wr
    obtain ⟨i, hi, rfl, hkf, hbw⟩ := hrel
    by_cases hlt : i < n
    · have hil : i < ks.length := by rw [unhide HN]; exact hlt
      have hlt' : (i : Int) < (n : Int) := by omega
      obtain ⟨B, O, rfl, g0, g1⟩ := ((unhide HK).low hbw).at hil
      have hko := unhide HOK _ (List.getElem_mem hil)
      have hdr : ks.drop i = ks[i] :: ks.drop (i + 1) := List.drop_eq_getElem_cons hil
      obtain ⟨⟨kn, ksc⟩, hx⟩ : ∃ x, ks[i] = x := ⟨_, rfl⟩
      rw [hx] at g0 g1 hko hdr
      simp only at g0 g1
      have HDR := hide hdr
      have q1w := (unhide HQ1).low hbw
      obtain ⟨W2, hW2⟩ : ∃ W2, wr.alloc (.cells #[.string (ba kn), .string (ba ksc)] 75) = W2 := ⟨_, rfl⟩
      have b2 : Below wr.heap.size wr W2 := by rw [← hW2]; exact lowA (Below.refl _ _) _
      have q12 := q1w.low b2
      have k0 : (wr.alloc (.cells #[.string (ba kn), .string (ba ksc)] 75)).cell? ⟨A, 0, none⟩ = some (.string (ba nm)) := by rw [hW2]; exact q12.cell 0
      have k1 : (wr.alloc (.cells #[.string (ba kn), .string (ba ksc)] 75)).cell? ⟨A, 1, none⟩ = some (.int .u32 (N : Int)) := by rw [hW2]; exact q12.cell 1
      have K := hide (unhide KI _ hko W2)
      obtain ⟨p, hp⟩ : ∃ p, decide (sgOf (kn, ksc) = (nm, id)) = p := ⟨_, rfl⟩
      rw [hp] at K
      simp only at K
      have HB2 := hide (low_trans hbw b2)
      have HW2 := hide hW2
      cases p with
      | true =>
        have HF : Hid (keyFor (nm, id) ks = some (kn, ksc)) := hide (by
          rw [unhide hkf, unhide HDR]
          unfold keyFor
          rw [List.find?_cons]
          simp only [hp])
        clear hkf hbw hx hdr hko q1w hW2 b2 q12 hp
        go_wp2_with (go_at_call 195; fail)
        rw [unhide HW2]
        refine (unhide K).mono ?_
        rintro e w3 ⟨rfl, b3⟩
        have HZ := hide (low_trans (unhide HB1) (low_trans (unhide HB2) b3))
        clear b3
        go_wp2
        go_ret
        exact ⟨by rw [unhide HF]; rfl, unhide HZ⟩
      | false =>
        have HF : Hid (keyFor (nm, id) ks = keyFor (nm, id) (ks.drop (i + 1))) := hide (by
          rw [unhide hkf, unhide HDR]
          unfold keyFor
          rw [List.find?_cons]
          simp only [hp])
        clear hkf hbw hx hdr hko q1w hW2 b2 q12 hp
        go_wp2_with (go_at_call 195; fail)
        rw [unhide HW2]
        refine (unhide K).mono ?_
        rintro e w3 ⟨rfl, b3⟩
        have HZ := hide (low_trans (unhide HB2) b3)
        clear b3
        go_wp2
        go_roundw
        case rel => exact ⟨i + 1, hlt, by push_cast; rfl, HF, unhide HZ⟩
        case measure => simp [intOf]; omega
    · have hie : i = n := by omega
      subst hie
      have HF : Hid (keyFor (nm, id) ks = none) := hide (by
        rw [unhide hkf, List.drop_of_length_le (by rw [unhide HN]; exact Nat.le_refl _)]
        rfl)
      have HZ := hide (low_trans (unhide HB1) hbw)
      clear hkf hbw
      go_wp2
      go_ret
      exact ⟨by rw [unhide HF]; rfl, unhide HZ⟩

/-- Whether a signature is of the same signer as another. -/
theorem same_any {w : World} {n1 nm : Bs} {x y : UInt32} {s1 s2 : Value} {K : Nat} (hK : Blk w K #[.string (ba nm), .int .u32 (y.toNat : Int), s2] 157) :
    Calls Tryz.prog 160 #[.agg #[.string (ba n1), .int .u32 (x.toNat : Int), s1], .pointer (some ⟨K, 0, none⟩)] w fun e w' => e = .returned (.bool (decide ((n1, x) = (nm, y)))) ∧ Below w.heap.size w w' := by
  have b1 : Below w.heap.size w (w.alloc (.cells #[.string (ba n1), .int .u32 (x.toNat : Int), s1] 157)) := lowA (Below.refl _ _) _
  have qk := hK.low b1
  have m0 := qk.cell 0
  have m1 := qk.cell 1
  obtain ⟨p, hp⟩ : ∃ p, ((ba n1).toList == (ba nm).toList) = p := ⟨_, rfl⟩
  obtain ⟨q, hq⟩ : ∃ q, ((x.toNat : Int) == (y.toNat : Int)) = q := ⟨_, rfl⟩
  have HD : Hid (decide ((n1, x) = (nm, y)) = (p && q)) := hide (by
    rw [← hp, ← hq, Bool.eq_iff_iff, decide_eq_true_iff, Bool.and_eq_true, beq_iff_eq, beq_iff_eq, Lib.toList_data, Lib.toList_data, ba_data, ba_data]
    simp only [Prod.mk.injEq]
    constructor
    · rintro ⟨e1, e2⟩; rw [e1, e2]; exact ⟨rfl, rfl⟩
    · rintro ⟨e1, e2⟩
      exact ⟨by simpa using e1, UInt32.toNat_inj.1 (by omega)⟩)
  have HB := hide b1
  clear b1 qk hK
  cases p with
  | false =>
    go_enter Tryz.func160, Tryz.ntmps160
    go_wp2
    go_ret
    exact ⟨by rw [unhide HD]; rfl, unhide HB⟩
  | true =>
    cases q with
    | false =>
      go_enter Tryz.func160, Tryz.ntmps160
      go_wp2
      go_ret
      exact ⟨by rw [unhide HD]; rfl, unhide HB⟩
    | true =>
      go_enter Tryz.func160, Tryz.ntmps160
      go_wp2
      go_ret
      exact ⟨by rw [unhide HD]; rfl, unhide HB⟩

/-- Signatures in a row. -/
def SRow (w : World) (R : Nat) (xs : List Sx) : Prop := ∀ k (hk : k < xs.length), w.cell? ⟨R, k * 3, none⟩ = some (.string (ba xs[k].nm)) ∧ w.cell? ⟨R, k * 3 + 1, none⟩ = some (.int .u32 ((numU xs[k].b).toNat : Int)) ∧ w.cell? ⟨R, k * 3 + 2, none⟩ = some (.slice (some ⟨xs[k].g, 4, none⟩) (xs[k].b.length - 4) xs[k].c)
theorem SRow.low {w w' : World} {R : Nat} {xs : List Sx} (h : SRow w R xs) (hb : Below w.heap.size w w') : SRow w' R xs := fun k hk => by
  obtain ⟨h1, h2, h3⟩ := h k hk
  exact ⟨(hb.cell (lt_of_cell h1)).trans h1, (hb.cell (lt_of_cell h2)).trans h2, (hb.cell (lt_of_cell h3)).trans h3⟩
def sgS (s : Bs × Bs) : Sg := (s.1, numU s.2)

set_option maxRecDepth 100000 in
set_option maxHeartbeats 4000000 in
theorem index_any {w : World} {R K i cap : Nat} {xs : List Sx} {nm : Bs} {y : UInt32} {s2 : Value} (hi : i ≤ xs.length) (hi2 : i ≤ 1000000) (hr : SRow w R xs) (hK : Blk w K #[.string (ba nm), .int .u32 (y.toNat : Int), s2] 157) :
    Calls Tryz.prog 194 #[.slice (some ⟨R, 0, none⟩) i cap, .func (.func 160) #[] #[.pointer (some ⟨K, 0, none⟩)]] w fun e w' => (∃ r : Int, e = .returned (.int .i64 r) ∧ (0 ≤ r ↔ (nm, y) ∈ ((xs.take i).map fun x => sgS (sxK x)))) ∧ Below w.heap.size w w' := by
  have HR := hide hr
  have HK := hide hK
  have HI := hide hi
  clear hr hK hi
  go_enter Tryz.func194, Tryz.ntmps194
  go_wp2
  go_loopw [5, 8] (fun _ v8 wr => ∃ k : Nat, k ≤ i ∧ v8 = .int .i64 (k : Int) ∧ Hid (¬ (nm, y) ∈ ((xs.take k).map fun x => sgS (sxK x))) ∧ Below w.heap.size w wr) (fun _ v8 _ => i - (intOf v8).toNat)
  case atStart => exact ⟨0, Nat.zero_le _, rfl, hide (by simp), Below.refl _ _⟩
  case round =>
    rename World => wr
    obtain ⟨k, hk, rfl, hno, hbw⟩ := hrel
    by_cases hlt : k < i
    · have hkl : k < xs.length := by have := unhide HI; omega
      have hlt' : (k : Int) < (i : Int) := by omega
      obtain ⟨g0, g1, g2⟩ := (unhide HR).low hbw k hkl
      have htk := take_snoc hkl
      obtain ⟨x, hx⟩ : ∃ x, xs[k] = x := ⟨_, rfl⟩
      rw [hx] at g0 g1 g2 htk
      obtain ⟨xn, xb, xg, xc⟩ := x
      simp only at g0 g1 g2
      have KS := hide (same_any (w := wr) (n1 := xn) (x := numU xb) (s1 := .slice (some ⟨xg, 4, none⟩) (xb.length - 4) xc) ((unhide HK).low hbw))
      obtain ⟨sl, hsl⟩ : ∃ sl, xb.length - 4 = sl := ⟨_, rfl⟩
      rw [hsl] at KS g2
      obtain ⟨X, hX⟩ : ∃ X : Int, ((numU xb).toNat : Int) = X := ⟨_, rfl⟩
      rw [hX] at KS g1
      obtain ⟨p, hp⟩ : ∃ p, decide ((xn, numU xb) = (nm, y)) = p := ⟨_, rfl⟩
      rw [hp] at KS
      have HBW := hide hbw
      cases p with
      | true =>
        have HF : Hid ((nm, y) ∈ ((xs.take i).map fun x => sgS (sxK x))) := hide (by
          have e := of_decide_eq_true hp
          refine List.mem_map.2 ⟨⟨xn, xb, xg, xc⟩, ?_, e⟩
          have : (⟨xn, xb, xg, xc⟩ : Sx) ∈ xs.take (k + 1) := by rw [htk]; simp
          exact List.take_subset_take_left xs (by omega) this)
        clear htk hx hsl hX hp hbw hno
        go_wp2_with (go_at_call 160; fail)
        refine (unhide KS).mono ?_
        rintro e w3 ⟨rfl, b3⟩
        have HZ := hide (low_trans (unhide HBW) b3)
        clear b3
        go_wp2
        go_ret
        exact ⟨⟨(k : Int), rfl, ⟨fun _ => unhide HF, fun _ => by omega⟩⟩, unhide HZ⟩
      | false =>
        have HF : Hid (¬ (nm, y) ∈ ((xs.take (k + 1)).map fun x => sgS (sxK x))) := hide (by
          rw [htk, List.map_append, List.mem_append]
          rintro (h | h)
          · exact unhide hno h
          · simp only [List.map_cons, List.map_nil, List.mem_singleton] at h
            exact (of_decide_eq_false hp) h.symm)
        clear htk hx hsl hX hp hbw hno
        go_wp2_with (go_at_call 160; fail)
        refine (unhide KS).mono ?_
        rintro e w3 ⟨rfl, b3⟩
        have HZ := hide (low_trans (unhide HBW) b3)
        clear b3
        go_wp2
        go_roundw
        case rel => exact ⟨k + 1, hlt, by push_cast; rfl, HF, unhide HZ⟩
        case measure => simp [intOf]; omega
    · have hke : k = i := by omega
      subst hke
      have HZ := hide hbw
      clear hbw
      go_wp2
      go_ret
      exact ⟨⟨-1, rfl, ⟨fun h => by omega, fun h => absurd h (unhide hno)⟩⟩, unhide HZ⟩

theorem contains_any {w : World} {R K i cap : Nat} {xs : List Sx} {nm : Bs} {y : UInt32} {s2 : Value} (hi : i ≤ xs.length) (hi2 : i ≤ 1000000) (hr : SRow w R xs) (hK : Blk w K #[.string (ba nm), .int .u32 (y.toNat : Int), s2] 157) :
    Calls Tryz.prog 161 #[.slice (some ⟨R, 0, none⟩) i cap, .func (.func 160) #[] #[.pointer (some ⟨K, 0, none⟩)]] w fun e w' => e = .returned (.bool (decide ((nm, y) ∈ ((xs.take i).map fun x => sgS (sxK x))))) ∧ Below w.heap.size w w' := by
  have KI := hide (index_any (cap := cap) hi hi2 hr hK)
  clear hi hi2 hr hK
  go_enter Tryz.func161, Tryz.ntmps161
  go_wp2_with (go_at_call 194; fail)
  refine (unhide KI).mono ?_
  rintro e w1 ⟨⟨r, rfl, hr⟩, b1⟩
  have HB := hide b1
  have HR := hide hr
  clear b1 hr KI
  by_cases h0 : 0 ≤ r
  · have HD : Hid (decide ((nm, y) ∈ ((xs.take i).map fun x => sgS (sxK x))) = true) := hide (decide_eq_true ((unhide HR).1 h0))
    go_wp2
    go_ret
    exact ⟨by rw [unhide HD]; rfl, unhide HB⟩
  · have HD : Hid (decide ((nm, y) ∈ ((xs.take i).map fun x => sgS (sxK x))) = false) := hide (decide_eq_false (fun h => h0 ((unhide HR).2 h)))
    go_wp2
    go_ret
    exact ⟨by rw [unhide HD]; show Ending.returned (.bool (decide (0 ≤ r))) = _; rw [decide_eq_false (by omega)], unhide HB⟩
end Go.Proofs.YtkablmjkffdloaaGreatDoor

namespace Go.Proofs.YtkablmjkffdloaaGreatDoor
open Go.RowKit

/-- A row of texts of our own. -/
abbrev TOwn (base : Nat) (w : World) (v : Value) (l : List Bs) : Prop := w.ownsRow base 9 1 v l.length (l.map fun t => Value.string (ba t))
theorem TOwn.put {base : Nat} {w : World} {v x : Value} {l : List Bs} {p k : Nat} (h : TOwn base w v l) (hp : p < base) : TOwn base (w.setCell ⟨p, k, none⟩ x) v l :=
  row_keep h fun g hg => Below.heap_setCell _ _ _ _ (by have := (row_ge h hg).1; show g ≠ p; omega)
theorem app_txt {B : Nat} {w W1 : World} {v : Value} {l : List Bs} {t : Bs} (ho : TOwn B w v l) (hB : B ≤ w.heap.size) (hl : l.length ≤ 1000000) (hW : w.alloc (.cells #[.string (ba t)] 9) = W1) :
    ∃ v' w', (Builtin.append_ #[73, 73] 73 #[v, .slice (some ⟨w.heap.size, 0, none⟩) 1 1]).run Tryz.prog W1 = .ok v' w' ∧ TOwn B w' v' (l ++ [t]) ∧ w.grownBy w' v.ownBlock ∧ (v'.ownBlock = v.ownBlock ∨ ∃ g, v'.ownBlock = some g ∧ w.heap.size ≤ g) := by
  obtain ⟨i0, hi, hz0, hz1, hz2⟩ := info_parts info9
  have b1 : Below w.heap.size w W1 := by rw [← hW]; exact lowA (Below.refl _ _) _
  have hz : Blk W1 w.heap.size #[.string (ba t)] 9 := by rw [← hW]; exact Blk.new _ _ _
  obtain ⟨v', w', r1, r2, r3, _, r5⟩ := run_append_own_at (P := Tryz.prog) W1 B 73 73 9 i0 _ 1 16 Tryz.underlying73 hi hz0 hz1 hz2 rfl (by decide) v l.length (l.map fun t => Value.string (ba t)) (row_low ho b1) ⟨w.heap.size, 0, none⟩ 1 1 [.string (ba t)] rfl (fun j u hj => by
    rw [WideShapes.add_plain, Nat.zero_add, hz.cell j]
    match j, hj with
    | 0, hj => exact hj
    | j + 1, hj => simp at hj) (fun u hu => by simp at hu; subst hu; rfl) (by unfold maxLen; omega) (by omega) (Nat.le_trans hB b1.size)
  refine ⟨v', w', r1, ?_, ⟨r3.os.trans b1.os, r3.tape.trans b1.tape, r3.output.trans b1.output, Nat.le_trans b1.size r3.size, fun k hk hne => (r3.block k (Nat.lt_of_lt_of_le hk b1.size) hne).trans (b1.block k hk)⟩, ?_⟩
  · unfold TOwn
    rw [List.map_append, List.length_append]
    exact r2
  · rcases r5 with e | e
    · exact Or.inl e
    · exact Or.inr ⟨_, e, b1.size⟩

/-- What keys say of signatures, one by one. -/
def chk (text : Bs) (ks : List Ky) : List Sg → List Bs → List Bs → List (Bs × Bs) → Int × List Bs × List Bs
  | _, g, u, [] => if g = [] then (20, [], []) else (0, g, u)
  | ah, g, u, s :: r => if sgS s ∈ ah then (12, [], []) else
      match keyFor (sgS s) ks with
      | none => chk text ks (ah ++ [sgS s]) g (u ++ [s.1]) r
      | some k => if s.2.drop 4 = sigL k.2 text then chk text ks (ah ++ [sgS s]) (g ++ [s.1]) u r else (21, [], [])
theorem TOwn.form {base : Nat} {w : World} {v : Value} {l : List Bs} (h : TOwn base w v l) : ∃ a c, v = .slice a l.length c := by
  rcases h.2 with ⟨e, h0⟩ | ⟨gg, cc, cur, e, _⟩
  · exact ⟨none, 0, by rw [e, h0]⟩
  · exact ⟨_, _, e⟩
def ChkSaid (base : Nat) (text : Bs) (res : Int × List Bs × List Bs) (e : Ending) (w' : World) : Prop :=
  (∃ E : Int, E ≠ 0 ∧ res = (E, [], []) ∧ e = .returned (.tuple #[.agg #[.string ⟨#[]⟩, .slice none 0 0, .slice none 0 0], .int .i64 E])) ∨
  ∃ g u gv uv, res = (0, g, u) ∧ g ≠ [] ∧ e = .returned (.tuple #[.agg #[.string (ba text), gv, uv], .int .i64 0]) ∧ TOwn base w' gv g ∧ TOwn base w' uv u

set_option maxRecDepth 100000 in
set_option maxHeartbeats 8000000 in
theorem checked_any {w : World} {text : Bs} {xs : List Sx} {R m cap n c : Nat} {ks : List Ky} {a : Option Addr} (ht : text.length ≤ 1000000) (hx : xs.length = m) (hm : m ≤ 1000) (hcap : m ≤ cap) (hcap2 : cap ≤ maxLen) (hr : SRow w R xs) (hbx : ∀ x ∈ xs, BAt w (some ⟨x.g, 4, none⟩) (x.b.drop 4)) (hks : ks.length = n) (hn : n ≤ 1000) (hok : ∀ k ∈ ks, KyOk k) (hk : KRow w a ks) :
    Calls Tryz.prog 112 #[.string (ba text), .slice (some ⟨R, 0, none⟩) m cap, .slice a n c] w fun e w' => ChkSaid w.heap.size text (chk text ks [] [] [] (xs.map sxK)) e w' ∧ Below w.heap.size w w' := by
  obtain ⟨RES, hRES⟩ : ∃ RES, chk text ks [] [] [] (xs.map sxK) = RES := ⟨_, rfl⟩
  rw [hRES]
  obtain ⟨A, hA⟩ : ∃ A, w.heap.size = A := ⟨_, rfl⟩
  obtain ⟨W1, hW1⟩ : ∃ W1, w.alloc (.cells #[.string ⟨#[]⟩, .slice none 0 0, .slice none 0 0] 78) = W1 := ⟨_, rfl⟩
  have b1 : Below w.heap.size w W1 := by rw [← hW1]; exact lowA (Below.refl _ _) _
  have q1 : Blk W1 A #[.string ⟨#[]⟩, .slice none 0 0, .slice none 0 0] 78 := by rw [← hW1, ← hA]; exact Blk.new _ _ _
  have s1 : W1.heap.size = A + 1 := by rw [← hW1, ← hA]; simp
  obtain ⟨W2, hW2⟩ : ∃ W2, W1.alloc (.cells #[.string (ba text), .slice none 0 0, .slice none 0 0] 78) = W2 := ⟨_, rfl⟩
  have b2 : Below W1.heap.size W1 W2 := by rw [← hW2]; exact lowA (Below.refl _ _) _
  have q2 : Blk W2 (A + 1) #[.string (ba text), .slice none 0 0, .slice none 0 0] 78 := by rw [← s1, ← hW2]; exact Blk.new _ _ _
  have HQ1 := hide (q1.low b2)
  have HQ2 := hide q2
  have HB := hide (low_trans b1 b2)
  have HR := hide hr
  have HBX := hide hbx
  have HX := hide hx
  have HKS := hide hks
  have HOK := hide hok
  have HK := hide hk
  have HT := hide ht
  have HW1 := hide hW1
  have HW2 := hide hW2
  have HA := hide hA
  have HS1 := hide s1
  have HR0 := hide hRES
  have hcap3 : cap ≤ 9223372036854775807 := hcap2
  clear ht hx hr hbx hks hok hk b1 b2 q1 q2 s1 hW1 hW2 hA hRES hcap2
  have hnn : ∀ W : World, (binOp .eql 91 .nilFunc .nilFunc).run Tryz.prog W = .ok (.bool true) W := fun _ => by kernel_rfl
  go_enter Tryz.func112, Tryz.ntmps112
  go_wp2
  rw [unhide HW1, unhide HW2, unhide HA]
  go_loopw [9, 10, 11, 12, 17] (fun _ _ _ _ v17 wr => ∃ (i : Nat) (g u : List Bs) (gv uv : Value), i ≤ m ∧ g.length ≤ i ∧ u.length ≤ i ∧ v17 = .int .i64 (i : Int) ∧ Blk wr (A + 1) #[.string (ba text), gv, uv] 78 ∧ Blk wr A #[.string ⟨#[]⟩, .slice none 0 0, .slice none 0 0] 78 ∧ TOwn (A + 2) wr gv g ∧ TOwn (A + 2) wr uv u ∧ Hid (∀ k, gv.ownBlock = some k → uv.ownBlock = some k → False) ∧ Hid (RES = chk text ks ((xs.take i).map fun x => sgS (sxK x)) g u ((xs.drop i).map sxK)) ∧ Below w.heap.size w wr) (fun _ _ _ _ v17 _ => m - (intOf v17).toNat)
  case atStart => exact ⟨0, [], [], _, _, Nat.zero_le _, Nat.zero_le _, Nat.zero_le _, rfl, unhide HQ2, unhide HQ1, World.ownsRow_nil _ _ _ _, World.ownsRow_nil _ _ _ _, hide (fun k h => by cases h), hide (by rw [← unhide HR0]; simp), unhide HB⟩
  case round =>
    rename World => wr
    obtain ⟨i, g, u, gv, uv, hi, hgl, hul, rfl, p1, p0, tg, tu, hne, hres, hbw⟩ := hrel
    by_cases hlt : i < m
    · have hil : i < xs.length := by rw [unhide HX]; exact hlt
      have hlt' : (i : Int) < (m : Int) := by omega
      obtain ⟨g0, g1, g2⟩ := (unhide HR).low hbw i hil
      have hbb := (unhide HBX _ (List.getElem_mem hil)).low hbw
      have hdr : xs.drop i = xs[i] :: xs.drop (i + 1) := List.drop_eq_getElem_cons hil
      have htk := take_snoc hil
      obtain ⟨x, hxx⟩ : ∃ x, xs[i] = x := ⟨_, rfl⟩
      rw [hxx] at g0 g1 g2 hbb hdr htk
      obtain ⟨nm, b, xg, xc⟩ := x
      simp only at g0 g1 g2 hbb
      have hres2 := unhide hres
      rw [hdr, List.map_cons] at hres2
      have htk2 : ((xs.take (i + 1)).map fun x => sgS (sxK x)) = ((xs.take i).map fun x => sgS (sxK x)) ++ [sgS (nm, b)] := by rw [htk, List.map_append]; rfl
      obtain ⟨AH, hAH⟩ : ∃ AH, ((xs.take i).map fun x => sgS (sxK x)) = AH := ⟨_, rfl⟩
      rw [hAH] at hres2 htk2
      have hres3 : RES = chk text ks AH g u ((nm, b) :: (xs.drop (i + 1)).map sxK) := hres2
      simp only [chk] at hres3
      obtain ⟨sl, hsl⟩ : ∃ sl, b.length - 4 = sl := ⟨_, rfl⟩
      have hdl : (b.drop 4).length = sl := by rw [List.length_drop]; exact hsl
      rw [hsl] at g2
      obtain ⟨S, hS⟩ : ∃ S, wr.heap.size = S := ⟨_, rfl⟩
      have KC0 : Hid (∀ W, Below wr.heap.size wr W → Blk W S #[.string (ba nm), .int .u32 ((numU b).toNat : Int), .slice (some ⟨xg, 4, none⟩) sl xc] 157 → Calls Tryz.prog 161 #[.slice (some ⟨R, 0, none⟩) i cap, .func (.func 160) #[] #[.pointer (some ⟨S, 0, none⟩)]] W fun e w' => e = .returned (.bool (decide ((nm, numU b) ∈ AH))) ∧ Below W.heap.size W w') := hide (fun W hW hq => by
        have k := contains_any (w := W) (cap := cap) (i := i) (xs := xs) (nm := nm) (y := numU b) (by have := unhide HX; omega) (by omega) ((unhide HR).low (low_trans hbw hW)) hq
        rw [hAH] at k
        exact k)
      have KV0 : Hid (∀ W, Below wr.heap.size wr W → Calls Tryz.prog 162 #[.agg #[.string (ba nm), .int .u32 ((numU b).toNat : Int)], .slice a n c] W fun e w' => e = .returned (verV (keyFor (nm, numU b) ks)) ∧ Below W.heap.size W w') := hide (fun W hW => verifyOf_any (unhide HKS) hn (unhide HOK) ((unhide HK).low (low_trans hbw hW)))
      obtain ⟨X, hX⟩ : ∃ X : Int, ((numU b).toNat : Int) = X := ⟨_, rfl⟩
      rw [hX] at g1 KC0 KV0
      obtain ⟨W3, hW3⟩ : ∃ W3, wr.alloc (.cells #[.string (ba nm), .int .u32 X, .slice (some ⟨xg, 4, none⟩) sl xc] 157) = W3 := ⟨_, rfl⟩
      have b3 : Below wr.heap.size wr W3 := by rw [← hW3]; exact lowA (Below.refl _ _) _
      have q3 : Blk W3 S #[.string (ba nm), .int .u32 X, .slice (some ⟨xg, 4, none⟩) sl xc] 157 := by rw [← hW3, ← hS]; exact Blk.new _ _ _
      have KC := hide (unhide KC0 W3 b3 q3)
      have hic : i ≤ cap := by omega
      have hic2 : (i : Int) ≤ (cap : Int) := by omega
      have HQA := hide p0
      have HQB := hide p1
      have HG := hide tg
      have HU := hide tu
      have HNE := hide (unhide hne)
      have HBW := hide hbw
      have HB3 := hide b3
      have HQS := hide q3
      have HBB := hide hbb
      have HW3 := hide hW3
      have HS := hide hS
      have HRES := hide hres3
      have HTK := hide htk2
      have HDL := hide hdl
      have HAH := hide hAH
      obtain ⟨p, hp⟩ : ∃ p, decide ((nm, numU b) ∈ AH) = p := ⟨_, rfl⟩
      rw [hp] at KC
      have HPP := hide hp
      clear p0 p1 tg tu hne hbw b3 q3 hbb hW3 hS hres hres2 hres3 htk2 hdl hAH hp hdr htk hxx hsl hX KC0
      go_wp2_with (go_at_call 161; fail)
      rw [unhide HW3, unhide HS]
      refine (unhide KC).mono ?_
      rintro e w4 ⟨rfl, b4⟩
      have b34 := low_trans (unhide HB3) b4
      have HB34 := hide b34
      have HBS4 := hide b4
      cases p with
      | true =>
        have HF : Hid (RES = (12, [], [])) := hide (by
          rw [unhide HRES, if_pos (show sgS (nm, b) ∈ AH from of_decide_eq_true (unhide HPP))])
        have p0 := (unhide HQA).low (unhide HB34)
        have r0 := p0.cell 0
        have r1 := p0.cell 1
        have r2 := p0.cell 2
        have f0 := p0.free 0
        have f1 := p0.free 1
        have f2 := p0.free 2
        have qs := ((p0.set 0 (.string ⟨#[]⟩)).set 1 (.slice none 0 0)).set 2 (.slice none 0 0)
        have d0 := qs.cell 0
        have d1 := qs.cell 1
        have d2 := qs.cell 2
        have HZ : Hid (Below w.heap.size w (((w4.setCell ⟨A, 0, none⟩ (.string ⟨#[]⟩)).setCell ⟨A, 1, none⟩ (.slice none 0 0)).setCell ⟨A, 2, none⟩ (.slice none 0 0))) := hide (low_put3 (low_trans (unhide HBW) (unhide HB34)) (by rw [unhide HA]; exact Nat.le_refl _))
        clear p0 qs b34 b4 KV0 KC
        go_wp2
        exact bodyPost_ret (v := .tuple #[.agg #[.string ⟨#[]⟩, .slice none 0 0, .slice none 0 0], .int .i64 12]) (by simp [results, Tryz.results112, go_sem, d0, d1, d2]) rfl ⟨Or.inl ⟨12, by decide, unhide HF, rfl⟩, unhide HZ⟩
      | false =>
        have HRE2 : Hid (RES = (match keyFor (nm, numU b) ks with
            | none => chk text ks (AH ++ [sgS (nm, b)]) g (u ++ [nm]) ((xs.drop (i + 1)).map sxK)
            | some k => if b.drop 4 = sigL k.2 text then chk text ks (AH ++ [sgS (nm, b)]) (g ++ [nm]) u ((xs.drop (i + 1)).map sxK) else (21, [], []))) := hide (by
          rw [unhide HRES, if_neg (show ¬ sgS (nm, b) ∈ AH from of_decide_eq_false (unhide HPP))]
          rfl)
        have KV := hide (unhide KV0 w4 b34)
        have y0 := ((unhide HQS).low b4).cell 0
        have y1 := ((unhide HQS).low b4).cell 1
        clear b34 b4 KV0 KC
        cases hkf : keyFor (nm, numU b) ks with
        | none =>
          rw [hkf] at KV HRE2
          simp only [verV] at KV
          simp only at HRE2
          have HRS : Hid (RES = chk text ks ((xs.take (i + 1)).map fun x => sgS (sxK x)) g (u ++ [nm]) ((xs.drop (i + 1)).map sxK)) := hide (by rw [unhide HTK]; exact unhide HRE2)
          clear hkf
          go_wp2_with (go_at_call 162; fail)
          refine (unhide KV).mono ?_
          rintro e w5 ⟨rfl, b5⟩
          have b35 := low_trans (unhide HB34) b5
          have bs5 := low_trans (unhide HBS4) b5
          have q5 := (unhide HQA).low b35
          have q6 := (unhide HQB).low b35
          have x0 := ((unhide HQS).low bs5).cell 0
          have z1 := q6.cell 2
          have oa : TOwn (A + 2) w5 uv u := row_low (unhide HU) b35
          have oo : TOwn (A + 2) w5 gv g := row_low (unhide HG) b35
          have bw := low_trans (unhide HBW) b35
          have hsz : A + 2 ≤ w5.heap.size := by have := q6.lt; omega
          obtain ⟨W6, hW6⟩ : ∃ W6, w5.alloc (.cells #[.string (ba nm)] 9) = W6 := ⟨_, rfl⟩
          obtain ⟨v7, w7, happ, o7, gr7, hb7⟩ := app_txt (t := nm) oa hsz (by omega) hW6
          obtain ⟨a7, c7, hv7⟩ := TOwn.form o7
          obtain ⟨L7, hL7⟩ : ∃ L7, (u ++ [nm]).length = L7 := ⟨_, rfl⟩
          rw [hL7] at hv7
          subst hv7
          have hbl : ∀ k, uv.ownBlock = some k → A + 2 ≤ k := fun k hk => (row_ge oa hk).1
          have q57 : Blk w7 A #[.string ⟨#[]⟩, .slice none 0 0, .slice none 0 0] 78 := (gr7.block A q5.lt (fun e => by have := hbl A e.symm; omega)).trans q5
          have q67 : Blk w7 (A + 1) #[.string (ba text), gv, uv] 78 := (gr7.block (A + 1) q6.lt (fun e => by have := hbl (A + 1) e.symm; omega)).trans q6
          have u0 := q67.cell 2
          have f0 := q67.free 2
          have bw7 : Below w.heap.size w w7 := bw.grown gr7 bw.size (fun k hk => by have := hbl k hk; have := unhide HA; omega)
          have oo7 : TOwn (A + 2) w7 gv g := row_keep oo (fun k hk => by
            obtain ⟨_, cur, hc⟩ := row_ge oo hk
            exact gr7.block k (Array.getElem?_eq_some_iff.1 hc).1 (fun e => unhide HNE k hk e.symm))
          have HP1 : Hid (Blk (w7.setCell ⟨A + 1, 2, none⟩ (.slice a7 L7 c7)) (A + 1) #[.string (ba text), gv, .slice a7 L7 c7] 78) := hide (by have := q67.set 2 (.slice a7 L7 c7); simpa using this)
          have HP0 : Hid (Blk (w7.setCell ⟨A + 1, 2, none⟩ (.slice a7 L7 c7)) A #[.string ⟨#[]⟩, .slice none 0 0, .slice none 0 0] 78) := hide (q57.other (by simp) _)
          have HB7 : Hid (Below w.heap.size w (w7.setCell ⟨A + 1, 2, none⟩ (.slice a7 L7 c7))) := hide (low_put2 bw7 (by rw [unhide HA]; omega))
          have HT1 : Hid (TOwn (A + 2) (w7.setCell ⟨A + 1, 2, none⟩ (.slice a7 L7 c7)) (.slice a7 L7 c7) (u ++ [nm])) := hide (TOwn.put o7 (by omega))
          have HT2 : Hid (TOwn (A + 2) (w7.setCell ⟨A + 1, 2, none⟩ (.slice a7 L7 c7)) gv g) := hide (TOwn.put oo7 (by omega))
          have HN7 : Hid (∀ k, gv.ownBlock = some k → (Value.slice a7 L7 c7).ownBlock = some k → False) := hide (fun k h1 h2 => by
            rcases hb7 with e | ⟨gg, e, hge⟩
            · rw [e] at h2; exact unhide HNE k h1 h2
            · rw [e] at h2
              obtain ⟨_, cur, hc⟩ := row_ge oo h1
              have := (Array.getElem?_eq_some_iff.1 hc).1
              have : gg = k := Option.some.inj h2
              omega)
          have HW6 := hide hW6
          clear b5 b35 bs5 y0 y1 KV q5 q6 oa oo bw hsz o7 gr7 hb7 hbl q57 q67 bw7 oo7 hW6 hL7
          go_wp2_with (at_builtin; rw [unhide HW6]; refine Lib.wpList_append_run _ rfl _ _ _ _ rfl _ _ rfl rfl _ _ happ ?_; clear happ)
          go_roundw
          case rel => exact ⟨i + 1, g, u ++ [nm], gv, .slice a7 L7 c7, hlt, by first | omega | (simp; omega), by first | omega | (simp; omega), by push_cast; rfl, unhide HP1, unhide HP0, unhide HT2, unhide HT1, HN7, HRS, unhide HB7⟩
          case measure => simp [intOf]; omega
        | some k =>
          obtain ⟨kn, ksc⟩ := k
          have hko : KyOk (kn, ksc) := unhide HOK _ (List.mem_of_find?_eq_some hkf)
          rw [hkf] at KV HRE2
          simp only [verV] at KV
          simp only at HRE2
          have hnf : ∀ W : World, (binOp .eql 91 (.func (.method "Verify") #[.iface 75 (.agg #[.string (ba kn), .string (ba ksc)])] #[]) .nilFunc).run Tryz.prog W = .ok (.bool false) W := fun _ => by kernel_rfl
          have hmv : ∀ W : World, (method 414 75 (.agg #[.string (ba kn), .string (ba ksc)]) "Verify").run Tryz.prog W = .ok (62, .agg #[.string (ba kn), .string (ba ksc)]) W := fun _ => by kernel_rfl
          obtain ⟨vb, hvb⟩ : ∃ vb, decide (b.drop 4 = sigL ksc text) = vb := ⟨_, rfl⟩
          have HVF : Hid (∀ W, BAt W (some ⟨xg, 4, none⟩) (b.drop 4) → Calls Tryz.prog 62 #[.agg #[.string (ba kn), .string (ba ksc)], .string (ba text), .slice (some ⟨xg, 4, none⟩) sl xc] W fun e w' => e = .returned (.bool vb) ∧ Below W.heap.size W w') := hide (fun W h => by
            have k := verify_any (nm := kn) (sec := ksc) (text := text) (sig := b.drop 4) (c := xc) hko.2 (unhide HT) (unhide HDL) h
            rw [hvb] at k
            exact k)
          have HVB := hide hvb
          clear hkf hko hvb
          go_wp2_with (go_at_call 162; fail)
          refine (unhide KV).mono ?_
          rintro e w5 ⟨rfl, b5⟩
          have q35 := (unhide HQS).low (low_trans (unhide HBS4) b5)
          have t0 := q35.cell 0
          have t2 := q35.cell 2
          have KF := hide (unhide HVF w5 ((unhide HBB).low (low_trans (unhide HB34) b5)))
          have HB35 := hide (low_trans (unhide HB34) b5)
          have HBS5 := hide (low_trans (unhide HBS4) b5)
          clear b5 q35 y0 y1 KV
          cases vb with
          | false =>
            have HF : Hid (RES = (21, [], [])) := hide (by rw [unhide HRE2, if_neg (of_decide_eq_false (unhide HVB))])
            go_wp2_with (go_at_call 62; fail)
            refine (unhide KF).mono ?_
            rintro e w6 ⟨rfl, b6⟩
            have b36 := low_trans (unhide HB35) b6
            have p0 := (unhide HQA).low b36
            have r0 := p0.cell 0
            have r1 := p0.cell 1
            have r2 := p0.cell 2
            have f0 := p0.free 0
            have f1 := p0.free 1
            have f2 := p0.free 2
            have qs := ((p0.set 0 (.string ⟨#[]⟩)).set 1 (.slice none 0 0)).set 2 (.slice none 0 0)
            have d0 := qs.cell 0
            have d1 := qs.cell 1
            have d2 := qs.cell 2
            have HZ : Hid (Below w.heap.size w (((w6.setCell ⟨A, 0, none⟩ (.string ⟨#[]⟩)).setCell ⟨A, 1, none⟩ (.slice none 0 0)).setCell ⟨A, 2, none⟩ (.slice none 0 0))) := hide (low_put3 (low_trans (unhide HBW) b36) (by rw [unhide HA]; exact Nat.le_refl _))
            clear p0 qs b36 b6 KF t0 t2
            go_wp2
            exact bodyPost_ret (v := .tuple #[.agg #[.string ⟨#[]⟩, .slice none 0 0, .slice none 0 0], .int .i64 21]) (by simp [results, Tryz.results112, go_sem, d0, d1, d2]) rfl ⟨Or.inl ⟨21, by decide, unhide HF, rfl⟩, unhide HZ⟩
          | true =>
            have HRS : Hid (RES = chk text ks ((xs.take (i + 1)).map fun x => sgS (sxK x)) (g ++ [nm]) u ((xs.drop (i + 1)).map sxK)) := hide (by rw [unhide HTK, unhide HRE2, if_pos (of_decide_eq_true (unhide HVB))])
            go_wp2_with (go_at_call 62; fail)
            refine (unhide KF).mono ?_
            rintro e w6 ⟨rfl, b6⟩
            have b36 := low_trans (unhide HB35) b6
            have bs6 := low_trans (unhide HBS5) b6
            have q5 := (unhide HQA).low b36
            have q6 := (unhide HQB).low b36
            have x0 := ((unhide HQS).low bs6).cell 0
            have z1 := q6.cell 1
            have oa : TOwn (A + 2) w6 gv g := row_low (unhide HG) b36
            have oo : TOwn (A + 2) w6 uv u := row_low (unhide HU) b36
            have bw := low_trans (unhide HBW) b36
            have hsz : A + 2 ≤ w6.heap.size := by have := q6.lt; omega
            obtain ⟨W6, hW6⟩ : ∃ W6, w6.alloc (.cells #[.string (ba nm)] 9) = W6 := ⟨_, rfl⟩
            obtain ⟨v7, w7, happ, o7, gr7, hb7⟩ := app_txt (t := nm) oa hsz (by omega) hW6
            obtain ⟨a7, c7, hv7⟩ := TOwn.form o7
            obtain ⟨L7, hL7⟩ : ∃ L7, (g ++ [nm]).length = L7 := ⟨_, rfl⟩
            rw [hL7] at hv7
            subst hv7
            have hbl : ∀ k, gv.ownBlock = some k → A + 2 ≤ k := fun k hk => (row_ge oa hk).1
            have q57 : Blk w7 A #[.string ⟨#[]⟩, .slice none 0 0, .slice none 0 0] 78 := (gr7.block A q5.lt (fun e => by have := hbl A e.symm; omega)).trans q5
            have q67 : Blk w7 (A + 1) #[.string (ba text), gv, uv] 78 := (gr7.block (A + 1) q6.lt (fun e => by have := hbl (A + 1) e.symm; omega)).trans q6
            have u0 := q67.cell 1
            have f0 := q67.free 1
            have bw7 : Below w.heap.size w w7 := bw.grown gr7 bw.size (fun k hk => by have := hbl k hk; have := unhide HA; omega)
            have oo7 : TOwn (A + 2) w7 uv u := row_keep oo (fun k hk => by
              obtain ⟨_, cur, hc⟩ := row_ge oo hk
              exact gr7.block k (Array.getElem?_eq_some_iff.1 hc).1 (fun e => unhide HNE k e.symm hk))
            have HP1 : Hid (Blk (w7.setCell ⟨A + 1, 1, none⟩ (.slice a7 L7 c7)) (A + 1) #[.string (ba text), .slice a7 L7 c7, uv] 78) := hide (by have := q67.set 1 (.slice a7 L7 c7); simpa using this)
            have HP0 : Hid (Blk (w7.setCell ⟨A + 1, 1, none⟩ (.slice a7 L7 c7)) A #[.string ⟨#[]⟩, .slice none 0 0, .slice none 0 0] 78) := hide (q57.other (by simp) _)
            have HB7 : Hid (Below w.heap.size w (w7.setCell ⟨A + 1, 1, none⟩ (.slice a7 L7 c7))) := hide (low_put2 bw7 (by rw [unhide HA]; omega))
            have HT1 : Hid (TOwn (A + 2) (w7.setCell ⟨A + 1, 1, none⟩ (.slice a7 L7 c7)) (.slice a7 L7 c7) (g ++ [nm])) := hide (TOwn.put o7 (by omega))
            have HT2 : Hid (TOwn (A + 2) (w7.setCell ⟨A + 1, 1, none⟩ (.slice a7 L7 c7)) uv u) := hide (TOwn.put oo7 (by omega))
            have HN7 : Hid (∀ k, (Value.slice a7 L7 c7).ownBlock = some k → uv.ownBlock = some k → False) := hide (fun k h1 h2 => by
              rcases hb7 with e | ⟨gg, e, hge⟩
              · rw [e] at h1; exact unhide HNE k h1 h2
              · rw [e] at h1
                obtain ⟨_, cur, hc⟩ := row_ge oo h2
                have := (Array.getElem?_eq_some_iff.1 hc).1
                have : gg = k := Option.some.inj h1
                omega)
            have HW6 := hide hW6
            clear b6 b36 bs6 t0 t2 KF q5 q6 oa oo bw hsz o7 gr7 hb7 hbl q57 q67 bw7 oo7 hW6 hL7
            go_wp2_with (at_builtin; rw [unhide HW6]; refine Lib.wpList_append_run _ rfl _ _ _ _ rfl _ _ rfl rfl _ _ happ ?_; clear happ)
            go_roundw
            case rel => exact ⟨i + 1, g ++ [nm], u, .slice a7 L7 c7, uv, hlt, by first | omega | (simp; omega), by first | omega | (simp; omega), by push_cast; rfl, unhide HP1, unhide HP0, unhide HT1, unhide HT2, HN7, HRS, unhide HB7⟩
            case measure => simp [intOf]; omega
    · have hie : i = m := by omega
      subst hie
      have hres2 := unhide hres
      rw [List.drop_of_length_le (by rw [unhide HX]; exact Nat.le_refl _)] at hres2
      simp only [List.map_nil, chk] at hres2
      have u0 := p1.cell 0
      have u1 := p1.cell 1
      have u2 := p1.cell 2
      obtain ⟨ga, gc, rfl⟩ : ∃ ga gc, gv = .slice ga g.length gc := by
        rcases tg.2 with ⟨e, h0⟩ | ⟨gg, cc, cur, e, _⟩
        · exact ⟨none, 0, by rw [e, h0]⟩
        · exact ⟨_, _, e⟩
      obtain ⟨ua, uc, huv⟩ := TOwn.form tu
      obtain ⟨ul, hull⟩ : ∃ ul, u.length = ul := ⟨_, rfl⟩
      rw [hull] at huv
      subst huv
      have HBW := hide hbw
      have HQA := hide p0
      cases g with
      | nil =>
        rw [if_pos rfl] at hres2
        have HF := hide hres2
        have b0 := Below.refl wr.heap.size wr
        clear hne hres hres2 p1 p0 tg tu hbw
        have p0 := (unhide HQA).low b0
        have r0 := p0.cell 0
        have r1 := p0.cell 1
        have r2 := p0.cell 2
        have f0 := p0.free 0
        have f1 := p0.free 1
        have f2 := p0.free 2
        have qs := ((p0.set 0 (.string ⟨#[]⟩)).set 1 (.slice none 0 0)).set 2 (.slice none 0 0)
        have d0 := qs.cell 0
        have d1 := qs.cell 1
        have d2 := qs.cell 2
        have HZ : Hid (Below w.heap.size w (((wr.setCell ⟨A, 0, none⟩ (.string ⟨#[]⟩)).setCell ⟨A, 1, none⟩ (.slice none 0 0)).setCell ⟨A, 2, none⟩ (.slice none 0 0))) := hide (low_put3 (low_trans (unhide HBW) b0) (by rw [unhide HA]; exact Nat.le_refl _))
        clear p0 qs b0
        go_wp2
        exact bodyPost_ret (v := .tuple #[.agg #[.string ⟨#[]⟩, .slice none 0 0, .slice none 0 0], .int .i64 20]) (by simp [results, Tryz.results112, go_sem, d0, d1, d2]) rfl ⟨Or.inl ⟨20, by decide, unhide HF, rfl⟩, unhide HZ⟩
      | cons g0 gr =>
        rw [if_neg (by simp)] at hres2
        have HF := hide hres2
        obtain ⟨gl, hgl2⟩ : ∃ gl, (g0 :: gr).length = gl := ⟨_, rfl⟩
        have hgl3 : ((gl : Int) == 0) = false := by rw [← hgl2]; simp; omega
        have HTG := hide tg
        have HTU := hide tu
        have r0 := p0.cell 0
        have r1 := p0.cell 1
        have r2 := p0.cell 2
        have f0 := p0.free 0
        have f1 := p0.free 1
        have f2 := p0.free 2
        rw [hgl2] at u1 HTG tg
        have qs := ((p0.set 0 (.string (ba text))).set 1 (.slice ga gl gc)).set 2 (.slice ua ul uc)
        have d0 := qs.cell 0
        have d1 := qs.cell 1
        have d2 := qs.cell 2
        have HZ : Hid (Below w.heap.size w (((wr.setCell ⟨A, 0, none⟩ (.string (ba text))).setCell ⟨A, 1, none⟩ (.slice ga gl gc)).setCell ⟨A, 2, none⟩ (.slice ua ul uc))) := hide (low_put3 hbw (by rw [unhide HA]; exact Nat.le_refl _))
        have HG3 : Hid (TOwn w.heap.size (((wr.setCell ⟨A, 0, none⟩ (.string (ba text))).setCell ⟨A, 1, none⟩ (.slice ga gl gc)).setCell ⟨A, 2, none⟩ (.slice ua ul uc)) (.slice ga gl gc) (g0 :: gr)) := hide (row_less (by rw [unhide HA]; omega) (TOwn.put (TOwn.put (TOwn.put tg (by omega)) (by omega)) (by omega)))
        have HU3 : Hid (TOwn w.heap.size (((wr.setCell ⟨A, 0, none⟩ (.string (ba text))).setCell ⟨A, 1, none⟩ (.slice ga gl gc)).setCell ⟨A, 2, none⟩ (.slice ua ul uc)) (.slice ua ul uc) u) := hide (row_less (by rw [unhide HA]; omega) (TOwn.put (TOwn.put (TOwn.put tu (by omega)) (by omega)) (by omega)))
        clear hne hres hres2 p1 p0 tg tu hbw qs hgl2 HTG HTU hull
        go_wp2
        exact bodyPost_ret (v := .tuple #[.agg #[.string (ba text), .slice ga gl gc, .slice ua ul uc], .int .i64 0]) (by simp [results, Tryz.results112, go_sem, d0, d1, d2]) rfl ⟨Or.inr ⟨g0 :: gr, u, .slice ga gl gc, .slice ua ul uc, unhide HF, by simp, rfl, unhide HG3, unhide HU3⟩, unhide HZ⟩
end Go.Proofs.YtkablmjkffdloaaGreatDoor

namespace Go.Proofs.YtkablmjkffdloaaGreatDoor
open Go.RowKit

theorem mapL_len : ∀ (P : List Bs) (q : List (Bs × Bs)), mapL P = some q → q.length = P.length
  | [], q, h => by simp [mapL] at h; subst h; rfl
  | l :: r, q, h => by
    simp only [mapL] at h
    cases hl : lineR l with
    | none => rw [hl] at h; cases h
    | some p =>
      rw [hl] at h
      cases hr : mapL r with
      | none => rw [hr] at h; cases h
      | some q' =>
        rw [hr] at h
        simp at h
        subst h
        simp [mapL_len r q' hr]
theorem lines_pos {ls : Bs} {q : List (Bs × Bs)} (h : linesR ls = some q) : 1 ≤ q.length := by
  unfold linesR at h
  split at h
  · rw [mapL_len _ _ h, parts_length]; omega
  · cases h
/-- A row of one signature or more. -/
theorem SOwn.at {base : Nat} {w : World} {v : Value} {xs : List Sx} (h : SOwn base w v xs) (h1 : 1 ≤ xs.length) : ∃ R cap, v = .slice (some ⟨R, 0, none⟩) xs.length cap ∧ xs.length ≤ cap ∧ cap ≤ maxLen ∧ SRow w R xs ∧ ∀ x ∈ xs, BAt w (some ⟨x.g, 4, none⟩) (x.b.drop 4) := by
  have ho := h.1
  rcases ho.2 with ⟨_, h0⟩ | ⟨R, cap, cur, e, _, _, hc1, hc2, _⟩
  · omega
  · subst e
    refine ⟨R, cap, rfl, hc1, hc2, fun k hk => ?_, fun x hx => (h.2 x hx).1⟩
    obtain ⟨e1, e2, e3⟩ := sxC_at xs k hk
    exact ⟨row_cell ho e1, row_cell ho e2, row_cell ho e3⟩

/-- Where a note's text ends, and what its signatures say. -/
def splitR (s : Bs) : Option (Bs × List (Bs × Bs)) :=
  if Lib.lastIndex s [10, 10] < 0 then none
  else if textB (s.take ((Lib.lastIndex s [10, 10]).toNat + 1)) = true then
    (match linesR (s.drop ((Lib.lastIndex s [10, 10]).toNat + 2)) with
      | none => none
      | some L => some (s.take ((Lib.lastIndex s [10, 10]).toNat + 1), L))
  else none
theorem last_spec (s : Bs) : Lib.lastIndex s [10, 10] = -1 ∨ ∃ m : Nat, Lib.lastIndex s [10, 10] = (m : Int) ∧ m + 2 ≤ s.length ∧ Lib.occAt s [10, 10] m = true := by
  unfold Lib.lastIndex
  split
  · rename_i h
    rcases Lib.lastOcc_spec s [10, 10] (s.length - [10, 10].length + 1) with ⟨e, _⟩ | ⟨i, hi, e, ho, _⟩
    · exact Or.inl e
    · refine Or.inr ⟨i, e, ?_, ho⟩
      simp at h hi
      omega
  · exact Or.inl rfl
/-- A note begins with its text and an empty line. -/
theorem split_front {s T : Bs} {L : List (Bs × Bs)} (h : splitR s = some (T, L)) : ∃ r, s = T ++ [10] ++ r := by
  unfold splitR at h
  rcases last_spec s with e | ⟨m, e, hm, ho⟩
  · rw [e] at h; simp at h
  · rw [e] at h
    rw [if_neg (by omega)] at h
    split at h
    · cases hl : linesR (s.drop ((m : Int).toNat + 2)) with
      | none => rw [hl] at h; cases h
      | some L' =>
        rw [hl] at h
        simp at h
        obtain ⟨rfl, -⟩ := h
        unfold Lib.occAt at ho
        rw [List.isPrefixOf_iff_prefix] at ho
        obtain ⟨r, hr⟩ := ho
        refine ⟨r, ?_⟩
        have h1 : s = s.take m ++ s.drop m := (List.take_append_drop m s).symm
        have hl2 : (s.take m).length = m := by rw [List.length_take]; omega
        have h2 : s = s.take m ++ ([10, 10] ++ r) := by rw [hr]; exact h1
        have h3 : s.take (m + 1) = s.take m ++ [10] := by
          conv => lhs; rw [h2]
          rw [List.take_append]
          rw [hl2, show m + 1 - m = 1 by omega, List.take_of_length_le (by omega)]
          rfl
        rw [h3]
        conv => lhs; rw [h2]
        simp
    · cases h

def SplSaid (base : Nat) (s : Bs) (e : Ending) (w' : World) : Prop := (splitR s = none ∧ ∃ t, e = .returned (.tuple #[.string t, .slice none 0 0, .bool false])) ∨ ∃ T xs v, splitR s = some (T, xs.map sxK) ∧ 1 ≤ xs.length ∧ T.length ≤ s.length ∧ e = .returned (.tuple #[.string (ba T), v, .bool true]) ∧ SOwn base w' v xs

set_option maxRecDepth 100000 in
set_option maxHeartbeats 4000000 in
theorem split_any {w : World} {s : Bs} (hl : s.length ≤ 131072) (hg : Gy w) :
    Calls Tryz.prog 111 #[.string (ba s)] w fun e w' => SplSaid w.heap.size s e w' ∧ Below w.heap.size w w' := by
  obtain ⟨n, hn⟩ : ∃ n, s.length = n := ⟨_, rfl⟩
  have hsz : (ba s).size = n := by rw [ba_size]; exact hn
  rcases last_spec s with hi | ⟨m, hi, hm, -⟩
  · have HF : Hid (splitR s = none) := hide (by unfold splitR; rw [hi]; simp)
    have K1 : Hid (∀ w : World, Calls Tryz.prog 158 #[.string (ba s), .string ⟨#[10, 10]⟩] w fun e w' => e = .returned (.int .i64 (-1)) ∧ w' = w) := hide (fun w => by
      have k := Tryz.strings_LastIndex (ba s) (ba [10, 10]) (by rw [ba_size]; omega) w
      rw [ba_data, ba_data, hi] at k
      exact k)
    have K2 : Hid (∀ w : World, Calls Tryz.prog 106 #[.string (ba [])] w fun e w' => e = .returned (.bool false) ∧ w' = w) := hide (fun w => isText_any (l := []) (by simp) w)
    have x1 : (ba s).extract 0 0 = ba [] := by rw [sub_of]; simp
    clear hi hg hl hn
    go_enter Tryz.func111, Tryz.ntmps111
    go_wp2_with (first
      | (go_at_call 158; refine (unhide K1 _).mono ?_; rintro e wn ⟨rfl, hwn⟩; rw [hwn]; clear hwn wn)
      | (go_at_call 106; refine (unhide K2 _).mono ?_; rintro e wn ⟨rfl, hwn⟩; rw [hwn]; clear hwn wn))
    exact bodyPost_ret (v := .tuple #[.string ⟨#[]⟩, .slice none 0 0, .bool false]) (by simp [results, Tryz.results111, go_sem]) rfl ⟨Or.inl ⟨unhide HF, _, rfl⟩, Below.refl _ _⟩
  · obtain ⟨text, ht⟩ : ∃ text, s.take (m + 1) = text := ⟨_, rfl⟩
    obtain ⟨ls, hd⟩ : ∃ ls, s.drop (m + 2) = ls := ⟨_, rfl⟩
    obtain ⟨tb, htb⟩ : ∃ tb, textB text = tb := ⟨_, rfl⟩
    have htl : text.length ≤ s.length := by rw [← ht, List.length_take]; omega
    have HSP : Hid (splitR s = if tb = true then (match linesR ls with | none => none | some L => some (text, L)) else none) := hide (by
      unfold splitR
      rw [hi, if_neg (by omega)]
      simp only [Int.toNat_natCast]
      rw [ht, hd, htb])
    have K1 : Hid (∀ w : World, Calls Tryz.prog 158 #[.string (ba s), .string ⟨#[10, 10]⟩] w fun e w' => e = .returned (.int .i64 (m : Int)) ∧ w' = w) := hide (fun w => by
      have k := Tryz.strings_LastIndex (ba s) (ba [10, 10]) (by rw [ba_size]; omega) w
      rw [ba_data, ba_data, hi] at k
      exact k)
    have K2 : Hid (∀ w : World, Calls Tryz.prog 106 #[.string (ba text)] w fun e w' => e = .returned (.bool tb) ∧ w' = w) := hide (fun w => by
      have k := isText_any (l := text) (by omega) w
      rw [htb] at k
      exact k)
    have K3 := hide (readLines_any (w := w) (ls := ls) (by rw [← hd, List.length_drop]; omega) hg)
    have x1 : (ba s).extract 0 (m + 1) = ba text := by rw [sub_of, ← ht]; simp
    have x2 : (ba s).extract (m + 2) n = ba ls := by
      rw [sub_of, ← hd, List.take_of_length_le (by rw [List.length_drop]; omega)]
    obtain ⟨m1, hm1⟩ : ∃ m1, m + 1 = m1 := ⟨_, rfl⟩
    obtain ⟨m2, hm2⟩ : ∃ m2, m + 2 = m2 := ⟨_, rfl⟩
    rw [hm1] at x1
    rw [hm2] at x2
    have y1 : (m : Int) + 1 = (m1 : Int) := by omega
    have y2 : (m1 : Int) + 1 = (m2 : Int) := by omega
    have y3 : (m1 : Int) ≤ (n : Int) := by omega
    have y4 : (m2 : Int) ≤ (n : Int) := by omega
    have y5 : IntKind.i64.wrap (m1 : Int) = (m1 : Int) := by rw [IntKind.wrap_i64]; omega
    have y6 : IntKind.i64.wrap (m2 : Int) = (m2 : Int) := by rw [IntKind.wrap_i64]; omega
    have y7 : m1 ≤ n := by omega
    have y8 : m2 ≤ n := by omega
    have hn2 : n ≤ 131072 := by omega
    have HTL := hide htl
    clear hm1 hm2 hi hm ht hd htb hg hn hl htl
    cases tb with
    | false =>
      have HF : Hid (splitR s = none) := hide (by rw [unhide HSP]; rfl)
      go_enter Tryz.func111, Tryz.ntmps111
      go_wp2_with (first
        | (go_at_call 158; refine (unhide K1 _).mono ?_; rintro e wn ⟨rfl, hwn⟩; rw [hwn]; clear hwn wn)
        | (go_at_call 106; refine (unhide K2 _).mono ?_; rintro e wn ⟨rfl, hwn⟩; rw [hwn]; clear hwn wn))
      exact bodyPost_ret (v := .tuple #[.string ⟨#[]⟩, .slice none 0 0, .bool false]) (by simp [results, Tryz.results111, go_sem]) rfl ⟨Or.inl ⟨unhide HF, _, rfl⟩, Below.refl _ _⟩
    | true =>
      go_enter Tryz.func111, Tryz.ntmps111
      go_wp2_with (first
        | (go_at_call 158; refine (unhide K1 _).mono ?_; rintro e wn ⟨rfl, hwn⟩; rw [hwn]; clear hwn wn)
        | (go_at_call 106; refine (unhide K2 _).mono ?_; rintro e wn ⟨rfl, hwn⟩; rw [hwn]; clear hwn wn)
        | (go_at_call 159; fail))
      refine (unhide K3).mono ?_
      rintro e w1 ⟨hsd, b1⟩
      have HB := hide b1
      clear b1 K1 K2 K3
      rcases hsd with ⟨hnone, rfl⟩ | ⟨v, xs, hsome, rfl, ho⟩
      · have HF : Hid (splitR s = none) := hide (by rw [unhide HSP, hnone]; rfl)
        clear hnone
        go_wp2
        exact bodyPost_ret (v := .tuple #[.string (ba text), .slice none 0 0, .bool false]) (by simp [results, Tryz.results111, go_sem]) rfl ⟨Or.inl ⟨unhide HF, _, rfl⟩, unhide HB⟩
      · have HF : Hid (splitR s = some (text, xs.map sxK)) := hide (by rw [unhide HSP, hsome]; rfl)
        have HP : Hid (1 ≤ xs.length) := hide (by have := lines_pos hsome; rwa [List.length_map] at this)
        have HO := hide ho
        clear hsome ho
        go_wp2
        exact bodyPost_ret (v := .tuple #[.string (ba text), v, .bool true]) (by simp [results, Tryz.results111, go_sem]) rfl ⟨Or.inr ⟨text, xs, v, unhide HF, unhide HP, unhide HTL, rfl, unhide HO⟩, unhide HB⟩

/-- The error that Open answers. -/
def openE (s : Bs) (ks : List Ky) : Int :=
  match splitR s with
  | none => 15
  | some (T, L) => if 8 < L.length then 14 else (chk T ks [] [] [] L).1
def OpnSaid (base : Nat) (s : Bs) (ks : List Ky) (e : Ending) (w' : World) : Prop :=
  (∃ E : Int, E ≠ 0 ∧ openE s ks = E ∧ e = .returned (.tuple #[.agg #[.string ⟨#[]⟩, .slice none 0 0, .slice none 0 0], .int .i64 E])) ∨
  ∃ T L g u ga gc ua uc, splitR s = some (T, L) ∧ L.length ≤ 8 ∧ T.length ≤ s.length ∧ chk T ks [] [] [] L = (0, g, u) ∧ g ≠ [] ∧ e = .returned (.tuple #[.agg #[.string (ba T), .slice ga g.length gc, .slice ua u.length uc], .int .i64 0]) ∧ TOwn base w' (.slice ga g.length gc) g ∧ TOwn base w' (.slice ua u.length uc) u

set_option maxRecDepth 100000 in
set_option maxHeartbeats 4000000 in
theorem open_any {w : World} {s : Bs} {ks : List Ky} {a : Option Addr} {n c : Nat} (hl : s.length ≤ 131072) (hks : ks.length = n) (hn : n ≤ 1000) (hok : ∀ k ∈ ks, KyOk k) (hk : KRow w a ks) (hg : Gy w) :
    Calls Tryz.prog 56 #[.string (ba s), .slice a n c] w fun e w' => OpnSaid w.heap.size s ks e w' ∧ Below w.heap.size w w' := by
  obtain ⟨sn, hn0⟩ : ∃ sn, s.length = sn := ⟨_, rfl⟩
  have hsz : (ba s).size = sn := by rw [ba_size]; exact hn0
  have hn2 : ¬ (131072 : Int) < (sn : Int) := by omega
  obtain ⟨A, hA⟩ : ∃ A, w.heap.size = A := ⟨_, rfl⟩
  obtain ⟨W1, hW1⟩ : ∃ W1, w.alloc (.cells #[.string ⟨#[]⟩, .slice none 0 0, .slice none 0 0] 78) = W1 := ⟨_, rfl⟩
  have b1 : Below w.heap.size w W1 := by rw [← hW1]; exact lowA (Below.refl _ _) _
  have q1 : Blk W1 A #[.string ⟨#[]⟩, .slice none 0 0, .slice none 0 0] 78 := by rw [← hW1, ← hA]; exact Blk.new _ _ _
  have K1 := hide (split_any (w := W1) hl (hg.low b1))
  have HQ1 := hide q1
  have HB1 := hide b1
  have HW1 := hide hW1
  have HA := hide hA
  have HKS := hide hks
  have HOK := hide hok
  have HK := hide hk
  have HL := hide hl
  have HSN := hide hn0
  clear hl hks hok hk hg hn0 b1 q1 hW1 hA
  go_enter Tryz.func56, Tryz.ntmps56
  go_wp2_with (go_at_call 111; fail)
  rw [unhide HW1, unhide HA]
  refine (unhide K1).mono ?_
  rintro e w2 ⟨hsd, b2⟩
  have HB2 := hide b2
  clear K1
  rcases hsd with ⟨hnone, t, rfl⟩ | ⟨T, xs, v, hsp, hx1, htl, rfl, ho⟩
  · have HF : Hid (openE s ks = 15) := hide (by unfold openE; rw [hnone])
    clear hnone
    have p0 := (unhide HQ1).low (unhide HB2)
    have r0 := p0.cell 0
    have r1 := p0.cell 1
    have r2 := p0.cell 2
    have f0 := p0.free 0
    have f1 := p0.free 1
    have f2 := p0.free 2
    have qs := ((p0.set 0 (.string ⟨#[]⟩)).set 1 (.slice none 0 0)).set 2 (.slice none 0 0)
    have d0 := qs.cell 0
    have d1 := qs.cell 1
    have d2 := qs.cell 2
    have HZ : Hid (Below w.heap.size w (((w2.setCell ⟨A, 0, none⟩ (.string ⟨#[]⟩)).setCell ⟨A, 1, none⟩ (.slice none 0 0)).setCell ⟨A, 2, none⟩ (.slice none 0 0))) := hide (low_put3 (low_trans (unhide HB1) (unhide HB2)) (by rw [unhide HA]; exact Nat.le_refl _))
    clear p0 qs b2
    go_wp2
    exact bodyPost_ret (v := .tuple #[.agg #[.string ⟨#[]⟩, .slice none 0 0, .slice none 0 0], .int .i64 15]) (by simp [results, Tryz.results56, go_sem, d0, d1, d2]) rfl ⟨Or.inl ⟨15, by decide, unhide HF, rfl⟩, unhide HZ⟩
  · obtain ⟨R, cap, rfl, hc1, hc2, hrow, hbat⟩ := SOwn.at ho hx1
    obtain ⟨m, hm⟩ : ∃ m, xs.length = m := ⟨_, rfl⟩
    by_cases h8 : 8 < m
    · have i8 : (8 : Int) < (m : Int) := by omega
      have HF : Hid (openE s ks = 14) := hide (by unfold openE; rw [hsp]; simp only [List.length_map]; rw [if_pos (by omega)])
      rw [hm]
      clear hsp hx1 ho hc1 hc2 hrow hbat hm
      have p0 := (unhide HQ1).low (unhide HB2)
      have r0 := p0.cell 0
      have r1 := p0.cell 1
      have r2 := p0.cell 2
      have f0 := p0.free 0
      have f1 := p0.free 1
      have f2 := p0.free 2
      have qs := ((p0.set 0 (.string ⟨#[]⟩)).set 1 (.slice none 0 0)).set 2 (.slice none 0 0)
      have d0 := qs.cell 0
      have d1 := qs.cell 1
      have d2 := qs.cell 2
      have HZ : Hid (Below w.heap.size w (((w2.setCell ⟨A, 0, none⟩ (.string ⟨#[]⟩)).setCell ⟨A, 1, none⟩ (.slice none 0 0)).setCell ⟨A, 2, none⟩ (.slice none 0 0))) := hide (low_put3 (low_trans (unhide HB1) (unhide HB2)) (by rw [unhide HA]; exact Nat.le_refl _))
      clear p0 qs b2
      go_wp2
      exact bodyPost_ret (v := .tuple #[.agg #[.string ⟨#[]⟩, .slice none 0 0, .slice none 0 0], .int .i64 14]) (by simp [results, Tryz.results56, go_sem, d0, d1, d2]) rfl ⟨Or.inl ⟨14, by decide, unhide HF, rfl⟩, unhide HZ⟩
    · have i8 : ¬ (8 : Int) < (m : Int) := by omega
      have K2 := hide (checked_any (w := w2) (text := T) (xs := xs) (R := R) (m := m) (cap := cap) (n := n) (c := c) (ks := ks) (a := a) (by have := unhide HL; omega) hm (by omega) (by omega) hc2 hrow hbat (unhide HKS) hn (unhide HOK) ((unhide HK).low (low_trans (unhide HB1) b2)))
      have HE : Hid (openE s ks = (chk T ks [] [] [] (xs.map sxK)).1) := hide (by unfold openE; rw [hsp]; simp only [List.length_map]; rw [if_neg (by omega)])
      have HSP := hide hsp
      have HTL := hide htl
      have HL8 : Hid ((xs.map sxK).length ≤ 8) := hide (by rw [List.length_map]; omega)
      rw [hm]
      clear hsp hx1 ho hc1 hc2 hrow hbat htl hm b2
      go_wp2_with (go_at_call 112; fail)
      refine (unhide K2).mono ?_
      rintro e w3 ⟨hcd, b3⟩
      have b23 := low_trans (unhide HB2) b3
      clear K2
      rcases hcd with ⟨E, hE0, hres, rfl⟩ | ⟨g, u, gv, uv, hres, hg0, rfl, tg, tu⟩
      · have HF : Hid (openE s ks = E) := hide (by rw [unhide HE, hres])
        have HE0 := hide hE0
        clear hres hE0
        have p0 := (unhide HQ1).low b23
        have r0 := p0.cell 0
        have r1 := p0.cell 1
        have r2 := p0.cell 2
        have f0 := p0.free 0
        have f1 := p0.free 1
        have f2 := p0.free 2
        have qs := ((p0.set 0 (.string ⟨#[]⟩)).set 1 (.slice none 0 0)).set 2 (.slice none 0 0)
        have d0 := qs.cell 0
        have d1 := qs.cell 1
        have d2 := qs.cell 2
        have HZ : Hid (Below w.heap.size w (((w3.setCell ⟨A, 0, none⟩ (.string ⟨#[]⟩)).setCell ⟨A, 1, none⟩ (.slice none 0 0)).setCell ⟨A, 2, none⟩ (.slice none 0 0))) := hide (low_put3 (low_trans (unhide HB1) b23) (by rw [unhide HA]; exact Nat.le_refl _))
        clear p0 qs b23 b3
        go_wp2
        exact bodyPost_ret (v := .tuple #[.agg #[.string ⟨#[]⟩, .slice none 0 0, .slice none 0 0], .int .i64 E]) (by simp [results, Tryz.results56, go_sem, d0, d1, d2]) rfl ⟨Or.inl ⟨E, unhide HE0, unhide HF, rfl⟩, unhide HZ⟩
      · obtain ⟨ga, gc, rfl⟩ := TOwn.form tg
        obtain ⟨ua, uc, rfl⟩ := TOwn.form tu
        obtain ⟨gl, hgl⟩ : ∃ gl, g.length = gl := ⟨_, rfl⟩
        obtain ⟨ul, hul⟩ : ∃ ul, u.length = ul := ⟨_, rfl⟩
        have p0 := (unhide HQ1).low b23
        have r0 := p0.cell 0
        have r1 := p0.cell 1
        have r2 := p0.cell 2
        have f0 := p0.free 0
        have f1 := p0.free 1
        have f2 := p0.free 2
        have hlow := low_trans (unhide HB1) b23
        rw [hgl, hul]
        have qs := ((p0.set 0 (.string (ba T))).set 1 (.slice ga gl gc)).set 2 (.slice ua ul uc)
        have d0 := qs.cell 0
        have d1 := qs.cell 1
        have d2 := qs.cell 2
        have HZ : Hid (Below w.heap.size w (((w3.setCell ⟨A, 0, none⟩ (.string (ba T))).setCell ⟨A, 1, none⟩ (.slice ga gl gc)).setCell ⟨A, 2, none⟩ (.slice ua ul uc))) := hide (low_put3 hlow (by rw [unhide HA]; exact Nat.le_refl _))
        have hA2 : A < w2.heap.size := ((unhide HQ1).low (unhide HB2)).lt
        have HG : Hid (TOwn w.heap.size (((w3.setCell ⟨A, 0, none⟩ (.string (ba T))).setCell ⟨A, 1, none⟩ (.slice ga gl gc)).setCell ⟨A, 2, none⟩ (.slice ua ul uc)) (.slice ga g.length gc) g) := hide (row_less (by rw [unhide HA]; omega) (TOwn.put (TOwn.put (TOwn.put tg hA2) hA2) hA2))
        have HU : Hid (TOwn w.heap.size (((w3.setCell ⟨A, 0, none⟩ (.string (ba T))).setCell ⟨A, 1, none⟩ (.slice ga gl gc)).setCell ⟨A, 2, none⟩ (.slice ua ul uc)) (.slice ua u.length uc) u) := hide (row_less (by rw [unhide HA]; omega) (TOwn.put (TOwn.put (TOwn.put tu hA2) hA2) hA2))
        have HRS := hide hres
        have HG0 := hide hg0
        have HGL := hide hgl
        have HUL := hide hul
        clear p0 qs hres hg0 hgl hul tg tu b23 b3 hlow hA2
        go_wp2
        exact bodyPost_ret (v := .tuple #[.agg #[.string (ba T), .slice ga gl gc, .slice ua ul uc], .int .i64 0]) (by simp [results, Tryz.results56, go_sem, d0, d1, d2]) rfl ⟨Or.inr ⟨T, xs.map sxK, g, u, ga, gc, ua, uc, unhide HSP, unhide HL8, unhide HTL, unhide HRS, unhide HG0, by rw [unhide HGL, unhide HUL], unhide HG, unhide HU⟩, unhide HZ⟩
end Go.Proofs.YtkablmjkffdloaaGreatDoor
