/-
  Versions, paths and escapes as plain functions over lists of bytes; no program in this text.
-/
import Derived.Lib.Split
import Derived.Lib.SplitLaws
import Derived.Lib.Strings
import Derived.Lib.LastIndexByte
import Derived.Lib.Atoi
import Derived.Lib.ItoaNum
namespace Go.Proofs.YthcafeoamabkgaaGreatDoor

abbrev Str := List UInt8
/-- The string of a list of bytes. -/
def ba (l : Str) : ByteArray := ⟨l.toArray⟩
theorem ba_data (l : Str) : (ba l).data.toList = l := rfl
theorem ba_size (l : Str) : (ba l).size = l.length := by simp [ba, ByteArray.size]
theorem ba_of (s : ByteArray) : ba s.data.toList = s := Lib.mk_data s
theorem ba_inj {a b : Str} : ba a = ba b ↔ a = b := by
  constructor
  · intro h; have := congrArg (fun s : ByteArray => s.data.toList) h; simpa [ba] using this
  · rintro rfl; rfl

def digitB (c : UInt8) : Bool := decide (48 ≤ c.toNat) && decide (c.toNat ≤ 57)
def lowerB (c : UInt8) : Bool := decide (97 ≤ c.toNat) && decide (c.toNat ≤ 122)
def upperB (c : UInt8) : Bool := decide (65 ≤ c.toNat) && decide (c.toNat ≤ 90)
def asciiB (c : UInt8) : Bool := decide (c.toNat < 128)
def plainB (c : UInt8) : Bool := asciiB c && !decide (c.toNat = 33)
def escapedB (c : UInt8) : Bool := asciiB c && !upperB c
def hostB (c : UInt8) : Bool := lowerB c || digitB c || decide (c.toNat = 45) || decide (c.toNat = 46)
def pathB (c : UInt8) : Bool := hostB c || upperB c || decide (c.toNat = 95) || decide (c.toNat = 126)
def importB (c : UInt8) : Bool := pathB c || decide (c.toNat = 43)
def hexB (c : UInt8) : Bool := digitB c || (decide (97 ≤ c.toNat) && decide (c.toNat ≤ 102))
def letterB (c : UInt8) : Bool := lowerB c || upperB c
def identB (c : UInt8) : Bool := digitB c || letterB c || decide (c.toNat = 45)

def digitsB (s : Str) : Bool := !s.isEmpty && s.all digitB
def zeroAheadB (s : Str) : Bool := decide (1 < s.length) && decide (s.getD 0 0 = 48)
def numOk (s : Str) : Bool := decide (s.length ≤ 9) && digitsB s && !zeroAheadB s
def numVal (s : Str) : Nat := s.foldl (fun a c => a * 10 + (c.toNat - 48)) 0

/-- A text cut at a byte. -/
def pieces (c : UInt8) : Str → List Str
  | [] => [[]]
  | b :: l => if b = c then [] :: pieces c l else
    match pieces c l with
    | [] => [[b]]
    | p :: ps => (b :: p) :: ps
/-- What stands ahead of a byte's first place, and behind it. -/
def ahead (c : UInt8) (l : Str) : Str := l.takeWhile fun b => b != c
def behind (c : UInt8) (l : Str) : Str := (l.dropWhile fun b => b != c).drop 1

def validIdB (s : Str) : Bool := if digitsB s then !zeroAheadB s else !s.isEmpty && s.all identB
def validPreB (s : Str) : Bool := (pieces 46 s).all validIdB

structure Ver where
  a : Nat
  b : Nat
  c : Nat
  pre : Str
deriving DecidableEq

def numsOf (l : List Str) : Option (Nat × Nat × Nat) :=
  match l with
  | [x, y, z] => if numOk x && numOk y && numOk z then some (numVal x, numVal y, numVal z) else none
  | _ => none

def parseR (rest : Str) : Option Ver :=
  match numsOf (pieces 46 (ahead 45 rest)) with
  | none => none
  | some (a, b, c) => if rest.contains 45 && !validPreB (behind 45 rest) then none else some ⟨a, b, c, behind 45 rest⟩
def parseV (v : Str) : Option Ver :=
  if v.length ≤ 60 then
    match v with
    | 118 :: rest => parseR rest
    | _ => none
  else none

/-- Three-way orders. -/
def cmpNat (a b : Nat) : Int := if a < b then -1 else if b < a then 1 else 0
def orI (a b : Int) : Int := if a = 0 then b else a
def cmpIds (a b : Str) : Int :=
  if digitsB a then
    if digitsB b then orI (cmpNat a.length b.length) (Lib.compareBytes a b) else -1
  else if digitsB b then 1 else Lib.compareBytes a b
def cmpList (f : Str → Str → Int) : List Str → List Str → Int
  | [], [] => 0
  | [], _ :: _ => -1
  | _ :: _, [] => 1
  | a :: l, b :: m => orI (f a b) (cmpList f l m)
def cmpPres (a b : Str) : Int :=
  if a = b then 0 else if a = [] then 1 else if b = [] then -1 else cmpList cmpIds (pieces 46 a) (pieces 46 b)
def cmpVer (x y : Ver) : Int := orI (orI (cmpNat x.a y.a) (orI (cmpNat x.b y.b) (cmpNat x.c y.c))) (cmpPres x.pre y.pre)
def cmpV (a b : Str) : Int :=
  match parseV a, parseV b with
  | some x, some y => cmpVer x y
  | some _, none => 1
  | none, some _ => -1
  | none, none => Lib.compareBytes a b

/-! ### Orders -/

structure Orders {α : Type} (f : α → α → Int) : Prop where
  turn : ∀ a b, f b a = - f a b
  eq : ∀ a b, f a b = 0 ↔ a = b
  lt : ∀ a b c, f a b < 0 → f b c < 0 → f a c < 0
  three : ∀ a b, f a b = -1 ∨ f a b = 0 ∨ f a b = 1

theorem Orders.self {α : Type} {f : α → α → Int} (h : Orders f) (a : α) : f a a = 0 := (h.eq a a).2 rfl

theorem orders_nat : Orders cmpNat where
  turn a b := by unfold cmpNat; split <;> split <;> (try split) <;> omega
  eq a b := by unfold cmpNat; split <;> (try split) <;> omega
  lt a b c := by unfold cmpNat; intro h1 h2; split at h1 <;> (try split at h1) <;> split at h2 <;> (try split at h2) <;> first | omega | (rw [if_pos (by omega)]; decide)
  three a b := by unfold cmpNat; split <;> (try split) <;> simp

theorem orders_bytes : Orders Lib.compareBytes := by
  have turn : ∀ a b, Lib.compareBytes b a = - Lib.compareBytes a b := by
    intro a
    induction a with
    | nil => intro b; cases b <;> simp [Lib.compareBytes]
    | cons x l ih =>
      intro b
      cases b with
      | nil => simp [Lib.compareBytes]
      | cons y m =>
        simp only [Lib.compareBytes]
        have hxy : ∀ u v : UInt8, u < v ↔ u.toNat < v.toNat := fun u v => UInt8.lt_iff_toNat_lt
        by_cases h1 : x < y
        · have h2 : ¬ y < x := by rw [hxy] at *; omega
          simp [h1, h2]
        · by_cases h2 : y < x
          · simp [h1, h2]
          · simp [h1, h2, ih m]
  have eq : ∀ a b, Lib.compareBytes a b = 0 ↔ a = b := by
    intro a
    induction a with
    | nil => intro b; cases b <;> simp [Lib.compareBytes]
    | cons x l ih =>
      intro b
      cases b with
      | nil => simp [Lib.compareBytes]
      | cons y m =>
        simp only [Lib.compareBytes]
        have hxy : ∀ u v : UInt8, u < v ↔ u.toNat < v.toNat := fun u v => UInt8.lt_iff_toNat_lt
        by_cases h1 : x < y
        · rw [if_pos h1]
          constructor
          · intro h; omega
          · intro h; injection h with h _; subst h; rw [hxy] at h1; omega
        · by_cases h2 : y < x
          · rw [if_neg h1, if_pos h2]
            constructor
            · intro h; omega
            · intro h; injection h with h _; subst h; rw [hxy] at h2; omega
          · rw [if_neg h1, if_neg h2, ih m]
            have : x = y := by rw [hxy] at h1 h2; exact UInt8.toNat_inj.1 (by omega)
            simp [this]
  refine ⟨turn, eq, ?_, ?_⟩
  · intro a
    induction a with
    | nil => intro b c; cases b <;> cases c <;> simp [Lib.compareBytes]
    | cons x l ih =>
      intro b c
      cases b with
      | nil => simp [Lib.compareBytes]
      | cons y m =>
        cases c with
        | nil => intro _ h; simp [Lib.compareBytes] at h
        | cons z n =>
          simp only [Lib.compareBytes]
          have hxy : ∀ u v : UInt8, u < v ↔ u.toNat < v.toNat := fun u v => UInt8.lt_iff_toNat_lt
          simp only [hxy]
          intro h1 h2
          by_cases a1 : x.toNat < y.toNat
          · by_cases a2 : y.toNat < z.toNat
            · rw [if_pos (by omega)]; decide
            · rw [if_neg a2] at h2
              by_cases a3 : z.toNat < y.toNat
              · rw [if_pos a3] at h2; omega
              · rw [if_pos (by omega)]; decide
          · rw [if_neg a1] at h1
            by_cases a4 : y.toNat < x.toNat
            · rw [if_pos a4] at h1; omega
            · rw [if_neg a4] at h1
              by_cases a2 : y.toNat < z.toNat
              · rw [if_pos (by omega)]; decide
              · rw [if_neg a2] at h2
                by_cases a3 : z.toNat < y.toNat
                · rw [if_pos a3] at h2; omega
                · rw [if_neg a3] at h2
                  rw [if_neg (by omega), if_neg (by omega)]
                  exact ih m n h1 h2
  · intro a
    induction a with
    | nil => intro b; cases b <;> simp [Lib.compareBytes]
    | cons x l ih =>
      intro b
      cases b with
      | nil => simp [Lib.compareBytes]
      | cons y m => simp only [Lib.compareBytes]; split <;> (try split) <;> first | simp | exact ih m

theorem orI_zero {a b : Int} : orI a b = 0 ↔ a = 0 ∧ b = 0 := by unfold orI; split <;> simp_all
theorem orI_neg (a b : Int) : orI (-a) (-b) = - orI a b := by
  unfold orI
  by_cases h : a = 0
  · simp [h]
  · rw [if_neg (by omega), if_neg h]

/-- One order ahead of another. -/
theorem orders_or {α β : Type} {f : α → α → Int} {g : β → β → Int} (hf : Orders f) (hg : Orders g) : Orders fun (x y : α × β) => orI (f x.1 y.1) (g x.2 y.2) where
  turn x y := by rw [hf.turn x.1 y.1, hg.turn x.2 y.2, orI_neg]
  eq x y := by rw [orI_zero, hf.eq, hg.eq]; constructor; exact fun h => Prod.ext h.1 h.2; rintro rfl; exact ⟨rfl, rfl⟩
  lt x y z h1 h2 := by
    unfold orI at *
    by_cases a1 : f x.1 y.1 = 0
    · rw [if_pos a1] at h1
      have e1 := (hf.eq _ _).1 a1
      rw [← e1] at h2
      by_cases a2 : f x.1 z.1 = 0
      · rw [if_pos a2] at h2 ⊢
        exact hg.lt _ _ _ h1 h2
      · rw [if_neg a2] at h2 ⊢
        exact h2
    · rw [if_neg a1] at h1
      by_cases a2 : f y.1 z.1 = 0
      · have e1 := (hf.eq _ _).1 a2
        rw [e1] at h1
        rw [if_neg (by omega)]; exact h1
      · rw [if_neg a2] at h2
        have := hf.lt _ _ _ h1 h2
        rw [if_neg (by omega)]; exact this
  three x y := by unfold orI; split; exact hg.three _ _; exact hf.three _ _

theorem orders_pull {α β : Type} {f : β → β → Int} (hf : Orders f) (k : α → β) (hk : ∀ a b, k a = k b → a = b) : Orders fun x y => f (k x) (k y) where
  turn x y := hf.turn _ _
  eq x y := by rw [hf.eq]; exact ⟨hk x y, fun h => by rw [h]⟩
  lt x y z := hf.lt _ _ _
  three x y := hf.three _ _

theorem orders_list {f : Str → Str → Int} (hf : Orders f) : Orders (cmpList f) where
  turn := by
    intro a
    induction a with
    | nil => intro b; cases b <;> simp [cmpList]
    | cons x l ih => intro b; cases b with
      | nil => simp [cmpList]
      | cons y m => simp only [cmpList]; rw [hf.turn x y, ih m, orI_neg]
  eq := by
    intro a
    induction a with
    | nil => intro b; cases b <;> simp [cmpList]
    | cons x l ih => intro b; cases b with
      | nil => simp [cmpList]
      | cons y m => simp only [cmpList]; rw [orI_zero, hf.eq, ih m]; simp
  lt := by
    intro a
    induction a with
    | nil => intro b c; cases b <;> cases c <;> simp [cmpList]
    | cons x l ih => intro b c; cases b with
      | nil => simp [cmpList]
      | cons y m => cases c with
        | nil => intro _ h; simp [cmpList] at h
        | cons z n =>
          simp only [cmpList]
          intro h1 h2
          unfold orI at *
          by_cases a1 : f x y = 0
          · rw [if_pos a1] at h1
            have e1 := (hf.eq _ _).1 a1
            rw [← e1] at h2
            by_cases a2 : f x z = 0
            · rw [if_pos a2] at h2 ⊢
              exact ih _ _ h1 h2
            · rw [if_neg a2] at h2 ⊢
              exact h2
          · rw [if_neg a1] at h1
            by_cases a2 : f y z = 0
            · have e1 := (hf.eq _ _).1 a2
              rw [e1] at h1
              rw [if_neg (by omega)]; exact h1
            · rw [if_neg a2] at h2
              have := hf.lt _ _ _ h1 h2
              rw [if_neg (by omega)]; exact this
  three := by
    intro a
    induction a with
    | nil => intro b; cases b <;> simp [cmpList]
    | cons x l ih => intro b; cases b with
      | nil => simp [cmpList]
      | cons y m => simp only [cmpList]; unfold orI; split; exact ih m; exact hf.three _ _

theorem orders_ids : Orders cmpIds := by
  have h := orders_pull (orders_or orders_nat (orders_or orders_nat orders_bytes)) (fun s : Str => ((if digitsB s then 0 else 1 : Nat), (if digitsB s then s.length else 0 : Nat), s)) (fun a b e => by simp only [Prod.mk.injEq] at e; exact e.2.2)
  have e : (fun x y : Str => (fun (x y : Nat × Nat × Str) => orI (cmpNat x.1 y.1) ((fun (x y : Nat × Str) => orI (cmpNat x.1 y.1) (Lib.compareBytes x.2 y.2)) x.2 y.2)) ((fun s : Str => ((if digitsB s then 0 else 1 : Nat), (if digitsB s then s.length else 0 : Nat), s)) x) ((fun s : Str => ((if digitsB s then 0 else 1 : Nat), (if digitsB s then s.length else 0 : Nat), s)) y)) = cmpIds := by
    funext x y
    unfold cmpIds
    cases hx : digitsB x <;> cases hy : digitsB y <;> (simp only [hx, hy, Bool.false_eq_true, if_false, if_true]; rfl)
  rw [← e]; exact h

theorem pieces_ne (c : UInt8) (l : Str) : pieces c l ≠ [] := by
  cases l with
  | nil => simp [pieces]
  | cons b l => unfold pieces; split; simp; split <;> simp

/-- The pieces with the byte between are the text. -/
def glue (c : UInt8) : List Str → Str
  | [] => []
  | [p] => p
  | p :: q :: ps => p ++ c :: glue c (q :: ps)
theorem glue_cons (c b : UInt8) (p : Str) (ps : List Str) : glue c ((b :: p) :: ps) = b :: glue c (p :: ps) := by cases ps <;> simp [glue]
theorem glue_pieces (c : UInt8) : ∀ l : Str, glue c (pieces c l) = l
  | [] => rfl
  | b :: l => by
    have ih := glue_pieces c l
    have hne := pieces_ne c l
    unfold pieces
    cases hp : pieces c l with
    | nil => exact absurd hp hne
    | cons p ps =>
      rw [hp] at ih
      split
      · rename_i h; subst h; simp [glue, ih]
      · simp only [glue_cons, ih]
theorem pieces_inj (c : UInt8) {a b : Str} (h : pieces c a = pieces c b) : a = b := by rw [← glue_pieces c a, h, glue_pieces]

theorem orders_pres : Orders cmpPres := by
  have hl := orders_pull (orders_list orders_ids) (pieces 46) (fun a b => pieces_inj 46)
  have h := orders_pull (orders_or orders_nat hl) (fun s : Str => ((if s = [] then 1 else 0 : Nat), s)) (fun a b e => by simp only [Prod.mk.injEq] at e; exact e.2)
  have e : (fun x y : Str => orI (cmpNat (if x = [] then 1 else 0) (if y = [] then 1 else 0)) (cmpList cmpIds (pieces 46 x) (pieces 46 y))) = cmpPres := by
    funext x y
    unfold cmpPres
    by_cases e : x = y
    · subst e; rw [if_pos rfl, (orders_list orders_ids).self, orders_nat.self]; rfl
    · rw [if_neg e]
      by_cases e1 : x = []
      · have : y ≠ [] := fun h => e (by rw [e1, h])
        simp [e1, this, cmpNat, orI]
      · by_cases e2 : y = [] <;> simp [e1, e2, cmpNat, orI]
  rw [← e]; exact h

theorem orders_ver : Orders cmpVer := by
  have h := orders_pull (orders_or (orders_or orders_nat (orders_or orders_nat orders_nat)) orders_pres) (fun v : Ver => ((v.a, v.b, v.c), v.pre)) (fun a b e => by cases a; cases b; simp_all)
  exact h

end Go.Proofs.YthcafeoamabkgaaGreatDoor
