/-
  What a file system is, in plain data (AS), and what it is in memory (Rep); the frame of a call; that a file system stays while other memory turns.
-/
import Derived.Test.YtbdbobikiikbgaaDoorName
import Derived.Maps.Views
namespace Go.Proofs.YtbdbobikiikbgaaDoor
open Go.RowKit Go.WideMaps Go.Maps

/-- A file: its bytes, how many of them are durable. -/
structure AF where
  data : List UInt8
  dur : Nat

/-- A pending change of names. -/
inductive Chg where
  | put (s : ByteArray) (x : Int)
  | move (fr tgt : ByteArray)
  | drop (s : ByteArray)

def num (D : DataW Unit) (s : ByteArray) : Int :=
  match D.atKey (.string s.data.toList) (i64 0) with
  | .lit (.int .i64 c) => c
  | _ => 0
def key (s : ByteArray) : Lit := .string s.data.toList

def Chg.dir : Chg → ByteArray
  | .put s _ => dirB s
  | .move _ tgt => dirB tgt
  | .drop s => dirB s
def Chg.old (D : DataW Unit) : Chg → Int
  | .put s _ => num D s
  | .move _ tgt => num D tgt
  | .drop s => num D s
def Chg.act (D : DataW Unit) : Chg → DataW Unit
  | .put s x => D.put (key s) (i64 x)
  | .move fr tgt => (D.put (key tgt) (i64 (num D fr))).del (key fr)
  | .drop s => D.del (key s)

/-- A file system as plain data. -/
structure AS where
  quota : Int
  newest : Int
  names : DataW Unit
  durable : DataW Unit
  pending : List Chg
  size : Int
  steps : Int
  armed : Int
  down : Bool
  files : Int → Option AF

/-- What a block of memory is tgt a file system. -/
inductive Role where
  | fs | files | names | durable | pend | file (n : Int) | data (n : Int) | cap
  deriving DecidableEq

/-- Where a file system lies. -/
structure Lie where
  F : Nat
  M : Nat
  N : Nat
  D : Nat
  pv : Value
  DM : DataW Unit
  cl : List Value
  fb : Int → Nat
  dv : Int → Value
  role : Nat → Option Role

def bytesV (l : List UInt8) : List Value := l.map fun c => Value.int .u8 (c.toNat : Int)

/-- The function value v is the closure of the change c. -/
def ChgAt (w : World) (role : Nat → Option Role) : Chg → Value → Prop
  | .put s x, v => ∃ Bs Bi, v = .func (.func 61) #[] #[.pointer (some ⟨Bs, 0, none⟩), .pointer (some ⟨Bi, 0, none⟩)] ∧ w.cell? ⟨Bs, 0, none⟩ = some (.string s) ∧ w.cell? ⟨Bi, 0, none⟩ = some (.int .i64 x) ∧
      role Bs = some .cap ∧ role Bi = some .cap ∧ s.size ≤ maxLen ∧ (Lit.int .i64 x).wf = true
  | .move fr tgt, v => ∃ Bt Bf, v = .func (.func 63) #[] #[.pointer (some ⟨Bt, 0, none⟩), .pointer (some ⟨Bf, 0, none⟩)] ∧ w.cell? ⟨Bt, 0, none⟩ = some (.string tgt) ∧ w.cell? ⟨Bf, 0, none⟩ = some (.string fr) ∧
      role Bt = some .cap ∧ role Bf = some .cap ∧ tgt.size ≤ maxLen ∧ fr.size ≤ maxLen
  | .drop s, v => ∃ Bs, v = .func (.func 72) #[] #[.pointer (some ⟨Bs, 0, none⟩)] ∧ w.cell? ⟨Bs, 0, none⟩ = some (.string s) ∧ role Bs = some .cap ∧ s.size ≤ maxLen

/-- All closures of a list of changes. -/
def ChgsAt (w : World) (role : Nat → Option Role) : List Chg → List Value → Prop
  | [], [] => True
  | c :: cs, v :: vs => ChgAt w role c v ∧ ChgsAt w role cs vs
  | _, _ => False

/-- The cells of the pending changes. -/
def chgCells : List Chg → List Value → List Value
  | c :: cs, v :: vs => .string c.dir :: v :: chgCells cs vs
  | _, _ => []

def fsCells (s : AS) (G : Lie) : Array Value :=
  #[.int .i64 s.quota, .map (some G.M), .int .i64 s.newest, .map (some G.N), .map (some G.D), G.pv, .int .i64 s.size, .int .i64 s.steps, .int .i64 s.armed, .bool s.down]

structure FileAt (w : World) (G : Lie) (n : Int) (f : AF) : Prop where
  map : G.DM.atKey (.int .i64 n) .nil = .ptr (.lit (.int .i64 (G.fb n)))
  rb : G.role (G.fb n) = some (.file n)
  block : w.heap[G.fb n]? = some (.cells #[G.dv n, .int .i64 f.dur] 69 (0, 0))
  row : w.ownsRow 0 5 1 (G.dv n) f.data.length (bytesV f.data)
  rd : ∀ g, (G.dv n).ownBlock = some g → G.role g = some (.data n)
  le : f.dur ≤ f.data.length

structure Rep (w : World) (G : Lie) (s : AS) : Prop where
  fsb : w.heap[G.F]? = some (.cells (fsCells s G) 65 (0, 0))
  rF : G.role G.F = some .fs
  rM : G.role G.M = some .files
  rN : G.role G.N = some .names
  rD : G.role G.D = some .durable
  tN : Tab w G.N (Maps.size s.names) s.names
  tD : Tab w G.D (Maps.size s.durable) s.durable
  fm : Fmap w G.M (Maps.size G.DM) G.DM
  no0 : G.DM.atKey (.int .i64 0) .nil = .nil
  pend : w.ownsRow 0 76 2 G.pv s.pending.length (chgCells s.pending G.cl)
  rP : ∀ g, G.pv.ownBlock = some g → G.role g = some .pend
  chg : ChgsAt w G.role s.pending G.cl
  files : ∀ n f, s.files n = some f → FileAt w G n f
  lt : ∀ b, G.role b ≠ none → b < w.heap.size
  glob : ∃ m, w.cell? ⟨0, 0, none⟩ = some (.int .i64 m)
  r0 : G.role 0 = none
  mM : (Maps.size G.DM : Int) ≤ s.newest
  conv : ∀ n : Int, Maps.has G.DM (.int .i64 n) = true → s.files n ≠ none

/-- The frame of a call on a file system: what is not its own, and what its changes have captured, is as it was. -/
structure Fr (role : Nat → Option Role) (w w' : World) : Prop where
  os : w'.os = w.os
  tape : w'.tape = w.tape
  output : w'.output = w.output
  size : w.heap.size ≤ w'.heap.size
  block : ∀ k, k < w.heap.size → role k = none ∨ role k = some .cap → w'.heap[k]? = w.heap[k]?

theorem Fr.refl (r : Nat → Option Role) (w : World) : Fr r w w := ⟨rfl, rfl, rfl, Nat.le_refl _, fun _ _ _ => rfl⟩
theorem Fr.trans {r r' : Nat → Option Role} {a b c : World} (h : Fr r a b) (k : Fr r' b c) (e : ∀ i, i < a.heap.size → r' i = r i) : Fr r a c :=
  ⟨k.os.trans h.os, k.tape.trans h.tape, k.output.trans h.output, Nat.le_trans h.size k.size,
    fun i hi hr => (k.block i (Nat.lt_of_lt_of_le hi h.size) (by rw [e i hi]; exact hr)).trans (h.block i hi hr)⟩
theorem Fr.of_below {r : Nat → Option Role} {w w' : World} (h : Below w.heap.size w w') : Fr r w w' := ⟨h.os, h.tape, h.output, h.size, fun k hk _ => h.block k hk⟩
theorem Fr.drewN {r : Nat → Option Role} {w : World} (n : Nat) : Fr r w (w.drewN n) := ⟨rfl, rfl, rfl, Nat.le_refl _, fun _ _ _ => rfl⟩

theorem tab_size {w : World} {N n : Nat} {D : DataW Unit} (h : Tab w N n D) : Tab w N (Maps.size D) D := by
  obtain ⟨es, ck, hb, F, _, rfl⟩ := h
  refine ⟨es, ck, hb, F, ?_, rfl⟩
  rw [Maps.size_eq, length_sorted]; simp
theorem fmap_size {w : World} {N n : Nat} {D : DataW Unit} (h : Fmap w N n D) : Fmap w N (Maps.size D) D := by
  obtain ⟨es, ck, hb, F, _, rfl⟩ := h
  refine ⟨es, ck, hb, F, ?_, rfl⟩
  rw [Maps.size_eq, length_sorted]; simp

theorem tab_congr {w w' : World} {N n : Nat} {D : DataW Unit} (h : Tab w N n D) (e : w'.heap[N]? = w.heap[N]?) : Tab w' N n D := by
  obtain ⟨es, ck, hb, r⟩ := h; exact ⟨es, ck, e.trans hb, r⟩
theorem fmap_congr {w w' : World} {N n : Nat} {D : DataW Unit} (h : Fmap w N n D) (e : w'.heap[N]? = w.heap[N]?) : Fmap w' N n D := by
  obtain ⟨es, ck, hb, r⟩ := h; exact ⟨es, ck, e.trans hb, r⟩
theorem row_congr {w w' : World} {base e size n : Nat} {v : Value} {xs : List Value} (h : w.ownsRow base e size v n xs) (he : ∀ g, v.ownBlock = some g → w'.heap[g]? = w.heap[g]?) : w'.ownsRow base e size v n xs := by
  obtain ⟨h1, h2⟩ := h
  refine ⟨h1, ?_⟩
  rcases h2 with h2 | ⟨g, cap, cur, rfl, h3, h4, h5⟩
  · exact Or.inl h2
  · exact Or.inr ⟨g, cap, cur, rfl, h3, (he g rfl).trans h4, h5⟩
theorem chgAt_congr {w w' : World} {r r' : Nat → Option Role} {c : Chg} {v : Value} (h : ChgAt w r c v) (e : ∀ b, r b = some .cap → w'.heap[b]? = w.heap[b]?) (hr : ∀ b, r b = some .cap → r' b = some .cap) : ChgAt w' r' c v := by
  cases c with
  | put s x =>
    obtain ⟨Bs, Bi, h1, h2, h3, h4, h5, h6⟩ := h
    exact ⟨Bs, Bi, h1, (World.cell?_of_block (e Bs h4)).trans h2, (World.cell?_of_block (e Bi h5)).trans h3, hr _ h4, hr _ h5, h6⟩
  | move fr tgt =>
    obtain ⟨Bs, Bi, h1, h2, h3, h4, h5, h6⟩ := h
    exact ⟨Bs, Bi, h1, (World.cell?_of_block (e Bs h4)).trans h2, (World.cell?_of_block (e Bi h5)).trans h3, hr _ h4, hr _ h5, h6⟩
  | drop s =>
    obtain ⟨Bs, h1, h2, h4, h6⟩ := h
    exact ⟨Bs, h1, (World.cell?_of_block (e Bs h4)).trans h2, hr _ h4, h6⟩
theorem chgsAt_congr {w w' : World} {r r' : Nat → Option Role} (e : ∀ b, r b = some .cap → w'.heap[b]? = w.heap[b]?) (hr : ∀ b, r b = some .cap → r' b = some .cap) : ∀ {cs : List Chg} {vs : List Value}, ChgsAt w r cs vs → ChgsAt w' r' cs vs
  | [], [], _ => trivial
  | _ :: _, _ :: _, h => ⟨chgAt_congr h.1 e hr, chgsAt_congr e hr h.2⟩

/-- A file system stays while what is its own stays. -/
theorem Rep.congr {w w' : World} {G : Lie} {s : AS} (h : Rep w G s) (hs : w.heap.size ≤ w'.heap.size) (e : ∀ b, G.role b ≠ none → w'.heap[b]? = w.heap[b]?) (hg : ∃ m, w'.cell? ⟨0, 0, none⟩ = some (.int .i64 m)) : Rep w' G s where
  fsb := (e G.F (by rw [h.rF]; simp)).trans h.fsb
  rF := h.rF
  rM := h.rM
  rN := h.rN
  rD := h.rD
  tN := tab_congr h.tN (e G.N (by rw [h.rN]; simp))
  tD := tab_congr h.tD (e G.D (by rw [h.rD]; simp))
  fm := fmap_congr h.fm (e G.M (by rw [h.rM]; simp))
  no0 := h.no0
  pend := row_congr h.pend (fun g hg => e g (by rw [h.rP g hg]; simp))
  rP := h.rP
  chg := chgsAt_congr (fun b hb => e b (by rw [hb]; simp)) (fun _ hb => hb) h.chg
  files := fun n f hf =>
    let k := h.files n f hf
    ⟨k.map, k.rb, (e _ (by rw [k.rb]; simp)).trans k.block, row_congr k.row (fun g hg => e g (by rw [k.rd g hg]; simp)), k.rd, k.le⟩
  lt := fun b hb => Nat.lt_of_lt_of_le (h.lt b hb) hs
  glob := hg
  r0 := h.r0
  mM := h.mM
  conv := h.conv

theorem glob_of {w w' : World} (h : ∃ m, w.cell? ⟨0, 0, none⟩ = some (.int .i64 m)) (e : w'.heap[0]? = w.heap[0]?) : ∃ m, w'.cell? ⟨0, 0, none⟩ = some (.int .i64 m) := by
  obtain ⟨m, hm⟩ := h
  exact ⟨m, (World.cell?_of_block (a := ⟨0, 0, none⟩) e).trans hm⟩

theorem Rep.pos {w : World} {G : Lie} {s : AS} (h : Rep w G s) : 0 < w.heap.size := Nat.lt_of_le_of_lt (Nat.zero_le _) (h.lt G.F (by rw [h.rF]; simp))

theorem Rep.below {w w' : World} {G : Lie} {s : AS} (h : Rep w G s) (hb : Below w.heap.size w w') : Rep w' G s :=
  h.congr hb.size (fun b hb' => hb.block b (h.lt b hb')) (glob_of h.glob (hb.block 0 h.pos))

theorem Rep.drewN {w : World} {G : Lie} {s : AS} (h : Rep w G s) (n : Nat) : Rep (w.drewN n) G s := h.congr (Nat.le_refl _) (fun _ _ => rfl) h.glob

end Go.Proofs.YtbdbobikiikbgaaDoor
