/-
  A crash in plain data, step by step; what a file system is in memory ahead of its rounds and behind them.
-/
import Derived.Test.YtbdbobikiikbgaaDoorCrashF
import Derived.Maps.Ext
import Derived.Maps.RangeWalk
namespace Go.Proofs.YtbdbobikiikbgaaDoor
open Go.RowKit Go.WideMaps Go.Maps Go.Sort

def numL (D : DataW Unit) (ss : List (List UInt8)) : List Int := ss.map fun l => num D ⟨l.toArray⟩
/-- The files of ss have crashed. -/
def crashedS (s : AS) (D : DataW Unit) (e : Int) (ss : List (List UInt8)) : AS :=
  { s with size := ((numL D ss).map (lenAt fun n => (s.files n).map (crashF e))).sum, files := fun n => if n ∈ numL D ss then (s.files n).map (crashF e) else s.files n }

theorem crashedS_nil (s : AS) (D : DataW Unit) (e : Int) (hz : s.size = 0) : crashedS s D e [] = s := by
  have : (fun n => if n ∈ numL D [] then (s.files n).map (crashF e) else s.files n) = s.files := by funext n; simp [numL]
  unfold crashedS
  rw [this]
  cases s
  simp at hz
  subst hz
  simp [numL]

theorem crashedS_snoc (s : AS) (D : DataW Unit) (e : Int) (ss : List (List UInt8)) (x : List UInt8) (n : Int) (hn : num D ⟨x.toArray⟩ = n) (f : AF) (hf : s.files n = some f) :
    crashedS s D e (ss ++ [x]) = { setFile (crashedS s D e ss) n (crashF e f) with size := (crashedS s D e ss).size + (crashF e f).data.length } := by
  have hl : numL D (ss ++ [x]) = numL D ss ++ [n] := by simp [numL, hn]
  have h1 : (fun m => if m ∈ numL D (ss ++ [x]) then (s.files m).map (crashF e) else s.files m) = fun m => if m = n then some (crashF e f) else (crashedS s D e ss).files m := by
    funext m
    rw [hl]
    by_cases em : m = n
    · subst em; simp [hf]
    · simp [em, crashedS]
  have h2 : ((numL D (ss ++ [x])).map (lenAt fun n => (s.files n).map (crashF e))).sum = (crashedS s D e ss).size + (crashF e f).data.length := by
    rw [hl, List.map_append, List.sum_append]
    show _ = ((numL D ss).map (lenAt fun n => (s.files n).map (crashF e))).sum + _
    simp [lenAt, hf]
  show { s with size := _, files := _ } = _
  rw [h1, h2]; rfl

theorem sum_perm {l l' : List Int} (h : l.Perm l') : l.sum = l'.sum := by
  induction h with
  | nil => rfl
  | cons x _ ih => simp [ih]
  | swap x y l => simp; omega
  | trans _ _ h1 h2 => exact h1.trans h2

theorem pigeon : ∀ (N : Nat) (l : List Int), l.Nodup → (∀ x ∈ l, 1 ≤ x ∧ x ≤ N) → l.length ≤ N
  | 0, l, _, h => by
    cases l with
    | nil => simp
    | cons x r => have := h x (by simp); omega
  | N + 1, l, hd, h => by
    by_cases hm : ((N + 1 : Nat) : Int) ∈ l
    · have h1 := pigeon N (l.erase ((N + 1 : Nat) : Int)) (hd.erase _) (fun x hx => by
        have h2 := h x (List.mem_of_mem_erase hx)
        have h3 : x ≠ ((N + 1 : Nat) : Int) := fun e => by subst e; exact (hd.not_mem_erase hx)
        omega)
      rw [List.length_erase_of_mem hm] at h1
      omega
    · have h1 := pigeon N l hd (fun x hx => by
        have h2 := h x hx
        have h3 : x ≠ ((N + 1 : Nat) : Int) := fun e => by subst e; exact hm hx
        omega)
      omega

theorem numL_nodup {D : DataW Unit} {b : Int} {P : Int → Prop} (hd : Good D b P) {ss : List (List UInt8)} (hnd : ss.Nodup) (hh : ∀ x ∈ ss, Maps.has D (key ⟨x.toArray⟩) = true) : (numL D ss).Nodup := by
  refine List.pairwise_map.2 (hnd.imp_of_mem fun {p q} hp _ hne e => hne ?_)
  have := hd.inj ⟨p.toArray⟩ ⟨q.toArray⟩ (hd.nz _ (hh p hp)) e
  simpa using this

theorem numL_len {D : DataW Unit} {b : Int} {P : Int → Prop} (hd : Good D b P) {ss : List (List UInt8)} (hnd : ss.Nodup) (hh : ∀ x ∈ ss, Maps.has D (key ⟨x.toArray⟩) = true) (N : Int) (hN0 : 0 ≤ N) (hN : b ≤ N) : (ss.length : Int) ≤ N := by
  have h1 := pigeon N.toNat (numL D ss) (numL_nodup hd hnd hh) (fun x hx => by
    obtain ⟨l, hl, rfl⟩ := List.mem_map.1 hx
    have := hd.ub _ (hd.nz _ (hh l hl))
    omega)
  have h2 : (numL D ss).length = ss.length := by simp [numL]
  omega

/-- Behind all rounds: the crashed state. -/
theorem crashed_end (s : AS) (e : Int) (ss : List (List UInt8)) (hp : ss.Perm (strKeys s.durable)) (s6 : AS) (h6 : s6 = { s with pending := [], names := s.durable, size := 0 }) :
    { crashedS s6 s.durable e ss with files := fun n => if n ∈ numL s.durable ss then (s.files n).map (crashF e) else none, armed := 0, down := false } = downS s e := by
  have hperm : (numL s.durable ss).Perm (numsOf s.durable) := by
    unfold numsOf namesOf
    exact (hp.trans (List.mergeSort_perm _ _).symm).map _
  have h1 : (fun n => if n ∈ numL s.durable ss then (s.files n).map (crashF e) else none) = keptF s e := by
    funext n
    unfold keptF
    by_cases hn : n ∈ numL s.durable ss
    · have h2 : (numsOf s.durable).contains n = true := by simpa using hperm.mem_iff.1 hn
      rw [if_pos hn, if_pos h2]
    · have h2 : ¬ (numsOf s.durable).contains n = true := by simpa using fun h => hn (hperm.mem_iff.2 h)
      rw [if_neg hn, if_neg h2]
  have h2 : ((numL s.durable ss).map (lenAt fun n => (s.files n).map (crashF e))).sum = ((numsOf s.durable).map (lenAt (keptF s e))).sum := by
    rw [sum_perm (hperm.map _)]
    congr 1
    refine List.map_congr_left fun n hn => ?_
    have : (numsOf s.durable).contains n = true := by simpa using hn
    simp only [lenAt, keptF]
    rw [if_pos this]
  subst h6
  show ({ s with pending := [], names := s.durable, size := _, files := _, armed := 0, down := false } : AS) = _
  rw [h1]
  show ({ s with pending := [], names := s.durable, size := ((numL s.durable ss).map (lenAt fun n => (s.files n).map (crashF e))).sum, files := keptF s e, armed := 0, down := false } : AS) = _
  rw [h2]; rfl

def Lie.crash0 (G : Lie) (NB : Nat) : Lie := { G with N := NB, pv := .slice none 0 0, cl := [], role := fun b => if b = NB then some .names else G.role b }
def crash0S (s : AS) : AS := { s with pending := [], names := s.durable, size := 0 }

theorem Rep.crash0 {w w' : World} {G : Lie} {s : AS} {NB n : Nat} (h : Rep w G s) (hs : w.heap.size ≤ w'.heap.size) (h1 : w.heap.size ≤ NB) (h2 : NB < w'.heap.size) (hT : Tab w' NB n s.durable)
    (hF : w'.heap[G.F]? = some (.cells (fsCells (crash0S s) (G.crash0 NB)) 65 (0, 0))) (ho : ∀ b, b < w.heap.size → b ≠ G.F → w'.heap[b]? = w.heap[b]?) : Rep w' (G.crash0 NB) (crash0S s) := by
  have hr : ∀ b r, G.role b = some r → (G.crash0 NB).role b = some r := by
    intro b r hbr
    have := h.lt b (by rw [hbr]; simp)
    show (if b = NB then some .names else G.role b) = some r
    rw [if_neg (by omega)]; exact hbr
  have ho' : ∀ b r, G.role b = some r → r ≠ .fs → w'.heap[b]? = w.heap[b]? := by
    intro b r hbr hne
    refine ho b (h.lt b (by rw [hbr]; simp)) (fun e => ?_)
    rw [e, h.rF] at hbr; exact hne (by simpa using hbr.symm)
  refine ⟨hF, hr _ _ h.rF, hr _ _ h.rM, by show (if NB = NB then some Role.names else _) = _; rw [if_pos rfl], hr _ _ h.rD, tab_size hT, tab_congr h.tD (ho' _ _ h.rD (by simp)), fmap_congr h.fm (ho' _ _ h.rM (by simp)), h.no0,
    ⟨rfl, Or.inl ⟨rfl, rfl⟩⟩, (fun g hg => by cases hg), trivial, ?_, ?_, ?_, ?_, h.mM, h.conv⟩
  · intro m f hf
    have q := h.files m f hf
    exact ⟨q.map, hr _ _ q.rb, (ho' _ _ q.rb (by simp)).trans q.block, row_congr q.row (fun g hg => ho' g _ (q.rd g hg) (by simp)), fun g hg => hr g _ (q.rd g hg), q.le⟩
  · intro b hb
    by_cases e : b = NB
    · omega
    · exact Nat.lt_of_lt_of_le (h.lt b (by simpa [Lie.crash0, e] using hb)) hs
  · exact glob_of h.glob (ho 0 h.pos (fun e => by have := h.rF; rw [← e, h.r0] at this; cases this))
  · show (if 0 = NB then some Role.names else G.role 0) = none
    have := h.pos
    rw [if_neg (by omega)]; exact h.r0

def Lie.crash1 (G : Lie) (M2 : Nat) (DM2 : DataW Unit) : Lie := { G with M := M2, DM := DM2, role := fun b => if b = M2 then some .files else G.role b }

theorem Rep.crash1 {w w' : World} {G : Lie} {s s' : AS} {M2 n : Nat} {DM2 : DataW Unit} {L : List Int} (h : Rep w G s) (hs : w.heap.size ≤ w'.heap.size) (hM2 : M2 < w.heap.size) (hM0 : G.role M2 = none) (h0 : 0 < M2) (hFm : Fmap w' M2 n DM2)
    (hn : (n : Int) ≤ s.newest) (hD : ∀ m : Int, DM2.atKey (.int .i64 m) .nil = if m ∈ L then .ptr (.lit (.int .i64 (G.fb m))) else .nil) (hL0 : (0 : Int) ∉ L)
    (e1 : s'.names = s.names) (e2 : s'.durable = s.durable) (e3 : s'.pending = s.pending) (e4 : s'.newest = s.newest) (e5 : ∀ m f, s'.files m = some f → m ∈ L ∧ s.files m = some f) (e6 : ∀ m : Int, Maps.has DM2 (.int .i64 m) = true → s'.files m ≠ none)
    (hF : w'.heap[G.F]? = some (.cells (fsCells s' (G.crash1 M2 DM2)) 65 (0, 0))) (ho : ∀ b, b < w.heap.size → b ≠ G.F → w'.heap[b]? = w.heap[b]?) : Rep w' (G.crash1 M2 DM2) s' := by
  have hr : ∀ b r, G.role b = some r → (G.crash1 M2 DM2).role b = some r := by
    intro b r hbr
    show (if b = M2 then some .files else G.role b) = some r
    rw [if_neg (fun e => by rw [e, hM0] at hbr; cases hbr)]; exact hbr
  have ho' : ∀ b r, G.role b = some r → r ≠ .fs → w'.heap[b]? = w.heap[b]? := by
    intro b r hbr hne
    refine ho b (h.lt b (by rw [hbr]; simp)) (fun e => ?_)
    rw [e, h.rF] at hbr; exact hne (by simpa using hbr.symm)
  refine ⟨hF, hr _ _ h.rF, by show (if M2 = M2 then some Role.files else _) = _; rw [if_pos rfl], hr _ _ h.rN, hr _ _ h.rD, ?_, ?_, fmap_size hFm, ?_, ?_, fun g hg => hr g _ (h.rP g hg), ?_, ?_, ?_, ?_, ?_, ?_, e6⟩
  · rw [e1]; exact tab_congr h.tN (ho' _ _ h.rN (by simp))
  · rw [e2]; exact tab_congr h.tD (ho' _ _ h.rD (by simp))
  · show DM2.atKey (.int .i64 0) .nil = .nil
    rw [hD, if_neg hL0]
  · rw [e3]; exact row_congr h.pend (fun g hg => ho' g _ (h.rP g hg) (by simp))
  · rw [e3]; exact chgsAt_congr (fun b hb => ho' b _ hb (by simp)) (fun b hb => hr b _ hb) h.chg
  · intro m f hf
    obtain ⟨hm, hf2⟩ := e5 m f hf
    have q := h.files m f hf2
    refine ⟨?_, hr _ _ q.rb, (ho' _ _ q.rb (by simp)).trans q.block, row_congr q.row (fun g hg => ho' g _ (q.rd g hg) (by simp)), fun g hg => hr g _ (q.rd g hg), q.le⟩
    show DM2.atKey (.int .i64 m) .nil = _
    rw [hD, if_pos hm]; rfl
  · intro b hb
    by_cases e : b = M2
    · omega
    · exact Nat.lt_of_lt_of_le (h.lt b (by simpa [Lie.crash1, e] using hb)) hs
  · exact glob_of h.glob (ho 0 h.pos (fun e => by have := h.rF; rw [← e, h.r0] at this; cases this))
  · show (if 0 = M2 then some Role.files else G.role 0) = none
    rw [if_neg (by omega)]; exact h.r0
  · show (Maps.size DM2 : Int) ≤ s'.newest
    obtain ⟨es, ck, _, _, hle, rfl⟩ := hFm
    rw [e4, Maps.size_eq, length_sorted, List.length_map]
    simp
    omega

end Go.Proofs.YtbdbobikiikbgaaDoor
