import Derived.Test.YtellilpeakpbfabGreatDoorShPureToo
import Derived.Lib.ItoaNum
section
/-
  The plain mathematics of contents and journal: cells, procedures, entries, records; no Go text.
-/
namespace Go.Proofs.YtellilpeakpbfabGreatDoor
open Go.RowKit
namespace Jn

abbrev Bytes := List UInt8

/-- What a store holds: a hundred places, the procedures by their names. -/
structure Con where
  cells : List (Option Int)
  procs : List (Bytes × Bytes)
def none0 : Con := ⟨List.replicate 100 none, []⟩

def isName (l : Bytes) : Bool := decide (1 ≤ l.length) && decide (l.length ≤ 8) && l.all (fun c => decide (97 ≤ c.toNat) && decide (c.toNat ≤ 122))
def isKey (k : Int) : Bool := decide (0 ≤ k) && decide (k ≤ 99)
def isVal (v : Int) : Bool := decide (-1000000000 ≤ v) && decide (v ≤ 1000000000)

/-- byte by byte; what another one begins with stands ahead. -/
def ltB : Bytes → Bytes → Bool
  | [], [] => false
  | [], _ :: _ => true
  | _ :: _, [] => false
  | a :: x, b :: y => if a = b then ltB x y else decide (a.toNat < b.toNat)

def setC (C : Con) (k : Int) (o : Option Int) : Con := ⟨C.cells.set k.toNat o, C.procs⟩
def put (C : Con) (k v : Int) : Con × Int := if isKey k = false then (C, 5) else if isVal v = false then (C, 6) else (setC C k (some v), 0)
def del (C : Con) (k : Int) : Con × Int := if isKey k = false then (C, 5) else (setC C k none, 0)
def others (ps : List (Bytes × Bytes)) (n : Bytes) : List (Bytes × Bytes) := ps.filter (fun p => p.1 != n)
def insertP : List (Bytes × Bytes) → Bytes × Bytes → List (Bytes × Bytes)
  | [], q => [q]
  | p :: r, q => if ltB p.1 q.1 then p :: insertP r q else q :: p :: r
def install (C : Con) (n s : Bytes) : Con × Int × Int :=
  if isName n = false then (C, 0, 3)
  else if (Ck.read s).2 ≠ 0 then (C, (Ck.read s).1, (Ck.read s).2)
  else if 8 ≤ (others C.procs n).length then (C, 0, 4)
  else (⟨C.cells, insertP (others C.procs n) (n, s)⟩, 0, 0)
def drop (C : Con) (n : Bytes) : Con × Int :=
  if (others C.procs n).length = C.procs.length then (C, 3) else (⟨C.cells, others C.procs n⟩, 0)

/-- the cells that are there from key k on. -/
def listFrom : Nat → List (Option Int) → List (Int × Int)
  | _, [] => []
  | k, some v :: r => ((k : Int), v) :: listFrom (k + 1) r
  | k, none :: r => listFrom (k + 1) r
def Con.list (C : Con) : List (Int × Int) := listFrom 0 C.cells

/-- What keeps of contents: a hundred places, values that may be; at most eight procedures, each with a name and a source. -/
structure Ok (C : Con) : Prop where
  len : C.cells.length = 100
  val : ∀ o ∈ C.cells, ∀ v, o = some v → isVal v = true
  cnt : C.procs.length ≤ 8
  prc : ∀ p ∈ C.procs, isName p.1 = true ∧ (Ck.read p.2).2 = 0
  srt : C.procs.Pairwise (fun p q => ltB p.1 q.1 = true)

/-- what stands ahead of the first mark and behind it. -/
def cutAt (m : UInt8) : Bytes → Option (Bytes × Bytes)
  | [] => none
  | c :: r => if c = m then some ([], r) else (cutAt m r).map fun p => (c :: p.1, p.2)
/-- all that marks end, and what is left. -/
def pieces (m : UInt8) : Bytes → List Bytes × Bytes
  | [] => ([], [])
  | c :: r => if c = m then ([] :: (pieces m r).1, (pieces m r).2) else
    match (pieces m r).1 with
    | [] => ([], c :: (pieces m r).2)
    | p :: ps => ((c :: p) :: ps, (pieces m r).2)

theorem pieces_cons (m c : UInt8) (r : Bytes) : pieces m (c :: r) = if c = m then ([] :: (pieces m r).1, (pieces m r).2) else
    match (pieces m r).1 with
    | [] => ([], c :: (pieces m r).2)
    | p :: ps => ((c :: p) :: ps, (pieces m r).2) := rfl
theorem cut_none (m : UInt8) (l : Bytes) (h : cutAt m l = none) : pieces m l = ([], l) := by
  induction l with
  | nil => rfl
  | cons c r ih =>
    unfold cutAt at h
    rw [pieces_cons]
    by_cases hc : c = m
    · rw [if_pos hc] at h; cases h
    · rw [if_neg hc] at h ⊢
      have := ih (by simpa using h)
      rw [this]
theorem cut_some (m : UInt8) (l a b : Bytes) (h : cutAt m l = some (a, b)) : pieces m l = (a :: (pieces m b).1, (pieces m b).2) ∧ l = a ++ m :: b ∧ m ∉ a := by
  induction l generalizing a b with
  | nil => cases h
  | cons c r ih =>
    unfold cutAt at h
    rw [pieces_cons]
    by_cases hc : c = m
    · rw [if_pos hc] at h ⊢
      cases h
      subst hc
      simp
    · rw [if_neg hc] at h ⊢
      cases hr : cutAt m r with
      | none => rw [hr] at h; cases h
      | some p =>
        rw [hr] at h
        simp only [Option.map_some, Option.some.injEq, Prod.mk.injEq] at h
        obtain ⟨h1, h2⟩ := ih p.1 p.2 hr
        obtain ⟨ha, hb⟩ := h
        subst ha hb
        rw [h1]
        refine ⟨rfl, by rw [h2.1]; rfl, ?_⟩
        simp only [List.mem_cons, not_or]
        exact ⟨fun e => hc e.symm, h2.2⟩
theorem cut_mk (m : UInt8) (a b : Bytes) (h : m ∉ a) : cutAt m (a ++ m :: b) = some (a, b) := by
  induction a with
  | nil => simp [cutAt]
  | cons c r ih =>
    simp only [List.mem_cons, not_or] at h
    rw [List.cons_append, cutAt, if_neg (fun e => h.1 e.symm), ih h.2]
    rfl
theorem pieces_mk (m : UInt8) (a b : Bytes) (h : m ∉ a) : pieces m (a ++ m :: b) = (a :: (pieces m b).1, (pieces m b).2) := (cut_some m _ a b (cut_mk m a b h)).1
/-- where all is ended, what comes behind is read by itself. -/
theorem pieces_app (m : UInt8) (a b : Bytes) (h : (pieces m a).2 = []) : pieces m (a ++ b) = ((pieces m a).1 ++ (pieces m b).1, (pieces m b).2) := by
  induction a with
  | nil => simp [pieces]
  | cons c r ih =>
    rw [List.cons_append, pieces_cons, pieces_cons]
    rw [pieces_cons] at h
    by_cases hc : c = m
    · rw [if_pos hc] at h
      rw [if_pos hc, if_pos hc, ih h]; rfl
    · rw [if_neg hc] at h
      rw [if_neg hc, if_neg hc]
      cases hp : (pieces m r).1 with
      | nil => rw [hp] at h; cases h
      | cons p ps =>
        rw [hp] at h
        rw [ih h, hp]
        rfl

/-- a whole number of at most ten digits, perhaps below 0. -/
def digitsVal (d : Bytes) : Nat := d.foldl (fun n c => n * 10 + (c.toNat - 48)) 0
def numberIn (t : Bytes) : Option Int :=
  let neg := decide (t.head? = some 45)
  let d := if neg then t.tail else t
  if d = [] ∨ 10 < d.length then none
  else if d.all Ck.isDig then some (if neg then -(digitsVal d : Int) else (digitsVal d : Int)) else none

def redoPut (C : Con) (t : Bytes) : Option Con :=
  match cutAt 61 t with
  | none => none
  | some (a, b) => match numberIn a, numberIn b with
    | some k, some v => if (put C k v).2 = 0 then some (put C k v).1 else none
    | _, _ => none
def redoInstall (C : Con) (t : Bytes) : Option Con :=
  match cutAt 58 t with
  | none => none
  | some (n, s) => if (install C n s).2.2 = 0 then some (install C n s).1 else none
def redoEntry (C : Con) (e : Bytes) : Option Con :=
  match e with
  | [] => none
  | c :: t =>
    if c = 112 then redoPut C t
    else if c = 100 then (match numberIn t with | some k => if (del C k).2 = 0 then some (del C k).1 else none | none => none)
    else if c = 105 then redoInstall C t
    else if c = 114 then (if (drop C t).2 = 0 then some (drop C t).1 else none)
    else none
def redoAll (C : Con) : List Bytes → Option Con
  | [] => some C
  | e :: r => match redoEntry C e with | some D => redoAll D r | none => none
def redo (C : Con) (es : Bytes) : Option Con := if (pieces 59 es).2 = [] then redoAll C (pieces 59 es).1 else none
def redoRecs (C : Con) : List Bytes → Option Con
  | [] => some C
  | e :: r => match redo C e with | some D => redoRecs D r | none => none
def readFile (f : Bytes) : Option (Con × Bool) := (redoRecs none0 (pieces 46 f).1).map fun C => (C, decide ((pieces 46 f).1 ≠ []))
/-- what two files tell: the contents, and which file. -/
def readTwo (a b : Bytes) : Option (Con × Int) :=
  match readFile a, readFile b with
  | some (A, ia), some (B, ib) => if ia then some (A, 0) else if ib = false ∧ 0 < a.length + b.length then none else some (B, 1)
  | _, _ => none

def putE (k v : Int) : Bytes := [112] ++ Lib.itoa k ++ [61] ++ Lib.itoa v ++ [59]
def delE (k : Int) : Bytes := [100] ++ Lib.itoa k ++ [59]
def installE (n s : Bytes) : Bytes := [105] ++ n ++ [58] ++ s ++ [59]
def dropE (n : Bytes) : Bytes := [114] ++ n ++ [59]
def record (es : Bytes) : Bytes := es ++ [46]
def cellsE (l : List (Int × Int)) : Bytes := l.flatMap fun p => putE p.1 p.2
def procsE (l : List (Bytes × Bytes)) : Bytes := l.flatMap fun p => installE p.1 p.2
def all (C : Con) : Bytes := record (cellsE C.list ++ procsE C.procs)

theorem ok_none : Ok none0 := by
  refine ⟨by simp [none0], ?_, by simp [none0], by simp [none0], by simp [none0]⟩
  intro o ho v hv
  simp only [none0, List.mem_replicate] at ho
  rw [ho.2] at hv; cases hv
theorem Ok.set {C : Con} (h : Ok C) (k : Int) (o : Option Int) (ho : ∀ v, o = some v → isVal v = true) : Ok (setC C k o) := by
  refine ⟨by simp [setC, h.len], ?_, h.cnt, h.prc, h.srt⟩
  intro p hp v hv
  rcases List.mem_or_eq_of_mem_set hp with h1 | h1
  · exact h.val p h1 v hv
  · exact ho v (by rw [← h1]; exact hv)
theorem Ok.put {C : Con} (h : Ok C) (k v : Int) : Ok (put C k v).1 := by
  unfold Jn.put
  split
  · exact h
  · split
    · exact h
    · rename_i hv
      exact h.set k _ (fun u hu => by cases hu; simpa using hv)
theorem Ok.del {C : Con} (h : Ok C) (k : Int) : Ok (del C k).1 := by
  unfold Jn.del
  split
  · exact h
  · exact h.set k _ (fun u hu => by cases hu)
theorem others_sub (ps : List (Bytes × Bytes)) (n : Bytes) : (others ps n).length ≤ ps.length := List.length_filter_le _ _
theorem ltB_trans : ∀ (a b c : Bytes), ltB a b = true → ltB b c = true → ltB a c = true
  | [], b, [], h1, h2 => by cases b <;> simp [ltB] at *
  | [], _, _ :: _, _, _ => rfl
  | _ :: _, [], _, h1, _ => by simp [ltB] at h1
  | _ :: _, _ :: _, [], _, h2 => by simp [ltB] at h2
  | a :: x, b :: y, c :: z, h1, h2 => by
    unfold ltB at h1 h2 ⊢
    by_cases hab : a = b
    · subst hab
      rw [if_pos rfl] at h1
      by_cases hac : a = c
      · subst hac
        rw [if_pos rfl] at h2 ⊢
        exact ltB_trans x y z h1 h2
      · rw [if_neg hac] at h2 ⊢
        exact h2
    · rw [if_neg hab] at h1
      by_cases hbc : b = c
      · subst hbc
        rw [if_neg hab]; exact h1
      · rw [if_neg hbc] at h2
        have h3 : a.toNat < b.toNat := by simpa using h1
        have h4 : b.toNat < c.toNat := by simpa using h2
        have h5 : a ≠ c := fun e => by rw [e] at h3; omega
        rw [if_neg h5]
        simp; omega
theorem ltB_irr (a : Bytes) : ltB a a = false := by
  induction a with
  | nil => rfl
  | cons c r ih => simp [ltB, ih]
theorem ltB_tot : ∀ (a b : Bytes), ltB a b = false → a ≠ b → ltB b a = true
  | [], [], _, h => absurd rfl h
  | [], _ :: _, h, _ => by simp [ltB] at h
  | _ :: _, [], _, _ => rfl
  | a :: x, b :: y, h, hn => by
    unfold ltB at h ⊢
    by_cases hab : a = b
    · subst hab
      rw [if_pos rfl] at h ⊢
      exact ltB_tot x y h (fun e => hn (by rw [e]))
    · rw [if_neg hab] at h
      rw [if_neg (fun e => hab e.symm)]
      have h1 : ¬ a.toNat < b.toNat := by simpa using h
      have h2 : a.toNat ≠ b.toNat := fun e => hab (UInt8.toNat_inj.1 e)
      simp; omega
theorem insert_mem (ps : List (Bytes × Bytes)) (q p : Bytes × Bytes) (h : p ∈ insertP ps q) : p = q ∨ p ∈ ps := by
  induction ps with
  | nil => simpa [insertP] using h
  | cons a r ih =>
    unfold insertP at h
    split at h
    · simp only [List.mem_cons] at h ⊢
      rcases h with h | h
      · exact .inr (.inl h)
      · rcases ih h with h | h
        · exact .inl h
        · exact .inr (.inr h)
    · simpa using h
theorem insert_len (ps : List (Bytes × Bytes)) (q : Bytes × Bytes) : (insertP ps q).length = ps.length + 1 := by
  induction ps with
  | nil => rfl
  | cons a r ih => unfold insertP; split <;> simp [ih]
theorem insert_srt (ps : List (Bytes × Bytes)) (q : Bytes × Bytes) (h : ps.Pairwise (fun p q => ltB p.1 q.1 = true)) (hn : ∀ p ∈ ps, p.1 ≠ q.1) : (insertP ps q).Pairwise (fun p q => ltB p.1 q.1 = true) := by
  induction ps with
  | nil => simp [insertP]
  | cons a r ih =>
    rw [List.pairwise_cons] at h
    unfold insertP
    split
    · rename_i hl
      rw [List.pairwise_cons]
      refine ⟨?_, ih h.2 (fun p hp => hn p (by simp [hp]))⟩
      intro p hp
      rcases insert_mem r q p hp with rfl | hp
      · exact hl
      · exact h.1 p hp
    · rename_i hl
      have hqa : ltB q.1 a.1 = true := ltB_tot _ _ (by simpa using hl) (hn a (by simp))
      rw [List.pairwise_cons]
      refine ⟨?_, List.pairwise_cons.2 h⟩
      intro p hp
      simp only [List.mem_cons] at hp
      rcases hp with rfl | hp
      · exact hqa
      · exact ltB_trans _ _ _ hqa (h.1 p hp)
theorem others_mem (ps : List (Bytes × Bytes)) (n : Bytes) (p : Bytes × Bytes) (h : p ∈ others ps n) : p ∈ ps ∧ p.1 ≠ n := by
  simpa [others] using h
theorem Ok.install {C : Con} (h : Ok C) (n s : Bytes) : Ok (install C n s).1 := by
  unfold Jn.install
  split
  · exact h
  · split
    · exact h
    · split
      · exact h
      · rename_i h1 h2 h3
        refine ⟨h.len, h.val, ?_, ?_, ?_⟩
        · show (insertP _ _).length ≤ 8
          rw [insert_len]; omega
        · intro p hp
          rcases insert_mem _ _ p hp with rfl | hp
          · exact ⟨by simpa using h1, by simpa using h2⟩
          · exact h.prc p (others_mem _ _ _ hp).1
        · exact insert_srt _ _ (h.srt.filter _) (fun p hp => (others_mem _ _ _ hp).2)
theorem Ok.drop {C : Con} (h : Ok C) (n : Bytes) : Ok (drop C n).1 := by
  unfold Jn.drop
  split
  · exact h
  · exact ⟨h.len, h.val, Nat.le_trans (others_sub _ _) h.cnt, fun p hp => h.prc p (others_mem _ _ _ hp).1, h.srt.filter _⟩
end Jn
end Go.Proofs.YtellilpeakpbfabGreatDoor

end

section
/-
  Frames: what a call may turn, told by the types of the blocks; rows of cells and of procedures.
-/
namespace Go.Proofs.YtellilpeakpbfabGreatDoor
open Go.RowKit

/-- Below block L nothing has turned; of the blocks from there on only those whose type is among T, and the block X. -/
structure Fr (L : Nat) (T : List TypeId) (X : Option Nat) (w w' : World) : Prop where
  below : Below L w w'
  block : ∀ k cur t z, w.heap[k]? = some (.cells cur t z) → t ∉ T → X ≠ some k → w'.heap[k]? = some (.cells cur t z)

theorem Fr.refl (L : Nat) (T : List TypeId) (X : Option Nat) (w : World) : Fr L T X w w := ⟨Below.refl _ _, fun _ _ _ _ h _ _ => h⟩
theorem Fr.trans {L : Nat} {T : List TypeId} {X : Option Nat} {a b c : World} (h : Fr L T X a b) (g : Fr L T X b c) : Fr L T X a c :=
  ⟨h.below.trans g.below, fun k cur t z hk ht hX => g.block k cur t z (h.block k cur t z hk ht hX) ht hX⟩
theorem Fr.mono {L L' : Nat} {T T' : List TypeId} {X : Option Nat} {a b : World} (h : Fr L T X a b) (hL : L' ≤ L) (hT : ∀ t, t ∈ T → t ∈ T') : Fr L' T' X a b :=
  ⟨h.below.mono hL, fun k cur t z hk ht hX => h.block k cur t z hk (fun g => ht (hT t g)) hX⟩
theorem Fr.wide {L : Nat} {T T' : List TypeId} {X : Option Nat} {a b : World} (h : Fr L T X a b) (hT : ∀ t, t ∈ T → t ∈ T') : Fr L T' X a b := h.mono (Nat.le_refl _) hT
/-- what a call of its own memory turns. -/
theorem Fr.of {L : Nat} {T : List TypeId} {X : Option Nat} {a b : World} (h : Below a.heap.size a b) (hL : L ≤ a.heap.size) : Fr L T X a b :=
  ⟨h.mono hL, fun k _ _ _ hk _ _ => (h.block k (Array.getElem?_eq_some_iff.1 hk).1).trans hk⟩
theorem Fr.size {L : Nat} {T : List TypeId} {X : Option Nat} {a b : World} (h : Fr L T X a b) : a.heap.size ≤ b.heap.size := h.below.size
/-- a block that was not yet there need not be named. -/
theorem Fr.fresh {L : Nat} {T : List TypeId} {X : Option Nat} {a b c : World} (h : Fr L T none a b) (g : Fr L T X b c) (hX : ∀ k, X = some k → a.heap.size ≤ k) : Fr L T none a c :=
  ⟨h.below.trans g.below, fun k cur t z hk ht _ => g.block k cur t z (h.block k cur t z hk ht (by simp)) ht (fun e => by
    have := hX k e; have := (Array.getElem?_eq_some_iff.1 hk).1; omega)⟩

/-- a block by its type. -/
theorem Fr.weak {L B : Nat} {w w' : World} {cur : Array Value} {t : TypeId} {z : Nat × Nat} (h : Fr L [] (some B) w w') (hB : w.heap[B]? = some (.cells cur t z)) : Fr L [t] none w w' :=
  ⟨h.below, fun k cur' t' z' hk ht _ => h.block k cur' t' z' hk (by simp) (fun e => by cases e; rw [hB] at hk; cases hk; simp at ht)⟩
theorem own_fr {L : Nat} {T : List TypeId} {X : Option Nat} {w w' : World} {b : Nat} {e : TypeId} {size : Nat} {v : Value} {n : Nat} {xs : List Value} (h : w.ownsRow b e size v n xs) (f : Fr L T X w w') (he : e ∉ T) (hX : X = none ∨ X ≠ v.ownBlock) : w'.ownsRow b e size v n xs := by
  refine ⟨h.1, ?_⟩
  rcases h.2 with hn | ⟨g, cap, cur, rfl, hb, hh, rest⟩
  · exact .inl hn
  · refine .inr ⟨g, cap, cur, rfl, hb, f.block g cur e (0, 0) hh he ?_, rest⟩
    rcases hX with hX | hX
    · rw [hX]; simp
    · simpa [Value.ownBlock] using hX

/-- Pairs of cells. -/
def pairs (l : List (Value × Value)) : List Value := l.flatMap fun p => [p.1, p.2]
theorem pairs_len (l : List (Value × Value)) : (pairs l).length = l.length * 2 := by
  induction l with
  | nil => rfl
  | cons p r ih => simp only [pairs, List.flatMap_cons, List.length_append, List.length_cons, List.length_nil] at ih ⊢; omega
theorem pairs_snoc (l : List (Value × Value)) (p : Value × Value) : pairs (l ++ [p]) = pairs l ++ [p.1, p.2] := by simp [pairs]
theorem pairs_at (l : List (Value × Value)) : ∀ (k : Nat) (p : Value × Value), l[k]? = some p → (pairs l)[k * 2]? = some p.1 ∧ (pairs l)[k * 2 + 1]? = some p.2 := by
  induction l with
  | nil => intro k p h; simp at h
  | cons q r ih =>
    intro k p h
    cases k with
    | zero => simp at h; subst h; simp [pairs]
    | succ k =>
      have := ih k p (by simpa using h)
      have e : pairs (q :: r) = q.1 :: q.2 :: pairs r := rfl
      rw [e]
      rw [show (k + 1) * 2 = k * 2 + 1 + 1 by omega, show k * 2 + 1 + 1 + 1 = (k * 2 + 1) + 1 + 1 by omega]
      simpa using this
/-- A row of pairs: its value, its cells. -/
theorem pair_shape {w : World} {b : Nat} {e : TypeId} {v : Value} {l : List (Value × Value)} (h : w.ownsRow b e 2 v l.length (pairs l)) :
    ∃ ao cap, v = .slice ao l.length cap ∧ (0 < l.length → ∃ g cur, ao = some ⟨g, 0, none⟩ ∧ b ≤ g ∧ w.heap[g]? = some (.cells cur e (0, 0)) ∧ ∀ j p, l[j]? = some p → w.cell? ⟨g, j * 2, none⟩ = some p.1 ∧ w.cell? ⟨g, j * 2 + 1, none⟩ = some p.2) := by
  have h0 := h
  rcases h.2 with ⟨rfl, hn⟩ | ⟨g, cap, cur, rfl, hg, hh, hcap, hm, hsz, htake⟩
  · exact ⟨none, 0, by rw [hn], fun hp => by omega⟩
  · refine ⟨_, cap, rfl, fun _ => ⟨g, cur, rfl, hg, hh, fun j p hj => ?_⟩⟩
    obtain ⟨c1, c2⟩ := pairs_at l j p hj
    have a1 := h0.cells (g := g) rfl (j * 2) _ c1
    have a2 := h0.cells (g := g) rfl (j * 2 + 1) _ c2
    simp only [Addr.add_lit, Nat.zero_add] at a1 a2
    exact ⟨a1, a2⟩

def pPair (p : List UInt8 × List UInt8) : Value × Value := (T p.1, T p.2)
def cPair (p : Int × Int) : Value × Value := (.int .i64 p.1, .int .i64 p.2)
/-- A list of procedures; a list of cells; from block b on. -/
def PRow (w : World) (b : Nat) (v : Value) (ps : List (List UInt8 × List UInt8)) : Prop := w.ownsRow b 89 2 v ps.length (pairs (ps.map pPair))
def CRow (w : World) (b : Nat) (v : Value) (l : List (Int × Int)) : Prop := w.ownsRow b 99 2 v l.length (pairs (l.map cPair))

theorem PRow.shape {w : World} {b : Nat} {v : Value} {ps : List (List UInt8 × List UInt8)} (h : PRow w b v ps) :
    ∃ ao cap, v = .slice ao ps.length cap ∧ (0 < ps.length → ∃ g cur, ao = some ⟨g, 0, none⟩ ∧ b ≤ g ∧ w.heap[g]? = some (.cells cur 89 (0, 0)) ∧ ∀ j p, ps[j]? = some p → w.cell? ⟨g, j * 2, none⟩ = some (T p.1) ∧ w.cell? ⟨g, j * 2 + 1, none⟩ = some (T p.2)) := by
  have h' : w.ownsRow b 89 2 v (ps.map pPair).length (pairs (ps.map pPair)) := by rw [List.length_map]; exact h
  obtain ⟨ao, cap, hv, hc⟩ := pair_shape h'
  rw [List.length_map] at hv hc
  refine ⟨ao, cap, hv, fun hp => ?_⟩
  obtain ⟨g, cur, h1, h2, h3, h4⟩ := hc hp
  exact ⟨g, cur, h1, h2, h3, fun j p hj => h4 j (pPair p) (by simp [hj])⟩
theorem CRow.shape {w : World} {b : Nat} {v : Value} {l : List (Int × Int)} (h : CRow w b v l) :
    ∃ ao cap, v = .slice ao l.length cap ∧ (0 < l.length → ∃ g cur, ao = some ⟨g, 0, none⟩ ∧ b ≤ g ∧ w.heap[g]? = some (.cells cur 99 (0, 0)) ∧ ∀ j p, l[j]? = some p → w.cell? ⟨g, j * 2, none⟩ = some (.int .i64 p.1) ∧ w.cell? ⟨g, j * 2 + 1, none⟩ = some (.int .i64 p.2)) := by
  have h' : w.ownsRow b 99 2 v (l.map cPair).length (pairs (l.map cPair)) := by rw [List.length_map]; exact h
  obtain ⟨ao, cap, hv, hc⟩ := pair_shape h'
  rw [List.length_map] at hv hc
  refine ⟨ao, cap, hv, fun hp => ?_⟩
  obtain ⟨g, cur, h1, h2, h3, h4⟩ := hc hp
  exact ⟨g, cur, h1, h2, h3, fun j p hj => h4 j (cPair p) (by simp [hj])⟩
theorem PRow.snoc {w : World} {b : Nat} {v : Value} {ps : List (List UInt8 × List UInt8)} {n s : List UInt8} (h : w.ownsRow b 89 2 v (ps.length + 1) (pairs (ps.map pPair) ++ [T n, T s])) : PRow w b v (ps ++ [(n, s)]) := by
  unfold PRow
  rw [List.map_append, List.map_cons, List.map_nil, pairs_snoc, List.length_append]
  exact h
theorem CRow.snoc {w : World} {b : Nat} {v : Value} {l : List (Int × Int)} {k x : Int} (h : w.ownsRow b 99 2 v (l.length + 1) (pairs (l.map cPair) ++ [.int .i64 k, .int .i64 x])) : CRow w b v (l ++ [(k, x)]) := by
  unfold CRow
  rw [List.map_append, List.map_cons, List.map_nil, pairs_snoc, List.length_append]
  exact h
theorem PRow.base {w : World} {b b' : Nat} {v : Value} {ps : List (List UInt8 × List UInt8)} (h : PRow w b v ps) (hb : b' ≤ b) : PRow w b' v ps := ownsRow_base h hb
theorem CRow.base {w : World} {b b' : Nat} {v : Value} {l : List (Int × Int)} (h : CRow w b v l) (hb : b' ≤ b) : CRow w b' v l := ownsRow_base h hb

theorem Tryz.infoProc : (Tryz.prog.info? 89).map (fun i => (i.zero, i.size, i.bytes)) = some (some (.agg #[.string ⟨#[]⟩, .string ⟨#[]⟩]), 2, 32) := by kernel_rfl
theorem Tryz.infoCell : (Tryz.prog.info? 99).map (fun i => (i.zero, i.size, i.bytes)) = some (some (.agg #[.int .i64 0, .int .i64 0]), 2, 16) := by kernel_rfl

/-- The contents at block B: two cells a place, then the list of procedures. -/
structure ConAt (L : Nat) (w : World) (B : Nat) (C : Jn.Con) : Prop where
  low : L ≤ B
  ok : Jn.Ok C
  mem : ∃ cur v, w.heap[B]? = some (.cells cur 123 (0, 0)) ∧ cur.size = 201 ∧
    (∀ k o, C.cells[k]? = some o → cur[k * 2]? = some (.bool o.isSome) ∧ cur[k * 2 + 1]? = some (.int .i64 (o.getD 0))) ∧ cur[200]? = some v ∧ PRow w 0 v C.procs

theorem ConAt.lt {L : Nat} {w : World} {B : Nat} {C : Jn.Con} (h : ConAt L w B C) : B < w.heap.size := by
  obtain ⟨cur, v, hh, _⟩ := h.mem
  exact (Array.getElem?_eq_some_iff.1 hh).1
theorem ConAt.fr {L : Nat} {T : List TypeId} {X : Option Nat} {w w' : World} {B : Nat} {C : Jn.Con} (h : ConAt L w B C) (f : Fr L T X w w') (h1 : 123 ∉ T) (h2 : 89 ∉ T) (hX : ∀ k, X = some k → ∀ cur t z, w.heap[k]? = some (.cells cur t z) → t ≠ 123 ∧ t ≠ 89) : ConAt L w' B C := by
  obtain ⟨cur, v, hh, hs, hc, hv, hp⟩ := h.mem
  refine ⟨h.low, h.ok, cur, v, f.block B cur _ _ hh h1 (fun e => (hX B e _ _ _ hh).1 rfl), hs, hc, hv, ?_⟩
  refine ⟨hp.1, ?_⟩
  rcases hp.2 with hn | ⟨g, cap, cur, rfl, hb, hh, rest⟩
  · exact .inl hn
  · exact .inr ⟨g, cap, cur, rfl, hb, f.block g cur _ (0, 0) hh h2 (fun e => (hX g e _ _ _ hh).2 rfl), rest⟩
theorem ConAt.below {L : Nat} {w w' : World} {B : Nat} {C : Jn.Con} (h : ConAt L w B C) (f : Below w.heap.size w w') : ConAt L w' B C :=
  h.fr (Fr.of (T := []) (X := none) f (Nat.le_trans h.low (Nat.le_of_lt h.lt))) (by simp) (by simp) (by simp)
end Go.Proofs.YtellilpeakpbfabGreatDoor

end

section
/-
  Lists that are full of one mark: append onto one leaves every such list full.
-/
namespace Go.Proofs.YtellilpeakpbfabGreatDoor
open Go.RowKit

/-- n times the cells of a mark. -/
def rep (m : List Value) (n : Nat) : List Value := (List.replicate n m).flatten
theorem rep_zero (m : List Value) : rep m 0 = [] := rfl
theorem rep_succ (m : List Value) (n : Nat) : rep m (n + 1) = m ++ rep m n := by simp [rep, List.replicate_succ]
theorem rep_len (m : List Value) (n : Nat) : (rep m n).length = n * m.length := by
  induction n with
  | zero => simp [rep]
  | succ n ih => rw [rep_succ, List.length_append, ih, Nat.succ_mul]; omega
theorem rep_add (m : List Value) (a b : Nat) : rep m (a + b) = rep m a ++ rep m b := by
  induction a with
  | zero => simp [rep]
  | succ a ih => rw [show a + 1 + b = (a + b) + 1 by omega, rep_succ, rep_succ, ih, List.append_assoc]
theorem rep_at (m : List Value) (n : Nat) : ∀ j, j < n * m.length → (rep m n)[j]? = m[j % m.length]? := by
  induction n with
  | zero => intro j h; simp at h
  | succ n ih =>
    intro j h
    rw [rep_succ]
    by_cases hj : j < m.length
    · rw [List.getElem?_append_left hj, Nat.mod_eq_of_lt hj]
    · rw [List.getElem?_append_right (by omega), ih (j - m.length) (by rw [Nat.succ_mul] at h; omega)]
      congr 1
      rw [Nat.mod_eq_sub_mod (show j ≥ m.length by omega)]

/-- A list of n elements that are all the mark. -/
def Full (w : World) (b : Nat) (e : TypeId) (m : List Value) (v : Value) (n : Nat) : Prop := w.ownsRow b e m.length v n (rep m n)

theorem full_row {cur : List Value} {m : List Value} {n n' k : Nat} (hn' : cur.take (n' * m.length) = rep m n') (hfit : n * m.length + k * m.length ≤ cur.length) :
    (cur.take (n * m.length) ++ rep m k ++ cur.drop (n * m.length + k * m.length)).take (n' * m.length) = rep m n' := by
  apply List.ext_getElem?
  intro j
  by_cases hj : j < n' * m.length
  · rw [List.getElem?_take, if_pos hj, rep_at m n' j hj]
    have hcur : cur[j]? = m[j % m.length]? := by
      have := congrArg (·[j]?) hn'
      simp only [List.getElem?_take, if_pos hj, rep_at m n' j hj] at this
      exact this
    have hl1 : (cur.take (n * m.length)).length = n * m.length := by simp; omega
    by_cases h1 : j < n * m.length
    · rw [List.append_assoc, List.getElem?_append_left (by omega), List.getElem?_take, if_pos h1]
      exact hcur
    · rw [List.append_assoc, List.getElem?_append_right (by omega), hl1]
      by_cases h2 : j - n * m.length < k * m.length
      · rw [List.getElem?_append_left (by rw [rep_len]; exact h2), rep_at m k _ h2]
        congr 1
        rw [show n * m.length = m.length * n from Nat.mul_comm _ _]
        conv => rhs; rw [show j = (j - m.length * n) + m.length * n by rw [Nat.mul_comm m.length n]; omega]
        rw [Nat.add_mul_mod_self_left]
      · rw [List.getElem?_append_right (by rw [rep_len]; omega), rep_len, List.getElem?_drop]
        rw [show n * m.length + k * m.length + (j - n * m.length - k * m.length) = j by omega]
        exact hcur
  · rw [List.getElem?_take, if_neg hj, List.getElem?_eq_none (by rw [rep_len]; omega)]

section
variable {P : Program} (w : World)
theorem run_append_marks (base : Nat) (t ty e : TypeId) (i : TypeInfo) (z : Value) (bytes : Nat) (m : List Value) (ht : P.underlying t = some (.slice e)) (hi : P.info? e = some i) (hz : i.zero = some z)
    (hsize : i.size = m.length) (hby : i.bytes = bytes) (hzs : z.cells.size = m.length)
    (v : Value) (n : Nat) (hown : Full w base e m v n)
    (a : Addr) (k c : Nat) (hk : 0 < k) (hnews : ∀ j u, (rep m k)[j]? = some u → w.cell? (a.add j) = some u) (h1 : ∀ u ∈ m, u.oneCell' = true)
    (h63 : n + k ≤ maxLen) (hbytes : (n + k) * bytes ≤ 140737488355328) (hbase : base ≤ w.heap.size) :
    ∃ v' w', (Builtin.append_ #[t, t] ty #[v, .slice (some a) k c]).run P w = .ok v' w' ∧ Full w' base e m v' (n + k) ∧ w.grownBy w' v.ownBlock ∧
      (∀ b u n', Full w b e m u n' → Full w' b e m u n') ∧ (∀ j, v'.ownBlock = some j → v.ownBlock = some j ∨ w.heap.size ≤ j) := by
  have h1' : ∀ u ∈ rep m k, u.oneCell' = true := by
    intro u hu
    unfold rep at hu
    obtain ⟨l, hl, hu⟩ := List.mem_flatten.1 hu
    rw [List.mem_replicate] at hl
    rw [hl.2] at hu
    exact h1 u hu
  have hl : (rep m k).length = k * i.size := by rw [rep_len, hsize]
  have hown' : w.ownsRow base e i.size v n (rep m n) := by rw [hsize]; exact hown
  subst hby
  have hlen : (rep m n ++ rep m k).length = (n + k) * m.length := by rw [List.length_append, rep_len, rep_len, Nat.add_mul]
  have grown : ∀ (old : Nat), old < n + k → ∀ (row : Option Nat),
      Full (w.drew.alloc (.cells ((rep m n).toArray ++ (rep m k).toArray ++ Builtin.zeroCells z.cells (grownCap w (n + k) old e - (n + k))) e)) base e m
        (.slice (some ⟨w.heap.size, 0, none⟩) (n + k) (grownCap w (n + k) old e)) (n + k) ∧
      w.grownBy (w.drew.alloc (.cells ((rep m n).toArray ++ (rep m k).toArray ++ Builtin.zeroCells z.cells (grownCap w (n + k) old e - (n + k))) e)) row ∧
      (∀ b u n', Full w b e m u n' → Full (w.drew.alloc (.cells ((rep m n).toArray ++ (rep m k).toArray ++ Builtin.zeroCells z.cells (grownCap w (n + k) old e - (n + k))) e)) b e m u n') := by
    intro old ho row
    have hge := grownCap_ge w (n + k) old e
    have hcm : grownCap w (n + k) old e ≤ maxLen := grownCap_le_maxLen w (n + k) old e h63
    refine ⟨?_, ⟨rfl, rfl, rfl, by simp, fun q hq _ => Below.heap_alloc w.drew _ q hq⟩, fun b u n' hu => ?_⟩
    · unfold Full
      rw [rep_add]
      refine ⟨hlen, .inr ⟨w.heap.size, _, _, rfl, hbase, heap_alloc_new w.drew _, hge, hcm, ?_, ?_⟩⟩
      · simp only [Array.size_append, List.size_toArray, size_zeroCells, hzs, rep_len, ← Nat.add_mul]
        congr 1
        omega
      · simp only [Array.toList_append, List.append_assoc]
        rw [← List.append_assoc, ← hlen]
        exact List.take_left
    · exact World.ownsRow.kept hu ⟨rfl, rfl, rfl, by simp, fun q hq _ => Below.heap_alloc w.drew _ q hq⟩ (row := none) (by cases u.ownBlock <;> simp)
  rcases hown'.2 with ⟨rfl, rfl⟩ | ⟨g, cap, cur, rfl, hbg, hg, hnc, hcm, hcs, htake⟩
  · have hr := run_append_nil (P := P) w t ty e i z ht hi hz a k c (rep m k) hl hnews (by omega) (by simp only [maxLen] at h63; omega) (by have hb := hbytes; simp only [Nat.zero_add] at hb; omega)
    have hgr := grown 0 (by omega) (Value.ownBlock (.slice none 0 0))
    simp only [Nat.zero_add, rep_zero, Array.empty_append] at hgr ⊢
    refine ⟨_, _, hr, hgr.1, hgr.2.1, hgr.2.2, ?_⟩
    intro j hj
    simp [Value.ownBlock] at hj
    exact .inr (by omega)
  · by_cases hroom : n + k ≤ cap
    · have hfit : n * i.size + (rep m k).length ≤ cur.size := by rw [hl, hcs, ← Nat.add_mul]; exact Nat.mul_le_mul_right _ hroom
      have hr := run_append_room (P := P) w t ty e i ht hi g n cap cur hg a k c (rep m k) hl hnews h1' hroom hfit
      rw [hsize] at hr hfit htake hcs
      rw [rep_len] at hr hfit
      have hcl : cur.toList.length = cur.size := by simp
      refine ⟨_, _, hr, ?_, ⟨rfl, rfl, rfl, by simp, fun q _ hq => setRow_other w g q _ (fun e => hq (by simp [Value.ownBlock, e]))⟩, ?_, fun j hj => .inl hj⟩
      · unfold Full
        rw [rep_add]
        refine ⟨hlen, .inr ⟨g, cap, _, rfl, hbg, setRow_heap w g cur _ e _ hg, hroom, hcm, ?_, ?_⟩⟩
        · simp only [List.size_toArray, List.length_append, List.length_take, List.length_drop, hcl, rep_len]
          omega
        · show List.take _ (cur.toList.take (n * m.length) ++ rep m k ++ _) = _
          rw [htake, ← hlen]
          exact List.take_left
      · intro b u n' hu
        refine ⟨hu.1, ?_⟩
        rcases hu.2 with hn | ⟨g', cap', cur', rfl, hb', hh', hn1, hn2, hn3, hn4⟩
        · exact .inl hn
        · by_cases hgg : g' = g
          · subst hgg
            rw [hg] at hh'
            cases hh'
            refine .inr ⟨g', cap', _, rfl, hb', setRow_heap w g' cur _ e _ hg, hn1, hn2, ?_, ?_⟩
            · simp only [List.size_toArray, List.length_append, List.length_take, List.length_drop, hcl, rep_len]
              omega
            · exact full_row hn4 (by rw [hcl]; exact hfit)
          · exact .inr ⟨g', cap', cur', rfl, hb', (setRow_other w g g' _ (fun e => hgg e)).trans hh', hn1, hn2, hn3, hn4⟩
    · have holds : ∀ j u, (rep m n)[j]? = some u → w.cell? ((⟨g, 0, none⟩ : Addr).add j) = some u := hown'.cells (g := g) rfl
      have hr := run_append_grow (P := P) w t ty e i z ht hi hz ⟨g, 0, none⟩ n cap (rep m n) hown'.1 holds a k c (rep m k) hl hnews (by omega) (by simp only [maxLen] at h63; omega) (growslice_fits (by omega) hbytes)
      have hgr := grown cap (by omega) (Value.ownBlock (.slice (some ⟨g, 0, none⟩) n cap))
      refine ⟨_, _, hr, hgr.1, hgr.2.1, hgr.2.2, ?_⟩
      intro j hj
      simp [Value.ownBlock] at hj
      exact .inr (by omega)

theorem wpList_append_marks {ops : Array Oper} {rest : List Oper} {o : Oper} {a : Act} {Q : Exit → Act → World → Prop} (hgd : o.guard = none) (s x : Operand) (t : TypeId)
    (ho : o.op = .call { callee := .builtin .append, args := #[s, x], argTypes := #[t, t] })
    (base : Nat) (e : TypeId) (i : TypeInfo) (z : Value) (bytes : Nat) (m : List Value) (ht : P.underlying t = some (.slice e)) (hi : P.info? e = some i) (hz : i.zero = some z)
    (hsize : i.size = m.length) (hby : i.bytes = bytes) (hzs : z.cells.size = m.length)
    (v : Value) (n : Nat) (hs : a.eval s = v) (hown : Full w base e m v n)
    (ad : Addr) (k c : Nat) (hk : 0 < k) (hx : a.eval x = .slice (some ad) k c) (hnews : ∀ j u, (rep m k)[j]? = some u → w.cell? (ad.add j) = some u) (h1 : ∀ u ∈ m, u.oneCell' = true)
    (h63 : n + k ≤ maxLen) (hbytes : (n + k) * bytes ≤ 140737488355328) (hbase : base ≤ w.heap.size)
    (h : ∀ v' w', Full w' base e m v' (n + k) → w.grownBy w' v.ownBlock → (∀ b u n', Full w b e m u n' → Full w' b e m u n') → (∀ j, v'.ownBlock = some j → v.ownBlock = some j ∨ w.heap.size ≤ j) → wpList P ops Q rest (a.put o.dst v') w') : wpList P ops Q (o :: rest) a w :=
  wpList_plain hgd fun K hK => by
    obtain ⟨v', w', hr, h2, h3, h4, h5⟩ := run_append_marks (P := P) w base t o.type e i z bytes m ht hi hz hsize hby hzs v n hown ad k c hk hnews h1 h63 hbytes hbase
    unfold Oper.wp execOp
    simp only [ho, resolve, invoke, builtin, Sem.run_bind, Sem.run_pure, Result.andThen_ok, List.map_toArray, List.map_cons, List.map_nil, hs, hx, hr]
    exact hK _ _ (h v' w' h2 h3 h4 h5)
end
end Go.Proofs.YtellilpeakpbfabGreatDoor

end
