import Derived.Test.YtellilpeakpbfaaDoorRead
import Derived.Test.YtellilpeakpbfaaDoorJPure
/-
  Frames: what a call may turn, told by the types of the blocks; rows of cells and of procedures.
-/
namespace Go.Proofs.YtellilpeakpbfaaDoor
open Go.RowKit

/-- Below block L nothing has turned; of the blocks from there on only those whose type is among T, and the block X. -/
structure Fr (L : Nat) (T : List TypeId) (X : Option Nat) (w w' : World) : Prop where
  below : Below L w w'
  block : ∀ k cur t z, w.heap[k]? = some (.cells cur t z) → t ∉ T → X ≠ some k → w'.heap[k]? = some (.cells cur t z)

theorem Fr.refl (L : Nat) (T : List TypeId) (X : Option Nat) (w : World) : Fr L T X w w := ⟨Below.refl _ _, fun _ _ _ _ h _ _ => h⟩
theorem Fr.trans {L : Nat} {T : List TypeId} {X : Option Nat} {a b c : World} (h : Fr L T X a b) (g : Fr L T X b c) : Fr L T X a c :=
  ⟨h.below.trans g.below, fun k cur t z hk ht hX => g.block k cur t z (h.block k cur t z hk ht hX) ht hX⟩
theorem Fr.mono {L L' : Nat} {T T' : List TypeId} {X : Option Nat} {a b : World} (h : Fr L T X a b) (hL : L' ≤ L) (hT : ∀ t, t ∈ T → t ∈ T') : Fr L' T' X a b :=
  ⟨h.below.mono hL, fun k cur t z hk ht hX => h.block k cur t z hk (fun g => ht (hT t g)) hX⟩
theorem Fr.wide {L : Nat} {T T' : List TypeId} {X : Option Nat} {a b : World} (h : Fr L T X a b) (hT : ∀ t, t ∈ T → t ∈ T') : Fr L T' X a b := h.mono (Nat.le_refl _) hT
/-- what a call of its own memory turns. -/
theorem Fr.of {L : Nat} {T : List TypeId} {X : Option Nat} {a b : World} (h : Below a.heap.size a b) (hL : L ≤ a.heap.size) : Fr L T X a b :=
  ⟨h.mono hL, fun k _ _ _ hk _ _ => (h.block k (Array.getElem?_eq_some_iff.1 hk).1).trans hk⟩
theorem Fr.size {L : Nat} {T : List TypeId} {X : Option Nat} {a b : World} (h : Fr L T X a b) : a.heap.size ≤ b.heap.size := h.below.size
/-- a block that was not yet there need not be named. -/
theorem Fr.fresh {L : Nat} {T : List TypeId} {X : Option Nat} {a b c : World} (h : Fr L T none a b) (g : Fr L T X b c) (hX : ∀ k, X = some k → a.heap.size ≤ k) : Fr L T none a c :=
  ⟨h.below.trans g.below, fun k cur t z hk ht _ => g.block k cur t z (h.block k cur t z hk ht (by simp)) ht (fun e => by
    have := hX k e; have := (Array.getElem?_eq_some_iff.1 hk).1; omega)⟩

/-- a block by its type. -/
theorem Fr.weak {L B : Nat} {w w' : World} {cur : Array Value} {t : TypeId} {z : Nat × Nat} (h : Fr L [] (some B) w w') (hB : w.heap[B]? = some (.cells cur t z)) : Fr L [t] none w w' :=
  ⟨h.below, fun k cur' t' z' hk ht _ => h.block k cur' t' z' hk (by simp) (fun e => by cases e; rw [hB] at hk; cases hk; simp at ht)⟩
theorem own_fr {L : Nat} {T : List TypeId} {X : Option Nat} {w w' : World} {b : Nat} {e : TypeId} {size : Nat} {v : Value} {n : Nat} {xs : List Value} (h : w.ownsRow b e size v n xs) (f : Fr L T X w w') (he : e ∉ T) (hX : X = none ∨ X ≠ v.ownBlock) : w'.ownsRow b e size v n xs := by
  refine ⟨h.1, ?_⟩
  rcases h.2 with hn | ⟨g, cap, cur, rfl, hb, hh, rest⟩
  · exact .inl hn
  · refine .inr ⟨g, cap, cur, rfl, hb, f.block g cur e (0, 0) hh he ?_, rest⟩
    rcases hX with hX | hX
    · rw [hX]; simp
    · simpa [Value.ownBlock] using hX

/-- Pairs of cells. -/
def pairs (l : List (Value × Value)) : List Value := l.flatMap fun p => [p.1, p.2]
theorem pairs_len (l : List (Value × Value)) : (pairs l).length = l.length * 2 := by
  induction l with
  | nil => rfl
  | cons p r ih => simp only [pairs, List.flatMap_cons, List.length_append, List.length_cons, List.length_nil] at ih ⊢; omega
theorem pairs_snoc (l : List (Value × Value)) (p : Value × Value) : pairs (l ++ [p]) = pairs l ++ [p.1, p.2] := by simp [pairs]
theorem pairs_at (l : List (Value × Value)) : ∀ (k : Nat) (p : Value × Value), l[k]? = some p → (pairs l)[k * 2]? = some p.1 ∧ (pairs l)[k * 2 + 1]? = some p.2 := by
  induction l with
  | nil => intro k p h; simp at h
  | cons q r ih =>
    intro k p h
    cases k with
    | zero => simp at h; subst h; simp [pairs]
    | succ k =>
      have := ih k p (by simpa using h)
      have e : pairs (q :: r) = q.1 :: q.2 :: pairs r := rfl
      rw [e]
      rw [show (k + 1) * 2 = k * 2 + 1 + 1 by omega, show k * 2 + 1 + 1 + 1 = (k * 2 + 1) + 1 + 1 by omega]
      simpa using this
/-- A row of pairs: its value, its cells. -/
theorem pair_shape {w : World} {b : Nat} {e : TypeId} {v : Value} {l : List (Value × Value)} (h : w.ownsRow b e 2 v l.length (pairs l)) :
    ∃ ao cap, v = .slice ao l.length cap ∧ (0 < l.length → ∃ g cur, ao = some ⟨g, 0, none⟩ ∧ b ≤ g ∧ w.heap[g]? = some (.cells cur e (0, 0)) ∧ ∀ j p, l[j]? = some p → w.cell? ⟨g, j * 2, none⟩ = some p.1 ∧ w.cell? ⟨g, j * 2 + 1, none⟩ = some p.2) := by
  have h0 := h
  rcases h.2 with ⟨rfl, hn⟩ | ⟨g, cap, cur, rfl, hg, hh, hcap, hm, hsz, htake⟩
  · exact ⟨none, 0, by rw [hn], fun hp => by omega⟩
  · refine ⟨_, cap, rfl, fun _ => ⟨g, cur, rfl, hg, hh, fun j p hj => ?_⟩⟩
    obtain ⟨c1, c2⟩ := pairs_at l j p hj
    have a1 := h0.cells (g := g) rfl (j * 2) _ c1
    have a2 := h0.cells (g := g) rfl (j * 2 + 1) _ c2
    simp only [Addr.add_lit, Nat.zero_add] at a1 a2
    exact ⟨a1, a2⟩

def pPair (p : List UInt8 × List UInt8) : Value × Value := (T p.1, T p.2)
def cPair (p : Int × Int) : Value × Value := (.int .i64 p.1, .int .i64 p.2)
/-- A list of procedures; a list of cells; from block b on. -/
def PRow (w : World) (b : Nat) (v : Value) (ps : List (List UInt8 × List UInt8)) : Prop := w.ownsRow b 99 2 v ps.length (pairs (ps.map pPair))
def CRow (w : World) (b : Nat) (v : Value) (l : List (Int × Int)) : Prop := w.ownsRow b 96 2 v l.length (pairs (l.map cPair))

theorem PRow.shape {w : World} {b : Nat} {v : Value} {ps : List (List UInt8 × List UInt8)} (h : PRow w b v ps) :
    ∃ ao cap, v = .slice ao ps.length cap ∧ (0 < ps.length → ∃ g cur, ao = some ⟨g, 0, none⟩ ∧ b ≤ g ∧ w.heap[g]? = some (.cells cur 99 (0, 0)) ∧ ∀ j p, ps[j]? = some p → w.cell? ⟨g, j * 2, none⟩ = some (T p.1) ∧ w.cell? ⟨g, j * 2 + 1, none⟩ = some (T p.2)) := by
  have h' : w.ownsRow b 99 2 v (ps.map pPair).length (pairs (ps.map pPair)) := by rw [List.length_map]; exact h
  obtain ⟨ao, cap, hv, hc⟩ := pair_shape h'
  rw [List.length_map] at hv hc
  refine ⟨ao, cap, hv, fun hp => ?_⟩
  obtain ⟨g, cur, h1, h2, h3, h4⟩ := hc hp
  exact ⟨g, cur, h1, h2, h3, fun j p hj => h4 j (pPair p) (by simp [hj])⟩
theorem CRow.shape {w : World} {b : Nat} {v : Value} {l : List (Int × Int)} (h : CRow w b v l) :
    ∃ ao cap, v = .slice ao l.length cap ∧ (0 < l.length → ∃ g cur, ao = some ⟨g, 0, none⟩ ∧ b ≤ g ∧ w.heap[g]? = some (.cells cur 96 (0, 0)) ∧ ∀ j p, l[j]? = some p → w.cell? ⟨g, j * 2, none⟩ = some (.int .i64 p.1) ∧ w.cell? ⟨g, j * 2 + 1, none⟩ = some (.int .i64 p.2)) := by
  have h' : w.ownsRow b 96 2 v (l.map cPair).length (pairs (l.map cPair)) := by rw [List.length_map]; exact h
  obtain ⟨ao, cap, hv, hc⟩ := pair_shape h'
  rw [List.length_map] at hv hc
  refine ⟨ao, cap, hv, fun hp => ?_⟩
  obtain ⟨g, cur, h1, h2, h3, h4⟩ := hc hp
  exact ⟨g, cur, h1, h2, h3, fun j p hj => h4 j (cPair p) (by simp [hj])⟩
theorem PRow.snoc {w : World} {b : Nat} {v : Value} {ps : List (List UInt8 × List UInt8)} {n s : List UInt8} (h : w.ownsRow b 99 2 v (ps.length + 1) (pairs (ps.map pPair) ++ [T n, T s])) : PRow w b v (ps ++ [(n, s)]) := by
  unfold PRow
  rw [List.map_append, List.map_cons, List.map_nil, pairs_snoc, List.length_append]
  exact h
theorem CRow.snoc {w : World} {b : Nat} {v : Value} {l : List (Int × Int)} {k x : Int} (h : w.ownsRow b 96 2 v (l.length + 1) (pairs (l.map cPair) ++ [.int .i64 k, .int .i64 x])) : CRow w b v (l ++ [(k, x)]) := by
  unfold CRow
  rw [List.map_append, List.map_cons, List.map_nil, pairs_snoc, List.length_append]
  exact h
theorem PRow.base {w : World} {b b' : Nat} {v : Value} {ps : List (List UInt8 × List UInt8)} (h : PRow w b v ps) (hb : b' ≤ b) : PRow w b' v ps := ownsRow_base h hb
theorem CRow.base {w : World} {b b' : Nat} {v : Value} {l : List (Int × Int)} (h : CRow w b v l) (hb : b' ≤ b) : CRow w b' v l := ownsRow_base h hb

theorem Tryd.infoProc : (Tryd.prog.info? 99).map (fun i => (i.zero, i.size, i.bytes)) = some (some (.agg #[.string ⟨#[]⟩, .string ⟨#[]⟩]), 2, 32) := by kernel_rfl
theorem Tryd.infoCell : (Tryd.prog.info? 96).map (fun i => (i.zero, i.size, i.bytes)) = some (some (.agg #[.int .i64 0, .int .i64 0]), 2, 16) := by kernel_rfl

/-- The contents at block B: two cells a place, then the list of procedures. -/
structure ConAt (L : Nat) (w : World) (B : Nat) (C : Jn.Con) : Prop where
  low : L ≤ B
  ok : Jn.Ok C
  mem : ∃ cur v, w.heap[B]? = some (.cells cur 84 (0, 0)) ∧ cur.size = 201 ∧
    (∀ k o, C.cells[k]? = some o → cur[k * 2]? = some (.bool o.isSome) ∧ cur[k * 2 + 1]? = some (.int .i64 (o.getD 0))) ∧ cur[200]? = some v ∧ PRow w 0 v C.procs

theorem ConAt.lt {L : Nat} {w : World} {B : Nat} {C : Jn.Con} (h : ConAt L w B C) : B < w.heap.size := by
  obtain ⟨cur, v, hh, _⟩ := h.mem
  exact (Array.getElem?_eq_some_iff.1 hh).1
theorem ConAt.fr {L : Nat} {T : List TypeId} {X : Option Nat} {w w' : World} {B : Nat} {C : Jn.Con} (h : ConAt L w B C) (f : Fr L T X w w') (h1 : 84 ∉ T) (h2 : 99 ∉ T) (hX : ∀ k, X = some k → ∀ cur t z, w.heap[k]? = some (.cells cur t z) → t ≠ 84 ∧ t ≠ 99) : ConAt L w' B C := by
  obtain ⟨cur, v, hh, hs, hc, hv, hp⟩ := h.mem
  refine ⟨h.low, h.ok, cur, v, f.block B cur _ _ hh h1 (fun e => (hX B e _ _ _ hh).1 rfl), hs, hc, hv, ?_⟩
  refine ⟨hp.1, ?_⟩
  rcases hp.2 with hn | ⟨g, cap, cur, rfl, hb, hh, rest⟩
  · exact .inl hn
  · exact .inr ⟨g, cap, cur, rfl, hb, f.block g cur _ (0, 0) hh h2 (fun e => (hX g e _ _ _ hh).2 rfl), rest⟩
theorem ConAt.below {L : Nat} {w w' : World} {B : Nat} {C : Jn.Con} (h : ConAt L w B C) (f : Below w.heap.size w w') : ConAt L w' B C :=
  h.fr (Fr.of (T := []) (X := none) f (Nat.le_trans h.low (Nat.le_of_lt h.lt))) (by simp) (by simp) (by simp)
end Go.Proofs.YtellilpeakpbfaaDoor
