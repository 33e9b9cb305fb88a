/-
  What the law's Hold keeps: lists full of marks; the World's block.
-/
import Derived.Test.YthehkgglblohfaaGreatDoorMarks
import Derived.Test.YthehkgglblohfaaGreatDoorOpen
namespace Go.Proofs.YthehkgglblohfaaGreatDoor
open Go.RowKit

theorem rep_of {m xs : List Value} {n : Nat} (hl : xs.length = n * m.length) (h : ∀ j, j < n * m.length → xs[j]? = m[j % m.length]?) : xs = rep m n := by
  apply List.ext_getElem?
  intro j
  by_cases hj : j < n * m.length
  · rw [h j hj, rep_at m n j hj]
  · rw [List.getElem?_eq_none (by omega), List.getElem?_eq_none (by rw [rep_len]; omega)]
theorem set2_at {a b : Value} {xs : List Value} {k : Nat} (hl : k * 2 + 2 ≤ xs.length) (h : ∀ j, j < k * 2 → xs[j]? = [a, b][j % 2]?) : ∀ j, j < (k + 1) * 2 → ((xs.set (k * 2) a).set (k * 2 + 1) b)[j]? = [a, b][j % 2]? := by
  intro j hj
  rw [List.getElem?_set, List.getElem?_set]
  by_cases h1 : k * 2 + 1 = j
  · rw [if_pos h1, if_pos (by simp; omega)]
    rw [show j % 2 = 1 by omega]; rfl
  · rw [if_neg h1]
    by_cases h2 : k * 2 = j
    · rw [if_pos h2, if_pos (by omega), show j % 2 = 0 by omega]; rfl
    · rw [if_neg h2]; exact h j (by omega)
theorem set3_at {a b c : Value} {xs : List Value} {k : Nat} (hl : k * 3 + 3 ≤ xs.length) (h : ∀ j, j < k * 3 → xs[j]? = [a, b, c][j % 3]?) : ∀ j, j < (k + 1) * 3 → (((xs.set (k * 3) a).set (k * 3 + 1) b).set (k * 3 + 2) c)[j]? = [a, b, c][j % 3]? := by
  intro j hj
  rw [List.getElem?_set, List.getElem?_set, List.getElem?_set]
  by_cases h0 : k * 3 + 2 = j
  · rw [if_pos h0, if_pos (by simp; omega)]
    rw [show j % 3 = 2 by omega]; rfl
  · rw [if_neg h0]
    by_cases h1 : k * 3 + 1 = j
    · rw [if_pos h1, if_pos (by simp; omega)]
      rw [show j % 3 = 1 by omega]; rfl
    · rw [if_neg h1]
      by_cases h2 : k * 3 = j
      · rw [if_pos h2, if_pos (by omega), show j % 3 = 0 by omega]; rfl
      · rw [if_neg h2]; exact h j (by omega)
theorem own_set {w : World} {b : Nat} {e : TypeId} {size : Nat} {g n cap : Nat} {xs : List Value} (h : w.ownsRow b e size (.slice (some ⟨g, 0, none⟩) n cap) n xs) (j : Nat) (u : Value) : (w.setCell ⟨g, j, none⟩ u).ownsRow b e size (.slice (some ⟨g, 0, none⟩) n cap) n (xs.set j u) := by
  refine ⟨by rw [List.length_set]; exact h.1, .inr ?_⟩
  rcases h.2 with ⟨hv, _⟩ | ⟨g', cap', cur, hv, hb, hh, h1, h2, h3, h4⟩
  · cases hv
  · cases hv
    refine ⟨g, cap, _, rfl, hb, heap_setCell_same w g j cur _ u hh, h1, h2, by simp [h3], ?_⟩
    rw [Array.toList_setIfInBounds, List.take_set, h4]
theorem fr_setCell {L : Nat} {T : List TypeId} (w : World) (g j : Nat) (u : Value) (hL : L ≤ g) : Fr L T (some g) w (w.setCell ⟨g, j, none⟩ u) := by
  refine ⟨(Below.refl L w).setCell (p := ⟨g, j, none⟩) hL _, ?_⟩
  intro k cur t z hk _ hX
  rw [heap_setCell_other _ _ _ _ (fun e => hX (by simp at e; rw [e]))]
  exact hk
theorem own_cell {w : World} {b : Nat} {e : TypeId} {size : Nat} {g n cap : Nat} {xs : List Value} (h : w.ownsRow b e size (.slice (some ⟨g, 0, none⟩) n cap) n xs) (j : Nat) (hj : j < n * size) : ∃ u, w.cell? ⟨g, j, none⟩ = some u ∧ w.frozen? ⟨g, j, none⟩ = false := by
  rcases h.2 with ⟨hv, _⟩ | ⟨g', cap', cur, hv, hb, hh, h1, h2, h3, h4⟩
  · cases hv
  · cases hv
    have : j < cur.size := by rw [h3]; exact Nat.lt_of_lt_of_le hj (Nat.mul_le_mul_right _ h1)
    exact ⟨cur[j], (cell_of_row w g j cur e (0, 0) hh).trans (Array.getElem?_eq_getElem this), frozen_of_row w g j cur e hh⟩
theorem own_slice {w : World} {b : Nat} {e : TypeId} {size : Nat} {v : Value} {n : Nat} {xs : List Value} (h : w.ownsRow b e size v n xs) : ∃ ao cap, v = .slice ao n cap ∧ n ≤ maxLen ∧ (0 < n → ∃ g, ao = some ⟨g, 0, none⟩ ∧ b ≤ g) := by
  rcases h.2 with ⟨rfl, hn⟩ | ⟨g, cap, cur, rfl, hb, hh, h1, h2, h3, h4⟩
  · exact ⟨none, 0, by rw [hn], by omega, fun h => by omega⟩
  · exact ⟨_, _, rfl, Nat.le_trans h1 h2, fun _ => ⟨g, rfl, hb⟩⟩
/-- behind an append that may have turned the row X. -/
theorem fr_grown {L : Nat} {T : List TypeId} {w w' : World} {row : Option Nat} (h : w.grownBy w' row) (hL : L ≤ w.heap.size) (hr : ∀ k, row = some k → L ≤ k) : Fr L T row w w' := by
  refine ⟨⟨h.os, h.tape, h.output, h.size, fun k hk => h.block k (by omega) (fun e => by have := hr k e.symm; omega)⟩, ?_⟩
  intro k cur t z hk _ hX
  rw [h.block k (Array.getElem?_eq_some_iff.1 hk).1 (fun e => hX e.symm)]
  exact hk
theorem Fr.any {L : Nat} {T : List TypeId} {X : Option Nat} {w w' : World} (h : Fr L T none w w') : Fr L T X w w' := ⟨h.below, fun k cur t z hk ht _ => h.block k cur t z hk ht (by simp)⟩
/-- the row that was turned is of a type that is named. -/
theorem Fr.typed {L : Nat} {T : List TypeId} {X : Option Nat} {w w' : World} (h : Fr L T X w w') (hX : ∀ k, X = some k → ∃ cur t z, w.heap[k]? = some (.cells cur t z) ∧ t ∈ T) (Y : Option Nat) : Fr L T Y w w' := by
  refine ⟨h.below, fun k cur t z hk ht _ => h.block k cur t z hk ht (fun e => ?_)⟩
  obtain ⟨cur', t', z', h1, h2⟩ := hX k e
  rw [hk] at h1
  cases h1
  exact ht h2

/-- The lists that are kept, of one kind: the i-th is full of the mark i / 3 + 1; they lie below block N. -/
structure HoldRow (L N : Nat) (w : World) (e sl : TypeId) (mk : Nat → List Value) (vs : Value) (ls : List Value) : Prop where
  row : w.ownsRow L sl 1 vs ls.length ls
  three : ls.length % 3 = 0
  full : ∀ i u, ls[i]? = some u → ∃ n, Full w 0 e (mk (i / 3 + 1)) u n ∧ (∀ k, u.ownBlock = some k → k < N)
theorem HoldRow.mono {L N N' : Nat} {w : World} {e sl : TypeId} {mk : Nat → List Value} {vs : Value} {ls : List Value} (h : HoldRow L N w e sl mk vs ls) (hN : N ≤ N') : HoldRow L N' w e sl mk vs ls :=
  ⟨h.row, h.three, fun i u hu => by obtain ⟨n, h1, h2⟩ := h.full i u hu; exact ⟨n, h1, fun k hk => Nat.lt_of_lt_of_le (h2 k hk) hN⟩⟩
theorem HoldRow.fr {L N : Nat} {T : List TypeId} {X : Option Nat} {w w' : World} {e sl : TypeId} {mk : Nat → List Value} {vs : Value} {ls : List Value} (h : HoldRow L N w e sl mk vs ls) (f : Fr L T X w w') (hs : sl ∉ T) (he : e ∉ T) (hX : ∀ k, X = some k → N ≤ k) (hXs : X = none ∨ X ≠ vs.ownBlock) : HoldRow L N w' e sl mk vs ls := by
  refine ⟨own_fr h.row f hs hXs, h.three, fun i u hu => ?_⟩
  obtain ⟨n, h1, h2⟩ := h.full i u hu
  refine ⟨n, own_fr h1 f he ?_, h2⟩
  cases hx : X with
  | none => exact .inl rfl
  | some k =>
    right
    intro e
    have := h2 k e.symm
    have := hX k hx
    omega

theorem cells_new (w : World) (xs : Array Value) (t : TypeId) : ∀ j u, xs.toList[j]? = some u → (w.alloc (.cells xs t)).cell? ((⟨w.heap.size, 0, none⟩ : Addr).add j) = some u := by
  intro j u h
  have e : (⟨w.heap.size, 0, none⟩ : Addr).add j = ⟨w.heap.size, j, none⟩ := by unfold Addr.add; split <;> simp_all
  rw [e, cell_of_row _ w.heap.size j xs t (0, 0) (heap_alloc_new w _)]
  simpa using h
theorem cells_newN {w : World} {N : Nat} (hN : N = w.heap.size) (xs : Array Value) (t : TypeId) : ∀ j u, xs.toList[j]? = some u → (w.alloc (.cells xs t)).cell? ((⟨N, 0, none⟩ : Addr).add j) = some u := by
  subst hN; exact cells_new w xs t
theorem bd3 {n : Nat} (h : (n + 3) * 24 ≤ 140737488355328) : (n + 1) * 24 ≤ 140737488355328 ∧ (n + 1 + 1) * 24 ≤ 140737488355328 ∧ (n + 2 + 1) * 24 ≤ 140737488355328 ∧ n + 1 ≤ maxLen ∧ n + 1 + 1 ≤ maxLen ∧ n + 2 + 1 ≤ maxLen := by unfold maxLen; omega
theorem up1 {L a b : Nat} (h : L ≤ a) (g : a ≤ b) : L ≤ b + 1 := by omega
/-- rows of two types lie in two blocks. -/
theorem own_ne {w : World} {b b' : Nat} {e e' : TypeId} {s s' : Nat} {v v' : Value} {n n' : Nat} {xs xs' : List Value} (h : w.ownsRow b e s v n xs) (h' : w.ownsRow b' e' s' v' n' xs') (he : e ≠ e') : v.ownBlock = none ∨ v.ownBlock ≠ v'.ownBlock := by
  rcases h.2 with ⟨rfl, _⟩ | ⟨g, cap, cur, rfl, hb, hh, _⟩
  · exact .inl rfl
  · right
    intro eq
    rcases h'.2 with ⟨rfl, _⟩ | ⟨g', cap', cur', rfl, hb', hh', _⟩
    · simp [Value.ownBlock] at eq
    · simp [Value.ownBlock] at eq
      subst eq
      rw [hh] at hh'
      simp at hh'
      exact he hh'.2
/-- a row lies in no block of another type. -/
theorem own_neB {w : World} {b : Nat} {e t : TypeId} {s : Nat} {v : Value} {n : Nat} {xs : List Value} {cur : Array Value} {z : Nat × Nat} {W : Nat} (h : w.ownsRow b e s v n xs) (h' : w.heap[W]? = some (.cells cur t z)) (he : e ≠ t) : v.ownBlock ≠ some W := by
  intro eq
  rcases h.2 with ⟨rfl, _⟩ | ⟨g, cap, cur, rfl, hb, hh, _⟩
  · simp [Value.ownBlock] at eq
  · simp [Value.ownBlock] at eq
    subst eq
    rw [hh] at h'
    simp at h'
    exact he h'.2.1
def mkC (i : Nat) : List Value := [.int .i64 i, .int .i64 0]
def mkA (i : Nat) : List Value := [.int .i64 i, .int .i64 0, T []]

/-- The World at block W. -/
def WAt (w : World) (W : Nat) (vx vd vp vc vq va : Value) : Prop := w.heap[W]? = some (.cells #[vx, vd, vp, vc, vq, va] 41 (0, 0))
theorem WAt.cell {w : World} {W : Nat} {vx vd vp vc vq va : Value} (h : WAt w W vx vd vp vc vq va) :
    w.cell? ⟨W, 0, none⟩ = some vx ∧ w.cell? ⟨W, 1, none⟩ = some vd ∧ w.cell? ⟨W, 2, none⟩ = some vp ∧ w.cell? ⟨W, 3, none⟩ = some vc ∧ w.cell? ⟨W, 4, none⟩ = some vq ∧ w.cell? ⟨W, 5, none⟩ = some va :=
  ⟨(cell_of_row w W 0 _ _ _ h).trans rfl, (cell_of_row w W 1 _ _ _ h).trans rfl, (cell_of_row w W 2 _ _ _ h).trans rfl, (cell_of_row w W 3 _ _ _ h).trans rfl, (cell_of_row w W 4 _ _ _ h).trans rfl, (cell_of_row w W 5 _ _ _ h).trans rfl⟩
theorem WAt.fz {w : World} {W : Nat} {vx vd vp vc vq va : Value} (h : WAt w W vx vd vp vc vq va) (j : Nat) : w.frozen? ⟨W, j, none⟩ = false := frozen_of_row w W j _ _ h
theorem WAt.fr {L : Nat} {T : List TypeId} {X : Option Nat} {w w' : World} {W : Nat} {vx vd vp vc vq va : Value} (h : WAt w W vx vd vp vc vq va) (f : Fr L T X w w') (ht : 41 ∉ T) (hX : X ≠ some W) : WAt w' W vx vd vp vc vq va := f.block W _ _ _ h ht hX
theorem WAt.lt {w : World} {W : Nat} {vx vd vp vc vq va : Value} (h : WAt w W vx vd vp vc vq va) : W < w.heap.size := (Array.getElem?_eq_some_iff.1 h).1
theorem wat_set {w : World} {W : Nat} {vx vd vp vc vq va : Value} (h : WAt w W vx vd vp vc vq va) (j : Nat) (u : Value) : (w.setCell ⟨W, j, none⟩ u).heap[W]? = some (.cells (#[vx, vd, vp, vc, vq, va].setIfInBounds j u) 41 (0, 0)) := heap_setCell_same w W j _ _ u h
end Go.Proofs.YthehkgglblohfaaGreatDoor
