import Derived.Test.YtellilpeakpbfabGreatDoorMarksToo
import Derived.Test.YtellilpeakpbfabGreatDoorOpenToo
import Derived.Test.YtellilpeakpbfabGreatDoorRefCkToo
import Derived.Test.YtellilpeakpbfabGreatDoorShPureToo
import Derived.Laws.IdiomStrings
section
/-
  What the law's Hold keeps: lists full of marks; the World's block.
-/
namespace Go.Proofs.YtellilpeakpbfabGreatDoor
open Go.RowKit

theorem rep_of {m xs : List Value} {n : Nat} (hl : xs.length = n * m.length) (h : ∀ j, j < n * m.length → xs[j]? = m[j % m.length]?) : xs = rep m n := by
  apply List.ext_getElem?
  intro j
  by_cases hj : j < n * m.length
  · rw [h j hj, rep_at m n j hj]
  · rw [List.getElem?_eq_none (by omega), List.getElem?_eq_none (by rw [rep_len]; omega)]
theorem set2_at {a b : Value} {xs : List Value} {k : Nat} (hl : k * 2 + 2 ≤ xs.length) (h : ∀ j, j < k * 2 → xs[j]? = [a, b][j % 2]?) : ∀ j, j < (k + 1) * 2 → ((xs.set (k * 2) a).set (k * 2 + 1) b)[j]? = [a, b][j % 2]? := by
  intro j hj
  rw [List.getElem?_set, List.getElem?_set]
  by_cases h1 : k * 2 + 1 = j
  · rw [if_pos h1, if_pos (by simp; omega)]
    rw [show j % 2 = 1 by omega]; rfl
  · rw [if_neg h1]
    by_cases h2 : k * 2 = j
    · rw [if_pos h2, if_pos (by omega), show j % 2 = 0 by omega]; rfl
    · rw [if_neg h2]; exact h j (by omega)
theorem set3_at {a b c : Value} {xs : List Value} {k : Nat} (hl : k * 3 + 3 ≤ xs.length) (h : ∀ j, j < k * 3 → xs[j]? = [a, b, c][j % 3]?) : ∀ j, j < (k + 1) * 3 → (((xs.set (k * 3) a).set (k * 3 + 1) b).set (k * 3 + 2) c)[j]? = [a, b, c][j % 3]? := by
  intro j hj
  rw [List.getElem?_set, List.getElem?_set, List.getElem?_set]
  by_cases h0 : k * 3 + 2 = j
  · rw [if_pos h0, if_pos (by simp; omega)]
    rw [show j % 3 = 2 by omega]; rfl
  · rw [if_neg h0]
    by_cases h1 : k * 3 + 1 = j
    · rw [if_pos h1, if_pos (by simp; omega)]
      rw [show j % 3 = 1 by omega]; rfl
    · rw [if_neg h1]
      by_cases h2 : k * 3 = j
      · rw [if_pos h2, if_pos (by omega), show j % 3 = 0 by omega]; rfl
      · rw [if_neg h2]; exact h j (by omega)
theorem own_set {w : World} {b : Nat} {e : TypeId} {size : Nat} {g n cap : Nat} {xs : List Value} (h : w.ownsRow b e size (.slice (some ⟨g, 0, none⟩) n cap) n xs) (j : Nat) (u : Value) : (w.setCell ⟨g, j, none⟩ u).ownsRow b e size (.slice (some ⟨g, 0, none⟩) n cap) n (xs.set j u) := by
  refine ⟨by rw [List.length_set]; exact h.1, .inr ?_⟩
  rcases h.2 with ⟨hv, _⟩ | ⟨g', cap', cur, hv, hb, hh, h1, h2, h3, h4⟩
  · cases hv
  · cases hv
    refine ⟨g, cap, _, rfl, hb, heap_setCell_same w g j cur _ u hh, h1, h2, by simp [h3], ?_⟩
    rw [Array.toList_setIfInBounds, List.take_set, h4]
theorem fr_setCell {L : Nat} {T : List TypeId} (w : World) (g j : Nat) (u : Value) (hL : L ≤ g) : Fr L T (some g) w (w.setCell ⟨g, j, none⟩ u) := by
  refine ⟨(Below.refl L w).setCell (p := ⟨g, j, none⟩) hL _, ?_⟩
  intro k cur t z hk _ hX
  rw [heap_setCell_other _ _ _ _ (fun e => hX (by simp at e; rw [e]))]
  exact hk
theorem own_cell {w : World} {b : Nat} {e : TypeId} {size : Nat} {g n cap : Nat} {xs : List Value} (h : w.ownsRow b e size (.slice (some ⟨g, 0, none⟩) n cap) n xs) (j : Nat) (hj : j < n * size) : ∃ u, w.cell? ⟨g, j, none⟩ = some u ∧ w.frozen? ⟨g, j, none⟩ = false := by
  rcases h.2 with ⟨hv, _⟩ | ⟨g', cap', cur, hv, hb, hh, h1, h2, h3, h4⟩
  · cases hv
  · cases hv
    have : j < cur.size := by rw [h3]; exact Nat.lt_of_lt_of_le hj (Nat.mul_le_mul_right _ h1)
    exact ⟨cur[j], (cell_of_row w g j cur e (0, 0) hh).trans (Array.getElem?_eq_getElem this), frozen_of_row w g j cur e hh⟩
theorem own_slice {w : World} {b : Nat} {e : TypeId} {size : Nat} {v : Value} {n : Nat} {xs : List Value} (h : w.ownsRow b e size v n xs) : ∃ ao cap, v = .slice ao n cap ∧ n ≤ maxLen ∧ (0 < n → ∃ g, ao = some ⟨g, 0, none⟩ ∧ b ≤ g) := by
  rcases h.2 with ⟨rfl, hn⟩ | ⟨g, cap, cur, rfl, hb, hh, h1, h2, h3, h4⟩
  · exact ⟨none, 0, by rw [hn], by omega, fun h => by omega⟩
  · exact ⟨_, _, rfl, Nat.le_trans h1 h2, fun _ => ⟨g, rfl, hb⟩⟩
/-- behind an append that may have turned the row X. -/
theorem fr_grown {L : Nat} {T : List TypeId} {w w' : World} {row : Option Nat} (h : w.grownBy w' row) (hL : L ≤ w.heap.size) (hr : ∀ k, row = some k → L ≤ k) : Fr L T row w w' := by
  refine ⟨⟨h.os, h.tape, h.output, h.size, fun k hk => h.block k (by omega) (fun e => by have := hr k e.symm; omega)⟩, ?_⟩
  intro k cur t z hk _ hX
  rw [h.block k (Array.getElem?_eq_some_iff.1 hk).1 (fun e => hX e.symm)]
  exact hk
theorem Fr.any {L : Nat} {T : List TypeId} {X : Option Nat} {w w' : World} (h : Fr L T none w w') : Fr L T X w w' := ⟨h.below, fun k cur t z hk ht _ => h.block k cur t z hk ht (by simp)⟩
/-- the row that was turned is of a type that is named. -/
theorem Fr.typed {L : Nat} {T : List TypeId} {X : Option Nat} {w w' : World} (h : Fr L T X w w') (hX : ∀ k, X = some k → ∃ cur t z, w.heap[k]? = some (.cells cur t z) ∧ t ∈ T) (Y : Option Nat) : Fr L T Y w w' := by
  refine ⟨h.below, fun k cur t z hk ht _ => h.block k cur t z hk ht (fun e => ?_)⟩
  obtain ⟨cur', t', z', h1, h2⟩ := hX k e
  rw [hk] at h1
  cases h1
  exact ht h2

/-- The lists that are kept, of one kind: the i-th is full of the mark i / 3 + 1; they lie below block N. -/
structure HoldRow (L N : Nat) (w : World) (e sl : TypeId) (mk : Nat → List Value) (vs : Value) (ls : List Value) : Prop where
  row : w.ownsRow L sl 1 vs ls.length ls
  three : ls.length % 3 = 0
  full : ∀ i u, ls[i]? = some u → ∃ n, Full w 0 e (mk (i / 3 + 1)) u n ∧ (∀ k, u.ownBlock = some k → k < N)
theorem HoldRow.mono {L N N' : Nat} {w : World} {e sl : TypeId} {mk : Nat → List Value} {vs : Value} {ls : List Value} (h : HoldRow L N w e sl mk vs ls) (hN : N ≤ N') : HoldRow L N' w e sl mk vs ls :=
  ⟨h.row, h.three, fun i u hu => by obtain ⟨n, h1, h2⟩ := h.full i u hu; exact ⟨n, h1, fun k hk => Nat.lt_of_lt_of_le (h2 k hk) hN⟩⟩
theorem HoldRow.fr {L N : Nat} {T : List TypeId} {X : Option Nat} {w w' : World} {e sl : TypeId} {mk : Nat → List Value} {vs : Value} {ls : List Value} (h : HoldRow L N w e sl mk vs ls) (f : Fr L T X w w') (hs : sl ∉ T) (he : e ∉ T) (hX : ∀ k, X = some k → N ≤ k) (hXs : X = none ∨ X ≠ vs.ownBlock) : HoldRow L N w' e sl mk vs ls := by
  refine ⟨own_fr h.row f hs hXs, h.three, fun i u hu => ?_⟩
  obtain ⟨n, h1, h2⟩ := h.full i u hu
  refine ⟨n, own_fr h1 f he ?_, h2⟩
  cases hx : X with
  | none => exact .inl rfl
  | some k =>
    right
    intro e
    have := h2 k e.symm
    have := hX k hx
    omega

theorem cells_new (w : World) (xs : Array Value) (t : TypeId) : ∀ j u, xs.toList[j]? = some u → (w.alloc (.cells xs t)).cell? ((⟨w.heap.size, 0, none⟩ : Addr).add j) = some u := by
  intro j u h
  have e : (⟨w.heap.size, 0, none⟩ : Addr).add j = ⟨w.heap.size, j, none⟩ := by unfold Addr.add; split <;> simp_all
  rw [e, cell_of_row _ w.heap.size j xs t (0, 0) (heap_alloc_new w _)]
  simpa using h
theorem cells_newN {w : World} {N : Nat} (hN : N = w.heap.size) (xs : Array Value) (t : TypeId) : ∀ j u, xs.toList[j]? = some u → (w.alloc (.cells xs t)).cell? ((⟨N, 0, none⟩ : Addr).add j) = some u := by
  subst hN; exact cells_new w xs t
theorem bd3 {n : Nat} (h : (n + 3) * 24 ≤ 140737488355328) : (n + 1) * 24 ≤ 140737488355328 ∧ (n + 1 + 1) * 24 ≤ 140737488355328 ∧ (n + 2 + 1) * 24 ≤ 140737488355328 ∧ n + 1 ≤ maxLen ∧ n + 1 + 1 ≤ maxLen ∧ n + 2 + 1 ≤ maxLen := by unfold maxLen; omega
theorem up1 {L a b : Nat} (h : L ≤ a) (g : a ≤ b) : L ≤ b + 1 := by omega
/-- rows of two types lie in two blocks. -/
theorem own_ne {w : World} {b b' : Nat} {e e' : TypeId} {s s' : Nat} {v v' : Value} {n n' : Nat} {xs xs' : List Value} (h : w.ownsRow b e s v n xs) (h' : w.ownsRow b' e' s' v' n' xs') (he : e ≠ e') : v.ownBlock = none ∨ v.ownBlock ≠ v'.ownBlock := by
  rcases h.2 with ⟨rfl, _⟩ | ⟨g, cap, cur, rfl, hb, hh, _⟩
  · exact .inl rfl
  · right
    intro eq
    rcases h'.2 with ⟨rfl, _⟩ | ⟨g', cap', cur', rfl, hb', hh', _⟩
    · simp [Value.ownBlock] at eq
    · simp [Value.ownBlock] at eq
      subst eq
      rw [hh] at hh'
      simp at hh'
      exact he hh'.2
/-- a row lies in no block of another type. -/
theorem own_neB {w : World} {b : Nat} {e t : TypeId} {s : Nat} {v : Value} {n : Nat} {xs : List Value} {cur : Array Value} {z : Nat × Nat} {W : Nat} (h : w.ownsRow b e s v n xs) (h' : w.heap[W]? = some (.cells cur t z)) (he : e ≠ t) : v.ownBlock ≠ some W := by
  intro eq
  rcases h.2 with ⟨rfl, _⟩ | ⟨g, cap, cur, rfl, hb, hh, _⟩
  · simp [Value.ownBlock] at eq
  · simp [Value.ownBlock] at eq
    subst eq
    rw [hh] at h'
    simp at h'
    exact he h'.2.1
def mkC (i : Nat) : List Value := [.int .i64 i, .int .i64 0]
def mkA (i : Nat) : List Value := [.int .i64 i, .int .i64 0, T []]

/-- The World at block W. -/
def WAt (w : World) (W : Nat) (vx vd vp vc vq va : Value) : Prop := w.heap[W]? = some (.cells #[vx, vd, vp, vc, vq, va] 115 (0, 0))
theorem WAt.cell {w : World} {W : Nat} {vx vd vp vc vq va : Value} (h : WAt w W vx vd vp vc vq va) :
    w.cell? ⟨W, 0, none⟩ = some vx ∧ w.cell? ⟨W, 1, none⟩ = some vd ∧ w.cell? ⟨W, 2, none⟩ = some vp ∧ w.cell? ⟨W, 3, none⟩ = some vc ∧ w.cell? ⟨W, 4, none⟩ = some vq ∧ w.cell? ⟨W, 5, none⟩ = some va :=
  ⟨(cell_of_row w W 0 _ _ _ h).trans rfl, (cell_of_row w W 1 _ _ _ h).trans rfl, (cell_of_row w W 2 _ _ _ h).trans rfl, (cell_of_row w W 3 _ _ _ h).trans rfl, (cell_of_row w W 4 _ _ _ h).trans rfl, (cell_of_row w W 5 _ _ _ h).trans rfl⟩
theorem WAt.fz {w : World} {W : Nat} {vx vd vp vc vq va : Value} (h : WAt w W vx vd vp vc vq va) (j : Nat) : w.frozen? ⟨W, j, none⟩ = false := frozen_of_row w W j _ _ h
theorem WAt.fr {L : Nat} {T : List TypeId} {X : Option Nat} {w w' : World} {W : Nat} {vx vd vp vc vq va : Value} (h : WAt w W vx vd vp vc vq va) (f : Fr L T X w w') (ht : 115 ∉ T) (hX : X ≠ some W) : WAt w' W vx vd vp vc vq va := f.block W _ _ _ h ht hX
theorem WAt.lt {w : World} {W : Nat} {vx vd vp vc vq va : Value} (h : WAt w W vx vd vp vc vq va) : W < w.heap.size := (Array.getElem?_eq_some_iff.1 h).1
theorem wat_set {w : World} {W : Nat} {vx vd vp vc vq va : Value} (h : WAt w W vx vd vp vc vq va) (j : Nat) (u : Value) : (w.setCell ⟨W, j, none⟩ u).heap[W]? = some (.cells (#[vx, vd, vp, vc, vq, va].setIfInBounds j u) 115 (0, 0)) := heap_setCell_same w W j _ _ u h
end Go.Proofs.YtellilpeakpbfabGreatDoor

end

section
/-
  The walk of Hold.keepCells.
-/
namespace Go.Proofs.YtellilpeakpbfabGreatDoor
open Go.RowKit

theorem Tryz.infoSC : (Tryz.prog.info? 52).map (fun i => (i.zero, i.size, i.bytes)) = some (some (.slice none 0 0), 1, 24) := by kernel_rfl

/-- one list more is kept: the World's field is laid anew. -/
theorem Kc_push (L W : Nat) (w w9 : World) (vx vd vp vc vq va : Value) (hW : WAt w W vx vd vp vc vq va) (hLW : L ≤ W) (o : Obj) (n : Nat) (ls ls' : List Value) (v' : Value)
    (hrow : w.ownsRow L 52 1 vc n ls) (hL : L ≤ w.heap.size) (hown : w9.ownsRow L 52 1 v' (n + 1) ls') (hg : (w.alloc o).grownBy w9 vc.ownBlock) :
    WAt w9 W vx vd vp vc vq va ∧ WAt (w9.setCell ⟨W, 3, none⟩ v') W vx vd vp v' vq va ∧ (w9.setCell ⟨W, 3, none⟩ v').ownsRow L 52 1 v' (n + 1) ls' ∧ Fr L [115, 52] none w (w9.setCell ⟨W, 3, none⟩ v') := by
  have hneW : some W ≠ vc.ownBlock := by
    intro e
    rcases hrow.2 with ⟨rfl, _⟩ | ⟨g, cap, cur, rfl, hb, hh, _⟩
    · simp [Value.ownBlock] at e
    · simp [Value.ownBlock] at e
      subst e
      rw [show w.heap[W]? = _ from hW] at hh
      simp at hh
  have f1 : Fr L [115, 52] none w (w.alloc o) := Fr.of ((Below.refl _ _).alloc (Nat.le_refl _) _) hL
  have f2 : Fr L [115, 52] none (w.alloc o) w9 := by
    refine (fr_grown hg (by simp; omega) (fun k hk => (hrow.lt k hk).1)).typed (fun k hk => ?_) none
    rcases hrow.2 with ⟨rfl, _⟩ | ⟨g, cap, cur, rfl, hb, hh, _⟩
    · simp [Value.ownBlock] at hk
    · simp [Value.ownBlock] at hk
      subst hk
      exact ⟨cur, _, _, (Below.heap_alloc _ _ _ (Array.getElem?_eq_some_iff.1 hh).1).trans hh, by simp⟩
  have hW9 : WAt w9 W vx vd vp vc vq va := by
    show w9.heap[W]? = _
    rw [hg.block W (by simp; exact Nat.lt_succ_of_lt hW.lt) hneW, Below.heap_alloc _ _ _ hW.lt]
    exact hW
  have f3 : Fr L [115, 52] none w9 (w9.setCell ⟨W, 3, none⟩ v') :=
    (fr_setCell w9 W 3 v' hLW).typed (fun k hk => by cases hk; exact ⟨_, _, _, hW9, by simp⟩) none
  refine ⟨hW9, wat_set hW9 3 v', ?_, (f1.trans f2).trans f3⟩
  refine own_fr hown (fr_setCell (T := []) w9 W 3 v' hLW) (by simp) (.inr ?_)
  intro e
  rcases hown.2 with ⟨rfl, h0⟩ | ⟨g, cap, cur, rfl, hb, hh, _⟩
  · omega
  · simp [Value.ownBlock] at e
    subst e
    rw [show w9.heap[W]? = _ from hW9] at hh
    simp at hh

def KcRel (L N : Nat) (m : List Value) (v : Value) (n : Nat) (w1 : World) (i : Value) (wr : World) : Prop :=
  ∃ (k : Nat) (xs : List Value), k ≤ n ∧ i = .int .i64 k ∧ wr.ownsRow N 99 2 v n xs ∧ (∀ j, j < k * 2 → xs[j]? = m[j % 2]?) ∧ Fr L [] v.ownBlock w1 wr

set_option maxHeartbeats 4000000 in
set_option maxRecDepth 100000 in
theorem keepCells_any (L N W : Nat) (w : World) (vx vd vp vc vq va : Value) (ls : List Value) (v : Value) (n : Nat) (xs : List Value)
    (hW : WAt w W vx vd vp vc vq va) (hLW : L ≤ W) (hh : HoldRow L N w 99 52 mkC vc ls) (hrow : w.ownsRow N 99 2 v n xs) (hn : n ≤ 1000) (hLN : L ≤ N) (hN : N ≤ w.heap.size)
    (hb : (ls.length + 3) * 24 ≤ 140737488355328) :
    Calls Tryz.prog 101 #[.pointer (some ⟨W, 3, none⟩), v] w fun e w' => ∃ v' ls', e = .returned (.tuple #[]) ∧ WAt w' W vx vd vp v' vq va ∧ HoldRow L w'.heap.size w' 99 52 mkC v' ls' ∧ ls'.length = ls.length + 3 ∧ Fr L [115, 52] v.ownBlock w w' := by
  obtain ⟨ao, cap, rfl, hnm, hg⟩ := own_slice hrow
  obtain ⟨sao, scap, hvs, -, -⟩ := own_slice hh.row
  have c3 := hW.cell
  have z3 := hW.fz 3
  have hlt := hW.lt
  have hsm : ls.length / 3 + 1 ≤ 9000000000000 := by omega
  obtain ⟨q, hq⟩ : ∃ q : Nat, q = ls.length / 3 + 1 := ⟨_, rfl⟩
  have hqz : ((ls.length : Int) / 3 + 1) = (q : Int) := by rw [hq]; omega
  obtain ⟨i0, hi, hz0, hz1, hz2⟩ := info_parts Tryz.infoCell
  obtain ⟨j0, hj, hy0, hy1, hy2⟩ := info_parts Tryz.infoSC
  subst hvs
  have c3 : w.cell? ⟨W, 3, none⟩ = some (.slice sao ls.length scap) := hW.cell.2.2.2.1
  have HW := hide hW
  have HH := hide hh
  have HR := hide hrow
  have HG := hide hg
  have HQ := hide hq

  clear hW hh hrow hg hq
  obtain ⟨B0, hB0⟩ : ∃ B0, B0 = w.heap.size := ⟨_, rfl⟩
  obtain ⟨w1, hw1⟩ : ∃ w1, w1 = w.alloc (.cells #[.int .i64 (q : Int), .int .i64 0] 99) := ⟨_, rfl⟩
  have HB1 : Hid (Below w.heap.size w w1) := by show Below _ _ _; rw [hw1]; exact (Below.refl _ _).alloc (Nat.le_refl _) _
  have hsz1 : w1.heap.size = B0 + 1 := by rw [hw1, hB0]; simp
  have hmb : w1.heap[B0]? = some (.cells #[.int .i64 (q : Int), .int .i64 0] 99 (0, 0)) := by rw [hw1, hB0]; exact heap_alloc_new w _
  go_enter Tryz.func101, Tryz.ntmps101
  go_wp2
  rw [← hw1, ← hB0]
  have HW1 := hide hw1
  have HMB := hide hmb
  have HB0 := hide hB0
  clear hw1 hmb hB0
  have m0 : w1.cell? ⟨B0, 0, none⟩ = some (.int .i64 (q : Int)) := (cell_of_row w1 B0 0 _ _ _ HMB.out).trans rfl
  have m1 : w1.cell? ⟨B0, 1, none⟩ = some (.int .i64 0) := (cell_of_row w1 B0 1 _ _ _ HMB.out).trans rfl
  have HBW : Hid (Below w.heap.size w w1) := HB1.out
  have hBw : w.heap.size ≤ B0 := Nat.le_of_eq HB0.out.symm
  go_loopw [5] (fun i wr => KcRel L N (mkC q) (.slice ao n cap) n w1 i wr) (fun i _ => n - (intOf i).toNat)
  case atStart => exact ⟨0, xs, Nat.zero_le _, rfl, ownsRow_below HR.out HBW.out, fun j hj => by omega, Fr.refl _ _ _ _⟩
  case round =>
    obtain ⟨k, ys, hk, rfl, hown, hmk, hfr⟩ := hrel
    have HO := hide hown
    have HM := hide hmk
    have HF := hide hfr
    clear hown hmk hfr
    by_cases hlk : k < n
    · obtain ⟨g, rfl, hgN⟩ := HG.out (by omega)
      obtain ⟨u0, d0, e0⟩ := own_cell HO.out (k * 2) (by omega)
      obtain ⟨u1, d1, e1⟩ := own_cell HO.out (k * 2 + 1) (by omega)
      have hgl : g < w.heap.size := (HR.out.lt g rfl).2
      have hmb := HF.out.block B0 _ _ _ HMB.out (by simp) (by simp [Value.ownBlock]; omega)
      have n0 : wr.cell? ⟨B0, 0, none⟩ = some (.int .i64 (q : Int)) := (cell_of_row wr B0 0 _ _ _ hmb).trans rfl
      have n1 : wr.cell? ⟨B0, 1, none⟩ = some (.int .i64 0) := (cell_of_row wr B0 1 _ _ _ hmb).trans rfl
      have hyl : ys.length = n * 2 := HO.out.1
      have HR2 : Hid (KcRel L N (mkC q) (.slice (some ⟨g, 0, none⟩) n cap) n w1 (.int .i64 ((k : Int) + 1)) ((((wr).setCell ⟨g, k * 2, none⟩ (.int .i64 (q : Int)))).setCell ⟨g, k * 2 + 1, none⟩ (.int .i64 0))) := by
        refine ⟨k + 1, _, by omega, by go_num, (own_set (own_set HO.out (k * 2) _) (k * 2 + 1) _), set2_at (by omega) HM.out, ?_⟩
        exact ((HF.out.trans (fr_setCell _ g (k * 2) _ (by omega))).trans (fr_setCell _ g (k * 2 + 1) _ (by omega)))
      clear hmb hyl
      go_wp2
      go_roundw
      case rel => exact HR2.out
      case measure => simp [intOf]; omega
    · have hke : k = n := by omega
      subst hke
      have hfull : Full wr N 99 (mkC q) (.slice ao k cap) k := by
        have := rep_of (m := mkC q) (n := k) HO.out.1 HM.out
        unfold Full
        rw [← this]
        exact HO.out
      have hXB : (Value.slice ao k cap).ownBlock ≠ some B0 := fun e => by
        have := (HR.out.lt B0 e).2; omega
      have hXN : ∀ j, (Value.slice ao k cap).ownBlock = some j → N ≤ j ∧ j < w.heap.size := fun j hj => HR.out.lt j hj
      have hmb := HF.out.block B0 _ _ _ HMB.out (by simp) hXB
      have n0 : wr.cell? ⟨B0, 0, none⟩ = some (.int .i64 (q : Int)) := (cell_of_row wr B0 0 _ _ _ hmb).trans rfl
      have n1 : wr.cell? ⟨B0, 1, none⟩ = some (.int .i64 0) := (cell_of_row wr B0 1 _ _ _ hmb).trans rfl
      have hzr := HF.out.size
      have HFU := hide hfull
      have HMB2 := hide hmb
      have HXB := hide hXB
      have HXN := hide hXN
      clear hfull hmb hXB hXN HO HM
      go_wp2_with (at_builtin; refine wpList_append_marks _ rfl (.tmp 26) (.tmp 28) 52 rfl N 99 i0 (.agg #[.int .i64 0, .int .i64 0]) 16 (mkC q) Tryz.underlying52 hi hz0 hz1 hz2 rfl _ k rfl (World.ownsRow.alloc HFU.out _) ⟨_, 0, none⟩ 1 1 (by omega) rfl ?c1 ?c2 ?c3 ?c4 ?c5 ?_)
      case c1 => exact fun j u h => cells_new _ #[.int .i64 (q : Int), .int .i64 0] _ j u h
      case c2 => intro u hu; simp [mkC] at hu; rcases hu with rfl | rfl <;> rfl
      case c3 => unfold maxLen; omega
      case c4 => omega
      case c5 => simp; omega
      intro f w7 hf7 hg7 hk7 hb7
      have F7 : Fr L [] (Value.slice ao k cap).ownBlock w1 w7 := (HF.out.trans (Fr.of ((Below.refl _ _).alloc (Nat.le_refl _) _) (by omega))).trans (fr_grown hg7 (by simp; omega) (fun j hj => Nat.le_trans hLN (HXN.out j hj).1))
      have hmb := F7.block B0 _ _ _ HMB.out (by simp) HXB.out
      have o0 : w7.cell? ⟨B0, 0, none⟩ = some (.int .i64 (q : Int)) := (cell_of_row w7 B0 0 _ _ _ hmb).trans rfl
      have o1 : w7.cell? ⟨B0, 1, none⟩ = some (.int .i64 0) := (cell_of_row w7 B0 1 _ _ _ hmb).trans rfl
      have L7 := hk7 N _ k (World.ownsRow.alloc HFU.out _)
      have hz7 := F7.size
      have hb7' : ∀ j, f.ownBlock = some j → (Value.slice ao k cap).ownBlock = some j ∨ w1.heap.size ≤ j := fun j hj => by
        rcases hb7 j hj with h | h
        · exact .inl h
        · first | (simp at h; exact .inr (by omega)) | exact .inr (by omega)
      have HF7 := hide F7
      have HL7 := hide L7
      have HFF7 := hide hf7
      have HB7 := hide hb7'
      clear F7 L7 hf7 hg7 hk7 hb7 hb7' HF HFU HMB2 n0 n1 hmb
      go_wp2_with (at_builtin; refine wpList_append_marks _ rfl (.tmp 30) (.tmp 34) 52 rfl N 99 i0 (.agg #[.int .i64 0, .int .i64 0]) 16 (mkC q) Tryz.underlying52 hi hz0 hz1 hz2 rfl _ k rfl (World.ownsRow.alloc HL7.out _) ⟨_, 0, none⟩ 3 3 (by omega) rfl ?c1 ?c2 ?c3 ?c4 ?c5 ?_)
      case c1 => exact fun j u h => cells_new _ #[.int .i64 (q : Int), .int .i64 0, .int .i64 (q : Int), .int .i64 0, .int .i64 (q : Int), .int .i64 0] _ j u h
      case c2 => intro u hu; simp [mkC] at hu; rcases hu with rfl | rfl <;> rfl
      case c3 => unfold maxLen; omega
      case c4 => omega
      case c5 => simp; omega
      intro gg w8 hf8 hg8 hk8 hb8
      have F8 : Fr L [] (Value.slice ao k cap).ownBlock w1 w8 := (HF7.out.trans (Fr.of ((Below.refl _ _).alloc (Nat.le_refl _) _) (by omega))).trans (fr_grown hg8 (by simp; omega) (fun j hj => Nat.le_trans hLN (HXN.out j hj).1))
      have hz8 := F8.size
      have l8 := hk8 N _ k (World.ownsRow.alloc HL7.out _)
      have f8 := hk8 N _ (k + 1) (World.ownsRow.alloc HFF7.out _)
      have FW8 : Fr L [] (Value.slice ao k cap).ownBlock w w8 := (Fr.of HBW.out (by omega)).trans F8
      have W8 := HW.out.fr FW8 (by simp) (own_neB HR.out HW.out (by decide))
      have H8 := HH.out.fr FW8 (by simp) (by simp) (fun j hj => (HXN.out j hj).1) (own_ne HR.out HH.out.row (by decide))
      obtain ⟨fao, fcap, rfl, -, -⟩ := own_slice f8
      obtain ⟨gao, gcap, rfl, -, -⟩ := own_slice hf8
      have c8 : w8.cell? ⟨W, 3, none⟩ = some (.slice sao ls.length scap) := W8.cell.2.2.2.1
      have own8 := H8.row
      have HW8 := hide W8
      have HH8 := hide H8
      have HO8 := hide own8
      have HFW8 := hide FW8
      have HL8 := hide l8
      have HF8 := hide f8
      have HG8 := hide hf8
      clear W8 H8 own8 F8 FW8 l8 f8 hf8 hg8 hk8 hb8 HF7 HL7 HFF7 HB7 o0 o1 m0 m1 c3 z3
      have hLz : L ≤ w8.heap.size := by omega
      go_wp2_with (at_builtin; refine wpList_append_own _ rfl (.tmp 40) (.tmp 42) 109 rfl L 52 j0 (.slice none 0 0) 1 24 Tryz.underlying109 hj hy0 hy1 hy2 rfl (by decide) _ _ _ rfl (HO8.out.alloc _) ⟨_, 0, none⟩ 1 1 [.slice ao k cap] rfl rfl ?c1 ?c2 ?c3 ?c4 ?c5 ?_)
      case c1 => exact fun j u h => cells_new _ #[.slice ao k cap] _ j u h
      case c2 => intro u hu; simp at hu; subst hu; rfl
      case c3 => exact (bd3 hb).2.2.2.1
      case c4 => exact (bd3 hb).1
      case c5 => rw [World.size_alloc]; exact up1 hLz (Nat.le_refl _)
      intro v9 w9 hown9 hg9 _
      obtain ⟨W9, X9, own9, F9⟩ := Kc_push L W w8 w9 _ _ _ _ _ _ HW8.out hLW _ _ _ _ v9 HO8.out (by omega) hown9 hg9
      obtain ⟨ao9, cap9, rfl, -, -⟩ := own_slice hown9
      have c9 : w9.cell? ⟨W, 3, none⟩ = some (.slice sao ls.length scap) := W9.cell.2.2.2.1
      have z9 := W9.fz 3
      have HX9 := hide X9
      have HO9 := hide own9
      have HF9 := hide F9
      have hz9 : w8.heap.size ≤ w9.heap.size := by have := F9.size; simpa using this
      clear W9 X9 own9 F9 hown9 hg9
      go_wp2_with (at_builtin; refine wpList_append_own _ rfl (.tmp 50) (.tmp 52) 109 rfl L 52 j0 (.slice none 0 0) 1 24 Tryz.underlying109 hj hy0 hy1 hy2 rfl (by decide) _ _ _ rfl (HO9.out.alloc _) ⟨_, 0, none⟩ 1 1 [.slice fao (k + 1) fcap] rfl rfl ?c1 ?c2 ?c3 ?c4 ?c5 ?_)
      case c1 => exact fun j u h => cells_newN (by simp) #[.slice fao (k + 1) fcap] _ j u h
      case c2 => intro u hu; simp at hu; subst hu; rfl
      case c3 => exact (bd3 hb).2.2.2.2.1
      case c4 => exact (bd3 hb).2.1
      case c5 => rw [World.size_alloc, World.size_setCell]; exact up1 hLz hz9
      intro v11 w11 hown11 hg11 _
      obtain ⟨W11, X11, own11, F11⟩ := Kc_push L W _ w11 _ _ _ _ _ _ HX9.out hLW _ _ _ _ v11 HO9.out (by rw [World.size_setCell]; exact Nat.le_trans hLz hz9) hown11 hg11
      obtain ⟨ao11, cap11, rfl, -, -⟩ := own_slice hown11
      have c11 : w11.cell? ⟨W, 3, none⟩ = some (.slice ao9 (ls.length + 1) cap9) := W11.cell.2.2.2.1
      have z11 := W11.fz 3
      have HX11 := hide X11
      have HO11 := hide own11
      have HF11 := hide F11
      have hz11 : w9.heap.size ≤ w11.heap.size := by have := F11.size; simpa using this
      clear W11 X11 own11 F11 hown11 hg11
      go_wp2_with (at_builtin; refine wpList_append_own _ rfl (.tmp 60) (.tmp 62) 109 rfl L 52 j0 (.slice none 0 0) 1 24 Tryz.underlying109 hj hy0 hy1 hy2 rfl (by decide) _ _ _ rfl (HO11.out.alloc _) ⟨_, 0, none⟩ 1 1 [.slice gao (k + 3) gcap] rfl rfl ?c1 ?c2 ?c3 ?c4 ?c5 ?_)
      case c1 => exact fun j u h => cells_newN (by simp) #[.slice gao (k + 3) gcap] _ j u h
      case c2 => intro u hu; simp at hu; subst hu; rfl
      case c3 => exact (bd3 hb).2.2.2.2.2
      case c4 => exact (bd3 hb).2.2.1
      case c5 => rw [World.size_alloc, World.size_setCell]; exact up1 hLz (Nat.le_trans hz9 hz11)
      intro v13 w13 hown13 hg13 _
      obtain ⟨W13, X13, own13, F13⟩ := Kc_push L W _ w13 _ _ _ _ _ _ HX11.out hLW _ _ _ _ v13 HO11.out (by rw [World.size_setCell]; exact Nat.le_trans hLz (Nat.le_trans hz9 hz11)) hown13 hg13
      obtain ⟨ao13, cap13, rfl, -, -⟩ := own_slice hown13
      have c13 : w13.cell? ⟨W, 3, none⟩ = some (.slice ao11 (ls.length + 2) cap11) := W13.cell.2.2.2.1
      have z13 := W13.fz 3
      have HX13 := hide X13
      have HO13 := hide own13
      have HF13 := hide F13
      have hz13 : w11.heap.size ≤ w13.heap.size := by have := F13.size; simpa using this
      clear W13 X13 own13 F13 hown13 hg13
      go_wp2
      go_end0
      have Ft : Fr L [115, 52] none w8 (w13.setCell ⟨W, 3, none⟩ (.slice ao13 (ls.length + 3) cap13)) := (HF9.out.trans HF11.out).trans HF13.out
      refine ⟨_, ls ++ [.slice ao k cap, .slice fao (k + 1) fcap, .slice gao (k + 3) gcap], rfl, HX13.out, ⟨?_, ?_, ?_⟩, by simp, (HFW8.out.wide (by simp)).trans Ft.any⟩
      · have e : (ls ++ [Value.slice ao k cap, Value.slice fao (k + 1) fcap, Value.slice gao (k + 3) gcap]).length = ls.length + 3 := by simp
        rw [e]
        exact HO13.out
      · have := HH.out.three
        simp; omega
      · intro i u hu
        have h3 := HH.out.three
        have hq := HQ.out
        have hsz : w8.heap.size ≤ w13.heap.size := Nat.le_trans (Nat.le_trans hz9 hz11) hz13
        have hnew : ∀ y ny, Full w8 N 99 (mkC q) y ny → i / 3 + 1 = q → ∃ n, Full (w13.setCell ⟨W, 3, none⟩ (.slice ao13 (ls.length + 3) cap13)) 0 99 (mkC (i / 3 + 1)) y n ∧ (∀ j, y.ownBlock = some j → j < (w13.setCell ⟨W, 3, none⟩ (.slice ao13 (ls.length + 3) cap13)).heap.size) := by
          intro y ny hy hiq
          rw [hiq]
          
          refine ⟨ny, ownsRow_base (own_fr hy Ft (by decide) (.inl rfl)) (Nat.zero_le _), fun j hj => by rw [World.size_setCell]; exact Nat.lt_of_lt_of_le (hy.lt j hj).2 hsz⟩
        by_cases hil : i < ls.length
        · rw [List.getElem?_append_left hil] at hu
          obtain ⟨n1, g1, g2⟩ := HH8.out.full i u hu
          exact ⟨n1, own_fr g1 Ft (by decide) (.inl rfl), fun j hj => by rw [World.size_setCell]; have := g2 j hj; omega⟩
        · rw [List.getElem?_append_right (by omega)] at hu
          obtain ⟨r, hr⟩ : ∃ r, r = i - ls.length := ⟨_, rfl⟩
          rw [← hr] at hu
          match r, hr, hu with
          | 0, hr, hu => simp at hu; subst hu; exact hnew _ _ HL8.out (by omega)
          | 1, hr, hu => simp at hu; subst hu; exact hnew _ _ HF8.out (by omega)
          | 2, hr, hu => simp at hu; subst hu; exact hnew _ _ HG8.out (by omega)
          | r + 3, hr, hu => simp at hu
end Go.Proofs.YtellilpeakpbfabGreatDoor

end

section
/-
  The walk of decimal.
-/
namespace Go.Proofs.YtellilpeakpbfabGreatDoor
open Go.RowKit

theorem conv_one (w : World) (n : Nat) : (convert 154 9 (.slice (some ⟨w.heap.size, 0, none⟩) 1 1)).run Tryz.prog (w.alloc (.cells #[.int .u8 (48 + (n : Int) % 10)] 5)) =
    .ok (.string ⟨#[UInt8.ofNat (48 + n % 10)]⟩) (w.alloc (.cells #[.int .u8 (48 + (n : Int) % 10)] 5)) := by
  refine run_convert_bytes_back (P := Tryz.prog) _ 154 9 5 ⟨w.heap.size, 0, none⟩ 1 [UInt8.ofNat (48 + n % 10)] Tryz.underlying154 Tryz.underlying5 Tryz.underlying9 ?_
  intro j hj
  have : j = 0 := by simp at hj; omega
  subst this
  have e : ((UInt8.ofNat (48 + n % 10)).toNat : Int) = 48 + (n : Int) % 10 := by simp; omega
  simp [Addr.add]
  omega

set_option maxHeartbeats 400000 in
set_option maxRecDepth 100000 in
theorem decimal_any (n : Nat) : ∀ (w : World), n < 1000000 →
    Calls Tryz.prog 144 #[.int .i64 n] w fun e w' => e = .returned (T (Lib.decDigits n)) ∧ Below w.heap.size w w' := by
  induction n using Nat.strongRecOn with
  | ind n ih =>
    intro w hn
    have hrun := conv_one w n
    obtain ⟨c, hc⟩ : ∃ c, c = UInt8.ofNat (48 + n % 10) := ⟨_, rfl⟩
    rw [← hc] at hrun
    have HCC := hide hc
    clear hc
    by_cases h10 : n < 10
    · clear ih
      have HE : Hid (Lib.decDigits n = [UInt8.ofNat (48 + n % 10)]) := by
        show _ = _
        rw [Lib.decDigits, dif_pos h10, Nat.mod_eq_of_lt h10]
      go_enter Tryz.func144, Tryz.ntmps144
      go_wp2
      go_ret
      rw [HE.out, ← HCC.out]
      exact ⟨rfl, (Below.refl _ _).alloc (Nat.le_refl _) _⟩
    · have HE : Hid (Lib.decDigits n = Lib.decDigits (n / 10) ++ [UInt8.ofNat (48 + n % 10)]) := by
        show _ = _
        rw [Lib.decDigits, dif_neg h10]
      have hl := Ck.dec_len (n / 10) (by omega)
      have hih : ∀ w, Calls Tryz.prog 144 #[.int .i64 ((n : Int) / 10)] w fun e w' => e = .returned (.string ⟨(Lib.decDigits (n / 10)).toArray⟩) ∧ Below w.heap.size w w' := by
        intro w
        have := ih (n / 10) (by omega) w (by omega)
        rw [show ((n : Int) / 10) = ((n / 10 : Nat) : Int) from by omega]
        exact this
      have HI := hide hih
      clear hih ih
      generalize hd : Lib.decDigits (n / 10) = d at *
      obtain ⟨D, hD⟩ : ∃ D : ByteArray, D = ⟨d.toArray⟩ := ⟨_, rfl⟩
      have hDs : D.size ≤ 6 := by rw [hD]; exact hl
      rw [← hD] at HI
      have HD := hide hD
      clear hD hd hl
      go_enter Tryz.func144, Tryz.ntmps144
      go_wp2_with fail
      refine (HI.out _).mono ?_
      rintro e w1 ⟨rfl, hb⟩
      have HB := hide hb
      clear hb
      go_wp2
      go_ret
      rw [HE.out, ← HCC.out]
      refine ⟨?_, ((Below.refl _ _).alloc (Nat.le_refl _) _).trans (HB.out.mono (by simp))⟩
      show Ending.returned (.string (D ++ ⟨#[c]⟩)) = _
      rw [append_T, HD.out]
end Go.Proofs.YtellilpeakpbfabGreatDoor

end

section
/-
  The walk of mark.
-/
namespace Go.Proofs.YtellilpeakpbfabGreatDoor
open Go.RowKit

/-- a number as letters. -/
def markR : Nat → Nat → List UInt8
  | 0, _ => []
  | f + 1, n => if n = 0 then [] else UInt8.ofNat (65 + n % 10) :: markR f (n / 10)
def markL (n : Nat) : List UInt8 := 77 :: markR 20 n
def mkP (i : Nat) : List Value := [T (markL i), T []]
theorem mkP_of {X : ByteArray} {q : Nat} (h : X.data.toList = markL q) : ([.string X, .string ⟨#[]⟩] : List Value) = mkP q := by
  unfold mkP
  rw [← h]; rfl

theorem conv_mark (w : World) (n : Nat) : (convert 154 9 (.slice (some ⟨w.heap.size, 0, none⟩) 1 1)).run Tryz.prog (w.alloc (.cells #[.int .u8 (65 + (n : Int) % 10)] 5)) =
    .ok (.string ⟨#[UInt8.ofNat (65 + n % 10)]⟩) (w.alloc (.cells #[.int .u8 (65 + (n : Int) % 10)] 5)) := by
  refine run_convert_bytes_back (P := Tryz.prog) _ 154 9 5 ⟨w.heap.size, 0, none⟩ 1 [UInt8.ofNat (65 + n % 10)] Tryz.underlying154 Tryz.underlying5 Tryz.underlying9 ?_
  intro j hj
  have : j = 0 := by simp at hj; omega
  subst this
  have e : ((UInt8.ofNat (65 + n % 10)).toNat : Int) = 65 + (n : Int) % 10 := by simp; omega
  simp [Addr.add]
  omega

def MkRel (q : Nat) (w : World) (x i : Value) (wr : World) : Prop :=
  ∃ (f n : Nat) (u : ByteArray), i = .int .i64 n ∧ x = .string u ∧ n < 10 ^ f ∧ f ≤ 20 ∧ u.size + f ≤ 21 ∧ u.data.toList ++ markR f n = markL q ∧ Below w.heap.size w wr ∧ n ≤ 9000000000000

set_option maxHeartbeats 1000000 in
set_option maxRecDepth 100000 in
theorem mark_any (q : Nat) (hq : q ≤ 9000000000000) (w : World) :
    Calls Tryz.prog 80 #[.int .i64 q] w fun e w' => ∃ X : ByteArray, e = .returned (.string X) ∧ X.data.toList = markL q ∧ X.size ≤ 21 ∧ Below w.heap.size w w' := by
  have hs : MkRel q w (.string ⟨#[77]⟩) (.int .i64 q) w := ⟨20, q, ⟨#[77]⟩, rfl, rfl, by omega, by omega, by show 1 + 20 ≤ 21; omega, rfl, Below.refl _ _, hq⟩
  have HS := hide hs
  clear hs
  go_enter Tryz.func80, Tryz.ntmps80
  go_wp2
  go_loopw [0, 3] (fun i x wr => MkRel q w x i wr) (fun i _ _ => (intOf i).toNat)
  case atStart => exact HS.out
  case round =>
    obtain ⟨f, n, u, rfl, rfl, hn, hf, hu, hl, hb, hn9⟩ := hrel
    have HL := hide hl
    have HB := hide hb
    have HN := hide hn
    clear hl hb hn HS
    by_cases h0 : n = 0
    · have t1 : decide (0 < n) = false := decide_eq_false (by omega)
      have HE : Hid (u.data.toList = markL q) := by
        show _ = _
        rw [← HL.out]
        cases f with
        | zero => simp [markR]
        | succ f => simp [markR, h0]
      clear h0
      go_wp2
      go_ret
      exact ⟨u, rfl, HE.out, by omega, HB.out⟩
    · have t1 : decide (0 < n) = true := decide_eq_true (by omega)
      have hrun := conv_mark wr n
      obtain ⟨c, hc⟩ : ∃ c, c = UInt8.ofNat (65 + n % 10) := ⟨_, rfl⟩
      rw [← hc] at hrun
      have HR2 : Hid (MkRel q w (.string (u ++ ⟨#[c]⟩)) (.int .i64 ((n : Int) / 10)) (wr.alloc (.cells #[.int .u8 (65 + (n : Int) % 10)] 5))) := by
        have hf1 : f ≠ 0 := by
          intro e
          have := HN.out
          rw [e] at this; simp at this; omega
        obtain ⟨f', rfl⟩ : ∃ f', f = f' + 1 := ⟨f - 1, by omega⟩
        refine ⟨f', n / 10, _, by go_num, rfl, ?_, by omega, ?_, ?_, HB.out.alloc HB.out.size _, by omega⟩
        · have := HN.out
          rw [Nat.pow_succ] at this; omega
        · simp only [ByteArray.size_append, one_size]; omega
        · rw [← HL.out, app_list, markR, if_neg h0, hc]
          simp
      clear hc
      go_wp2
      go_roundw
      case rel => exact HR2.out
      case measure => simp [intOf]; omega
end Go.Proofs.YtellilpeakpbfabGreatDoor

end
