/-
  The walk of World.step: the kinds of Keeps.
-/
import Derived.Test.YthehkgglblohfaaGreatDoorLst
import Derived.Test.YthehkgglblohfaaGreatDoorCellD
set_option linter.unusedVariables false
namespace Go.Proofs.YthehkgglblohfaaGreatDoor
open Go.RowKit

theorem SInv.below {L W D m : Nat} {w w' : World} {C : Jn.Con} (h : SInv L W D w C m) (hb : Below w.heap.size w w') : SInv L W D w' C m := by
  obtain ⟨S, B, f, past, d, nc, nq, na, hlaw, hst, rest⟩ := h
  exact ⟨S, B, f, past, d, nc, nq, na, (hlaw.below hb).mono hb.size hb.size, hst.below hb, rest⟩
theorem SInv.low {L W D m : Nat} {w : World} {C : Jn.Con} (h : SInv L W D w C m) : L ≤ w.heap.size := by
  obtain ⟨S, B, f, past, d, nc, nq, na, hlaw, hst, rest⟩ := h
  exact hlaw.low
theorem StepPost.back {L W D m : Nat} {w w1 w9 : World} {e : Ending} (hL : L ≤ w.heap.size) (hb : Below w.heap.size w w1) (h : StepPost L W D m w1 e w9) : StepPost L W D m w e w9 := ⟨h.1, h.2.1, (hb.mono hL).trans h.2.2⟩

set_option maxHeartbeats 8000000 in
set_option maxRecDepth 100000 in
theorem step_put (L W D m : Nat) (w : World) (C : Jn.Con) (o : OpD) (ho : o.kind = 3) (h : SInv L W D w C m) (hm : m ≤ 1300000000000) (hP : PowAt w) (hWd : WordsAt w) (hpL : 1 < L)
    (x0 : -9223372036854775808 ≤ o.m) (x1 : o.m ≤ 9223372036854775807) :
    Calls Tryz.prog 7 #[.pointer (some ⟨W, 0, none⟩), .agg o.cells, .bool false] w (StepPost L W D m w) := by
  obtain ⟨w1, hw1⟩ : ∃ w1, w1 = w.alloc (.cells o.cells 30) := ⟨_, rfl⟩
  obtain ⟨B0, hB0⟩ : ∃ B0, B0 = w.heap.size := ⟨_, rfl⟩
  have hB1 : Below w.heap.size w w1 := by rw [hw1]; exact (Below.refl _ _).alloc (Nat.le_refl _) _
  have hbo : w1.heap[B0]? = some (.cells o.cells 30 (0, 0)) := by rw [hw1, hB0]; exact heap_alloc_new w _
  have HC := hide (cells_put L W D m w1 C o ho (h.below hB1) hm (hP.below hP.1 hB1) hpL x0 x1)
  have HBK := hide (fun e w9 => StepPost.back (D := D) (W := W) (m := m) (e := e) (w9 := w9) h.low hB1)
  obtain ⟨kk, nn, mm, s, t, lo, ln, lc, cut, wo, wn, wc⟩ := o
  simp only at ho
  subst ho
  simp only [OpD.cells] at hbo hw1 HC ⊢
  have p0 := (cell_of_row w1 B0 0 _ _ _ hbo).trans rfl
  have p1 := (cell_of_row w1 B0 1 _ _ _ hbo).trans rfl
  have p2 := (cell_of_row w1 B0 2 _ _ _ hbo).trans rfl
  have p3 := (cell_of_row w1 B0 3 _ _ _ hbo).trans rfl
  have p4 := (cell_of_row w1 B0 4 _ _ _ hbo).trans rfl
  have p5 := (cell_of_row w1 B0 5 _ _ _ hbo).trans rfl
  have p6 := (cell_of_row w1 B0 6 _ _ _ hbo).trans rfl
  have p7 := (cell_of_row w1 B0 7 _ _ _ hbo).trans rfl
  clear h hB1 hbo hP hWd
  go_enter Tryz.func7, Tryz.ntmps7
  go_upto_region 10 with fail
  rw [← hw1, ← hB0]
  have HW1 := hide hw1
  have HB0 := hide hB0
  clear hw1 hB0
  go_wp2_with fail
  refine HC.out.mono ?_
  rintro e w9 hpost
  obtain rfl := hpost.1
  have HFIN := hide (HBK.out _ _ hpost)
  clear hpost HC HBK
  go_wp2_with fail
  go_ret
  exact HFIN.out

set_option maxHeartbeats 8000000 in
set_option maxRecDepth 100000 in
theorem step_del (L W D m : Nat) (w : World) (C : Jn.Con) (o : OpD) (ho : o.kind = 4) (h : SInv L W D w C m) (hm : m ≤ 1300000000000) (hP : PowAt w) (hWd : WordsAt w) (hpL : 1 < L)
    (x0 : -9223372036854775808 ≤ o.m) (x1 : o.m ≤ 9223372036854775807) :
    Calls Tryz.prog 7 #[.pointer (some ⟨W, 0, none⟩), .agg o.cells, .bool false] w (StepPost L W D m w) := by
  obtain ⟨w1, hw1⟩ : ∃ w1, w1 = w.alloc (.cells o.cells 30) := ⟨_, rfl⟩
  obtain ⟨B0, hB0⟩ : ∃ B0, B0 = w.heap.size := ⟨_, rfl⟩
  have hB1 : Below w.heap.size w w1 := by rw [hw1]; exact (Below.refl _ _).alloc (Nat.le_refl _) _
  have hbo : w1.heap[B0]? = some (.cells o.cells 30 (0, 0)) := by rw [hw1, hB0]; exact heap_alloc_new w _
  have HC := hide (cells_del L W D m w1 C o ho (h.below hB1) hm (hP.below hP.1 hB1) hpL)
  have HBK := hide (fun e w9 => StepPost.back (D := D) (W := W) (m := m) (e := e) (w9 := w9) h.low hB1)
  obtain ⟨kk, nn, mm, s, t, lo, ln, lc, cut, wo, wn, wc⟩ := o
  simp only at ho
  subst ho
  simp only [OpD.cells] at hbo hw1 HC ⊢
  have p0 := (cell_of_row w1 B0 0 _ _ _ hbo).trans rfl
  have p1 := (cell_of_row w1 B0 1 _ _ _ hbo).trans rfl
  have p2 := (cell_of_row w1 B0 2 _ _ _ hbo).trans rfl
  have p3 := (cell_of_row w1 B0 3 _ _ _ hbo).trans rfl
  have p4 := (cell_of_row w1 B0 4 _ _ _ hbo).trans rfl
  have p5 := (cell_of_row w1 B0 5 _ _ _ hbo).trans rfl
  have p6 := (cell_of_row w1 B0 6 _ _ _ hbo).trans rfl
  have p7 := (cell_of_row w1 B0 7 _ _ _ hbo).trans rfl
  clear h hB1 hbo hP hWd
  go_enter Tryz.func7, Tryz.ntmps7
  go_upto_region 10 with fail
  rw [← hw1, ← hB0]
  have HW1 := hide hw1
  have HB0 := hide hB0
  clear hw1 hB0
  go_wp2_with fail
  refine HC.out.mono ?_
  rintro e w9 hpost
  obtain rfl := hpost.1
  have HFIN := hide (HBK.out _ _ hpost)
  clear hpost HC HBK
  go_wp2_with fail
  go_ret
  exact HFIN.out

set_option maxHeartbeats 8000000 in
set_option maxRecDepth 100000 in
theorem step_get (L W D m : Nat) (w : World) (C : Jn.Con) (o : OpD) (ho : o.kind = 5) (h : SInv L W D w C m) (hm : m ≤ 1300000000000) (hP : PowAt w) (hWd : WordsAt w) (hpL : 1 < L)
    (x0 : -9223372036854775808 ≤ o.m) (x1 : o.m ≤ 9223372036854775807) :
    Calls Tryz.prog 7 #[.pointer (some ⟨W, 0, none⟩), .agg o.cells, .bool false] w (StepPost L W D m w) := by
  obtain ⟨w1, hw1⟩ : ∃ w1, w1 = w.alloc (.cells o.cells 30) := ⟨_, rfl⟩
  obtain ⟨B0, hB0⟩ : ∃ B0, B0 = w.heap.size := ⟨_, rfl⟩
  have hB1 : Below w.heap.size w w1 := by rw [hw1]; exact (Below.refl _ _).alloc (Nat.le_refl _) _
  have hbo : w1.heap[B0]? = some (.cells o.cells 30 (0, 0)) := by rw [hw1, hB0]; exact heap_alloc_new w _
  have HC := hide (cells_get_any L W D m w1 C o ho (h.below hB1) hm)
  have HBK := hide (fun e w9 => StepPost.back (D := D) (W := W) (m := m) (e := e) (w9 := w9) h.low hB1)
  obtain ⟨kk, nn, mm, s, t, lo, ln, lc, cut, wo, wn, wc⟩ := o
  simp only at ho
  subst ho
  simp only [OpD.cells] at hbo hw1 HC ⊢
  have p0 := (cell_of_row w1 B0 0 _ _ _ hbo).trans rfl
  have p1 := (cell_of_row w1 B0 1 _ _ _ hbo).trans rfl
  have p2 := (cell_of_row w1 B0 2 _ _ _ hbo).trans rfl
  have p3 := (cell_of_row w1 B0 3 _ _ _ hbo).trans rfl
  have p4 := (cell_of_row w1 B0 4 _ _ _ hbo).trans rfl
  have p5 := (cell_of_row w1 B0 5 _ _ _ hbo).trans rfl
  have p6 := (cell_of_row w1 B0 6 _ _ _ hbo).trans rfl
  have p7 := (cell_of_row w1 B0 7 _ _ _ hbo).trans rfl
  clear h hB1 hbo hP hWd
  go_enter Tryz.func7, Tryz.ntmps7
  go_upto_region 10 with fail
  rw [← hw1, ← hB0]
  have HW1 := hide hw1
  have HB0 := hide hB0
  clear hw1 hB0
  go_wp2_with fail
  refine HC.out.mono ?_
  rintro e w9 hpost
  obtain rfl := hpost.1
  have HFIN := hide (HBK.out _ _ hpost)
  clear hpost HC HBK
  go_wp2_with fail
  go_ret
  exact HFIN.out

set_option maxHeartbeats 8000000 in
set_option maxRecDepth 100000 in
theorem step_cells (L W D m : Nat) (w : World) (C : Jn.Con) (o : OpD) (ho : o.kind = 6) (h : SInv L W D w C m) (hm : m ≤ 1300000000000) (hP : PowAt w) (hWd : WordsAt w) (hpL : 1 < L)
    (x0 : -9223372036854775808 ≤ o.m) (x1 : o.m ≤ 9223372036854775807) :
    Calls Tryz.prog 7 #[.pointer (some ⟨W, 0, none⟩), .agg o.cells, .bool false] w (StepPost L W D m w) := by
  obtain ⟨w1, hw1⟩ : ∃ w1, w1 = w.alloc (.cells o.cells 30) := ⟨_, rfl⟩
  obtain ⟨B0, hB0⟩ : ∃ B0, B0 = w.heap.size := ⟨_, rfl⟩
  have hB1 : Below w.heap.size w w1 := by rw [hw1]; exact (Below.refl _ _).alloc (Nat.le_refl _) _
  have hbo : w1.heap[B0]? = some (.cells o.cells 30 (0, 0)) := by rw [hw1, hB0]; exact heap_alloc_new w _
  have HC := hide (cells_cells L W D m w1 C o ho (h.below hB1) hm)
  have HBK := hide (fun e w9 => StepPost.back (D := D) (W := W) (m := m) (e := e) (w9 := w9) h.low hB1)
  obtain ⟨kk, nn, mm, s, t, lo, ln, lc, cut, wo, wn, wc⟩ := o
  simp only at ho
  subst ho
  simp only [OpD.cells] at hbo hw1 HC ⊢
  have p0 := (cell_of_row w1 B0 0 _ _ _ hbo).trans rfl
  have p1 := (cell_of_row w1 B0 1 _ _ _ hbo).trans rfl
  have p2 := (cell_of_row w1 B0 2 _ _ _ hbo).trans rfl
  have p3 := (cell_of_row w1 B0 3 _ _ _ hbo).trans rfl
  have p4 := (cell_of_row w1 B0 4 _ _ _ hbo).trans rfl
  have p5 := (cell_of_row w1 B0 5 _ _ _ hbo).trans rfl
  have p6 := (cell_of_row w1 B0 6 _ _ _ hbo).trans rfl
  have p7 := (cell_of_row w1 B0 7 _ _ _ hbo).trans rfl
  clear h hB1 hbo hP hWd
  go_enter Tryz.func7, Tryz.ntmps7
  go_upto_region 10 with fail
  rw [← hw1, ← hB0]
  have HW1 := hide hw1
  have HB0 := hide hB0
  clear hw1 hB0
  go_wp2_with fail
  refine HC.out.mono ?_
  rintro e w9 hpost
  obtain rfl := hpost.1
  have HFIN := hide (HBK.out _ _ hpost)
  clear hpost HC HBK
  go_wp2_with fail
  go_ret
  exact HFIN.out

set_option maxHeartbeats 8000000 in
set_option maxRecDepth 100000 in
theorem step_sync (L W D m : Nat) (w : World) (C : Jn.Con) (o : OpD) (ho : o.kind = 11) (h : SInv L W D w C m) (hm : m ≤ 1300000000000) (hP : PowAt w) (hWd : WordsAt w) (hpL : 1 < L)
    (x0 : -9223372036854775808 ≤ o.m) (x1 : o.m ≤ 9223372036854775807) :
    Calls Tryz.prog 7 #[.pointer (some ⟨W, 0, none⟩), .agg o.cells, .bool false] w (StepPost L W D m w) := by
  obtain ⟨w1, hw1⟩ : ∃ w1, w1 = w.alloc (.cells o.cells 30) := ⟨_, rfl⟩
  obtain ⟨B0, hB0⟩ : ∃ B0, B0 = w.heap.size := ⟨_, rfl⟩
  have hB1 : Below w.heap.size w w1 := by rw [hw1]; exact (Below.refl _ _).alloc (Nat.le_refl _) _
  have hbo : w1.heap[B0]? = some (.cells o.cells 30 (0, 0)) := by rw [hw1, hB0]; exact heap_alloc_new w _
  have HC := hide (lasts_sync L W D m w1 C o ho (h.below hB1) hm)
  have HBK := hide (fun e w9 => StepPost.back (D := D) (W := W) (m := m) (e := e) (w9 := w9) h.low hB1)
  obtain ⟨kk, nn, mm, s, t, lo, ln, lc, cut, wo, wn, wc⟩ := o
  simp only at ho
  subst ho
  simp only [OpD.cells] at hbo hw1 HC ⊢
  have p0 := (cell_of_row w1 B0 0 _ _ _ hbo).trans rfl
  have p1 := (cell_of_row w1 B0 1 _ _ _ hbo).trans rfl
  have p2 := (cell_of_row w1 B0 2 _ _ _ hbo).trans rfl
  have p3 := (cell_of_row w1 B0 3 _ _ _ hbo).trans rfl
  have p4 := (cell_of_row w1 B0 4 _ _ _ hbo).trans rfl
  have p5 := (cell_of_row w1 B0 5 _ _ _ hbo).trans rfl
  have p6 := (cell_of_row w1 B0 6 _ _ _ hbo).trans rfl
  have p7 := (cell_of_row w1 B0 7 _ _ _ hbo).trans rfl
  clear h hB1 hbo hP hWd
  go_enter Tryz.func7, Tryz.ntmps7
  go_upto_region 21 with fail
  rw [← hw1, ← hB0]
  have HW1 := hide hw1
  have HB0 := hide hB0
  clear hw1 hB0
  go_wp2_with fail
  refine HC.out.mono ?_
  rintro e w9 hpost
  obtain rfl := hpost.1
  have HFIN := hide (HBK.out _ _ hpost)
  clear hpost HC HBK
  go_wp2_with fail
  go_ret
  exact HFIN.out

set_option maxHeartbeats 8000000 in
set_option maxRecDepth 100000 in
theorem step_open (L W D m : Nat) (w : World) (C : Jn.Con) (o : OpD) (ho : o.kind = 13) (h : SInv L W D w C m) (hm : m ≤ 1300000000000) (hP : PowAt w) (hWd : WordsAt w) (hpL : 1 < L)
    (x0 : -9223372036854775808 ≤ o.m) (x1 : o.m ≤ 9223372036854775807) :
    Calls Tryz.prog 7 #[.pointer (some ⟨W, 0, none⟩), .agg o.cells, .bool false] w (StepPost L W D m w) := by
  obtain ⟨w1, hw1⟩ : ∃ w1, w1 = w.alloc (.cells o.cells 30) := ⟨_, rfl⟩
  obtain ⟨B0, hB0⟩ : ∃ B0, B0 = w.heap.size := ⟨_, rfl⟩
  have hB1 : Below w.heap.size w w1 := by rw [hw1]; exact (Below.refl _ _).alloc (Nat.le_refl _) _
  have hbo : w1.heap[B0]? = some (.cells o.cells 30 (0, 0)) := by rw [hw1, hB0]; exact heap_alloc_new w _
  have HC := hide (lasts_open L W D m w1 C o ho (h.below hB1) hm (hP.below hP.1 hB1) (hWd.below hWd.1 hB1))
  have HBK := hide (fun e w9 => StepPost.back (D := D) (W := W) (m := m) (e := e) (w9 := w9) h.low hB1)
  obtain ⟨kk, nn, mm, s, t, lo, ln, lc, cut, wo, wn, wc⟩ := o
  simp only at ho
  subst ho
  simp only [OpD.cells] at hbo hw1 HC ⊢
  have p0 := (cell_of_row w1 B0 0 _ _ _ hbo).trans rfl
  have p1 := (cell_of_row w1 B0 1 _ _ _ hbo).trans rfl
  have p2 := (cell_of_row w1 B0 2 _ _ _ hbo).trans rfl
  have p3 := (cell_of_row w1 B0 3 _ _ _ hbo).trans rfl
  have p4 := (cell_of_row w1 B0 4 _ _ _ hbo).trans rfl
  have p5 := (cell_of_row w1 B0 5 _ _ _ hbo).trans rfl
  have p6 := (cell_of_row w1 B0 6 _ _ _ hbo).trans rfl
  have p7 := (cell_of_row w1 B0 7 _ _ _ hbo).trans rfl
  clear h hB1 hbo hP hWd
  go_enter Tryz.func7, Tryz.ntmps7
  go_upto_region 21 with fail
  rw [← hw1, ← hB0]
  have HW1 := hide hw1
  have HB0 := hide hB0
  clear hw1 hB0
  go_wp2_with fail
  refine HC.out.mono ?_
  rintro e w9 hpost
  obtain rfl := hpost.1
  have HFIN := hide (HBK.out _ _ hpost)
  clear hpost HC HBK
  go_wp2_with fail
  go_ret
  exact HFIN.out

/-- a step of a kind of Keeps. -/
theorem step_keeps (L W D m : Nat) (w : World) (C : Jn.Con) (o : OpD) (ho : o.kind ∈ [3, 4, 5, 6, 11, 13]) (h : SInv L W D w C m) (hm : m ≤ 1300000000000) (hP : PowAt w) (hWd : WordsAt w) (hpL : 1 < L)
    (x0 : -9223372036854775808 ≤ o.m) (x1 : o.m ≤ 9223372036854775807) :
    Calls Tryz.prog 7 #[.pointer (some ⟨W, 0, none⟩), .agg o.cells, .bool false] w (StepPost L W D m w) := by
  simp only [List.mem_cons, List.not_mem_nil, or_false] at ho
  rcases ho with ho | ho | ho | ho | ho | ho
  · exact step_put L W D m w C o ho h hm hP hWd hpL x0 x1
  · exact step_del L W D m w C o ho h hm hP hWd hpL x0 x1
  · exact step_get L W D m w C o ho h hm hP hWd hpL x0 x1
  · exact step_cells L W D m w C o ho h hm hP hWd hpL x0 x1
  · exact step_sync L W D m w C o ho h hm hP hWd hpL x0 x1
  · exact step_open L W D m w C o ho h hm hP hWd hpL x0 x1
end Go.Proofs.YthehkgglblohfaaGreatDoor
