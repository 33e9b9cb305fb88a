import Derived.Test.YtellilpeakpbfabGreatDoorCelCToo
import Derived.Test.YtellilpeakpbfabGreatDoorProcDToo
import Derived.Test.YtellilpeakpbfabGreatDoorTrEToo
import Derived.Test.YtellilpeakpbfabGreatDoorCalCToo
import Derived.Test.YtellilpeakpbfabGreatDoorLstDToo
import Derived.Test.YtellilpeakpbfabGreatDoorFolToo
import Derived.Test.YtellilpeakpbfabGreatDoorStkToo
import Derived.ProofKit
import Derived.OpenShut
import Derived.Deep.DeepHandedRow
import Derived.Lib.LaidTab
import Derived.Test.YtellilpeakpbfabGreatDoorShelfToo
import Derived.Test.YtellilpeakpbfabGreatDoorSmallToo
section
/-
  The walk of World.step where crashes may come.
-/
set_option linter.unusedVariables false
namespace Go.Proofs.YtellilpeakpbfabGreatDoor
open Go.RowKit

set_option maxHeartbeats 8000000 in
set_option maxRecDepth 100000 in
theorem stepC_3 (L W D m : Nat) (w : World) (o : OpD) (ho : o.kind = 3) (hL : L ≤ w.heap.size) (hC : ∀ w1, Below w.heap.size w w1 → Calls Tryz.prog 76 #[.pointer (some ⟨W, 0, none⟩), .agg o.cells, .bool true] w1 (StepPostC L W D m w1)) :
    Calls Tryz.prog 51 #[.pointer (some ⟨W, 0, none⟩), .agg o.cells, .bool true] w (StepPostC L W D m w) := by
  obtain ⟨w1, hw1⟩ : ∃ w1, w1 = w.alloc (.cells o.cells 106) := ⟨_, rfl⟩
  obtain ⟨B0, hB0⟩ : ∃ B0, B0 = w.heap.size := ⟨_, rfl⟩
  have hB1 : Below w.heap.size w w1 := by rw [hw1]; exact (Below.refl _ _).alloc (Nat.le_refl _) _
  have hbo : w1.heap[B0]? = some (.cells o.cells 106 (0, 0)) := by rw [hw1, hB0]; exact heap_alloc_new w _
  have HC := hide (hC w1 hB1)
  have HBK := hide (fun e w9 => StepPostC.back (D := D) (W := W) (m := m) (e := e) (w9 := w9) hL hB1)
  obtain ⟨kk, nn, mm, s, t, lo, ln, lc, cut, wo, wn, wc⟩ := o
  simp only at ho
  subst ho
  simp only [OpD.cells] at hbo hw1 HC ⊢
  have p0 := (cell_of_row w1 B0 0 _ _ _ hbo).trans rfl
  have p1 := (cell_of_row w1 B0 1 _ _ _ hbo).trans rfl
  have p2 := (cell_of_row w1 B0 2 _ _ _ hbo).trans rfl
  have p3 := (cell_of_row w1 B0 3 _ _ _ hbo).trans rfl
  have p4 := (cell_of_row w1 B0 4 _ _ _ hbo).trans rfl
  have p5 := (cell_of_row w1 B0 5 _ _ _ hbo).trans rfl
  have p6 := (cell_of_row w1 B0 6 _ _ _ hbo).trans rfl
  have p7 := (cell_of_row w1 B0 7 _ _ _ hbo).trans rfl
  clear hC hB1 hbo
  go_enter Tryz.func51, Tryz.ntmps51
  go_upto_region 10 with fail
  rw [← hw1, ← hB0]
  have HW1 := hide hw1
  have HB0 := hide hB0
  clear hw1 hB0
  go_wp2_with fail
  refine HC.out.mono ?_
  rintro e w9 hpost
  obtain rfl := hpost.1
  have HFIN := hide (HBK.out _ _ hpost)
  clear hpost HC HBK
  go_wp2_with fail
  go_ret
  exact HFIN.out

set_option maxHeartbeats 8000000 in
set_option maxRecDepth 100000 in
theorem stepC_4 (L W D m : Nat) (w : World) (o : OpD) (ho : o.kind = 4) (hL : L ≤ w.heap.size) (hC : ∀ w1, Below w.heap.size w w1 → Calls Tryz.prog 76 #[.pointer (some ⟨W, 0, none⟩), .agg o.cells, .bool true] w1 (StepPostC L W D m w1)) :
    Calls Tryz.prog 51 #[.pointer (some ⟨W, 0, none⟩), .agg o.cells, .bool true] w (StepPostC L W D m w) := by
  obtain ⟨w1, hw1⟩ : ∃ w1, w1 = w.alloc (.cells o.cells 106) := ⟨_, rfl⟩
  obtain ⟨B0, hB0⟩ : ∃ B0, B0 = w.heap.size := ⟨_, rfl⟩
  have hB1 : Below w.heap.size w w1 := by rw [hw1]; exact (Below.refl _ _).alloc (Nat.le_refl _) _
  have hbo : w1.heap[B0]? = some (.cells o.cells 106 (0, 0)) := by rw [hw1, hB0]; exact heap_alloc_new w _
  have HC := hide (hC w1 hB1)
  have HBK := hide (fun e w9 => StepPostC.back (D := D) (W := W) (m := m) (e := e) (w9 := w9) hL hB1)
  obtain ⟨kk, nn, mm, s, t, lo, ln, lc, cut, wo, wn, wc⟩ := o
  simp only at ho
  subst ho
  simp only [OpD.cells] at hbo hw1 HC ⊢
  have p0 := (cell_of_row w1 B0 0 _ _ _ hbo).trans rfl
  have p1 := (cell_of_row w1 B0 1 _ _ _ hbo).trans rfl
  have p2 := (cell_of_row w1 B0 2 _ _ _ hbo).trans rfl
  have p3 := (cell_of_row w1 B0 3 _ _ _ hbo).trans rfl
  have p4 := (cell_of_row w1 B0 4 _ _ _ hbo).trans rfl
  have p5 := (cell_of_row w1 B0 5 _ _ _ hbo).trans rfl
  have p6 := (cell_of_row w1 B0 6 _ _ _ hbo).trans rfl
  have p7 := (cell_of_row w1 B0 7 _ _ _ hbo).trans rfl
  clear hC hB1 hbo
  go_enter Tryz.func51, Tryz.ntmps51
  go_upto_region 10 with fail
  rw [← hw1, ← hB0]
  have HW1 := hide hw1
  have HB0 := hide hB0
  clear hw1 hB0
  go_wp2_with fail
  refine HC.out.mono ?_
  rintro e w9 hpost
  obtain rfl := hpost.1
  have HFIN := hide (HBK.out _ _ hpost)
  clear hpost HC HBK
  go_wp2_with fail
  go_ret
  exact HFIN.out

set_option maxHeartbeats 8000000 in
set_option maxRecDepth 100000 in
theorem stepC_7 (L W D m : Nat) (w : World) (o : OpD) (ho : o.kind = 7) (hL : L ≤ w.heap.size) (hC : ∀ w1, Below w.heap.size w w1 → Calls Tryz.prog 77 #[.pointer (some ⟨W, 0, none⟩), .agg o.cells, .bool true] w1 (StepPostC L W D m w1)) :
    Calls Tryz.prog 51 #[.pointer (some ⟨W, 0, none⟩), .agg o.cells, .bool true] w (StepPostC L W D m w) := by
  obtain ⟨w1, hw1⟩ : ∃ w1, w1 = w.alloc (.cells o.cells 106) := ⟨_, rfl⟩
  obtain ⟨B0, hB0⟩ : ∃ B0, B0 = w.heap.size := ⟨_, rfl⟩
  have hB1 : Below w.heap.size w w1 := by rw [hw1]; exact (Below.refl _ _).alloc (Nat.le_refl _) _
  have hbo : w1.heap[B0]? = some (.cells o.cells 106 (0, 0)) := by rw [hw1, hB0]; exact heap_alloc_new w _
  have HC := hide (hC w1 hB1)
  have HBK := hide (fun e w9 => StepPostC.back (D := D) (W := W) (m := m) (e := e) (w9 := w9) hL hB1)
  obtain ⟨kk, nn, mm, s, t, lo, ln, lc, cut, wo, wn, wc⟩ := o
  simp only at ho
  subst ho
  simp only [OpD.cells] at hbo hw1 HC ⊢
  have p0 := (cell_of_row w1 B0 0 _ _ _ hbo).trans rfl
  have p1 := (cell_of_row w1 B0 1 _ _ _ hbo).trans rfl
  have p2 := (cell_of_row w1 B0 2 _ _ _ hbo).trans rfl
  have p3 := (cell_of_row w1 B0 3 _ _ _ hbo).trans rfl
  have p4 := (cell_of_row w1 B0 4 _ _ _ hbo).trans rfl
  have p5 := (cell_of_row w1 B0 5 _ _ _ hbo).trans rfl
  have p6 := (cell_of_row w1 B0 6 _ _ _ hbo).trans rfl
  have p7 := (cell_of_row w1 B0 7 _ _ _ hbo).trans rfl
  clear hC hB1 hbo
  go_enter Tryz.func51, Tryz.ntmps51
  go_upto_region 14 with fail
  rw [← hw1, ← hB0]
  have HW1 := hide hw1
  have HB0 := hide hB0
  clear hw1 hB0
  go_wp2_with fail
  refine HC.out.mono ?_
  rintro e w9 hpost
  obtain rfl := hpost.1
  have HFIN := hide (HBK.out _ _ hpost)
  clear hpost HC HBK
  go_wp2_with fail
  go_ret
  exact HFIN.out

set_option maxHeartbeats 8000000 in
set_option maxRecDepth 100000 in
theorem stepC_8 (L W D m : Nat) (w : World) (o : OpD) (ho : o.kind = 8) (hL : L ≤ w.heap.size) (hC : ∀ w1, Below w.heap.size w w1 → Calls Tryz.prog 77 #[.pointer (some ⟨W, 0, none⟩), .agg o.cells, .bool true] w1 (StepPostC L W D m w1)) :
    Calls Tryz.prog 51 #[.pointer (some ⟨W, 0, none⟩), .agg o.cells, .bool true] w (StepPostC L W D m w) := by
  obtain ⟨w1, hw1⟩ : ∃ w1, w1 = w.alloc (.cells o.cells 106) := ⟨_, rfl⟩
  obtain ⟨B0, hB0⟩ : ∃ B0, B0 = w.heap.size := ⟨_, rfl⟩
  have hB1 : Below w.heap.size w w1 := by rw [hw1]; exact (Below.refl _ _).alloc (Nat.le_refl _) _
  have hbo : w1.heap[B0]? = some (.cells o.cells 106 (0, 0)) := by rw [hw1, hB0]; exact heap_alloc_new w _
  have HC := hide (hC w1 hB1)
  have HBK := hide (fun e w9 => StepPostC.back (D := D) (W := W) (m := m) (e := e) (w9 := w9) hL hB1)
  obtain ⟨kk, nn, mm, s, t, lo, ln, lc, cut, wo, wn, wc⟩ := o
  simp only at ho
  subst ho
  simp only [OpD.cells] at hbo hw1 HC ⊢
  have p0 := (cell_of_row w1 B0 0 _ _ _ hbo).trans rfl
  have p1 := (cell_of_row w1 B0 1 _ _ _ hbo).trans rfl
  have p2 := (cell_of_row w1 B0 2 _ _ _ hbo).trans rfl
  have p3 := (cell_of_row w1 B0 3 _ _ _ hbo).trans rfl
  have p4 := (cell_of_row w1 B0 4 _ _ _ hbo).trans rfl
  have p5 := (cell_of_row w1 B0 5 _ _ _ hbo).trans rfl
  have p6 := (cell_of_row w1 B0 6 _ _ _ hbo).trans rfl
  have p7 := (cell_of_row w1 B0 7 _ _ _ hbo).trans rfl
  clear hC hB1 hbo
  go_enter Tryz.func51, Tryz.ntmps51
  go_upto_region 14 with fail
  rw [← hw1, ← hB0]
  have HW1 := hide hw1
  have HB0 := hide hB0
  clear hw1 hB0
  go_wp2_with fail
  refine HC.out.mono ?_
  rintro e w9 hpost
  obtain rfl := hpost.1
  have HFIN := hide (HBK.out _ _ hpost)
  clear hpost HC HBK
  go_wp2_with fail
  go_ret
  exact HFIN.out

set_option maxHeartbeats 8000000 in
set_option maxRecDepth 100000 in
theorem stepC_10 (L W D m : Nat) (w : World) (o : OpD) (ho : o.kind = 10) (hL : L ≤ w.heap.size) (hC : ∀ w1, Below w.heap.size w w1 → Calls Tryz.prog 78 #[.pointer (some ⟨W, 0, none⟩), .agg o.cells, .bool true] w1 (StepPostC L W D m w1)) :
    Calls Tryz.prog 51 #[.pointer (some ⟨W, 0, none⟩), .agg o.cells, .bool true] w (StepPostC L W D m w) := by
  obtain ⟨w1, hw1⟩ : ∃ w1, w1 = w.alloc (.cells o.cells 106) := ⟨_, rfl⟩
  obtain ⟨B0, hB0⟩ : ∃ B0, B0 = w.heap.size := ⟨_, rfl⟩
  have hB1 : Below w.heap.size w w1 := by rw [hw1]; exact (Below.refl _ _).alloc (Nat.le_refl _) _
  have hbo : w1.heap[B0]? = some (.cells o.cells 106 (0, 0)) := by rw [hw1, hB0]; exact heap_alloc_new w _
  have HC := hide (hC w1 hB1)
  have HBK := hide (fun e w9 => StepPostC.back (D := D) (W := W) (m := m) (e := e) (w9 := w9) hL hB1)
  obtain ⟨kk, nn, mm, s, t, lo, ln, lc, cut, wo, wn, wc⟩ := o
  simp only at ho
  subst ho
  simp only [OpD.cells] at hbo hw1 HC ⊢
  have p0 := (cell_of_row w1 B0 0 _ _ _ hbo).trans rfl
  have p1 := (cell_of_row w1 B0 1 _ _ _ hbo).trans rfl
  have p2 := (cell_of_row w1 B0 2 _ _ _ hbo).trans rfl
  have p3 := (cell_of_row w1 B0 3 _ _ _ hbo).trans rfl
  have p4 := (cell_of_row w1 B0 4 _ _ _ hbo).trans rfl
  have p5 := (cell_of_row w1 B0 5 _ _ _ hbo).trans rfl
  have p6 := (cell_of_row w1 B0 6 _ _ _ hbo).trans rfl
  have p7 := (cell_of_row w1 B0 7 _ _ _ hbo).trans rfl
  clear hC hB1 hbo
  go_enter Tryz.func51, Tryz.ntmps51
  go_upto_region 16 with fail
  rw [← hw1, ← hB0]
  have HW1 := hide hw1
  have HB0 := hide hB0
  clear hw1 hB0
  go_wp2_with fail
  refine HC.out.mono ?_
  rintro e w9 hpost
  obtain rfl := hpost.1
  have HFIN := hide (HBK.out _ _ hpost)
  clear hpost HC HBK
  go_wp2_with fail
  go_ret
  exact HFIN.out

set_option maxHeartbeats 8000000 in
set_option maxRecDepth 100000 in
theorem stepC_11 (L W D m : Nat) (w : World) (o : OpD) (ho : o.kind = 11) (hL : L ≤ w.heap.size) (hC : ∀ w1, Below w.heap.size w w1 → Calls Tryz.prog 79 #[.pointer (some ⟨W, 0, none⟩), .agg o.cells, .bool true] w1 (StepPostC L W D m w1)) :
    Calls Tryz.prog 51 #[.pointer (some ⟨W, 0, none⟩), .agg o.cells, .bool true] w (StepPostC L W D m w) := by
  obtain ⟨w1, hw1⟩ : ∃ w1, w1 = w.alloc (.cells o.cells 106) := ⟨_, rfl⟩
  obtain ⟨B0, hB0⟩ : ∃ B0, B0 = w.heap.size := ⟨_, rfl⟩
  have hB1 : Below w.heap.size w w1 := by rw [hw1]; exact (Below.refl _ _).alloc (Nat.le_refl _) _
  have hbo : w1.heap[B0]? = some (.cells o.cells 106 (0, 0)) := by rw [hw1, hB0]; exact heap_alloc_new w _
  have HC := hide (hC w1 hB1)
  have HBK := hide (fun e w9 => StepPostC.back (D := D) (W := W) (m := m) (e := e) (w9 := w9) hL hB1)
  obtain ⟨kk, nn, mm, s, t, lo, ln, lc, cut, wo, wn, wc⟩ := o
  simp only at ho
  subst ho
  simp only [OpD.cells] at hbo hw1 HC ⊢
  have p0 := (cell_of_row w1 B0 0 _ _ _ hbo).trans rfl
  have p1 := (cell_of_row w1 B0 1 _ _ _ hbo).trans rfl
  have p2 := (cell_of_row w1 B0 2 _ _ _ hbo).trans rfl
  have p3 := (cell_of_row w1 B0 3 _ _ _ hbo).trans rfl
  have p4 := (cell_of_row w1 B0 4 _ _ _ hbo).trans rfl
  have p5 := (cell_of_row w1 B0 5 _ _ _ hbo).trans rfl
  have p6 := (cell_of_row w1 B0 6 _ _ _ hbo).trans rfl
  have p7 := (cell_of_row w1 B0 7 _ _ _ hbo).trans rfl
  clear hC hB1 hbo
  go_enter Tryz.func51, Tryz.ntmps51
  go_upto_region 21 with fail
  rw [← hw1, ← hB0]
  have HW1 := hide hw1
  have HB0 := hide hB0
  clear hw1 hB0
  go_wp2_with fail
  refine HC.out.mono ?_
  rintro e w9 hpost
  obtain rfl := hpost.1
  have HFIN := hide (HBK.out _ _ hpost)
  clear hpost HC HBK
  go_wp2_with fail
  go_ret
  exact HFIN.out

set_option maxHeartbeats 8000000 in
set_option maxRecDepth 100000 in
theorem stepC_12 (L W D m : Nat) (w : World) (o : OpD) (ho : o.kind = 12) (hL : L ≤ w.heap.size) (hC : ∀ w1, Below w.heap.size w w1 → Calls Tryz.prog 79 #[.pointer (some ⟨W, 0, none⟩), .agg o.cells, .bool true] w1 (StepPostC L W D m w1)) :
    Calls Tryz.prog 51 #[.pointer (some ⟨W, 0, none⟩), .agg o.cells, .bool true] w (StepPostC L W D m w) := by
  obtain ⟨w1, hw1⟩ : ∃ w1, w1 = w.alloc (.cells o.cells 106) := ⟨_, rfl⟩
  obtain ⟨B0, hB0⟩ : ∃ B0, B0 = w.heap.size := ⟨_, rfl⟩
  have hB1 : Below w.heap.size w w1 := by rw [hw1]; exact (Below.refl _ _).alloc (Nat.le_refl _) _
  have hbo : w1.heap[B0]? = some (.cells o.cells 106 (0, 0)) := by rw [hw1, hB0]; exact heap_alloc_new w _
  have HC := hide (hC w1 hB1)
  have HBK := hide (fun e w9 => StepPostC.back (D := D) (W := W) (m := m) (e := e) (w9 := w9) hL hB1)
  obtain ⟨kk, nn, mm, s, t, lo, ln, lc, cut, wo, wn, wc⟩ := o
  simp only at ho
  subst ho
  simp only [OpD.cells] at hbo hw1 HC ⊢
  have p0 := (cell_of_row w1 B0 0 _ _ _ hbo).trans rfl
  have p1 := (cell_of_row w1 B0 1 _ _ _ hbo).trans rfl
  have p2 := (cell_of_row w1 B0 2 _ _ _ hbo).trans rfl
  have p3 := (cell_of_row w1 B0 3 _ _ _ hbo).trans rfl
  have p4 := (cell_of_row w1 B0 4 _ _ _ hbo).trans rfl
  have p5 := (cell_of_row w1 B0 5 _ _ _ hbo).trans rfl
  have p6 := (cell_of_row w1 B0 6 _ _ _ hbo).trans rfl
  have p7 := (cell_of_row w1 B0 7 _ _ _ hbo).trans rfl
  clear hC hB1 hbo
  go_enter Tryz.func51, Tryz.ntmps51
  go_upto_region 21 with fail
  rw [← hw1, ← hB0]
  have HW1 := hide hw1
  have HB0 := hide hB0
  clear hw1 hB0
  go_wp2_with fail
  refine HC.out.mono ?_
  rintro e w9 hpost
  obtain rfl := hpost.1
  have HFIN := hide (HBK.out _ _ hpost)
  clear hpost HC HBK
  go_wp2_with fail
  go_ret
  exact HFIN.out

set_option maxHeartbeats 8000000 in
set_option maxRecDepth 100000 in
theorem stepC_13 (L W D m : Nat) (w : World) (o : OpD) (ho : o.kind = 13) (hL : L ≤ w.heap.size) (hC : ∀ w1, Below w.heap.size w w1 → Calls Tryz.prog 79 #[.pointer (some ⟨W, 0, none⟩), .agg o.cells, .bool true] w1 (StepPostC L W D m w1)) :
    Calls Tryz.prog 51 #[.pointer (some ⟨W, 0, none⟩), .agg o.cells, .bool true] w (StepPostC L W D m w) := by
  obtain ⟨w1, hw1⟩ : ∃ w1, w1 = w.alloc (.cells o.cells 106) := ⟨_, rfl⟩
  obtain ⟨B0, hB0⟩ : ∃ B0, B0 = w.heap.size := ⟨_, rfl⟩
  have hB1 : Below w.heap.size w w1 := by rw [hw1]; exact (Below.refl _ _).alloc (Nat.le_refl _) _
  have hbo : w1.heap[B0]? = some (.cells o.cells 106 (0, 0)) := by rw [hw1, hB0]; exact heap_alloc_new w _
  have HC := hide (hC w1 hB1)
  have HBK := hide (fun e w9 => StepPostC.back (D := D) (W := W) (m := m) (e := e) (w9 := w9) hL hB1)
  obtain ⟨kk, nn, mm, s, t, lo, ln, lc, cut, wo, wn, wc⟩ := o
  simp only at ho
  subst ho
  simp only [OpD.cells] at hbo hw1 HC ⊢
  have p0 := (cell_of_row w1 B0 0 _ _ _ hbo).trans rfl
  have p1 := (cell_of_row w1 B0 1 _ _ _ hbo).trans rfl
  have p2 := (cell_of_row w1 B0 2 _ _ _ hbo).trans rfl
  have p3 := (cell_of_row w1 B0 3 _ _ _ hbo).trans rfl
  have p4 := (cell_of_row w1 B0 4 _ _ _ hbo).trans rfl
  have p5 := (cell_of_row w1 B0 5 _ _ _ hbo).trans rfl
  have p6 := (cell_of_row w1 B0 6 _ _ _ hbo).trans rfl
  have p7 := (cell_of_row w1 B0 7 _ _ _ hbo).trans rfl
  clear hC hB1 hbo
  go_enter Tryz.func51, Tryz.ntmps51
  go_upto_region 21 with fail
  rw [← hw1, ← hB0]
  have HW1 := hide hw1
  have HB0 := hide hB0
  clear hw1 hB0
  go_wp2_with fail
  refine HC.out.mono ?_
  rintro e w9 hpost
  obtain rfl := hpost.1
  have HFIN := hide (HBK.out _ _ hpost)
  clear hpost HC HBK
  go_wp2_with fail
  go_ret
  exact HFIN.out

set_option maxHeartbeats 8000000 in
set_option maxRecDepth 100000 in
theorem stepC_14 (L W D m : Nat) (w : World) (o : OpD) (ho : o.kind = 14) (hL : L ≤ w.heap.size) (hC : ∀ w1, Below w.heap.size w w1 → Calls Tryz.prog 79 #[.pointer (some ⟨W, 0, none⟩), .agg o.cells, .bool true] w1 (StepPostC L W D m w1)) :
    Calls Tryz.prog 51 #[.pointer (some ⟨W, 0, none⟩), .agg o.cells, .bool true] w (StepPostC L W D m w) := by
  obtain ⟨w1, hw1⟩ : ∃ w1, w1 = w.alloc (.cells o.cells 106) := ⟨_, rfl⟩
  obtain ⟨B0, hB0⟩ : ∃ B0, B0 = w.heap.size := ⟨_, rfl⟩
  have hB1 : Below w.heap.size w w1 := by rw [hw1]; exact (Below.refl _ _).alloc (Nat.le_refl _) _
  have hbo : w1.heap[B0]? = some (.cells o.cells 106 (0, 0)) := by rw [hw1, hB0]; exact heap_alloc_new w _
  have HC := hide (hC w1 hB1)
  have HBK := hide (fun e w9 => StepPostC.back (D := D) (W := W) (m := m) (e := e) (w9 := w9) hL hB1)
  obtain ⟨kk, nn, mm, s, t, lo, ln, lc, cut, wo, wn, wc⟩ := o
  simp only at ho
  subst ho
  simp only [OpD.cells] at hbo hw1 HC ⊢
  have p0 := (cell_of_row w1 B0 0 _ _ _ hbo).trans rfl
  have p1 := (cell_of_row w1 B0 1 _ _ _ hbo).trans rfl
  have p2 := (cell_of_row w1 B0 2 _ _ _ hbo).trans rfl
  have p3 := (cell_of_row w1 B0 3 _ _ _ hbo).trans rfl
  have p4 := (cell_of_row w1 B0 4 _ _ _ hbo).trans rfl
  have p5 := (cell_of_row w1 B0 5 _ _ _ hbo).trans rfl
  have p6 := (cell_of_row w1 B0 6 _ _ _ hbo).trans rfl
  have p7 := (cell_of_row w1 B0 7 _ _ _ hbo).trans rfl
  clear hC hB1 hbo
  go_enter Tryz.func51, Tryz.ntmps51
  go_upto_region 21 with fail
  rw [← hw1, ← hB0]
  have HW1 := hide hw1
  have HB0 := hide hB0
  clear hw1 hB0
  go_wp2_with fail
  refine HC.out.mono ?_
  rintro e w9 hpost
  obtain rfl := hpost.1
  have HFIN := hide (HBK.out _ _ hpost)
  clear hpost HC HBK
  go_wp2_with fail
  go_ret
  exact HFIN.out

/-- what a step's arguments are. -/
structure OpOk (L : Nat) (w : World) (o : OpD) : Prop where
  m : B64' o.m
  cut : B64' o.cut
  l : ∃ l, ArgsAt L w (.slice o.lo o.ln o.lc) l
  w : ∃ l, ArgsAt L w (.slice o.wo o.wn o.wc) l
theorem OpOk.below {L : Nat} {w w' : World} {o : OpD} (h : OpOk L w o) (hb : Below L w w') : OpOk L w' o := ⟨h.m, h.cut, by obtain ⟨l, hl⟩ := h.l; exact ⟨l, hl.below hb⟩, by obtain ⟨l, hl⟩ := h.w; exact ⟨l, hl.below hb⟩⟩
theorem OpOk.up {L L' : Nat} {w : World} {o : OpD} (h : OpOk L w o) (hL : L ≤ L') : OpOk L' w o := ⟨h.m, h.cut, by obtain ⟨l, hl⟩ := h.l; exact ⟨l, hl.up hL⟩, by obtain ⟨l, hl⟩ := h.w; exact ⟨l, hl.up hL⟩⟩
theorem raws_of {L : Nat} {w : World} {v : Value} {l : List Int} (h : ArgsAt L w v l) : ∀ x, Below L w x → Raws x v l := fun x hx => ⟨(h.below hx).1, h.2.2.1, h.2.2.2⟩
/-- a step of a kind of Lasts. -/
theorem step_lasts (L W D m : Nat) (w : World) (C : Jn.Con) (o : OpD) (ho : o.kind ∈ [3, 4, 7, 8, 10, 11, 12, 13, 14]) (h : SInvC L W D w C m) (hm : m ≤ 1200000000000) (hP : PowAt w) (hWd : WordsAt w) (hpL : 1 < L) (hO : OpOk L w o) :
    Calls Tryz.prog 51 #[.pointer (some ⟨W, 0, none⟩), .agg o.cells, .bool true] w (StepPostC L W D m w) := by
  have hL := h.low
  obtain ⟨lL, hl⟩ := hO.l
  obtain ⟨lW, hw⟩ := hO.w
  have hwl : 0 < L := Nat.lt_of_le_of_lt (by decide) hpL
  have hr : ∀ w1, Below w.heap.size w w1 → ∀ x, Below L w1 x → Raws x (.slice o.wo o.wn o.wc) lW := fun w1 hb x hx => raws_of hw x ((hb.mono hL).trans hx)
  simp only [List.mem_cons, List.not_mem_nil, or_false] at ho
  rcases ho with ho | ho | ho | ho | ho | ho | ho | ho | ho
  · exact stepC_3 L W D m w o ho hL fun w1 hb => cells_putC L W D m w1 C o ho (h.below hb) hm (hP.below hP.1 hb) hpL hO.m.1 hO.m.2 (hWd.below hWd.1 hb) lW hO.cut (hr w1 hb)
  · exact stepC_4 L W D m w o ho hL fun w1 hb => cells_delC L W D m w1 C o ho (h.below hb) hm (hP.below hP.1 hb) hpL (hWd.below hWd.1 hb) lW hO.cut (hr w1 hb)
  · exact stepC_7 L W D m w o ho hL fun w1 hb => procs_installC L W D m w1 C o ho (h.below hb) hm (hWd.below hWd.1 hb) (hP.below hP.1 hb) hpL lW hO.cut (hr w1 hb)
  · exact stepC_8 L W D m w o ho hL fun w1 hb => procs_dropC L W D m w1 C o ho (h.below hb) hm (hP.below hP.1 hb) (hWd.below hWd.1 hb) hpL lW hO.cut (hr w1 hb)
  · exact stepC_10 L W D m w o ho hL fun w1 hb => world_callC L W D m w1 C o lL ho (h.below hb) hm (hP.below hP.1 hb) (hWd.below hWd.1 hb) hpL (hl.below (hb.mono hL)) lW hO.cut (hr w1 hb)
  · exact stepC_11 L W D m w o ho hL fun w1 hb => lasts_syncC L W D m w1 C o ho (h.below hb) hm (hP.below hP.1 hb) (hWd.below hWd.1 hb) hpL lW hO.cut (hr w1 hb)
  · exact stepC_12 L W D m w o ho hL fun w1 hb => lasts_compactC L W D m w1 C o ho (h.below hb) hm (hP.below hP.1 hb) (hWd.below hWd.1 hb) hpL lW hO.cut (hr w1 hb)
  · exact stepC_13 L W D m w o ho hL fun w1 hb => lasts_openC L W D m w1 C o ho (h.below hb) (by omega) (hP.below hP.1 hb) (hWd.below hWd.1 hb)
  · exact stepC_14 L W D m w o ho hL fun w1 hb => lasts_crashC L W D m w1 C o ho (h.below hb) hm (hP.below hP.1 hb) (hWd.below hWd.1 hb) hpL lW hO.cut (hr w1 hb)
end Go.Proofs.YtellilpeakpbfabGreatDoor

end

section
/-
  What the rows share: from the listed variables to what the walks ask.
-/
namespace Go.Proofs.YtellilpeakpbfabGreatDoor.Ckd
open Go.ChangeShapes Go.WideShapes Go.ChangeAt Go.RowKit

theorem own : ownKnob Tryz.prog.godebug = none := by kernel_rfl
theorem gTab : Tryz.prog.globalNamed (Rows.keptRow.named.headD "") = some 0 := by kernel_rfl
theorem gTabType : (Tryz.prog.globals[0]?).map (·.type) = some 202 := by kernel_rfl
theorem cellsWords : Tryz.prog.cellsOf 202 = 16 := by kernel_rfl
theorem cellsStr : Tryz.prog.cellsOf 9 = 1 := by kernel_rfl

/-- An array of texts as a row lists it. -/
def strData {H : Type} (ls : List (List UInt8)) : DataW H := .agg (ls.map fun l => .lit (.string l))
theorem cells_of_strs {H : Type} {enc : TypeId × Value → H} {P : Program} {w : World} {base : Nat} {sp : Nat → Bool} {held : Bool} {fuel : Nat} {t e : TypeId} {n : Nat} {cs : List Value} {ls : List (List UInt8)} {p : List MemPlace}
    (ht : P.underlying t = some (.array n e)) (he : P.underlying e = some .string) (hce : P.cellsOf e = 1) (hct : P.cellsOf t = n)
    (h : DataW.trod enc P w base sp held fuel t cs = some (strData ls, p)) : cs = ls.map T := by
  cases fuel with
  | zero => simp [DataW.trod] at h
  | succ fuel =>
    simp only [DataW.trod, ht, hce, hct, Nat.mul_one] at h
    split at h
    · rename_i hl
      obtain ⟨xs, hm, hx⟩ := Option.map_eq_some_iff.1 h
      have hxs : xs.map (·.1) = ls.map fun l => (DataW.lit (.string l) : DataW H) := by
        have := congrArg Prod.fst hx
        simpa [strData] using this
      have hxl : xs.length = n := by simpa using Lib.mapM_length hm
      have hzl : ls.length = n := by
        have := congrArg List.length hxs
        simp at this
        omega
      apply List.ext_getElem?
      intro i
      by_cases hi : i < n
      · obtain ⟨b, hb, hf⟩ := Lib.mapM_at hm i i (by simp [hi])
        obtain ⟨s, hc, rfl, _⟩ := DataW.trod_string he hf
        have h1 : cs[i]? = some (.string s) := by
          have := congrArg (·[0]?) hc
          simpa [List.getElem?_take, List.getElem?_drop] using this
        have h2 : (xs.map (·.1))[i]? = some (DataW.lit (.string s.data.toList) : DataW H) := by simp [hb]
        rw [hxs] at h2
        simp only [List.getElem?_map, Option.map_eq_some_iff, DataW.lit.injEq, Lit.string.injEq] at h2
        obtain ⟨l, hl', rfl⟩ := h2
        simp [h1, hl', T]
      · rw [List.getElem?_eq_none (by omega), List.getElem?_eq_none (by simp; omega)]
    · cases h

theorem words_of {W : World} {rest : List (String × DataW Unit)} {ps : List MemPlace} (h : DataW.LaidVars Tryz.prog W ((Rows.keptRow.named.headD "", Rows.laid_cellar_source_words) :: rest) ps) : WordsAt W := by
  obtain ⟨g', t', cs, fuel, p, q, hg', ht', hvar, hd, _, _⟩ := h
  obtain rfl := Option.some.inj (gTab.symm.trans hg')
  obtain rfl := Option.some.inj (gTabType.symm.trans ht')
  have hcs : cs.toList = Ck.wordsL.map T := cells_of_strs (ls := Ck.wordsL) Tryz.underlying202 Tryz.underlying9 cellsStr cellsWords hd
  have hall : ∀ k, k < 16 → W.cell? ⟨0, k, none⟩ = some (.string ⟨(Ck.wordsL.getD k []).toArray⟩) := by
    intro k hk
    have := World.var?_cell gTab hvar k
    rw [this]
    have e : cs[k]? = (Ck.wordsL.map T)[k]? := by rw [← hcs]; simp
    rw [e]
    have hl : k < Ck.wordsL.length := hk
    simp [List.getD, hl, T]
  exact ⟨World.block_lt_of_cell? W ⟨0, 0, none⟩ (hall 0 (by omega)), hall⟩

/-- FOR A WITNESS: a variable's cells as its initialiser lays them. -/
def litVal : DataW Unit → Value
  | .lit (.int k z) => .int k z
  | .lit (.string l) => T l
  | _ => .bool false
def layVar (d : DataW Unit) : Obj → Obj
  | .cells c t frozen => match d with
    | .agg ds => .cells (ds.map litVal).toArray t frozen
    | _ => .cells c t frozen
  | o => o

end Go.Proofs.YtellilpeakpbfabGreatDoor.Ckd

end

section
/-
  From the listed powers of ten to what the walks ask.
-/
namespace Go.Proofs.YtellilpeakpbfabGreatDoor.Ckd
open Go.ChangeShapes Go.WideShapes Go.ChangeAt Go.RowKit

theorem gPowType : (Tryz.prog.globals[1]?).map (·.type) = some 227 := by kernel_rfl
theorem cellsPow : Tryz.prog.cellsOf 227 = 20 := by kernel_rfl
theorem cellsU64 : Tryz.prog.cellsOf 216 = 1 := by kernel_rfl
theorem powData : (Rows.laid_internal_strconv_uint64pow10 : DataW Unit) = Lib.tabData .u64 Lib.pow10Tab := by kernel_rfl
theorem pow_of {W : World} {rest : List (String × DataW Unit)} {ps : List MemPlace} (h : DataW.LaidVars Tryz.prog W ((Rows.keptRow.named.getD 1 "", Rows.laid_internal_strconv_uint64pow10) :: rest) ps) : PowAt W := by
  obtain ⟨g', t', cs, fuel, p, q, hg', ht', hvar, hd, _, _⟩ := h
  obtain rfl := Option.some.inj (gPow.symm.trans hg')
  obtain rfl := Option.some.inj (gPowType.symm.trans ht')
  rw [powData] at hd
  have hcs := Lib.cells_of_tab Tryz.underlying227 Tryz.underlying216 cellsU64 cellsPow hd
  have htab : Lib.TabIs Tryz.prog W (Rows.keptRow.named.getD 1 "") .u64 Lib.pow10Tab := by
    unfold Lib.TabIs
    rw [hvar, ← hcs]
  exact ⟨World.block_lt_of_cell? W ⟨1, 0, none⟩ (htab.cell gPow 0 (by rw [Lib.pow10Tab_length]; omega)), htab⟩
end Go.Proofs.YtellilpeakpbfabGreatDoor.Ckd

end

section
/-
  The walk of World.procs: Procs.
-/
namespace Go.Proofs.YtellilpeakpbfabGreatDoor
open Go.RowKit

end Go.Proofs.YtellilpeakpbfabGreatDoor

end
