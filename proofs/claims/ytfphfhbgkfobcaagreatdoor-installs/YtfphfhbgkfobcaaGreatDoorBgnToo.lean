import Derived.Test.YtfphfhbgkfobcaaGreatDoorCellDToo
section
/-
  The walk of World.step: the kinds of Keeps.
-/
set_option linter.unusedVariables false
namespace Go.Proofs.YtfphfhbgkfobcaaGreatDoor
open Go.RowKit

theorem SInv.below {L W D m : Nat} {w w' : World} {C : Jn.Con} (h : SInv L W D w C m) (hb : Below w.heap.size w w') : SInv L W D w' C m := by
  obtain ⟨S, B, f, past, d, nc, nq, na, hlaw, hst, rest⟩ := h
  exact ⟨S, B, f, past, d, nc, nq, na, (hlaw.below hb).mono hb.size hb.size, hst.below hb, rest⟩
theorem SInv.low {L W D m : Nat} {w : World} {C : Jn.Con} (h : SInv L W D w C m) : L ≤ w.heap.size := by
  obtain ⟨S, B, f, past, d, nc, nq, na, hlaw, hst, rest⟩ := h
  exact hlaw.low
theorem StepPost.back {L W D m : Nat} {w w1 w9 : World} {e : Ending} (hL : L ≤ w.heap.size) (hb : Below w.heap.size w w1) (h : StepPost L W D m w1 e w9) : StepPost L W D m w e w9 := ⟨h.1, h.2.1, (hb.mono hL).trans h.2.2⟩

set_option maxHeartbeats 8000000 in
set_option maxRecDepth 100000 in
theorem step_put (L W D m : Nat) (w : World) (C : Jn.Con) (o : OpD) (ho : o.kind = 3) (h : SInv L W D w C m) (hm : m ≤ 1300000000000) (hP : PowAt w) (hWd : WordsAt w) (hpL : 1 < L)
    (x0 : -9223372036854775808 ≤ o.m) (x1 : o.m ≤ 9223372036854775807) :
    Calls Tryz.prog 39 #[.pointer (some ⟨W, 0, none⟩), .agg o.cells, .bool false] w (StepPost L W D m w) := by
  obtain ⟨w1, hw1⟩ : ∃ w1, w1 = w.alloc (.cells o.cells 83) := ⟨_, rfl⟩
  obtain ⟨B0, hB0⟩ : ∃ B0, B0 = w.heap.size := ⟨_, rfl⟩
  have hB1 : Below w.heap.size w w1 := by rw [hw1]; exact (Below.refl _ _).alloc (Nat.le_refl _) _
  have hbo : w1.heap[B0]? = some (.cells o.cells 83 (0, 0)) := by rw [hw1, hB0]; exact heap_alloc_new w _
  have HC := hide (cells_put L W D m w1 C o ho (h.below hB1) hm (hP.below hP.1 hB1) hpL x0 x1)
  have HBK := hide (fun e w9 => StepPost.back (D := D) (W := W) (m := m) (e := e) (w9 := w9) h.low hB1)
  obtain ⟨kk, nn, mm, s, t, lo, ln, lc, cut, wo, wn, wc⟩ := o
  simp only at ho
  subst ho
  simp only [OpD.cells] at hbo hw1 HC ⊢
  have p0 := (cell_of_row w1 B0 0 _ _ _ hbo).trans rfl
  have p1 := (cell_of_row w1 B0 1 _ _ _ hbo).trans rfl
  have p2 := (cell_of_row w1 B0 2 _ _ _ hbo).trans rfl
  have p3 := (cell_of_row w1 B0 3 _ _ _ hbo).trans rfl
  have p4 := (cell_of_row w1 B0 4 _ _ _ hbo).trans rfl
  have p5 := (cell_of_row w1 B0 5 _ _ _ hbo).trans rfl
  have p6 := (cell_of_row w1 B0 6 _ _ _ hbo).trans rfl
  have p7 := (cell_of_row w1 B0 7 _ _ _ hbo).trans rfl
  clear h hB1 hbo hP hWd
  go_enter Tryz.func39, Tryz.ntmps39
  go_upto_region 10 with fail
  rw [← hw1, ← hB0]
  have HW1 := hide hw1
  have HB0 := hide hB0
  clear hw1 hB0
  go_wp2_with fail
  refine HC.out.mono ?_
  rintro e w9 hpost
  obtain rfl := hpost.1
  have HFIN := hide (HBK.out _ _ hpost)
  clear hpost HC HBK
  go_wp2_with fail
  go_ret
  exact HFIN.out

set_option maxHeartbeats 8000000 in
set_option maxRecDepth 100000 in
theorem step_del (L W D m : Nat) (w : World) (C : Jn.Con) (o : OpD) (ho : o.kind = 4) (h : SInv L W D w C m) (hm : m ≤ 1300000000000) (hP : PowAt w) (hWd : WordsAt w) (hpL : 1 < L)
    (x0 : -9223372036854775808 ≤ o.m) (x1 : o.m ≤ 9223372036854775807) :
    Calls Tryz.prog 39 #[.pointer (some ⟨W, 0, none⟩), .agg o.cells, .bool false] w (StepPost L W D m w) := by
  obtain ⟨w1, hw1⟩ : ∃ w1, w1 = w.alloc (.cells o.cells 83) := ⟨_, rfl⟩
  obtain ⟨B0, hB0⟩ : ∃ B0, B0 = w.heap.size := ⟨_, rfl⟩
  have hB1 : Below w.heap.size w w1 := by rw [hw1]; exact (Below.refl _ _).alloc (Nat.le_refl _) _
  have hbo : w1.heap[B0]? = some (.cells o.cells 83 (0, 0)) := by rw [hw1, hB0]; exact heap_alloc_new w _
  have HC := hide (cells_del L W D m w1 C o ho (h.below hB1) hm (hP.below hP.1 hB1) hpL)
  have HBK := hide (fun e w9 => StepPost.back (D := D) (W := W) (m := m) (e := e) (w9 := w9) h.low hB1)
  obtain ⟨kk, nn, mm, s, t, lo, ln, lc, cut, wo, wn, wc⟩ := o
  simp only at ho
  subst ho
  simp only [OpD.cells] at hbo hw1 HC ⊢
  have p0 := (cell_of_row w1 B0 0 _ _ _ hbo).trans rfl
  have p1 := (cell_of_row w1 B0 1 _ _ _ hbo).trans rfl
  have p2 := (cell_of_row w1 B0 2 _ _ _ hbo).trans rfl
  have p3 := (cell_of_row w1 B0 3 _ _ _ hbo).trans rfl
  have p4 := (cell_of_row w1 B0 4 _ _ _ hbo).trans rfl
  have p5 := (cell_of_row w1 B0 5 _ _ _ hbo).trans rfl
  have p6 := (cell_of_row w1 B0 6 _ _ _ hbo).trans rfl
  have p7 := (cell_of_row w1 B0 7 _ _ _ hbo).trans rfl
  clear h hB1 hbo hP hWd
  go_enter Tryz.func39, Tryz.ntmps39
  go_upto_region 10 with fail
  rw [← hw1, ← hB0]
  have HW1 := hide hw1
  have HB0 := hide hB0
  clear hw1 hB0
  go_wp2_with fail
  refine HC.out.mono ?_
  rintro e w9 hpost
  obtain rfl := hpost.1
  have HFIN := hide (HBK.out _ _ hpost)
  clear hpost HC HBK
  go_wp2_with fail
  go_ret
  exact HFIN.out

set_option maxHeartbeats 8000000 in
set_option maxRecDepth 100000 in
theorem step_get (L W D m : Nat) (w : World) (C : Jn.Con) (o : OpD) (ho : o.kind = 5) (h : SInv L W D w C m) (hm : m ≤ 1300000000000) (hP : PowAt w) (hWd : WordsAt w) (hpL : 1 < L)
    (x0 : -9223372036854775808 ≤ o.m) (x1 : o.m ≤ 9223372036854775807) :
    Calls Tryz.prog 39 #[.pointer (some ⟨W, 0, none⟩), .agg o.cells, .bool false] w (StepPost L W D m w) := by
  obtain ⟨w1, hw1⟩ : ∃ w1, w1 = w.alloc (.cells o.cells 83) := ⟨_, rfl⟩
  obtain ⟨B0, hB0⟩ : ∃ B0, B0 = w.heap.size := ⟨_, rfl⟩
  have hB1 : Below w.heap.size w w1 := by rw [hw1]; exact (Below.refl _ _).alloc (Nat.le_refl _) _
  have hbo : w1.heap[B0]? = some (.cells o.cells 83 (0, 0)) := by rw [hw1, hB0]; exact heap_alloc_new w _
  have HC := hide (cells_get_any L W D m w1 C o ho (h.below hB1) hm)
  have HBK := hide (fun e w9 => StepPost.back (D := D) (W := W) (m := m) (e := e) (w9 := w9) h.low hB1)
  obtain ⟨kk, nn, mm, s, t, lo, ln, lc, cut, wo, wn, wc⟩ := o
  simp only at ho
  subst ho
  simp only [OpD.cells] at hbo hw1 HC ⊢
  have p0 := (cell_of_row w1 B0 0 _ _ _ hbo).trans rfl
  have p1 := (cell_of_row w1 B0 1 _ _ _ hbo).trans rfl
  have p2 := (cell_of_row w1 B0 2 _ _ _ hbo).trans rfl
  have p3 := (cell_of_row w1 B0 3 _ _ _ hbo).trans rfl
  have p4 := (cell_of_row w1 B0 4 _ _ _ hbo).trans rfl
  have p5 := (cell_of_row w1 B0 5 _ _ _ hbo).trans rfl
  have p6 := (cell_of_row w1 B0 6 _ _ _ hbo).trans rfl
  have p7 := (cell_of_row w1 B0 7 _ _ _ hbo).trans rfl
  clear h hB1 hbo hP hWd
  go_enter Tryz.func39, Tryz.ntmps39
  go_upto_region 10 with fail
  rw [← hw1, ← hB0]
  have HW1 := hide hw1
  have HB0 := hide hB0
  clear hw1 hB0
  go_wp2_with fail
  refine HC.out.mono ?_
  rintro e w9 hpost
  obtain rfl := hpost.1
  have HFIN := hide (HBK.out _ _ hpost)
  clear hpost HC HBK
  go_wp2_with fail
  go_ret
  exact HFIN.out

set_option maxHeartbeats 8000000 in
set_option maxRecDepth 100000 in
theorem step_cells (L W D m : Nat) (w : World) (C : Jn.Con) (o : OpD) (ho : o.kind = 6) (h : SInv L W D w C m) (hm : m ≤ 1300000000000) (hP : PowAt w) (hWd : WordsAt w) (hpL : 1 < L)
    (x0 : -9223372036854775808 ≤ o.m) (x1 : o.m ≤ 9223372036854775807) :
    Calls Tryz.prog 39 #[.pointer (some ⟨W, 0, none⟩), .agg o.cells, .bool false] w (StepPost L W D m w) := by
  obtain ⟨w1, hw1⟩ : ∃ w1, w1 = w.alloc (.cells o.cells 83) := ⟨_, rfl⟩
  obtain ⟨B0, hB0⟩ : ∃ B0, B0 = w.heap.size := ⟨_, rfl⟩
  have hB1 : Below w.heap.size w w1 := by rw [hw1]; exact (Below.refl _ _).alloc (Nat.le_refl _) _
  have hbo : w1.heap[B0]? = some (.cells o.cells 83 (0, 0)) := by rw [hw1, hB0]; exact heap_alloc_new w _
  have HC := hide (cells_cells L W D m w1 C o ho (h.below hB1) hm)
  have HBK := hide (fun e w9 => StepPost.back (D := D) (W := W) (m := m) (e := e) (w9 := w9) h.low hB1)
  obtain ⟨kk, nn, mm, s, t, lo, ln, lc, cut, wo, wn, wc⟩ := o
  simp only at ho
  subst ho
  simp only [OpD.cells] at hbo hw1 HC ⊢
  have p0 := (cell_of_row w1 B0 0 _ _ _ hbo).trans rfl
  have p1 := (cell_of_row w1 B0 1 _ _ _ hbo).trans rfl
  have p2 := (cell_of_row w1 B0 2 _ _ _ hbo).trans rfl
  have p3 := (cell_of_row w1 B0 3 _ _ _ hbo).trans rfl
  have p4 := (cell_of_row w1 B0 4 _ _ _ hbo).trans rfl
  have p5 := (cell_of_row w1 B0 5 _ _ _ hbo).trans rfl
  have p6 := (cell_of_row w1 B0 6 _ _ _ hbo).trans rfl
  have p7 := (cell_of_row w1 B0 7 _ _ _ hbo).trans rfl
  clear h hB1 hbo hP hWd
  go_enter Tryz.func39, Tryz.ntmps39
  go_upto_region 10 with fail
  rw [← hw1, ← hB0]
  have HW1 := hide hw1
  have HB0 := hide hB0
  clear hw1 hB0
  go_wp2_with fail
  refine HC.out.mono ?_
  rintro e w9 hpost
  obtain rfl := hpost.1
  have HFIN := hide (HBK.out _ _ hpost)
  clear hpost HC HBK
  go_wp2_with fail
  go_ret
  exact HFIN.out

set_option maxHeartbeats 8000000 in
set_option maxRecDepth 100000 in
theorem step_sync (L W D m : Nat) (w : World) (C : Jn.Con) (o : OpD) (ho : o.kind = 11) (h : SInv L W D w C m) (hm : m ≤ 1300000000000) (hP : PowAt w) (hWd : WordsAt w) (hpL : 1 < L)
    (x0 : -9223372036854775808 ≤ o.m) (x1 : o.m ≤ 9223372036854775807) :
    Calls Tryz.prog 39 #[.pointer (some ⟨W, 0, none⟩), .agg o.cells, .bool false] w (StepPost L W D m w) := by
  obtain ⟨w1, hw1⟩ : ∃ w1, w1 = w.alloc (.cells o.cells 83) := ⟨_, rfl⟩
  obtain ⟨B0, hB0⟩ : ∃ B0, B0 = w.heap.size := ⟨_, rfl⟩
  have hB1 : Below w.heap.size w w1 := by rw [hw1]; exact (Below.refl _ _).alloc (Nat.le_refl _) _
  have hbo : w1.heap[B0]? = some (.cells o.cells 83 (0, 0)) := by rw [hw1, hB0]; exact heap_alloc_new w _
  have HC := hide (lasts_sync L W D m w1 C o ho (h.below hB1) hm)
  have HBK := hide (fun e w9 => StepPost.back (D := D) (W := W) (m := m) (e := e) (w9 := w9) h.low hB1)
  obtain ⟨kk, nn, mm, s, t, lo, ln, lc, cut, wo, wn, wc⟩ := o
  simp only at ho
  subst ho
  simp only [OpD.cells] at hbo hw1 HC ⊢
  have p0 := (cell_of_row w1 B0 0 _ _ _ hbo).trans rfl
  have p1 := (cell_of_row w1 B0 1 _ _ _ hbo).trans rfl
  have p2 := (cell_of_row w1 B0 2 _ _ _ hbo).trans rfl
  have p3 := (cell_of_row w1 B0 3 _ _ _ hbo).trans rfl
  have p4 := (cell_of_row w1 B0 4 _ _ _ hbo).trans rfl
  have p5 := (cell_of_row w1 B0 5 _ _ _ hbo).trans rfl
  have p6 := (cell_of_row w1 B0 6 _ _ _ hbo).trans rfl
  have p7 := (cell_of_row w1 B0 7 _ _ _ hbo).trans rfl
  clear h hB1 hbo hP hWd
  go_enter Tryz.func39, Tryz.ntmps39
  go_upto_region 21 with fail
  rw [← hw1, ← hB0]
  have HW1 := hide hw1
  have HB0 := hide hB0
  clear hw1 hB0
  go_wp2_with fail
  refine HC.out.mono ?_
  rintro e w9 hpost
  obtain rfl := hpost.1
  have HFIN := hide (HBK.out _ _ hpost)
  clear hpost HC HBK
  go_wp2_with fail
  go_ret
  exact HFIN.out

set_option maxHeartbeats 8000000 in
set_option maxRecDepth 100000 in
theorem step_open (L W D m : Nat) (w : World) (C : Jn.Con) (o : OpD) (ho : o.kind = 13) (h : SInv L W D w C m) (hm : m ≤ 1300000000000) (hP : PowAt w) (hWd : WordsAt w) (hpL : 1 < L)
    (x0 : -9223372036854775808 ≤ o.m) (x1 : o.m ≤ 9223372036854775807) :
    Calls Tryz.prog 39 #[.pointer (some ⟨W, 0, none⟩), .agg o.cells, .bool false] w (StepPost L W D m w) := by
  obtain ⟨w1, hw1⟩ : ∃ w1, w1 = w.alloc (.cells o.cells 83) := ⟨_, rfl⟩
  obtain ⟨B0, hB0⟩ : ∃ B0, B0 = w.heap.size := ⟨_, rfl⟩
  have hB1 : Below w.heap.size w w1 := by rw [hw1]; exact (Below.refl _ _).alloc (Nat.le_refl _) _
  have hbo : w1.heap[B0]? = some (.cells o.cells 83 (0, 0)) := by rw [hw1, hB0]; exact heap_alloc_new w _
  have HC := hide (lasts_open L W D m w1 C o ho (h.below hB1) hm (hP.below hP.1 hB1) (hWd.below hWd.1 hB1))
  have HBK := hide (fun e w9 => StepPost.back (D := D) (W := W) (m := m) (e := e) (w9 := w9) h.low hB1)
  obtain ⟨kk, nn, mm, s, t, lo, ln, lc, cut, wo, wn, wc⟩ := o
  simp only at ho
  subst ho
  simp only [OpD.cells] at hbo hw1 HC ⊢
  have p0 := (cell_of_row w1 B0 0 _ _ _ hbo).trans rfl
  have p1 := (cell_of_row w1 B0 1 _ _ _ hbo).trans rfl
  have p2 := (cell_of_row w1 B0 2 _ _ _ hbo).trans rfl
  have p3 := (cell_of_row w1 B0 3 _ _ _ hbo).trans rfl
  have p4 := (cell_of_row w1 B0 4 _ _ _ hbo).trans rfl
  have p5 := (cell_of_row w1 B0 5 _ _ _ hbo).trans rfl
  have p6 := (cell_of_row w1 B0 6 _ _ _ hbo).trans rfl
  have p7 := (cell_of_row w1 B0 7 _ _ _ hbo).trans rfl
  clear h hB1 hbo hP hWd
  go_enter Tryz.func39, Tryz.ntmps39
  go_upto_region 21 with fail
  rw [← hw1, ← hB0]
  have HW1 := hide hw1
  have HB0 := hide hB0
  clear hw1 hB0
  go_wp2_with fail
  refine HC.out.mono ?_
  rintro e w9 hpost
  obtain rfl := hpost.1
  have HFIN := hide (HBK.out _ _ hpost)
  clear hpost HC HBK
  go_wp2_with fail
  go_ret
  exact HFIN.out

/-- a step of a kind of Keeps. -/
theorem step_keeps (L W D m : Nat) (w : World) (C : Jn.Con) (o : OpD) (ho : o.kind ∈ [3, 4, 5, 6, 11, 13]) (h : SInv L W D w C m) (hm : m ≤ 1300000000000) (hP : PowAt w) (hWd : WordsAt w) (hpL : 1 < L)
    (x0 : -9223372036854775808 ≤ o.m) (x1 : o.m ≤ 9223372036854775807) :
    Calls Tryz.prog 39 #[.pointer (some ⟨W, 0, none⟩), .agg o.cells, .bool false] w (StepPost L W D m w) := by
  simp only [List.mem_cons, List.not_mem_nil, or_false] at ho
  rcases ho with ho | ho | ho | ho | ho | ho
  · exact step_put L W D m w C o ho h hm hP hWd hpL x0 x1
  · exact step_del L W D m w C o ho h hm hP hWd hpL x0 x1
  · exact step_get L W D m w C o ho h hm hP hWd hpL x0 x1
  · exact step_cells L W D m w C o ho h hm hP hWd hpL x0 x1
  · exact step_sync L W D m w C o ho h hm hP hWd hpL x0 x1
  · exact step_open L W D m w C o ho h hm hP hWd hpL x0 x1
end Go.Proofs.YtfphfhbgkfobcaaGreatDoor

end

section
/-
  The walk of begin: the store of two empty files.
-/
namespace Go.Proofs.YtfphfhbgkfobcaaGreatDoor
open Go.RowKit

/-- the world that begin makes. -/
def beg1 (w : World) : World := w.alloc (.cells #[.string ⟨#[]⟩, .string ⟨#[]⟩, .int .i64 0, .int .i64 0] 97)
def beg2 (w : World) : World := (beg1 w).alloc (.cells #[.slice none 0 0, .slice none 0 0] 128)
def begW (w : World) : World := (beg2 w).alloc (.cells #[.pointer none, .pointer (some ⟨w.heap.size, 0, none⟩), .slice (some ⟨w.heap.size + 1, 0, none⟩) 1 1, .slice none 0 0, .slice none 0 0, .slice none 0 0] 92)

theorem beg_empty : Jn.readTwo [] [] = some (Jn.none0, 1) := rfl

theorem beg_law (w : World) : Below w.heap.size w (begW w) ∧ LawAt w.heap.size (w.heap.size + 2) w.heap.size (begW w).heap.size (begW w).heap.size (begW w) (.pointer none) [Jn.none0] (⟨#[]⟩, ⟨#[]⟩, 0, 0) 0 0 0 := by
  have s1 : (beg1 w).heap.size = w.heap.size + 1 := World.size_alloc ..
  have s2 : (beg2 w).heap.size = w.heap.size + 2 := by unfold beg2; rw [World.size_alloc, s1]
  have b1 : Below w.heap.size w (beg1 w) := (Below.refl _ _).alloc (Nat.le_refl _) _
  have b2 : Below (beg1 w).heap.size (beg1 w) (beg2 w) := (Below.refl _ _).alloc (Nat.le_refl _) _
  have b3 : Below (beg2 w).heap.size (beg2 w) (begW w) := (Below.refl _ _).alloc (Nat.le_refl _) _
  have hD : (begW w).heap[w.heap.size]? = some (.cells #[.string ⟨#[]⟩, .string ⟨#[]⟩, .int .i64 0, .int .i64 0] 97 (0, 0)) :=
    (b3.block _ (by omega)).trans ((b2.block _ (by omega)).trans (heap_alloc_new w _))
  have hR : (begW w).heap[w.heap.size + 1]? = some (.cells #[.slice none 0 0, .slice none 0 0] 128 (0, 0)) := by
    have := heap_alloc_new (beg1 w) (.cells #[.slice none 0 0, .slice none 0 0] 128)
    rw [s1] at this
    exact (b3.block _ (by omega)).trans this
  have hW : WAt (begW w) (w.heap.size + 2) (.pointer none) (.pointer (some ⟨w.heap.size, 0, none⟩)) (.slice (some ⟨w.heap.size + 1, 0, none⟩) 1 1) (.slice none 0 0) (.slice none 0 0) (.slice none 0 0) := by
    have := heap_alloc_new (beg2 w) (.cells #[.pointer none, .pointer (some ⟨w.heap.size, 0, none⟩), .slice (some ⟨w.heap.size + 1, 0, none⟩) 1 1, .slice none 0 0, .slice none 0 0, .slice none 0 0] 92)
    rw [s2] at this
    exact this
  refine ⟨(b1.trans (b2.mono b1.size)).trans (b3.mono (by omega)), by omega, Nat.le_refl _, hD, _, _, _, _, [], [], [], hW, ⟨[(.slice none 0 0, .slice none 0 0)], ?_, rfl, ?_⟩, ?_, rfl, ?_, rfl, ?_, rfl⟩
  · exact ⟨rfl, .inr ⟨w.heap.size + 1, 1, #[.slice none 0 0, .slice none 0 0], rfl, by omega, hR, Nat.le_refl _, by decide, rfl, rfl⟩⟩
  · intro i s C' hs hC'
    match i, hs, hC' with
    | 0, hs, hC' =>
      simp at hs hC'
      subst hs hC'
      exact ⟨World.ownsRow_nil _ _ _ _, World.ownsRow_nil _ _ _ _, Jn.ok_none⟩
    | i + 1, hs, hC' => simp at hs
  · exact ⟨World.ownsRow_nil _ _ _ _, rfl, fun i u hu => by simp at hu⟩
  · exact ⟨World.ownsRow_nil _ _ _ _, rfl, fun i u hu => by simp at hu⟩
  · exact ⟨World.ownsRow_nil _ _ _ _, rfl, fun i u hu => by simp at hu⟩

set_option maxHeartbeats 8000000 in
set_option maxRecDepth 100000 in
theorem begin_any (w : World) (vs : Value) (hP : PowAt w) (hWd : WordsAt w) :
    Calls Tryz.prog 38 #[vs, .bool false] w fun e w' => e = .returned (.tuple #[.pointer (some ⟨w.heap.size + 2, 0, none⟩), .bool true]) ∧ SInv w.heap.size (w.heap.size + 2) w.heap.size w' Jn.none0 1 ∧ Below w.heap.size w w' := by
  obtain ⟨w1, hw1⟩ : ∃ w1, w1 = begW w := ⟨_, rfl⟩
  obtain ⟨hB1, hlaw1⟩ := beg_law w
  rw [← hw1] at hB1 hlaw1
  obtain ⟨W, hW⟩ : ∃ W, W = w.heap.size + 2 := ⟨_, rfl⟩
  rw [← hW] at hlaw1 ⊢
  have hok := Jn.ok_none
  have hLw := hB1.size
  have HOP : Hid (Calls Tryz.prog 65 #[.pointer (some ⟨W, 0, none⟩), .int .i64 0] w1 (OpenedPost w.heap.size W w.heap.size w1 [Jn.none0] (⟨#[]⟩, ⟨#[]⟩, 0, 0) 0 0 0 0 Jn.none0 1)) :=
    opened_last _ _ _ _ _ w1 _ [Jn.none0] _ 0 0 0 0 Jn.none0 1 hlaw1 (Nat.le_refl _) (Nat.le_refl _) rfl rfl (hWd.below hWd.1 hB1) (hP.below hP.1 hB1) (by show (⟨#[]⟩ : ByteArray).size ≤ _; exact Nat.zero_le _) (by show (⟨#[]⟩ : ByteArray).size ≤ _; exact Nat.zero_le _) beg_empty (by omega) (by omega) (by omega)
  obtain ⟨d', hpd, hdk', hsz⟩ := DiskOk.move (d := ((⟨#[]⟩, ⟨#[]⟩, 0, 0) : DS)) (f := 1) (.inr rfl) hok (by intro p hp; simp [Jn.none0] at hp) (Nat.le_trans (all_room hok).1 (Nat.le_trans (all_room hok).2 (by omega)))
  have hrm := (all_room hok).2
  have hra := (all_room hok).1
  have HST : Hid (∀ (x : World) (S' B' : Nat) (v : Value), LawAt w.heap.size W w.heap.size x.heap.size w1.heap.size x (.pointer (some ⟨S', 0, none⟩)) [Jn.none0] (⟨#[]⟩, ⟨#[]⟩, 0, 0) (0 + 3) (0 + 3) 0 → StAt w.heap.size x S' B' Jn.none0 (1 - 1) → ARow x w1.heap.size v (moveActs Jn.none0 1) → Below w.heap.size w1 x →
      Calls Tryz.prog 68 #[.pointer (some ⟨W, 0, none⟩), v, .int .i64 0] x (fun e w9 => e = .returned (.bool true) ∧ SInv w.heap.size W w.heap.size w9 Jn.none0 1 ∧ Below w.heap.size w w9)) := by
    intro x S' B' v hl hs' hr hb
    refine (settles_any _ _ _ x.heap.size w1.heap.size 0 x _ [Jn.none0] _ d' (0 + 3) (0 + 3) 0 Jn.none0 v _ hl hLw (Nat.le_refl _) hb.size hr (by simp [moveActs]) hpd rfl hok (by omega) (by omega) (by simp)).mono ?_
    rintro e w9 ⟨rfl, hl9, hf9⟩
    refine ⟨rfl, ⟨S', B', 1 - 1, [Jn.none0], d', 0 + 3, 0 + 3, 0 + 3, hl9, hs'.fr hf9 (by decide) (by decide) (by decide) (by simp), by simp, by simp, by omega, by omega, by omega, hdk', by omega, by intro p hp; simp [Jn.none0] at hp⟩, ?_⟩
    exact (hB1.trans hb).trans hf9.below
  clear hlaw1 hB1 hpd hdk' hsz hrm hra hok hP hWd
  unfold begW beg2 beg1 at hw1
  go_enter Tryz.func38, Tryz.ntmps38
  go_upto_region 2 with fail
  rw [← hw1, show w.heap.size + 1 + 1 = W from hW.symm]
  have HW1 := hide hw1
  have HWW := hide hW
  clear hw1 hW
  go_wp2_with fail
  refine HOP.out.mono ?_
  rintro e w2 ⟨S', B', v, he, hl2, hs2, hr2, hb2⟩
  have he' : e = .returned (.tuple #[v, .int .i64 0, .bool true]) := he
  clear he
  subst he'
  have HR := hide (HST.out w2 S' B' v hl2 hs2 hr2 hb2)
  clear hl2 hs2 hr2 hb2 HST HOP
  go_wp2_with fail
  refine HR.out.mono ?_
  rintro e w9 ⟨rfl, hfin⟩
  have HFIN := hide hfin
  clear hfin HR
  go_wp2_with fail
  go_ret2
  exact ⟨rfl, HFIN.out⟩
end Go.Proofs.YtfphfhbgkfobcaaGreatDoor

end
