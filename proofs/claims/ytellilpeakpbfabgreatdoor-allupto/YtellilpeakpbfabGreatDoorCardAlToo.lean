import Derived.Test.YtellilpeakpbfabGreatDoorShowRToo
import Derived.Test.YtellilpeakpbfabGreatDoorProcLToo
import Derived.Test.YtellilpeakpbfabGreatDoorPlyCToo
import Derived.Test.YtellilpeakpbfabGreatDoorCards
import Derived.Test.YtellilpeakpbfabGreatDoorTie
import Derived.Test.YtellilpeakpbfabGreatDoorCardRToo
import Derived.ProofKit
import Derived.OpenShut
import Derived.Deep.DeepHandedRow
import Derived.Lib.LaidTab
import Derived.SizedLaws
section
/-
  The walks of checked and shown.
-/
namespace Go.Proofs.YtellilpeakpbfabGreatDoor
open Go.RowKit

set_option maxHeartbeats 400000 in
theorem checked_any (s : ByteArray) (w : World) (hW : WordsAt w) :
    Calls Tryz.prog 74 #[.string s] w fun e w' => e = .returned (.bool true) ∧ Below w.heap.size w w' := by
  have hr := check_any s w hW
  have hc := refCheck_any s
  rw [Ck.read_same] at hr
  generalize Ck.refCheck s.data.toList = p at *
  obtain ⟨p1, p2⟩ := p
  have HR := hide hr
  have HC := hide hc
  clear hr hc hW
  go_enter Tryz.func74, Tryz.ntmps74
  go_wp2_with fail
  refine HR.out.mono ?_
  rintro e w1 ⟨rfl, hb⟩
  have HB := hide hb
  clear hb
  go_wp2_with fail
  refine (HC.out _).mono ?_
  rintro e w2 ⟨rfl, hb⟩
  have HB2 := hide hb
  clear hb
  go_wp2
  all_goals go_ret
  all_goals exact ⟨by simp, HB.out.trans (HB2.out.mono HB.out.size)⟩

set_option maxHeartbeats 400000 in
theorem shown_any (s : ByteArray) (w : World) (hW : WordsAt w) (hP : PowAt w) :
    Calls Tryz.prog 75 #[.string s] w fun e w' => e = .returned (.bool true) ∧ Below w.heap.size w w' := by
  have hr := show_any s w hW hP
  have hc := refShow_any s
  generalize Ck.showP s.data.toList = p at *
  obtain ⟨q, p2⟩ := p
  obtain ⟨Q, hQ⟩ : ∃ Q : ByteArray, Q = ⟨q.toArray⟩ := ⟨_, rfl⟩
  have hr' : Calls Tryz.prog 110 #[.string s] w fun e w' => e = .returned (.tuple #[.string Q, .int .i64 p2]) ∧ Below w.heap.size w w' := by rw [hQ]; exact hr
  have hc' : ∀ w, Calls Tryz.prog 111 #[.string s] w fun e w' => e = .returned (.tuple #[.string Q, .int .i64 p2]) ∧ Below w.heap.size w w' := by rw [hQ]; exact hc
  have HR := hide hr'
  have HC := hide hc'
  clear hr hc hr' hc' hW hP hQ
  go_enter Tryz.func75, Tryz.ntmps75
  go_wp2_with fail
  refine HR.out.mono ?_
  rintro e w1 ⟨rfl, hb⟩
  have HB := hide hb
  clear hb
  go_wp2_with fail
  refine (HC.out _).mono ?_
  rintro e w2 ⟨rfl, hb⟩
  have HB2 := hide hb
  clear hb
  go_wp2
  all_goals go_ret
  all_goals exact ⟨by simp, HB.out.trans (HB2.out.mono HB.out.size)⟩

end Go.Proofs.YtellilpeakpbfabGreatDoor

end

section
/-
  The walk of World.step where crashes may come: Check, Show, Get, Cells, Procs; every kind.
-/
set_option linter.unusedVariables false
namespace Go.Proofs.YtellilpeakpbfabGreatDoor
open Go.RowKit

set_option maxHeartbeats 8000000 in
set_option maxRecDepth 100000 in
theorem stepC_1 (L W D m : Nat) (w : World) (o : OpD) (ho : o.kind = 1) (hL : L ≤ w.heap.size) (hC : ∀ w1, Below w.heap.size w w1 → Calls Tryz.prog 74 #[.string o.s] w1 (StepPostC L W D m w1)) :
    Calls Tryz.prog 51 #[.pointer (some ⟨W, 0, none⟩), .agg o.cells, .bool true] w (StepPostC L W D m w) := by
  obtain ⟨w1, hw1⟩ : ∃ w1, w1 = w.alloc (.cells o.cells 106) := ⟨_, rfl⟩
  obtain ⟨B0, hB0⟩ : ∃ B0, B0 = w.heap.size := ⟨_, rfl⟩
  have hB1 : Below w.heap.size w w1 := by rw [hw1]; exact (Below.refl _ _).alloc (Nat.le_refl _) _
  have hbo : w1.heap[B0]? = some (.cells o.cells 106 (0, 0)) := by rw [hw1, hB0]; exact heap_alloc_new w _
  have HC := hide (hC w1 hB1)
  have HBK := hide (fun e w9 => StepPostC.back (D := D) (W := W) (m := m) (e := e) (w9 := w9) hL hB1)
  obtain ⟨kk, nn, mm, s, t, lo, ln, lc, cut, wo, wn, wc⟩ := o
  simp only at ho
  subst ho
  simp only [OpD.cells] at hbo hw1 HC ⊢
  have p0 := (cell_of_row w1 B0 0 _ _ _ hbo).trans rfl
  have p1 := (cell_of_row w1 B0 1 _ _ _ hbo).trans rfl
  have p2 := (cell_of_row w1 B0 2 _ _ _ hbo).trans rfl
  have p3 := (cell_of_row w1 B0 3 _ _ _ hbo).trans rfl
  have p4 := (cell_of_row w1 B0 4 _ _ _ hbo).trans rfl
  have p5 := (cell_of_row w1 B0 5 _ _ _ hbo).trans rfl
  have p6 := (cell_of_row w1 B0 6 _ _ _ hbo).trans rfl
  have p7 := (cell_of_row w1 B0 7 _ _ _ hbo).trans rfl
  clear hC hB1 hbo
  go_enter Tryz.func51, Tryz.ntmps51
  go_upto_region 2 with fail
  rw [← hw1, ← hB0]
  have HW1 := hide hw1
  have HB0 := hide hB0
  clear hw1 hB0
  go_wp2_with fail
  refine HC.out.mono ?_
  rintro e w9 hpost
  obtain rfl := hpost.1
  have HFIN := hide (HBK.out _ _ hpost)
  clear hpost HC HBK
  go_wp2_with fail
  go_ret
  exact HFIN.out

set_option maxHeartbeats 8000000 in
set_option maxRecDepth 100000 in
theorem stepC_2 (L W D m : Nat) (w : World) (o : OpD) (ho : o.kind = 2) (hL : L ≤ w.heap.size) (hC : ∀ w1, Below w.heap.size w w1 → Calls Tryz.prog 75 #[.string o.s] w1 (StepPostC L W D m w1)) :
    Calls Tryz.prog 51 #[.pointer (some ⟨W, 0, none⟩), .agg o.cells, .bool true] w (StepPostC L W D m w) := by
  obtain ⟨w1, hw1⟩ : ∃ w1, w1 = w.alloc (.cells o.cells 106) := ⟨_, rfl⟩
  obtain ⟨B0, hB0⟩ : ∃ B0, B0 = w.heap.size := ⟨_, rfl⟩
  have hB1 : Below w.heap.size w w1 := by rw [hw1]; exact (Below.refl _ _).alloc (Nat.le_refl _) _
  have hbo : w1.heap[B0]? = some (.cells o.cells 106 (0, 0)) := by rw [hw1, hB0]; exact heap_alloc_new w _
  have HC := hide (hC w1 hB1)
  have HBK := hide (fun e w9 => StepPostC.back (D := D) (W := W) (m := m) (e := e) (w9 := w9) hL hB1)
  obtain ⟨kk, nn, mm, s, t, lo, ln, lc, cut, wo, wn, wc⟩ := o
  simp only at ho
  subst ho
  simp only [OpD.cells] at hbo hw1 HC ⊢
  have p0 := (cell_of_row w1 B0 0 _ _ _ hbo).trans rfl
  have p1 := (cell_of_row w1 B0 1 _ _ _ hbo).trans rfl
  have p2 := (cell_of_row w1 B0 2 _ _ _ hbo).trans rfl
  have p3 := (cell_of_row w1 B0 3 _ _ _ hbo).trans rfl
  have p4 := (cell_of_row w1 B0 4 _ _ _ hbo).trans rfl
  have p5 := (cell_of_row w1 B0 5 _ _ _ hbo).trans rfl
  have p6 := (cell_of_row w1 B0 6 _ _ _ hbo).trans rfl
  have p7 := (cell_of_row w1 B0 7 _ _ _ hbo).trans rfl
  clear hC hB1 hbo
  go_enter Tryz.func51, Tryz.ntmps51
  go_upto_region 4 with fail
  rw [← hw1, ← hB0]
  have HW1 := hide hw1
  have HB0 := hide hB0
  clear hw1 hB0
  go_wp2_with fail
  refine HC.out.mono ?_
  rintro e w9 hpost
  obtain rfl := hpost.1
  have HFIN := hide (HBK.out _ _ hpost)
  clear hpost HC HBK
  go_wp2_with fail
  go_ret
  exact HFIN.out

set_option maxHeartbeats 8000000 in
set_option maxRecDepth 100000 in
theorem stepC_5 (L W D m : Nat) (w : World) (o : OpD) (ho : o.kind = 5) (hL : L ≤ w.heap.size) (hC : ∀ w1, Below w.heap.size w w1 → Calls Tryz.prog 76 #[.pointer (some ⟨W, 0, none⟩), .agg o.cells, .bool true] w1 (StepPostC L W D m w1)) :
    Calls Tryz.prog 51 #[.pointer (some ⟨W, 0, none⟩), .agg o.cells, .bool true] w (StepPostC L W D m w) := by
  obtain ⟨w1, hw1⟩ : ∃ w1, w1 = w.alloc (.cells o.cells 106) := ⟨_, rfl⟩
  obtain ⟨B0, hB0⟩ : ∃ B0, B0 = w.heap.size := ⟨_, rfl⟩
  have hB1 : Below w.heap.size w w1 := by rw [hw1]; exact (Below.refl _ _).alloc (Nat.le_refl _) _
  have hbo : w1.heap[B0]? = some (.cells o.cells 106 (0, 0)) := by rw [hw1, hB0]; exact heap_alloc_new w _
  have HC := hide (hC w1 hB1)
  have HBK := hide (fun e w9 => StepPostC.back (D := D) (W := W) (m := m) (e := e) (w9 := w9) hL hB1)
  obtain ⟨kk, nn, mm, s, t, lo, ln, lc, cut, wo, wn, wc⟩ := o
  simp only at ho
  subst ho
  simp only [OpD.cells] at hbo hw1 HC ⊢
  have p0 := (cell_of_row w1 B0 0 _ _ _ hbo).trans rfl
  have p1 := (cell_of_row w1 B0 1 _ _ _ hbo).trans rfl
  have p2 := (cell_of_row w1 B0 2 _ _ _ hbo).trans rfl
  have p3 := (cell_of_row w1 B0 3 _ _ _ hbo).trans rfl
  have p4 := (cell_of_row w1 B0 4 _ _ _ hbo).trans rfl
  have p5 := (cell_of_row w1 B0 5 _ _ _ hbo).trans rfl
  have p6 := (cell_of_row w1 B0 6 _ _ _ hbo).trans rfl
  have p7 := (cell_of_row w1 B0 7 _ _ _ hbo).trans rfl
  clear hC hB1 hbo
  go_enter Tryz.func51, Tryz.ntmps51
  go_upto_region 10 with fail
  rw [← hw1, ← hB0]
  have HW1 := hide hw1
  have HB0 := hide hB0
  clear hw1 hB0
  go_wp2_with fail
  refine HC.out.mono ?_
  rintro e w9 hpost
  obtain rfl := hpost.1
  have HFIN := hide (HBK.out _ _ hpost)
  clear hpost HC HBK
  go_wp2_with fail
  go_ret
  exact HFIN.out

set_option maxHeartbeats 8000000 in
set_option maxRecDepth 100000 in
theorem stepC_6 (L W D m : Nat) (w : World) (o : OpD) (ho : o.kind = 6) (hL : L ≤ w.heap.size) (hC : ∀ w1, Below w.heap.size w w1 → Calls Tryz.prog 76 #[.pointer (some ⟨W, 0, none⟩), .agg o.cells, .bool true] w1 (StepPostC L W D m w1)) :
    Calls Tryz.prog 51 #[.pointer (some ⟨W, 0, none⟩), .agg o.cells, .bool true] w (StepPostC L W D m w) := by
  obtain ⟨w1, hw1⟩ : ∃ w1, w1 = w.alloc (.cells o.cells 106) := ⟨_, rfl⟩
  obtain ⟨B0, hB0⟩ : ∃ B0, B0 = w.heap.size := ⟨_, rfl⟩
  have hB1 : Below w.heap.size w w1 := by rw [hw1]; exact (Below.refl _ _).alloc (Nat.le_refl _) _
  have hbo : w1.heap[B0]? = some (.cells o.cells 106 (0, 0)) := by rw [hw1, hB0]; exact heap_alloc_new w _
  have HC := hide (hC w1 hB1)
  have HBK := hide (fun e w9 => StepPostC.back (D := D) (W := W) (m := m) (e := e) (w9 := w9) hL hB1)
  obtain ⟨kk, nn, mm, s, t, lo, ln, lc, cut, wo, wn, wc⟩ := o
  simp only at ho
  subst ho
  simp only [OpD.cells] at hbo hw1 HC ⊢
  have p0 := (cell_of_row w1 B0 0 _ _ _ hbo).trans rfl
  have p1 := (cell_of_row w1 B0 1 _ _ _ hbo).trans rfl
  have p2 := (cell_of_row w1 B0 2 _ _ _ hbo).trans rfl
  have p3 := (cell_of_row w1 B0 3 _ _ _ hbo).trans rfl
  have p4 := (cell_of_row w1 B0 4 _ _ _ hbo).trans rfl
  have p5 := (cell_of_row w1 B0 5 _ _ _ hbo).trans rfl
  have p6 := (cell_of_row w1 B0 6 _ _ _ hbo).trans rfl
  have p7 := (cell_of_row w1 B0 7 _ _ _ hbo).trans rfl
  clear hC hB1 hbo
  go_enter Tryz.func51, Tryz.ntmps51
  go_upto_region 10 with fail
  rw [← hw1, ← hB0]
  have HW1 := hide hw1
  have HB0 := hide hB0
  clear hw1 hB0
  go_wp2_with fail
  refine HC.out.mono ?_
  rintro e w9 hpost
  obtain rfl := hpost.1
  have HFIN := hide (HBK.out _ _ hpost)
  clear hpost HC HBK
  go_wp2_with fail
  go_ret
  exact HFIN.out

set_option maxHeartbeats 8000000 in
set_option maxRecDepth 100000 in
theorem stepC_9 (L W D m : Nat) (w : World) (o : OpD) (ho : o.kind = 9) (hL : L ≤ w.heap.size) (hC : ∀ w1, Below w.heap.size w w1 → Calls Tryz.prog 77 #[.pointer (some ⟨W, 0, none⟩), .agg o.cells, .bool true] w1 (StepPostC L W D m w1)) :
    Calls Tryz.prog 51 #[.pointer (some ⟨W, 0, none⟩), .agg o.cells, .bool true] w (StepPostC L W D m w) := by
  obtain ⟨w1, hw1⟩ : ∃ w1, w1 = w.alloc (.cells o.cells 106) := ⟨_, rfl⟩
  obtain ⟨B0, hB0⟩ : ∃ B0, B0 = w.heap.size := ⟨_, rfl⟩
  have hB1 : Below w.heap.size w w1 := by rw [hw1]; exact (Below.refl _ _).alloc (Nat.le_refl _) _
  have hbo : w1.heap[B0]? = some (.cells o.cells 106 (0, 0)) := by rw [hw1, hB0]; exact heap_alloc_new w _
  have HC := hide (hC w1 hB1)
  have HBK := hide (fun e w9 => StepPostC.back (D := D) (W := W) (m := m) (e := e) (w9 := w9) hL hB1)
  obtain ⟨kk, nn, mm, s, t, lo, ln, lc, cut, wo, wn, wc⟩ := o
  simp only at ho
  subst ho
  simp only [OpD.cells] at hbo hw1 HC ⊢
  have p0 := (cell_of_row w1 B0 0 _ _ _ hbo).trans rfl
  have p1 := (cell_of_row w1 B0 1 _ _ _ hbo).trans rfl
  have p2 := (cell_of_row w1 B0 2 _ _ _ hbo).trans rfl
  have p3 := (cell_of_row w1 B0 3 _ _ _ hbo).trans rfl
  have p4 := (cell_of_row w1 B0 4 _ _ _ hbo).trans rfl
  have p5 := (cell_of_row w1 B0 5 _ _ _ hbo).trans rfl
  have p6 := (cell_of_row w1 B0 6 _ _ _ hbo).trans rfl
  have p7 := (cell_of_row w1 B0 7 _ _ _ hbo).trans rfl
  clear hC hB1 hbo
  go_enter Tryz.func51, Tryz.ntmps51
  go_upto_region 14 with fail
  rw [← hw1, ← hB0]
  have HW1 := hide hw1
  have HB0 := hide hB0
  clear hw1 hB0
  go_wp2_with fail
  refine HC.out.mono ?_
  rintro e w9 hpost
  obtain rfl := hpost.1
  have HFIN := hide (HBK.out _ _ hpost)
  clear hpost HC HBK
  go_wp2_with fail
  go_ret
  exact HFIN.out


/-- a step of any kind. -/
theorem step_all (L W D m : Nat) (w : World) (C : Jn.Con) (o : OpD) (ho : o.kind ∈ [1, 2, 3, 4, 5, 6, 7, 8, 9, 10, 11, 12, 13, 14]) (h : SInvC L W D w C m) (hm : m ≤ 1200000000000) (hP : PowAt w) (hWd : WordsAt w) (hpL : 1 < L) (hO : OpOk L w o) :
    Calls Tryz.prog 51 #[.pointer (some ⟨W, 0, none⟩), .agg o.cells, .bool true] w (StepPostC L W D m w) := by
  have hL := h.low
  by_cases h9 : o.kind ∈ [3, 4, 7, 8, 10, 11, 12, 13, 14]
  · exact step_lasts L W D m w C o h9 h hm hP hWd hpL hO
  · have h5 : o.kind = 1 ∨ o.kind = 2 ∨ o.kind = 5 ∨ o.kind = 6 ∨ o.kind = 9 := by
      simp only [List.mem_cons, List.not_mem_nil, or_false] at ho h9
      omega
    rcases h5 with ho | ho | ho | ho | ho
    · exact stepC_1 L W D m w o ho hL fun w1 hb => (checked_any o.s w1 (hWd.below hWd.1 hb)).mono fun e w9 he => by rw [he.1]; exact step_sameC (h.below hb) he.2
    · exact stepC_2 L W D m w o ho hL fun w1 hb => (shown_any o.s w1 (hWd.below hWd.1 hb) (hP.below hP.1 hb)).mono fun e w9 he => by rw [he.1]; exact step_sameC (h.below hb) he.2
    · exact stepC_5 L W D m w o ho hL fun w1 hb => cells_getC L W D m w1 C o ho (h.below hb) (by omega)
    · exact stepC_6 L W D m w o ho hL fun w1 hb => cells_cellsC L W D m w1 C o ho (h.below hb) (by omega)
    · exact stepC_9 L W D m w o ho hL fun w1 hb => procs_procsC L W D m w1 C o ho (h.below hb) (by omega)
end Go.Proofs.YtellilpeakpbfabGreatDoor

end

section
/-
  All.
-/
namespace Go.Proofs.YtellilpeakpbfabGreatDoor
open Go.RowKit

set_option maxHeartbeats 4000000 in
set_option maxRecDepth 100000 in
theorem lawall_any (w : World) (ao : Option Addr) (cap : Nat) (ops : List OpD) (hs : 0 < ops.length → ∃ g z, ao = some ⟨g, z, none⟩ ∧ ScrAt w g z ops) (hP : PowAt w) (hWd : WordsAt w) (hn : ops.length ≤ 200000000000)
    (hm : ∀ o ∈ ops, OpOk w.heap.size w o) :
    Calls Tryz.prog 9 #[.slice ao ops.length cap] w fun e w' => e = .returned (.bool true) ∧ Below w.heap.size w w' := by
  obtain ⟨w1, hw1⟩ : ∃ w1, w1 = w.alloc (.cells #[.int .i64 1, .int .i64 2, .int .i64 3, .int .i64 4, .int .i64 5, .int .i64 6, .int .i64 7, .int .i64 8, .int .i64 9, .int .i64 10, .int .i64 11, .int .i64 12, .int .i64 13, .int .i64 14] 3) := ⟨_, rfl⟩
  have hB1 : Below w.heap.size w w1 := by rw [hw1]; exact (Below.refl _ _).alloc (Nat.le_refl _) _
  have hbk : w1.heap[w.heap.size]? = some (.cells #[.int .i64 1, .int .i64 2, .int .i64 3, .int .i64 4, .int .i64 5, .int .i64 6, .int .i64 7, .int .i64 8, .int .i64 9, .int .i64 10, .int .i64 11, .int .i64 12, .int .i64 13, .int .i64 14] 3 (0, 0)) := by rw [hw1]; exact heap_alloc_new w _
  have hkn : KnAt w1 w.heap.size [1, 2, 3, 4, 5, 6, 7, 8, 9, 10, 11, 12, 13, 14] := by
    refine ⟨(Array.getElem?_eq_some_iff.1 hbk).1, fun k x hx => ?_⟩
    rw [cell_of_row w1 w.heap.size k _ _ _ hbk]
    match k, hx with
    | 0, hx => simp at hx; subst hx; rfl
    | 1, hx => simp at hx; subst hx; rfl
    | 2, hx => simp at hx; subst hx; rfl
    | 3, hx => simp at hx; subst hx; rfl
    | 4, hx => simp at hx; subst hx; rfl
    | 5, hx => simp at hx; subst hx; rfl
    | 6, hx => simp at hx; subst hx; rfl
    | 7, hx => simp at hx; subst hx; rfl
    | 8, hx => simp at hx; subst hx; rfl
    | 9, hx => simp at hx; subst hx; rfl
    | 10, hx => simp at hx; subst hx; rfl
    | 11, hx => simp at hx; subst hx; rfl
    | 12, hx => simp at hx; subst hx; rfl
    | 13, hx => simp at hx; subst hx; rfl
    | k + 14, hx => simp at hx
  have hP1 := hP.below hP.1 hB1
  have hm1 : ∀ o ∈ ops, OpOk w1.heap.size w1 o := fun o ho => ((hm o ho).below hB1).up hB1.size
  have HPL := hide (plays_c w1 ao cap w.heap.size ops [1, 2, 3, 4, 5, 6, 7, 8, 9, 10, 11, 12, 13, 14] (fun h0 => by obtain ⟨g, z, e, hsc⟩ := hs h0; exact ⟨g, z, e, hsc.below hB1⟩) hkn hP1 (hWd.below hWd.1 hB1) hn (by simp)
    (fun o ho => ⟨(hm1 o ho).cut, by obtain ⟨l, hl⟩ := (hm1 o ho).w; exact ⟨l, raws_of hl⟩⟩)
    (fun x W D m C o ho hk hi hm' hp hw hb => step_all w1.heap.size W D m x C o hk hi hm' hp hw hP1.1 ((hm1 o ho).below hb)))
  simp only [List.length_cons, List.length_nil] at HPL
  have HB1 := hide hB1
  clear hs hP hWd hm hm1 hB1 hbk hkn hP1
  go_enter Tryz.func9, Tryz.ntmps9
  go_wp2_with fail
  rw [← hw1]
  refine HPL.out.mono ?_
  rintro e w9 ⟨rfl, hb9⟩
  have HFIN := hide (HB1.out.trans (hb9.mono HB1.out.size))
  clear hb9 HPL hw1
  go_wp2_with fail
  go_ret
  exact ⟨rfl, HFIN.out⟩
end Go.Proofs.YtellilpeakpbfabGreatDoor

end

section
/-
  The row of the law All in its second form, and its tied card.
-/
namespace Go.Proofs.YtellilpeakpbfabGreatDoor.Ald
open Go.ChangeShapes Go.WideShapes Go.ChangeAt Go.RowKit
open Go.ChangeMaps (open_string shut_string)
open Ckd (words_of pow_of layVar own)

theorem bulk_one {H : Type} (d : DataW H) : 1 ≤ Rows.uptoBulk d := by
  cases d with
  | lit l => cases l <;> simp [Rows.uptoBulk]
  | nil => simp [Rows.uptoBulk]
  | ptr d => simp [Rows.uptoBulk]
  | slice elems spare => simp [Rows.uptoBulk]
  | agg parts => simp [Rows.uptoBulk]
  | iface t d => simp [Rows.uptoBulk]
  | map entries => simp [Rows.uptoBulk]
  | held h => simp [Rows.uptoBulk]
theorem bulk_len {H : Type} (l : List (DataW H)) : l.length ≤ Rows.uptoBulkAll l := by
  induction l with
  | nil => simp [Rows.uptoBulkAll]
  | cons x r ih => have := bulk_one x; simp only [Rows.uptoBulkAll, List.length_cons]; omega
theorem laidOut : laidOutB Tryz.prog = true := by kernel_rfl

set_option maxRecDepth 100000 in
theorem contract (H : Type) (enc : TypeId × Value → H) (W : World) (base : Nat) (args : Array Value) (ds gs : List (DataW H)) (before : List MemPlace)
    (hval : ∀ (j : Nat) t v, Tryz.f9.params[j]? = some t → args[j]? = some v → Value.okWide Tryz.prog W .any base t v)
    (hW : DataW.Whole enc Tryz.prog Tryz.f9.params.toList Rows.allSpec.vars false W args.toList ds gs before) (hz : (DataW.weightsEach Tryz.prog (Tryz.f9.params.toList ++ (Rows.OpenSpec.upto Rows.allSpec).bare.plain.varTypes Tryz.prog) (ds ++ gs)).all (· ≤ reachBytes) = true) (hL : laidMetH Tryz.prog Rows.allUptoRow.laid W) (hk : Rows.uptoSmall H (ds ++ gs) = true) :
    Calls Tryz.prog 9 args W fun e W' => ∃ v, e = .returned v ∧ Rows.allSpec.post enc Tryz.prog Tryz.f9 false true false false W args v W' := by
  have hW' := hW
  obtain ⟨p, q, hA0, hV, rfl, hfz, hnd⟩ := hW
  have hA : DataW.TrodAll enc Tryz.prog W 0 (fun _ => true) true Tryz.f9.params.toList args.toList ds p := hA0
  rw [Tryz.params9] at hA hval hz
  obtain ⟨v0, vs0, d0, ds0, p0, q0, hargs, rfl, rfl, h0, r0⟩ := trodAll_cons hA
  obtain ⟨rfl, rfl, rfl⟩ := trodAll_nil r0
  obtain rfl : args = #[v0] := Array.toList_inj.1 (by rw [hargs])
  obtain ⟨rfl, rfl⟩ := trodVars_none hV
  obtain ⟨a0, len0, cap0, rfl⟩ := okWide_slice Tryz.underlying69 (hval 0 69 v0 rfl rfl)
  obtain ⟨fuel, h0'⟩ := h0
  obtain ⟨ao, cap, ops, hv0, hscr, hbd, hor⟩ := Scd.scr_of2 (v := .slice a0 len0 cap0) h0'
  rw [hv0] at hW' h0' ⊢
  have hn : ops.length ≤ 200000000000 := by
    rcases hor with rfl | ⟨el, sp, hd, he⟩
    · simp
    · have hd' : d0 = .slice el sp := hd
      subst hd'
      have h : Rows.uptoBulkAll ([DataW.slice el sp] ++ ([] : List (DataW H))) ≤ 1048576 := of_decide_eq_true hk
      simp only [List.append_nil, Rows.uptoBulkAll, Rows.uptoBulk] at h
      have := bulk_len el
      omega
  have hli : ∀ v l, Scd.ListOf W (d0.weights Tryz.prog 69) v l → ArgsAt W.heap.size W v l := by
    intro v l hl
    refine ⟨hl.ints, hl.low, ?_, hl.nums⟩
    rcases hl.size with rfl | ⟨n, hn, hs⟩
    · simp
    · have h9 : n ≤ reachBytes := of_decide_eq_true (List.all_eq_true.1 hz n (DataW.weights_mem_each (j := 0) (t := 69) (d := d0) rfl rfl n hn))
      simp only [reachBytes] at h9
      omega
  have hbd2 : ∀ o ∈ ops, OpOk W.heap.size W o := by
    intro o ho
    obtain ⟨-, b, c, ⟨l, hl⟩, ⟨l2, hl2⟩⟩ := hbd o ho
    exact ⟨b, c, ⟨l, hli _ _ hl⟩, ⟨l2, hli _ _ hl2⟩⟩
  clear hA0
  simp only [List.append_nil] at hW'
  have hlt : ∀ x ∈ p0, x.block < W.heap.size := fun x hx => by simpa using hW'.lt x (by simpa using hx)
  obtain ⟨ps, hl, _⟩ := hL
  obtain ⟨_, _, _, _, _, q0, _, _, _, _, hl, _⟩ := hl
  obtain ⟨_, _, _, _, _, q1, _, _, _, _, hl, _⟩ := hl
  have hP := pow_of hl
  obtain ⟨_, _, _, _, _, q2, _, _, _, _, hl, _⟩ := hl
  refine (lawall_any W ao cap ops hscr hP (words_of hl) hn hbd2).mono fun e W' ⟨he, hb⟩ => ?_
  subst he
  refine ⟨_, rfl, _, _, _, [], p0 ++ [], [], hW', ?_, ?_, rfl, hb.frame _, fun h => by cases h⟩
  · exact trodAll_cons_mk (shut_bool Tryz.underlying4 _) trodAll_mk0
  · exact trodAll_cons_mk (Below.trod laidOut (by kernel_rfl) (of_decide_eq_true (by kernel_rfl)) ⟨fuel, h0'⟩ hb hlt) trodAll_mk0

theorem laid_met (os : Os) : laidMet Tryz.prog Rows.allUptoRow.laid (({ World.holding Tryz.prog os ⟨#[], #[], []⟩ with heap := (World.holding Tryz.prog os ⟨#[], #[], []⟩).heap.modify 0 (layVar Rows.laid_cellar_source_words) |>.modify 1 (layVar Rows.laid_internal_strconv_uint64pow10) |>.modify 2 (layVar Rows.laid_math_bits_deBruijn32tab) |>.modify 3 (layVar Rows.laid_math_bits_deBruijn64tab) }).forCall (fun _ _ => 0) ⟨#[], #[.slice none 0 0], []⟩).memory :=
  laidMet_of_run' 8 (by kernel_rfl) (by kernel_rfl)
theorem reads (os : Os) {H : Type} (enc : TypeId × Value → H) : ∃ places, DataW.whole enc Tryz.prog (({ World.holding Tryz.prog os ⟨#[], #[], []⟩ with heap := (World.holding Tryz.prog os ⟨#[], #[], []⟩).heap.modify 0 (layVar Rows.laid_cellar_source_words) |>.modify 1 (layVar Rows.laid_internal_strconv_uint64pow10) |>.modify 2 (layVar Rows.laid_math_bits_deBruijn32tab) |>.modify 3 (layVar Rows.laid_math_bits_deBruijn64tab) }).forCall (fun _ _ => 0) ⟨#[], #[.slice none 0 0], []⟩).memory Tryz.f9.params.toList Rows.allSpec.vars false #[Value.slice none 0 0].toList 8 = some ([.nil], [], places) :=
  ⟨[], by kernel_rfl⟩

set_option maxRecDepth 100000 in
theorem lifted (os : Os) (started : os.Started) (H : Type) (enc : TypeId × Value → H) (F : Stop.Interp) :
    ReturnsInHanded {} Tryz.checked os 9 .any ((Rows.OpenSpec.upto Rows.allSpec).preRow enc Tryz.prog Tryz.f9 Rows.allUptoRow.domain false Rows.allUptoRow.laid) (((Rows.OpenSpec.upto Rows.allSpec).at F).post enc Tryz.prog Tryz.f9 false true false false) := by
  obtain ⟨places, hx⟩ := reads os enc
  refine returnsInHanded_of_row (C := Tryz.checked) (s := Rows.OpenSpec.upto Rows.allSpec) own started (by kernel_rfl) Tryz.func9
    (witness_row_at (enc := enc) (C := Tryz.checked) false ({ World.holding Tryz.prog os ⟨#[], #[], []⟩ with heap := (World.holding Tryz.prog os ⟨#[], #[], []⟩).heap.modify 0 (layVar Rows.laid_cellar_source_words) |>.modify 1 (layVar Rows.laid_internal_strconv_uint64pow10) |>.modify 2 (layVar Rows.laid_math_bits_deBruijn32tab) |>.modify 3 (layVar Rows.laid_math_bits_deBruijn64tab) }) #[.slice none 0 0] rfl (by kernel_rfl) (by kernel_rfl) (by kernel_rfl)
      (OpenSpec.preRow_of_cond 8 hx (by kernel_rfl) (fun k hk => by cases hk; kernel_rfl) (by kernel_rfl) (laid_met os))) ?_
  intro W base args ds gs before hval hW _ hcond hz hL _ _
  exact contract H enc W base args ds gs before hval hW hz hL (hcond _ rfl)

theorem said : Rows.AllUptoSaid :=
  OpenClaim.holds_of_cond 9 Tryz.f9 rfl rfl rfl rfl rfl rfl rfl ⟨rfl, rfl, rfl, rfl, rfl⟩ rfl rfl rfl rfl rfl (by kernel_rfl) Tryz.func9 (by kernel_rfl)
    (of_decide_eq_true (by kernel_rfl)) (by unfold Func.isWrapper; first | (rw [if_pos (by decide +kernel)]; kernel_rfl) | (rw [if_neg (by decide +kernel)]; exact ⟨rfl, rfl⟩))
    (fun os started H enc _ F => by rw [OpenClaim.pre_eq_preRow]; exact lifted os started H enc F)

theorem plain (f : FuncId) (fn : Func) (hf : Tryz.pinned.checked.prog.funcNamed Rows.allUptoRow.func = some f) (hfn : Tryz.pinned.checked.prog.funcs[f]? = some fn) :
    false = Tryz.pinned.checked.prog.looks [] ∧ ∀ (j : Nat) t, fn.params[j]? = some t → Tryz.pinned.checked.prog.wantsStandIn t = false := by
  obtain rfl : f = 9 := Option.some.inj ((show Tryz.prog.funcNamed Rows.allUptoRow.func = some 9 by kernel_rfl).symm.trans hf) |>.symm
  obtain rfl : fn = Tryz.f9 := (Option.some.inj (Tryz.func9.symm.trans hfn)).symm
  refine ⟨by kernel_rfl, fun j t ht => ?_⟩
  rw [Tryz.params9] at ht
  obtain rfl : t = 69 := by simpa using Array.mem_of_getElem? ht
  exact (show Tryz.prog.wantsStandIn 69 = false by kernel_rfl)

/-- ████ THE CARD ████ -/
theorem card : Rows.AllUptoCardSaid :=
  Claim7.holds_tied_plain_at .later [] _ _ _ _ said (fun _ h => by cases h) (by kernel_rfl) (fun _ h => by cases h) allUpto_row_tie rfl ⟨rfl, rfl⟩ (by kernel_rfl) rfl plain (by kernel_rfl)
end Go.Proofs.YtellilpeakpbfabGreatDoor.Ald
namespace Go.Proofs.YtellilpeakpbfabGreatDoor
theorem allupto_card : Rows.AllUptoCardSaid := Ald.card
end Go.Proofs.YtellilpeakpbfabGreatDoor

end
