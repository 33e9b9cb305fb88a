import Derived.Test.YtellilpeakpbfaaGreatDoorRefWToo
/-
  The walks of the document's Put and Del.
-/
namespace Go.Proofs.YtellilpeakpbfaaGreatDoor
open Go.RowKit

/-- what the document's Put and Del answer: the list of cells behind, the error. -/
def RefPost (sp : Value) (l : List (Int × Int)) (er : Int) (w : World) (e : Ending) (w' : World) : Prop :=
  ∃ sc', e = .returned (.tuple #[.agg #[sc', sp], .int .i64 er]) ∧ CRow w' 0 sc' l ∧ Below w.heap.size w w'

theorem blk1 (w : World) (o1 o2 : Obj) : ((w.alloc o1).alloc o2).heap[w.heap.size]? = some o1 := by
  rw [Below.heap_alloc _ _ _ (by simp)]; exact heap_alloc_new w o1
theorem blk2 (w : World) (o1 o2 : Obj) : ((w.alloc o1).alloc o2).heap[w.heap.size + 1]? = some o2 := by
  have := heap_alloc_new (w.alloc o1) o2
  rw [World.size_alloc] at this
  exact this
theorem crow_slice {w : World} {b : Nat} {v : Value} {l : List (Int × Int)} (h : CRow w b v l) : ∃ ao cap, v = .slice ao l.length cap := by
  obtain ⟨ao, cap, hv, -⟩ := h.shape
  exact ⟨ao, cap, hv⟩
theorem CRow.below {w w' : World} {b : Nat} {v : Value} {l : List (Int × Int)} (h : CRow w b v l) (hb : Below w.heap.size w w') : CRow w' b v l := ownsRow_below h hb
theorem PRow.below {w w' : World} {b : Nat} {v : Value} {l : List (List UInt8 × List UInt8)} (h : PRow w b v l) (hb : Below w.heap.size w w') : PRow w' b v l := ownsRow_below h hb

set_option maxHeartbeats 1000000 in
set_option maxRecDepth 100000 in
theorem refPut_key (sc sp : Value) (k x : Int) (w : World) (so po : Option Addr) (sn sk pn pk : Nat) (hsc : sc = .slice so sn sk) (hsp : sp = .slice po pn pk) (hk : Jn.isKey k = false) :
    Calls Tryz.prog 109 #[.agg #[sc, sp], .int .i64 k, .int .i64 x] w fun e w' => e = .returned (.tuple #[.agg #[sc, sp], .int .i64 5]) ∧ Below w.heap.size w w' := by
  subst hsc hsp
  have hk' : k < 0 ∨ 99 < k := by unfold Jn.isKey at hk; simp at hk; omega
  clear hk
  rcases hk' with h | h
  · have t1 : decide (k < 0) = true := decide_eq_true h
    go_enter Tryz.func109, Tryz.ntmps109
    go_wp2
    exact bodyPost_ret (v := .tuple #[.agg #[.slice so sn sk, .slice po pn pk], .int .i64 5]) (by simp [results, Tryz.results109, go_sem]) rfl ⟨rfl, ((Below.refl _ _).alloc (Nat.le_refl _) _).alloc (by simp) _⟩
  · have t1 : decide (k < 0) = false := decide_eq_false (by omega)
    have t2 : decide (99 < k) = true := decide_eq_true h
    go_enter Tryz.func109, Tryz.ntmps109
    go_wp2
    exact bodyPost_ret (v := .tuple #[.agg #[.slice so sn sk, .slice po pn pk], .int .i64 5]) (by simp [results, Tryz.results109, go_sem]) rfl ⟨rfl, ((Below.refl _ _).alloc (Nat.le_refl _) _).alloc (by simp) _⟩

set_option maxHeartbeats 1000000 in
set_option maxRecDepth 100000 in
theorem refPut_val (sc sp : Value) (k x : Int) (w : World) (so po : Option Addr) (sn sk pn pk : Nat) (hsc : sc = .slice so sn sk) (hsp : sp = .slice po pn pk) (hk : Jn.isKey k = true) (hx : Jn.isVal x = false) (x0 : -9223372036854775808 ≤ x) (x1 : x ≤ 9223372036854775807) :
    Calls Tryz.prog 109 #[.agg #[sc, sp], .int .i64 k, .int .i64 x] w fun e w' => e = .returned (.tuple #[.agg #[sc, sp], .int .i64 6]) ∧ Below w.heap.size w w' := by
  subst hsc hsp
  have hk' : 0 ≤ k ∧ k ≤ 99 := by unfold Jn.isKey at hk; simpa using hk
  have t1 : decide (k < 0) = false := decide_eq_false (by omega)
  have t2 : decide (99 < k) = false := decide_eq_false (by omega)
  have hw := fun w => within_any x w x0 x1
  rw [hx] at hw
  have HW := hide hw
  clear hk hx hw hk'
  go_enter Tryz.func109, Tryz.ntmps109
  go_wp2_with fail
  refine (HW.out _).mono ?_
  rintro e w1 ⟨rfl, rfl⟩
  go_wp2
  exact bodyPost_ret (v := .tuple #[.agg #[.slice so sn sk, .slice po pn pk], .int .i64 6]) (by simp [results, Tryz.results109, go_sem]) rfl ⟨rfl, ((Below.refl _ _).alloc (Nat.le_refl _) _).alloc (by simp) _⟩

set_option maxHeartbeats 2000000 in
set_option maxRecDepth 100000 in
theorem refPut_ok (b : Nat) (sc sp : Value) (l : List (Int × Int)) (k x : Int) (w : World) (po : Option Addr) (pn pk : Nat) (h : CRow w b sc l) (hl : l.length ≤ 1000) (hsp : sp = .slice po pn pk) (hk : Jn.isKey k = true) (hx : Jn.isVal x = true) :
    Calls Tryz.prog 109 #[.agg #[sc, sp], .int .i64 k, .int .i64 x] w (RefPost sp (withL l k x) 0 w) := by
  obtain ⟨so, sk, rfl⟩ := crow_slice h
  subst hsp
  have hk' : 0 ≤ k ∧ k ≤ 99 := by unfold Jn.isKey at hk; simpa using hk
  have hx' : -1000000000 ≤ x ∧ x ≤ 1000000000 := by unfold Jn.isVal at hx; simpa using hx
  have t1 : decide (k < 0) = false := decide_eq_false (by omega)
  have t2 : decide (99 < k) = false := decide_eq_false (by omega)
  have hw := fun w => within_any x w (by omega) (by omega)
  rw [hx] at hw
  have HW := hide hw
  have HR := hide h
  have HWI := hide (fun v w h => with_any b v l k x w h hl)
  clear hk hx hw hk' hx' h
  go_enter Tryz.func109, Tryz.ntmps109
  go_wp2_with fail
  refine (HW.out _).mono ?_
  rintro e w1 ⟨rfl, rfl⟩
  have hb0 : ∀ o1 o2 : Obj, Below w.heap.size w ((w.alloc o1).alloc o2) := fun o1 o2 => ((Below.refl _ _).alloc (Nat.le_refl _) o1).alloc (by simp) o2
  have HB0 := hide hb0
  clear hb0
  go_wp2_with fail
  refine (HWI.out _ _ (HR.out.below (HB0.out _ _))).mono ?_
  rintro e w2 ⟨v', rfl, hrow, hb2⟩
  obtain ⟨so', sk', rfl⟩ := crow_slice hrow
  have hz2 := hb2.size
  simp only [World.size_alloc] at hz2
  have g1 := (hb2.block w.heap.size (by simp only [World.size_alloc]; omega)).trans (blk1 w _ _)
  have g2 := (hb2.block (w.heap.size + 1) (by simp only [World.size_alloc]; omega)).trans (blk2 w _ _)
  have q0 : w2.cell? ⟨w.heap.size, 0, none⟩ = some (.slice so l.length sk) := (cell_of_row w2 w.heap.size 0 _ _ _ g1).trans rfl
  have q1 : w2.cell? ⟨w.heap.size, 1, none⟩ = some (.slice po pn pk) := (cell_of_row w2 w.heap.size 1 _ _ _ g1).trans rfl
  have r0 : w2.cell? ⟨w.heap.size + 1, 0, none⟩ = some (.slice none 0 0) := (cell_of_row w2 (w.heap.size + 1) 0 _ _ _ g2).trans rfl
  have r1 : w2.cell? ⟨w.heap.size + 1, 1, none⟩ = some (.slice none 0 0) := (cell_of_row w2 (w.heap.size + 1) 1 _ _ _ g2).trans rfl
  have f0 : w2.frozen? ⟨w.heap.size + 1, 0, none⟩ = false := frozen_of_row w2 (w.heap.size + 1) 0 _ _ g2
  have f1 : w2.frozen? ⟨w.heap.size + 1, 1, none⟩ = false := frozen_of_row w2 (w.heap.size + 1) 1 _ _ g2
  clear g1 g2
  have HB2 : Hid (Below w.heap.size w w2) := by
    have := hb2.mono (B' := w.heap.size) (by simp; omega)
    exact (HB0.out _ _).trans this
  have HRW : Hid (CRow w2 (w.heap.size + 2) (.slice so' (withL l k x).length sk') (withL l k x)) := hrow.base (by simp only [World.size_alloc]; omega)
  clear hrow hb2
  go_wp2
  have s0 := World.cell?_setCell_same w2 ⟨w.heap.size + 1, 0, none⟩ (.slice so' (withL l k x).length sk') r0
  have s1 := World.cell?_setCell_same (w2.setCell ⟨w.heap.size + 1, 0, none⟩ (.slice so' (withL l k x).length sk')) ⟨w.heap.size + 1, 1, none⟩ (.slice po pn pk) ((World.cell?_setCell_other _ _ _ _ (by simp)).trans r1)
  refine bodyPost_ret (v := .tuple #[.agg #[.slice so' (withL l k x).length sk', .slice po pn pk], .int .i64 0]) (by simp [results, Tryz.results109, go_sem, s0, s1]) rfl ⟨_, rfl, ?_, ?_⟩
  · have h1 := ownsRow_setCell_below HRW.out (a := ⟨w.heap.size + 1, 0, none⟩) (by show w.heap.size + 1 < w.heap.size + 2; omega) (.slice so' (withL l k x).length sk')
    have h2 := ownsRow_setCell_below h1 (a := ⟨w.heap.size + 1, 1, none⟩) (by show w.heap.size + 1 < w.heap.size + 2; omega) (.slice po pn pk)
    exact ownsRow_base h2 (Nat.zero_le _)
  · exact (HB2.out.setCell (p := ⟨w.heap.size + 1, 0, none⟩) (by show w.heap.size ≤ w.heap.size + 1; omega) _).setCell (p := ⟨w.heap.size + 1, 1, none⟩) (by show w.heap.size ≤ w.heap.size + 1; omega) _

set_option maxHeartbeats 1000000 in
set_option maxRecDepth 100000 in
theorem refDel_key (sc sp : Value) (k : Int) (w : World) (so po : Option Addr) (sn sk pn pk : Nat) (hsc : sc = .slice so sn sk) (hsp : sp = .slice po pn pk) (hk : Jn.isKey k = false) :
    Calls Tryz.prog 112 #[.agg #[sc, sp], .int .i64 k] w fun e w' => e = .returned (.tuple #[.agg #[sc, sp], .int .i64 5]) ∧ Below w.heap.size w w' := by
  subst hsc hsp
  have hk' : k < 0 ∨ 99 < k := by unfold Jn.isKey at hk; simp at hk; omega
  clear hk
  rcases hk' with h | h
  · have t1 : decide (k < 0) = true := decide_eq_true h
    go_enter Tryz.func112, Tryz.ntmps112
    go_wp2
    exact bodyPost_ret (v := .tuple #[.agg #[.slice so sn sk, .slice po pn pk], .int .i64 5]) (by simp [results, Tryz.results112, go_sem]) rfl ⟨rfl, ((Below.refl _ _).alloc (Nat.le_refl _) _).alloc (by simp) _⟩
  · have t1 : decide (k < 0) = false := decide_eq_false (by omega)
    have t2 : decide (99 < k) = true := decide_eq_true h
    go_enter Tryz.func112, Tryz.ntmps112
    go_wp2
    exact bodyPost_ret (v := .tuple #[.agg #[.slice so sn sk, .slice po pn pk], .int .i64 5]) (by simp [results, Tryz.results112, go_sem]) rfl ⟨rfl, ((Below.refl _ _).alloc (Nat.le_refl _) _).alloc (by simp) _⟩

set_option maxHeartbeats 2000000 in
set_option maxRecDepth 100000 in
theorem refDel_ok (b : Nat) (sc sp : Value) (l : List (Int × Int)) (k : Int) (w : World) (po : Option Addr) (pn pk : Nat) (h : CRow w b sc l) (hl : l.length ≤ 1000) (hsp : sp = .slice po pn pk) (hk : Jn.isKey k = true) :
    Calls Tryz.prog 112 #[.agg #[sc, sp], .int .i64 k] w (RefPost sp (withoutL l k) 0 w) := by
  obtain ⟨so, sk, rfl⟩ := crow_slice h
  subst hsp
  have hk' : 0 ≤ k ∧ k ≤ 99 := by unfold Jn.isKey at hk; simpa using hk
  have t1 : decide (k < 0) = false := decide_eq_false (by omega)
  have t2 : decide (99 < k) = false := decide_eq_false (by omega)
  have HR := hide h
  have HWI := hide (fun v w h => without_any b v l k w h hl)
  clear hk hk' h
  have hb0 : ∀ o1 o2 : Obj, Below w.heap.size w ((w.alloc o1).alloc o2) := fun o1 o2 => ((Below.refl _ _).alloc (Nat.le_refl _) o1).alloc (by simp) o2
  have HB0 := hide hb0
  clear hb0
  go_enter Tryz.func112, Tryz.ntmps112
  go_wp2_with fail
  refine (HWI.out _ _ (HR.out.below (HB0.out _ _))).mono ?_
  rintro e w2 ⟨v', rfl, hrow, hb2⟩
  obtain ⟨so', sk', rfl⟩ := crow_slice hrow
  have hz2 := hb2.size
  simp only [World.size_alloc] at hz2
  have g1 := (hb2.block w.heap.size (by simp only [World.size_alloc]; omega)).trans (blk1 w _ _)
  have g2 := (hb2.block (w.heap.size + 1) (by simp only [World.size_alloc]; omega)).trans (blk2 w _ _)
  have q0 : w2.cell? ⟨w.heap.size, 0, none⟩ = some (.slice so l.length sk) := (cell_of_row w2 w.heap.size 0 _ _ _ g1).trans rfl
  have q1 : w2.cell? ⟨w.heap.size, 1, none⟩ = some (.slice po pn pk) := (cell_of_row w2 w.heap.size 1 _ _ _ g1).trans rfl
  have r0 : w2.cell? ⟨w.heap.size + 1, 0, none⟩ = some (.slice none 0 0) := (cell_of_row w2 (w.heap.size + 1) 0 _ _ _ g2).trans rfl
  have r1 : w2.cell? ⟨w.heap.size + 1, 1, none⟩ = some (.slice none 0 0) := (cell_of_row w2 (w.heap.size + 1) 1 _ _ _ g2).trans rfl
  have f0 : w2.frozen? ⟨w.heap.size + 1, 0, none⟩ = false := frozen_of_row w2 (w.heap.size + 1) 0 _ _ g2
  have f1 : w2.frozen? ⟨w.heap.size + 1, 1, none⟩ = false := frozen_of_row w2 (w.heap.size + 1) 1 _ _ g2
  clear g1 g2
  have HB2 : Hid (Below w.heap.size w w2) := by
    have := hb2.mono (B' := w.heap.size) (by simp; omega)
    exact (HB0.out _ _).trans this
  have HRW : Hid (CRow w2 (w.heap.size + 2) (.slice so' (withoutL l k).length sk') (withoutL l k)) := hrow.base (by simp only [World.size_alloc]; omega)
  clear hrow hb2
  go_wp2
  have s0 := World.cell?_setCell_same w2 ⟨w.heap.size + 1, 0, none⟩ (.slice so' (withoutL l k).length sk') r0
  have s1 := World.cell?_setCell_same (w2.setCell ⟨w.heap.size + 1, 0, none⟩ (.slice so' (withoutL l k).length sk')) ⟨w.heap.size + 1, 1, none⟩ (.slice po pn pk) ((World.cell?_setCell_other _ _ _ _ (by simp)).trans r1)
  refine bodyPost_ret (v := .tuple #[.agg #[.slice so' (withoutL l k).length sk', .slice po pn pk], .int .i64 0]) (by simp [results, Tryz.results112, go_sem, s0, s1]) rfl ⟨_, rfl, ?_, ?_⟩
  · have h1 := ownsRow_setCell_below HRW.out (a := ⟨w.heap.size + 1, 0, none⟩) (by show w.heap.size + 1 < w.heap.size + 2; omega) (.slice so' (withoutL l k).length sk')
    have h2 := ownsRow_setCell_below h1 (a := ⟨w.heap.size + 1, 1, none⟩) (by show w.heap.size + 1 < w.heap.size + 2; omega) (.slice po pn pk)
    exact ownsRow_base h2 (Nat.zero_le _)
  · exact (HB2.out.setCell (p := ⟨w.heap.size + 1, 0, none⟩) (by show w.heap.size ≤ w.heap.size + 1; omega) _).setCell (p := ⟨w.heap.size + 1, 1, none⟩) (by show w.heap.size ≤ w.heap.size + 1; omega) _
end Go.Proofs.YtellilpeakpbfaaGreatDoor
