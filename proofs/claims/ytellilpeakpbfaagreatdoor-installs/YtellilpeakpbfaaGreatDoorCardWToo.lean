import Derived.Test.YtellilpeakpbfaaGreatDoorProcDToo
import Derived.Test.YtellilpeakpbfaaGreatDoorSmallToo
import Derived.Test.YtellilpeakpbfaaGreatDoorStpToo
import Derived.Test.YtellilpeakpbfaaGreatDoorLawKToo
import Derived.ProofKit
import Derived.OpenShut
import Derived.Deep.Slices
import Derived.ChangeSame
import Derived.Carry
import Derived.Test.YtellilpeakpbfaaGreatDoorTokToo
import Derived.Deep.DeepHandedRow
import Derived.Lib.LaidTab
section
/-
  The walk of World.procs: Procs.
-/
namespace Go.Proofs.YtellilpeakpbfaaGreatDoor
open Go.RowKit

set_option maxHeartbeats 8000000 in
set_option maxRecDepth 100000 in
theorem procs_procs (L W D m : Nat) (w : World) (C : Jn.Con) (o : OpD) (ho : o.kind = 9) (h : SInv L W D w C m) (hm : m ≤ 1300000000000) :
    Calls Tryz.prog 72 #[.pointer (some ⟨W, 0, none⟩), .agg o.cells, .bool false] w (StepPost L W D m w) := by
  obtain ⟨S, B, f, past, d, nc, nq, na, hlaw, hst, hlast, hpm, hnc, hnq, hna, hdk, hds, hpl⟩ := h
  obtain ⟨kk, nn, mm, s, t, lo, ln, lc, cut, wo, wn, wc⟩ := o
  simp only at ho
  subst ho
  simp only [OpD.cells]
  obtain ⟨w1, hw1⟩ : ∃ w1, w1 = w.alloc (.cells #[.int .i64 9, .int .i64 nn, .int .i64 mm, .string s, .string t, .slice lo ln lc, .int .i64 cut, .slice wo wn wc] 83) := ⟨_, rfl⟩
  obtain ⟨B0, hB0⟩ : ∃ B0, B0 = w.heap.size := ⟨_, rfl⟩
  have hB1 : Below w.heap.size w w1 := by rw [hw1]; exact (Below.refl _ _).alloc (Nat.le_refl _) _
  have hbo : w1.heap[B0]? = some (.cells #[.int .i64 9, .int .i64 nn, .int .i64 mm, .string s, .string t, .slice lo ln lc, .int .i64 cut, .slice wo wn wc] 83 (0, 0)) := by rw [hw1, hB0]; exact heap_alloc_new w _
  have hlaw1 := hlaw.below hB1
  have hst1 := hst.below hB1
  obtain ⟨vp, vc, vq, va, lcs, lqs, lxs, hWA, hpast, hh1, e1, hh2, e2, hh3, e3⟩ := hlaw1.rest
  have HNOW := hide (now_any L W w1 _ _ vp vc vq va past C hWA hpast hlast (by omega))
  have c0 := hWA.cell.1
  have hok : Jn.Ok C := hst.con.ok
  have hcnt := hok.cnt
  have HPS := hide (fun x (hx : Below w1.heap.size w1 x) => procsS_any L S B C f x (hst1.below hx))
  have hLw := hlaw1.low
  have hz1 := hB1.size
  have HKC : Hid (∀ (x y : World) (v : Value), Below w1.heap.size w1 x → Below x.heap.size x y → PRow y x.heap.size v C.procs → Calls Tryz.prog 100 #[.pointer (some ⟨W, 3, none⟩), v] y (fun e w9 => e = .returned (.tuple #[]) ∧ StepPost L W D m w (.returned (.bool true)) w9)) := by
    intro x y v hbx hby hr
    have hb : Below w1.heap.size w1 y := hbx.trans (hby.mono hbx.size)
    have f1 : Fr L [92, 42] none w1 y := Fr.of hb hLw
    have hzx := hbx.size
    have hzy := hby.size
    refine (keepProcs_any L x.heap.size W y _ _ vp vc vq va lqs v _ _ (hWA.fr (Fr.of (L := 0) (T := []) (X := none) hb (Nat.zero_le _)) (by simp) (by simp)) hlaw.lw
      ((hh2.fr (X := none) (Fr.of (T := []) hb hLw) (by simp) (by simp) (by simp) (.inl rfl)).mono (by omega)) hr (by omega) (by omega) hby.size (by omega)).mono ?_
    rintro e w9 ⟨v', ls', rfl, hW9, hh9, hl9, hf9⟩
    have hf : Fr L [92, 42] none w1 w9 := f1.fresh hf9 (fun k hk => Nat.le_trans hbx.size (own_lies hr k hk))
    have hz9 := hf.size
    refine ⟨rfl, rfl, ⟨C, S, B, f, past, d, nc, nq + 3, na, ⟨hlaw.lw, hlaw.ld, hlaw1.disk.fr hf (by decide) (by simp), vp, vc, v', va, lcs, ls', lxs, hW9, hpast.fr hf (by decide) (by decide) (by decide),
      (hh1.fr hf (by decide) (by decide) (by simp) (.inl rfl)).mono (by omega), e1, hh9, by omega, (hh3.fr hf (by decide) (by decide) (by simp) (.inl rfl)).mono (by omega), e3⟩, ?_, hlast, by omega, by omega, by omega, by omega, hdk, by omega, hpl⟩, ?_⟩
    · exact hst1.fr hf (by decide) (by decide) (by decide) (by simp)
    · exact (hB1.mono hlaw.low).trans hf.below
  have HSM : Hid (∀ (b : Nat) (va' vb : Value) (x : World), PRow x b va' C.procs → PRow x 0 vb C.procs → Calls Tryz.prog 98 #[va', vb] x (fun e w' => e = .returned (.bool true) ∧ Below x.heap.size x w')) := fun b va' vb x ha hb => by
    have := sameProcs_any b 0 va' vb C.procs C.procs x ha hb (by omega)
    rw [decide_eq_true (rfl : C.procs = C.procs)] at this
    exact this
  have HBO := hide hbo
  clear hB1 hlaw hst hlaw1 hst1 hWA hpast hh1 hh2 hh3 hok hbo
  go_enter Tryz.func72, Tryz.ntmps72
  go_upto_region 1 with fail
  rw [← hw1, ← hB0]
  have HW1 := hide hw1
  have HB0 := hide hB0
  clear hw1 hB0
  go_wp2_with fail
  refine HNOW.out.mono ?_
  rintro e wn ⟨sc, sp, rfl, hcr, hpr, hbn⟩
  obtain ⟨so, sk, rfl⟩ := crow_slice hcr
  obtain ⟨po, pk, rfl, -⟩ := hpr.shape
  obtain ⟨wv, hwv⟩ : ∃ wv, wv = wn.alloc (.cells #[.slice so C.list.length sk, .slice po C.procs.length pk] 128) := ⟨_, rfl⟩
  obtain ⟨Bv, hBv⟩ : ∃ Bv, Bv = wn.heap.size := ⟨_, rfl⟩
  have hba : Below wn.heap.size wn wv := by rw [hwv]; exact (Below.refl _ _).alloc (Nat.le_refl _) _
  have hbv : Below w1.heap.size w1 wv := hbn.trans (hba.mono hbn.size)
  have hon := (hbv.block B0 (Array.getElem?_eq_some_iff.1 HBO.out).1).trans HBO.out
  have hvn : wv.heap[Bv]? = some (.cells #[.slice so C.list.length sk, .slice po C.procs.length pk] 128 (0, 0)) := by rw [hwv, hBv]; exact heap_alloc_new wn _
  have p0 : wv.cell? ⟨B0, 0, none⟩ = some (.int .i64 9) := (cell_of_row wv B0 0 _ _ _ hon).trans rfl
  have g0 := at_old hbv c0
  have HVN := hide hvn
  have HPR := hide (hpr.below hba)
  have HBV := hide hbv
  clear hcr hpr hbn hon HNOW hba hbv hvn c0
  go_upto_region 2 with fail
  rw [← hwv, ← hBv]
  have HWV := hide hwv
  have HBVV := hide hBv
  clear hwv hBv
  go_wp2_with fail
  refine (HPS.out _ HBV.out).mono ?_
  rintro e w2 ⟨v, rfl, hcv, hb2⟩
  have hvn := (hb2.block Bv (Array.getElem?_eq_some_iff.1 HVN.out).1).trans HVN.out
  have v1 : w2.cell? ⟨Bv, 1, none⟩ = some (.slice po C.procs.length pk) := (cell_of_row w2 Bv 1 _ _ _ hvn).trans rfl
  have HCV := hide hcv
  have HB2 := hide hb2
  have HSX := hide (HSM.out _ v _ w2 hcv (HPR.out.below hb2))
  clear hcv hb2 hvn HPS HSM g0 p0
  go_wp2_with fail
  refine HSX.out.mono ?_
  rintro e w4 ⟨rfl, hb4⟩
  have HK := hide (HKC.out wv w4 v HBV.out (HB2.out.trans (hb4.mono HB2.out.size)) (HCV.out.below hb4))
  clear hb4 HSX HKC HCV
  go_wp2_with fail
  refine HK.out.mono ?_
  rintro e w9 ⟨rfl, hfin⟩
  have HFIN := hide hfin
  clear hfin HK
  go_wp2_with fail
  go_ret
  exact HFIN.out
end Go.Proofs.YtellilpeakpbfaaGreatDoor

end

section
/-
  The walk of World.step: the kinds of Installs.
-/
set_option linter.unusedVariables false
namespace Go.Proofs.YtellilpeakpbfaaGreatDoor
open Go.RowKit

set_option maxHeartbeats 8000000 in
set_option maxRecDepth 100000 in
theorem step_install (L W D m : Nat) (w : World) (C : Jn.Con) (o : OpD) (ho : o.kind = 7) (h : SInv L W D w C m) (hm : m ≤ 1300000000000) (hP : PowAt w) (hWd : WordsAt w) (hpL : 1 < L)
    (x0 : -9223372036854775808 ≤ o.m) (x1 : o.m ≤ 9223372036854775807) :
    Calls Tryz.prog 39 #[.pointer (some ⟨W, 0, none⟩), .agg o.cells, .bool false] w (StepPost L W D m w) := by
  obtain ⟨w1, hw1⟩ : ∃ w1, w1 = w.alloc (.cells o.cells 83) := ⟨_, rfl⟩
  obtain ⟨B0, hB0⟩ : ∃ B0, B0 = w.heap.size := ⟨_, rfl⟩
  have hB1 : Below w.heap.size w w1 := by rw [hw1]; exact (Below.refl _ _).alloc (Nat.le_refl _) _
  have hbo : w1.heap[B0]? = some (.cells o.cells 83 (0, 0)) := by rw [hw1, hB0]; exact heap_alloc_new w _
  have HC := hide (procs_install L W D m w1 C o ho (h.below hB1) hm (hWd.below hWd.1 hB1))
  have HBK := hide (fun e w9 => StepPost.back (D := D) (W := W) (m := m) (e := e) (w9 := w9) h.low hB1)
  obtain ⟨kk, nn, mm, s, t, lo, ln, lc, cut, wo, wn, wc⟩ := o
  simp only at ho
  subst ho
  simp only [OpD.cells] at hbo hw1 HC ⊢
  have p0 := (cell_of_row w1 B0 0 _ _ _ hbo).trans rfl
  have p1 := (cell_of_row w1 B0 1 _ _ _ hbo).trans rfl
  have p2 := (cell_of_row w1 B0 2 _ _ _ hbo).trans rfl
  have p3 := (cell_of_row w1 B0 3 _ _ _ hbo).trans rfl
  have p4 := (cell_of_row w1 B0 4 _ _ _ hbo).trans rfl
  have p5 := (cell_of_row w1 B0 5 _ _ _ hbo).trans rfl
  have p6 := (cell_of_row w1 B0 6 _ _ _ hbo).trans rfl
  have p7 := (cell_of_row w1 B0 7 _ _ _ hbo).trans rfl
  clear h hB1 hbo hP hWd
  go_enter Tryz.func39, Tryz.ntmps39
  go_upto_region 14 with fail
  rw [← hw1, ← hB0]
  have HW1 := hide hw1
  have HB0 := hide hB0
  clear hw1 hB0
  go_wp2_with fail
  refine HC.out.mono ?_
  rintro e w9 hpost
  obtain rfl := hpost.1
  have HFIN := hide (HBK.out _ _ hpost)
  clear hpost HC HBK
  go_wp2_with fail
  go_ret
  exact HFIN.out

set_option maxHeartbeats 8000000 in
set_option maxRecDepth 100000 in
theorem step_drop (L W D m : Nat) (w : World) (C : Jn.Con) (o : OpD) (ho : o.kind = 8) (h : SInv L W D w C m) (hm : m ≤ 1300000000000) (hP : PowAt w) (hWd : WordsAt w) (hpL : 1 < L)
    (x0 : -9223372036854775808 ≤ o.m) (x1 : o.m ≤ 9223372036854775807) :
    Calls Tryz.prog 39 #[.pointer (some ⟨W, 0, none⟩), .agg o.cells, .bool false] w (StepPost L W D m w) := by
  obtain ⟨w1, hw1⟩ : ∃ w1, w1 = w.alloc (.cells o.cells 83) := ⟨_, rfl⟩
  obtain ⟨B0, hB0⟩ : ∃ B0, B0 = w.heap.size := ⟨_, rfl⟩
  have hB1 : Below w.heap.size w w1 := by rw [hw1]; exact (Below.refl _ _).alloc (Nat.le_refl _) _
  have hbo : w1.heap[B0]? = some (.cells o.cells 83 (0, 0)) := by rw [hw1, hB0]; exact heap_alloc_new w _
  have HC := hide (procs_drop L W D m w1 C o ho (h.below hB1) hm)
  have HBK := hide (fun e w9 => StepPost.back (D := D) (W := W) (m := m) (e := e) (w9 := w9) h.low hB1)
  obtain ⟨kk, nn, mm, s, t, lo, ln, lc, cut, wo, wn, wc⟩ := o
  simp only at ho
  subst ho
  simp only [OpD.cells] at hbo hw1 HC ⊢
  have p0 := (cell_of_row w1 B0 0 _ _ _ hbo).trans rfl
  have p1 := (cell_of_row w1 B0 1 _ _ _ hbo).trans rfl
  have p2 := (cell_of_row w1 B0 2 _ _ _ hbo).trans rfl
  have p3 := (cell_of_row w1 B0 3 _ _ _ hbo).trans rfl
  have p4 := (cell_of_row w1 B0 4 _ _ _ hbo).trans rfl
  have p5 := (cell_of_row w1 B0 5 _ _ _ hbo).trans rfl
  have p6 := (cell_of_row w1 B0 6 _ _ _ hbo).trans rfl
  have p7 := (cell_of_row w1 B0 7 _ _ _ hbo).trans rfl
  clear h hB1 hbo hP hWd
  go_enter Tryz.func39, Tryz.ntmps39
  go_upto_region 14 with fail
  rw [← hw1, ← hB0]
  have HW1 := hide hw1
  have HB0 := hide hB0
  clear hw1 hB0
  go_wp2_with fail
  refine HC.out.mono ?_
  rintro e w9 hpost
  obtain rfl := hpost.1
  have HFIN := hide (HBK.out _ _ hpost)
  clear hpost HC HBK
  go_wp2_with fail
  go_ret
  exact HFIN.out

set_option maxHeartbeats 8000000 in
set_option maxRecDepth 100000 in
theorem step_procs (L W D m : Nat) (w : World) (C : Jn.Con) (o : OpD) (ho : o.kind = 9) (h : SInv L W D w C m) (hm : m ≤ 1300000000000) (hP : PowAt w) (hWd : WordsAt w) (hpL : 1 < L)
    (x0 : -9223372036854775808 ≤ o.m) (x1 : o.m ≤ 9223372036854775807) :
    Calls Tryz.prog 39 #[.pointer (some ⟨W, 0, none⟩), .agg o.cells, .bool false] w (StepPost L W D m w) := by
  obtain ⟨w1, hw1⟩ : ∃ w1, w1 = w.alloc (.cells o.cells 83) := ⟨_, rfl⟩
  obtain ⟨B0, hB0⟩ : ∃ B0, B0 = w.heap.size := ⟨_, rfl⟩
  have hB1 : Below w.heap.size w w1 := by rw [hw1]; exact (Below.refl _ _).alloc (Nat.le_refl _) _
  have hbo : w1.heap[B0]? = some (.cells o.cells 83 (0, 0)) := by rw [hw1, hB0]; exact heap_alloc_new w _
  have HC := hide (procs_procs L W D m w1 C o ho (h.below hB1) hm)
  have HBK := hide (fun e w9 => StepPost.back (D := D) (W := W) (m := m) (e := e) (w9 := w9) h.low hB1)
  obtain ⟨kk, nn, mm, s, t, lo, ln, lc, cut, wo, wn, wc⟩ := o
  simp only at ho
  subst ho
  simp only [OpD.cells] at hbo hw1 HC ⊢
  have p0 := (cell_of_row w1 B0 0 _ _ _ hbo).trans rfl
  have p1 := (cell_of_row w1 B0 1 _ _ _ hbo).trans rfl
  have p2 := (cell_of_row w1 B0 2 _ _ _ hbo).trans rfl
  have p3 := (cell_of_row w1 B0 3 _ _ _ hbo).trans rfl
  have p4 := (cell_of_row w1 B0 4 _ _ _ hbo).trans rfl
  have p5 := (cell_of_row w1 B0 5 _ _ _ hbo).trans rfl
  have p6 := (cell_of_row w1 B0 6 _ _ _ hbo).trans rfl
  have p7 := (cell_of_row w1 B0 7 _ _ _ hbo).trans rfl
  clear h hB1 hbo hP hWd
  go_enter Tryz.func39, Tryz.ntmps39
  go_upto_region 14 with fail
  rw [← hw1, ← hB0]
  have HW1 := hide hw1
  have HB0 := hide hB0
  clear hw1 hB0
  go_wp2_with fail
  refine HC.out.mono ?_
  rintro e w9 hpost
  obtain rfl := hpost.1
  have HFIN := hide (HBK.out _ _ hpost)
  clear hpost HC HBK
  go_wp2_with fail
  go_ret
  exact HFIN.out

/-- a step of a kind of Installs. -/
theorem step_installs (L W D m : Nat) (w : World) (C : Jn.Con) (o : OpD) (ho : o.kind ∈ [7, 8, 9, 11, 13]) (h : SInv L W D w C m) (hm : m ≤ 1300000000000) (hP : PowAt w) (hWd : WordsAt w) (hpL : 1 < L)
    (x0 : -9223372036854775808 ≤ o.m) (x1 : o.m ≤ 9223372036854775807) :
    Calls Tryz.prog 39 #[.pointer (some ⟨W, 0, none⟩), .agg o.cells, .bool false] w (StepPost L W D m w) := by
  simp only [List.mem_cons, List.not_mem_nil, or_false] at ho
  rcases ho with ho | ho | ho | ho | ho
  · exact step_install L W D m w C o ho h hm hP hWd hpL x0 x1
  · exact step_drop L W D m w C o ho h hm hP hWd hpL x0 x1
  · exact step_procs L W D m w C o ho h hm hP hWd hpL x0 x1
  · exact step_sync L W D m w C o ho h hm hP hWd hpL x0 x1
  · exact step_open L W D m w C o ho h hm hP hWd hpL x0 x1
end Go.Proofs.YtellilpeakpbfaaGreatDoor

end

section
/-
  Installs.
-/
namespace Go.Proofs.YtellilpeakpbfaaGreatDoor
open Go.RowKit

set_option maxHeartbeats 4000000 in
set_option maxRecDepth 100000 in
theorem installs_any (w : World) (ao : Option Addr) (cap : Nat) (ops : List OpD) (hs : 0 < ops.length → ∃ g z, ao = some ⟨g, z, none⟩ ∧ ScrAt w g z ops) (hP : PowAt w) (hWd : WordsAt w) (hn : ops.length ≤ 1299999999999)
    (hm : ∀ o ∈ ops, -9223372036854775808 ≤ o.m ∧ o.m ≤ 9223372036854775807) :
    Calls Tryz.prog 4 #[.slice ao ops.length cap] w fun e w' => e = .returned (.bool true) ∧ Below w.heap.size w w' := by
  obtain ⟨w1, hw1⟩ : ∃ w1, w1 = w.alloc (.cells #[.int .i64 7, .int .i64 8, .int .i64 9, .int .i64 11, .int .i64 13] 3) := ⟨_, rfl⟩
  have hB1 : Below w.heap.size w w1 := by rw [hw1]; exact (Below.refl _ _).alloc (Nat.le_refl _) _
  have hbk : w1.heap[w.heap.size]? = some (.cells #[.int .i64 7, .int .i64 8, .int .i64 9, .int .i64 11, .int .i64 13] 3 (0, 0)) := by rw [hw1]; exact heap_alloc_new w _
  have hkn : KnAt w1 w.heap.size [7, 8, 9, 11, 13] := by
    refine ⟨(Array.getElem?_eq_some_iff.1 hbk).1, fun k x hx => ?_⟩
    rw [cell_of_row w1 w.heap.size k _ _ _ hbk]
    match k, hx with
    | 0, hx => simp at hx; subst hx; rfl
    | 1, hx => simp at hx; subst hx; rfl
    | 2, hx => simp at hx; subst hx; rfl
    | 3, hx => simp at hx; subst hx; rfl
    | 4, hx => simp at hx; subst hx; rfl
    | k + 5, hx => simp at hx
  have hP1 := hP.below hP.1 hB1
  have HPL := hide (plays_any w1 ao cap w.heap.size ops [7, 8, 9, 11, 13] (fun h0 => by obtain ⟨g, z, e, hsc⟩ := hs h0; exact ⟨g, z, e, hsc.below hB1⟩) hkn hP1 (hWd.below hWd.1 hB1) hn (by simp)
    (fun x W D m C o ho hk hi hm' hp hw _ => step_installs w1.heap.size W D m x C o hk hi hm' hp hw hP1.1 (hm o ho).1 (hm o ho).2))
  simp only [List.length_cons, List.length_nil] at HPL
  have HB1 := hide hB1
  clear hs hP hWd hm hB1 hbk hkn hP1
  go_enter Tryz.func4, Tryz.ntmps4
  go_wp2_with fail
  rw [← hw1]
  refine HPL.out.mono ?_
  rintro e w9 ⟨rfl, hb9⟩
  have HFIN := hide (HB1.out.trans (hb9.mono HB1.out.size))
  clear hb9 HPL hw1
  go_wp2_with fail
  go_ret
  exact ⟨rfl, HFIN.out⟩
end Go.Proofs.YtellilpeakpbfaaGreatDoor

end

section
/-
  From the script as it is read to what the walks ask.
-/
namespace Go.Proofs.YtellilpeakpbfaaGreatDoor.Scd
open Go.ChangeShapes Go.WideShapes Go.ChangeAt Go.RowKit

section
variable {H : Type} {enc : TypeId × Value → H}

theorem cellsOp : Tryz.prog.cellsOf 83 = 8 := by kernel_rfl
theorem bytesOp : Tryz.prog.bytesOf 83 = 112 := by kernel_rfl
theorem cInt : Tryz.prog.cellsOf 3 = 1 := by kernel_rfl
theorem cStr : Tryz.prog.cellsOf 9 = 1 := by kernel_rfl
theorem cInts : Tryz.prog.cellsOf 24 = 1 := by kernel_rfl

/-- a slice of numbers is some slice. -/
theorem some_slice {W : World} {fuel : Nat} {v : Value} {x : DataW H × List MemPlace} (h : DataW.trod enc Tryz.prog W 0 (fun _ => true) true fuel 24 [v] = some x) : ∃ lo ln lc, v = .slice lo ln lc := by
  rcases DataW.trod_slice Tryz.underlying24 h with ⟨e, -⟩ | ⟨a, len, cap, elems, rest, n, _, e, _⟩
  · exact ⟨none, 0, 0, by simpa using e⟩
  · exact ⟨some a, len, cap, by simpa using e⟩

set_option maxRecDepth 100000 in
theorem op_of {W : World} {fuel : Nat} {cs : List Value} {x : DataW H × List MemPlace} (h : DataW.trod enc Tryz.prog W 0 (fun _ => true) true fuel 83 cs = some x) :
    ∃ o : OpD, cs = o.cells.toList ∧ -9223372036854775808 ≤ o.m ∧ o.m ≤ 9223372036854775807 := by
  obtain ⟨xs, n, _, -, hl, hxl, hf⟩ := DataW.trod_struct Tryz.underlying83 h
  rw [cellsOp] at hl
  match cs, hl, xs, hxl with
  | [c0, c1, c2, c3, c4, c5, c6, c7], _, [y0, y1, y2, y3, y4, y5, y6, y7], _ =>
    have g0 := hf 0 _ rfl
    have g1 := hf 1 _ rfl
    have g2 := hf 2 _ rfl
    have g3 := hf 3 _ rfl
    have g4 := hf 4 _ rfl
    have g5 := hf 5 _ rfl
    have g6 := hf 6 _ rfl
    have g7 := hf 7 _ rfl
    simp [cInt, cStr, cInts] at g0 g1 g2 g3 g4 g5 g6 g7
    obtain ⟨k0, e0, -, -⟩ := DataW.trod_int Tryz.underlying3 g0
    obtain ⟨k1, e1, -, -⟩ := DataW.trod_int Tryz.underlying3 g1
    obtain ⟨k2, e2, -, w2⟩ := DataW.trod_int Tryz.underlying3 g2
    obtain ⟨s, e3, -, -⟩ := DataW.trod_string Tryz.underlying9 g3
    obtain ⟨t, e4, -, -⟩ := DataW.trod_string Tryz.underlying9 g4
    obtain ⟨lo, ln, lc, e5⟩ := some_slice g5
    obtain ⟨k6, e6, -, -⟩ := DataW.trod_int Tryz.underlying3 g6
    obtain ⟨wo, wn, wc, e7⟩ := some_slice g7
    simp only [List.cons.injEq, and_true] at e0 e1 e2 e3 e4 e6
    subst e0 e1 e2 e3 e4 e5 e6 e7
    refine ⟨⟨k0, k1, k2, s, t, lo, ln, lc, k6, wo, wn, wc⟩, rfl, ?_⟩
    have := w2
    simp [Lit.wf] at this
    exact ⟨this.1, this.2⟩

/-- The script, opened. -/
theorem scr_of {W : World} {fuel : Nat} {v : Value} {x : DataW H × List MemPlace} (h : DataW.trod enc Tryz.prog W 0 (fun _ => true) true fuel 22 [v] = some x) :
    ∃ ao cap ops, v = .slice ao (List.length ops) cap ∧ (0 < ops.length → ∃ g z, ao = some ⟨g, z, none⟩ ∧ ScrAt W g z ops) ∧ (∀ o ∈ ops, -9223372036854775808 ≤ o.m ∧ o.m ≤ 9223372036854775807) ∧
      (ops = [] ∨ ∃ el sp, x.1 = .slice el sp ∧ el.length = ops.length) := by
  rcases Deep.open_slice Tryz.underlying22 h with ⟨e, -⟩ | ⟨a, len, cap, m, n, D, Pl, e, -, hl, -, hm, hx, hi⟩
  · exact ⟨none, 0, [], by simpa using e, by simp, by simp, .inl rfl⟩
  · have hlm : len ≤ m := by rw [hm]; simpa using hl
    rw [cellsOp] at hi
    have each : ∀ i, i < len → ∃ o : OpD, (∀ j u, o.cells[j]? = some u → W.cell? (a.add (i * 8 + j)) = some u) ∧ -9223372036854775808 ≤ o.m ∧ o.m ≤ 9223372036854775807 := by
      intro i hil
      obtain ⟨cs', h1, h2⟩ := hi i (by omega)
      obtain ⟨_, hlen, hcell⟩ := World.cells?_some h1
      obtain ⟨o, rfl, hb⟩ := op_of h2
      refine ⟨o, fun j u hu => ?_, hb⟩
      have hj : j < 8 := by have := (Array.getElem?_eq_some_iff.1 hu).1; simpa [OpD.cells] using this
      have := hcell j hj
      rw [Deep.add_add] at this
      rw [this]
      simpa using hu
    have : Inhabited OpD := ⟨⟨0, 0, 0, ⟨#[]⟩, ⟨#[]⟩, none, 0, 0, 0, none, 0, 0⟩⟩
    obtain ⟨q, hq⟩ := Deep.choose_lt each
    have hops : ∀ k o, ((List.range len).map q)[k]? = some o → k < len ∧ o = q k := by
      intro k o ho
      rw [List.getElem?_map] at ho
      by_cases hk : k < len
      · rw [List.getElem?_range hk] at ho
        simp at ho
        exact ⟨hk, ho.symm⟩
      · rw [List.getElem?_eq_none (by simp; omega)] at ho
        simp at ho
    refine ⟨some a, cap, (List.range len).map q, by simpa using e, ?_, ?_, .inr ⟨_, _, by rw [hx], by simp⟩⟩
    · intro h0
      simp at h0
      obtain ⟨g, z, sp⟩ := a
      have c0 := (hq 0 h0).1 0 _ rfl
      have hspot : sp = none := by simpa [Addr.add] using World.cell?_spot c0
      subst hspot
      refine ⟨g, z, rfl, World.block_lt_of_cell? W _ c0, ?_⟩
      intro k o ho j u hu
      obtain ⟨hk, rfl⟩ := hops k o ho
      have := (hq k hk).1 j u hu
      rw [← this]
      congr 1
      unfold Addr.add
      split <;> simp_all [Nat.add_assoc]
    · intro o ho
      obtain ⟨k, hk, rfl⟩ := List.mem_map.1 ho
      exact (hq k (List.mem_range.1 hk)).2
end
end Go.Proofs.YtellilpeakpbfaaGreatDoor.Scd

end

section
/-
  What the rows share: from the listed variables to what the walks ask.
-/
namespace Go.Proofs.YtellilpeakpbfaaGreatDoor.Ckd
open Go.ChangeShapes Go.WideShapes Go.ChangeAt Go.RowKit

theorem own : ownKnob Tryz.prog.godebug = none := by kernel_rfl
theorem gTab : Tryz.prog.globalNamed (Rows.keepsRow.named.headD "") = some 0 := by kernel_rfl
theorem gTabType : (Tryz.prog.globals[0]?).map (·.type) = some 199 := by kernel_rfl
theorem cellsWords : Tryz.prog.cellsOf 199 = 16 := by kernel_rfl
theorem cellsStr : Tryz.prog.cellsOf 9 = 1 := by kernel_rfl

/-- An array of texts as a row lists it. -/
def strData {H : Type} (ls : List (List UInt8)) : DataW H := .agg (ls.map fun l => .lit (.string l))
theorem cells_of_strs {H : Type} {enc : TypeId × Value → H} {P : Program} {w : World} {base : Nat} {sp : Nat → Bool} {held : Bool} {fuel : Nat} {t e : TypeId} {n : Nat} {cs : List Value} {ls : List (List UInt8)} {p : List MemPlace}
    (ht : P.underlying t = some (.array n e)) (he : P.underlying e = some .string) (hce : P.cellsOf e = 1) (hct : P.cellsOf t = n)
    (h : DataW.trod enc P w base sp held fuel t cs = some (strData ls, p)) : cs = ls.map T := by
  cases fuel with
  | zero => simp [DataW.trod] at h
  | succ fuel =>
    simp only [DataW.trod, ht, hce, hct, Nat.mul_one] at h
    split at h
    · rename_i hl
      obtain ⟨xs, hm, hx⟩ := Option.map_eq_some_iff.1 h
      have hxs : xs.map (·.1) = ls.map fun l => (DataW.lit (.string l) : DataW H) := by
        have := congrArg Prod.fst hx
        simpa [strData] using this
      have hxl : xs.length = n := by simpa using Lib.mapM_length hm
      have hzl : ls.length = n := by
        have := congrArg List.length hxs
        simp at this
        omega
      apply List.ext_getElem?
      intro i
      by_cases hi : i < n
      · obtain ⟨b, hb, hf⟩ := Lib.mapM_at hm i i (by simp [hi])
        obtain ⟨s, hc, rfl, _⟩ := DataW.trod_string he hf
        have h1 : cs[i]? = some (.string s) := by
          have := congrArg (·[0]?) hc
          simpa [List.getElem?_take, List.getElem?_drop] using this
        have h2 : (xs.map (·.1))[i]? = some (DataW.lit (.string s.data.toList) : DataW H) := by simp [hb]
        rw [hxs] at h2
        simp only [List.getElem?_map, Option.map_eq_some_iff, DataW.lit.injEq, Lit.string.injEq] at h2
        obtain ⟨l, hl', rfl⟩ := h2
        simp [h1, hl', T]
      · rw [List.getElem?_eq_none (by omega), List.getElem?_eq_none (by simp; omega)]
    · cases h

theorem words_of {W : World} {rest : List (String × DataW Unit)} {ps : List MemPlace} (h : DataW.LaidVars Tryz.prog W ((Rows.keepsRow.named.headD "", Rows.laid_cellar_source_words) :: rest) ps) : WordsAt W := by
  obtain ⟨g', t', cs, fuel, p, q, hg', ht', hvar, hd, _, _⟩ := h
  obtain rfl := Option.some.inj (gTab.symm.trans hg')
  obtain rfl := Option.some.inj (gTabType.symm.trans ht')
  have hcs : cs.toList = Ck.wordsL.map T := cells_of_strs (ls := Ck.wordsL) Tryz.underlying199 Tryz.underlying9 cellsStr cellsWords hd
  have hall : ∀ k, k < 16 → W.cell? ⟨0, k, none⟩ = some (.string ⟨(Ck.wordsL.getD k []).toArray⟩) := by
    intro k hk
    have := World.var?_cell gTab hvar k
    rw [this]
    have e : cs[k]? = (Ck.wordsL.map T)[k]? := by rw [← hcs]; simp
    rw [e]
    have hl : k < Ck.wordsL.length := hk
    simp [List.getD, hl, T]
  exact ⟨World.block_lt_of_cell? W ⟨0, 0, none⟩ (hall 0 (by omega)), hall⟩

/-- FOR A WITNESS: a variable's cells as its initialiser lays them. -/
def litVal : DataW Unit → Value
  | .lit (.int k z) => .int k z
  | .lit (.string l) => T l
  | _ => .bool false
def layVar (d : DataW Unit) : Obj → Obj
  | .cells c t frozen => match d with
    | .agg ds => .cells (ds.map litVal).toArray t frozen
    | _ => .cells c t frozen
  | o => o

end Go.Proofs.YtellilpeakpbfaaGreatDoor.Ckd

end
