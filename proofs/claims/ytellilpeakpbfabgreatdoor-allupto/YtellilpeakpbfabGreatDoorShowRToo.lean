import Derived.Test.YtellilpeakpbfabGreatDoorStCToo
import Derived.Test.YtellilpeakpbfabGreatDoorSmallToo
import Derived.Test.YtellilpeakpbfabGreatDoorProcLToo
import Derived.Test.YtellilpeakpbfabGreatDoorOpenToo
import Derived.Test.YtellilpeakpbfabGreatDoorShPureToo
import Derived.Test.YtellilpeakpbfabGreatDoorReadAToo
import Derived.Test.YtellilpeakpbfabGreatDoorMarkToo
import Derived.Test.YtellilpeakpbfabGreatDoorRefCkToo
section
/-
  The walks of Get, Cells, Procs where crashes may come.
-/
set_option linter.unusedVariables false
namespace Go.Proofs.YtellilpeakpbfabGreatDoor
open Go.RowKit

theorem step_sameC {L W D m : Nat} {w w9 : World} {C : Jn.Con} (h : SInvC L W D w C m) (b : Below w.heap.size w w9) : StepPostC L W D m w (.returned (.bool true)) w9 := by
  obtain ⟨S, B, f, past, d, nc, nq, na, hlaw, hst, hlast, hpm, hnc, hnq, hna, hdk, hds, hpl, hsf⟩ := h
  exact step_errC hsf hlaw hlast hpm hnc hnq hna hdk hds hpl (Below.refl _ _) (Below.refl _ _) (Fr.refl _ _ _ _) hst b

set_option maxHeartbeats 8000000 in
set_option maxRecDepth 100000 in
theorem cells_getC (L W D m : Nat) (w : World) (C : Jn.Con) (o : OpD) (ho : o.kind = 5) (h : SInvC L W D w C m) (hm : m ≤ 1300000000000) :
    Calls Tryz.prog 76 #[.pointer (some ⟨W, 0, none⟩), .agg o.cells, .bool true] w (StepPostC L W D m w) := by
  have HSI := hide h
  obtain ⟨S, B, f, past, d, nc, nq, na, hlaw, hst, hlast, hpm, hnc, hnq, hna, hdk, hds, hpl, hsf⟩ := h
  obtain ⟨kk, nn, mm, s, t, lo, ln, lc, cut, wo, wn, wc⟩ := o
  simp only at ho
  subst ho
  simp only [OpD.cells]
  obtain ⟨w1, hw1⟩ : ∃ w1, w1 = w.alloc (.cells #[.int .i64 5, .int .i64 nn, .int .i64 mm, .string s, .string t, .slice lo ln lc, .int .i64 cut, .slice wo wn wc] 106) := ⟨_, rfl⟩
  obtain ⟨B0, hB0⟩ : ∃ B0, B0 = w.heap.size := ⟨_, rfl⟩
  have hB1 : Below w.heap.size w w1 := by rw [hw1]; exact (Below.refl _ _).alloc (Nat.le_refl _) _
  have hbo : w1.heap[B0]? = some (.cells #[.int .i64 5, .int .i64 nn, .int .i64 mm, .string s, .string t, .slice lo ln lc, .int .i64 cut, .slice wo wn wc] 106 (0, 0)) := by rw [hw1, hB0]; exact heap_alloc_new w _
  have q1 : w1.cell? ⟨B0, 1, none⟩ = some (.int .i64 nn) := (cell_of_row w1 B0 1 _ _ _ hbo).trans rfl
  have hlaw1 := hlaw.below hB1
  obtain ⟨vp, vc, vq, va, lcs, lqs, lxs, hWA, hpast, -, -, -, -, -, -⟩ := hlaw1.rest
  have HNOW := hide (fun w' (hb : Below w1.heap.size w1 w') => now_any L W w' _ _ vp vc vq va past C (hWA.fr (Fr.of (L := 0) (T := []) (X := none) hb (Nat.zero_le _)) (by simp) (by simp)) (hpast.fr (Fr.of (T := []) hb (Nat.le_trans hlaw1.low (Nat.le_refl _))) (by simp) (by simp) (by simp)) hlast (by omega))
  obtain ⟨c0, -, -, -, -, -⟩ := hWA.cell
  have hok : Jn.Ok C := hst.con.ok
  have HCE := hide (fun v x hr => cellR_any 0 v C.list nn x hr (list_bound hok))
  have HGET : Hid (∀ x, Below w1.heap.size w1 x → ∃ gv gb ge, Calls Tryz.prog 40 #[.pointer (some ⟨S, 0, none⟩), .int .i64 nn] x (fun e w' => e = .returned (.tuple #[.int .i64 gv, .bool gb, .int .i64 ge]) ∧ Below x.heap.size x w') ∧
      ((0 ≤ nn ∧ nn ≤ 99 ∧ ge = 0 ∧ gv = (cellL C.list nn).getD 0 ∧ gb = (cellL C.list nn).isSome) ∨ ((nn < 0 ∨ 99 < nn) ∧ ge = 5 ∧ gv = 0 ∧ gb = false))) := by
    intro x hx
    by_cases hk : 0 ≤ nn ∧ nn ≤ 99
    · have hn : nn = (nn.toNat : Int) := by omega
      refine ⟨_, _, _, ?_, .inl ⟨hk.1, hk.2, rfl, rfl, rfl⟩⟩
      have := getS_in L S B C f nn.toNat x ((hst.below hB1).below hx) (by omega)
      rw [← cell_con hok nn.toNat (by omega), ← hn] at this
      exact this
    · exact ⟨0, false, 5, getS_out L S B C f nn x ((hst.below hB1).below hx) (by unfold Jn.isKey; simp; omega), .inr ⟨by omega, rfl, rfl, rfl⟩⟩
  have HB1 := hide hB1
  clear hB1 hbo hlaw hst hlaw1 hWA hpast hok
  generalize (cellL C.list nn).getD 0 = cv at HCE HGET
  generalize (cellL C.list nn).isSome = cb at HCE HGET
  obtain ⟨gv, gb, ge, hg, hor⟩ := HGET.out w1.drew (Below.drew (Below.refl _ _))
  have HG := hide hg
  have HK : Hid (∀ x : World, Below w1.heap.size w1 x → x.cell? ⟨W, 0, none⟩ = some (.pointer (some ⟨S, 0, none⟩)) ∧ x.cell? ⟨B0, 1, none⟩ = some (.int .i64 nn)) := fun x hx => ⟨at_old hx c0, at_old hx q1⟩
  clear hg HGET
  go_enter Tryz.func76, Tryz.ntmps76
  go_upto_region 11 with fail
  rw [← hw1, ← hB0]
  have HW1 := hide hw1
  have HB0 := hide hB0
  clear hw1 hB0
  go_region_held3 (fun w' => w'.cell? ⟨W, 0, none⟩ = some (.pointer (some ⟨S, 0, none⟩)) ∧ w'.cell? ⟨B0, 1, none⟩ = some (.int .i64 nn))
    (first | with_reducible exact HK.out _ hb2 | go_keep)
    (first | (go_at_call 40; refine HG.out.mono ?_; rintro e w2 ⟨rfl, hb20⟩; have hb2 : Below w1.heap.size w1 w2 := (Below.drew (Below.refl _ _)).trans hb20))
  obtain ⟨k0, k1⟩ := HK.out _ hb2
  have HB2 := hide hb2
  clear hb2 hb20 HG c0 q1
  have hfd := field_rc
  go_wp2_with fail
  go_region_held3 (fun w' => w'.cell? ⟨B0, 1, none⟩ = some (.int .i64 nn))
    (first | with_reducible exact (HK.out _ hb3).2 | with_reducible exact (HK.out _ (Below.drew HB2.out)).2 | go_keep)
    (first | (go_at_call 113; refine (HNOW.out _ (Below.drew HB2.out)).mono ?_; rintro e w3 ⟨sc, sp, rfl, hcr, hpr, hb30⟩; obtain ⟨so, sk, rfl⟩ := crow_slice hcr; obtain ⟨po, pk, rfl, -⟩ := hpr.shape; have hb3 : Below w1.heap.size w1 w3 := (Below.drew HB2.out).trans (hb30.mono HB2.out.size)) | (go_at_call 116; refine (HCE.out _ _ hcr).mono ?_; rintro e w4 ⟨rfl, rfl⟩))
  have g1 := (HK.out _ hb3).2
  have HFIN := hide (step_sameC HSI.out (HB1.out.trans (hb3.mono HB1.out.size)))
  clear hb3 hb30 hcr hpr k0 k1 HNOW HCE HK HSI
  have HNUM := hide (num_any 5)
  rcases hor with ⟨h0, h1, rfl, rfl, rfl⟩ | ⟨hx, rfl, rfl, rfl⟩
  · have t1 : decide (nn < 0) = false := by simp; omega
    have t2 : decide (99 < nn) = false := by simp; omega
    go_wp2_with fail
    go_ret
    exact HFIN.out
  · by_cases hlt : nn < 0
    · have t1 : decide (nn < 0) = true := by simp; omega
      go_wp2_with fail
      refine (HNUM.out _).mono ?_
      rintro e w4 ⟨rfl, rfl⟩
      go_wp2_with fail
      go_ret
      exact HFIN.out
    · have t1 : decide (nn < 0) = false := by simp; omega
      have t2 : decide (99 < nn) = true := by simp; omega
      go_wp2_with fail
      refine (HNUM.out _).mono ?_
      rintro e w4 ⟨rfl, rfl⟩
      go_wp2_with fail
      go_ret
      exact HFIN.out

set_option maxHeartbeats 8000000 in
set_option maxRecDepth 100000 in
theorem cells_cellsC (L W D m : Nat) (w : World) (C : Jn.Con) (o : OpD) (ho : o.kind = 6) (h : SInvC L W D w C m) (hm : m ≤ 1300000000000) :
    Calls Tryz.prog 76 #[.pointer (some ⟨W, 0, none⟩), .agg o.cells, .bool true] w (StepPostC L W D m w) := by
  obtain ⟨S, B, f, past, d, nc, nq, na, hlaw, hst, hlast, hpm, hnc, hnq, hna, hdk, hds, hpl, hsf⟩ := h
  obtain ⟨kk, nn, mm, s, t, lo, ln, lc, cut, wo, wn, wc⟩ := o
  simp only at ho
  subst ho
  simp only [OpD.cells]
  obtain ⟨w1, hw1⟩ : ∃ w1, w1 = w.alloc (.cells #[.int .i64 6, .int .i64 nn, .int .i64 mm, .string s, .string t, .slice lo ln lc, .int .i64 cut, .slice wo wn wc] 106) := ⟨_, rfl⟩
  have hB1 : Below w.heap.size w w1 := by rw [hw1]; exact (Below.refl _ _).alloc (Nat.le_refl _) _
  have hlaw1 := hlaw.below hB1
  have hst1 := hst.below hB1
  obtain ⟨vp, vc, vq, va, lcs, lqs, lxs, hWA, hpast, hh1, e1, hh2, e2, hh3, e3⟩ := hlaw1.rest
  have HNOW := hide (fun w' (hb : Below w1.heap.size w1 w') => now_any L W w' _ _ vp vc vq va past C (hWA.fr (Fr.of (L := 0) (T := []) (X := none) hb (Nat.zero_le _)) (by simp) (by simp)) (hpast.fr (Fr.of (T := []) hb (Nat.le_trans hlaw1.low (Nat.le_refl _))) (by simp) (by simp) (by simp)) hlast (by omega))
  obtain ⟨c0, -, -, -, -, -⟩ := hWA.cell
  have hok : Jn.Ok C := hst.con.ok
  have HCS := hide (cellsS_any L S B C f w1 hst1)
  have HSM : Hid (∀ (va' vb : Value) (x : World), CRow x w1.heap.size va' C.list → CRow x 0 vb C.list → Calls Tryz.prog 99 #[va', vb] x (fun e w' => e = .returned (.bool true) ∧ Below x.heap.size x w')) := fun va' vb x ha hb => by
    have := sameCells_any w1.heap.size 0 va' vb C.list C.list x ha hb (list_bound hok)
    rw [decide_eq_true (rfl : C.list = C.list)] at this
    exact this
  have hLw := hlaw1.low
  have hz1 := hB1.size
  have HKC : Hid (∀ (x : World) (v : Value), Below w1.heap.size w1 x → CRow x w1.heap.size v C.list → Calls Tryz.prog 101 #[.pointer (some ⟨W, 3, none⟩), v] x (fun e w9 => e = .returned (.tuple #[]) ∧ StepPostC L W D m w (.returned (.bool true)) w9)) := by
    intro x v hb hr
    have f1 : Fr L [115, 52] none w1 x := Fr.of hb hLw
    have hlawx := hlaw1.below hb
    refine (keepCells_any L w1.heap.size W x _ _ vp vc vq va lcs v _ _ (hWA.fr (Fr.of (L := 0) (T := []) (X := none) hb (Nat.zero_le _)) (by simp) (by simp)) hlaw.lw
      ((hh1.fr (X := none) (Fr.of (T := []) hb hLw) (by simp) (by simp) (by simp) (.inl rfl)).mono hz1) hr (list_bound hok) hLw hb.size (by omega)).mono ?_
    rintro e w9 ⟨v', ls', rfl, hW9, hh9, hl9, hf9⟩
    have hf : Fr L [115, 52] none w1 w9 := f1.fresh hf9 (own_lies hr)
    have hz9 := hf.size
    refine ⟨rfl, rfl, ⟨C, S, B, f, past, d, nc + 3, nq, na, ⟨hlaw.lw, hlaw.ld, hlaw1.disk.fr hf (by decide) (by simp), vp, v', vq, va, ls', lqs, lxs, hW9, hpast.fr hf (by decide) (by decide) (by decide), hh9, by omega,
      (hh2.fr hf (by decide) (by decide) (by simp) (.inl rfl)).mono (by omega), e2, (hh3.fr hf (by decide) (by decide) (by simp) (.inl rfl)).mono (by omega), e3⟩, ?_, hlast, by omega, by omega, by omega, by omega, hdk, by omega, hpl, hsf⟩, ?_⟩
    · exact hst1.fr hf (by decide) (by decide) (by decide) (by simp)
    · exact (hB1.mono hlaw.low).trans hf.below
  clear hB1 hlaw hst hlaw1 hst1 hWA hpast hh1 hh2 hh3 hok
  go_enter Tryz.func76, Tryz.ntmps76
  go_upto_region 16 with fail
  rw [← hw1]
  have HW1 := hide hw1
  clear hw1
  go_wp2_with fail
  refine HCS.out.mono ?_
  rintro e w2 ⟨v, rfl, hcv, hb2⟩
  have g0 := at_old hb2 c0
  have HCV := hide hcv
  have HB2 := hide hb2
  clear hcv hb2 c0 HCS
  have hfd := field_rc
  go_wp2_with fail
  refine (HNOW.out _ HB2.out).mono ?_
  rintro e w3 ⟨sc, sp, rfl, hcr, hpr, hb3⟩
  obtain ⟨so, sk, rfl⟩ := crow_slice hcr
  obtain ⟨po, pk, rfl, -⟩ := hpr.shape
  have HSX := hide (HSM.out v _ w3 (HCV.out.below hb3) hcr)
  have HB3 := hide (HB2.out.trans (hb3.mono HB2.out.size))
  have HCV3 := hide (HCV.out.below hb3)
  clear hcr hpr hb3 HNOW HSM HCV HB2
  go_wp2_with fail
  refine HSX.out.mono ?_
  rintro e w4 ⟨rfl, hb4⟩
  have HB4 := hide (HB3.out.trans (hb4.mono HB3.out.size))
  have HK := hide (HKC.out w4 v (HB3.out.trans (hb4.mono HB3.out.size)) (HCV3.out.below hb4))
  clear hb4 HSX HKC HCV3 HB3
  go_wp2_with fail
  refine HK.out.mono ?_
  rintro e w9 ⟨rfl, hfin⟩
  have HFIN := hide hfin
  clear hfin HK
  go_wp2_with fail
  go_ret
  exact HFIN.out

set_option maxHeartbeats 8000000 in
set_option maxRecDepth 100000 in
theorem procs_procsC (L W D m : Nat) (w : World) (C : Jn.Con) (o : OpD) (ho : o.kind = 9) (h : SInvC L W D w C m) (hm : m ≤ 1300000000000) :
    Calls Tryz.prog 77 #[.pointer (some ⟨W, 0, none⟩), .agg o.cells, .bool true] w (StepPostC L W D m w) := by
  obtain ⟨S, B, f, past, d, nc, nq, na, hlaw, hst, hlast, hpm, hnc, hnq, hna, hdk, hds, hpl, hsf⟩ := h
  obtain ⟨kk, nn, mm, s, t, lo, ln, lc, cut, wo, wn, wc⟩ := o
  simp only at ho
  subst ho
  simp only [OpD.cells]
  obtain ⟨w1, hw1⟩ : ∃ w1, w1 = w.alloc (.cells #[.int .i64 9, .int .i64 nn, .int .i64 mm, .string s, .string t, .slice lo ln lc, .int .i64 cut, .slice wo wn wc] 106) := ⟨_, rfl⟩
  obtain ⟨B0, hB0⟩ : ∃ B0, B0 = w.heap.size := ⟨_, rfl⟩
  have hB1 : Below w.heap.size w w1 := by rw [hw1]; exact (Below.refl _ _).alloc (Nat.le_refl _) _
  have hbo : w1.heap[B0]? = some (.cells #[.int .i64 9, .int .i64 nn, .int .i64 mm, .string s, .string t, .slice lo ln lc, .int .i64 cut, .slice wo wn wc] 106 (0, 0)) := by rw [hw1, hB0]; exact heap_alloc_new w _
  have hlaw1 := hlaw.below hB1
  have hst1 := hst.below hB1
  obtain ⟨vp, vc, vq, va, lcs, lqs, lxs, hWA, hpast, hh1, e1, hh2, e2, hh3, e3⟩ := hlaw1.rest
  have HNOW := hide (now_any L W w1 _ _ vp vc vq va past C hWA hpast hlast (by omega))
  have c0 := hWA.cell.1
  have hok : Jn.Ok C := hst.con.ok
  have hcnt := hok.cnt
  have HPS := hide (fun x (hx : Below w1.heap.size w1 x) => procsS_any L S B C f x (hst1.below hx))
  have hLw := hlaw1.low
  have hz1 := hB1.size
  have HKC : Hid (∀ (x y : World) (v : Value), Below w1.heap.size w1 x → Below x.heap.size x y → PRow y x.heap.size v C.procs → Calls Tryz.prog 102 #[.pointer (some ⟨W, 3, none⟩), v] y (fun e w9 => e = .returned (.tuple #[]) ∧ StepPostC L W D m w (.returned (.bool true)) w9)) := by
    intro x y v hbx hby hr
    have hb : Below w1.heap.size w1 y := hbx.trans (hby.mono hbx.size)
    have f1 : Fr L [115, 54] none w1 y := Fr.of hb hLw
    have hzx := hbx.size
    have hzy := hby.size
    refine (keepProcs_any L x.heap.size W y _ _ vp vc vq va lqs v _ _ (hWA.fr (Fr.of (L := 0) (T := []) (X := none) hb (Nat.zero_le _)) (by simp) (by simp)) hlaw.lw
      ((hh2.fr (X := none) (Fr.of (T := []) hb hLw) (by simp) (by simp) (by simp) (.inl rfl)).mono (by omega)) hr (by omega) (by omega) hby.size (by omega)).mono ?_
    rintro e w9 ⟨v', ls', rfl, hW9, hh9, hl9, hf9⟩
    have hf : Fr L [115, 54] none w1 w9 := f1.fresh hf9 (fun k hk => Nat.le_trans hbx.size (own_lies hr k hk))
    have hz9 := hf.size
    refine ⟨rfl, rfl, ⟨C, S, B, f, past, d, nc, nq + 3, na, ⟨hlaw.lw, hlaw.ld, hlaw1.disk.fr hf (by decide) (by simp), vp, vc, v', va, lcs, ls', lxs, hW9, hpast.fr hf (by decide) (by decide) (by decide),
      (hh1.fr hf (by decide) (by decide) (by simp) (.inl rfl)).mono (by omega), e1, hh9, by omega, (hh3.fr hf (by decide) (by decide) (by simp) (.inl rfl)).mono (by omega), e3⟩, ?_, hlast, by omega, by omega, by omega, by omega, hdk, by omega, hpl, hsf⟩, ?_⟩
    · exact hst1.fr hf (by decide) (by decide) (by decide) (by simp)
    · exact (hB1.mono hlaw.low).trans hf.below
  have HSM : Hid (∀ (b : Nat) (va' vb : Value) (x : World), PRow x b va' C.procs → PRow x 0 vb C.procs → Calls Tryz.prog 100 #[va', vb] x (fun e w' => e = .returned (.bool true) ∧ Below x.heap.size x w')) := fun b va' vb x ha hb => by
    have := sameProcs_any b 0 va' vb C.procs C.procs x ha hb (by omega)
    rw [decide_eq_true (rfl : C.procs = C.procs)] at this
    exact this
  have HBO := hide hbo
  clear hB1 hlaw hst hlaw1 hst1 hWA hpast hh1 hh2 hh3 hok hbo
  go_enter Tryz.func77, Tryz.ntmps77
  go_upto_region 1 with fail
  rw [← hw1, ← hB0]
  have HW1 := hide hw1
  have HB0 := hide hB0
  clear hw1 hB0
  go_wp2_with fail
  refine HNOW.out.mono ?_
  rintro e wn ⟨sc, sp, rfl, hcr, hpr, hbn⟩
  obtain ⟨so, sk, rfl⟩ := crow_slice hcr
  obtain ⟨po, pk, rfl, -⟩ := hpr.shape
  obtain ⟨wv, hwv⟩ : ∃ wv, wv = wn.alloc (.cells #[.slice so C.list.length sk, .slice po C.procs.length pk] 146) := ⟨_, rfl⟩
  obtain ⟨Bv, hBv⟩ : ∃ Bv, Bv = wn.heap.size := ⟨_, rfl⟩
  have hba : Below wn.heap.size wn wv := by rw [hwv]; exact (Below.refl _ _).alloc (Nat.le_refl _) _
  have hbv : Below w1.heap.size w1 wv := hbn.trans (hba.mono hbn.size)
  have hon := (hbv.block B0 (Array.getElem?_eq_some_iff.1 HBO.out).1).trans HBO.out
  have hvn : wv.heap[Bv]? = some (.cells #[.slice so C.list.length sk, .slice po C.procs.length pk] 146 (0, 0)) := by rw [hwv, hBv]; exact heap_alloc_new wn _
  have p0 : wv.cell? ⟨B0, 0, none⟩ = some (.int .i64 9) := (cell_of_row wv B0 0 _ _ _ hon).trans rfl
  have g0 := at_old hbv c0
  have HVN := hide hvn
  have HPR := hide (hpr.below hba)
  have HBV := hide hbv
  clear hcr hpr hbn hon HNOW hba hbv hvn c0
  go_upto_region 2 with fail
  rw [← hwv, ← hBv]
  have HWV := hide hwv
  have HBVV := hide hBv
  clear hwv hBv
  go_wp2_with fail
  refine (HPS.out _ HBV.out).mono ?_
  rintro e w2 ⟨v, rfl, hcv, hb2⟩
  have hvn := (hb2.block Bv (Array.getElem?_eq_some_iff.1 HVN.out).1).trans HVN.out
  have v1 : w2.cell? ⟨Bv, 1, none⟩ = some (.slice po C.procs.length pk) := (cell_of_row w2 Bv 1 _ _ _ hvn).trans rfl
  have HCV := hide hcv
  have HB2 := hide hb2
  have HSX := hide (HSM.out _ v _ w2 hcv (HPR.out.below hb2))
  clear hcv hb2 hvn HPS HSM g0 p0
  go_wp2_with fail
  refine HSX.out.mono ?_
  rintro e w4 ⟨rfl, hb4⟩
  have HK := hide (HKC.out wv w4 v HBV.out (HB2.out.trans (hb4.mono HB2.out.size)) (HCV.out.below hb4))
  clear hb4 HSX HKC HCV
  go_wp2_with fail
  refine HK.out.mono ?_
  rintro e w9 ⟨rfl, hfin⟩
  have HFIN := hide hfin
  clear hfin HK
  go_wp2_with fail
  go_ret
  exact HFIN.out
end Go.Proofs.YtellilpeakpbfabGreatDoor

end

section
/-
  The walk of Write.
-/
namespace Go.Proofs.YtellilpeakpbfabGreatDoor
open Go.RowKit

theorem cellsOf_at (ts : List (List UInt8)) : ∀ (j : Nat), j < ts.length → (cellsOf ts)[2 * j]? = some (.int .i64 (Ck.tokenP (ts.getD j [])).1) ∧ (cellsOf ts)[2 * j + 1]? = some (.int .i64 (Ck.tokenP (ts.getD j [])).2) := by
  induction ts with
  | nil => intro j hj; simp at hj
  | cons t ts ih =>
    intro j hj
    have e : cellsOf (t :: ts) = .int .i64 (Ck.tokenP t).1 :: .int .i64 (Ck.tokenP t).2 :: cellsOf ts := by simp [cellsOf]
    cases j with
    | zero => rw [e]; exact ⟨rfl, rfl⟩
    | succ j =>
      have h := ih j (by simp at hj; omega)
      rw [e, show 2 * (j + 1) = 2 * j + 1 + 1 by omega]
      simp only [List.getElem?_cons_succ]
      simpa using h
/-- A row of tokens that a call has made: its value, its cells. -/
theorem tok_shape {w : World} {B : Nat} {v : Value} {ts : List (List UInt8)} (h : w.ownsRow B 165 2 v ts.length (cellsOf ts)) :
    ∃ ao cap, v = .slice ao ts.length cap ∧ (0 < ts.length → ∃ g, ao = some ⟨g, 0, none⟩ ∧ g < w.heap.size ∧ ∀ j, j < ts.length → w.cell? ⟨g, 2 * j, none⟩ = some (.int .i64 (Ck.tokenP (ts.getD j [])).1) ∧ w.cell? ⟨g, 2 * j + 1, none⟩ = some (.int .i64 (Ck.tokenP (ts.getD j [])).2)) := by
  have h0 := h
  rcases h.2 with ⟨rfl, hn⟩ | ⟨g, cap, cur, rfl, hg, hh, hcap, hm, hsz, htake⟩
  · exact ⟨none, 0, by rw [hn], fun hp => by omega⟩
  · refine ⟨_, cap, rfl, fun _ => ⟨g, rfl, (Array.getElem?_eq_some_iff.1 hh).1, fun j hj => ?_⟩⟩
    obtain ⟨c1, c2⟩ := cellsOf_at ts j hj
    have a1 := h0.cells (g := g) rfl (2 * j) _ c1
    have a2 := h0.cells (g := g) rfl (2 * j + 1) _ c2
    simp only [Addr.add_lit, Nat.zero_add] at a1 a2
    exact ⟨a1, a2⟩

def WrRel (w : World) (ts : List (List UInt8)) (x i : Value) (wr : World) : Prop :=
  ∃ (k : Nat) (u : ByteArray), k ≤ ts.length ∧ i = .int .i64 k ∧ x = .string u ∧ u.data.toList = Ck.lineK ts k ∧ Below w.heap.size w wr

set_option maxHeartbeats 1000000 in
set_option maxRecDepth 100000 in
theorem swrite_any (ts : List (List UInt8)) (v : Value) (w : World) (B : Nat) (hown : w.ownsRow B 165 2 v ts.length (cellsOf ts)) (hk : ∀ t ∈ ts, (Ck.tokenP t).1 ≠ 0) (hl : ∀ t ∈ ts, t.length ≤ 400) (hn : ts.length ≤ 401) (hW : WordsAt w) (hP : PowAt w) :
    Calls Tryz.prog 142 #[v] w fun e w' => e = .returned (T (Ck.lineK ts ts.length)) ∧ Below w.heap.size w w' := by
  obtain ⟨ao, cap, rfl, hrow⟩ := tok_shape hown
  have HRW := hide hrow
  have HK := hide hk
  have HL := hide hl
  have HW := hide hW
  have HP := hide hP
  clear hown hrow hk hl hW hP
  go_enter Tryz.func142, Tryz.ntmps142
  go_wp2
  go_loopw [3, 4] (fun x i wr => WrRel w ts x i wr) (fun _ i _ => ts.length - (intOf i).toNat)
  case atStart => exact ⟨0, ⟨#[]⟩, Nat.zero_le _, rfl, rfl, rfl, Below.refl _ _⟩
  case round =>
    obtain ⟨k, u, hkn, rfl, rfl, hline, hbel⟩ := hrel
    have hus : u.size ≤ 401 * k := by
      have h1 := Ck.lineK_len ts HL.out k
      have h2 : u.data.toList.length = u.size := by simp
      rw [hline] at h2; omega
    have HLN := hide hline
    have HB := hide hbel
    clear hline hbel
    by_cases hlt : k < ts.length
    · obtain ⟨g, rfl, hg, hcells⟩ := HRW.out (by omega)
      obtain ⟨t, hte⟩ : ∃ t, t = ts.getD k [] := ⟨_, rfl⟩
      have htm : t ∈ ts := by rw [hte]; simp [List.getD, hlt]
      obtain ⟨c1, c2⟩ := hcells k hlt
      rw [← hte] at c1 c2
      rw [Nat.mul_comm 2 k] at c1 c2
      have d1 : wr.cell? ⟨g, k * 2, none⟩ = some (.int .i64 (Ck.tokenP t).1) := (HB.out.cell (p := ⟨g, k * 2, none⟩) hg).trans c1
      have d2 : wr.cell? ⟨g, k * 2 + 1, none⟩ = some (.int .i64 (Ck.tokenP t).2) := (HB.out.cell (p := ⟨g, k * 2 + 1, none⟩) hg).trans c2
      have ht := text_any t wr (HK.out t htm) (HW.out.below HW.out.1 HB.out) (HP.out.below HP.out.1 HB.out)
      have hsl := Ck.showTok_len t (HL.out t htm)
      have hstep : Ck.lineK ts (k + 1) = Ck.lineK ts k ++ ((if 0 < k then [32] else []) ++ Ck.showTok t) := by rw [hte]; rfl
      generalize Ck.showTok t = q at *
      generalize Ck.tokenP t = p at *
      obtain ⟨p1, p2⟩ := p
      obtain ⟨Q, hQ⟩ : ∃ Q : ByteArray, Q = ⟨q.toArray⟩ := ⟨_, rfl⟩
      have hQs : Q.size ≤ 400 := by rw [hQ]; exact hsl
      have ht' : Calls Tryz.prog 167 #[.agg #[.int .i64 p1, .int .i64 p2]] wr fun e w' => e = .returned (.string Q) ∧ Below wr.heap.size wr w' := by rw [hQ]; exact ht
      have HT := hide ht'
      have HQ := hide hQ
      have HST := hide hstep
      clear ht ht' hQ hstep hte htm hsl hcells c1 c2
      by_cases h0 : 0 < k
      · go_wp2_with (go_at_call 167; refine HT.out.mono ?_; rintro e w2 ⟨rfl, hb2⟩)
        go_roundw
        case rel =>
          refine ⟨k + 1, u ++ ⟨#[32]⟩ ++ Q, by omega, by go_num, rfl, ?_, HB.out.trans (hb2.mono HB.out.size)⟩
          rw [HST.out, if_pos h0, ← HLN.out, HQ.out]
          simp
        case measure => simp [intOf]; omega
      · go_wp2_with (go_at_call 167; refine HT.out.mono ?_; rintro e w2 ⟨rfl, hb2⟩)
        go_roundw
        case rel =>
          refine ⟨k + 1, u ++ Q, by omega, by go_num, rfl, ?_, HB.out.trans (hb2.mono HB.out.size)⟩
          rw [HST.out, if_neg h0, ← HLN.out, HQ.out]
          simp
        case measure => simp [intOf]; omega
    · go_wp2
      go_ret
      refine ⟨?_, HB.out⟩
      show Ending.returned (.string u) = _
      rw [show ts.length = k by omega, ← HLN.out]; rfl
end Go.Proofs.YtellilpeakpbfabGreatDoor

end

section
/-
  The walks of Check and Show.
-/
namespace Go.Proofs.YtellilpeakpbfabGreatDoor
open Go.RowKit

set_option maxHeartbeats 400000 in
theorem check_any (s : ByteArray) (w : World) (hW : WordsAt w) :
    Calls Tryz.prog 107 #[.string s] w fun e w' => e = .returned (.tuple #[.int .i64 (Ck.read s.data.toList).1, .int .i64 (Ck.read s.data.toList).2]) ∧ Below w.heap.size w w' := by
  have hr := read_any s w hW
  generalize Ck.read s.data.toList = p at *
  obtain ⟨p1, p2⟩ := p
  have HR := hide hr
  clear hr hW
  go_enter Tryz.func107, Tryz.ntmps107
  go_wp2_with fail
  refine HR.out.mono ?_
  rintro e w1 ⟨v, rfl, hb, -⟩
  have HB := hide hb
  clear hb
  go_wp2
  go_ret2
  exact ⟨rfl, HB.out⟩

set_option maxHeartbeats 400000 in
theorem show_ok (s : ByteArray) (w : World) (hok : (Ck.read s.data.toList).2 = 0) (hs : s.size ≤ 400) (hW : WordsAt w) (hP : PowAt w) :
    Calls Tryz.prog 110 #[.string s] w fun e w' => e = .returned (.tuple #[T (Ck.lineK (Ck.toks s.data.toList) (Ck.toks s.data.toList).length), .int .i64 0]) ∧ Below w.heap.size w w' := by
  have hl : s.data.toList.length = s.size := by simp
  have hr := read_any s w hW
  have hkn : ∀ t ∈ Ck.toks s.data.toList, (Ck.tokenP t).1 ≠ 0 := by
    rw [Ck.read, if_neg (by omega)] at hok
    exact Ck.known _ 0 [1] hok
  have htk := Ck.toks_len s.data.toList
  rw [hok] at hr
  generalize (Ck.read s.data.toList).1 = p1 at *
  generalize Ck.toks s.data.toList = ts at *
  obtain ⟨hn1, hn2, hn3⟩ := htk
  rw [hl] at hn1 hn3
  have hw : ∀ (v : Value) (w1 : World), w1.ownsRow w.heap.size 165 2 v ts.length (cellsOf ts) → Below w.heap.size w w1 →
      Calls Tryz.prog 142 #[v] w1 fun e w' => e = .returned (T (Ck.lineK ts ts.length)) ∧ Below w1.heap.size w1 w' := by
    intro v w1 ho hb
    exact swrite_any ts v w1 w.heap.size ho hkn (fun t ht => Nat.le_trans (hn3 t ht) hs) (by omega) (hW.below hW.1 hb) (hP.below hP.1 hb)
  have HR := hide hr
  have HW := hide hw
  clear hr hw hW hP hkn hn1 hn2 hn3 hok hl
  go_enter Tryz.func110, Tryz.ntmps110
  go_wp2_with fail
  refine HR.out.mono ?_
  rintro e w1 ⟨v, rfl, hb, ho⟩
  have HB := hide hb
  have HO := hide (ho (by simp))
  clear hb ho
  go_wp2_with fail
  refine (HW.out _ _ HO.out HB.out).mono ?_
  rintro e w2 ⟨rfl, hb⟩
  have HB2 := hide hb
  clear hb
  go_wp2
  go_ret2
  exact ⟨rfl, HB.out.trans (HB2.out.mono HB.out.size)⟩

set_option maxHeartbeats 400000 in
theorem show_no (s : ByteArray) (w : World) (hok : (Ck.read s.data.toList).2 ≠ 0) (hW : WordsAt w) :
    Calls Tryz.prog 110 #[.string s] w fun e w' => e = .returned (.tuple #[T [], .int .i64 (Ck.read s.data.toList).2]) ∧ Below w.heap.size w w' := by
  have hr := read_any s w hW
  generalize Ck.read s.data.toList = p at *
  obtain ⟨p1, p2⟩ := p
  have g : (p2 != 0) = true := by simpa using hok
  have HR := hide hr
  clear hr hok hW
  go_enter Tryz.func110, Tryz.ntmps110
  go_wp2_with fail
  refine HR.out.mono ?_
  rintro e w1 ⟨v, rfl, hb, -⟩
  have HB := hide hb
  clear hb
  go_wp2
  go_ret2
  exact ⟨rfl, HB.out⟩

theorem show_any (s : ByteArray) (w : World) (hW : WordsAt w) (hP : PowAt w) :
    Calls Tryz.prog 110 #[.string s] w fun e w' => e = .returned (.tuple #[T (Ck.showP s.data.toList).1, .int .i64 (Ck.showP s.data.toList).2]) ∧ Below w.heap.size w w' := by
  by_cases h : (Ck.read s.data.toList).2 = 0
  · have hs : s.size ≤ 400 := by
      rcases Nat.lt_or_ge 400 s.size with g | g
      · have hl : s.data.toList.length = s.size := by simp
        rw [Ck.read, if_pos (by omega)] at h
        simp at h
      · exact g
    have hk := show_ok s w h hs hW hP
    rw [Ck.read_same] at h
    rw [Ck.showP, if_pos h]
    exact hk
  · have hk := show_no s w h hW
    rw [Ck.read_same] at h hk
    rw [Ck.showP, if_neg h]
    exact hk

end Go.Proofs.YtellilpeakpbfabGreatDoor

end

section
/-
  The walk of the document's Show.
-/
namespace Go.Proofs.YtellilpeakpbfabGreatDoor
open Go.RowKit

def ShRel (w : World) (ts : List (List UInt8)) (x i : Value) (wr : World) : Prop :=
  ∃ (k : Nat) (u : ByteArray), k ≤ ts.length ∧ i = .int .i64 k ∧ x = .string u ∧ u.data.toList = Ck.lineK ts k ∧ Below w.heap.size w wr

set_option maxHeartbeats 1000000 in
set_option maxRecDepth 100000 in
theorem refShow_ok (s : ByteArray) (w : World) (hs : s.size ≤ 400) (hok : (Ck.refCheck s.data.toList).2 = 0) :
    Calls Tryz.prog 111 #[.string s] w fun e w' => e = .returned (.tuple #[T (Ck.lineK (Ck.toks s.data.toList) (Ck.toks s.data.toList).length), .int .i64 0]) ∧ Below w.heap.size w w' := by
  have hl : s.data.toList.length = s.size := by simp
  have hc := refCheck_any s
  rw [hok] at hc
  generalize (Ck.refCheck s.data.toList).1 = p1 at *
  have htk := Ck.toks_len s.data.toList
  have ht := tokens_any s
  generalize Ck.toks s.data.toList = ts at *
  have HC := hide hc
  have HT := hide ht
  obtain ⟨hn1, hn2, hn3⟩ := htk
  rw [hl] at hn1 hn3
  have HL : Hid (∀ t ∈ ts, t.length ≤ 400) := fun t ht => Nat.le_trans (hn3 t ht) hs
  have HNE := hide hn2
  clear hc ht hl hn2 hn3 hok
  go_enter Tryz.func111, Tryz.ntmps111
  go_wp2_with fail
  refine (HC.out _).mono ?_
  rintro e w0 ⟨rfl, hb⟩
  have HB0 := hide hb
  clear hb
  go_wp2_with fail
  refine (HT.out _ hs).mono ?_
  rintro e w1 ⟨v, rfl, hown, hbel⟩
  obtain ⟨ao, cap, rfl, hrow⟩ := row_shape hown
  have HB : Hid (Below w.heap.size w w1) := HB0.out.trans (hbel.mono HB0.out.size)
  have HRW := hide hrow
  clear hown hbel hrow HT HC HB0
  go_wp2
  go_loopw [7, 8] (fun x i wr => ShRel w1 ts x i wr) (fun _ i _ => ts.length - (intOf i).toNat)
  case atStart => exact ⟨0, ⟨#[]⟩, Nat.zero_le _, rfl, rfl, rfl, Below.refl _ _⟩
  case round =>
    obtain ⟨k, u, hkn, rfl, rfl, hline, hbel⟩ := hrel
    have hus : u.size ≤ 401 * k := by
      have h1 := Ck.lineK_len ts HL.out k
      have h2 : u.data.toList.length = u.size := by simp
      rw [hline] at h2; omega
    have HLN := hide hline
    have HBR := hide hbel
    clear hline hbel
    by_cases hlt : k < ts.length
    · obtain ⟨g, rfl, _, hg2, hcells⟩ := HRW.out (by omega)
      obtain ⟨t, hte⟩ : ∃ t, t = ts.getD k [] := ⟨_, rfl⟩
      have htm : t ∈ ts := by rw [hte]; simp [List.getD, hlt]
      have htl := HL.out t htm
      have hstep : Ck.lineK ts (k + 1) = Ck.lineK ts k ++ ((if 0 < k then [32] else []) ++ Ck.showTok t) := by rw [hte]; rfl
      obtain ⟨tt, htt⟩ : ∃ tt : ByteArray, tt = ⟨t.toArray⟩ := ⟨_, rfl⟩
      have hck : wr.cell? ⟨g, k, none⟩ = some (.string tt) := by rw [htt, hte]; exact (HBR.out.cell (p := ⟨g, k, none⟩) hg2).trans (hcells k hlt)
      have hts : tt.size ≤ 400 := by rw [htt]; exact htl
      have hne := HNE.out t htm
      have hnum : ∀ w, Calls Tryz.prog 143 #[.string tt] w fun e w' => e = .returned (.int .i64 (Ck.numberR t)) ∧ w' = w := by
        intro w
        have h := number_any tt w hts
        rw [htt] at h ⊢
        exact h
      have HTT := hide htt
      have HST := hide hstep
      clear hcells hte htm htt hstep
      cases hn : Ck.numIn t with
      | none =>
        have e : Ck.numberR t = -1 := by rw [Ck.numR_iff t hne, hn]
        rw [e] at hnum
        clear e
        have hq : Ck.showTok t = t := by rw [Ck.showTok, hn]
        rw [hq] at HST
        have HN := hide hnum
        clear hnum hq hn
        by_cases h0 : 0 < k
        · go_wp2_with (go_at_call 143; refine (HN.out _).mono ?_; rintro e w' ⟨rfl, rfl⟩)
          go_roundw
          case rel =>
            refine ⟨k + 1, u ++ (⟨#[32]⟩ ++ tt), by omega, by go_num, rfl, ?_, HBR.out⟩
            rw [HST.out, if_pos h0, ← HLN.out, HTT.out]
            simp
          case measure => simp [intOf]; omega
        · go_wp2_with (go_at_call 143; refine (HN.out _).mono ?_; rintro e w' ⟨rfl, rfl⟩)
          go_roundw
          case rel =>
            refine ⟨k + 1, u ++ tt, by omega, by go_num, rfl, ?_, HBR.out⟩
            rw [HST.out, if_neg h0, ← HLN.out, HTT.out]
            simp
          case measure => simp [intOf]; omega
      | some n =>
        have e : Ck.numberR t = (n : Int) := by rw [Ck.numR_iff t hne, hn]
        rw [e] at hnum
        clear e
        have hn6 := Ck.numIn_lt t n hn
        have hq : Ck.showTok t = Lib.decDigits n := by rw [Ck.showTok, hn]
        rw [hq] at HST
        have hdl := Ck.dec_len n hn6
        have hdec := decimal_any n
        generalize Lib.decDigits n = q at *
        obtain ⟨Q, hQ⟩ : ∃ Q : ByteArray, Q = ⟨q.toArray⟩ := ⟨_, rfl⟩
        have hQs : Q.size ≤ 6 := by rw [hQ]; exact hdl
        have hdec' : ∀ w, Calls Tryz.prog 144 #[.int .i64 (n : Int)] w fun e w' => e = .returned (.string Q) ∧ Below w.heap.size w w' := by rw [hQ]; exact fun w => hdec w hn6
        have HDC := hide hdec'
        have HQ := hide hQ
        have HN := hide hnum
        clear hnum hq hn hdec hdec' hQ hdl
        by_cases h0 : 0 < k
        · go_wp2_with (first
            | (go_at_call 143; refine (HN.out _).mono ?_; rintro e w' ⟨rfl, rfl⟩)
            | (go_at_call 144; refine (HDC.out _).mono ?_; rintro e w2 ⟨rfl, hb2⟩))
          go_roundw
          case rel =>
            refine ⟨k + 1, u ++ (⟨#[32]⟩ ++ Q), by omega, by go_num, rfl, ?_, HBR.out.trans (hb2.mono HBR.out.size)⟩
            rw [HST.out, if_pos h0, ← HLN.out, HQ.out]
            simp
          case measure => simp [intOf]; omega
        · go_wp2_with (first
            | (go_at_call 143; refine (HN.out _).mono ?_; rintro e w' ⟨rfl, rfl⟩)
            | (go_at_call 144; refine (HDC.out _).mono ?_; rintro e w2 ⟨rfl, hb2⟩))
          go_roundw
          case rel =>
            refine ⟨k + 1, u ++ Q, by omega, by go_num, rfl, ?_, HBR.out.trans (hb2.mono HBR.out.size)⟩
            rw [HST.out, if_neg h0, ← HLN.out, HQ.out]
            simp
          case measure => simp [intOf]; omega
    · go_wp2
      go_ret2
      refine ⟨?_, HB.out.trans (HBR.out.mono HB.out.size)⟩
      show Ending.returned (.tuple #[.string u, .int .i64 0]) = _
      rw [show ts.length = k by omega, ← HLN.out]; rfl

set_option maxHeartbeats 400000 in
theorem refShow_no (s : ByteArray) (w : World) (hok : (Ck.refCheck s.data.toList).2 ≠ 0) :
    Calls Tryz.prog 111 #[.string s] w fun e w' => e = .returned (.tuple #[T [], .int .i64 (Ck.refCheck s.data.toList).2]) ∧ Below w.heap.size w w' := by
  have hc := refCheck_any s
  generalize Ck.refCheck s.data.toList = p at *
  obtain ⟨p1, p2⟩ := p
  have g : (p2 != 0) = true := by simpa using hok
  have HC := hide hc
  clear hc hok
  go_enter Tryz.func111, Tryz.ntmps111
  go_wp2_with fail
  refine (HC.out _).mono ?_
  rintro e w0 ⟨rfl, hb⟩
  have HB0 := hide hb
  clear hb
  go_wp2
  go_ret2
  exact ⟨rfl, HB0.out⟩
theorem refShow_any (s : ByteArray) (w : World) :
    Calls Tryz.prog 111 #[.string s] w fun e w' => e = .returned (.tuple #[T (Ck.showP s.data.toList).1, .int .i64 (Ck.showP s.data.toList).2]) ∧ Below w.heap.size w w' := by
  by_cases h : (Ck.refCheck s.data.toList).2 = 0
  · have hs : s.size ≤ 400 := by
      rcases Nat.lt_or_ge 400 s.size with g | g
      · have hl : s.data.toList.length = s.size := by simp
        rw [Ck.refCheck, if_pos (by omega)] at h
        simp at h
      · exact g
    rw [Ck.showP, if_pos h]
    exact refShow_ok s w hs h
  · rw [Ck.showP, if_neg h]
    exact refShow_no s w h
end Go.Proofs.YtellilpeakpbfabGreatDoor

end
