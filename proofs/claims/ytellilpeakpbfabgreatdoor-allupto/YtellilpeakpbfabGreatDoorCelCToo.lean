import Derived.Test.YtellilpeakpbfabGreatDoorStCToo
import Derived.Test.YtellilpeakpbfabGreatDoorRnToo
/-
  The walk of World.cells where crashes may come: Put, Del.
-/
set_option linter.unusedVariables false
namespace Go.Proofs.YtellilpeakpbfabGreatDoor
open Go.RowKit

set_option maxHeartbeats 8000000 in
set_option maxRecDepth 100000 in
theorem cells_putC (L W D m : Nat) (w : World) (C : Jn.Con) (o : OpD) (ho : o.kind = 3) (h : SInvC L W D w C m) (hm : m ≤ 1200000000000) (hP : PowAt w) (hpL : 1 < L)
    (x0 : -9223372036854775808 ≤ o.m) (x1 : o.m ≤ 9223372036854775807) (hWd : WordsAt w) (lW : List Int) (hcb : B64' o.cut) (hrw : ∀ x, Below L w x → Raws x (.slice o.wo o.wn o.wc) lW) :
    Calls Tryz.prog 76 #[.pointer (some ⟨W, 0, none⟩), .agg o.cells, .bool true] w (StepPostC L W D m w) := by
  have HCE := hide (fun W w s1 s2 f a1 a2 b1 b2 c1 c2 h1 h2 hf => change_errC W w s1 s2 f 96 a1 a2 b1 b2 c1 c2 h1 h2 o hf)
  obtain ⟨S, B, f, past, d, nc, nq, na, hlaw, hst, hlast, hpm, hnc, hnq, hna, hdk, hds, hpl, hsf⟩ := h
  have HCO := hide (fun N wp C' d' s1 s2 v l most hlaw hLN hN h1 h2 hst hr hl8 hmost hel her hpd hdk' hpre (hbx : Below L w wp) => chg_step (L := L) (W := W) (D := D) (N := N) (S := S) (B := B) (m := m) (wp := wp) (past := past) (C' := C') (d := d) (d' := d') (f := f) (nc := nc) (nq := nq) (na := na) (s1 := s1) (s2 := s2) (v := v) (l := l) (most := most) (o := o) (lW := lW) hlaw hLN hN h1 h2 hst hr hl8 hmost hel her hpm hnc hnq hna hds hpd hdk' hpre hm (hP.below hpL hbx) (hWd.below (Nat.lt_of_le_of_lt (by decide) hpL) hbx) hpL hcb (fun y hy => hrw y (hbx.trans hy)))
  obtain ⟨kk, nn, mm, s, t, lo, ln, lc, cut, wo, wn, wc⟩ := o
  simp only at ho x0 x1
  subst ho
  simp only [OpD.cells] at HCE HCO ⊢
  obtain ⟨w1, hw1⟩ : ∃ w1, w1 = w.alloc (.cells #[.int .i64 3, .int .i64 nn, .int .i64 mm, .string s, .string t, .slice lo ln lc, .int .i64 cut, .slice wo wn wc] 106) := ⟨_, rfl⟩
  obtain ⟨B0, hB0⟩ : ∃ B0, B0 = w.heap.size := ⟨_, rfl⟩
  have hB1 : Below w.heap.size w w1 := by rw [hw1]; exact (Below.refl _ _).alloc (Nat.le_refl _) _
  have hbo : w1.heap[B0]? = some (.cells #[.int .i64 3, .int .i64 nn, .int .i64 mm, .string s, .string t, .slice lo ln lc, .int .i64 cut, .slice wo wn wc] 106 (0, 0)) := by rw [hw1, hB0]; exact heap_alloc_new w _
  have q1 : w1.cell? ⟨B0, 1, none⟩ = some (.int .i64 nn) := (cell_of_row w1 B0 1 _ _ _ hbo).trans rfl
  have q2 : w1.cell? ⟨B0, 2, none⟩ = some (.int .i64 mm) := (cell_of_row w1 B0 2 _ _ _ hbo).trans rfl
  have hlaw1 := hlaw.below hB1
  obtain ⟨vp, vc, vq, va, lcs, lqs, lxs, hWA, hpast, -, -, -, -, -, -⟩ := hlaw1.rest
  have HNOW := hide (fun w' (hb : Below w1.heap.size w1 w') => now_any L W w' _ _ vp vc vq va past C (hWA.fr (Fr.of (L := 0) (T := []) (X := none) hb (Nat.zero_le _)) (by simp) (by simp)) (hpast.fr (Fr.of (T := []) hb (Nat.le_trans hlaw1.low (Nat.le_refl _))) (by simp) (by simp) (by simp)) hlast (by omega))
  obtain ⟨c0, -, -, -, -, -⟩ := hWA.cell
  have hok : Jn.Ok C := hst.con.ok
  have HPS := hide (fun x (hx : Below w1.heap.size w1 x) => putS_any L S B C f nn mm x ((hst.below hB1).below hx) ((hP.below hP.1 hB1).below (Nat.lt_of_lt_of_le hP.1 hB1.size) hx) hpL)
  have HRP := hide (fun sc sp w h1 h2 => refPut_any C sc sp nn mm w h1 h2 hok x0 x1)
  have HB1 := hide hB1
  have HWA := hide hWA
  have HBO := hide hbo
  have HLAW := hide hlaw
  have HST := hide hst
  have HPW := hide hP
  clear hB1 hbo hlaw hst hlaw1 hWA hpast hP
  obtain ⟨C', hC'⟩ : ∃ C', C' = (Jn.put C nn mm).1 := ⟨_, rfl⟩
  obtain ⟨er, her⟩ : ∃ er, er = (Jn.put C nn mm).2 := ⟨_, rfl⟩
  rw [← hC', ← her] at HRP HPS
  have hpp : C'.procs = C.procs := by rw [hC']; exact put_procs C nn mm
  have HCC' := hide hC'
  have HER := hide her
  have HPP := hide hpp
  have hB1s : ∀ x : World, Below w1.heap.size w1 x → x.cell? ⟨B0, 1, none⟩ = some (.int .i64 nn) ∧ x.cell? ⟨B0, 2, none⟩ = some (.int .i64 mm) := fun x hx => ⟨at_old hx q1, at_old hx q2⟩
  have HKP := hide hB1s
  clear hC' her hpp hB1s
  go_enter Tryz.func76, Tryz.ntmps76
  go_upto_region 3 with fail
  rw [← hw1, ← hB0]
  have HW1 := hide hw1
  have HB0 := hide hB0
  clear hw1 hB0
  go_cut [7, 8] (fun s7 s8 wx => CutC w1 C' er s7 s8 wx)
  case first =>
    go_region_held3 (fun w' => w'.cell? ⟨B0, 1, none⟩ = some (.int .i64 nn) ∧ w'.cell? ⟨B0, 2, none⟩ = some (.int .i64 mm))
      (first | with_reducible exact HKP.out _ (Below.drew (Below.refl _ _)) | with_reducible exact HKP.out _ hbp | with_reducible exact HKP.out _ hbn | with_reducible exact HKP.out _ (Below.alloc hbp hbp.size _) | with_reducible exact HKP.out _ (Below.alloc hbn hbn.size _) | with_reducible exact HKP.out _ (Below.alloc (Below.drew (Below.refl _ _)) (Nat.le_refl _) _) | with_reducible exact HKP.out _ (Below.drew (Below.alloc (Below.refl _ _) (Nat.le_refl _) _)) | with_reducible exact HKP.out _ ((hbp.setCell (p := ⟨wn.heap.size, 0, none⟩) hbn.size _).setCell (p := ⟨wn.heap.size, 1, none⟩) hbn.size _) | with_reducible exact HKP.out _ ((hbp.setCell (p := ⟨w1.heap.size, 0, none⟩) (Nat.le_refl _) _).setCell (p := ⟨w1.heap.size, 1, none⟩) (Nat.le_refl _) _))
      (first | (go_at_call 113; refine (HNOW.out _ (by first | exact Below.drew (Below.refl _ _) | exact (Below.drew (Below.alloc (Below.refl _ _) (Nat.le_refl _) _)) | exact (Below.alloc (Below.drew (Below.refl _ _)) (Nat.le_refl _) _))).mono ?_; rintro e wn ⟨sc, sp, rfl, hcr, hpr, hbn0⟩; obtain ⟨po, pk, rfl, -⟩ := hpr.shape; have hbn : Below w1.heap.size w1 wn := Below.trans (by first | exact Below.drew (Below.refl _ _) | exact (Below.drew (Below.alloc (Below.refl _ _) (Nat.le_refl _) _)) | exact (Below.alloc (Below.drew (Below.refl _ _)) (Nat.le_refl _) _)) (hbn0.mono (by first | exact (Nat.le_refl _) | (show w1.heap.size ≤ (w1.alloc _).heap.size; rw [World.size_alloc]; exact (Nat.le_succ _)))); (try (have vb : wn.heap[w1.heap.size]? = some (.cells #[.slice none 0 0, .slice none 0 0] 146 (0, 0)) := (hbn0.block _ (by show w1.heap.size < (w1.alloc _).heap.size; rw [World.size_alloc]; exact (Nat.lt_succ_self _))).trans (heap_alloc_new w1 _)))) | (go_at_call 112; refine (HRP.out sc _ _ (by first | exact hcr | exact hcr.below ((Below.refl _ _).alloc (Nat.le_refl _) _)) (by first | exact hpr | exact hpr.below ((Below.refl _ _).alloc (Nat.le_refl _) _))).mono ?_; rintro e wp ⟨sc', rfl, hcr', hbp0⟩; obtain ⟨so', sk', rfl⟩ := crow_slice hcr'; have hbp : Below w1.heap.size w1 wp := Below.trans (by first | exact hbn | exact (Below.alloc hbn hbn.size _)) (hbp0.mono (by first | exact hbn.size | (rw [World.size_alloc]; exact Nat.le_succ_of_le hbn.size))); (try (have vy : wp.heap[w1.heap.size]? = some (.cells #[.slice none 0 0, .slice none 0 0] 146 (0, 0)) := (hbp0.block _ (by exact (Array.getElem?_eq_some_iff.1 vb).1)).trans vb)); (try (have vy : wp.heap[wn.heap.size]? = some (.cells #[.slice none 0 0, .slice none 0 0] 146 (0, 0)) := (hbp0.block _ (by rw [World.size_alloc]; exact (Nat.lt_succ_self _))).trans (heap_alloc_new wn _))); (try (have y0 : wp.cell? ⟨w1.heap.size, 0, none⟩ = some (.slice none 0 0) := (cell_of_row wp _ 0 _ _ _ vy).trans rfl)); (try (have y2 : wp.frozen? ⟨w1.heap.size, 0, none⟩ = false := frozen_of_row wp _ 0 _ _ vy)); (try (have y1 : wp.cell? ⟨w1.heap.size, 1, none⟩ = some (.slice none 0 0) := (cell_of_row wp _ 1 _ _ _ vy).trans rfl)); (try (have y3 : wp.frozen? ⟨w1.heap.size, 1, none⟩ = false := frozen_of_row wp _ 1 _ _ vy)); (try (have y0 : wp.cell? ⟨wn.heap.size, 0, none⟩ = some (.slice none 0 0) := (cell_of_row wp _ 0 _ _ _ vy).trans rfl)); (try (have y2 : wp.frozen? ⟨wn.heap.size, 0, none⟩ = false := frozen_of_row wp _ 0 _ _ vy)); (try (have y1 : wp.cell? ⟨wn.heap.size, 1, none⟩ = some (.slice none 0 0) := (cell_of_row wp _ 1 _ _ _ vy).trans rfl)); (try (have y3 : wp.frozen? ⟨wn.heap.size, 1, none⟩ = false := frozen_of_row wp _ 1 _ _ vy))))
    all_goals
      go_wp2_with fail
      go_meet
      first
        | with_reducible exact cutc_last hbp hcr' HPP.out (hpr.below hbp0)
        | with_reducible exact cutc_set hbp hbn.size vy hcr' HPP.out ((hpr.below ((Below.refl _ _).alloc (Nat.le_refl _) _)).below hbp0)
        | with_reducible exact cutc_set hbp (Nat.le_refl _) vy hcr' HPP.out (hpr.below hbp0)
  case rest =>
    clear HNOW HRP HKP
    obtain ⟨Bc, so, sk, po, pk, rfl, rfl, hbc, hcr, hpr, hbw⟩ := hcut
    have k0 := at_old hbw c0
    have k1 := at_old hbw q1
    have k2 := at_old hbw q2
    have hwa : WAt wc W _ _ _ _ _ _ := HWA.out.fr (Fr.of (L := 0) (T := []) (X := none) hbw (Nat.zero_le _)) (by simp) (by simp)
    have hob := (hbw.block B0 (Array.getElem?_eq_some_iff.1 HBO.out).1).trans HBO.out
    have HFR := hide (fun x (hx : Fr L [123] none wc x) => And.intro (hx.block B0 _ _ _ hob (by decide) (by simp)) (And.intro (hx.block Bc _ _ _ hbc (by decide) (by simp)) (hwa.fr hx (by decide) (by simp))))
    have HKP := hide (fun x (hx : Fr L [123] none wc x) => (⟨(HFR.out x hx).2.2.cell.1, (cell_of_row x B0 1 _ _ _ (HFR.out x hx).1).trans rfl, (cell_of_row x B0 2 _ _ _ (HFR.out x hx).1).trans rfl⟩ : x.cell? ⟨W, 0, none⟩ = some (.pointer (some ⟨S, 0, none⟩)) ∧ x.cell? ⟨B0, 1, none⟩ = some (.int .i64 nn) ∧ x.cell? ⟨B0, 2, none⟩ = some (.int .i64 mm)))
    have HBW := hide hbw
    have HCR := hide hcr
    have HPR := hide hpr
    clear hbw hcr hpr hbc hwa hob q1 q2 c0
    go_wp2_with fail
    go_region_held3 (fun w' => w'.cell? ⟨W, 0, none⟩ = some (.pointer (some ⟨S, 0, none⟩)) ∧ w'.cell? ⟨B0, 1, none⟩ = some (.int .i64 nn) ∧ w'.cell? ⟨B0, 2, none⟩ = some (.int .i64 mm))
      (first | with_reducible exact HKP.out _ hfr | go_keep)
      (first | (go_at_call 13; refine (HPS.out _ (Below.drew HBW.out)).mono ?_; rintro e wp ⟨v, rfl, hst', hfr0, hor⟩; have hfr : Fr L [123] none wc wp := Fr.undrew hfr0))
    obtain ⟨hob, hbc, -⟩ := HFR.out wp hfr
    have p0 := (cell_of_row wp B0 0 _ _ _ hob).trans rfl
    have p1 := (cell_of_row wp B0 1 _ _ _ hob).trans rfl
    have p2 := (cell_of_row wp B0 2 _ _ _ hob).trans rfl
    have p3 := (cell_of_row wp B0 3 _ _ _ hob).trans rfl
    have p4 := (cell_of_row wp B0 4 _ _ _ hob).trans rfl
    have p5 := (cell_of_row wp B0 5 _ _ _ hob).trans rfl
    have p6 := (cell_of_row wp B0 6 _ _ _ hob).trans rfl
    have p7 := (cell_of_row wp B0 7 _ _ _ hob).trans rfl
    have r0 := (cell_of_row wp Bc 0 _ _ _ hbc).trans rfl
    have r1 := (cell_of_row wp Bc 1 _ _ _ hbc).trans rfl
    have HF := hide hfr
    have HS := hide hst'
    clear hfr hst' hob hbc hfr0 HPS HKP HFR k0 k1 k2
    rcases hor with ⟨hne, rfl⟩ | ⟨h0, har⟩
    · have HC1 := hide (HCE.out W wp (.slice so C'.list.length sk) (.slice po C'.procs.length pk) er so po C'.list.length C'.procs.length sk pk rfl rfl hne)
      have hsame : C' = C := by rw [HCC'.out]; exact put_same C nn mm (HER.out ▸ hne)
      have HSM := hide hsame
      clear hne hsame HCO HCE
      go_wp2_with fail
      refine HC1.out.mono ?_
      rintro e w9 ⟨rfl, hb9⟩
      have HFIN := hide (step_errC hsf HLAW.out hlast hpm hnc hnq hna hdk hds hpl HB1.out HBW.out HF.out (HSM.out ▸ HS.out) hb9)
      clear hb9 HC1
      go_wp2_with fail
      go_ret
      exact HFIN.out
    · obtain ⟨hre, hno, hlen⟩ := put_redo C nn mm (HER.out.symm.trans h0)
      rw [← HCC'.out] at hre
      obtain ⟨d', hpd, hdk', hpre⟩ := pre_one (m := m) hdk hlast hsf hre hno (by omega) hds hm
      have hLc : L ≤ wc.heap.size := Nat.le_trans (Nat.le_trans HLAW.out.low HB1.out.size) HBW.out.size
      have hbx := below3 HLAW.out.low HB1.out HBW.out HF.out
      have HC2 := hide (HCO.out wc.heap.size wp C' d' _ _ v _ 96 ((((HLAW.out.below HB1.out).below HBW.out).fr HF.out (by simp)).mono (Nat.le_trans HB1.out.size HBW.out.size) (Nat.le_trans HB1.out.size HBW.out.size)) hLc HF.out.size
        (own_fr HCR.out HF.out (by decide) (.inl rfl)) (own_fr HPR.out HF.out (by decide) (.inl rfl)) HS.out har (by simp) (by simp [lens, Jn.record]; omega) (by simp [lens, Jn.record]; omega) (by simp) hpd hdk' hpre hbx)
      have HBX := hide hbx
      subst h0
      clear har hre hno hlen hpd hdk' hpre hLc hbx HCO HCE
      go_wp2_with fail
      refine HC2.out.mono ?_
      rintro e w9 ⟨rfl, hi9, hf9⟩
      have HFIN : Hid (StepPostC L W D m w (.returned (.bool true)) w9) := ⟨rfl, hi9, HBX.out.trans hf9.below⟩
      clear hi9 hf9 HC2
      go_wp2_with fail
      go_ret
      exact HFIN.out

set_option maxHeartbeats 8000000 in
set_option maxRecDepth 100000 in
theorem cells_delC (L W D m : Nat) (w : World) (C : Jn.Con) (o : OpD) (ho : o.kind = 4) (h : SInvC L W D w C m) (hm : m ≤ 1200000000000) (hP : PowAt w) (hpL : 1 < L) (hWd : WordsAt w) (lW : List Int) (hcb : B64' o.cut) (hrw : ∀ x, Below L w x → Raws x (.slice o.wo o.wn o.wc) lW) :
    Calls Tryz.prog 76 #[.pointer (some ⟨W, 0, none⟩), .agg o.cells, .bool true] w (StepPostC L W D m w) := by
  have HCE := hide (fun W w s1 s2 f a1 a2 b1 b2 c1 c2 h1 h2 hf => change_errC W w s1 s2 f 96 a1 a2 b1 b2 c1 c2 h1 h2 o hf)
  obtain ⟨S, B, f, past, d, nc, nq, na, hlaw, hst, hlast, hpm, hnc, hnq, hna, hdk, hds, hpl, hsf⟩ := h
  have HCO := hide (fun N wp C' d' s1 s2 v l most hlaw hLN hN h1 h2 hst hr hl8 hmost hel her hpd hdk' hpre (hbx : Below L w wp) => chg_step (L := L) (W := W) (D := D) (N := N) (S := S) (B := B) (m := m) (wp := wp) (past := past) (C' := C') (d := d) (d' := d') (f := f) (nc := nc) (nq := nq) (na := na) (s1 := s1) (s2 := s2) (v := v) (l := l) (most := most) (o := o) (lW := lW) hlaw hLN hN h1 h2 hst hr hl8 hmost hel her hpm hnc hnq hna hds hpd hdk' hpre hm (hP.below hpL hbx) (hWd.below (Nat.lt_of_le_of_lt (by decide) hpL) hbx) hpL hcb (fun y hy => hrw y (hbx.trans hy)))
  obtain ⟨kk, nn, mm, s, t, lo, ln, lc, cut, wo, wn, wc⟩ := o
  simp only at ho
  subst ho
  simp only [OpD.cells] at HCE HCO ⊢
  obtain ⟨w1, hw1⟩ : ∃ w1, w1 = w.alloc (.cells #[.int .i64 4, .int .i64 nn, .int .i64 mm, .string s, .string t, .slice lo ln lc, .int .i64 cut, .slice wo wn wc] 106) := ⟨_, rfl⟩
  obtain ⟨B0, hB0⟩ : ∃ B0, B0 = w.heap.size := ⟨_, rfl⟩
  have hB1 : Below w.heap.size w w1 := by rw [hw1]; exact (Below.refl _ _).alloc (Nat.le_refl _) _
  have hbo : w1.heap[B0]? = some (.cells #[.int .i64 4, .int .i64 nn, .int .i64 mm, .string s, .string t, .slice lo ln lc, .int .i64 cut, .slice wo wn wc] 106 (0, 0)) := by rw [hw1, hB0]; exact heap_alloc_new w _
  have q1 : w1.cell? ⟨B0, 1, none⟩ = some (.int .i64 nn) := (cell_of_row w1 B0 1 _ _ _ hbo).trans rfl
  have q2 : w1.cell? ⟨B0, 2, none⟩ = some (.int .i64 mm) := (cell_of_row w1 B0 2 _ _ _ hbo).trans rfl
  have hlaw1 := hlaw.below hB1
  obtain ⟨vp, vc, vq, va, lcs, lqs, lxs, hWA, hpast, -, -, -, -, -, -⟩ := hlaw1.rest
  have HNOW := hide (fun w' (hb : Below w1.heap.size w1 w') => now_any L W w' _ _ vp vc vq va past C (hWA.fr (Fr.of (L := 0) (T := []) (X := none) hb (Nat.zero_le _)) (by simp) (by simp)) (hpast.fr (Fr.of (T := []) hb (Nat.le_trans hlaw1.low (Nat.le_refl _))) (by simp) (by simp) (by simp)) hlast (by omega))
  obtain ⟨c0, -, -, -, -, -⟩ := hWA.cell
  have hok : Jn.Ok C := hst.con.ok
  have HPS := hide (fun x (hx : Below w1.heap.size w1 x) => delS_any L S B C f nn x ((hst.below hB1).below hx) ((hP.below hP.1 hB1).below (Nat.lt_of_lt_of_le hP.1 hB1.size) hx) hpL)
  have HRP := hide (fun sc sp w h1 h2 => refDel_any C sc sp nn w h1 h2 hok)
  have HB1 := hide hB1
  have HWA := hide hWA
  have HBO := hide hbo
  have HLAW := hide hlaw
  have HST := hide hst
  have HPW := hide hP
  clear hB1 hbo hlaw hst hlaw1 hWA hpast hP
  obtain ⟨C', hC'⟩ : ∃ C', C' = (Jn.del C nn).1 := ⟨_, rfl⟩
  obtain ⟨er, her⟩ : ∃ er, er = (Jn.del C nn).2 := ⟨_, rfl⟩
  rw [← hC', ← her] at HRP HPS
  have hpp : C'.procs = C.procs := by rw [hC']; exact del_procs C nn
  have HCC' := hide hC'
  have HER := hide her
  have HPP := hide hpp
  have hB1s : ∀ x : World, Below w1.heap.size w1 x → x.cell? ⟨B0, 1, none⟩ = some (.int .i64 nn) ∧ x.cell? ⟨B0, 2, none⟩ = some (.int .i64 mm) := fun x hx => ⟨at_old hx q1, at_old hx q2⟩
  have HKP := hide hB1s
  clear hC' her hpp hB1s
  go_enter Tryz.func76, Tryz.ntmps76
  go_upto_region 7 with fail
  rw [← hw1, ← hB0]
  have HW1 := hide hw1
  have HB0 := hide hB0
  clear hw1 hB0
  go_cut [11, 12] (fun s7 s8 wx => CutC w1 C' er s7 s8 wx)
  case first =>
    go_region_held3 (fun w' => w'.cell? ⟨B0, 1, none⟩ = some (.int .i64 nn) ∧ w'.cell? ⟨B0, 2, none⟩ = some (.int .i64 mm))
      (first | with_reducible exact HKP.out _ (Below.drew (Below.refl _ _)) | with_reducible exact HKP.out _ hbp | with_reducible exact HKP.out _ hbn | with_reducible exact HKP.out _ (Below.alloc hbp hbp.size _) | with_reducible exact HKP.out _ (Below.alloc hbn hbn.size _) | with_reducible exact HKP.out _ (Below.alloc (Below.drew (Below.refl _ _)) (Nat.le_refl _) _) | with_reducible exact HKP.out _ (Below.drew (Below.alloc (Below.refl _ _) (Nat.le_refl _) _)) | with_reducible exact HKP.out _ ((hbp.setCell (p := ⟨wn.heap.size, 0, none⟩) hbn.size _).setCell (p := ⟨wn.heap.size, 1, none⟩) hbn.size _) | with_reducible exact HKP.out _ ((hbp.setCell (p := ⟨w1.heap.size, 0, none⟩) (Nat.le_refl _) _).setCell (p := ⟨w1.heap.size, 1, none⟩) (Nat.le_refl _) _))
      (first | (go_at_call 113; refine (HNOW.out _ (by first | exact Below.drew (Below.refl _ _) | exact (Below.drew (Below.alloc (Below.refl _ _) (Nat.le_refl _) _)) | exact (Below.alloc (Below.drew (Below.refl _ _)) (Nat.le_refl _) _))).mono ?_; rintro e wn ⟨sc, sp, rfl, hcr, hpr, hbn0⟩; obtain ⟨po, pk, rfl, -⟩ := hpr.shape; have hbn : Below w1.heap.size w1 wn := Below.trans (by first | exact Below.drew (Below.refl _ _) | exact (Below.drew (Below.alloc (Below.refl _ _) (Nat.le_refl _) _)) | exact (Below.alloc (Below.drew (Below.refl _ _)) (Nat.le_refl _) _)) (hbn0.mono (by first | exact (Nat.le_refl _) | (show w1.heap.size ≤ (w1.alloc _).heap.size; rw [World.size_alloc]; exact (Nat.le_succ _)))); (try (have vb : wn.heap[w1.heap.size]? = some (.cells #[.slice none 0 0, .slice none 0 0] 146 (0, 0)) := (hbn0.block _ (by show w1.heap.size < (w1.alloc _).heap.size; rw [World.size_alloc]; exact (Nat.lt_succ_self _))).trans (heap_alloc_new w1 _)))) | (go_at_call 115; refine (HRP.out sc _ _ (by first | exact hcr | exact hcr.below ((Below.refl _ _).alloc (Nat.le_refl _) _)) (by first | exact hpr | exact hpr.below ((Below.refl _ _).alloc (Nat.le_refl _) _))).mono ?_; rintro e wp ⟨sc', rfl, hcr', hbp0⟩; obtain ⟨so', sk', rfl⟩ := crow_slice hcr'; have hbp : Below w1.heap.size w1 wp := Below.trans (by first | exact hbn | exact (Below.alloc hbn hbn.size _)) (hbp0.mono (by first | exact hbn.size | (rw [World.size_alloc]; exact Nat.le_succ_of_le hbn.size))); (try (have vy : wp.heap[w1.heap.size]? = some (.cells #[.slice none 0 0, .slice none 0 0] 146 (0, 0)) := (hbp0.block _ (by exact (Array.getElem?_eq_some_iff.1 vb).1)).trans vb)); (try (have vy : wp.heap[wn.heap.size]? = some (.cells #[.slice none 0 0, .slice none 0 0] 146 (0, 0)) := (hbp0.block _ (by rw [World.size_alloc]; exact (Nat.lt_succ_self _))).trans (heap_alloc_new wn _))); (try (have y0 : wp.cell? ⟨w1.heap.size, 0, none⟩ = some (.slice none 0 0) := (cell_of_row wp _ 0 _ _ _ vy).trans rfl)); (try (have y2 : wp.frozen? ⟨w1.heap.size, 0, none⟩ = false := frozen_of_row wp _ 0 _ _ vy)); (try (have y1 : wp.cell? ⟨w1.heap.size, 1, none⟩ = some (.slice none 0 0) := (cell_of_row wp _ 1 _ _ _ vy).trans rfl)); (try (have y3 : wp.frozen? ⟨w1.heap.size, 1, none⟩ = false := frozen_of_row wp _ 1 _ _ vy)); (try (have y0 : wp.cell? ⟨wn.heap.size, 0, none⟩ = some (.slice none 0 0) := (cell_of_row wp _ 0 _ _ _ vy).trans rfl)); (try (have y2 : wp.frozen? ⟨wn.heap.size, 0, none⟩ = false := frozen_of_row wp _ 0 _ _ vy)); (try (have y1 : wp.cell? ⟨wn.heap.size, 1, none⟩ = some (.slice none 0 0) := (cell_of_row wp _ 1 _ _ _ vy).trans rfl)); (try (have y3 : wp.frozen? ⟨wn.heap.size, 1, none⟩ = false := frozen_of_row wp _ 1 _ _ vy))))
    all_goals
      go_wp2_with fail
      go_meet
      first
        | with_reducible exact cutc_last hbp hcr' HPP.out (hpr.below hbp0)
        | with_reducible exact cutc_set hbp hbn.size vy hcr' HPP.out ((hpr.below ((Below.refl _ _).alloc (Nat.le_refl _) _)).below hbp0)
        | with_reducible exact cutc_set hbp (Nat.le_refl _) vy hcr' HPP.out (hpr.below hbp0)
  case rest =>
    clear HNOW HRP HKP
    obtain ⟨Bc, so, sk, po, pk, rfl, rfl, hbc, hcr, hpr, hbw⟩ := hcut
    have k0 := at_old hbw c0
    have k1 := at_old hbw q1
    have k2 := at_old hbw q2
    have hwa : WAt wc W _ _ _ _ _ _ := HWA.out.fr (Fr.of (L := 0) (T := []) (X := none) hbw (Nat.zero_le _)) (by simp) (by simp)
    have hob := (hbw.block B0 (Array.getElem?_eq_some_iff.1 HBO.out).1).trans HBO.out
    have HFR := hide (fun x (hx : Fr L [123] none wc x) => And.intro (hx.block B0 _ _ _ hob (by decide) (by simp)) (And.intro (hx.block Bc _ _ _ hbc (by decide) (by simp)) (hwa.fr hx (by decide) (by simp))))
    have HKP := hide (fun x (hx : Fr L [123] none wc x) => (⟨(HFR.out x hx).2.2.cell.1, (cell_of_row x B0 1 _ _ _ (HFR.out x hx).1).trans rfl, (cell_of_row x B0 2 _ _ _ (HFR.out x hx).1).trans rfl⟩ : x.cell? ⟨W, 0, none⟩ = some (.pointer (some ⟨S, 0, none⟩)) ∧ x.cell? ⟨B0, 1, none⟩ = some (.int .i64 nn) ∧ x.cell? ⟨B0, 2, none⟩ = some (.int .i64 mm)))
    have HBW := hide hbw
    have HCR := hide hcr
    have HPR := hide hpr
    clear hbw hcr hpr hbc hwa hob q1 q2 c0
    go_wp2_with fail
    go_region_held3 (fun w' => w'.cell? ⟨W, 0, none⟩ = some (.pointer (some ⟨S, 0, none⟩)) ∧ w'.cell? ⟨B0, 1, none⟩ = some (.int .i64 nn) ∧ w'.cell? ⟨B0, 2, none⟩ = some (.int .i64 mm))
      (first | with_reducible exact HKP.out _ hfr | go_keep)
      (first | (go_at_call 53; refine (HPS.out _ (Below.drew HBW.out)).mono ?_; rintro e wp ⟨v, rfl, hst', hfr0, hor⟩; have hfr : Fr L [123] none wc wp := Fr.undrew hfr0))
    obtain ⟨hob, hbc, -⟩ := HFR.out wp hfr
    have p0 := (cell_of_row wp B0 0 _ _ _ hob).trans rfl
    have p1 := (cell_of_row wp B0 1 _ _ _ hob).trans rfl
    have p2 := (cell_of_row wp B0 2 _ _ _ hob).trans rfl
    have p3 := (cell_of_row wp B0 3 _ _ _ hob).trans rfl
    have p4 := (cell_of_row wp B0 4 _ _ _ hob).trans rfl
    have p5 := (cell_of_row wp B0 5 _ _ _ hob).trans rfl
    have p6 := (cell_of_row wp B0 6 _ _ _ hob).trans rfl
    have p7 := (cell_of_row wp B0 7 _ _ _ hob).trans rfl
    have r0 := (cell_of_row wp Bc 0 _ _ _ hbc).trans rfl
    have r1 := (cell_of_row wp Bc 1 _ _ _ hbc).trans rfl
    have HF := hide hfr
    have HS := hide hst'
    clear hfr hst' hob hbc hfr0 HPS HKP HFR k0 k1 k2
    rcases hor with ⟨hne, rfl⟩ | ⟨h0, har⟩
    · have HC1 := hide (HCE.out W wp (.slice so C'.list.length sk) (.slice po C'.procs.length pk) er so po C'.list.length C'.procs.length sk pk rfl rfl hne)
      have hsame : C' = C := by rw [HCC'.out]; exact del_same C nn (HER.out ▸ hne)
      have HSM := hide hsame
      clear hne hsame HCO HCE
      go_wp2_with fail
      refine HC1.out.mono ?_
      rintro e w9 ⟨rfl, hb9⟩
      have HFIN := hide (step_errC hsf HLAW.out hlast hpm hnc hnq hna hdk hds hpl HB1.out HBW.out HF.out (HSM.out ▸ HS.out) hb9)
      clear hb9 HC1
      go_wp2_with fail
      go_ret
      exact HFIN.out
    · obtain ⟨hre, hno, hlen⟩ := del_redo C nn (HER.out.symm.trans h0)
      rw [← HCC'.out] at hre
      obtain ⟨d', hpd, hdk', hpre⟩ := pre_one (m := m) hdk hlast hsf hre hno (by omega) hds hm
      have hLc : L ≤ wc.heap.size := Nat.le_trans (Nat.le_trans HLAW.out.low HB1.out.size) HBW.out.size
      have hbx := below3 HLAW.out.low HB1.out HBW.out HF.out
      have HC2 := hide (HCO.out wc.heap.size wp C' d' _ _ v _ 96 ((((HLAW.out.below HB1.out).below HBW.out).fr HF.out (by simp)).mono (Nat.le_trans HB1.out.size HBW.out.size) (Nat.le_trans HB1.out.size HBW.out.size)) hLc HF.out.size
        (own_fr HCR.out HF.out (by decide) (.inl rfl)) (own_fr HPR.out HF.out (by decide) (.inl rfl)) HS.out har (by simp) (by simp [lens, Jn.record]; omega) (by simp [lens, Jn.record]; omega) (by simp) hpd hdk' hpre hbx)
      have HBX := hide hbx
      subst h0
      clear har hre hno hlen hpd hdk' hpre hLc hbx HCO HCE
      go_wp2_with fail
      refine HC2.out.mono ?_
      rintro e w9 ⟨rfl, hi9, hf9⟩
      have HFIN : Hid (StepPostC L W D m w (.returned (.bool true)) w9) := ⟨rfl, hi9, HBX.out.trans hf9.below⟩
      clear hi9 hf9 HC2
      go_wp2_with fail
      go_ret
      exact HFIN.out
end Go.Proofs.YtellilpeakpbfabGreatDoor
