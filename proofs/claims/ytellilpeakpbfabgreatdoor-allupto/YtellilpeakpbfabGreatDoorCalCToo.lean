import Derived.Test.YtellilpeakpbfabGreatDoorStCToo
import Derived.Test.YtellilpeakpbfabGreatDoorCallWToo
/-
  The walk of World.call where crashes may come.
-/
set_option linter.unusedVariables false
namespace Go.Proofs.YtellilpeakpbfabGreatDoor
open Go.RowKit

set_option maxHeartbeats 8000000 in
set_option maxRecDepth 100000 in
theorem world_callC (L W D m : Nat) (w : World) (C : Jn.Con) (o : OpD) (args : List Int) (ho : o.kind = 10) (h : SInvC L W D w C m) (hm : m ≤ 1200000000000) (hP : PowAt w) (hWd : WordsAt w) (hpL : 1 < L)
    (hl : ArgsAt L w (.slice o.lo o.ln o.lc) args) (lW : List Int) (hcb : B64' o.cut) (hrw : ∀ x, Below L w x → Raws x (.slice o.wo o.wn o.wc) lW) :
    Calls Tryz.prog 78 #[.pointer (some ⟨W, 0, none⟩), .agg o.cells, .bool true] w (StepPostC L W D m w) := by
  have HCE := hide (fun W w s1 s2 f most a1 a2 b1 b2 c1 c2 h1 h2 hf => change_errC W w s1 s2 f most a1 a2 b1 b2 c1 c2 h1 h2 o hf)
  obtain ⟨S, B, f, past, d, nc, nq, na, hlaw, hst, hlast, hpm, hnc, hnq, hna, hdk, hds, hpl, hsf⟩ := h
  have HCO := hide (fun N wp C' d' s1 s2 v l most hlaw hLN hN h1 h2 hst hr hl8 hmost hel her hpd hdk' hpre (hbx : Below L w wp) => chg_step (L := L) (W := W) (D := D) (N := N) (S := S) (B := B) (m := m) (wp := wp) (past := past) (C' := C') (d := d) (d' := d') (f := f) (nc := nc) (nq := nq) (na := na) (s1 := s1) (s2 := s2) (v := v) (l := l) (most := most) (o := o) (lW := lW) hlaw hLN hN h1 h2 hst hr hl8 hmost hel her hpm hnc hnq hna hds hpd hdk' hpre hm (hP.below hpL hbx) (hWd.below (Nat.lt_of_le_of_lt (by decide) hpL) hbx) hpL hcb (fun y hy => hrw y (hbx.trans hy)))
  obtain ⟨kk, nn, mm, s, t, lo, ln, lc, cut, wo, wn, wc⟩ := o
  simp only at ho hl
  subst ho
  simp only [OpD.cells] at HCE HCO ⊢
  obtain ⟨w1, hw1⟩ : ∃ w1, w1 = w.alloc (.cells #[.int .i64 10, .int .i64 nn, .int .i64 mm, .string s, .string t, .slice lo ln lc, .int .i64 cut, .slice wo wn wc] 106) := ⟨_, rfl⟩
  obtain ⟨B0, hB0⟩ : ∃ B0, B0 = w.heap.size := ⟨_, rfl⟩
  have hB1 : Below w.heap.size w w1 := by rw [hw1]; exact (Below.refl _ _).alloc (Nat.le_refl _) _
  have hbo : w1.heap[B0]? = some (.cells #[.int .i64 10, .int .i64 nn, .int .i64 mm, .string s, .string t, .slice lo ln lc, .int .i64 cut, .slice wo wn wc] 106 (0, 0)) := by rw [hw1, hB0]; exact heap_alloc_new w _
  have q1 : w1.cell? ⟨B0, 1, none⟩ = some (.int .i64 nn) := (cell_of_row w1 B0 1 _ _ _ hbo).trans rfl
  have q3 : w1.cell? ⟨B0, 3, none⟩ = some (.string s) := (cell_of_row w1 B0 3 _ _ _ hbo).trans rfl
  have q5 : w1.cell? ⟨B0, 5, none⟩ = some (.slice lo ln lc) := (cell_of_row w1 B0 5 _ _ _ hbo).trans rfl
  have hlaw1 := hlaw.below hB1
  obtain ⟨vp, vc, vq, va, lcs, lqs, lxs, hWA, hpast, -, -, -, -, -, -⟩ := hlaw1.rest
  have HNOW := hide (fun w' (hb : Below w1.heap.size w1 w') => now_any L W w' _ _ vp vc vq va past C (hWA.fr (Fr.of (L := 0) (T := []) (X := none) hb (Nat.zero_le _)) (by simp) (by simp)) (hpast.fr (Fr.of (T := []) hb (Nat.le_trans hlaw1.low (Nat.le_refl _))) (by simp) (by simp) (by simp)) hlast (by omega))
  have hok : Jn.Ok C := hst.con.ok
  have hl1 : ArgsAt L w1 (.slice lo ln lc) args := hl.below (hB1.mono hlaw.low)
  have HL := hide (fun x (hx : Below L w1 x) => hl1.below hx)
  have hLw1 : L ≤ w1.heap.size := Nat.le_trans hlaw.low hB1.size
  have HRC := hide (fun sc sp x (hx : Below w1.heap.size w1 x) h1 h2 => refCall_any C sc sp (.slice lo ln lc) s args nn x h1 h2 hok (HL.out x (hx.mono hLw1)).1 (fun hp g hg => Nat.lt_of_lt_of_le (hl1.2.1 hp g hg) (Nat.le_trans hLw1 hx.size)) (by have := hl1.2.2.1; omega) hl1.2.2.2)
  have HCS := hide (fun v x (hx : Below w1.heap.size w1 x) hv => callS_any L S B C f s v args nn x ((hst.below hB1).below hx) ((hWd.below hWd.1 hB1).below (Nat.lt_of_lt_of_le hWd.1 hB1.size) hx) hv ((hP.below hP.1 hB1).below (Nat.lt_of_lt_of_le hP.1 hB1.size) hx) hpL)
  have HWB := hide (fun x y (hx : Below w1.heap.size w1 x) (hf : Fr L [] (some B) x y) => ((hst.below hB1).below hx).weakB hf)
  obtain ⟨f1, f2, f3, f4, fe, f0, fn, fp⟩ := Rn.call_facts C s.data.toList args nn hok
  obtain ⟨r, hr⟩ : ∃ r, r = Rn.call C s.data.toList args nn := ⟨_, rfl⟩
  obtain ⟨rd, hrd⟩ : ∃ rd, rd = Rn.dcall C s.data.toList args nn := ⟨_, rfl⟩
  rw [← hr] at HCS f1 f2 f3 f4 fe f0 fp
  rw [← hrd] at HRC f1 f2 f3 f4 f0 fn
  clear hr hrd
  obtain ⟨C', val, used, es, er⟩ := r
  obtain ⟨Cd, vd, ud, n, ed⟩ := rd
  simp only at f1 f2 f3 f4 fe f0 fn fp
  subst f1 f2 f3 f4
  have hlen : args.length ≤ 18000000000000 := hl1.2.2.1
  have HF0 := hide f0
  have HFE := hide fe
  have HFP := hide fp
  have HB1 := hide hB1
  have HWA := hide hWA
  have HBO := hide hbo
  have HLAW := hide hlaw
  have hB1s : ∀ x : World, Below w1.heap.size w1 x → x.cell? ⟨B0, 1, none⟩ = some (.int .i64 nn) ∧ x.cell? ⟨B0, 3, none⟩ = some (.string s) ∧ x.cell? ⟨B0, 5, none⟩ = some (.slice lo ln lc) := fun x hx => ⟨at_old hx q1, at_old hx q3, at_old hx q5⟩
  have HKP := hide hB1s
  clear hB1 hbo hlaw hst hlaw1 hWA hpast hWd hP hl hl1 f0 fe fp hB1s
  go_enter Tryz.func78, Tryz.ntmps78
  go_upto_region 1 with fail
  rw [← hw1, ← hB0]
  have HW1 := hide hw1
  have HB0 := hide hB0
  clear hw1 hB0
  go_cut [7, 8, 9, 10] (fun s7 s8 s9 s10 wx => CutK w1 C' val used n er s7 s8 s9 s10 wx)
  case first =>
    go_region_held3 (fun w' => w'.cell? ⟨B0, 1, none⟩ = some (.int .i64 nn) ∧ w'.cell? ⟨B0, 3, none⟩ = some (.string s) ∧ w'.cell? ⟨B0, 5, none⟩ = some (.slice lo ln lc))
      (first | (refine HKP.out _ ?_; (repeat' (first | with_reducible exact hbp | with_reducible exact hbn | with_reducible exact Below.refl _ _ | with_reducible refine Below.drew ?_ | with_reducible refine belowA ?_ _ | with_reducible refine belowS ?_ ?_ _ | with_reducible exact Nat.le_refl _ | with_reducible exact hbp.size | with_reducible exact hbn.size | with_reducible exact Nat.le_succ_of_le hbp.size | with_reducible exact Nat.le_succ_of_le hbn.size | with_reducible exact Nat.le_succ _ | with_reducible refine leA ?_ _ | with_reducible refine leD ?_))))
      (first | (go_at_call 113; refine (HNOW.out _ (by (repeat' (first | with_reducible exact hbp | with_reducible exact hbn | with_reducible exact Below.refl _ _ | with_reducible refine Below.drew ?_ | with_reducible refine belowA ?_ _ | with_reducible refine belowS ?_ ?_ _ | with_reducible exact Nat.le_refl _ | with_reducible exact hbp.size | with_reducible exact hbn.size | with_reducible exact Nat.le_succ_of_le hbp.size | with_reducible exact Nat.le_succ_of_le hbn.size | with_reducible exact Nat.le_succ _ | with_reducible refine leA ?_ _ | with_reducible refine leD ?_)))).mono ?_; rintro e wn ⟨sc, sp, rfl, hcr, hpr, hbn0⟩; obtain ⟨po, pk, rfl, -⟩ := hpr.shape; have hbn : Below w1.heap.size w1 wn := below_then (by (repeat' (first | with_reducible exact hbp | with_reducible exact hbn | with_reducible exact Below.refl _ _ | with_reducible refine Below.drew ?_ | with_reducible refine belowA ?_ _ | with_reducible refine belowS ?_ ?_ _ | with_reducible exact Nat.le_refl _ | with_reducible exact hbp.size | with_reducible exact hbn.size | with_reducible exact Nat.le_succ_of_le hbp.size | with_reducible exact Nat.le_succ_of_le hbn.size | with_reducible exact Nat.le_succ _ | with_reducible refine leA ?_ _ | with_reducible refine leD ?_))) hbn0) | (go_at_call 120; refine (HRC.out sc _ _ (by (repeat' (first | with_reducible exact hbp | with_reducible exact hbn | with_reducible exact Below.refl _ _ | with_reducible refine Below.drew ?_ | with_reducible refine belowA ?_ _ | with_reducible refine belowS ?_ ?_ _ | with_reducible exact Nat.le_refl _ | with_reducible exact hbp.size | with_reducible exact hbn.size | with_reducible exact Nat.le_succ_of_le hbp.size | with_reducible exact Nat.le_succ_of_le hbn.size | with_reducible exact Nat.le_succ _ | with_reducible refine leA ?_ _ | with_reducible refine leD ?_))) (by first | exact hcr | exact hcr.below ((Below.refl _ _).alloc (Nat.le_refl _) _) | exact hcr.below (belowA ((Below.refl _ _).alloc (Nat.le_refl _) _) _)) (by first | exact hpr | exact hpr.below ((Below.refl _ _).alloc (Nat.le_refl _) _) | exact hpr.below (belowA ((Below.refl _ _).alloc (Nat.le_refl _) _) _))).mono ?_; rintro e wp ⟨cv, rfl, hcr', hbp0⟩; obtain ⟨so', sk', rfl⟩ := crow_slice hcr'; have hbp : Below w1.heap.size w1 wp := below_then (by (repeat' (first | with_reducible exact hbp | with_reducible exact hbn | with_reducible exact Below.refl _ _ | with_reducible refine Below.drew ?_ | with_reducible refine belowA ?_ _ | with_reducible refine belowS ?_ ?_ _ | with_reducible exact Nat.le_refl _ | with_reducible exact hbp.size | with_reducible exact hbn.size | with_reducible exact Nat.le_succ_of_le hbp.size | with_reducible exact Nat.le_succ_of_le hbn.size | with_reducible exact Nat.le_succ _ | with_reducible refine leA ?_ _ | with_reducible refine leD ?_))) hbp0; have hnp : Below wn.heap.size wn wp := below_then (by (repeat' (first | with_reducible exact Below.refl _ _ | with_reducible refine Below.drew ?_ | with_reducible refine belowA ?_ _))) hbp0; have hk := Kw.ofx (w1 := w1) (by (repeat' (first | with_reducible exact Kx.base _ | with_reducible apply Kx.drew | with_reducible refine' Kx.call ?_ hbn0 | with_reducible apply Kx.newC | with_reducible apply Kx.newO))) hbp0; (try simp only [World.size_alloc] at hk); (try (have vy := (hk.con _ _ rfl).2; have y0 : wp.cell? ⟨_, 0, none⟩ = some (.slice none 0 0) := (cell_of_row wp _ 0 _ _ _ vy).trans rfl; have y1 : wp.cell? ⟨_, 1, none⟩ = some (.slice none 0 0) := (cell_of_row wp _ 1 _ _ _ vy).trans rfl; have y2 := frozen_of_row wp _ 0 _ _ vy; have y3 := frozen_of_row wp _ 1 _ _ vy; have yn := Nat.ne_of_lt (Array.getElem?_eq_some_iff.1 vy).1; have ym := yn.symm; have vy2 := fun o => (((Below.refl wp.heap.size wp).alloc (Nat.le_refl _) o).block _ (Array.getElem?_eq_some_iff.1 vy).1).trans vy; have y4 : ∀ o, (wp.alloc o).cell? ⟨_, 0, none⟩ = some (.slice none 0 0) := fun o => (cell_of_row _ _ 0 _ _ _ (vy2 o)).trans rfl; have y5 : ∀ o, (wp.alloc o).cell? ⟨_, 1, none⟩ = some (.slice none 0 0) := fun o => (cell_of_row _ _ 1 _ _ _ (vy2 o)).trans rfl; have y6 := fun o => frozen_of_row _ _ 0 _ _ (vy2 o); have y7 := fun o => frozen_of_row _ _ 1 _ _ (vy2 o))); (try (have vz := (hk.out _ _ rfl).2; have z0 : wp.cell? ⟨_, 0, none⟩ = some (.int .i64 0) := (cell_of_row wp _ 0 _ _ _ vz).trans rfl; have z1 : wp.cell? ⟨_, 1, none⟩ = some (.int .i64 0) := (cell_of_row wp _ 1 _ _ _ vz).trans rfl; have z2 := frozen_of_row wp _ 0 _ _ vz; have z3 := frozen_of_row wp _ 1 _ _ vz; have zn := Nat.ne_of_lt (Array.getElem?_eq_some_iff.1 vz).1; have zm := zn.symm; have vz2 := fun o => (((Below.refl wp.heap.size wp).alloc (Nat.le_refl _) o).block _ (Array.getElem?_eq_some_iff.1 vz).1).trans vz; have z4 : ∀ o, (wp.alloc o).cell? ⟨_, 0, none⟩ = some (.int .i64 0) := fun o => (cell_of_row _ _ 0 _ _ _ (vz2 o)).trans rfl; have z5 : ∀ o, (wp.alloc o).cell? ⟨_, 1, none⟩ = some (.int .i64 0) := fun o => (cell_of_row _ _ 1 _ _ _ (vz2 o)).trans rfl; have z6 := fun o => frozen_of_row _ _ 0 _ _ (vz2 o); have z7 := fun o => frozen_of_row _ _ 1 _ _ (vz2 o))); (try (have hap := hk.apart; have hap' := hap.symm))))
    all_goals
      go_wp2_with fail
      go_meet
      exact cutk (by (repeat' (first | with_reducible exact hk | with_reducible apply Kw.drew | with_reducible apply Kw.newC' | with_reducible apply Kw.newO' | with_reducible apply Kw.setC' | with_reducible apply Kw.setO' | with_reducible rfl | with_reducible exact (World.size_alloc _ _).symm | rfl))) hcr' HFP.out (hpr.below hnp) rfl rfl
  case rest =>
    clear HNOW HRC HKP
    obtain ⟨wk, rfl⟩ : ∃ wk : World, wk = wc := ⟨_, rfl⟩
    obtain ⟨Bc, Bo, so, sk, po, pk, rfl, rfl, rfl, rfl, hbc, hbo, hcr, hpr, hbw⟩ := hcut
    have k5 := at_old hbw q5
    have HLN := hide (lent_any args (.slice lo ln lc) wk (HL.out wk (hbw.mono hLw1)).1 hlen)
    have HBC := hide hbc
    have HBO2 := hide hbo
    have HCR := hide hcr
    have HPR := hide hpr
    have HBW := hide hbw
    clear hbc hbo hcr hpr hbw q1 q3 q5
    go_wp2_with fail
    refine HLN.out.mono ?_
    rintro e wl ⟨G, rfl, hG, hla, hbl⟩
    have hw1l : Below w1.heap.size w1 wl := below_then HBW.out hbl
    have HBL := hide hw1l
    have hLl : L ≤ wl.heap.size := Nat.le_trans hLw1 hw1l.size
    have hbc : wl.heap[Bc]? = _ := (hbl.block Bc (Array.getElem?_eq_some_iff.1 HBC.out).1).trans HBC.out
    have hbo : wl.heap[Bo]? = _ := (hbl.block Bo (Array.getElem?_eq_some_iff.1 HBO2.out).1).trans HBO2.out
    have hob : wl.heap[B0]? = _ := (hw1l.block B0 (Array.getElem?_eq_some_iff.1 HBO.out).1).trans HBO.out
    have hwa : WAt wl W _ _ _ _ _ _ := HWA.out.fr (Fr.of (L := 0) (T := []) (X := none) hw1l (Nat.zero_le _)) (by simp) (by simp)
    have HFR := hide (fun x (hx : Fr L [123] none wl x) => And.intro (hx.block B0 _ _ _ hob (by decide) (by simp)) (And.intro (hx.block Bc _ _ _ hbc (by decide) (by simp)) (And.intro (hx.block Bo _ _ _ hbo (by decide) (by simp)) (hwa.fr hx (by decide) (by simp)))))
    have HK2 := hide (fun x (hx : Fr L [123] none wl x) => (⟨(HFR.out x hx).2.2.2.cell.1, (cell_of_row x B0 1 _ _ _ (HFR.out x hx).1).trans rfl, (cell_of_row x B0 3 _ _ _ (HFR.out x hx).1).trans rfl⟩ : x.cell? ⟨W, 0, none⟩ = some (.pointer (some ⟨S, 0, none⟩)) ∧ x.cell? ⟨B0, 1, none⟩ = some (.int .i64 nn) ∧ x.cell? ⟨B0, 3, none⟩ = some (.string s)))
    have HIN := hide (fun x (hx : Below wl.heap.size wl x) => hla.ints.below hx)
    have HLA := hide (fun x (hx : Fr L [123] none wl x) => (by obtain ⟨cur, hh, h2⟩ := hla; exact ⟨cur, hx.block G _ _ _ hh (by decide) (by simp), h2⟩ : LentAt x G args))
    obtain ⟨k0, k1, k3⟩ := HK2.out wl (Fr.refl _ _ _ _)
    have HCRl := hide (HCR.out.below hbl)
    have HPRl := hide (HPR.out.below hbl)
    clear hla hbl hw1l hbc hbo hob hwa HLN k5
    go_upto_region 3 with fail
    go_cut [12, 13, 14] (fun s12 s13 s14 wx => CutG L S B f (C', val, used, es, er) wl s12 s13 s14 wx)
    case first =>
      go_region_held3 (fun w' => w'.cell? ⟨W, 0, none⟩ = some (.pointer (some ⟨S, 0, none⟩)) ∧ w'.cell? ⟨B0, 1, none⟩ = some (.int .i64 nn) ∧ w'.cell? ⟨B0, 3, none⟩ = some (.string s))
        (first | with_reducible exact HK2.out _ hfr | with_reducible exact HK2.out _ (frA hfr hLl _) | with_reducible exact HK2.out _ (frS hfr hLl (Nat.le_refl _) _) | with_reducible exact HK2.out _ (frS (frS hfr hLl (Nat.le_refl _) _) hLl (Nat.le_refl _) _) | go_keep)
        (first | (go_at_call 23; refine (HCS.out _ _ (by (repeat' (first | with_reducible exact HBL.out | with_reducible refine Below.drew ?_ | with_reducible refine belowA ?_ _))) (by first | exact HIN.out _ (Below.refl _ _) | exact HIN.out _ (Below.drew (Below.refl _ _)) | exact HIN.out _ (Below.drew ((Below.refl _ _).alloc (Nat.le_refl _) _)) | exact HIN.out _ ((Below.refl _ _).alloc (Nat.le_refl _) _))).mono ?_; rintro e wp ⟨v, rfl, hst', hfr0, hor⟩; have hfr1 := HWB.out _ _ (by (repeat' (first | with_reducible exact HBL.out | with_reducible refine Below.drew ?_ | with_reducible refine belowA ?_ _))) hfr0; have hfr : Fr L [123] none wl wp := (Fr.of (by first | exact Below.refl _ _ | exact Below.drew (Below.refl _ _) | exact Below.drew ((Below.refl _ _).alloc (Nat.le_refl _) _) | exact ((Below.refl _ _).alloc (Nat.le_refl _) _)) hLl).trans hfr1; (try (have hcur : wp.heap[wl.heap.size]? = some (.cells #[.int .i64 0, .int .i64 0] 45 (0, 0)) := hfr1.block _ _ _ _ (heap_alloc_new wl _) (by decide) (by simp); have z0 : wp.cell? ⟨wl.heap.size, 0, none⟩ = some (.int .i64 0) := (cell_of_row wp _ 0 _ _ _ hcur).trans rfl; have z1 : wp.cell? ⟨wl.heap.size, 1, none⟩ = some (.int .i64 0) := (cell_of_row wp _ 1 _ _ _ hcur).trans rfl; have z2 := frozen_of_row wp _ 0 _ _ hcur; have z3 := frozen_of_row wp _ 1 _ _ hcur))))
      all_goals
        go_wp2_with fail
        go_meet
        first
          | exact cutg_set hLl (Below.drew ((Below.refl _ _).alloc (Nat.le_refl _) _)) (Nat.le_refl _) hst' hfr1 hcur hor
          | exact cutg_last hst' hfr hor
    case rest =>
      clear HCS HWB HIN HK2 k0 k1 k3
      obtain ⟨wg, rfl⟩ : ∃ wg : World, wg = wc := ⟨_, rfl⟩
      obtain ⟨Bg, va', rfl, rfl, rfl, hbg, hst', hfr, hor⟩ := hcut
      simp only at hbg hst' hor
      obtain ⟨hob, hbc, hbo, -⟩ := HFR.out wg hfr
      have hzl : wl.heap.size ≤ wg.heap.size := hfr.size
      have k5 : wg.cell? ⟨B0, 5, none⟩ = some (.slice lo ln lc) := (cell_of_row wg B0 5 _ _ _ hob).trans rfl
      have HKE := hide (kept_any args (.slice lo ln lc) G wg (HL.out wg ((HBL.out.mono hLw1).trans hfr.below)).1 (HLA.out wg hfr) hlen)
      have HX := hide (fun x (hx : Below wg.heap.size wg x) => And.intro ((hx.block B0 (Array.getElem?_eq_some_iff.1 hob).1).trans hob) ((hx.block Bc (Array.getElem?_eq_some_iff.1 hbc).1).trans hbc))
      have HXO := hide (And.intro hbg hbo)
      have HF := hide hfr
      have HS := hide hst'
      have HCR := hide (own_fr HCRl.out hfr (by decide) (.inl rfl))
      have HPR := hide (own_fr HPRl.out hfr (by decide) (.inl rfl))
      clear hfr hst' hob hbc hbo hbg HFR HLA HCRl HPRl
      go_wp2_with fail
      refine HKE.out.mono ?_
      rintro e w4 ⟨rfl, hb4⟩
      obtain ⟨hob, hbc⟩ := HX.out w4 hb4
      have p0 := (cell_of_row w4 B0 0 _ _ _ hob).trans rfl
      have p1 := (cell_of_row w4 B0 1 _ _ _ hob).trans rfl
      have p2 := (cell_of_row w4 B0 2 _ _ _ hob).trans rfl
      have p3 := (cell_of_row w4 B0 3 _ _ _ hob).trans rfl
      have p4 := (cell_of_row w4 B0 4 _ _ _ hob).trans rfl
      have p5 := (cell_of_row w4 B0 5 _ _ _ hob).trans rfl
      have p6 := (cell_of_row w4 B0 6 _ _ _ hob).trans rfl
      have p7 := (cell_of_row w4 B0 7 _ _ _ hob).trans rfl
      have r0 := (cell_of_row w4 Bc 0 _ _ _ hbc).trans rfl
      have r1 := (cell_of_row w4 Bc 1 _ _ _ hbc).trans rfl
      have HB4 := hide hb4
      have tt1 : (val == val) = true := by simp
      have tt2 : (used == used) = true := by simp
      have hLg : L ≤ wg.heap.size := Nat.le_trans hLl hzl
      clear hob hbc hb4 HKE HX k5
      by_cases hne : er = 0
      · subst hne
        obtain ⟨hre, hno, hlen2⟩ := HF0.out rfl
        have hn8 : es.length ≤ 200 := by omega
        have hlaw4 := ((((HLAW.out.below HB1.out).below HBL.out).fr HF.out (by simp)).mono (Nat.le_trans HB1.out.size HBL.out.size) (Nat.le_trans HB1.out.size HBL.out.size)).below HB4.out
        have hz4 : wl.heap.size ≤ w4.heap.size := Nat.le_trans hzl HB4.out.size
        have HPL := hide (p := ∀ p ∈ C'.procs, Jn.Plain p.2) (by rw [HFP.out]; exact hpl)
        have fin : Hid (∃ d' l, playL d l = some d' ∧ DiskOk d' f C' ∧ (∀ n, ∃ d2, playL d (l.take n) = some d2 ∧ Safe d2 (· ∈ past ++ [C'])) ∧ ARow w4 wl.heap.size va' l ∧ l.length ≤ 8 ∧ (lens l : Int) ≤ 64 + 32 * n ∧ lens l ≤ 3500 ∧ ∀ p ∈ l, p.1 ≠ 3) := by
          rcases hor with ⟨hes, rfl⟩ | ⟨hes, har⟩
          · have hC : C' = C := by
              rw [hes] at hre
              have e : Jn.redo C [] = some C := rfl
              rw [e] at hre
              cases hre; rfl
            subst hC
            exact ⟨d, [], rfl, hdk, fun k => ⟨d, by simp [playL], hsf.mono (fun X hX => by simp; exact .inl hX)⟩, World.ownsRow_nil _ _ _ _, by simp, by simp [lens]; omega, by simp [lens], by simp⟩
          · obtain ⟨d', hpd, hdk', hpre⟩ := pre_one (m := m) hdk hlast hsf hre hno (by omega) hds hm
            have hlens : lens [((1 : Int), f, Jn.record es)] = es.length + 1 := by simp [lens, Jn.record]
            exact ⟨d', _, hpd, hdk', hpre, ownsRow_below har HB4.out, by simp, by rw [hlens]; omega, by rw [hlens]; omega, by simp⟩
        obtain ⟨d', l, hpd, hdk', hpre, har, hl8, hls, hls2, her⟩ := fin.out
        have hbx : Below L w w4 := (below3 HLAW.out.low HB1.out HBL.out HF.out).trans (HB4.out.mono hLg)
        have HBX := hide hbx
        have HC2 := hide (HCO.out wl.heap.size w4 C' d' (.slice so C'.list.length sk) (.slice po C'.procs.length pk) va' l (64 + 32 * (n : Int)) hlaw4 hLl hz4 (CRow.below HCR.out HB4.out) (PRow.below HPR.out HB4.out) (HS.out.below HB4.out) har hl8 hls hls2 her hpd hdk' hpre hbx)
        obtain ⟨vo, vn, vk, hvs⟩ : ∃ vo vn vk, va' = .slice vo vn vk := by obtain ⟨a, b, e, -⟩ := har.shape; exact ⟨a, _, b, e⟩
        clear hor hre hno hlen2 hlaw4 hpd hdk' hpre hbx har hl8 hls hls2 her fin HCO HCE hn8
        subst hvs
        go_wp2_with fail
        refine HC2.out.mono ?_
        rintro e w9 ⟨rfl, hi9, hf9⟩
        have hfg : Fr L _ none wg w9 := (Fr.of HB4.out hLg).trans hf9
        have hg9 := hfg.block Bg _ _ _ HXO.out.1 (by decide) (by simp)
        have ho9 := hfg.block Bo _ _ _ HXO.out.2 (by decide) (by simp)
        have g0 := (cell_of_row w9 Bg 0 _ _ _ hg9).trans rfl
        have g1 := (cell_of_row w9 Bg 1 _ _ _ hg9).trans rfl
        have o0 := (cell_of_row w9 Bo 0 _ _ _ ho9).trans rfl
        have o1 := (cell_of_row w9 Bo 1 _ _ _ ho9).trans rfl
        have HFIN : Hid (StepPostC L W D m w (.returned (.bool true)) w9) := ⟨rfl, hi9, HBX.out.trans hf9.below⟩
        clear hi9 hf9 hfg hg9 ho9 HC2
        go_wp2_with fail
        go_ret
        exact HFIN.out
      · obtain ⟨hC, hes⟩ := HFE.out hne
        have hv : va' = .slice none 0 0 := by
          rcases hor with ⟨-, h⟩ | ⟨h, -⟩
          · exact h
          · exact absurd hes h
        subst hv
        have HC1 := hide (HCE.out W w4 (.slice so C'.list.length sk) (.slice po C'.procs.length pk) er (64 + 32 * (n : Int)) so po C'.list.length C'.procs.length sk pk rfl rfl hne)
        have HCC := hide hC
        clear hor hC hes HCO HCE
        go_wp2_with fail
        refine HC1.out.mono ?_
        rintro e w9 ⟨rfl, hb9⟩
        have hbg9 : Below wg.heap.size wg w9 := below_then HB4.out hb9
        have hg9 := (hbg9.block Bg (Array.getElem?_eq_some_iff.1 HXO.out.1).1).trans HXO.out.1
        have ho9 := (hbg9.block Bo (Array.getElem?_eq_some_iff.1 HXO.out.2).1).trans HXO.out.2
        have g0 := (cell_of_row w9 Bg 0 _ _ _ hg9).trans rfl
        have g1 := (cell_of_row w9 Bg 1 _ _ _ hg9).trans rfl
        have o0 := (cell_of_row w9 Bo 0 _ _ _ ho9).trans rfl
        have o1 := (cell_of_row w9 Bo 1 _ _ _ ho9).trans rfl
        have HFIN := hide (step_errC hsf HLAW.out hlast hpm hnc hnq hna hdk hds hpl HB1.out HBL.out HF.out (HCC.out ▸ HS.out) hbg9)
        clear hb9 hbg9 hg9 ho9 HC1
        go_wp2_with fail
        go_ret
        exact HFIN.out
end Go.Proofs.YtellilpeakpbfabGreatDoor
