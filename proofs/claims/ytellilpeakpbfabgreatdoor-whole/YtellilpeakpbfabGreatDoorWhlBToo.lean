import Derived.Test.YtellilpeakpbfabGreatDoorWhlToo
/-
  Whole: the law.
-/
set_option linter.unusedVariables false
namespace Go.Proofs.YtellilpeakpbfabGreatDoor
open Go.RowKit

theorem ints_three (w : World) (a b c : Int) : IntsAt (w.alloc (.cells #[.int .i64 a, .int .i64 b, .int .i64 c] 3)) (.slice (some ⟨w.heap.size, 0, none⟩) 3 3) [a, b, c] :=
  ⟨_, _, rfl, fun _ => ⟨_, 0, rfl, fun i x hx => by
    have hh := heap_alloc_new w (.cells #[.int .i64 a, .int .i64 b, .int .i64 c] 3)
    match i, hx with
    | 0, hx => simp at hx; subst hx; exact (cell_of_row _ _ 0 _ _ _ hh).trans rfl
    | 1, hx => simp at hx; subst hx; exact (cell_of_row _ _ 1 _ _ _ hh).trans rfl
    | 2, hx => simp at hx; subst hx; exact (cell_of_row _ _ 2 _ _ _ hh).trans rfl
    | k + 3, hx => simp at hx⟩⟩

set_option maxHeartbeats 16000000 in
set_option maxRecDepth 100000 in
theorem whole_any (w : World) (v : Value) (ps : List (Int × Int × Int)) (p q hv0 am0 cut a b : Int) (hst : StepsOf w v ps) (hP : PowAt w) (hWd : WordsAt w)
    (p0 : -9223372036854775808 ≤ p) (p1 : p ≤ 9223372036854775807) (q0 : -9223372036854775808 ≤ q) (q1 : q ≤ 9223372036854775807) (h0 : -9223372036854775808 ≤ hv0) (h1 : hv0 ≤ 9223372036854775807) (m0 : -9223372036854775808 ≤ am0) (m1 : am0 ≤ 9223372036854775807)
    (t0 : -9223372036854775808 ≤ cut) (t1 : cut ≤ 9223372036854775807) (a0 : -9223372036854775808 ≤ a) (a1 : a ≤ 9223372036854775807) (b0 : -9223372036854775808 ≤ b) (b1 : b ≤ 9223372036854775807) :
    Calls Tryz.prog 4 #[v, .int .i64 p, .int .i64 q, .int .i64 hv0, .int .i64 am0, .int .i64 cut, .int .i64 a, .int .i64 b] w fun e w' => e = .returned (.bool true) ∧ Below w.heap.size w w' := by
  have HLV := hide (live_any w v ps hst hP hWd)
  have hlen : ps.length ≤ 6000000000000 := by obtain ⟨_, _, _, _, _, h⟩ := hst; exact h
  obtain ⟨vo, vcap, hvs, -⟩ := hst
  obtain ⟨pp, hpp⟩ : ∃ kk : Nat, Kp.key p = (kk : Int) := ⟨(Kp.key p).toNat, by have := Kp.key_bd p; omega⟩
  have hp9 : pp ≤ 99 := by have := Kp.key_bd p; omega
  obtain ⟨qx, hqx⟩ : ∃ kk : Nat, Kp.key q = (kk : Int) := ⟨(Kp.key q).toNat, by have := Kp.key_bd q; omega⟩
  have hqx9 : qx ≤ 99 := by have := Kp.key_bd q; omega
  have HKP0 : Hid (∀ x, Calls Tryz.prog 11 #[.int .i64 p] x fun e w' => e = .returned (.int .i64 (pp : Int)) ∧ w' = x) := fun x => by rw [← hpp]; exact kkey_any p p0 p1 x
  have HKQ0 : Hid (∀ x, Calls Tryz.prog 11 #[.int .i64 q] x fun e w' => e = .returned (.int .i64 (qx : Int)) ∧ w' = x) := fun x => by rw [← hqx]; exact kkey_any q q0 q1 x
  have hb1 := Kp.bent_bd hv0 0 1000000 (by decide)
  have hb2 := Kp.bent_bd am0 1 1000000 (by decide)
  have HBH := hide (fun x => kbent_any hv0 0 1000000 1000001 (by decide) (by decide) (by decide) (by decide) (by decide) h0 h1 x)
  have HBA := hide (fun x => kbent_any am0 1 1000000 1000000 (by decide) (by decide) (by decide) (by decide) (by decide) m0 m1 x)
  generalize Kp.bent hv0 0 1000000 = hv at *
  generalize Kp.bent am0 1 1000000 = am at *
  obtain ⟨hh0, hh1⟩ := hb1
  obtain ⟨ha0, ha1⟩ := hb2
  have hpk := fun z => kpick_any cut 3 (by decide) (by decide) t0 t1 z
  have hpb := Kp.pick_bd cut 3 (by decide)
  rw [show ((3 : Nat) : Int) = 3 from rfl] at hpk
  have hpc : Kp.pick cut 3 = 0 ∨ Kp.pick cut 3 = 1 ∨ Kp.pick cut 3 = 2 := by omega
  generalize Kp.pick cut 3 = pc at *
  have HPK := hide hpk
  have HST := hide (fun s S B D C f d n w1 (hs : SiteAt w.heap.size w1 s S B D C f d) (hd : DiskFit d f C n) (hb : Below w.heap.size w w1) => Hd.start hs hd hb hP hWd hP.1)
  have HPW := hide (fun x (hx : Below w.heap.size w x) => And.intro (hP.below hP.1 hx) (hWd.below hWd.1 hx))
  have hpL : 1 < w.heap.size := hP.1
  have HKP : Hid (Jn.isKey (pp : Int) = true) := by show _ = _; unfold Jn.isKey; simp; omega
  have HVH : Hid (Jn.isVal hv = true) := by show _ = _; unfold Jn.isVal; simp; omega
  obtain ⟨qq, hq9, hne, hcase⟩ : ∃ qq : Nat, qq ≤ 99 ∧ pp ≠ qq ∧ ((((pp : Int) == (qx : Int)) = true ∧ ((pp : Int) + 1) % 100 = (qq : Int)) ∨ (((pp : Int) == (qx : Int)) = false ∧ qq = qx)) := by
    by_cases e : pp = qx
    · exact ⟨(pp + 1) % 100, by omega, by omega, .inl ⟨by simp [e], by omega⟩⟩
    · exact ⟨qx, hqx9, e, .inr ⟨by simp; omega, rfl⟩⟩
  have HKQ : Hid (Jn.isKey (qq : Int) = true) := by show _ = _; unfold Jn.isKey; simp; omega
  clear hP hWd hpp hqx hpk hpb hqx9
  subst hvs
  go_enter Tryz.func4, Tryz.ntmps4
  go_wp2_with fail
  refine HLV.out.mono ?_
  rintro e w1 ⟨s, S, B, D, f, d, rfl, hs, hd, -, hb1⟩
  obtain ⟨C, hC0⟩ : ∃ C, C = ps.foldl Kp.play Jn.none0 := ⟨_, rfl⟩
  rw [← hC0] at hs hd
  have HKE := hide (kkeeps_any w.heap.size s S B D _ C f d w1 ⟨#[109, 111, 118, 101]⟩ ⟨Kp.mSrc.toArray⟩ (by decide) (by show (Ck.read Kp.mSrc).2 = 0; rw [Kp.m_read]) hs hd (by omega) (HPW.out w1 hb1).1 (HPW.out w1 hb1).2 hpL)
  have HB1 := hide hb1
  clear hs hd hb1 hC0 HLV
  go_wp2_with fail
  refine (HKP0.out _).mono ?_
  rintro e wx ⟨rfl, hq⟩
  obtain rfl : w1 = wx := hq.symm
  go_wp2_with fail
  refine (HKQ0.out _).mono ?_
  rintro e wx ⟨rfl, hq⟩
  obtain rfl : w1 = wx := hq.symm
  clear HKP0 HKQ0
  rcases hcase with ⟨tt1, e1⟩ | ⟨tt1, rfl⟩
  · go_wp2_with fail
    refine (HBH.out _).mono ?_
    rintro e wx ⟨rfl, hq⟩
    obtain rfl : w1 = wx := hq.symm
    go_wp2_with fail
    refine (HBA.out _).mono ?_
    rintro e wx ⟨rfl, hq⟩
    obtain rfl : w1 = wx := hq.symm
    clear HBH HBA
    go_wp2_with fail
    refine HKE.out.mono ?_
    rintro e w2 ⟨rfl, S2, B2, f2, d2, hs2, hd2, hx2, -, -⟩
    obtain ⟨C2, hC2⟩ : ∃ C2 : Jn.Con, C2 = ⟨C.cells, [((⟨#[109, 111, 118, 101]⟩ : ByteArray).data.toList, (⟨Kp.mSrc.toArray⟩ : ByteArray).data.toList)]⟩ := ⟨_, rfl⟩
    rw [← hC2] at hs2 hd2
    have hsrc : srcL C2.procs [109, 111, 118, 101] = some Kp.mSrc := by rw [hC2]; rfl
    have h2 := HST.out _ _ _ _ _ _ _ _ _ hs2 hd2 (HB1.out.trans hx2.below)
    have HSRC := hide hsrc
    have HPT := hide (site_put h2 h2.ok (by omega) (pp : Int) hv HKP.out HVH.out)
    obtain ⟨s0, s1⟩ := h2.cells
    have hok2 := h2.ok
    have HOK2 := hide hok2
    clear hs2 hd2 hx2 h2 hC2 hsrc hok2 HKE
    go_wp2_with fail
    refine HPT.out.mono ?_
    rintro e w3 ⟨vo, vn, vk, rfl, ⟨s1, s0⟩, hall⟩
    have HA := hide hall
    clear hall HPT
    go_wp2_with fail
    refine HA.out.mono ?_
    rintro e w4 ⟨rfl, d4, h4, -⟩
    have HPT := hide (site_put h4 (.inr rfl) (by omega) (qq : Int) hv HKQ.out HVH.out)
    obtain ⟨s0, s1⟩ := h4.cells
    have e1' : (Jn.put C2 (pp : Int) hv).1 = Jn.setC C2 (pp : Int) (some hv) := by unfold Jn.put; rw [if_neg (by rw [HKP.out]; decide), if_neg (by rw [HVH.out]; decide)]
    have HOK4 := hide h4.ok
    have HE1 := hide e1'
    clear h4 HA e1'
    go_wp2_with fail
    refine HPT.out.mono ?_
    rintro e w5 ⟨uo, un, uk, rfl, ⟨s1, s0⟩, hall⟩
    have HA := hide hall
    clear hall HPT
    go_wp2_with fail
    refine HA.out.mono ?_
    rintro e w6 ⟨rfl, d6, h6, -⟩
    have HSY := hide (fun x (hx : Below w6.heap.size w6 x) => site_sync (h6.below hx))
    obtain ⟨c0, c1⟩ := h6.cells
    clear h6 HA s0 s1
    go_wp2_with fail
    go_region_held3 (fun w' => w'.cell? ⟨s, 1, none⟩ = some (.pointer (some ⟨D, 0, none⟩)) ∧ w'.cell? ⟨s, 0, none⟩ = some (.pointer (some ⟨S2, 0, none⟩)))
      (first | with_reducible exact hk1 | exact ⟨h9.cells.2, h9.cells.1⟩ | go_keep)
      (first | (go_at_call 15; refine (HSY.out _ (by first | exact Below.refl _ _ | exact Below.drew (Below.refl _ _))).mono ?_; rintro e wp ⟨xo, xn, xk, rfl, hk1, hall⟩) | (go_at_call 14; refine hall.mono ?_; rintro e w9 ⟨rfl, d9, h9, -⟩))
    obtain ⟨C3, hC3⟩ : ∃ C3, C3 = (Jn.put (Jn.put C2 (pp : Int) hv).1 (qq : Int) hv).1 := ⟨_, rfl⟩
    rw [← hC3] at h9
    have e3 : C3 = Jn.setC (Jn.setC C2 (pp : Int) (some hv)) (qq : Int) (some hv) := by rw [hC3, HE1.out]; unfold Jn.put; rw [if_neg (by rw [HKQ.out]; decide), if_neg (by rw [HVH.out]; decide)]
    have hsrc3 : srcL C3.procs [109, 111, 118, 101] = some Kp.mSrc := by rw [e3]; exact HSRC.out
    have cq3 : C3.cells.getD qq none = some hv := by rw [e3, ← HE1.out]; exact setC_get _ HOK4.out qq hq9 _
    have cp3 : C3.cells.getD pp none = some hv := by
      have := setC_get C2 HOK2.out pp hp9 (some hv)
      rw [e3]
      unfold Jn.setC at this ⊢
      simp only [Int.toNat_natCast, List.getD_eq_getElem?_getD] at this ⊢
      rw [List.getElem?_set_ne (by omega)]
      exact this
    obtain ⟨C4, es, hcall, hes, hre, hno, hlen4, cp4, cq4⟩ := Kp.m_call C3 h9.ok [109, 111, 118, 101] hsrc3 pp qq hp9 hq9 hne hv am ⟨hh0, hh1⟩ ⟨ha0, ha1⟩ cp3 cq3
    obtain ⟨w10, hw10⟩ : ∃ w10, w10 = w9.alloc (.cells #[.int .i64 (pp : Int), .int .i64 (qq : Int), .int .i64 am] 3) := ⟨_, rfl⟩
    have hb10 : Below w9.heap.size w9 w10 := by rw [hw10]; exact (Below.refl _ _).alloc (Nat.le_refl _) _
    have hv10 : IntsAt w10 (.slice (some ⟨w9.heap.size, 0, none⟩) 3 3) [(pp : Int), (qq : Int), am] := by rw [hw10]; exact ints_three w9 _ _ _
    have HCL := hide (site_call (nm := ⟨#[109, 111, 118, 101]⟩) (h9.below hb10) (by omega) hv10 hcall hes hre hno (by omega))
    have HG := hide (And.intro (And.intro cp3 cq3) (And.intro cp4 cq4))
    obtain ⟨c0, c1⟩ := h9.cells
    clear h9 hk1 hall HSY hC3 e3 hsrc3 cq3 cp3 hcall hes hre hno hlen4 cp4 cq4 hb10 hv10 HSRC HOK2 HOK4 HE1
    go_wp2_with fail
    rw [← hw10]
    have HW10 := hide hw10
    clear hw10
    go_wp2_with fail
    refine HCL.out.mono ?_
    rintro e w11 ⟨g, gk, rfl, hgk1, hgk2, hlow, hnext⟩
    have HLOW := hide hlow
    obtain ⟨w12, hw12⟩ : ∃ w12, w12 = w11.alloc (.cells #[.int .i64 (hv + am), .int .i64 15] 45) := ⟨_, rfl⟩
    have hb12 : Below w11.heap.size w11 w12 := by rw [hw12]; exact (Below.refl _ _).alloc (Nat.le_refl _) _
    have ho12 : w12.heap[w11.heap.size]? = some (.cells #[.int .i64 (hv + am), .int .i64 15] 45 (0, 0)) := by rw [hw12]; exact heap_alloc_new w11 _
    have g0 := (cell_of_row w12 _ 0 _ _ _ ho12).trans rfl
    have g1 := (cell_of_row w12 _ 1 _ _ _ ho12).trans rfl
    have HNX := hide hnext
    have HB12 := hide hb12
    obtain ⟨⟨k1, k0⟩, -, -⟩ := hnext w12 hb12
    have tt2 : (hv + am == hv + am) = true := by simp
    have tt3 : (hv == hv - am) = false := by simp; omega
    have tt4 : (hv == hv) = true := by simp
    have tt5 : (hv - am == hv - am) = true := by simp
    have gk0 : (1 : Int) ≤ (gk : Int) := by omega
    have gk9 : (gk : Int) ≤ 9223372036854775807 := by simp only [maxLen] at hgk2; omega
    clear hnext hlow hb12 ho12 HCL c0 c1
    go_wp2_with fail
    rw [← hw12]
    have HW12 := hide hw12
    clear hw12
    go_wp2_with fail
    refine (HPK.out _).mono ?_
    rintro e wx ⟨rfl, hq⟩
    obtain rfl : w12 = wx := hq.symm
    clear HPK
    rcases hpc with rfl | rfl | rfl
    · go_wp2_with fail
      go_region_held3 (fun w' => w'.cell? ⟨s, 1, none⟩ = some (.pointer (some ⟨D, 0, none⟩)))
        (first | with_reducible exact k1 | with_reducible exact hk | go_keep)
        (first | (go_at_call 14; refine (HNX.out _ (by first | exact HB12.out | exact Below.drew HB12.out)).2.2.mono ?_; rintro e w13 ⟨rfl, hk, hcr⟩))
      have HCR := hide (hcr a b a0 a1 b0 b1)
      clear hcr k0 k1 g0 g1 HNX
      go_wp2_with fail
      refine HCR.out.mono ?_
      rintro e w14 ⟨rfl, hre⟩
      have HRE := hide hre
      clear hre HCR hk
      go_wp2_with fail
      refine HRE.out.mono ?_
      rintro e w15 ⟨rfl, C5, S5, B5, f5, d5, hC5, h5⟩
      subst hC5
      have HTO := hide (total_any w.heap.size s S5 B5 D C5 f5 d5 w15 pp qq hv hv hp9 hq9 h5.site HG.out.1.1 HG.out.1.2)
      have HL5 := hide h5.low
      have HLL := hide h5.site.lowL
      clear h5 HRE
      go_wp2_with fail
      refine HTO.out.mono ?_
      rintro e w16 ⟨rfl, hb16⟩
      have HFIN : Hid (Below w.heap.size w w16) := HL5.out.trans (hb16.mono HLL.out)
      clear hb16 HTO
      go_wp2_with fail
      go_ret
      exact ⟨rfl, HFIN.out⟩
    · go_wp2_with fail
      go_region_held3 (fun w' => w'.cell? ⟨s, 1, none⟩ = some (.pointer (some ⟨D, 0, none⟩)))
        (first | with_reducible exact k1 | exact h13.cells.2 | go_keep)
        (first | (go_at_call 14; refine (HNX.out _ (by first | exact HB12.out | exact Below.drew HB12.out)).2.1.mono ?_; rintro e w13 ⟨rfl, d13, h13⟩))
      have HCR := hide (h13.crash (by omega) a b a0 a1 b0 b1)
      obtain ⟨e0, e1'⟩ := h13.cells
      clear h13 k0 k1 g0 g1 HNX
      go_wp2_with fail
      refine HCR.out.mono ?_
      rintro e w14 ⟨rfl, hre⟩
      have HRE := hide hre
      clear hre HCR e0 e1'
      go_wp2_with fail
      refine HRE.out.mono ?_
      rintro e w15 ⟨rfl, C5, S5, B5, f5, d5, hC5, h5, -⟩
      have HL5 := hide h5.low
      have HLL := hide h5.site.lowL
      rcases hC5 with hC5 | hC5
      · subst hC5
        have HTO := hide (total_any w.heap.size s S5 B5 D C5 f5 d5 w15 pp qq hv hv hp9 hq9 h5.site HG.out.1.1 HG.out.1.2)
        clear h5 HRE
        go_wp2_with fail
        refine HTO.out.mono ?_
        rintro e w16 ⟨rfl, hb16⟩
        have HFIN : Hid (Below w.heap.size w w16) := HL5.out.trans (hb16.mono HLL.out)
        clear hb16 HTO
        go_wp2_with fail
        go_ret
        exact ⟨rfl, HFIN.out⟩
      · subst hC5
        have HTO := hide (total_any w.heap.size s S5 B5 D C5 f5 d5 w15 pp qq (hv - am) (hv + am) hp9 hq9 h5.site HG.out.2.1 HG.out.2.2)
        clear h5 HRE
        go_wp2_with fail
        refine HTO.out.mono ?_
        rintro e w16 ⟨rfl, hb16⟩
        have HFIN : Hid (Below w.heap.size w w16) := HL5.out.trans (hb16.mono HLL.out)
        clear hb16 HTO
        cases tt6 : (hv - am == hv) <;> (go_wp2_with fail; go_ret; exact ⟨rfl, HFIN.out⟩)
    · go_wp2_with fail
      go_region_held3 (fun w' => w'.cell? ⟨s, 1, none⟩ = some (.pointer (some ⟨D, 0, none⟩)) ∧ w'.cell? ⟨s, 0, none⟩ = some (.pointer (some ⟨S2, 0, none⟩)))
        (first | with_reducible exact ⟨k1, k0⟩ | with_reducible exact hk3 | exact ⟨h14.cells.2, h14.cells.1⟩ | exact ⟨h13.cells.2, h13.cells.1⟩ | go_keep)
        (first | (go_at_call 15; refine (site_sync h13).mono ?_; rintro e w13b ⟨xo, xn, xk, rfl, hk3, hall3⟩) | (go_at_call 14; refine hall3.mono ?_; rintro e w14 ⟨rfl, d14, h14, -⟩) | (go_at_call 14; refine (HNX.out _ (by first | exact HB12.out | exact Below.drew HB12.out)).2.1.mono ?_; rintro e w13 ⟨rfl, d13, h13⟩))
      have HCR := hide (h14.crash (by omega) a b a0 a1 b0 b1)
      obtain ⟨e0, e1'⟩ := h14.cells
      clear h13 h14 hk3 hall3 k0 k1 g0 g1 HNX
      go_wp2_with fail
      refine HCR.out.mono ?_
      rintro e w15 ⟨rfl, hre⟩
      have HRE := hide hre
      clear hre HCR e0 e1'
      go_wp2_with fail
      refine HRE.out.mono ?_
      rintro e w16 ⟨rfl, C5, S5, B5, f5, d5, hC5, h5, -⟩
      have HL5 := hide h5.low
      have HLL := hide h5.site.lowL
      subst hC5
      have HTO := hide (total_any w.heap.size s S5 B5 D C5 f5 d5 w16 pp qq (hv - am) (hv + am) hp9 hq9 h5.site HG.out.2.1 HG.out.2.2)
      clear h5 HRE
      go_wp2_with fail
      refine HTO.out.mono ?_
      rintro e w17 ⟨rfl, hb17⟩
      have HFIN : Hid (Below w.heap.size w w17) := HL5.out.trans (hb17.mono HLL.out)
      clear hb17 HTO
      cases tt6 : (hv - am == hv) <;> (go_wp2_with fail; go_ret; exact ⟨rfl, HFIN.out⟩)
  · go_wp2_with fail
    refine (HBH.out _).mono ?_
    rintro e wx ⟨rfl, hq⟩
    obtain rfl : w1 = wx := hq.symm
    go_wp2_with fail
    refine (HBA.out _).mono ?_
    rintro e wx ⟨rfl, hq⟩
    obtain rfl : w1 = wx := hq.symm
    clear HBH HBA
    go_wp2_with fail
    refine HKE.out.mono ?_
    rintro e w2 ⟨rfl, S2, B2, f2, d2, hs2, hd2, hx2, -, -⟩
    obtain ⟨C2, hC2⟩ : ∃ C2 : Jn.Con, C2 = ⟨C.cells, [((⟨#[109, 111, 118, 101]⟩ : ByteArray).data.toList, (⟨Kp.mSrc.toArray⟩ : ByteArray).data.toList)]⟩ := ⟨_, rfl⟩
    rw [← hC2] at hs2 hd2
    have hsrc : srcL C2.procs [109, 111, 118, 101] = some Kp.mSrc := by rw [hC2]; rfl
    have h2 := HST.out _ _ _ _ _ _ _ _ _ hs2 hd2 (HB1.out.trans hx2.below)
    have HSRC := hide hsrc
    have HPT := hide (site_put h2 h2.ok (by omega) (pp : Int) hv HKP.out HVH.out)
    obtain ⟨s0, s1⟩ := h2.cells
    have hok2 := h2.ok
    have HOK2 := hide hok2
    clear hs2 hd2 hx2 h2 hC2 hsrc hok2 HKE
    go_wp2_with fail
    refine HPT.out.mono ?_
    rintro e w3 ⟨vo, vn, vk, rfl, ⟨s1, s0⟩, hall⟩
    have HA := hide hall
    clear hall HPT
    go_wp2_with fail
    refine HA.out.mono ?_
    rintro e w4 ⟨rfl, d4, h4, -⟩
    have HPT := hide (site_put h4 (.inr rfl) (by omega) (qq : Int) hv HKQ.out HVH.out)
    obtain ⟨s0, s1⟩ := h4.cells
    have e1' : (Jn.put C2 (pp : Int) hv).1 = Jn.setC C2 (pp : Int) (some hv) := by unfold Jn.put; rw [if_neg (by rw [HKP.out]; decide), if_neg (by rw [HVH.out]; decide)]
    have HOK4 := hide h4.ok
    have HE1 := hide e1'
    clear h4 HA e1'
    go_wp2_with fail
    refine HPT.out.mono ?_
    rintro e w5 ⟨uo, un, uk, rfl, ⟨s1, s0⟩, hall⟩
    have HA := hide hall
    clear hall HPT
    go_wp2_with fail
    refine HA.out.mono ?_
    rintro e w6 ⟨rfl, d6, h6, -⟩
    have HSY := hide (fun x (hx : Below w6.heap.size w6 x) => site_sync (h6.below hx))
    obtain ⟨c0, c1⟩ := h6.cells
    clear h6 HA s0 s1
    go_wp2_with fail
    go_region_held3 (fun w' => w'.cell? ⟨s, 1, none⟩ = some (.pointer (some ⟨D, 0, none⟩)) ∧ w'.cell? ⟨s, 0, none⟩ = some (.pointer (some ⟨S2, 0, none⟩)))
      (first | with_reducible exact hk1 | exact ⟨h9.cells.2, h9.cells.1⟩ | go_keep)
      (first | (go_at_call 15; refine (HSY.out _ (by first | exact Below.refl _ _ | exact Below.drew (Below.refl _ _))).mono ?_; rintro e wp ⟨xo, xn, xk, rfl, hk1, hall⟩) | (go_at_call 14; refine hall.mono ?_; rintro e w9 ⟨rfl, d9, h9, -⟩))
    obtain ⟨C3, hC3⟩ : ∃ C3, C3 = (Jn.put (Jn.put C2 (pp : Int) hv).1 (qq : Int) hv).1 := ⟨_, rfl⟩
    rw [← hC3] at h9
    have e3 : C3 = Jn.setC (Jn.setC C2 (pp : Int) (some hv)) (qq : Int) (some hv) := by rw [hC3, HE1.out]; unfold Jn.put; rw [if_neg (by rw [HKQ.out]; decide), if_neg (by rw [HVH.out]; decide)]
    have hsrc3 : srcL C3.procs [109, 111, 118, 101] = some Kp.mSrc := by rw [e3]; exact HSRC.out
    have cq3 : C3.cells.getD qq none = some hv := by rw [e3, ← HE1.out]; exact setC_get _ HOK4.out qq hq9 _
    have cp3 : C3.cells.getD pp none = some hv := by
      have := setC_get C2 HOK2.out pp hp9 (some hv)
      rw [e3]
      unfold Jn.setC at this ⊢
      simp only [Int.toNat_natCast, List.getD_eq_getElem?_getD] at this ⊢
      rw [List.getElem?_set_ne (by omega)]
      exact this
    obtain ⟨C4, es, hcall, hes, hre, hno, hlen4, cp4, cq4⟩ := Kp.m_call C3 h9.ok [109, 111, 118, 101] hsrc3 pp qq hp9 hq9 hne hv am ⟨hh0, hh1⟩ ⟨ha0, ha1⟩ cp3 cq3
    obtain ⟨w10, hw10⟩ : ∃ w10, w10 = w9.alloc (.cells #[.int .i64 (pp : Int), .int .i64 (qq : Int), .int .i64 am] 3) := ⟨_, rfl⟩
    have hb10 : Below w9.heap.size w9 w10 := by rw [hw10]; exact (Below.refl _ _).alloc (Nat.le_refl _) _
    have hv10 : IntsAt w10 (.slice (some ⟨w9.heap.size, 0, none⟩) 3 3) [(pp : Int), (qq : Int), am] := by rw [hw10]; exact ints_three w9 _ _ _
    have HCL := hide (site_call (nm := ⟨#[109, 111, 118, 101]⟩) (h9.below hb10) (by omega) hv10 hcall hes hre hno (by omega))
    have HG := hide (And.intro (And.intro cp3 cq3) (And.intro cp4 cq4))
    obtain ⟨c0, c1⟩ := h9.cells
    clear h9 hk1 hall HSY hC3 e3 hsrc3 cq3 cp3 hcall hes hre hno hlen4 cp4 cq4 hb10 hv10 HSRC HOK2 HOK4 HE1
    go_wp2_with fail
    rw [← hw10]
    have HW10 := hide hw10
    clear hw10
    go_wp2_with fail
    refine HCL.out.mono ?_
    rintro e w11 ⟨g, gk, rfl, hgk1, hgk2, hlow, hnext⟩
    have HLOW := hide hlow
    obtain ⟨w12, hw12⟩ : ∃ w12, w12 = w11.alloc (.cells #[.int .i64 (hv + am), .int .i64 15] 45) := ⟨_, rfl⟩
    have hb12 : Below w11.heap.size w11 w12 := by rw [hw12]; exact (Below.refl _ _).alloc (Nat.le_refl _) _
    have ho12 : w12.heap[w11.heap.size]? = some (.cells #[.int .i64 (hv + am), .int .i64 15] 45 (0, 0)) := by rw [hw12]; exact heap_alloc_new w11 _
    have g0 := (cell_of_row w12 _ 0 _ _ _ ho12).trans rfl
    have g1 := (cell_of_row w12 _ 1 _ _ _ ho12).trans rfl
    have HNX := hide hnext
    have HB12 := hide hb12
    obtain ⟨⟨k1, k0⟩, -, -⟩ := hnext w12 hb12
    have tt2 : (hv + am == hv + am) = true := by simp
    have tt3 : (hv == hv - am) = false := by simp; omega
    have tt4 : (hv == hv) = true := by simp
    have tt5 : (hv - am == hv - am) = true := by simp
    have gk0 : (1 : Int) ≤ (gk : Int) := by omega
    have gk9 : (gk : Int) ≤ 9223372036854775807 := by simp only [maxLen] at hgk2; omega
    clear hnext hlow hb12 ho12 HCL c0 c1
    go_wp2_with fail
    rw [← hw12]
    have HW12 := hide hw12
    clear hw12
    go_wp2_with fail
    refine (HPK.out _).mono ?_
    rintro e wx ⟨rfl, hq⟩
    obtain rfl : w12 = wx := hq.symm
    clear HPK
    rcases hpc with rfl | rfl | rfl
    · go_wp2_with fail
      go_region_held3 (fun w' => w'.cell? ⟨s, 1, none⟩ = some (.pointer (some ⟨D, 0, none⟩)))
        (first | with_reducible exact k1 | with_reducible exact hk | go_keep)
        (first | (go_at_call 14; refine (HNX.out _ (by first | exact HB12.out | exact Below.drew HB12.out)).2.2.mono ?_; rintro e w13 ⟨rfl, hk, hcr⟩))
      have HCR := hide (hcr a b a0 a1 b0 b1)
      clear hcr k0 k1 g0 g1 HNX
      go_wp2_with fail
      refine HCR.out.mono ?_
      rintro e w14 ⟨rfl, hre⟩
      have HRE := hide hre
      clear hre HCR hk
      go_wp2_with fail
      refine HRE.out.mono ?_
      rintro e w15 ⟨rfl, C5, S5, B5, f5, d5, hC5, h5⟩
      subst hC5
      have HTO := hide (total_any w.heap.size s S5 B5 D C5 f5 d5 w15 pp qq hv hv hp9 hq9 h5.site HG.out.1.1 HG.out.1.2)
      have HL5 := hide h5.low
      have HLL := hide h5.site.lowL
      clear h5 HRE
      go_wp2_with fail
      refine HTO.out.mono ?_
      rintro e w16 ⟨rfl, hb16⟩
      have HFIN : Hid (Below w.heap.size w w16) := HL5.out.trans (hb16.mono HLL.out)
      clear hb16 HTO
      go_wp2_with fail
      go_ret
      exact ⟨rfl, HFIN.out⟩
    · go_wp2_with fail
      go_region_held3 (fun w' => w'.cell? ⟨s, 1, none⟩ = some (.pointer (some ⟨D, 0, none⟩)))
        (first | with_reducible exact k1 | exact h13.cells.2 | go_keep)
        (first | (go_at_call 14; refine (HNX.out _ (by first | exact HB12.out | exact Below.drew HB12.out)).2.1.mono ?_; rintro e w13 ⟨rfl, d13, h13⟩))
      have HCR := hide (h13.crash (by omega) a b a0 a1 b0 b1)
      obtain ⟨e0, e1'⟩ := h13.cells
      clear h13 k0 k1 g0 g1 HNX
      go_wp2_with fail
      refine HCR.out.mono ?_
      rintro e w14 ⟨rfl, hre⟩
      have HRE := hide hre
      clear hre HCR e0 e1'
      go_wp2_with fail
      refine HRE.out.mono ?_
      rintro e w15 ⟨rfl, C5, S5, B5, f5, d5, hC5, h5, -⟩
      have HL5 := hide h5.low
      have HLL := hide h5.site.lowL
      rcases hC5 with hC5 | hC5
      · subst hC5
        have HTO := hide (total_any w.heap.size s S5 B5 D C5 f5 d5 w15 pp qq hv hv hp9 hq9 h5.site HG.out.1.1 HG.out.1.2)
        clear h5 HRE
        go_wp2_with fail
        refine HTO.out.mono ?_
        rintro e w16 ⟨rfl, hb16⟩
        have HFIN : Hid (Below w.heap.size w w16) := HL5.out.trans (hb16.mono HLL.out)
        clear hb16 HTO
        go_wp2_with fail
        go_ret
        exact ⟨rfl, HFIN.out⟩
      · subst hC5
        have HTO := hide (total_any w.heap.size s S5 B5 D C5 f5 d5 w15 pp qq (hv - am) (hv + am) hp9 hq9 h5.site HG.out.2.1 HG.out.2.2)
        clear h5 HRE
        go_wp2_with fail
        refine HTO.out.mono ?_
        rintro e w16 ⟨rfl, hb16⟩
        have HFIN : Hid (Below w.heap.size w w16) := HL5.out.trans (hb16.mono HLL.out)
        clear hb16 HTO
        cases tt6 : (hv - am == hv) <;> (go_wp2_with fail; go_ret; exact ⟨rfl, HFIN.out⟩)
    · go_wp2_with fail
      go_region_held3 (fun w' => w'.cell? ⟨s, 1, none⟩ = some (.pointer (some ⟨D, 0, none⟩)) ∧ w'.cell? ⟨s, 0, none⟩ = some (.pointer (some ⟨S2, 0, none⟩)))
        (first | with_reducible exact ⟨k1, k0⟩ | with_reducible exact hk3 | exact ⟨h14.cells.2, h14.cells.1⟩ | exact ⟨h13.cells.2, h13.cells.1⟩ | go_keep)
        (first | (go_at_call 15; refine (site_sync h13).mono ?_; rintro e w13b ⟨xo, xn, xk, rfl, hk3, hall3⟩) | (go_at_call 14; refine hall3.mono ?_; rintro e w14 ⟨rfl, d14, h14, -⟩) | (go_at_call 14; refine (HNX.out _ (by first | exact HB12.out | exact Below.drew HB12.out)).2.1.mono ?_; rintro e w13 ⟨rfl, d13, h13⟩))
      have HCR := hide (h14.crash (by omega) a b a0 a1 b0 b1)
      obtain ⟨e0, e1'⟩ := h14.cells
      clear h13 h14 hk3 hall3 k0 k1 g0 g1 HNX
      go_wp2_with fail
      refine HCR.out.mono ?_
      rintro e w15 ⟨rfl, hre⟩
      have HRE := hide hre
      clear hre HCR e0 e1'
      go_wp2_with fail
      refine HRE.out.mono ?_
      rintro e w16 ⟨rfl, C5, S5, B5, f5, d5, hC5, h5, -⟩
      have HL5 := hide h5.low
      have HLL := hide h5.site.lowL
      subst hC5
      have HTO := hide (total_any w.heap.size s S5 B5 D C5 f5 d5 w16 pp qq (hv - am) (hv + am) hp9 hq9 h5.site HG.out.2.1 HG.out.2.2)
      clear h5 HRE
      go_wp2_with fail
      refine HTO.out.mono ?_
      rintro e w17 ⟨rfl, hb17⟩
      have HFIN : Hid (Below w.heap.size w w17) := HL5.out.trans (hb17.mono HLL.out)
      clear hb17 HTO
      cases tt6 : (hv - am == hv) <;> (go_wp2_with fail; go_ret; exact ⟨rfl, HFIN.out⟩)
end Go.Proofs.YtellilpeakpbfabGreatDoor
