import Derived.Test.YtellilpeakpbfaaGreatDoorKpSToo
/-
  Alike.
-/
set_option linter.unusedVariables false
namespace Go.Proofs.YtellilpeakpbfaaGreatDoor
open Go.RowKit

namespace Kp
theorem inst_a (cs : List (Option Int)) : Jn.install ⟨cs, [([98], bSrc)]⟩ [97] aSrc = (⟨cs, [([97], aSrc), ([98], bSrc)]⟩, 0, 0) := by
  unfold Jn.install
  rw [if_neg (by decide), if_neg (by rw [a_read]; decide), if_neg (by simp [Jn.others])]
  rfl
theorem inst_c (cs : List (Option Int)) : Jn.install ⟨cs, [([97], aSrc), ([98], bSrc)]⟩ [99] cSrc = (⟨cs, [([97], aSrc), ([98], bSrc), ([99], cSrc)]⟩, 0, 0) := by
  unfold Jn.install
  rw [if_neg (by decide), if_neg (by rw [c_read]; decide), if_neg (by simp [Jn.others])]
  rfl
end Kp
theorem ints_one (w : World) (a : Int) : IntsAt (w.alloc (.cells #[.int .i64 a] 3)) (.slice (some ⟨w.heap.size, 0, none⟩) 1 1) [a] := ints_new w
theorem pair_then {L : Nat} {w w' : World} {s S B D t S2 B2 D2 : Nat} {C C2 : Jn.Con} (h : PairPost L s S B D C t S2 B2 D2 C2 w w') : Pair L w' s S B D C t S2 B2 D2 C2 ∧ Below L w w' := ⟨h.1, h.2.below⟩
theorem Pair.fr {L : Nat} {w w' : World} {s S B D t S2 B2 D2 : Nat} {C C2 : Jn.Con} (h : Pair L w s S B D C t S2 B2 D2 C2) (g : Fr L [57] none w w') : Pair L w' s S B D C t S2 B2 D2 C2 := by
  obtain ⟨⟨f, d, h1⟩, ⟨f2, d2, h2⟩, h3⟩ := h
  exact ⟨⟨f, d, ⟨g.block s _ _ _ h1.mem (by decide) (by simp), h1.st.fr g (by decide) (by decide) (by decide) (by simp), g.block D _ _ _ h1.disk (by decide) (by simp), h1.low⟩⟩, ⟨f2, d2, ⟨g.block t _ _ _ h2.mem (by decide) (by simp), h2.st.fr g (by decide) (by decide) (by decide) (by simp), g.block D2 _ _ _ h2.disk (by decide) (by simp), h2.low⟩⟩, h3⟩
/-- a variable stays while a store changes. -/
theorem pair_out {L : Nat} {w w' : World} {s S B D t S2 B2 D2 g : Nat} {C C' C2 : Jn.Con} {cur : Array Value} (h : Pair L w s S B D C t S2 B2 D2 C2) (hp : PairPost L s S B D C' t S2 B2 D2 C2 w w') (hg : w.heap[g]? = some (.cells cur 57 (0, 0))) : w'.heap[g]? = some (.cells cur 57 (0, 0)) := by
  obtain ⟨⟨f, d, h1⟩, -⟩ := h
  obtain ⟨cb, vb, hB, -⟩ := h1.st.con.mem
  refine hp.2.block g _ _ _ hg ?_
  simp
  intro e
  rw [e, hB] at hg
  cases hg
theorem out_of_row {w : World} {g : Nat} {a b : Value} (h : w.heap[g]? = some (.cells #[a, b] 57 (0, 0))) : w.cell? ⟨g, 0, none⟩ = some a ∧ w.cell? ⟨g, 1, none⟩ = some b ∧ w.frozen? ⟨g, 0, none⟩ = false ∧ w.frozen? ⟨g, 1, none⟩ = false :=
  ⟨(cell_of_row w g 0 _ _ _ h).trans rfl, (cell_of_row w g 1 _ _ _ h).trans rfl, frozen_of_row w g 0 _ _ h, frozen_of_row w g 1 _ _ h⟩
theorem out_set {L : Nat} {w : World} {g : Nat} {a b a' b' : Value} (hL : L ≤ g) (h : w.heap[g]? = some (.cells #[a, b] 57 (0, 0))) : ((w.setCell ⟨g, 0, none⟩ a').setCell ⟨g, 1, none⟩ b').heap[g]? = some (.cells #[a', b'] 57 (0, 0)) ∧ Fr L [57] none w ((w.setCell ⟨g, 0, none⟩ a').setCell ⟨g, 1, none⟩ b') := by
  have g1 := heap_setCell_same w g 0 _ _ a' h
  have g2 := heap_setCell_same (w.setCell ⟨g, 0, none⟩ a') g 1 _ _ b' g1
  refine ⟨by rw [g2]; simp, ?_⟩
  exact ((fr_setCell w g 0 _ hL).typed (fun k hk => by cases hk; exact ⟨_, _, _, h, by simp⟩) none).trans ((fr_setCell _ g 1 _ hL).typed (fun k hk => by cases hk; exact ⟨_, _, _, g1, by simp⟩) none)
theorem same_con {C C2 : Jn.Con} (h : C.cells = C2.cells) : C.list = C2.list := by unfold Jn.Con.list; rw [h]

set_option maxHeartbeats 16000000 in
set_option maxRecDepth 100000 in
theorem alike_any (w : World) (v : Value) (ps : List (Int × Int × Int)) (k x m : Int) (hv : StepsOf w v ps) (hP : PowAt w) (hWd : WordsAt w) (k0 : -9223372036854775808 ≤ k) (k1 : k ≤ 9223372036854775807) (x0 : -9223372036854775808 ≤ x) (x1 : x ≤ 9223372036854775807) (m0 : -9223372036854775808 ≤ m) (m1 : m ≤ 9223372036854775807) :
    Calls Tryz.prog 9 #[v, .int .i64 k, .int .i64 x, .int .i64 m] w fun e w' => e = .returned (.bool true) ∧ Below w.heap.size w w' := by
  have HLV := hide (live_any w v ps hv hP hWd)
  have HLW := hide (fun y (hy : Below w.heap.size w y) => live_any y v ps (hv.below hy) (hP.below hP.1 hy) (hWd.below hWd.1 hy))
  have hlen : ps.length ≤ 6000000000000 := by obtain ⟨_, _, _, _, _, h⟩ := hv; exact h
  obtain ⟨vo, vcap, hvs, -⟩ := hv
  obtain ⟨kk, hkk⟩ : ∃ kk : Nat, Kp.key k = (kk : Int) := ⟨(Kp.key k).toNat, by have := Kp.key_bd k; omega⟩
  have hk9 : kk ≤ 99 := by have := Kp.key_bd k; omega
  have HKY : Hid (∀ y, Calls Tryz.prog 30 #[.int .i64 k] y fun e w' => e = .returned (.int .i64 (kk : Int)) ∧ w' = y) := fun y => by rw [← hkk]; exact kkey_any k k0 k1 y
  obtain ⟨mm, hmm⟩ : ∃ mm : Nat, Kp.key m = (mm : Int) := ⟨(Kp.key m).toNat, by have := Kp.key_bd m; omega⟩
  have hm9 : mm ≤ 99 := by have := Kp.key_bd m; omega
  have HMY : Hid (∀ y, Calls Tryz.prog 30 #[.int .i64 m] y fun e w' => e = .returned (.int .i64 (mm : Int)) ∧ w' = y) := fun y => by rw [← hmm]; exact kkey_any m m0 m1 y
  obtain ⟨xx, hxx⟩ : ∃ xx, xx = Kp.value x := ⟨_, rfl⟩
  have hx9 : -1000000000 ≤ xx ∧ xx ≤ 1000000000 := by rw [hxx]; exact Kp.value_bd x
  have HVL : Hid (∀ y, Calls Tryz.prog 31 #[.int .i64 x] y fun e w' => e = .returned (.int .i64 xx) ∧ w' = y) := fun y => by rw [hxx]; exact kvalue_any x x0 x1 y
  have hpL : 1 < w.heap.size := hP.1
  obtain ⟨L, hL⟩ : ∃ L, L = w.heap.size := ⟨_, rfl⟩
  have HPW : Hid (∀ y, Below L w y → PowAt y ∧ WordsAt y) := by rw [hL]; exact fun y hy => ⟨hP.below hP.1 hy, hWd.below hWd.1 hy⟩
  rw [← hL] at HLV HLW hpL
  have HL := hide hL
  clear hkk hmm hxx hP hWd
  subst hvs
  go_enter Tryz.func9, Tryz.ntmps9
  go_wp2_with fail
  refine HLV.out.mono ?_
  rintro e w1 ⟨s, S, B, D, f, d, rfl, hs, -, -, hb1⟩
  have HB1 := hide hb1
  have HS1 := hide hs
  have HL2 := hide (HLW.out w1 hb1)
  clear hs hb1 HLV HLW
  go_wp2_with fail
  refine HL2.out.mono ?_
  rintro e w2 ⟨t, S0, B0, D2, f0, d0, rfl, ht, hd, -, hb2⟩
  obtain ⟨C, hC⟩ : ∃ C, C = ps.foldl Kp.play Jn.none0 := ⟨_, rfl⟩
  rw [← hC] at ht hd HS1
  have hz := HB1.out.size
  have hLw1 : L ≤ w1.heap.size := by rw [hL]; exact hz
  have hap : Apt s S B D t S0 B0 D2 := by
    obtain ⟨l1, l2, l3, l4⟩ := HS1.out.lts
    have h1 := ht.low
    have h2 := ht.st.low
    have h3 := ht.st.con.low
    exact ⟨by omega, by omega, by omega, by omega⟩
  have ht2 := ht.down hLw1
  have HP2 := hide (HB1.out.trans (hb2.mono hLw1))
  have HKE := hide (kkeeps_any L t S0 B0 D2 _ C f0 d0 w2 ⟨#[97]⟩ ⟨Kp.aSrc.toArray⟩ (by decide) (by show (Ck.read Kp.aSrc).2 = 0; rw [Kp.a_read]) ht2 hd (by omega) (HPW.out w2 HP2.out).1 (HPW.out w2 HP2.out).2 hpL)
  have HS2 := hide (HS1.out.below hb2)
  have HT2 := hide ht2
  have HA2 := hide hap
  clear ht hd hb2 ht2 hap HL2 HS1 HB1 hC hL
  go_wp2_with fail
  refine HKE.out.mono ?_
  rintro e w3 ⟨rfl, S1, B1, f1, d1, ht3, hd3, hx3, hS3, hB3⟩
  have HS3 := hide (HT2.out.other HS2.out HA2.out.symm hx3)
  have HA3 := hide (HA2.out.symm.step HS2.out hS3 hB3)
  have HP3 := hide (HP2.out.trans hx3.below)
  have HKE2 := hide (kkeeps_any L t S1 B1 D2 _ _ f1 d1 w3 ⟨#[98]⟩ ⟨Kp.bSrc.toArray⟩ (by decide) (by show (Ck.read Kp.bSrc).2 = 0; rw [Kp.b_read]) ht3 hd3 (by omega) (HPW.out w3 HP3.out).1 (HPW.out w3 HP3.out).2 hpL)
  have HT3 := hide ht3
  clear ht3 hd3 hx3 hS3 hB3 HKE HS2 HT2 HA2 HP2
  go_wp2_with fail
  refine HKE2.out.mono ?_
  rintro e w4 ⟨rfl, S2, B2, f2, d2, ht4, hd4, hx4, hS4, hB4⟩
  have hp4 : Pair L w4 t S2 B2 D2 ⟨C.cells, [([98], Kp.bSrc)]⟩ s S B D C := ⟨⟨f2, d2, ht4⟩, ⟨f, d, HT3.out.other HS3.out HA3.out hx4⟩, HA3.out.step HS3.out hS4 hB4⟩
  have H4 := hide hp4
  have HP4 := hide (HP3.out.trans hx4.below)
  have c4 := hp4.cells.1
  clear ht4 hd4 hx4 hS4 hB4 hp4 HKE2 HS3 HT3 HA3 HP3
  have HK := hide (pair_install H4.out ⟨#[97]⟩ ⟨Kp.aSrc.toArray⟩ (Kp.inst_a C.cells) (HPW.out w4 HP4.out).2)
  go_wp2_with fail
  refine HK.out.mono ?_
  rintro e w5 ⟨ao5, an5, ak5, rfl, hpp⟩
  obtain ⟨hp, hb⟩ := pair_then hpp
  have H5 := hide hp
  have HP5 := hide (HP4.out.trans hb)
  have c5 := hp.cells.1
  have s5 := hp.cells.2
  clear c4 hp hb hpp HK H4 HP4
  have HK := hide (pair_install H5.out ⟨#[99]⟩ ⟨Kp.cSrc.toArray⟩ (Kp.inst_c C.cells) (HPW.out w5 HP5.out).2)
  go_wp2_with fail
  refine HK.out.mono ?_
  rintro e w6 ⟨ao6, an6, ak6, rfl, hpp⟩
  obtain ⟨hp, hb⟩ := pair_then hpp
  have H6 := hide hp
  have HP6 := hide (HP5.out.trans hb)
  have c6 := hp.cells.1
  have s6 := hp.cells.2
  clear c5 s5 hp hb hpp HK H5 HP5
  go_wp2_with fail
  refine (HKY.out _).mono ?_
  rintro e wx ⟨rfl, hq⟩
  obtain rfl : w6 = wx := hq.symm
  go_wp2_with fail
  refine (HVL.out _).mono ?_
  rintro e wx ⟨rfl, hq⟩
  obtain rfl : w6 = wx := hq.symm
  go_wp2_with fail
  refine (HMY.out _).mono ?_
  rintro e wx ⟨rfl, hq⟩
  obtain rfl : w6 = wx := hq.symm
  clear HKY HVL HMY
  have HK := hide (pair_put H6.out.symm kk xx hk9 hx9 (HPW.out w6 HP6.out).1 hpL)
  go_wp2_with fail
  refine HK.out.mono ?_
  rintro e w7 ⟨ao7, an7, ak7, rfl, hpp⟩
  obtain ⟨hp, hb⟩ := pair_then hpp
  have H7 := hide hp.symm
  have HP7 := hide (HP6.out.trans hb)
  have hok7 := hp.oks
  obtain ⟨Ct, hCt⟩ : ∃ Ct : Jn.Con, Ct = ⟨C.cells, [([97], Kp.aSrc), ([98], Kp.bSrc), ([99], Kp.cSrc)]⟩ := ⟨_, rfl⟩
  obtain ⟨Cs, hCs⟩ : ∃ Cs : Jn.Con, Cs = Jn.setC C (kk : Int) (some xx) := ⟨_, rfl⟩
  rw [← hCt, ← hCs] at H7
  obtain ⟨w8, hw8⟩ : ∃ w8, w8 = w7.alloc (.cells #[.int .i64 (kk : Int), .int .i64 xx] 3) := ⟨_, rfl⟩
  have hb8 : Below w7.heap.size w7 w8 := by rw [hw8]; exact (Below.refl _ _).alloc (Nat.le_refl _) _
  have hi8 : IntsAt w8 (.slice (some ⟨w7.heap.size, 0, none⟩) 2 2) [(kk : Int), xx] := by rw [hw8]; exact ints_two w7 _ _
  have H8 := hide (H7.out.below hb8)
  have HP8 := hide (HP7.out.trans (hb8.mono hok7.2.2))
  have hokt : Jn.Ok Ct := H8.out.oks.1
  obtain ⟨a1, a2, a3, a4⟩ := Kp.call_a Ct hokt [97] (by rw [hCt]; rfl) kk xx hk9 hx9
  have HK2 := hide (pair_call H8.out ⟨#[97]⟩ _ [(kk : Int), xx] 3 (HPW.out w8 HP8.out).2 hi8 (HPW.out w8 HP8.out).1 hpL)
  have hnm : (⟨#[97]⟩ : ByteArray).data.toList = [97] := rfl
  rw [hnm, a1, a2, a3, a4] at HK2
  clear hnm
  have c7 := H7.out.cells.1
  have s7 := H7.out.cells.2
  clear hp hb hpp HK H6 HP6 c6 s6 hok7 hb8 hi8 hokt a1 a2 a3 a4
  go_wp2_with fail
  rw [← hw8]
  have HW8 := hide hw8
  clear hw8
  refine HK2.out.mono ?_
  rintro e w9 ⟨ao9, an9, ak9, rfl, hpp⟩
  obtain ⟨hp, hb⟩ := pair_then hpp
  obtain ⟨w10, hw10⟩ : ∃ w10, w10 = w9.alloc (.cells #[.int .i64 0, .int .i64 3] 57) := ⟨_, rfl⟩
  have hb10 : Below w9.heap.size w9 w10 := by rw [hw10]; exact (Below.refl _ _).alloc (Nat.le_refl _) _
  obtain ⟨Bo, hBo⟩ : ∃ Bo, Bo = w9.heap.size := ⟨_, rfl⟩
  have ho10 : w10.heap[Bo]? = some (.cells #[.int .i64 0, .int .i64 3] 57 (0, 0)) := by rw [hw10, hBo]; exact heap_alloc_new w9 _
  obtain ⟨Cu, hCu⟩ : ∃ Cu : Jn.Con, Cu = Jn.setC Ct (kk : Int) (some xx) := ⟨_, rfl⟩
  rw [← hCu] at hp
  have H10 := hide (hp.below hb10)
  have HP10 := hide ((HP8.out.trans hb).trans (hb10.mono hp.oks.2.2))
  have o0 : w10.cell? ⟨Bo, 0, none⟩ = some (.int .i64 0) := (cell_of_row w10 Bo 0 _ _ _ ho10).trans rfl
  have o1 : w10.cell? ⟨Bo, 1, none⟩ = some (.int .i64 3) := (cell_of_row w10 Bo 1 _ _ _ ho10).trans rfl
  have c10 := H10.out.cells.1
  have s10 := H10.out.cells.2
  have HO10 := hide ho10
  have hcell : Cs.cells = Cu.cells := by rw [hCs, hCu, hCt]; rfl
  have hpro : Cu.procs = [([97], Kp.aSrc), ([98], Kp.bSrc), ([99], Kp.cSrc)] := by rw [hCu, hCt]; rfl
  have HCL := hide hcell
  have HLB := hide (show L ≤ Bo by rw [hBo]; exact hp.oks.2.2)
  have HPO := hide hpro
  have HK := hide (pair_cells H10.out.symm)
  clear hp hb hpp HK2 H7 H8 HP7 HP8 c7 s7 hb10 ho10 hcell hpro hCs hCu hCt
  go_upto_region 14 with fail
  rw [← hw10, ← hBo]
  have HW10 := hide hw10
  have HBo := hide hBo
  clear hw10 hBo
  go_wp2_with fail
  refine HK.out.mono ?_
  rintro e w11 ⟨vx, rfl, hrx, hb11⟩
  have H11 := hide (H10.out.below hb11)
  have HP11 := hide (HP10.out.trans (hb11.mono H10.out.oks.2.2))
  have HO11 := hide ((hb11.block Bo (Array.getElem?_eq_some_iff.1 HO10.out).1).trans HO10.out)
  have HRX := hide hrx
  have c11 := H11.out.cells.1
  have s11 := H11.out.cells.2
  obtain ⟨xo, xk, rfl⟩ := crow_slice hrx
  have HK := hide (pair_cells H11.out)
  clear hrx hb11 H10 HP10 HO10 c10 s10 o0 o1
  go_wp2_with fail
  refine HK.out.mono ?_
  rintro e w12 ⟨vy, rfl, hry, hb12⟩
  have H12 := hide (H11.out.below hb12)
  have HP12 := hide (HP11.out.trans (hb12.mono H11.out.oks.2.2))
  have HO12 := hide ((hb12.block Bo (Array.getElem?_eq_some_iff.1 HO11.out).1).trans HO11.out)
  have hry' : CRow w12 w11.heap.size vy Cs.list := by rw [same_con HCL.out]; exact hry
  have HSM := hide (ksameC _ _ _ _ Cs w12 (CRow.below HRX.out hb12) hry' H11.out.oks.2.1)
  have c12 := H12.out.cells.1
  have s12 := H12.out.cells.2
  obtain ⟨yo, yk, hye⟩ := crow_slice hry
  subst hye
  clear hry hry' hb12 HK H11 HP11 HO11 c11 s11 HRX
  go_wp2_with fail
  refine HSM.out.mono ?_
  rintro e w13 ⟨rfl, hb13⟩
  have H13 := hide (H12.out.below hb13)
  have HP13 := hide (HP12.out.trans (hb13.mono H12.out.oks.2.2))
  have HO13 := hide ((hb13.block Bo (Array.getElem?_eq_some_iff.1 HO12.out).1).trans HO12.out)
  have c13 := H13.out.cells.1
  have s13 := H13.out.cells.2
  have HK := hide (pair_get H13.out.symm mm hm9)
  rw [HCL.out] at HK
  clear hb13 HSM H12 HP12 HO12 c12 s12
  obtain ⟨uu, huu⟩ : ∃ uu, uu = (Cu.cells.getD mm none).getD 0 := ⟨_, rfl⟩
  obtain ⟨bb, hbb⟩ : ∃ bb, bb = (Cu.cells.getD mm none).isSome := ⟨_, rfl⟩
  rw [← huu, ← hbb] at HK
  have hoku := H13.out.oks.1
  obtain ⟨b1, b2, b3, b4⟩ := Kp.call_b Cu hoku [98] (by rw [HPO.out]; rfl) mm hm9 1 (.inr rfl)
  obtain ⟨e1, e2, e3, e4⟩ := Kp.call_b Cu hoku [98] (by rw [HPO.out]; rfl) mm hm9 0 (.inl rfl)
  obtain ⟨d1', d2', d3', d4'⟩ := Kp.call_c Cu hoku [99] (by rw [HPO.out]; rfl) mm hm9
  rw [if_neg (by decide), ← huu] at b2
  rw [if_pos rfl, ← hbb] at e2
  have HB4 := hide (And.intro b1 (And.intro b2 (And.intro b3 b4)))
  have HE4 := hide (And.intro e1 (And.intro e2 (And.intro e3 e4)))
  have HD4 := hide (And.intro d1' (And.intro d2' (And.intro d3' d4')))
  clear b1 b2 b3 b4 e1 e2 e3 e4 d1' d2' d3' d4' huu hbb hoku
  go_wp2_with fail
  refine HK.out.mono ?_
  rintro e w14 ⟨rfl, hb14⟩
  have H14 := hide (H13.out.below hb14)
  have HP14 := hide (HP13.out.trans (hb14.mono H13.out.oks.2.2))
  have HO14 := hide ((hb14.block Bo (Array.getElem?_eq_some_iff.1 HO13.out).1).trans HO13.out)
  have c14 := H14.out.cells.1
  obtain ⟨w15, hw15⟩ : ∃ w15, w15 = w14.alloc (.cells #[.int .i64 (mm : Int), .int .i64 1] 3) := ⟨_, rfl⟩
  have hb15 : Below w14.heap.size w14 w15 := by rw [hw15]; exact (Below.refl _ _).alloc (Nat.le_refl _) _
  have hi15 : IntsAt w15 (.slice (some ⟨w14.heap.size, 0, none⟩) 2 2) [(mm : Int), 1] := by rw [hw15]; exact ints_two w14 _ _
  have H15 := hide (H14.out.below hb15)
  have HP15 := hide (HP14.out.trans (hb15.mono H14.out.oks.2.2))
  have HO15 := hide ((hb15.block Bo (Array.getElem?_eq_some_iff.1 HO14.out).1).trans HO14.out)
  have HK2 := hide (pair_call H15.out ⟨#[98]⟩ _ [(mm : Int), 1] 9 (HPW.out w15 HP15.out).2 hi15 (HPW.out w15 HP15.out).1 hpL)
  have hnb : (⟨#[98]⟩ : ByteArray).data.toList = [98] := rfl
  rw [hnb, HB4.out.1, HB4.out.2.1, HB4.out.2.2.1, HB4.out.2.2.2] at HK2
  clear hnb hb14 hb15 hi15 HK H13 HP13 HO13 c13 s13 H14 HP14 HO14
  go_wp2_with fail
  rw [← hw15]
  have HW15 := hide hw15
  clear hw15
  refine HK2.out.mono ?_
  rintro e w16 ⟨ao16, an16, ak16, rfl, hpp⟩
  have ho16 := pair_out H15.out hpp HO15.out
  obtain ⟨hp, hb⟩ := pair_then hpp
  have hLw16 := hp.oks.2.2
  obtain ⟨w18, hw18⟩ : ∃ w18, w18 = (w16.alloc (.cells #[.int .i64 uu, .int .i64 5] 57)).alloc (.cells #[.int .i64 (mm : Int), .int .i64 0] 3) := ⟨_, rfl⟩
  have hb18 : Below w16.heap.size w16 w18 := by rw [hw18]; exact belowA ((Below.refl _ _).alloc (Nat.le_refl _) _) _
  have hi18 : IntsAt w18 (.slice (some ⟨w16.heap.size + 1, 0, none⟩) 2 2) [(mm : Int), 0] := by
    have := ints_two (w16.alloc (.cells #[.int .i64 uu, .int .i64 5] 57)) (mm : Int) 0
    rw [World.size_alloc] at this
    rw [hw18]
    exact this
  obtain ⟨Bp, hBp⟩ : ∃ Bp, Bp = w16.heap.size := ⟨_, rfl⟩
  have hop18 : w18.heap[Bp]? = some (.cells #[.int .i64 uu, .int .i64 5] 57 (0, 0)) := by rw [hw18, hBp]; exact var_first w16 _ _ _
  have H18 := hide (hp.below hb18)
  have HP18 := hide ((HP15.out.trans hb).trans (hb18.mono hLw16))
  have HO18 := hide ((hb18.block Bo (Array.getElem?_eq_some_iff.1 ho16).1).trans ho16)
  have HQ18 := hide hop18
  have c16 := hp.cells.1
  have c16' : ∀ o, (w16.alloc o).cell? ⟨t, 0, none⟩ = some (.pointer (some ⟨S2, 0, none⟩)) := fun o => at_old ((Below.refl _ _).alloc (Nat.le_refl _) o) hp.cells.1
  have HK3 := hide (pair_call H18.out ⟨#[98]⟩ _ [(mm : Int), 0] 9 (HPW.out w18 HP18.out).2 hi18 (HPW.out w18 HP18.out).1 hpL)
  have hnb2 : (⟨#[98]⟩ : ByteArray).data.toList = [98] := rfl
  rw [hnb2, HE4.out.1, HE4.out.2.1, HE4.out.2.2.1, HE4.out.2.2.2] at HK3
  clear hnb2 hp hb hpp ho16 hb18 hi18 hop18 HK2 H15 HP15 HO15 c14
  have HW18 := hide hw18
  have HBp := hide hBp
  clear hw18 hBp hLw16
  go_wp2_with fail
  rw [← HW18.out]
  refine HK3.out.mono ?_
  rintro e w19 ⟨ao19, an19, ak19, rfl, hpp⟩
  have ho19 := pair_out H18.out hpp HO18.out
  have hq19 := pair_out H18.out hpp HQ18.out
  obtain ⟨hp, hb⟩ := pair_then hpp
  have hLw19 := hp.oks.2.2
  obtain ⟨w20, hw20⟩ : ∃ w20, w20 = w19.alloc (.cells #[.int .i64 (Rn.oneIf bb), .int .i64 5] 57) := ⟨_, rfl⟩
  have hb20 : Below w19.heap.size w19 w20 := by rw [hw20]; exact (Below.refl _ _).alloc (Nat.le_refl _) _
  obtain ⟨Bq, hBq⟩ : ∃ Bq, Bq = w19.heap.size := ⟨_, rfl⟩
  have hoq20 : w20.heap[Bq]? = some (.cells #[.int .i64 (Rn.oneIf bb), .int .i64 5] 57 (0, 0)) := by rw [hw20, hBq]; exact heap_alloc_new w19 _
  have H20 := hide (hp.below hb20)
  have HP20 := hide ((HP18.out.trans hb).trans (hb20.mono hLw19))
  have HO20 := hide ((hb20.block Bo (Array.getElem?_eq_some_iff.1 ho19).1).trans ho19)
  obtain ⟨p0, p1, -, -⟩ := out_of_row ((hb20.block Bp (Array.getElem?_eq_some_iff.1 hq19).1).trans hq19)
  obtain ⟨q0, q1, -, -⟩ := out_of_row hoq20
  have c20 := H20.out.cells.1
  have s20 := H20.out.cells.2
  have tu : (uu == uu) = true := by simp
  have tq : (Rn.oneIf bb == 1) = bb := by cases bb <;> rfl
  have tn : (bb != bb) = false := by simp
  have HK := hide (pair_del H20.out.symm mm hm9 (HPW.out w20 HP20.out).1 hpL)
  clear hp hb hpp ho19 hq19 hb20 hoq20 HK3 H18 HP18 HO18 HQ18 c16 c16'
  go_upto_region 22 with fail
  rw [← hw20, ← hBq, ← HBp.out]
  have HW20 := hide hw20
  have HBq := hide hBq
  clear hw20 hBq
  go_wp2_with fail
  refine HK.out.mono ?_
  rintro e w21 ⟨ao21, an21, ak21, rfl, hpp⟩
  have ho21 := pair_out H20.out.symm hpp HO20.out
  obtain ⟨hp, hb⟩ := pair_then hpp
  have hLw21 := hp.oks.2.2
  obtain ⟨w22, hw22⟩ : ∃ w22, w22 = w21.alloc (.cells #[.int .i64 (mm : Int)] 3) := ⟨_, rfl⟩
  have hb22 : Below w21.heap.size w21 w22 := by rw [hw22]; exact (Below.refl _ _).alloc (Nat.le_refl _) _
  have hi22 : IntsAt w22 (.slice (some ⟨w21.heap.size, 0, none⟩) 1 1) [(mm : Int)] := by rw [hw22]; exact ints_one w21 _
  have H22 := hide (hp.symm.below hb22)
  have HP22 := hide ((HP20.out.trans hb).trans (hb22.mono hLw21))
  have HO22 := hide ((hb22.block Bo (Array.getElem?_eq_some_iff.1 ho21).1).trans ho21)
  have c21 := hp.cells.2
  have HK2 := hide (pair_call H22.out ⟨#[99]⟩ _ [(mm : Int)] 2 (HPW.out w22 HP22.out).2 hi22 (HPW.out w22 HP22.out).1 hpL)
  have hnc : (⟨#[99]⟩ : ByteArray).data.toList = [99] := rfl
  rw [hnc, HD4.out.1, HD4.out.2.1, HD4.out.2.2.1, HD4.out.2.2.2] at HK2
  clear hnc hp hb hpp ho21 hb22 hi22 HK H20 HP20 HO20 c20 s20 p0 p1 q0 q1
  go_wp2_with fail
  rw [← hw22]
  have HW22 := hide hw22
  clear hw22
  refine HK2.out.mono ?_
  rintro e w23 ⟨ao23, an23, ak23, rfl, hpp⟩
  have ho23 := pair_out H22.out hpp HO22.out
  obtain ⟨hp, hb⟩ := pair_then hpp
  have hLw23 := hp.oks.2.2
  obtain ⟨o0, o1, o2, o3⟩ := out_of_row ho23
  obtain ⟨w24, hw24⟩ : ∃ w24, w24 = (w23.setCell ⟨Bo, 0, none⟩ (.int .i64 0)).setCell ⟨Bo, 1, none⟩ (.int .i64 2) := ⟨_, rfl⟩
  have hLBo : L ≤ Bo := HLB.out
  obtain ⟨ho24, hf24⟩ := out_set (a' := .int .i64 0) (b' := .int .i64 2) hLBo ho23
  rw [← hw24] at ho24 hf24
  have H24 := hide (hp.fr hf24)
  have HP24 := hide ((HP22.out.trans hb).trans hf24.below)
  have HO24 := hide ho24
  have c24 := H24.out.cells.1
  have s24 := H24.out.cells.2
  have HK := hide (pair_cells H24.out.symm)
  clear hp hb hpp ho23 ho24 hf24 HK2 H22 HP22 HO22 c21
  go_upto_region 26 with fail
  rw [← hw24]
  have HW24 := hide hw24
  clear hw24
  go_wp2_with fail
  refine HK.out.mono ?_
  rintro e w25 ⟨vx, rfl, hrx, hb25⟩
  have H25 := hide (H24.out.below hb25)
  have HP25 := hide (HP24.out.trans (hb25.mono H24.out.oks.2.2))
  have HO25 := hide ((hb25.block Bo (Array.getElem?_eq_some_iff.1 HO24.out).1).trans HO24.out)
  have HRX := hide hrx
  have c25 := H25.out.cells.1
  obtain ⟨xo2, xk2, hxe⟩ := crow_slice hrx
  subst hxe
  have HK := hide (pair_cells H25.out)
  clear hrx hb25 H24 HP24 HO24 c24 s24 o0 o1 o2 o3
  go_wp2_with fail
  refine HK.out.mono ?_
  rintro e w26 ⟨vy, rfl, hry, hb26⟩
  have H26 := hide (H25.out.below hb26)
  have HP26 := hide (HP25.out.trans (hb26.mono H25.out.oks.2.2))
  have HO26 := hide ((hb26.block Bo (Array.getElem?_eq_some_iff.1 HO25.out).1).trans HO25.out)
  have hry' : CRow w26 w25.heap.size vy (Jn.setC Cs (mm : Int) none).list := by
    rw [same_con (show (Jn.setC Cs (mm : Int) none).cells = (Jn.setC Cu (mm : Int) none).cells by unfold Jn.setC; rw [HCL.out])]; exact hry
  have HSM := hide (ksameC _ _ _ _ _ w26 (CRow.below HRX.out hb26) hry' H25.out.oks.2.1)
  have s26 := H26.out.cells.2
  obtain ⟨yo2, yk2, hye⟩ := crow_slice hry
  subst hye
  clear hry hry' hb26 HK H25 HP25 HO25 c25 HRX
  go_wp2_with fail
  refine HSM.out.mono ?_
  rintro e w27 ⟨rfl, hb27⟩
  have H27 := hide (H26.out.below hb27)
  have HP27 := hide (HP26.out.trans (hb27.mono H26.out.oks.2.2))
  have HO27 := hide ((hb27.block Bo (Array.getElem?_eq_some_iff.1 HO26.out).1).trans HO26.out)
  have s27 := H27.out.cells.2
  have HK := hide (pair_get H27.out.symm mm hm9)
  have hgone : (Jn.setC Cs (mm : Int) none).cells.getD mm none = none := by
    unfold Jn.setC
    simp only [Int.toNat_natCast, List.getD_eq_getElem?_getD, List.getElem?_set]
    split
    · split <;> rfl
    · rename_i h; exact absurd trivial h
  rw [hgone] at HK
  simp only [Option.getD_none, Option.isSome_none] at HK
  clear hb27 HSM H26 HP26 HO26 s26 hgone
  go_wp2_with fail
  refine HK.out.mono ?_
  rintro e w28 ⟨rfl, hb28⟩
  obtain ⟨o0, o1, -, -⟩ := out_of_row ((hb28.block Bo (Array.getElem?_eq_some_iff.1 HO27.out).1).trans HO27.out)
  have HFIN := hide (HP27.out.trans (hb28.mono H27.out.oks.2.2))
  clear hb28 HK H27 HP27 HO27 s27
  go_wp2_with fail
  go_ret
  exact ⟨rfl, HL.out ▸ HFIN.out⟩
end Go.Proofs.YtellilpeakpbfaaGreatDoor
