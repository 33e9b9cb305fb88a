import Derived.Test.YtellilpeakpbfaaGreatDoorFuQToo
import Derived.Test.YtellilpeakpbfaaGreatDoorGrDToo
import Derived.Test.YtellilpeakpbfaaGreatDoorAlkToo
/-
  Fueled.
-/
set_option linter.unusedVariables false
namespace Go.Proofs.YtellilpeakpbfaaGreatDoor
open Go.RowKit

/-- a row stays while a store changes. -/
theorem pair_row {L : Nat} {w w' : World} {s S B D t S2 B2 D2 b size n : Nat} {C C' C2 : Jn.Con} {e : TypeId} {v : Value} {xs : List Value} (h : Pair L w s S B D C t S2 B2 D2 C2) (hp : PairPost L s S B D C' t S2 B2 D2 C2 w w') (hr : w.ownsRow b e size v n xs) (he : e ≠ 145) : w'.ownsRow b e size v n xs := by
  obtain ⟨⟨f, d, h1⟩, -⟩ := h
  obtain ⟨cb, vb, hB, -⟩ := h1.st.con.mem
  refine ⟨hr.1, ?_⟩
  rcases hr.2 with hn | ⟨g, cap, cur, rfl, hb, hh, rest⟩
  · exact .inl hn
  · refine .inr ⟨g, cap, cur, rfl, hb, hp.2.block g cur e (0, 0) hh ?_, rest⟩
    simp
    intro eq
    rw [eq, hB] at hh
    cases hh
    exact he rfl
/-- what two lives, and what is kept in both, come to. -/
theorem args_bd (l : List Int) : ((l.take 4).map Kp.value).length ≤ 4 ∧ ∀ a ∈ (l.take 4).map Kp.value, -1000000000 ≤ a ∧ a ≤ 1000000000 := by
  refine ⟨by simp; omega, fun a ha => ?_⟩
  obtain ⟨x, -, rfl⟩ := List.mem_map.1 ha
  exact Kp.value_bd x

set_option maxHeartbeats 16000000 in
set_option maxRecDepth 100000 in
theorem fueled_any (w : World) (v u a : Value) (ps : List (Int × Int × Int)) (raw args : List Int) (fu : Int) (hv : StepsOf w v ps) (hu : IntsAt w u raw) (hul : InLow u raw w.heap.size) (hun : raw.length ≤ 18000000000000) (hub : ∀ x ∈ raw, -9223372036854775808 ≤ x ∧ x ≤ 9223372036854775807)
    (ha : IntsAt w a args) (hal : InLow a args w.heap.size) (han : args.length ≤ 18000000000000) (hab : ∀ x ∈ args, -9223372036854775808 ≤ x ∧ x ≤ 9223372036854775807) (f0 : -9223372036854775808 ≤ fu) (f1 : fu ≤ 9223372036854775807) (hP : PowAt w) (hWd : WordsAt w) :
    Calls Tryz.prog 8 #[v, u, a, .int .i64 fu] w fun e w' => e = .returned (.bool true) ∧ Below w.heap.size w w' := by
  have HLV := hide (live_any w v ps hv hP hWd)
  have HLW := hide (fun y (hy : Below w.heap.size w y) => live_any y v ps (hv.below hy) (hP.below hP.1 hy) (hWd.below hWd.1 hy))
  have HGR := hide (fun y (hy : Below w.heap.size w y) => grown_any y u raw (hu.below hy) (fun h g hg => Nat.lt_of_lt_of_le (hul h g hg) hy.size) hun hub)
  have HAR := hide (fun y (hy : Below w.heap.size w y) => arguments_any y a args (ha.below hy) han hab)
  have hlen : ps.length ≤ 6000000000000 := by obtain ⟨_, _, _, _, _, h⟩ := hv; exact h
  obtain ⟨vo, vcap, hvs, -⟩ := hv
  obtain ⟨uo, ucap, hus, -⟩ := hu
  obtain ⟨aro, arcap, has, -⟩ := ha
  obtain ⟨n, hn⟩ : ∃ n, n = Kp.bent fu 0 10000 := ⟨_, rfl⟩
  have hnb : 0 ≤ n ∧ n ≤ 10000 := by rw [hn]; exact Kp.bent_bd fu 0 10000 (by decide)
  have HBT : Hid (∀ y, Calls Tryz.prog 28 #[.int .i64 fu, .int .i64 0, .int .i64 10000] y fun e w' => e = .returned (.int .i64 n) ∧ w' = y) := fun y => by rw [hn]; exact kbent_any fu 0 10000 10001 (by decide) (by decide) (by decide) (by decide) (by decide) f0 f1 y
  have hpL : 1 < w.heap.size := hP.1
  obtain ⟨L, hL⟩ : ∃ L, L = w.heap.size := ⟨_, rfl⟩
  have HPW : Hid (∀ y, Below L w y → PowAt y ∧ WordsAt y) := by rw [hL]; exact fun y hy => ⟨hP.below hP.1 hy, hWd.below hWd.1 hy⟩
  rw [← hL] at HLV HLW HGR HAR hpL
  have HL := hide hL
  obtain ⟨ar, har⟩ : ∃ ar, ar = (args.take 4).map Kp.value := ⟨_, rfl⟩
  have HAB := hide (args_bd args)
  rw [← har] at HAR HAB
  clear hP hWd hn hul hub hal hab hun han har
  obtain ⟨n0, n1⟩ := hnb
  subst hvs
  subst hus
  subst has
  go_enter Tryz.func8, Tryz.ntmps8
  go_wp2_with fail
  refine HLV.out.mono ?_
  rintro e w1 ⟨s, S, B, D, f, d, rfl, hs, hd1, -, hb1⟩
  have HB1 := hide hb1
  have HS1 := hide hs
  have HD1 := hide hd1
  have HL2 := hide (HLW.out w1 hb1)
  clear hs hb1 hd1 HLV HLW
  go_wp2_with fail
  refine HL2.out.mono ?_
  rintro e w2 ⟨t, S0, B0, D2, f0', d0, rfl, ht, hd, -, hb2⟩
  obtain ⟨C, hC⟩ : ∃ C, C = ps.foldl Kp.play Jn.none0 := ⟨_, rfl⟩
  rw [← hC] at ht hd HS1 HD1
  have hz := HB1.out.size
  have hLw1 : L ≤ w1.heap.size := by rw [hL]; exact hz
  have hap : Apt s S B D t S0 B0 D2 := by
    obtain ⟨l1, l2, l3, l4⟩ := HS1.out.lts
    have h1 := ht.low
    have h2 := ht.st.low
    have h3 := ht.st.con.low
    exact ⟨by omega, by omega, by omega, by omega⟩
  have ht2 := ht.down hLw1
  have HP2 := hide (HB1.out.trans (hb2.mono hLw1))
  have HS2 := hide (HS1.out.below hb2)
  have HT2 := hide ht2
  have HD2 := hide hd
  have HA2 := hide hap
  have HG2 := hide (HGR.out w2 HP2.out)
  clear ht hd hb2 ht2 hap HL2 HS1 HB1 hC hL HGR hz
  go_wp2_with fail
  refine HG2.out.mono ?_
  rintro e w3 ⟨vt, ts, rfl, hrow, hsrc, hb3⟩
  obtain ⟨Z, hZ⟩ : ∃ Z : ByteArray, Z = ⟨(Kp.join ts).toArray⟩ := ⟨_, rfl⟩
  have hZl : Z.data.toList = Kp.join ts := by rw [hZ]
  have HJO : Hid (Calls Tryz.prog 21 #[vt] w3 fun e w' => e = .returned (.string Z) ∧ w' = w3) := by rw [hZ]; exact joined_any w3 _ vt ts hrow hsrc
  have hrd : Ck.read Z.data.toList = (0, 0) := by rw [hZl]; exact hsrc.joined.2.1
  have hLw2 : L ≤ w2.heap.size := HT2.out.lowL
  have HS3 := hide (HS2.out.below hb3)
  have HT3 := hide (HT2.out.below hb3)
  have HP3 := hide (HP2.out.trans (hb3.mono hLw2))
  obtain ⟨vto, vtk, rfl, -⟩ := hrow.shape
  have HRD := hide hrd
  clear hrow hsrc hb3 hZ hZl hrd HG2 HS2 HT2 HP2
  go_wp2_with fail
  refine HJO.out.mono ?_
  rintro e wx ⟨rfl, hq⟩
  obtain rfl : w3 = wx := hq.symm
  clear hq HJO
  have HKE := hide (kkeeps_any L s S B D _ C f d w3 ⟨#[112]⟩ Z (by decide) (by rw [HRD.out]) HS3.out HD1.out (by omega) (HPW.out w3 HP3.out).1 (HPW.out w3 HP3.out).2 hpL)
  go_wp2_with fail
  refine HKE.out.mono ?_
  rintro e w4 ⟨rfl, S1, B1, f1', d1, hs4, hd4, hx4, hS4, hB4⟩
  have HT4 := hide (HS3.out.other HT3.out HA2.out hx4)
  have HA4 := hide (HA2.out.step HT3.out hS4 hB4)
  have HP4 := hide (HP3.out.trans hx4.below)
  have HS4 := hide hs4
  have HKE2 := hide (kkeeps_any L t S0 B0 D2 _ C f0' d0 w4 ⟨#[112]⟩ Z (by decide) (by rw [HRD.out]) HT4.out HD2.out (by omega) (HPW.out w4 HP4.out).1 (HPW.out w4 HP4.out).2 hpL)
  clear hs4 hd4 hx4 hS4 hB4 HKE HS3 HT3 HA2 HP3 HD1
  go_wp2_with fail
  refine HKE2.out.mono ?_
  rintro e w5 ⟨rfl, S2, B2, f2', d2, ht5, hd5, hx5, hS5, hB5⟩
  obtain ⟨C1, hC1⟩ : ∃ C1 : Jn.Con, C1 = ⟨C.cells, [([112], Z.data.toList)]⟩ := ⟨_, rfl⟩
  have hp5 : Pair L w5 s S1 B1 D C1 t S2 B2 D2 C1 := by
    rw [hC1]
    exact ⟨⟨f1', d1, HT4.out.other HS4.out HA4.out.symm hx5⟩, ⟨f2', d2, ht5⟩, (HA4.out.symm.step HS4.out hS5 hB5).symm⟩
  have hsrc1 : srcL C1.procs [112] = some Z.data.toList := by rw [hC1]; rfl
  have HSR := hide hsrc1
  have H5 := hide hp5
  have HP5 := hide (HP4.out.trans hx5.below)
  have HA5 := hide (HAR.out w5 HP5.out)
  have hokC := hp5.oks.1
  have mF := Kp.may_of ar 10000 HAB.out.1 (by decide) (by decide) HAB.out.2
  have mN := Kp.may_of ar n HAB.out.1 n0 n1 HAB.out.2
  obtain ⟨ra, hra⟩ : ∃ ra, ra = Rn.call C1 [112] ar 10000 := ⟨_, rfl⟩
  obtain ⟨rb, hrb⟩ : ∃ rb, rb = Rn.call C1 [112] ar n := ⟨_, rfl⟩
  have hfu := Rn.call_fuel C1 hokC [112] Z.data.toList ar n 10000 hsrc1 mN mF n1
  have hun := Rn.call_units C1 hokC [112] Z.data.toList ar 10000 hsrc1 mF
  have heq : n = 10000 → rb = ra := fun e => by rw [hra, hrb, e]
  rw [← hra, ← hrb] at hfu
  rw [← hra] at hun
  have HFU := hide hfu
  have HEQ := hide heq
  have HRA := hide hra
  have HRB := hide hrb
  clear ht5 hd5 hx5 hS5 hB5 hp5 HKE2 HT4 HS4 HA4 HP4 HD2 HAR hC1 hsrc1 mF mN hfu heq hra hrb HRD hokC
  go_wp2_with fail
  refine HA5.out.mono ?_
  rintro e w6 ⟨va, rfl, hva, hb6⟩
  have H6 := hide (H5.out.below hb6)
  have HP6 := hide (HP5.out.trans (hb6.mono H5.out.oks.2.2))
  have HVA := hide hva
  obtain ⟨vao, vak, rfl, -, -⟩ := own_slice hva
  have c6 := H6.out.cells.2
  have HK := hide (pair_cells H6.out.symm)
  clear hva hb6 HA5 H5 HP5
  go_wp2_with fail
  refine (HBT.out _).mono ?_
  rintro e wx ⟨rfl, hq⟩
  obtain rfl : w6 = wx := hq.symm
  clear hq HBT
  go_wp2_with fail
  refine HK.out.mono ?_
  rintro e w7 ⟨vb, rfl, hrb7, hb7⟩
  have H7 := hide (H6.out.below hb7)
  have HP7 := hide (HP6.out.trans (hb7.mono H6.out.oks.2.2))
  have HVA7 : Hid (IRow w7 w5.heap.size (.slice vao ar.length vak) ar) := ownsRow_below HVA.out hb7
  have HBF := hide hrb7
  obtain ⟨bo, bk, rfl⟩ := crow_slice hrb7
  have s7 := H7.out.cells.1
  have HK2 := hide (pair_callE H7.out ⟨#[112]⟩ _ ar 10000 (HPW.out w7 HP7.out).2 (ints_own HVA7.out) (HPW.out w7 HP7.out).1 hpL)
  have hnm : (⟨#[112]⟩ : ByteArray).data.toList = [112] := rfl
  rw [hnm, ← HRA.out] at HK2
  clear hrb7 hb7 hnm HK H6 HP6 HVA c6
  obtain ⟨CA, av, au, aes, ae⟩ := ra
  obtain ⟨CB, bv, bu, bes, be⟩ := rb
  simp only at HK2 HFU hun
  obtain ⟨u0, u1⟩ := hun
  go_wp2_with fail
  refine HK2.out.mono ?_
  rintro e w8 ⟨ao8, an8, ak8, rfl, hpp, -⟩
  have hva8 : IRow w8 w5.heap.size (.slice vao ar.length vak) ar := pair_row H7.out hpp HVA7.out (by decide)
  have hbf8 : CRow w8 w6.heap.size (.slice bo C1.list.length bk) C1.list := pair_row H7.out hpp HBF.out (by decide)
  obtain ⟨hp, hb⟩ := pair_then hpp
  obtain ⟨w9, hw9⟩ : ∃ w9, w9 = w8.alloc (.cells #[.int .i64 av, .int .i64 au] 57) := ⟨_, rfl⟩
  have hb9 : Below w8.heap.size w8 w9 := by rw [hw9]; exact (Below.refl _ _).alloc (Nat.le_refl _) _
  obtain ⟨Bo, hBo⟩ : ∃ Bo, Bo = w8.heap.size := ⟨_, rfl⟩
  have ho9 : w9.heap[Bo]? = some (.cells #[.int .i64 av, .int .i64 au] 57 (0, 0)) := by rw [hw9, hBo]; exact heap_alloc_new w8 _
  have H9 := hide (hp.below hb9)
  have HP9 := hide ((HP7.out.trans hb).trans (hb9.mono hp.oks.2.2))
  have HO9 := hide ho9
  have HVA9 : Hid (IRow w9 w5.heap.size (.slice vao ar.length vak) ar) := ownsRow_below hva8 hb9
  have HBF9 := hide (CRow.below hbf8 hb9)
  have t9 := H9.out.cells.2
  have HK3 := hide (pair_callE H9.out.symm ⟨#[112]⟩ _ ar n (HPW.out w9 HP9.out).2 (ints_own HVA9.out) (HPW.out w9 HP9.out).1 hpL)
  have hnm : (⟨#[112]⟩ : ByteArray).data.toList = [112] := rfl
  rw [hnm, ← HRB.out] at HK3
  clear hnm hp hb hpp hva8 hbf8 hb9 ho9 HK2 H7 HP7 HVA7 HBF s7
  go_upto_region 12 with fail
  rw [← hw9, ← hBo]
  have HW9 := hide hw9
  have HBO := hide hBo
  clear hw9 hBo
  go_wp2_with fail
  refine HK3.out.mono ?_
  rintro e w10 ⟨ao10, an10, ak10, rfl, hpp, hes⟩
  have ho10 := pair_out H9.out.symm hpp HO9.out
  have hbf10 : CRow w10 w6.heap.size (.slice bo C1.list.length bk) C1.list := pair_row H9.out.symm hpp HBF9.out (by decide)
  obtain ⟨hp, hb⟩ := pair_then hpp
  obtain ⟨w11, hw11⟩ : ∃ w11, w11 = w10.alloc (.cells #[.int .i64 bv, .int .i64 bu] 57) := ⟨_, rfl⟩
  have hb11 : Below w10.heap.size w10 w11 := by rw [hw11]; exact (Below.refl _ _).alloc (Nat.le_refl _) _
  obtain ⟨Bp, hBp⟩ : ∃ Bp, Bp = w10.heap.size := ⟨_, rfl⟩
  have hop11 : w11.heap[Bp]? = some (.cells #[.int .i64 bv, .int .i64 bu] 57 (0, 0)) := by rw [hw11, hBp]; exact heap_alloc_new w10 _
  have H11 := hide (hp.symm.below hb11)
  have HP11 := hide ((HP9.out.trans hb).trans (hb11.mono hp.oks.2.2))
  have HO11 := hide ((hb11.block Bo (Array.getElem?_eq_some_iff.1 ho10).1).trans ho10)
  have HQ11 := hide hop11
  have HBF11 := hide (CRow.below hbf10 hb11)
  have HES := hide hes
  have s11 := H11.out.cells.1
  have t11 := H11.out.cells.2
  have HK4 := hide (pair_cells H11.out)
  clear hp hb hpp ho10 hbf10 hb11 hop11 hes HK3 H9 HP9 HO9 HVA9 HBF9 t9
  go_upto_region 13 with fail
  rw [← hw11, ← hBp]
  have HW11 := hide hw11
  have HBP := hide hBp
  clear hw11 hBp
  go_wp2_with fail
  refine HK4.out.mono ?_
  rintro e w12 ⟨vx, rfl, hrx, hb12⟩
  have H12 := hide (H11.out.below hb12)
  have HP12 := hide (HP11.out.trans (hb12.mono H11.out.oks.2.2))
  have HO12 := hide ((hb12.block Bo (Array.getElem?_eq_some_iff.1 HO11.out).1).trans HO11.out)
  have HQ12 := hide ((hb12.block Bp (Array.getElem?_eq_some_iff.1 HQ11.out).1).trans HQ11.out)
  have HBF12 := hide (CRow.below HBF11.out hb12)
  have HRX := hide hrx
  obtain ⟨xo, xk, rfl⟩ := crow_slice hrx
  have t12 := H12.out.cells.2
  have HK5 := hide (pair_cells H12.out.symm)
  clear hrx hb12 HK4 H11 HP11 HO11 HQ11 HBF11 s11 t11
  go_wp2_with fail
  refine HK5.out.mono ?_
  rintro e w13 ⟨vy, rfl, hry, hb13⟩
  have H13 := hide (H12.out.below hb13)
  have HP13 := hide (HP12.out.trans (hb13.mono H12.out.oks.2.2))
  have HO13 := hide ((hb13.block Bo (Array.getElem?_eq_some_iff.1 HO12.out).1).trans HO12.out)
  have HQ13 := hide ((hb13.block Bp (Array.getElem?_eq_some_iff.1 HQ12.out).1).trans HQ12.out)
  have HBF13 := hide (CRow.below HBF12.out hb13)
  have HRX13 := hide (CRow.below HRX.out hb13)
  have HRY := hide hry
  obtain ⟨yo, yk, rfl⟩ := crow_slice hry
  obtain ⟨o0, o1, -, -⟩ := out_of_row HO13.out
  obtain ⟨q0, q1, -, -⟩ := out_of_row HQ13.out
  have k1 : decide (au < 0) = false := decide_eq_false (by omega)
  have k2 : decide (10000 < au) = false := decide_eq_false (by omega)
  clear hry hb13 HK5 H12 HP12 HO12 HQ12 HBF12 HRX t12
  by_cases hgo : au ≤ n ∧ (ae ≠ 10 ∨ n = 10000)
  · have hsame : (CB, bv, bu, bes, be) = (CA, av, au, aes, ae) := by
      rcases hgo with ⟨g1, g2 | g2⟩
      · rcases HFU.out with ⟨h, -, -⟩ | ⟨-, h | h⟩
        · exact h
        · exact absurd h g2
        · omega
      · exact HEQ.out g2
    injection hsame with e1 e2
    injection e2 with e2 e3
    injection e3 with e3 e4
    injection e4 with e4 e5
    subst e1 e2 e3 e5
    have HSM := hide (ksameC _ _ _ _ _ w13 HRX13.out HRY.out H13.out.oks.1)
    have r1 : decide (bu ≤ n) = true := decide_eq_true hgo.1
    have r4 : (bv == bv) = true := by simp
    have r5 : (bu == bu) = true := by simp
    have r6 : (be == be) = true := by simp
    have hk : ((be != 10) = true) ∨ ((be != 10) = false ∧ (n == 10000) = true) := by
      by_cases h : be = 10
      · exact .inr ⟨by simp [h], by rcases hgo.2 with h' | h'; exact absurd h h'; simp [h']⟩
      · exact .inl (by simpa using h)
    clear hgo
    rcases hk with k3 | ⟨k3, k4⟩
    all_goals go_wp2_with fail
    all_goals refine HSM.out.mono ?_
    all_goals rintro e w14 ⟨rfl, hb14⟩
    all_goals obtain ⟨o0', o1', -, -⟩ := out_of_row ((hb14.block Bo (Array.getElem?_eq_some_iff.1 HO13.out).1).trans HO13.out)
    all_goals obtain ⟨q0', q1', -, -⟩ := out_of_row ((hb14.block Bp (Array.getElem?_eq_some_iff.1 HQ13.out).1).trans HQ13.out)
    all_goals have HFIN := hide (HP13.out.trans (hb14.mono H13.out.oks.2.2))
    all_goals clear hb14 HSM
    all_goals go_wp2_with fail
    all_goals go_ret
    all_goals exact ⟨rfl, HL.out ▸ HFIN.out⟩
  · have hless : (CB, bv, bu, bes, be) = (C1, 0, n, [], 10) := by
      rcases HFU.out with ⟨-, h1, h2⟩ | ⟨h, -⟩
      · exact absurd ⟨h2, .inl h1⟩ hgo
      · exact h
    injection hless with e1 e2
    injection e2 with e2 e3
    injection e3 with e3 e4
    injection e4 with e4 e5
    subst e1 e2 e3 e4 e5
    have hz0 : an10 = 0 := HES.out rfl
    subst hz0
    have HSM := hide (ksameC _ _ _ _ _ w13 HBF13.out HRY.out H13.out.oks.2.1)
    have r4 : (bu == bu) = true := by simp
    have hk : (decide (au ≤ bu) = false) ∨ (decide (au ≤ bu) = true ∧ (ae != 10) = false ∧ (bu == 10000) = false) := by
      by_cases h : au ≤ bu
      · refine .inr ⟨decide_eq_true h, ?_, ?_⟩
        · by_cases h2 : ae = 10
          · simp [h2]
          · exact absurd ⟨h, .inl h2⟩ hgo
        · by_cases h2 : bu = 10000
          · exact absurd ⟨h, .inr h2⟩ hgo
          · simpa using h2
      · exact .inl (decide_eq_false h)
    clear hgo
    rcases hk with k3 | ⟨k3, k4, k5⟩
    all_goals go_wp2_with fail
    all_goals refine HSM.out.mono ?_
    all_goals rintro e w14 ⟨rfl, hb14⟩
    all_goals obtain ⟨o0', o1', -, -⟩ := out_of_row ((hb14.block Bo (Array.getElem?_eq_some_iff.1 HO13.out).1).trans HO13.out)
    all_goals obtain ⟨q0', q1', -, -⟩ := out_of_row ((hb14.block Bp (Array.getElem?_eq_some_iff.1 HQ13.out).1).trans HQ13.out)
    all_goals have HFIN := hide (HP13.out.trans (hb14.mono H13.out.oks.2.2))
    all_goals clear hb14 HSM
    all_goals go_wp2_with fail
    all_goals go_ret
    all_goals exact ⟨rfl, HL.out ▸ HFIN.out⟩
end Go.Proofs.YtellilpeakpbfaaGreatDoor
