import Derived.Test.YtellilpeakpbfaaGreatDoorFueToo
import Derived.Test.YtellilpeakpbfaaGreatDoorShwSToo
import Derived.Test.YtellilpeakpbfaaGreatDoorCards
import Derived.Test.YtellilpeakpbfaaGreatDoorTie
import Derived.Test.YtellilpeakpbfaaGreatDoorSiteHToo
import Derived.ProofKit
import Derived.OpenShut
import Derived.Deep.DeepHandedRow
import Derived.Lib.LaidTab
import Derived.SizedLaws
section
/-
  Spelt.
-/
set_option linter.unusedVariables false
namespace Go.Proofs.YtellilpeakpbfaaGreatDoor
open Go.RowKit

theorem pair_procs {L : Nat} {w : World} {s S B D t S2 B2 D2 : Nat} {C C2 : Jn.Con} (h : Pair L w s S B D C t S2 B2 D2 C2) :
    Calls Tryz.prog 19 #[.pointer (some ⟨S, 0, none⟩)] w fun e w' => ∃ v, e = .returned v ∧ PRow w' w.heap.size v C.procs ∧ Below w.heap.size w w' := by
  obtain ⟨⟨f, d, h1⟩, -⟩ := h
  exact procsS_any L S B C f w h1.st
theorem prow_one {w : World} {b : Nat} {v : Value} {n s : List UInt8} (h : PRow w b v [(n, s)]) : ∃ g cap, v = .slice (some ⟨g, 0, none⟩) 1 cap ∧ w.cell? ⟨g, 0, none⟩ = some (T n) ∧ w.cell? ⟨g, 1, none⟩ = some (T s) := by
  obtain ⟨ao, cap, rfl, hc⟩ := h.shape
  obtain ⟨g, cur, rfl, -, -, hcs⟩ := hc (by simp)
  have := hcs 0 (n, s) rfl
  exact ⟨g, cap, rfl, this.1, this.2⟩

set_option maxHeartbeats 16000000 in
set_option maxRecDepth 100000 in
theorem spelt_any (w : World) (v u a : Value) (ps : List (Int × Int × Int)) (raw args : List Int) (st : Int) (hv : StepsOf w v ps) (hu : IntsAt w u raw) (hul : InLow u raw w.heap.size) (hun : raw.length ≤ 18000000000000) (hub : ∀ x ∈ raw, -9223372036854775808 ≤ x ∧ x ≤ 9223372036854775807)
    (ha : IntsAt w a args) (hal : InLow a args w.heap.size) (han : args.length ≤ 18000000000000) (hab : ∀ x ∈ args, -9223372036854775808 ≤ x ∧ x ≤ 9223372036854775807) (f0 : -9223372036854775808 ≤ st) (f1 : st ≤ 9223372036854775807) (hP : PowAt w) (hWd : WordsAt w) :
    Calls Tryz.prog 7 #[v, u, .int .i64 st, a] w fun e w' => e = .returned (.bool true) ∧ Below w.heap.size w w' := by
  have HLV := hide (live_any w v ps hv hP hWd)
  have HLW := hide (fun y (hy : Below w.heap.size w y) => live_any y v ps (hv.below hy) (hP.below hP.1 hy) (hWd.below hWd.1 hy))
  have HGR := hide (fun y (hy : Below w.heap.size w y) => grown_any y u raw (hu.below hy) (fun h g hg => Nat.lt_of_lt_of_le (hul h g hg) hy.size) hun hub)
  have HAR := hide (fun y (hy : Below w.heap.size w y) => arguments_any y a args (ha.below hy) han hab)
  have hlen : ps.length ≤ 6000000000000 := by obtain ⟨_, _, _, _, _, h⟩ := hv; exact h
  obtain ⟨vo, vcap, hvs, -⟩ := hv
  obtain ⟨uo, ucap, hus, -⟩ := hu
  obtain ⟨aro, arcap, has, -⟩ := ha
  have hpL : 1 < w.heap.size := hP.1
  obtain ⟨L, hL⟩ : ∃ L, L = w.heap.size := ⟨_, rfl⟩
  have HPW : Hid (∀ y, Below L w y → PowAt y ∧ WordsAt y) := by rw [hL]; exact fun y hy => ⟨hP.below hP.1 hy, hWd.below hWd.1 hy⟩
  rw [← hL] at HLV HLW HGR HAR hpL
  have HL := hide hL
  obtain ⟨ar, har⟩ : ∃ ar, ar = (args.take 4).map Kp.value := ⟨_, rfl⟩
  have HAB := hide (args_bd args)
  rw [← har] at HAR HAB
  clear hP hWd hul hub hal hab hun han har
  subst hvs
  subst hus
  subst has
  go_enter Tryz.func7, Tryz.ntmps7
  go_wp2_with fail
  refine HLV.out.mono ?_
  rintro e w1 ⟨s, S, B, D, f, d, rfl, hs, hd1, -, hb1⟩
  have HB1 := hide hb1
  have HS1 := hide hs
  have HD1 := hide hd1
  have HL2 := hide (HLW.out w1 hb1)
  clear hs hb1 hd1 HLV HLW
  go_wp2_with fail
  refine HL2.out.mono ?_
  rintro e w2 ⟨t, S0, B0, D2, f0', d0, rfl, ht, hd, -, hb2⟩
  obtain ⟨C, hC⟩ : ∃ C, C = ps.foldl Kp.play Jn.none0 := ⟨_, rfl⟩
  rw [← hC] at ht hd HS1 HD1
  have hz := HB1.out.size
  have hLw1 : L ≤ w1.heap.size := by rw [hL]; exact hz
  have hap : Apt s S B D t S0 B0 D2 := by
    obtain ⟨l1, l2, l3, l4⟩ := HS1.out.lts
    have h1 := ht.low
    have h2 := ht.st.low
    have h3 := ht.st.con.low
    exact ⟨by omega, by omega, by omega, by omega⟩
  have ht2 := ht.down hLw1
  have HP2 := hide (HB1.out.trans (hb2.mono hLw1))
  have HS2 := hide (HS1.out.below hb2)
  have HT2 := hide ht2
  have HD2 := hide hd
  have HA2 := hide hap
  have HG2 := hide (HGR.out w2 HP2.out)
  clear ht hd hb2 ht2 hap HL2 HS1 HB1 hC hL HGR hz
  go_wp2_with fail
  refine HG2.out.mono ?_
  rintro e w3 ⟨vt, ts, rfl, hrow, hsrc, hb3⟩
  obtain ⟨Z, hZ⟩ : ∃ Z : ByteArray, Z = ⟨(Kp.join ts).toArray⟩ := ⟨_, rfl⟩
  have hZl : Z.data.toList = Kp.join ts := by rw [hZ]
  have HJO : Hid (Calls Tryz.prog 21 #[vt] w3 fun e w' => e = .returned (.string Z) ∧ w' = w3) := by rw [hZ]; exact joined_any w3 _ vt ts hrow hsrc
  have HLO := hide (loose_any w3 _ vt ts st f0 f1 hrow hsrc)
  have hrd : Ck.read Z.data.toList = (0, 0) := by rw [hZl]; exact hsrc.joined.2.1
  have hLw2 : L ≤ w2.heap.size := HT2.out.lowL
  have HS3 := hide (HS2.out.below hb3)
  have HT3 := hide (HT2.out.below hb3)
  have HP3 := hide (HP2.out.trans (hb3.mono hLw2))
  obtain ⟨vto, vtk, rfl, -⟩ := hrow.shape
  have HRD := hide hrd
  have HSC := hide hsrc
  have HZL := hide hZl
  clear hrow hsrc hb3 hZ hZl hrd HG2 HS2 HT2 HP2
  go_wp2_with fail
  refine HJO.out.mono ?_
  rintro e wx ⟨rfl, hq⟩
  obtain rfl : w3 = wx := hq.symm
  clear hq HJO
  go_wp2_with fail
  refine HLO.out.mono ?_
  rintro e wx ⟨gp, z, hgap, hgl, rfl, hq⟩
  obtain rfl : w3 = wx := hq.symm
  obtain ⟨Y, hY⟩ : ∃ Y : ByteArray, Y = ⟨(Kp.loose gp (ts.map (Kp.zd z))).toArray⟩ := ⟨_, rfl⟩
  have hYl : Y.data.toList = Kp.loose gp (ts.map (Kp.zd z)) := by rw [hY]
  have hTY : T (Kp.loose gp (ts.map (Kp.zd z))) = .string Y := by rw [hY]; rfl
  rw [hTY]
  obtain ⟨-, y2, y3, y4⟩ := HSC.out.loosed gp hgap hgl z
  obtain ⟨-, z2, z3, z4⟩ := HSC.out.joined
  have hLw3 : L ≤ w3.heap.size := HT3.out.lowL
  have hTZ : T (Kp.join ts) = .string Z := (T_of HZL.out).symm
  have HCK : Hid (Calls Tryz.prog 23 #[.string Y] w3 fun e w' => e = .returned (.tuple #[.int .i64 0, .int .i64 0]) ∧ Below w3.heap.size w3 w') := by
    have h := check_any Y w3 (HPW.out w3 HP3.out).2
    rw [hYl, y2] at h
    exact h
  have HS1' : Hid (∀ y, Below L w y → Calls Tryz.prog 24 #[.string Y] y fun e w' => e = .returned (.tuple #[.string Z, .int .i64 0]) ∧ Below y.heap.size y w') := fun y hy => by
    have h := show_any Y y (HPW.out y hy).2 (HPW.out y hy).1
    rw [hYl, y3] at h
    simp only [hTZ] at h
    exact h
  have HS2' : Hid (∀ y, Below L w y → Calls Tryz.prog 24 #[.string Z] y fun e w' => e = .returned (.tuple #[.string Z, .int .i64 0]) ∧ Below y.heap.size y w') := fun y hy => by
    have h := show_any Z y (HPW.out y hy).2 (HPW.out y hy).1
    rw [HZL.out, z3] at h
    simp only [hTZ] at h
    exact h
  have hrdY : Ck.read Y.data.toList = (0, 0) := by rw [hYl]; exact y2
  have HRY := hide hrdY
  have HYL := hide hYl
  have HGP := hide (And.intro hgap hgl)
  clear hq HLO hY hYl hTY y2 y3 y4 z2 z3 z4 hTZ hgap hgl hrdY
  go_wp2_with fail
  refine HCK.out.mono ?_
  rintro e w4 ⟨rfl, hb4⟩
  have HP4 := hide (HP3.out.trans (hb4.mono hLw3))
  have HS4 := hide (HS3.out.below hb4)
  have HT4 := hide (HT3.out.below hb4)
  have HSH := hide (HS1'.out w4 HP4.out)
  clear hb4 HCK HS3 HT3 HP3 HS1'
  go_wp2_with fail
  refine HSH.out.mono ?_
  rintro e w5 ⟨rfl, hb5⟩
  have HP5 := hide (HP4.out.trans (hb5.mono HT4.out.lowL))
  have HS5 := hide (HS4.out.below hb5)
  have HT5 := hide (HT4.out.below hb5)
  have HSH := hide (HS2'.out w5 HP5.out)
  clear hb5 HS4 HT4 HP4 HS2'
  go_wp2_with fail
  refine HSH.out.mono ?_
  rintro e w6 ⟨rfl, hb6⟩
  have HP6 := hide (HP5.out.trans (hb6.mono HT5.out.lowL))
  have HS6 := hide (HS5.out.below hb6)
  have HT6 := hide (HT5.out.below hb6)
  have HKE := hide (kkeeps_any L s S B D _ C f d w6 ⟨#[112]⟩ Z (by decide) (by rw [HRD.out]) HS6.out HD1.out (by omega) (HPW.out w6 HP6.out).1 (HPW.out w6 HP6.out).2 hpL)
  clear hb6 HS5 HT5 HP5 HSH
  go_wp2_with fail
  refine HKE.out.mono ?_
  rintro e w7 ⟨rfl, S1, B1, f1', d1, hs7, hd7, hx7, hS7, hB7⟩
  have HT7 := hide (HS6.out.other HT6.out HA2.out hx7)
  have HA7 := hide (HA2.out.step HT6.out hS7 hB7)
  have HP7 := hide (HP6.out.trans hx7.below)
  have HS7 := hide hs7
  have HKE2 := hide (kkeeps_any L t S0 B0 D2 _ C f0' d0 w7 ⟨#[112]⟩ Y (by decide) (by rw [HRY.out]) HT7.out HD2.out (by omega) (HPW.out w7 HP7.out).1 (HPW.out w7 HP7.out).2 hpL)
  clear hs7 hd7 hx7 hS7 hB7 HKE HS6 HT6 HA2 HP6 HD1
  go_wp2_with fail
  refine HKE2.out.mono ?_
  rintro e w8 ⟨rfl, S2, B2, f2', d2, ht8, hd8, hx8, hS8, hB8⟩
  obtain ⟨C1, hC1⟩ : ∃ C1 : Jn.Con, C1 = ⟨C.cells, [([112], Z.data.toList)]⟩ := ⟨_, rfl⟩
  obtain ⟨C2, hC2⟩ : ∃ C2 : Jn.Con, C2 = ⟨C.cells, [([112], Y.data.toList)]⟩ := ⟨_, rfl⟩
  have hp8 : Pair L w8 s S1 B1 D C1 t S2 B2 D2 C2 := by
    rw [hC1, hC2]
    exact ⟨⟨f1', d1, HT7.out.other HS7.out HA7.out.symm hx8⟩, ⟨f2', d2, ht8⟩, (HA7.out.symm.step HS7.out hS8 hB8).symm⟩
  have H8 := hide hp8
  have HP8 := hide (HP7.out.trans hx8.below)
  have mF := Kp.may_of ar 500 HAB.out.1 (by decide) (by decide) HAB.out.2
  have hsm := HSC.out.calls gp HGP.out.1 HGP.out.2 z C.cells (by have h := hp8.oks.1; rw [hC1, HZL.out] at h; exact h) (by have h := hp8.oks.2.1; rw [hC2, HYL.out] at h; exact h) ar 500 mF
  rw [← HZL.out, ← HYL.out, ← hC1, ← hC2] at hsm
  have hpro : C2.procs = [([112], Y.data.toList)] := by rw [hC2]
  have HPO := hide hpro
  obtain ⟨ra, hra⟩ : ∃ ra, ra = Rn.call C1 [112] ar 500 := ⟨_, rfl⟩
  obtain ⟨rb, hrb⟩ : ∃ rb, rb = Rn.call C2 [112] ar 500 := ⟨_, rfl⟩
  rw [← hra, ← hrb] at hsm
  have HSM0 := hide hsm
  have HRA := hide hra
  have HRB := hide hrb
  have t8 := hp8.cells.2
  have HK := hide (pair_procs hp8.symm)
  clear ht8 hd8 hx8 hS8 hB8 hp8 HKE2 HT7 HS7 HA7 HP7 HD2 hC1 hC2 mF hsm hra hrb HRD HRY hpro
  go_wp2_with fail
  refine HK.out.mono ?_
  rintro e w9 ⟨vk, rfl, hrk, hb9⟩
  have H9 := hide (H8.out.below hb9)
  have HP9 := hide (HP8.out.trans (hb9.mono H8.out.oks.2.2))
  have HA9 := hide (HAR.out w9 HP9.out)
  have hrk' : PRow w9 w8.heap.size vk [([112], Y.data.toList)] := by rw [HPO.out] at hrk; exact hrk
  obtain ⟨gk, ck, rfl, -, -⟩ := prow_one hrk'
  have HRK := hide hrk'
  clear hrk hrk' hb9 HK H8 HP8 HAR t8
  go_wp2_with fail
  refine HA9.out.mono ?_
  rintro e w10 ⟨va, rfl, hva, hb10⟩
  have H10 := hide (H9.out.below hb10)
  have HP10 := hide (HP9.out.trans (hb10.mono H9.out.oks.2.2))
  have HVA := hide hva
  have HRK10 : Hid (PRow w10 w8.heap.size (.slice (some ⟨gk, 0, none⟩) 1 ck) [([112], Y.data.toList)]) := ownsRow_below HRK.out hb10
  obtain ⟨vao, vak, rfl, -, -⟩ := own_slice hva
  have s10 := H10.out.cells.1
  have HK2 := hide (pair_callE H10.out ⟨#[112]⟩ _ ar 500 (HPW.out w10 HP10.out).2 (ints_own HVA.out) (HPW.out w10 HP10.out).1 hpL)
  have hnm : (⟨#[112]⟩ : ByteArray).data.toList = [112] := rfl
  rw [hnm, ← HRA.out] at HK2
  clear hva hb10 hnm HA9 H9 HP9 HRK
  obtain ⟨CA, av, au, aes, ae⟩ := ra
  obtain ⟨CB, bv, bu, bes, be⟩ := rb
  simp only at HK2 HSM0
  go_wp2_with fail
  refine HK2.out.mono ?_
  rintro e w11 ⟨ao11, an11, ak11, rfl, hpp, -⟩
  have hva11 : IRow w11 w9.heap.size (.slice vao ar.length vak) ar := pair_row H10.out hpp HVA.out (by decide)
  have hrk11 : PRow w11 w8.heap.size (.slice (some ⟨gk, 0, none⟩) 1 ck) [([112], Y.data.toList)] := pair_row H10.out hpp HRK10.out (by decide)
  obtain ⟨hp, hb⟩ := pair_then hpp
  obtain ⟨w12, hw12⟩ : ∃ w12, w12 = w11.alloc (.cells #[.int .i64 av, .int .i64 au] 57) := ⟨_, rfl⟩
  have hb12 : Below w11.heap.size w11 w12 := by rw [hw12]; exact (Below.refl _ _).alloc (Nat.le_refl _) _
  obtain ⟨Bo, hBo⟩ : ∃ Bo, Bo = w11.heap.size := ⟨_, rfl⟩
  have ho12 : w12.heap[Bo]? = some (.cells #[.int .i64 av, .int .i64 au] 57 (0, 0)) := by rw [hw12, hBo]; exact heap_alloc_new w11 _
  have H12 := hide (hp.below hb12)
  have HP12 := hide ((HP10.out.trans hb).trans (hb12.mono hp.oks.2.2))
  have HO12 := hide ho12
  have HVA12 : Hid (IRow w12 w9.heap.size (.slice vao ar.length vak) ar) := ownsRow_below hva11 hb12
  have HRK12 : Hid (PRow w12 w8.heap.size (.slice (some ⟨gk, 0, none⟩) 1 ck) [([112], Y.data.toList)]) := ownsRow_below hrk11 hb12
  have t12 := H12.out.cells.2
  have HK3 := hide (pair_callE H12.out.symm ⟨#[112]⟩ _ ar 500 (HPW.out w12 HP12.out).2 (ints_own HVA12.out) (HPW.out w12 HP12.out).1 hpL)
  have hnm : (⟨#[112]⟩ : ByteArray).data.toList = [112] := rfl
  rw [hnm, ← HRB.out] at HK3
  clear hnm hp hb hpp hva11 hrk11 hb12 ho12 HK2 H10 HP10 HVA HRK10 s10
  go_upto_region 18 with fail
  rw [← hw12, ← hBo]
  have HW12 := hide hw12
  have HBO := hide hBo
  clear hw12 hBo
  go_wp2_with fail
  refine HK3.out.mono ?_
  rintro e w13 ⟨ao13, an13, ak13, rfl, hpp, -⟩
  have ho13 := pair_out H12.out.symm hpp HO12.out
  have hrk13 : PRow w13 w8.heap.size (.slice (some ⟨gk, 0, none⟩) 1 ck) [([112], Y.data.toList)] := pair_row H12.out.symm hpp HRK12.out (by decide)
  obtain ⟨hp, hb⟩ := pair_then hpp
  obtain ⟨w14, hw14⟩ : ∃ w14, w14 = w13.alloc (.cells #[.int .i64 bv, .int .i64 bu] 57) := ⟨_, rfl⟩
  have hb14 : Below w13.heap.size w13 w14 := by rw [hw14]; exact (Below.refl _ _).alloc (Nat.le_refl _) _
  obtain ⟨Bp, hBp⟩ : ∃ Bp, Bp = w13.heap.size := ⟨_, rfl⟩
  have hop14 : w14.heap[Bp]? = some (.cells #[.int .i64 bv, .int .i64 bu] 57 (0, 0)) := by rw [hw14, hBp]; exact heap_alloc_new w13 _
  have H14 := hide (hp.symm.below hb14)
  have HP14 := hide ((HP12.out.trans hb).trans (hb14.mono hp.oks.2.2))
  have HO14 := hide ((hb14.block Bo (Array.getElem?_eq_some_iff.1 ho13).1).trans ho13)
  have HQ14 := hide hop14
  have HRK14 : Hid (PRow w14 w8.heap.size (.slice (some ⟨gk, 0, none⟩) 1 ck) [([112], Y.data.toList)]) := ownsRow_below hrk13 hb14
  have s14 := H14.out.cells.1
  have HK4 := hide (pair_cells H14.out)
  clear hp hb hpp ho13 hrk13 hb14 hop14 HK3 H12 HP12 HO12 HVA12 HRK12 t12
  go_upto_region 19 with fail
  rw [← hw14, ← hBp]
  have HW14 := hide hw14
  have HBP := hide hBp
  clear hw14 hBp
  go_wp2_with fail
  refine HK4.out.mono ?_
  rintro e w15 ⟨vx, rfl, hrx, hb15⟩
  have H15 := hide (H14.out.below hb15)
  have HP15 := hide (HP14.out.trans (hb15.mono H14.out.oks.2.2))
  have HO15 := hide ((hb15.block Bo (Array.getElem?_eq_some_iff.1 HO14.out).1).trans HO14.out)
  have HQ15 := hide ((hb15.block Bp (Array.getElem?_eq_some_iff.1 HQ14.out).1).trans HQ14.out)
  have HRK15 : Hid (PRow w15 w8.heap.size (.slice (some ⟨gk, 0, none⟩) 1 ck) [([112], Y.data.toList)]) := ownsRow_below HRK14.out hb15
  have HRX := hide hrx
  obtain ⟨xo, xk, rfl⟩ := crow_slice hrx
  have t15 := H15.out.cells.2
  have HK5 := hide (pair_cells H15.out.symm)
  clear hrx hb15 HK4 H14 HP14 HO14 HQ14 HRK14 s14
  go_wp2_with fail
  refine HK5.out.mono ?_
  rintro e w16 ⟨vy, rfl, hry, hb16⟩
  have H16 := hide (H15.out.below hb16)
  have HP16 := hide (HP15.out.trans (hb16.mono H15.out.oks.2.2))
  have HO16 := hide ((hb16.block Bo (Array.getElem?_eq_some_iff.1 HO15.out).1).trans HO15.out)
  have HQ16 := hide ((hb16.block Bp (Array.getElem?_eq_some_iff.1 HQ15.out).1).trans HQ15.out)
  have HRK16 : Hid (PRow w16 w8.heap.size (.slice (some ⟨gk, 0, none⟩) 1 ck) [([112], Y.data.toList)]) := ownsRow_below HRK15.out hb16
  have hry' : CRow w16 w15.heap.size vy CA.list := by rw [same_con HSM0.out.1]; exact hry
  have HSM := hide (ksameC _ _ _ _ _ w16 (CRow.below HRX.out hb16) hry' H16.out.oks.1)
  obtain ⟨yo, yk, hye⟩ := crow_slice hry
  subst hye
  obtain ⟨-, e2, e3, e4⟩ := HSM0.out
  subst e2 e3 e4
  have r4 : (av == av) = true := by simp
  have r5 : (au == au) = true := by simp
  have r6 : (ae == ae) = true := by simp
  clear hry hry' hb16 HK5 H15 HP15 HO15 HQ15 HRK15 HRX t15
  go_wp2_with fail
  refine HSM.out.mono ?_
  rintro e w17 ⟨rfl, hb17⟩
  obtain ⟨o0, o1, -, -⟩ := out_of_row ((hb17.block Bo (Array.getElem?_eq_some_iff.1 HO16.out).1).trans HO16.out)
  obtain ⟨q0, q1, -, -⟩ := out_of_row ((hb17.block Bp (Array.getElem?_eq_some_iff.1 HQ16.out).1).trans HQ16.out)
  have hrk17 : PRow w17 w8.heap.size (.slice (some ⟨gk, 0, none⟩) 1 ck) [([112], Y.data.toList)] := ownsRow_below HRK16.out hb17
  obtain ⟨g', ck', hge, p0, p1⟩ := prow_one hrk17
  injection hge with g1 g2 g3
  injection g1 with g1
  injection g1 with g1
  subst g1
  have hT1 : T [112] = .string ⟨#[112]⟩ := rfl
  have hT2 : T Y.data.toList = .string Y := (T_of rfl).symm
  rw [hT1] at p0
  rw [hT2] at p1
  have HFIN := hide (HP16.out.trans (hb17.mono H16.out.oks.2.2))
  clear hb17 HSM hrk17 hT1 hT2 g3
  go_wp2_with fail
  go_ret
  exact ⟨rfl, HL.out ▸ HFIN.out⟩
end Go.Proofs.YtellilpeakpbfaaGreatDoor

end

section
/-
  The row of the law Spelt, and its tied card.
-/
namespace Go.Proofs.YtellilpeakpbfaaGreatDoor.Spd
open Go.ChangeShapes Go.WideShapes Go.ChangeAt Go.RowKit
open Go.ChangeMaps (open_string shut_string)
open Ckd (words_of pow_of layVar own)

theorem laidOut : laidOutB Tryz.prog = true := by kernel_rfl

set_option maxRecDepth 100000 in
theorem contract (H : Type) (enc : TypeId × Value → H) (W : World) (base : Nat) (args : Array Value) (ds gs : List (DataW H)) (before : List MemPlace)
    (hval : ∀ (j : Nat) t v, Tryz.f7.params[j]? = some t → args[j]? = some v → Value.okWide Tryz.prog W .any base t v)
    (hW : DataW.Whole enc Tryz.prog Tryz.f7.params.toList Rows.speltSpec.vars false W args.toList ds gs before) (hz : (DataW.weightsEach Tryz.prog (Tryz.f7.params.toList ++ (OpenSpec.ofChange Rows.speltSpec).bare.plain.varTypes Tryz.prog) (ds ++ gs)).all (· ≤ reachBytes) = true) (hL : laidMetH Tryz.prog Rows.speltRow.laid W) :
    Calls Tryz.prog 7 args W fun e W' => ∃ v, e = .returned v ∧ Rows.speltSpec.post enc Tryz.prog Tryz.f7 false true false false W args v W' := by
  have hW' := hW
  obtain ⟨p, q, hA0, hV, rfl, hfz, hnd⟩ := hW
  have hA : DataW.TrodAll enc Tryz.prog W 0 (fun _ => true) true Tryz.f7.params.toList args.toList ds p := hA0
  rw [Tryz.params7] at hA hval hz
  obtain ⟨v0, vs0, d0, ds0, m0, q0, hargs0, rfl, rfl, t0, r0⟩ := trodAll_cons hA
  obtain ⟨v1, vs1, d1, ds1, m1, q1, hargs1, rfl, rfl, t1, r1⟩ := trodAll_cons r0
  obtain ⟨v2, vs2, d2, ds2, m2, q2, hargs2, rfl, rfl, t2, r2⟩ := trodAll_cons r1
  obtain ⟨v3, vs3, d3, ds3, m3, q3, hargs3, rfl, rfl, t3, r3⟩ := trodAll_cons r2
  obtain ⟨rfl, rfl, rfl⟩ := trodAll_nil r3
  obtain rfl : args = #[v0, v1, v2, v3] := Array.toList_inj.1 (by first | (rw [hargs0, hargs1, hargs2, hargs3]) | (rw [hargs0]))
  obtain ⟨rfl, rfl⟩ := trodVars_none hV
  obtain ⟨fuel0, t0'⟩ := t0
  obtain ⟨a0, len0, cap0, rfl⟩ := okWide_slice Tryz.underlying26 (hval 0 26 v0 rfl rfl)
  have w0 : ∀ n ∈ d0.weights Tryz.prog 26, n ≤ reachBytes := fun n hn => of_decide_eq_true (List.all_eq_true.1 hz n (DataW.weights_mem_each (j := 0) (t := 26) (d := d0) rfl rfl n hn))
  obtain ⟨p0, h00⟩ := Scd.steps_of t0'
  have h0 := h00 w0
  obtain ⟨fuel1, t1'⟩ := t1
  obtain ⟨a1, len1, cap1, rfl⟩ := okWide_slice Tryz.underlying24 (hval 1 24 v1 rfl rfl)
  have w1 : ∀ n ∈ d1.weights Tryz.prog 24, n ≤ reachBytes := fun n hn => of_decide_eq_true (List.all_eq_true.1 hz n (DataW.weights_mem_each (j := 1) (t := 24) (d := d1) rfl rfl n hn))
  obtain ⟨p1, h10⟩ := Scd.ints_of t1'
  have h1 := h10 w1
  obtain ⟨fuel2, t2'⟩ := t2
  obtain ⟨p2, rfl⟩ := okWide_int Tryz.underlying3 (hval 2 3 v2 rfl rfl)
  have h2 : Scd.B64 p2 := by obtain ⟨k, e, h⟩ := Scd.num_of t2'; cases e; exact h
  obtain ⟨fuel3, t3'⟩ := t3
  obtain ⟨a3, len3, cap3, rfl⟩ := okWide_slice Tryz.underlying24 (hval 3 24 v3 rfl rfl)
  have w3 : ∀ n ∈ d3.weights Tryz.prog 24, n ≤ reachBytes := fun n hn => of_decide_eq_true (List.all_eq_true.1 hz n (DataW.weights_mem_each (j := 3) (t := 24) (d := d3) rfl rfl n hn))
  obtain ⟨p3, h30⟩ := Scd.ints_of t3'
  have h3 := h30 w3
  clear hA0
  simp only [List.append_nil] at hW'
  have l0 : ∀ x ∈ m0, x.block < W.heap.size := fun x hx => by simpa using hW'.lt x (by simp [hx])
  have l1 : ∀ x ∈ m1, x.block < W.heap.size := fun x hx => by simpa using hW'.lt x (by simp [hx])
  have l2 : ∀ x ∈ m2, x.block < W.heap.size := fun x hx => by simpa using hW'.lt x (by simp [hx])
  have l3 : ∀ x ∈ m3, x.block < W.heap.size := fun x hx => by simpa using hW'.lt x (by simp [hx])
  obtain ⟨ps, hl, _⟩ := hL
  obtain ⟨_, _, _, _, _, _, _, _, _, _, hl, _⟩ := hl
  obtain ⟨_, _, _, _, _, _, _, _, _, _, hl, _⟩ := hl
  have hP := pow_of hl
  obtain ⟨_, _, _, _, _, _, _, _, _, _, hl, _⟩ := hl
  have hWd := words_of hl
  refine (spelt_any W _ _ _ p0 p1 p3 p2 h0 h1.1 h1.2.1 h1.2.2.1 h1.2.2.2 h3.1 h3.2.1 h3.2.2.1 h3.2.2.2 h2.1 h2.2 hP hWd).mono fun e W' ⟨he, hb⟩ => ?_
  subst he
  refine ⟨_, rfl, _, _, _, [], m0 ++ (m1 ++ (m2 ++ (m3 ++ []))), [], hW', ?_, ?_, rfl, hb.frame _, fun h => by cases h⟩
  · exact trodAll_cons_mk (shut_bool Tryz.underlying4 _) trodAll_mk0
  · exact trodAll_cons_mk (Below.trod laidOut (by kernel_rfl) (of_decide_eq_true (by kernel_rfl)) ⟨fuel0, t0'⟩ hb l0) (trodAll_cons_mk (Below.trod laidOut (by kernel_rfl) (of_decide_eq_true (by kernel_rfl)) ⟨fuel1, t1'⟩ hb l1) (trodAll_cons_mk (Below.trod laidOut (by kernel_rfl) (of_decide_eq_true (by kernel_rfl)) ⟨fuel2, t2'⟩ hb l2) (trodAll_cons_mk (Below.trod laidOut (by kernel_rfl) (of_decide_eq_true (by kernel_rfl)) ⟨fuel3, t3'⟩ hb l3) trodAll_mk0)))

theorem laid_met (os : Os) : laidMet Tryz.prog Rows.speltRow.laid (({ World.holding Tryz.prog os ⟨#[], #[], []⟩ with heap := (World.holding Tryz.prog os ⟨#[], #[], []⟩).heap.modify 0 (layVar Rows.laid_cellar_source_words) |>.modify 1 (layVar Rows.laid_internal_strconv_uint64pow10) |>.modify 2 (layVar Rows.laid_math_bits_deBruijn32tab) |>.modify 3 (layVar Rows.laid_math_bits_deBruijn64tab) }).forCall (fun _ _ => 0) ⟨#[], #[.slice none 0 0, .slice none 0 0, .int .i64 0, .slice none 0 0], []⟩).memory :=
  laidMet_of_run' 8 (by kernel_rfl) (by kernel_rfl)
theorem reads (os : Os) {H : Type} (enc : TypeId × Value → H) : ∃ places, DataW.whole enc Tryz.prog (({ World.holding Tryz.prog os ⟨#[], #[], []⟩ with heap := (World.holding Tryz.prog os ⟨#[], #[], []⟩).heap.modify 0 (layVar Rows.laid_cellar_source_words) |>.modify 1 (layVar Rows.laid_internal_strconv_uint64pow10) |>.modify 2 (layVar Rows.laid_math_bits_deBruijn32tab) |>.modify 3 (layVar Rows.laid_math_bits_deBruijn64tab) }).forCall (fun _ _ => 0) ⟨#[], #[.slice none 0 0, .slice none 0 0, .int .i64 0, .slice none 0 0], []⟩).memory Tryz.f7.params.toList Rows.speltSpec.vars false #[Value.slice none 0 0, Value.slice none 0 0, Value.int .i64 0, Value.slice none 0 0].toList 8 = some ([.nil, .nil, .lit (.int .i64 0), .nil], [], places) :=
  ⟨[], by kernel_rfl⟩

set_option maxRecDepth 100000 in
theorem lifted (os : Os) (started : os.Started) (H : Type) (enc : TypeId × Value → H) (F : Stop.Interp) :
    ReturnsInHanded {} Tryz.checked os 7 .any ((OpenSpec.ofChange Rows.speltSpec).preRow enc Tryz.prog Tryz.f7 Rows.speltRow.domain false Rows.speltRow.laid) (((OpenSpec.ofChange Rows.speltSpec).at F).post enc Tryz.prog Tryz.f7 false true false false) := by
  obtain ⟨places, hx⟩ := reads os enc
  refine returnsInHanded_of_row (C := Tryz.checked) (s := OpenSpec.ofChange Rows.speltSpec) own started (by kernel_rfl) Tryz.func7
    (witness_row_at (enc := enc) (C := Tryz.checked) false ({ World.holding Tryz.prog os ⟨#[], #[], []⟩ with heap := (World.holding Tryz.prog os ⟨#[], #[], []⟩).heap.modify 0 (layVar Rows.laid_cellar_source_words) |>.modify 1 (layVar Rows.laid_internal_strconv_uint64pow10) |>.modify 2 (layVar Rows.laid_math_bits_deBruijn32tab) |>.modify 3 (layVar Rows.laid_math_bits_deBruijn64tab) }) #[.slice none 0 0, .slice none 0 0, .int .i64 0, .slice none 0 0] rfl (by kernel_rfl) (by kernel_rfl) (by kernel_rfl)
      (OpenSpec.preRow_of_cond 8 hx (by kernel_rfl) (fun k hk => by cases hk) (by kernel_rfl) (laid_met os))) ?_
  intro W base args ds gs before hval hW _ _ hz hL _ _
  exact contract H enc W base args ds gs before hval hW hz hL

theorem said : Rows.SpeltSaid :=
  OpenClaim.holds_of_cond 7 Tryz.f7 rfl rfl rfl rfl rfl rfl rfl ⟨rfl, rfl, rfl, rfl, rfl⟩ rfl rfl rfl rfl rfl (by kernel_rfl) Tryz.func7 (by kernel_rfl)
    (of_decide_eq_true (by kernel_rfl)) (by unfold Func.isWrapper; first | (rw [if_pos (by decide +kernel)]; kernel_rfl) | (rw [if_neg (by decide +kernel)]; exact ⟨rfl, rfl⟩))
    (fun os started H enc _ F => by rw [OpenClaim.pre_eq_preRow]; exact lifted os started H enc F)

theorem plain (f : FuncId) (fn : Func) (hf : Tryz.pinned.checked.prog.funcNamed Rows.speltRow.func = some f) (hfn : Tryz.pinned.checked.prog.funcs[f]? = some fn) :
    false = Tryz.pinned.checked.prog.looks [] ∧ ∀ (j : Nat) t, fn.params[j]? = some t → Tryz.pinned.checked.prog.wantsStandIn t = false := by
  obtain rfl : f = 7 := Option.some.inj ((show Tryz.prog.funcNamed Rows.speltRow.func = some 7 by kernel_rfl).symm.trans hf) |>.symm
  obtain rfl : fn = Tryz.f7 := (Option.some.inj (Tryz.func7.symm.trans hfn)).symm
  refine ⟨by kernel_rfl, fun j t ht => ?_⟩
  rw [Tryz.params7] at ht
  have h9 : t = 26 ∨ t = 24 ∨ t = 3 := by
    have := Array.mem_of_getElem? ht
    simp at this
    rcases this with h | h | h | h <;> simp [h]
  rcases h9 with rfl | rfl | rfl
  · exact (show Tryz.prog.wantsStandIn 26 = false by kernel_rfl)
  · exact (show Tryz.prog.wantsStandIn 24 = false by kernel_rfl)
  · exact (show Tryz.prog.wantsStandIn 3 = false by kernel_rfl)

/-- ████ THE CARD ████ -/
theorem card : Rows.SpeltCardSaid :=
  Claim7.holds_tied_plain_at .later [] _ _ _ _ said (fun _ h => by cases h) (by kernel_rfl) (fun _ h => by cases h) spelt_row_tie rfl ⟨rfl, rfl⟩ (by kernel_rfl) rfl plain (by kernel_rfl)
end Go.Proofs.YtellilpeakpbfaaGreatDoor.Spd
namespace Go.Proofs.YtellilpeakpbfaaGreatDoor
theorem spelt_card : Rows.SpeltCardSaid := Spd.card
end Go.Proofs.YtellilpeakpbfaaGreatDoor

end
