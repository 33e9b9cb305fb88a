import Derived.Test.YtellilpeakpbfaaGreatDoorRfsdToo
/-
  Refused.
-/
set_option linter.unusedVariables false
namespace Go.Proofs.YtellilpeakpbfaaGreatDoor
open Go.RowKit

theorem ints_arr (w : World) (l : List Int) : IntsAt (w.alloc (.cells (l.map fun a => Value.int .i64 a).toArray 3)) (.slice (some ⟨w.heap.size, 0, none⟩) l.length l.length) l :=
  ⟨_, _, rfl, fun _ => ⟨_, 0, rfl, fun i x hx => by
    have hh := heap_alloc_new w (.cells (l.map fun a => Value.int .i64 a).toArray 3)
    rw [Nat.zero_add]
    refine (cell_of_row _ _ i _ _ _ hh).trans ?_
    simp [hx]⟩⟩
theorem ints_nil (w : World) : IntsAt w (.slice none 0 0) [] := ⟨_, _, rfl, fun h => by simp at h⟩

/-- behind the call that fails. -/
def CutR (L s S B D : Nat) (C : Jn.Con) (f : Int) (d : DS) (w : World) (s27 s28 s29 : Value) (wx : World) : Prop :=
  ∃ Bg, s27 = .pointer (some ⟨Bg, 0, none⟩) ∧ s28 = .slice none 0 0 ∧ s29 = .int .i64 9 ∧ wx.heap[Bg]? = some (.cells #[.int .i64 0, .int .i64 8] 57 (0, 0)) ∧ SiteAt L wx s S B D C f d ∧ FrX L [B] w wx
theorem cutr_last {L s S B D : Nat} {C : Jn.Con} {f : Int} {d : DS} {w wp : World} (hs : SiteAt L wp s S B D C f d) (hx : FrX L [B] w wp) (hL : L ≤ w.heap.size) :
    CutR L s S B D C f d w (.pointer (some ⟨wp.heap.size, 0, none⟩)) (.slice none 0 0) (.int .i64 9) (wp.alloc (.cells #[.int .i64 0, .int .i64 8] 57)) :=
  ⟨_, rfl, rfl, rfl, heap_alloc_new wp _, hs.below ((Below.refl _ _).alloc (Nat.le_refl _) _), hx.new hL _⟩
theorem cutr_set {L s S B D g : Nat} {C : Jn.Con} {f : Int} {d : DS} {w wp : World} (hs : SiteAt L wp s S B D C f d) (hx : FrX L [B] w wp) (hL : L ≤ w.heap.size) (hg : w.heap.size ≤ g) (vo : wp.heap[g]? = some (.cells #[.int .i64 0, .int .i64 0] 57 (0, 0))) :
    CutR L s S B D C f d w (.pointer (some ⟨g, 0, none⟩)) (.slice none 0 0) (.int .i64 9) ((wp.setCell ⟨g, 0, none⟩ (.int .i64 0)).setCell ⟨g, 1, none⟩ (.int .i64 8)) := by
  have g1 := heap_setCell_same wp g 0 _ _ (.int .i64 0) vo
  have g2 := heap_setCell_same (wp.setCell ⟨g, 0, none⟩ (.int .i64 0)) g 1 _ _ (.int .i64 8) g1
  have hLg := Nat.le_trans hL hg
  have fx : FrX L [g] wp ((wp.setCell ⟨g, 0, none⟩ (.int .i64 0)).setCell ⟨g, 1, none⟩ (.int .i64 8)) := ((FrX.one (fr_setCell wp g 0 _ hLg)).trans (FrX.one (fr_setCell _ g 1 _ hLg))).mono (by simp)
  have fT : Fr L [57] none wp ((wp.setCell ⟨g, 0, none⟩ (.int .i64 0)).setCell ⟨g, 1, none⟩ (.int .i64 8)) := fx.typed _ (fun x hx cur t z hh => by simp at hx; subst hx; rw [vo] at hh; cases hh; simp)
  refine ⟨g, rfl, rfl, rfl, by rw [g2]; simp, ⟨fT.block s _ _ _ hs.mem (by decide) (by simp), hs.st.fr fT (by decide) (by decide) (by decide) (by simp), fT.block D _ _ _ hs.disk (by decide) (by simp), hs.low⟩, ?_⟩
  exact (hx.put hL hg _).put hL hg _

set_option maxHeartbeats 16000000 in
set_option maxRecDepth 100000 in
theorem refused_any (w : World) (v : Value) (ps : List (Int × Int × Int)) (k x fl : Int) (hv : StepsOf w v ps) (hP : PowAt w) (hWd : WordsAt w) (k0 : -9223372036854775808 ≤ k) (k1 : k ≤ 9223372036854775807) (x0 : -9223372036854775808 ≤ x) (x1 : x ≤ 9223372036854775807) (l0 : -9223372036854775808 ≤ fl) (l1 : fl ≤ 9223372036854775807) :
    Calls Tryz.prog 10 #[v, .int .i64 k, .int .i64 x, .int .i64 fl] w fun e w' => e = .returned (.bool true) ∧ Below w.heap.size w w' := by
  have HLV := hide (live_any w v ps hv hP hWd)
  have hlen : ps.length ≤ 6000000000000 := by obtain ⟨_, _, _, _, _, h⟩ := hv; exact h
  obtain ⟨vo, vcap, hvs, -⟩ := hv
  obtain ⟨kk, hkk⟩ : ∃ kk : Nat, Kp.key k = (kk : Int) := ⟨(Kp.key k).toNat, by have := Kp.key_bd k; omega⟩
  have hk9 : kk ≤ 99 := by have := Kp.key_bd k; omega
  have HKY : Hid (∀ y, Calls Tryz.prog 30 #[.int .i64 k] y fun e w' => e = .returned (.int .i64 (kk : Int)) ∧ w' = y) := fun y => by rw [← hkk]; exact kkey_any k k0 k1 y
  obtain ⟨xx, hxx⟩ : ∃ xx, xx = Kp.value x := ⟨_, rfl⟩
  have HVL : Hid (∀ y, Calls Tryz.prog 31 #[.int .i64 x] y fun e w' => e = .returned (.int .i64 xx) ∧ w' = y) := fun y => by rw [hxx]; exact kvalue_any x x0 x1 y
  have hpb := Kp.pick_bd fl 1000 (by decide)
  obtain ⟨pp, hpp⟩ : ∃ pp : Nat, Kp.pick fl 1000 = (pp : Int) := ⟨(Kp.pick fl 1000).toNat, by omega⟩
  have hp9 : pp < 1000 := by omega
  have HPK : Hid (∀ y, Calls Tryz.prog 36 #[.int .i64 fl, .int .i64 1000] y fun e w' => e = .returned (.int .i64 (pp : Int)) ∧ w' = y) := fun y => by rw [← hpp]; exact kpick_any fl 1000 (by decide) (by decide) l0 l1 y
  have HPW := hide (fun y (hy : Below w.heap.size w y) => And.intro (hP.below hP.1 hy) (hWd.below hWd.1 hy))
  have hpL : 1 < w.heap.size := hP.1
  obtain ⟨L, hL⟩ : ∃ L, L = w.heap.size := ⟨_, rfl⟩
  rw [← hL] at HLV hpL
  have HPW : Hid (∀ y, Below L w y → PowAt y ∧ WordsAt y) := by rw [hL]; exact HPW.out
  have HL := hide hL
  clear hkk hxx hpb hpp hP hWd hL
  subst hvs
  go_enter Tryz.func10, Tryz.ntmps10
  go_wp2_with fail
  refine HLV.out.mono ?_
  rintro e w1 ⟨s, S0, B0, D, f0, d0, rfl, hs, hd, -, hb1⟩
  obtain ⟨C, hC⟩ : ∃ C, C = ps.foldl Kp.play Jn.none0 := ⟨_, rfl⟩
  rw [← hC] at hs hd
  have HKE := hide (kkeeps_any L s S0 B0 D _ C f0 d0 w1 ⟨#[102]⟩ ⟨Kp.rfSrc.toArray⟩ (by decide) (by show (Ck.read Kp.rfSrc).2 = 0; rw [Kp.rf_read]) hs hd (by omega) (HPW.out w1 hb1).1 (HPW.out w1 hb1).2 hpL)
  have HB1 := hide hb1
  clear hs hd hb1 hC HLV
  go_wp2_with fail
  refine HKE.out.mono ?_
  rintro e w2 ⟨rfl, S, B, f, d, hs2, hd2, hx2, -, -⟩
  obtain ⟨C2, hC2⟩ : ∃ C2 : Jn.Con, C2 = ⟨C.cells, [((⟨#[102]⟩ : ByteArray).data.toList, (⟨Kp.rfSrc.toArray⟩ : ByteArray).data.toList)]⟩ := ⟨_, rfl⟩
  rw [← hC2] at hs2 hd2
  have hpr : C2.procs = [([102], Kp.rfSrc)] := by rw [hC2]
  have hok := hs2.st.con.ok
  have HPR := hide hpr
  have HOK := hide hok
  have HS2 := hide hs2
  have HP2 := hide (HB1.out.trans hx2.below)
  have c2 := hs2.cells.1
  have hLw2 : L ≤ w2.heap.size := hs2.lowL
  clear hs2 hd2 hx2 hpr hok hC2 HKE HB1
  go_wp2_with fail
  refine (HKY.out _).mono ?_
  rintro e wx ⟨rfl, hq⟩
  obtain rfl : w2 = wx := hq.symm
  go_wp2_with fail
  refine (HVL.out _).mono ?_
  rintro e wx ⟨rfl, hq⟩
  obtain rfl : w2 = wx := hq.symm
  clear HKY HVL
  have HCE := hide (cellsS_any L S B C2 f w2 HS2.out.st)
  go_wp2_with fail
  refine HCE.out.mono ?_
  rintro e w3 ⟨vc, rfl, hrc, hb3⟩
  have HS3 := hide (HS2.out.below hb3)
  have HP3 := hide (HP2.out.trans (hb3.mono hLw2))
  have HRC := hide hrc
  have c3 := HS3.out.cells.1
  obtain ⟨co, ck, rfl⟩ := crow_slice hrc
  have hLw3 : L ≤ w3.heap.size := HS3.out.lowL
  clear hrc hb3 HCE HS2 HP2 c2
  have HPE := hide (procsS_any L S B C2 f w3 HS3.out.st)
  go_wp2_with fail
  refine HPE.out.mono ?_
  rintro e w4 ⟨vp, rfl, hrp, hb4⟩
  have HS4 := hide (HS3.out.below hb4)
  have HP4 := hide (HP3.out.trans (hb4.mono hLw3))
  have HRC4 := hide (HRC.out.below hb4)
  have HRP4 := hide hrp
  have c4 := HS4.out.cells.1
  obtain ⟨po, pk, rfl, -⟩ := hrp.shape
  have hLw4 : L ≤ w4.heap.size := HS4.out.lowL
  have HX4 : Hid (FrX L [B] w4 w4) := FrX.refl _ _ _
  have HSW4 := hide HS4.out
  clear hrp hb4 HPE HS3 HP3 HRC c3
  have HK := hide (fun key (hk : ¬ (0 ≤ key ∧ key ≤ 99)) => put_stay HS4.out key xx 5 (by unfold Jn.put; rw [if_pos (by unfold Jn.isKey; simp; omega)]) (by decide) (HPW.out w4 HP4.out).1 hpL)
  go_wp2_with fail
  refine (HK.out _ (by omega)).mono ?_
  rintro e w5 ⟨rfl, hs, hx⟩
  have HS5 := hide hs
  have HP5 := hide (HP4.out.trans hx.below)
  have HX5 := hide ((HX4.out.trans hx).mono (ys := [B]) (by simp))
  have c5 := hs.cells.1
  clear hs hx HK c4 HS4 HP4 HX4
  have HK := hide (put_stay HS5.out (kk : Int) 1000000001 6 (by unfold Jn.put; rw [if_neg (by unfold Jn.isKey; simp; omega), if_pos (by decide)]) (by decide) (HPW.out w5 HP5.out).1 hpL)
  go_wp2_with fail
  refine (HK.out).mono ?_
  rintro e w6 ⟨rfl, hs, hx⟩
  have HS6 := hide hs
  have HP6 := hide (HP5.out.trans hx.below)
  have HX6 := hide ((HX5.out.trans hx).mono (ys := [B]) (by simp))
  have c6 := hs.cells.1
  clear hs hx HK c5 HS5 HP5 HX5
  have HK := hide (fun key (hk : ¬ (0 ≤ key ∧ key ≤ 99)) => del_stay HS6.out key 5 (by unfold Jn.del; rw [if_pos (by unfold Jn.isKey; simp; omega)]) (by decide) (HPW.out w6 HP6.out).1 hpL)
  go_wp2_with fail
  refine (HK.out _ (by omega)).mono ?_
  rintro e w7 ⟨rfl, hs, hx⟩
  have HS7 := hide hs
  have HP7 := hide (HP6.out.trans hx.below)
  have HX7 := hide ((HX6.out.trans hx).mono (ys := [B]) (by simp))
  have c7 := hs.cells.1
  clear hs hx HK c6 HS6 HP6 HX6
  have HK := hide (install_stay HS7.out ⟨#[102]⟩ ⟨#[112, 117, 116, 32, 49]⟩ 2 2 (by unfold Jn.install; rw [if_neg (by decide), if_pos (by decide +kernel)]; show (Ck.read [112, 117, 116, 32, 49]).1 = 2; decide +kernel) (by unfold Jn.install; rw [if_neg (by decide), if_pos (by decide +kernel)]; show (Ck.read [112, 117, 116, 32, 49]).2 = 2; decide +kernel) (by decide) (HPW.out w7 HP7.out).2)
  go_wp2_with fail
  refine (HK.out).mono ?_
  rintro e w8 ⟨rfl, hs, hx⟩
  have HS8 := hide hs
  have HP8 := hide (HP7.out.trans hx.below)
  have HX8 := hide ((HX7.out.trans hx).mono (ys := [B]) (by simp))
  have c8 := hs.cells.1
  clear hs hx HK c7 HS7 HP7 HX7
  have HK := hide (install_stay HS8.out ⟨#[70]⟩ ⟨#[]⟩ 0 3 (by unfold Jn.install; rw [if_pos (by decide)]) (by unfold Jn.install; rw [if_pos (by decide)]) (by decide) (HPW.out w8 HP8.out).2)
  go_wp2_with fail
  refine (HK.out).mono ?_
  rintro e w9 ⟨rfl, hs, hx⟩
  have HS9 := hide hs
  have HP9 := hide (HP8.out.trans hx.below)
  have HX9 := hide ((HX8.out.trans hx).mono (ys := [B]) (by simp))
  have c9 := hs.cells.1
  clear hs hx HK c8 HS8 HP8 HX8
  have HK := hide (drop_stay HS9.out ⟨#[110, 111, 116, 104, 105, 110, 103]⟩ 3 (by unfold Jn.drop; rw [HPR.out, if_pos (by decide)]) (by decide))
  go_wp2_with fail
  refine (HK.out).mono ?_
  rintro e w10 ⟨rfl, hs, hx⟩
  have HS10 := hide hs
  have HP10 := hide (HP9.out.trans hx.below)
  have HX10 := hide ((HX9.out.trans hx).mono (ys := [B]) (by simp))
  have c10 := hs.cells.1
  clear hs hx HK c9 HS9 HP9 HX9
  have hfu : ((8 + pp : Nat) : Int) = 8 + (pp : Int) := by omega
  have HCF : Hid (∀ y va, Below w10.heap.size w10 y → IntsAt y va [(kk : Int)] → Calls Tryz.prog 27 #[.pointer (some ⟨S, 0, none⟩), .string ⟨#[102]⟩, va, .int .i64 (8 + (pp : Int))] y (StayPost L s S B D C2 f d (.tuple #[.agg #[.int .i64 0, .int .i64 8], .slice none 0 0, .int .i64 9]) y)) := by
    intro y va hy hi
    have hb : Below L w y := HP10.out.trans (hy.mono HS10.out.lowL)
    refine call_stay (HS10.out.below hy) ⟨#[102]⟩ va [(kk : Int)] (8 + (pp : Int)) 0 8 9 ?_ (by decide) (HPW.out y hb).2 hi (HPW.out y hb).1 hpL
    have e : srcL C2.procs [102] = some Kp.rfSrc := by rw [HPR.out]; rfl
    have hr := Kp.rf_run C2 HOK.out kk hk9 pp hp9
    rw [hfu] at hr
    show (Rn.call C2 [102] _ _).2.1 = 0 ∧ (Rn.call C2 [102] _ _).2.2.1 = 8 ∧ (Rn.call C2 [102] _ _).2.2.2.2 = 9
    unfold Rn.call
    rw [e]
    simp only
    rw [hr]
    simp
  have hwrap : IntKind.i64.wrap (8 + (pp : Int)) = 8 + (pp : Int) := by simp only [IntKind.wrap_i64]; omega
  have hnB0 : w10.heap.size ∉ [B] := by simp; have := HS10.out.st.con.lt; omega
  have hnB1 : w10.heap.size + 1 ∉ [B] := by simp; have := HS10.out.st.con.lt; omega
  have hLw10 : L ≤ w10.heap.size := HS10.out.lowL
  have HKB := hide (fun y (hy : Below w10.heap.size w10 y) => at_old hy c10)
  have HKX : Hid (∀ y, FrX L [B] w10 y → y.cell? ⟨s, 0, none⟩ = some (.pointer (some ⟨S, 0, none⟩))) := by
    intro y hy
    obtain ⟨cb, vb, hB, -⟩ := HS10.out.st.con.mem
    have hm := HS10.out.mem
    exact (cell_of_row y s 0 _ _ _ (hy.block s _ _ _ hm (by simp; intro e; rw [e, hB] at hm; cases hm))).trans rfl
  go_upto_region 15 with fail
  go_cut [27, 28, 29] (fun s27 s28 s29 wx => CutR L s S B D C2 f d w10 s27 s28 s29 wx)
  case first =>
    go_region_held3 (fun w' => w'.cell? ⟨s, 0, none⟩ = some (.pointer (some ⟨S, 0, none⟩)))
      (first | with_reducible exact HKX.out _ hx | with_reducible exact HKX.out _ (hx.new hLw10 _) | with_reducible exact HKX.out _ (hx.put hLw10 (Nat.le_refl _) _) | with_reducible exact HKX.out _ ((hx.put hLw10 (Nat.le_refl _) _).put hLw10 (Nat.le_refl _) _) | with_reducible exact HKX.out _ (hx.put hLw10 (Nat.le_succ _) _) | with_reducible exact HKX.out _ ((hx.put hLw10 (Nat.le_succ _) _).put hLw10 (Nat.le_succ _) _) | (refine HKB.out _ ?_; (repeat' (first | with_reducible exact Below.refl _ _ | with_reducible refine Below.drew ?_ | with_reducible refine belowA ?_ _))))
      (first | (go_at_call 36; refine (HPK.out _).mono ?_; rintro e wx ⟨rfl, rfl⟩) | (go_at_call 27; refine (HCF.out _ _ (by (repeat' (first | with_reducible exact Below.refl _ _ | with_reducible refine Below.drew ?_ | with_reducible refine belowA ?_ _))) (by first | exact ints_new _ | exact ints_new2 _ _ | exact (ints_new _).below ((Below.refl _ _).alloc (Nat.le_refl _) _) | exact (ints_new _).below (Below.drew ((Below.refl _ _).alloc (Nat.le_refl _) _)))).mono ?_; rintro e wp ⟨rfl, hs, hx0⟩; have hx : FrX L [B] w10 wp := below_at hx0.fr1 (by (repeat' (first | with_reducible exact Below.refl _ _ | with_reducible refine Below.drew ?_ | with_reducible refine belowA ?_ _))) hLw10; (try (have vo := hx0.block w10.heap.size _ _ _ (var_first w10 #[.int .i64 0, .int .i64 0] 57 _) hnB0; have z0 : wp.cell? ⟨_, 0, none⟩ = some (.int .i64 0) := (cell_of_row wp _ 0 _ _ _ vo).trans rfl; have z1 : wp.cell? ⟨_, 1, none⟩ = some (.int .i64 0) := (cell_of_row wp _ 1 _ _ _ vo).trans rfl; have z2 := frozen_of_row wp _ 0 _ _ vo; have z3 := frozen_of_row wp _ 1 _ _ vo)); (try (have vo := hx0.block (w10.heap.size + 1) _ _ _ (var_second w10 #[.int .i64 0, .int .i64 0] 57 _) hnB1; have z0 : wp.cell? ⟨_, 0, none⟩ = some (.int .i64 0) := (cell_of_row wp _ 0 _ _ _ vo).trans rfl; have z1 : wp.cell? ⟨_, 1, none⟩ = some (.int .i64 0) := (cell_of_row wp _ 1 _ _ _ vo).trans rfl; have z2 := frozen_of_row wp _ 0 _ _ vo; have z3 := frozen_of_row wp _ 1 _ _ vo))))
    all_goals
      go_wp2_with fail
      go_meet
      first
        | with_reducible exact cutr_last hs hx hLw10
        | with_reducible exact cutr_set hs hx hLw10 (Nat.le_refl _) vo
        | with_reducible exact cutr_set hs hx hLw10 (Nat.le_succ _) vo
  case rest =>
    obtain ⟨w11, rfl⟩ : ∃ w11 : World, w11 = wc := ⟨_, rfl⟩
    obtain ⟨Bg, rfl, rfl, rfl, hbg, hs, hx⟩ := hcut
    have hBgB : ∀ (y : World) (cur : Array Value), SiteAt L y s S B D C2 f d → y.heap[Bg]? = some (.cells cur 57 (0, 0)) → Bg ∉ [B] := by
      intro y cur hy hg
      obtain ⟨cb, vb, hB, -⟩ := hy.st.con.mem
      simp
      intro e
      rw [e, hB] at hg
      cases hg
    have HS11 := hide hs
    have HP11 := hide (HP10.out.trans hx.below)
    have HX11 := hide ((HX10.out.trans hx).mono (ys := [B]) (by simp))
    have HBG := hide hbg
    have c11 := hs.cells.1
    clear hs hx hbg c10 HS10 HP10 HX10 HCF HKB HKX HPK hnB0 hnB1 hwrap hfu hLw10
    have HK := hide (call_stay HS11.out ⟨#[110, 111, 116, 104, 105, 110, 103]⟩ (.slice none 0 0) [] 5 0 0 3 (by have e : srcL C2.procs [110, 111, 116, 104, 105, 110, 103] = none := (by rw [HPR.out]; rfl); show (Rn.call C2 [110, 111, 116, 104, 105, 110, 103] _ _).2.1 = 0 ∧ (Rn.call C2 [110, 111, 116, 104, 105, 110, 103] _ _).2.2.1 = 0 ∧ (Rn.call C2 [110, 111, 116, 104, 105, 110, 103] _ _).2.2.2.2 = 3; unfold Rn.call; rw [e]; exact ⟨rfl, rfl, rfl⟩) (by decide) (HPW.out w11 HP11.out).2 (ints_nil w11) (HPW.out w11 HP11.out).1 hpL)
    go_wp2_with fail
    refine HK.out.mono ?_
    rintro e w12 ⟨rfl, hs, hx⟩
    have hbg12 := hx.block Bg _ _ _ HBG.out (hBgB w11 _ HS11.out HBG.out)
    obtain ⟨w14, hw14⟩ : ∃ w14, w14 = (w12.alloc (.cells #[.int .i64 0, .int .i64 0] 57)).alloc (.cells #[.int .i64 1, .int .i64 2, .int .i64 3, .int .i64 4, .int .i64 5] 3) := ⟨_, rfl⟩
    have hb14 : Below w12.heap.size w12 w14 := by rw [hw14]; exact belowA ((Below.refl _ _).alloc (Nat.le_refl _) _) _
    have hi14 : IntsAt w14 (.slice (some ⟨w12.heap.size + 1, 0, none⟩) 5 5) [1, 2, 3, 4, 5] := by
      have := ints_arr (w12.alloc (.cells #[.int .i64 0, .int .i64 0] 57)) [1, 2, 3, 4, 5]
      rw [World.size_alloc] at this
      rw [hw14]
      exact this
    have HS14 := hide (hs.below hb14)
    have hLw12 : L ≤ w12.heap.size := hs.lowL
    have HP14 := hide ((HP11.out.trans hx.below).trans (hb14.mono hLw12))
    have HX14 := hide (((HX11.out.trans hx).trans (FrX.old hb14 hLw12)).mono (ys := [B]) (by simp))
    have HBG14 := hide ((hb14.block Bg (Array.getElem?_eq_some_iff.1 hbg12).1).trans hbg12)
    have c12 := hs.cells.1
    have c12' : ∀ o, (w12.alloc o).cell? ⟨s, 0, none⟩ = some (.pointer (some ⟨S, 0, none⟩)) := fun o => at_old ((Below.refl _ _).alloc (Nat.le_refl _) o) hs.cells.1
    have HK2 := hide (call_stay HS14.out ⟨#[102]⟩ (.slice (some ⟨w12.heap.size + 1, 0, none⟩) 5 5) [1, 2, 3, 4, 5] 5 0 0 6 (by have e : srcL C2.procs [102] = some Kp.rfSrc := (by rw [HPR.out]; rfl); show (Rn.call C2 [102] _ _).2.1 = 0 ∧ (Rn.call C2 [102] _ _).2.2.1 = 0 ∧ (Rn.call C2 [102] _ _).2.2.2.2 = 6; unfold Rn.call Rn.run; rw [e]; exact ⟨rfl, rfl, rfl⟩) (by decide) (HPW.out w14 HP14.out).2 hi14 (HPW.out w14 HP14.out).1 hpL)
    clear hs hx hbg12 hb14 hi14 HK c11 HS11 HP11 HX11 HBG
    go_wp2_with fail
    rw [← hw14]
    have HW14 := hide hw14
    clear hw14
    refine HK2.out.mono ?_
    rintro e w15 ⟨rfl, hs, hx⟩
    have hbg15 := hx.block Bg _ _ _ HBG14.out (hBgB w14 _ HS14.out HBG14.out)
    obtain ⟨w16, hw16⟩ : ∃ w16, w16 = w15.alloc (.cells #[.int .i64 0, .int .i64 0] 57) := ⟨_, rfl⟩
    have hb16 : Below w15.heap.size w15 w16 := by rw [hw16]; exact (Below.refl _ _).alloc (Nat.le_refl _) _
    have hLw15 : L ≤ w15.heap.size := hs.lowL
    have HS16 := hide (hs.below hb16)
    have HP16 := hide ((HP14.out.trans hx.below).trans (hb16.mono hLw15))
    have HX16 := hide (((HX14.out.trans hx).trans (FrX.old hb16 hLw15)).mono (ys := [B]) (by simp))
    have hbg16 := (hb16.block Bg (Array.getElem?_eq_some_iff.1 hbg15).1).trans hbg15
    have g0 : w16.cell? ⟨Bg, 0, none⟩ = some (.int .i64 0) := (cell_of_row w16 Bg 0 _ _ _ hbg16).trans rfl
    have g1 : w16.cell? ⟨Bg, 1, none⟩ = some (.int .i64 8) := (cell_of_row w16 Bg 1 _ _ _ hbg16).trans rfl
    have c16 := HS16.out.cells.1
    have hT : Fr L [145] none w4 w16 := HX16.out.typed _ (fun y hy cur t z hh => by
      simp at hy
      subst hy
      obtain ⟨cb, vb, hB, -⟩ := (HSW4.out).st.con.mem
      rw [hB] at hh
      cases hh
      simp)
    have HRC16 := hide (own_fr HRC4.out hT (by decide) (.inl rfl))
    have HRP16 := hide (own_fr HRP4.out hT (by decide) (.inl rfl))
    have HCE := hide (cellsS_any L S B C2 f w16 HS16.out.st)
    have hl1 : ((C2.procs.length : Int) == 1) = true := by rw [HPR.out]; rfl
    clear hs hx hbg15 hb16 hbg16 hT HK2 c12 c12' HS14 HP14 HX14 HBG14 HX16
    go_upto_region 18 with fail
    rw [← hw16]
    have HW16 := hide hw16
    clear hw16
    go_wp2_with fail
    refine HCE.out.mono ?_
    rintro e w17 ⟨vc2, rfl, hrc, hb17⟩
    have HS17 := hide (HS16.out.below hb17)
    have HP17 := hide (HP16.out.trans (hb17.mono HS16.out.lowL))
    have HRC17 := hide (CRow.below HRC16.out hb17)
    have HRP17 := hide (PRow.below HRP16.out hb17)
    have HRX17 := hide hrc
    have c17 := HS17.out.cells.1
    obtain ⟨co2, ck2, rfl⟩ := crow_slice hrc
    have HPE := hide (procsS_any L S B C2 f w17 HS17.out.st)
    clear hrc hb17 HCE HS16 HP16 HRC16 HRP16 c16 g0 g1
    go_wp2_with fail
    refine HPE.out.mono ?_
    rintro e w18 ⟨vp2, rfl, hrp, hb18⟩
    have HP18 := hide (HP17.out.trans (hb18.mono HS17.out.lowL))
    have HSC := hide (ksameC _ _ _ _ C2 w18 (CRow.below HRC17.out hb18) (CRow.below HRX17.out hb18) HOK.out)
    have HRP18 := hide (PRow.below HRP17.out hb18)
    have HRY18 := hide hrp
    have hLw18 : L ≤ w18.heap.size := Nat.le_trans HS17.out.lowL hb18.size
    obtain ⟨po2, pk2, rfl, -⟩ := hrp.shape
    clear hrp hb18 HPE HS17 HP17 HRC17 HRP17 HRX17 c17
    go_wp2_with fail
    refine HSC.out.mono ?_
    rintro e w19 ⟨rfl, hb19⟩
    have HSP := hide (ksameP _ _ _ _ C2 w19 (PRow.below HRP18.out hb19) (PRow.below HRY18.out hb19) HOK.out)
    have HP19 := hide (HP18.out.trans (hb19.mono hLw18))
    have hLw19 : L ≤ w19.heap.size := Nat.le_trans hLw18 hb19.size
    clear hb19 HSC HP18 HRP18 HRY18
    go_wp2_with fail
    refine HSP.out.mono ?_
    rintro e w20 ⟨rfl, hb20⟩
    have HFIN := hide (HP19.out.trans (hb20.mono hLw19))
    clear hb20 HSP HP19
    go_wp2_with fail
    go_ret
    exact ⟨rfl, HL.out ▸ HFIN.out⟩
end Go.Proofs.YtellilpeakpbfaaGreatDoor
