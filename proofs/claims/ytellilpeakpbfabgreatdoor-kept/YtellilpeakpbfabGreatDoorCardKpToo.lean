import Derived.Test.YtellilpeakpbfabGreatDoorHldsToo
import Derived.Test.YtellilpeakpbfabGreatDoorCards
import Derived.Test.YtellilpeakpbfabGreatDoorTie
import Derived.Test.YtellilpeakpbfabGreatDoorSiteHToo
import Derived.ProofKit
import Derived.OpenShut
import Derived.Deep.DeepHandedRow
import Derived.Lib.LaidTab
import Derived.SizedLaws
section
/-
  Kept.
-/
set_option linter.unusedVariables false
namespace Go.Proofs.YtellilpeakpbfabGreatDoor
open Go.RowKit

theorem setC_get (C : Jn.Con) (hok : Jn.Ok C) (k : Nat) (hk : k ≤ 99) (o : Option Int) : (Jn.setC C (k : Int) o).cells.getD k none = o := by
  have hl := hok.len
  unfold Jn.setC
  simp only [Int.toNat_natCast, List.getD_eq_getElem?_getD]
  rw [List.getElem?_set_self (by omega)]
  rfl

def KtRel (L s D : Nat) (C : Jn.Con) (w0 : World) (va vb vi : Value) (wr : World) : Prop :=
  ∃ j : Nat, j ≤ 2 ∧ vi = .int .i64 (j : Int) ∧ (∃ x, va = .int .i64 x ∧ -9223372036854775808 ≤ x ∧ x ≤ 9223372036854775807) ∧ (∃ x, vb = .int .i64 x ∧ -9223372036854775808 ≤ x ∧ x ≤ 9223372036854775807) ∧
    ∃ S B f d n, n ≤ 1000000000000000000 ∧ Hd L s S B D C f d (· = C) n w0 wr

set_option maxHeartbeats 8000000 in
set_option maxRecDepth 100000 in
theorem kept_any (w : World) (v : Value) (ps : List (Int × Int × Int)) (k x a b : Int) (hv : StepsOf w v ps) (hP : PowAt w) (hWd : WordsAt w) (k0 : -9223372036854775808 ≤ k) (k1 : k ≤ 9223372036854775807) (x0 : -9223372036854775808 ≤ x) (x1 : x ≤ 9223372036854775807)
    (a0 : -9223372036854775808 ≤ a) (a1 : a ≤ 9223372036854775807) (b0 : -9223372036854775808 ≤ b) (b1 : b ≤ 9223372036854775807) :
    Calls Tryz.prog 3 #[v, .int .i64 k, .int .i64 x, .int .i64 a, .int .i64 b] w fun e w' => e = .returned (.bool true) ∧ Below w.heap.size w w' := by
  have HLV := hide (live_any w v ps hv hP hWd)
  have hlen : ps.length ≤ 6000000000000 := by obtain ⟨_, _, _, _, _, h⟩ := hv; exact h
  obtain ⟨vo, vcap, hvs, -⟩ := hv
  have hky := Kp.key_is k
  have hvl := Kp.value_is x
  have HKY0 := hide (fun z => kkey_any k k0 k1 z)
  have HVL0 := hide (fun z => kvalue_any x x0 x1 z)
  obtain ⟨kk, hkk⟩ : ∃ kk : Nat, Kp.key k = (kk : Int) := ⟨(Kp.key k).toNat, by have := Kp.key_bd k; omega⟩
  have hk9 : kk ≤ 99 := by have := Kp.key_bd k; omega
  rw [hkk] at hky HKY0
  generalize Kp.value x = vv at *
  have HST := hide (fun s S B D C f d n w1 (hs : SiteAt w.heap.size w1 s S B D C f d) (hd : DiskFit d f C n) (hb : Below w.heap.size w w1) => Hd.start hs hd hb hP hWd hP.1)
  have HKY := hide hky
  have HVL := hide hvl
  clear hP hWd hkk hky hvl
  subst hvs
  go_enter Tryz.func3, Tryz.ntmps3
  go_wp2_with fail
  refine HLV.out.mono ?_
  rintro e w1 ⟨s, S, B, D, f, d, rfl, hs, hd, -, hb1⟩
  have h1 := HST.out _ _ _ _ _ _ _ _ _ hs hd hb1
  obtain ⟨C0, hC0⟩ : ∃ C, C = ps.foldl Kp.play Jn.none0 := ⟨_, rfl⟩
  rw [← hC0] at h1
  have HPT := hide (site_put h1 h1.ok (by omega) (kk : Int) vv HKY.out HVL.out)
  have hput : (Jn.put C0 (kk : Int) vv).1.cells.getD kk none = some vv := by
    have e : Jn.put C0 (kk : Int) vv = (Jn.setC C0 (kk : Int) (some vv), 0) := by unfold Jn.put; rw [if_neg (by rw [HKY.out]; decide), if_neg (by rw [HVL.out]; decide)]
    rw [e]
    exact setC_get C0 h1.ok kk hk9 _
  obtain ⟨C, hC⟩ : ∃ C, C = (Jn.put C0 (kk : Int) vv).1 := ⟨_, rfl⟩
  rw [← hC] at HPT hput
  have HG := hide hput
  obtain ⟨s0, s1⟩ := h1.cells
  clear hs hd hb1 hC0 hC hput h1 HLV HST HKY HVL
  go_wp2_with fail
  refine (HKY0.out _).mono ?_
  rintro e wx ⟨rfl, hq⟩
  obtain rfl : w1 = wx := hq.symm
  go_wp2_with fail
  refine (HVL0.out _).mono ?_
  rintro e wx ⟨rfl, hq⟩
  obtain rfl : w1 = wx := hq.symm
  clear HKY0 HVL0
  go_wp2_with fail
  refine HPT.out.mono ?_
  rintro e w2 ⟨vo, vn, vk, rfl, ⟨s1, s0⟩, hall⟩
  have HA := hide hall
  clear hall HPT
  go_wp2_with fail
  refine HA.out.mono ?_
  rintro e w3 ⟨rfl, d3, h3, -⟩
  have HSY := hide (fun x (hx : Below w3.heap.size w3 x) => site_sync (h3.below hx))
  obtain ⟨c0, c1⟩ := h3.cells
  clear h3 HA s0 s1
  go_wp2_with fail
  go_region_held3 (fun w' => w'.cell? ⟨s, 1, none⟩ = some (.pointer (some ⟨D, 0, none⟩)) ∧ w'.cell? ⟨s, 0, none⟩ = some (.pointer (some ⟨S, 0, none⟩)))
    (first | with_reducible exact hk1 | exact ⟨h9.cells.2, h9.cells.1⟩ | go_keep)
    (first | (go_at_call 15; refine (HSY.out _ (by first | exact Below.refl _ _ | exact Below.drew (Below.refl _ _))).mono ?_; rintro e wp ⟨vo, vn, vk, rfl, hk1, hall⟩) | (go_at_call 14; refine hall.mono ?_; rintro e w9 ⟨rfl, d9, h9, -⟩))
  have HR0 : Hid (KtRel w.heap.size s D C w (.int .i64 a) (.int .i64 b) (.int .i64 (0 : Int)) w9) := ⟨0, by omega, rfl, ⟨a, rfl, a0, a1⟩, ⟨b, rfl, b0, b1⟩, S, B, f, d9, _, by omega, h9⟩
  clear h9 hk1 hall HSY c0 c1
  go_wp2_with fail
  go_loopw [3, 4, 15] (fun va vb vi wr => KtRel w.heap.size s D C w va vb vi wr) (fun _ _ i _ => 2 - (intOf i).toNat)
  case atStart => exact HR0.out
  case round =>
    clear HR0
    obtain ⟨j, hj, rfl, ⟨xa, rfl, xa0, xa1⟩, ⟨xb, rfl, xb0, xb1⟩, S, B, f, d, n, hn, hh⟩ := hrel
    have HCR := hide (hh.crash (by omega) xa xb xa0 xa1 xb0 xb1)
    obtain ⟨c0, c1⟩ := hh.cells
    have HLOW := hide hh.low
    clear hh
    have hjc : j = 0 ∨ j = 1 ∨ j = 2 := by omega
    rcases hjc with rfl | rfl | rfl
    · have hpb := Kp.pick_bd xa 2 (by decide)
      have hpk := fun z => kpick_any xa 2 (by decide) (by decide) xa0 xa1 z
      rw [show ((2 : Nat) : Int) = 2 from rfl] at hpk
      have hpc : Kp.pick xa 2 = 0 ∨ Kp.pick xa 2 = 1 := by omega
      generalize Kp.pick xa 2 = pc at *
      have HPK := hide hpk
      clear hpk hpb
      go_wp2_with fail
      refine HCR.out.mono ?_
      rintro e w4 ⟨rfl, hre⟩
      have HRE := hide hre
      clear hre HCR c0 c1
      go_wp2_with fail
      refine HRE.out.mono ?_
      rintro e w5 ⟨rfl, C2, S2, B2, f2, d2, hC2, h5, -⟩
      subst hC2
      have HH := hide h5
      clear h5 HRE
      rcases hpc with rfl | rfl
      · go_wp2_with fail
        refine (HPK.out _).mono ?_
        rintro e wx ⟨rfl, hq⟩
        obtain rfl : w5 = wx := hq.symm
        clear HPK
        have HCP := hide (fun x (hx : Below w5.heap.size w5 x) => site_compact (HH.out.below hx))
        obtain ⟨c0, c1⟩ := HH.out.cells
        go_wp2_with fail
        go_region_held3 (fun w' => w'.cell? ⟨s, 1, none⟩ = some (.pointer (some ⟨D, 0, none⟩)) ∧ w'.cell? ⟨s, 0, none⟩ = some (.pointer (some ⟨S2, 0, none⟩)))
          (first | with_reducible exact hk1 | exact ⟨h9.cells.2, h9.cells.1⟩ | go_keep)
          (first | (go_at_call 20; refine (HCP.out _ (by first | exact Below.refl _ _ | exact Below.drew (Below.refl _ _))).mono ?_; rintro e wp ⟨vo, vn, vk, rfl, hk1, hall⟩) | (go_at_call 14; refine hall.mono ?_; rintro e w9 ⟨rfl, d9, h9, -⟩))
        have HRR : Hid (KtRel w.heap.size s D C2 w (.int .i64 xb) (.int .i64 xa) (.int .i64 (1 : Int)) w9) := ⟨1, by omega, rfl, ⟨xb, rfl, xb0, xb1⟩, ⟨xa, rfl, xa0, xa1⟩, S2, B2, _, d9, _, Nat.le_trans (all_room h9.ok).2 (by omega), h9⟩
        clear h9 hk1 hall HCP c0 c1 HH
        go_wp2_with fail
        go_roundw
        case rel => exact HRR.out
        case measure => simp [intOf]
      · have HHO := hide (holds_any w.heap.size s S2 B2 D C2 f2 d2 w5 kk vv hk9 HH.out.site HG.out)
        go_wp2_with fail
        refine (HPK.out _).mono ?_
        rintro e wx ⟨rfl, hq⟩
        obtain rfl : w5 = wx := hq.symm
        clear HPK
        go_wp2_with fail
        refine HHO.out.mono ?_
        rintro e w6 ⟨rfl, hb6⟩
        have h6 := HH.out.below hb6
        clear HH HHO hb6
        have HH := hide h6
        clear h6
        have HCP := hide (fun x (hx : Below w6.heap.size w6 x) => site_compact (HH.out.below hx))
        obtain ⟨c0, c1⟩ := HH.out.cells
        go_wp2_with fail
        go_region_held3 (fun w' => w'.cell? ⟨s, 1, none⟩ = some (.pointer (some ⟨D, 0, none⟩)) ∧ w'.cell? ⟨s, 0, none⟩ = some (.pointer (some ⟨S2, 0, none⟩)))
          (first | with_reducible exact hk1 | exact ⟨h9.cells.2, h9.cells.1⟩ | go_keep)
          (first | (go_at_call 20; refine (HCP.out _ (by first | exact Below.refl _ _ | exact Below.drew (Below.refl _ _))).mono ?_; rintro e wp ⟨vo, vn, vk, rfl, hk1, hall⟩) | (go_at_call 14; refine hall.mono ?_; rintro e w9 ⟨rfl, d9, h9, -⟩))
        have HRR : Hid (KtRel w.heap.size s D C2 w (.int .i64 xb) (.int .i64 xa) (.int .i64 (1 : Int)) w9) := ⟨1, by omega, rfl, ⟨xb, rfl, xb0, xb1⟩, ⟨xa, rfl, xa0, xa1⟩, S2, B2, _, d9, _, Nat.le_trans (all_room h9.ok).2 (by omega), h9⟩
        clear h9 hk1 hall HCP c0 c1 HH
        go_wp2_with fail
        go_roundw
        case rel => exact HRR.out
        case measure => simp [intOf]
    · go_wp2_with fail
      refine HCR.out.mono ?_
      rintro e w4 ⟨rfl, hre⟩
      have HRE := hide hre
      clear hre HCR c0 c1
      go_wp2_with fail
      refine HRE.out.mono ?_
      rintro e w5 ⟨rfl, C2, S2, B2, f2, d2, hC2, h5, -⟩
      subst hC2
      have HHO := hide (holds_any w.heap.size s S2 B2 D C2 f2 d2 w5 kk vv hk9 h5.site HG.out)
      have HH5 := hide h5
      clear h5 HRE
      go_wp2_with fail
      refine HHO.out.mono ?_
      rintro e w6 ⟨rfl, hb6⟩
      have h6 := HH5.out.below hb6
      clear HH5 HHO hb6
      have HH := hide h6
      clear h6
      have HCP := hide (fun x (hx : Below w6.heap.size w6 x) => site_compact (HH.out.below hx))
      obtain ⟨c0, c1⟩ := HH.out.cells
      go_wp2_with fail
      go_region_held3 (fun w' => w'.cell? ⟨s, 1, none⟩ = some (.pointer (some ⟨D, 0, none⟩)) ∧ w'.cell? ⟨s, 0, none⟩ = some (.pointer (some ⟨S2, 0, none⟩)))
        (first | with_reducible exact hk1 | exact ⟨h9.cells.2, h9.cells.1⟩ | go_keep)
        (first | (go_at_call 20; refine (HCP.out _ (by first | exact Below.refl _ _ | exact Below.drew (Below.refl _ _))).mono ?_; rintro e wp ⟨vo, vn, vk, rfl, hk1, hall⟩) | (go_at_call 14; refine hall.mono ?_; rintro e w9 ⟨rfl, d9, h9, -⟩))
      have HRR : Hid (KtRel w.heap.size s D C2 w (.int .i64 xb) (.int .i64 xa) (.int .i64 (2 : Int)) w9) := ⟨2, by omega, rfl, ⟨xb, rfl, xb0, xb1⟩, ⟨xa, rfl, xa0, xa1⟩, S2, B2, _, d9, _, Nat.le_trans (all_room h9.ok).2 (by omega), h9⟩
      clear h9 hk1 hall HCP c0 c1 HH
      go_wp2_with fail
      go_roundw
      case rel => exact HRR.out
      case measure => simp [intOf]
    · clear HCR c0 c1
      go_wp2_with fail
      go_ret
      exact ⟨rfl, HLOW.out⟩
end Go.Proofs.YtellilpeakpbfabGreatDoor

end

section
/-
  The row of the law Kept, and its tied card.
-/
namespace Go.Proofs.YtellilpeakpbfabGreatDoor.Krd
open Go.ChangeShapes Go.WideShapes Go.ChangeAt Go.RowKit
open Go.ChangeMaps (open_string shut_string)
open Ckd (words_of pow_of layVar own)

theorem laidOut : laidOutB Tryz.prog = true := by kernel_rfl

set_option maxRecDepth 100000 in
theorem contract (H : Type) (enc : TypeId × Value → H) (W : World) (base : Nat) (args : Array Value) (ds gs : List (DataW H)) (before : List MemPlace)
    (hval : ∀ (j : Nat) t v, Tryz.f3.params[j]? = some t → args[j]? = some v → Value.okWide Tryz.prog W .any base t v)
    (hW : DataW.Whole enc Tryz.prog Tryz.f3.params.toList Rows.keptSpec.vars false W args.toList ds gs before) (hz : (DataW.weightsEach Tryz.prog (Tryz.f3.params.toList ++ (OpenSpec.ofChange Rows.keptSpec).bare.plain.varTypes Tryz.prog) (ds ++ gs)).all (· ≤ reachBytes) = true) (hL : laidMetH Tryz.prog Rows.keptRow.laid W) :
    Calls Tryz.prog 3 args W fun e W' => ∃ v, e = .returned v ∧ Rows.keptSpec.post enc Tryz.prog Tryz.f3 false true false false W args v W' := by
  have hW' := hW
  obtain ⟨p, q, hA0, hV, rfl, hfz, hnd⟩ := hW
  have hA : DataW.TrodAll enc Tryz.prog W 0 (fun _ => true) true Tryz.f3.params.toList args.toList ds p := hA0
  rw [Tryz.params3] at hA hval hz
  obtain ⟨v0, vs0, d0, ds0, m0, q0, hargs0, rfl, rfl, t0, r0⟩ := trodAll_cons hA
  obtain ⟨v1, vs1, d1, ds1, m1, q1, hargs1, rfl, rfl, t1, r1⟩ := trodAll_cons r0
  obtain ⟨v2, vs2, d2, ds2, m2, q2, hargs2, rfl, rfl, t2, r2⟩ := trodAll_cons r1
  obtain ⟨v3, vs3, d3, ds3, m3, q3, hargs3, rfl, rfl, t3, r3⟩ := trodAll_cons r2
  obtain ⟨v4, vs4, d4, ds4, m4, q4, hargs4, rfl, rfl, t4, r4⟩ := trodAll_cons r3
  obtain ⟨rfl, rfl, rfl⟩ := trodAll_nil r4
  obtain rfl : args = #[v0, v1, v2, v3, v4] := Array.toList_inj.1 (by first | (rw [hargs0, hargs1, hargs2, hargs3, hargs4]) | (rw [hargs0]))
  obtain ⟨rfl, rfl⟩ := trodVars_none hV
  obtain ⟨fuel0, t0'⟩ := t0
  obtain ⟨a0, len0, cap0, rfl⟩ := okWide_slice Tryz.underlying22 (hval 0 22 v0 rfl rfl)
  have w0 : ∀ n ∈ d0.weights Tryz.prog 22, n ≤ reachBytes := fun n hn => of_decide_eq_true (List.all_eq_true.1 hz n (DataW.weights_mem_each (j := 0) (t := 22) (d := d0) rfl rfl n hn))
  obtain ⟨p0, h00⟩ := Scd.steps_of t0'
  have h0 := h00 w0
  obtain ⟨fuel1, t1'⟩ := t1
  obtain ⟨p1, rfl⟩ := okWide_int Tryz.underlying3 (hval 1 3 v1 rfl rfl)
  have h1 : Scd.B64 p1 := by obtain ⟨k, e, h⟩ := Scd.num_of t1'; cases e; exact h
  obtain ⟨fuel2, t2'⟩ := t2
  obtain ⟨p2, rfl⟩ := okWide_int Tryz.underlying3 (hval 2 3 v2 rfl rfl)
  have h2 : Scd.B64 p2 := by obtain ⟨k, e, h⟩ := Scd.num_of t2'; cases e; exact h
  obtain ⟨fuel3, t3'⟩ := t3
  obtain ⟨p3, rfl⟩ := okWide_int Tryz.underlying3 (hval 3 3 v3 rfl rfl)
  have h3 : Scd.B64 p3 := by obtain ⟨k, e, h⟩ := Scd.num_of t3'; cases e; exact h
  obtain ⟨fuel4, t4'⟩ := t4
  obtain ⟨p4, rfl⟩ := okWide_int Tryz.underlying3 (hval 4 3 v4 rfl rfl)
  have h4 : Scd.B64 p4 := by obtain ⟨k, e, h⟩ := Scd.num_of t4'; cases e; exact h
  clear hA0
  simp only [List.append_nil] at hW'
  have l0 : ∀ x ∈ m0, x.block < W.heap.size := fun x hx => by simpa using hW'.lt x (by simp [hx])
  have l1 : ∀ x ∈ m1, x.block < W.heap.size := fun x hx => by simpa using hW'.lt x (by simp [hx])
  have l2 : ∀ x ∈ m2, x.block < W.heap.size := fun x hx => by simpa using hW'.lt x (by simp [hx])
  have l3 : ∀ x ∈ m3, x.block < W.heap.size := fun x hx => by simpa using hW'.lt x (by simp [hx])
  have l4 : ∀ x ∈ m4, x.block < W.heap.size := fun x hx => by simpa using hW'.lt x (by simp [hx])
  obtain ⟨ps, hl, _⟩ := hL
  obtain ⟨_, _, _, _, _, _, _, _, _, _, hl, _⟩ := hl
  obtain ⟨_, _, _, _, _, _, _, _, _, _, hl, _⟩ := hl
  have hP := pow_of hl
  obtain ⟨_, _, _, _, _, _, _, _, _, _, hl, _⟩ := hl
  have hWd := words_of hl
  refine (kept_any W _ p0 p1 p2 p3 p4 h0 hP hWd h1.1 h1.2 h2.1 h2.2 h3.1 h3.2 h4.1 h4.2).mono fun e W' ⟨he, hb⟩ => ?_
  subst he
  refine ⟨_, rfl, _, _, _, [], m0 ++ (m1 ++ (m2 ++ (m3 ++ (m4 ++ [])))), [], hW', ?_, ?_, rfl, hb.frame _, fun h => by cases h⟩
  · exact trodAll_cons_mk (shut_bool Tryz.underlying4 _) trodAll_mk0
  · exact trodAll_cons_mk (Below.trod laidOut (by kernel_rfl) (of_decide_eq_true (by kernel_rfl)) ⟨fuel0, t0'⟩ hb l0) (trodAll_cons_mk (Below.trod laidOut (by kernel_rfl) (of_decide_eq_true (by kernel_rfl)) ⟨fuel1, t1'⟩ hb l1) (trodAll_cons_mk (Below.trod laidOut (by kernel_rfl) (of_decide_eq_true (by kernel_rfl)) ⟨fuel2, t2'⟩ hb l2) (trodAll_cons_mk (Below.trod laidOut (by kernel_rfl) (of_decide_eq_true (by kernel_rfl)) ⟨fuel3, t3'⟩ hb l3) (trodAll_cons_mk (Below.trod laidOut (by kernel_rfl) (of_decide_eq_true (by kernel_rfl)) ⟨fuel4, t4'⟩ hb l4) trodAll_mk0))))

theorem laid_met (os : Os) : laidMet Tryz.prog Rows.keptRow.laid (({ World.holding Tryz.prog os ⟨#[], #[], []⟩ with heap := (World.holding Tryz.prog os ⟨#[], #[], []⟩).heap.modify 0 (layVar Rows.laid_cellar_source_words) |>.modify 1 (layVar Rows.laid_internal_strconv_uint64pow10) |>.modify 2 (layVar Rows.laid_math_bits_deBruijn32tab) |>.modify 3 (layVar Rows.laid_math_bits_deBruijn64tab) }).forCall (fun _ _ => 0) ⟨#[], #[.slice none 0 0, .int .i64 0, .int .i64 0, .int .i64 0, .int .i64 0], []⟩).memory :=
  laidMet_of_run' 8 (by kernel_rfl) (by kernel_rfl)
theorem reads (os : Os) {H : Type} (enc : TypeId × Value → H) : ∃ places, DataW.whole enc Tryz.prog (({ World.holding Tryz.prog os ⟨#[], #[], []⟩ with heap := (World.holding Tryz.prog os ⟨#[], #[], []⟩).heap.modify 0 (layVar Rows.laid_cellar_source_words) |>.modify 1 (layVar Rows.laid_internal_strconv_uint64pow10) |>.modify 2 (layVar Rows.laid_math_bits_deBruijn32tab) |>.modify 3 (layVar Rows.laid_math_bits_deBruijn64tab) }).forCall (fun _ _ => 0) ⟨#[], #[.slice none 0 0, .int .i64 0, .int .i64 0, .int .i64 0, .int .i64 0], []⟩).memory Tryz.f3.params.toList Rows.keptSpec.vars false #[Value.slice none 0 0, Value.int .i64 0, Value.int .i64 0, Value.int .i64 0, Value.int .i64 0].toList 8 = some ([.nil, .lit (.int .i64 0), .lit (.int .i64 0), .lit (.int .i64 0), .lit (.int .i64 0)], [], places) :=
  ⟨[], by kernel_rfl⟩

set_option maxRecDepth 100000 in
theorem lifted (os : Os) (started : os.Started) (H : Type) (enc : TypeId × Value → H) (F : Stop.Interp) :
    ReturnsInHanded {} Tryz.checked os 3 .any ((OpenSpec.ofChange Rows.keptSpec).preRow enc Tryz.prog Tryz.f3 Rows.keptRow.domain false Rows.keptRow.laid) (((OpenSpec.ofChange Rows.keptSpec).at F).post enc Tryz.prog Tryz.f3 false true false false) := by
  obtain ⟨places, hx⟩ := reads os enc
  refine returnsInHanded_of_row (C := Tryz.checked) (s := OpenSpec.ofChange Rows.keptSpec) own started (by kernel_rfl) Tryz.func3
    (witness_row_at (enc := enc) (C := Tryz.checked) false ({ World.holding Tryz.prog os ⟨#[], #[], []⟩ with heap := (World.holding Tryz.prog os ⟨#[], #[], []⟩).heap.modify 0 (layVar Rows.laid_cellar_source_words) |>.modify 1 (layVar Rows.laid_internal_strconv_uint64pow10) |>.modify 2 (layVar Rows.laid_math_bits_deBruijn32tab) |>.modify 3 (layVar Rows.laid_math_bits_deBruijn64tab) }) #[.slice none 0 0, .int .i64 0, .int .i64 0, .int .i64 0, .int .i64 0] rfl (by kernel_rfl) (by kernel_rfl) (by kernel_rfl)
      (OpenSpec.preRow_of_cond 8 hx (by kernel_rfl) (fun k hk => by cases hk) (by kernel_rfl) (laid_met os))) ?_
  intro W base args ds gs before hval hW _ _ hz hL _ _
  exact contract H enc W base args ds gs before hval hW hz hL

theorem said : Rows.KeptSaid :=
  OpenClaim.holds_of_cond 3 Tryz.f3 rfl rfl rfl rfl rfl rfl rfl ⟨rfl, rfl, rfl, rfl, rfl⟩ rfl rfl rfl rfl rfl (by kernel_rfl) Tryz.func3 (by kernel_rfl)
    (of_decide_eq_true (by kernel_rfl)) (by unfold Func.isWrapper; first | (rw [if_pos (by decide +kernel)]; kernel_rfl) | (rw [if_neg (by decide +kernel)]; exact ⟨rfl, rfl⟩))
    (fun os started H enc _ F => by rw [OpenClaim.pre_eq_preRow]; exact lifted os started H enc F)

theorem plain (f : FuncId) (fn : Func) (hf : Tryz.pinned.checked.prog.funcNamed Rows.keptRow.func = some f) (hfn : Tryz.pinned.checked.prog.funcs[f]? = some fn) :
    false = Tryz.pinned.checked.prog.looks [] ∧ ∀ (j : Nat) t, fn.params[j]? = some t → Tryz.pinned.checked.prog.wantsStandIn t = false := by
  obtain rfl : f = 3 := Option.some.inj ((show Tryz.prog.funcNamed Rows.keptRow.func = some 3 by kernel_rfl).symm.trans hf) |>.symm
  obtain rfl : fn = Tryz.f3 := (Option.some.inj (Tryz.func3.symm.trans hfn)).symm
  refine ⟨by kernel_rfl, fun j t ht => ?_⟩
  rw [Tryz.params3] at ht
  have h9 : t = 22 ∨ t = 3 := by
    have := Array.mem_of_getElem? ht
    simp at this
    omega
  rcases h9 with rfl | rfl
  · exact (show Tryz.prog.wantsStandIn 22 = false by kernel_rfl)
  · exact (show Tryz.prog.wantsStandIn 3 = false by kernel_rfl)

/-- ████ THE CARD ████ -/
theorem card : Rows.KeptCardSaid :=
  Claim7.holds_tied_plain_at .later [] _ _ _ _ said (fun _ h => by cases h) (by kernel_rfl) (fun _ h => by cases h) kept_row_tie rfl ⟨rfl, rfl⟩ (by kernel_rfl) rfl plain (by kernel_rfl)
end Go.Proofs.YtellilpeakpbfabGreatDoor.Krd
namespace Go.Proofs.YtellilpeakpbfabGreatDoor
theorem kept_card : Rows.KeptCardSaid := Krd.card
end Go.Proofs.YtellilpeakpbfabGreatDoor

end
