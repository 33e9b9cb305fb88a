import Derived.Test.YtellilpeakpbfabGreatDoorTgtToo
import Derived.Test.YtellilpeakpbfabGreatDoorCards
import Derived.Test.YtellilpeakpbfabGreatDoorTie
import Derived.Test.YtellilpeakpbfabGreatDoorSiteHToo
import Derived.ProofKit
import Derived.OpenShut
import Derived.Deep.DeepHandedRow
import Derived.Lib.LaidTab
import Derived.SizedLaws
section
/-
  Settled.
-/
set_option linter.unusedVariables false
namespace Go.Proofs.YtellilpeakpbfabGreatDoor
open Go.RowKit

def SdRel (L s D : Nat) (C : Jn.Con) (vc vp : Value) (m : Nat) (w0 : World) (vi : Value) (wr : World) : Prop :=
  ∃ j : Nat, j ≤ m ∧ vi = .int .i64 (j : Int) ∧ ∃ S B f d, Hd L s S B D C f d (· = C) (room C) w0 wr ∧ Rows2 wr vc vp C

set_option maxHeartbeats 8000000 in
set_option maxRecDepth 100000 in
theorem settled_any (w : World) (v u : Value) (ps : List (Int × Int × Int)) (cs : List Int) (hv : StepsOf w v ps) (hu : IntsAt w u cs) (hcl : cs.length ≤ 18000000000000) (hcb : ∀ a ∈ cs, -9223372036854775808 ≤ a ∧ a ≤ 9223372036854775807) (hP : PowAt w) (hWd : WordsAt w) :
    Calls Tryz.prog 6 #[v, u] w fun e w' => e = .returned (.bool true) ∧ Below w.heap.size w w' := by
  have HLV := hide (live_any w v ps hv hP hWd)
  have hlen : ps.length ≤ 6000000000000 := by obtain ⟨_, _, _, _, _, h⟩ := hv; exact h
  obtain ⟨vo, vcap, hvs, -⟩ := hv
  obtain ⟨uo, ucap, hus, hints⟩ := hu
  have HST := hide (fun s S B D C f d n w1 (hs : SiteAt w.heap.size w1 s S B D C f d) (hd : DiskFit d f C n) (hb : Below w.heap.size w w1) => Hd.start hs hd hb hP hWd hP.1)
  have HI := hide hints
  have HCB := hide hcb
  have p7b := Kp.pick_bd (ps.length : Int) 7 (by decide)
  have p5b := Kp.pick_bd (cs.length : Int) 5 (by decide)
  have p7 := fun x => kpick_any (ps.length : Int) 7 (by decide) (by decide) (by omega) (by omega) x
  have p5 := fun x => kpick_any (cs.length : Int) 5 (by decide) (by decide) (by omega) (by omega) x
  rw [show ((7 : Nat) : Int) = 7 from rfl] at p7
  rw [show ((5 : Nat) : Int) = 5 from rfl] at p5
  generalize Kp.pick (ps.length : Int) 7 = q7 at *
  generalize Kp.pick (cs.length : Int) 5 = q5 at *
  have HP7 := hide p7
  have HP5 := hide p5
  clear hP hWd hints hcb p7 p5
  subst hvs hus
  go_enter Tryz.func6, Tryz.ntmps6
  go_wp2_with fail
  refine HLV.out.mono ?_
  rintro e w1 ⟨s, S, B, D, f, d, rfl, hs, hd, -, hb1⟩
  have h1 := HST.out _ _ _ _ _ _ _ _ _ hs hd hb1
  obtain ⟨C0, hC0⟩ : ∃ C, C = ps.foldl Kp.play Jn.none0 := ⟨_, rfl⟩
  rw [← hC0] at h1
  obtain ⟨s0, s1⟩ := h1.cells
  have HCR := hide (fun x (hx : Below w1.heap.size w1 x) => (h1.below hx).crashK (by omega) q7 q5 (by omega) (by omega) (by omega) (by omega))
  clear hs hd hb1 hC0 h1 HLV HST
  go_wp2_with fail
  go_region_held3 (fun w' => w'.cell? ⟨s, 1, none⟩ = some (.pointer (some ⟨D, 0, none⟩)))
    (first | with_reducible exact s1 | with_reducible exact hk1 | go_keep)
    (first | (go_at_call 18; (with_reducible refine (HP7.out _).mono ?_); rintro e wx ⟨rfl, rfl⟩) | (go_at_call 18; (with_reducible refine (HP5.out _).mono ?_); rintro e wx ⟨rfl, rfl⟩) | (go_at_call 16; refine (HCR.out _ (by first | exact Below.refl _ _ | exact Below.drew (Below.refl _ _))).mono ?_; rintro e w2 ⟨rfl, ⟨hk1, hk2⟩, hre⟩))
  have HRE := hide hre
  clear hre HCR s0 s1 HP7 HP5 hk1 hk2
  go_wp2_with fail
  refine HRE.out.mono ?_
  rintro e w3 ⟨rfl, C, S1, B1, f1, d1, hC, h3, -⟩
  have HLS := hide (site_lists h3)
  obtain ⟨c0, c1⟩ := h3.cells
  have HH := hide h3
  have HOK := hide h3.ok
  have hroom := (all_room h3.ok).2
  clear h3 hC HRE
  go_wp2_with fail
  refine HLS.out.mono ?_
  rintro e w4 ⟨co, cn, ck, rfl, hb4, hpr⟩
  have e0 := at_old hb4 c0
  have HPR := hide hpr
  clear hpr hb4 HLS
  go_wp2_with fail
  refine HPR.out.mono ?_
  rintro e w5 ⟨po, pn, pk, rfl, hb5, hrow⟩
  have HR0 : Hid (SdRel w.heap.size s D C (.slice co cn ck) (.slice po pn pk) cs.length w (.int .i64 (0 : Int)) w5) := ⟨0, Nat.zero_le _, rfl, S1, B1, f1, d1, HH.out.below hb5, hrow⟩
  clear hb5 hrow HPR HH c0 c1 e0
  go_wp2_with fail
  go_loopw [9] (fun vi wr => SdRel w.heap.size s D C (.slice co cn ck) (.slice po pn pk) cs.length w vi wr) (fun i _ => cs.length - (intOf i).toNat)
  case atStart => exact HR0.out
  case round =>
    clear HR0
    obtain ⟨j, hj, rfl, S, B, f, d, hh, hrow⟩ := hrel
    by_cases hjl : j < cs.length
    · obtain ⟨g, z, rfl, hcc⟩ := HI.out (by omega)
      obtain ⟨r, hr⟩ : ∃ r : Nat, r = cs.length - 1 - j := ⟨_, rfl⟩
      have hrl : r < cs.length := by omega
      have hri : (cs.length : Int) - 1 - (j : Int) = (r : Int) := by omega
      obtain ⟨xa, hxa⟩ : ∃ p, cs[j]? = some p := ⟨cs[j], List.getElem?_eq_getElem hjl⟩
      obtain ⟨xb, hxb⟩ : ∃ p, cs[r]? = some p := ⟨cs[r], List.getElem?_eq_getElem hrl⟩
      obtain ⟨xa0, xa1⟩ := HCB.out xa (List.mem_of_getElem? hxa)
      obtain ⟨xb0, xb1⟩ := HCB.out xb (List.mem_of_getElem? hxb)
      have HCA := hide (fun x (hx : Below w.heap.size w x) => And.intro (at_old hx (hcc j xa hxa)) (at_old hx (hcc r xb hxb)))
      have ca := at_old hh.low (hcc j xa hxa)
      have cb := at_old hh.low (hcc r xb hxb)
      have t1 : decide ((j : Int) < (cs.length : Int)) = true := by simp; omega
      have w1 : IntKind.i64.wrap ((cs.length : Int) - 1) = (cs.length : Int) - 1 := by simp only [IntKind.wrap_i64]; omega
      have w2 : IntKind.i64.wrap ((cs.length : Int) - 1 - (j : Int)) = (r : Int) := by simp only [IntKind.wrap_i64]; omega
      have HCR := hide (fun x (hx : Below wr.heap.size wr x) => (hh.below hx).crashK (by omega) xa xb xa0 xa1 xb0 xb1)
      have HRF := hide (fun x (g : Fr w.heap.size siteT none wr x) => hrow.fr g)
      obtain ⟨c0, c1⟩ := hh.cells
      have r0 : (0 : Int) ≤ (r : Int) := by omega
      have r1 : (r : Int) < (cs.length : Int) := by omega
      have j0 : (0 : Int) ≤ (j : Int) := by omega
      have j1 : (j : Int) < (cs.length : Int) := by omega
      clear hh hrow hcc hxa hxb hr hri
      go_wp2_with fail
      go_region_held3 (fun w' => w'.cell? ⟨s, 1, none⟩ = some (.pointer (some ⟨D, 0, none⟩)) ∧ w'.cell? ⟨g, z + j, none⟩ = some (.int .i64 xa) ∧ w'.cell? ⟨g, z + r, none⟩ = some (.int .i64 xb))
        (first | with_reducible exact ⟨hk1, HCA.out _ hk2⟩ | go_keep)
        (first | (go_at_call 16; refine (HCR.out _ (by first | exact Below.refl _ _ | exact Below.drew (Below.refl _ _))).mono ?_; rintro e w6 ⟨rfl, ⟨hk1, hk2⟩, hre⟩))
      have HRE := hide hre
      clear hre HCR c0 c1 ca cb hk1 hk2 HCA
      go_wp2_with fail
      refine HRE.out.mono ?_
      rintro e w7 ⟨rfl, C2, S2, B2, f2, d2, hC2, h7, g7⟩
      subst hC2
      have hr7 := HRF.out w7 (by first | exact g7 | exact Fr.undrew g7)
      have HLS := hide (site_lists h7)
      obtain ⟨c0, c1⟩ := h7.cells
      have HH := hide h7
      have HROW := hide hr7
      clear h7 hr7 g7 HRF HRE
      go_wp2_with fail
      refine HLS.out.mono ?_
      rintro e w18 ⟨do2, dn2, dk2, rfl, hb18, hpr⟩
      have e0 := at_old hb18 c0
      have HPR := hide hpr
      clear hpr hb18 HLS
      go_wp2_with fail
      refine HPR.out.mono ?_
      rintro e w19 ⟨qo2, qn2, qk2, rfl, hb19, hrw⟩
      have HSM := hide (rows_same (HROW.out.below hb19) hrw HOK.out)
      have h19 := HH.out.below hb19
      have hr19 := HROW.out.below hb19
      clear HPR HH HROW c0 c1 e0 hrw hb19
      have HH := hide h19
      have HROW := hide hr19
      clear h19 hr19
      go_wp2_with fail
      refine HSM.out.mono ?_
      rintro e w20 ⟨rfl, hb20, hsp⟩
      have HSP := hide hsp
      clear hsp HSM hb20
      go_wp2_with fail
      refine HSP.out.mono ?_
      rintro e w21 ⟨rfl, hb21⟩
      have h21 := HH.out.below hb21
      have hr21 := HROW.out.below hb21
      obtain ⟨n2, hn2, hsz⟩ := h21.sized
      have HSZ := hide (hsz w21 (Below.refl _ _))
      obtain ⟨c0, c1⟩ := h21.cells
      clear HH HROW HSP hb21
      have HROW := hide hr21
      have HH := hide h21
      have t2 : decide (room C2 < n2) = false := by simp; omega
      clear h21 hr21 hn2 hsz
      go_wp2_with fail
      refine HSZ.out.mono ?_
      rintro e w22 ⟨rfl, hb22⟩
      have hr22 := HROW.out.below hb22
      have h22 := HH.out.below hb22
      have HBY := hide (bytes_any w22 _ _ C2 hr22 HOK.out)
      clear hb22 HSZ HROW HH c0 c1
      have HROW := hide hr22
      have HH := hide h22
      clear h22 hr22
      go_wp2_with fail
      refine HBY.out.mono ?_
      rintro e w23 ⟨rfl, hb23⟩
      have HRR : Hid (SdRel w.heap.size s D C2 (.slice co cn ck) (.slice po pn pk) cs.length w (.int .i64 ((j : Int) + 1)) w23) := ⟨j + 1, by omega, by go_num, S2, B2, f2, d2, HH.out.below hb23, HROW.out.below hb23⟩
      clear hb23 HBY HH HROW
      go_wp2_with fail
      go_roundw
      case rel => exact HRR.out
      case measure => simp [intOf]; omega
    · have t1 : decide ((j : Int) < (cs.length : Int)) = false := by simp; omega
      have HLOW := hide hh.low
      clear hh hrow
      go_wp2_with fail
      go_ret
      exact ⟨rfl, HLOW.out⟩
end Go.Proofs.YtellilpeakpbfabGreatDoor

end

section
/-
  The row of the law Settled, and its tied card.
-/
namespace Go.Proofs.YtellilpeakpbfabGreatDoor.Srd
open Go.ChangeShapes Go.WideShapes Go.ChangeAt Go.RowKit
open Go.ChangeMaps (open_string shut_string)
open Ckd (words_of pow_of layVar own)

theorem laidOut : laidOutB Tryz.prog = true := by kernel_rfl

set_option maxRecDepth 100000 in
theorem contract (H : Type) (enc : TypeId × Value → H) (W : World) (base : Nat) (args : Array Value) (ds gs : List (DataW H)) (before : List MemPlace)
    (hval : ∀ (j : Nat) t v, Tryz.f6.params[j]? = some t → args[j]? = some v → Value.okWide Tryz.prog W .any base t v)
    (hW : DataW.Whole enc Tryz.prog Tryz.f6.params.toList Rows.settledSpec.vars false W args.toList ds gs before) (hz : (DataW.weightsEach Tryz.prog (Tryz.f6.params.toList ++ (OpenSpec.ofChange Rows.settledSpec).bare.plain.varTypes Tryz.prog) (ds ++ gs)).all (· ≤ reachBytes) = true) (hL : laidMetH Tryz.prog Rows.settledRow.laid W) :
    Calls Tryz.prog 6 args W fun e W' => ∃ v, e = .returned v ∧ Rows.settledSpec.post enc Tryz.prog Tryz.f6 false true false false W args v W' := by
  have hW' := hW
  obtain ⟨p, q, hA0, hV, rfl, hfz, hnd⟩ := hW
  have hA : DataW.TrodAll enc Tryz.prog W 0 (fun _ => true) true Tryz.f6.params.toList args.toList ds p := hA0
  rw [Tryz.params6] at hA hval hz
  obtain ⟨v0, vs0, d0, ds0, m0, q0, hargs0, rfl, rfl, t0, r0⟩ := trodAll_cons hA
  obtain ⟨v1, vs1, d1, ds1, m1, q1, hargs1, rfl, rfl, t1, r1⟩ := trodAll_cons r0
  obtain ⟨rfl, rfl, rfl⟩ := trodAll_nil r1
  obtain rfl : args = #[v0, v1] := Array.toList_inj.1 (by first | (rw [hargs0, hargs1]) | (rw [hargs0]))
  obtain ⟨rfl, rfl⟩ := trodVars_none hV
  obtain ⟨fuel0, t0'⟩ := t0
  obtain ⟨a0, len0, cap0, rfl⟩ := okWide_slice Tryz.underlying22 (hval 0 22 v0 rfl rfl)
  have w0 : ∀ n ∈ d0.weights Tryz.prog 22, n ≤ reachBytes := fun n hn => of_decide_eq_true (List.all_eq_true.1 hz n (DataW.weights_mem_each (j := 0) (t := 22) (d := d0) rfl rfl n hn))
  obtain ⟨p0, h00⟩ := Scd.steps_of t0'
  have h0 := h00 w0
  obtain ⟨fuel1, t1'⟩ := t1
  obtain ⟨a1, len1, cap1, rfl⟩ := okWide_slice Tryz.underlying48 (hval 1 48 v1 rfl rfl)
  have w1 : ∀ n ∈ d1.weights Tryz.prog 48, n ≤ reachBytes := fun n hn => of_decide_eq_true (List.all_eq_true.1 hz n (DataW.weights_mem_each (j := 1) (t := 48) (d := d1) rfl rfl n hn))
  obtain ⟨p1, h10⟩ := Scd.ints_of t1'
  have h1 := h10 w1
  clear hA0
  simp only [List.append_nil] at hW'
  have l0 : ∀ x ∈ m0, x.block < W.heap.size := fun x hx => by simpa using hW'.lt x (by simp [hx])
  have l1 : ∀ x ∈ m1, x.block < W.heap.size := fun x hx => by simpa using hW'.lt x (by simp [hx])
  obtain ⟨ps, hl, _⟩ := hL
  obtain ⟨_, _, _, _, _, _, _, _, _, _, hl, _⟩ := hl
  obtain ⟨_, _, _, _, _, _, _, _, _, _, hl, _⟩ := hl
  have hP := pow_of hl
  obtain ⟨_, _, _, _, _, _, _, _, _, _, hl, _⟩ := hl
  have hWd := words_of hl
  refine (settled_any W _ _ p0 p1 h0 h1.1 h1.2.2.1 h1.2.2.2 hP hWd).mono fun e W' ⟨he, hb⟩ => ?_
  subst he
  refine ⟨_, rfl, _, _, _, [], m0 ++ (m1 ++ []), [], hW', ?_, ?_, rfl, hb.frame _, fun h => by cases h⟩
  · exact trodAll_cons_mk (shut_bool Tryz.underlying4 _) trodAll_mk0
  · exact trodAll_cons_mk (Below.trod laidOut (by kernel_rfl) (of_decide_eq_true (by kernel_rfl)) ⟨fuel0, t0'⟩ hb l0) (trodAll_cons_mk (Below.trod laidOut (by kernel_rfl) (of_decide_eq_true (by kernel_rfl)) ⟨fuel1, t1'⟩ hb l1) trodAll_mk0)

theorem laid_met (os : Os) : laidMet Tryz.prog Rows.settledRow.laid (({ World.holding Tryz.prog os ⟨#[], #[], []⟩ with heap := (World.holding Tryz.prog os ⟨#[], #[], []⟩).heap.modify 0 (layVar Rows.laid_cellar_source_words) |>.modify 1 (layVar Rows.laid_internal_strconv_uint64pow10) |>.modify 2 (layVar Rows.laid_math_bits_deBruijn32tab) |>.modify 3 (layVar Rows.laid_math_bits_deBruijn64tab) }).forCall (fun _ _ => 0) ⟨#[], #[.slice none 0 0, .slice none 0 0], []⟩).memory :=
  laidMet_of_run' 8 (by kernel_rfl) (by kernel_rfl)
theorem reads (os : Os) {H : Type} (enc : TypeId × Value → H) : ∃ places, DataW.whole enc Tryz.prog (({ World.holding Tryz.prog os ⟨#[], #[], []⟩ with heap := (World.holding Tryz.prog os ⟨#[], #[], []⟩).heap.modify 0 (layVar Rows.laid_cellar_source_words) |>.modify 1 (layVar Rows.laid_internal_strconv_uint64pow10) |>.modify 2 (layVar Rows.laid_math_bits_deBruijn32tab) |>.modify 3 (layVar Rows.laid_math_bits_deBruijn64tab) }).forCall (fun _ _ => 0) ⟨#[], #[.slice none 0 0, .slice none 0 0], []⟩).memory Tryz.f6.params.toList Rows.settledSpec.vars false #[Value.slice none 0 0, Value.slice none 0 0].toList 8 = some ([.nil, .nil], [], places) :=
  ⟨[], by kernel_rfl⟩

set_option maxRecDepth 100000 in
theorem lifted (os : Os) (started : os.Started) (H : Type) (enc : TypeId × Value → H) (F : Stop.Interp) :
    ReturnsInHanded {} Tryz.checked os 6 .any ((OpenSpec.ofChange Rows.settledSpec).preRow enc Tryz.prog Tryz.f6 Rows.settledRow.domain false Rows.settledRow.laid) (((OpenSpec.ofChange Rows.settledSpec).at F).post enc Tryz.prog Tryz.f6 false true false false) := by
  obtain ⟨places, hx⟩ := reads os enc
  refine returnsInHanded_of_row (C := Tryz.checked) (s := OpenSpec.ofChange Rows.settledSpec) own started (by kernel_rfl) Tryz.func6
    (witness_row_at (enc := enc) (C := Tryz.checked) false ({ World.holding Tryz.prog os ⟨#[], #[], []⟩ with heap := (World.holding Tryz.prog os ⟨#[], #[], []⟩).heap.modify 0 (layVar Rows.laid_cellar_source_words) |>.modify 1 (layVar Rows.laid_internal_strconv_uint64pow10) |>.modify 2 (layVar Rows.laid_math_bits_deBruijn32tab) |>.modify 3 (layVar Rows.laid_math_bits_deBruijn64tab) }) #[.slice none 0 0, .slice none 0 0] rfl (by kernel_rfl) (by kernel_rfl) (by kernel_rfl)
      (OpenSpec.preRow_of_cond 8 hx (by kernel_rfl) (fun k hk => by cases hk) (by kernel_rfl) (laid_met os))) ?_
  intro W base args ds gs before hval hW _ _ hz hL _ _
  exact contract H enc W base args ds gs before hval hW hz hL

theorem said : Rows.SettledSaid :=
  OpenClaim.holds_of_cond 6 Tryz.f6 rfl rfl rfl rfl rfl rfl rfl ⟨rfl, rfl, rfl, rfl, rfl⟩ rfl rfl rfl rfl rfl (by kernel_rfl) Tryz.func6 (by kernel_rfl)
    (of_decide_eq_true (by kernel_rfl)) (by unfold Func.isWrapper; first | (rw [if_pos (by decide +kernel)]; kernel_rfl) | (rw [if_neg (by decide +kernel)]; exact ⟨rfl, rfl⟩))
    (fun os started H enc _ F => by rw [OpenClaim.pre_eq_preRow]; exact lifted os started H enc F)

theorem plain (f : FuncId) (fn : Func) (hf : Tryz.pinned.checked.prog.funcNamed Rows.settledRow.func = some f) (hfn : Tryz.pinned.checked.prog.funcs[f]? = some fn) :
    false = Tryz.pinned.checked.prog.looks [] ∧ ∀ (j : Nat) t, fn.params[j]? = some t → Tryz.pinned.checked.prog.wantsStandIn t = false := by
  obtain rfl : f = 6 := Option.some.inj ((show Tryz.prog.funcNamed Rows.settledRow.func = some 6 by kernel_rfl).symm.trans hf) |>.symm
  obtain rfl : fn = Tryz.f6 := (Option.some.inj (Tryz.func6.symm.trans hfn)).symm
  refine ⟨by kernel_rfl, fun j t ht => ?_⟩
  rw [Tryz.params6] at ht
  have h9 : t = 22 ∨ t = 48 := by
    have := Array.mem_of_getElem? ht
    simp at this
    omega
  rcases h9 with rfl | rfl
  · exact (show Tryz.prog.wantsStandIn 22 = false by kernel_rfl)
  · exact (show Tryz.prog.wantsStandIn 48 = false by kernel_rfl)

/-- ████ THE CARD ████ -/
theorem card : Rows.SettledCardSaid :=
  Claim7.holds_tied_plain_at .later [] _ _ _ _ said (fun _ h => by cases h) (by kernel_rfl) (fun _ h => by cases h) settled_row_tie rfl ⟨rfl, rfl⟩ (by kernel_rfl) rfl plain (by kernel_rfl)
end Go.Proofs.YtellilpeakpbfabGreatDoor.Srd
namespace Go.Proofs.YtellilpeakpbfabGreatDoor
theorem settled_card : Rows.SettledCardSaid := Srd.card
end Go.Proofs.YtellilpeakpbfabGreatDoor

end
