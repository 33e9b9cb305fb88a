import Derived.Test.YtellilpeakpbfabGreatDoorDnPToo
import Derived.BigRegion
section
/-
  The walk of the document's Call.
-/
namespace Go.Proofs.YtellilpeakpbfabGreatDoor
open Go.RowKit
open Tr (Ex Sm Sms Tok kind)

/-- what the document's Call answers. -/
def CrPost (sp : Value) (r : Jn.Con × Int × Int × Nat × Int) (w : World) (e : Ending) (w' : World) : Prop :=
  ∃ cv, e = .returned (.tuple #[.agg #[cv, sp], .agg #[.int .i64 r.2.1, .int .i64 r.2.2.1], .int .i64 (r.2.2.2.1 : Int), .int .i64 r.2.2.2.2]) ∧ CRow w' 0 cv r.1.list ∧ Below w.heap.size w w'

/-- the blocks that Call begins with. -/
structure CbAt (w : World) (w0 : World) (R : Nat) (sc sp : Value) : Prop where
  old : Below w.heap.size w w0
  con : w0.heap[R]? = some (.cells #[sc, sp] 146 (0, 0))
  rc : w0.heap[R + 1]? = some (.cells #[.slice none 0 0, .slice none 0 0] 146 (0, 0))
  ro : w0.heap[R + 1 + 1]? = some (.cells #[.int .i64 0, .int .i64 0] 45 (0, 0))
  le : w.heap.size ≤ R
  sz : w0.heap.size = R + 3
theorem cb_start (w : World) (sc sp : Value) : CbAt w (((w.alloc (.cells #[sc, sp] 146)).alloc (.cells #[.slice none 0 0, .slice none 0 0] 146)).alloc (.cells #[.int .i64 0, .int .i64 0] 45)) w.heap.size sc sp := by
  refine ⟨(((Below.refl _ _).alloc (Nat.le_refl _) _).alloc (by simp) _).alloc (by simp; omega) _, ?_, ?_, ?_, Nat.le_refl _, by simp⟩
  · rw [Below.heap_alloc _ _ _ (by simp; omega), Below.heap_alloc _ _ _ (by simp)]
    exact heap_alloc_new w _
  · rw [Below.heap_alloc _ _ _ (by simp)]
    have := heap_alloc_new (w.alloc (.cells #[sc, sp] 146)) (.cells #[.slice none 0 0, .slice none 0 0] 146)
    simpa using this
  · have := heap_alloc_new ((w.alloc (.cells #[sc, sp] 146)).alloc (.cells #[.slice none 0 0, .slice none 0 0] 146)) (.cells #[.int .i64 0, .int .i64 0] 45)
    simpa using this
theorem CbAt.below {w w0 w1 : World} {R : Nat} {sc sp : Value} (h : CbAt w w0 R sc sp) (hb : Below (R + 3) w0 w1) : Below w.heap.size w w1 ∧ w1.heap[R]? = some (.cells #[sc, sp] 146 (0, 0)) ∧ w1.heap[R + 1]? = some (.cells #[.slice none 0 0, .slice none 0 0] 146 (0, 0)) ∧ w1.heap[R + 1 + 1]? = some (.cells #[.int .i64 0, .int .i64 0] 45 (0, 0)) :=
  ⟨h.old.trans (hb.mono (by have := h.le; omega)), (hb.block R (by omega)).trans h.con, (hb.block (R + 1) (by omega)).trans h.rc, (hb.block (R + 1 + 1) (by omega)).trans h.ro⟩

/-- the four cells of the answer. -/
theorem cr_four {w w1 : World} {R : Nat} (hb : Below w.heap.size w w1) (hle : w.heap.size ≤ R) (rc : w1.heap[R + 1]? = some (.cells #[.slice none 0 0, .slice none 0 0] 146 (0, 0))) (ro : w1.heap[R + 1 + 1]? = some (.cells #[.int .i64 0, .int .i64 0] 45 (0, 0))) (a b c d : Value) :
    Below w.heap.size w ((((w1.setCell ⟨R + 1, 0, none⟩ a).setCell ⟨R + 1, 1, none⟩ b).setCell ⟨R + 1 + 1, 0, none⟩ c).setCell ⟨R + 1 + 1, 1, none⟩ d) ∧
    ∀ cv l, CRow w1 0 cv l → CRow ((((w1.setCell ⟨R + 1, 0, none⟩ a).setCell ⟨R + 1, 1, none⟩ b).setCell ⟨R + 1 + 1, 0, none⟩ c).setCell ⟨R + 1 + 1, 1, none⟩ d) 0 cv l := by
  refine ⟨(((hb.setCell (p := ⟨R + 1, 0, none⟩) (by show w.heap.size ≤ R + 1; omega) _).setCell (p := ⟨R + 1, 1, none⟩) (by show w.heap.size ≤ R + 1; omega) _).setCell (p := ⟨R + 1 + 1, 0, none⟩) (by show w.heap.size ≤ R + 1 + 1; omega) _).setCell (p := ⟨R + 1 + 1, 1, none⟩) (by show w.heap.size ≤ R + 1 + 1; omega) _, fun cv l h => ?_⟩
  have f1 : Fr R [146] none w1 (w1.setCell ⟨R + 1, 0, none⟩ a) := (fr_setCell w1 (R + 1) 0 a (by omega)).weak rc
  have rc1 := heap_setCell_same w1 (R + 1) 0 _ _ a rc
  have f2 : Fr R [146] none (w1.setCell ⟨R + 1, 0, none⟩ a) _ := (fr_setCell (w1.setCell ⟨R + 1, 0, none⟩ a) (R + 1) 1 b (by omega)).weak rc1
  have f12 := f1.trans f2
  have h2 := own_fr h f12 (by decide) (.inl rfl)
  have ro2 : ((w1.setCell ⟨R + 1, 0, none⟩ a).setCell ⟨R + 1, 1, none⟩ b).heap[R + 1 + 1]? = some (.cells #[.int .i64 0, .int .i64 0] 45 (0, 0)) := f12.block _ _ _ _ ro (by decide) (by simp)
  have f3 : Fr R [45] none ((w1.setCell ⟨R + 1, 0, none⟩ a).setCell ⟨R + 1, 1, none⟩ b) _ := (fr_setCell ((w1.setCell ⟨R + 1, 0, none⟩ a).setCell ⟨R + 1, 1, none⟩ b) (R + 1 + 1) 0 c (by omega)).weak ro2
  have ro3 := heap_setCell_same _ (R + 1 + 1) 0 _ _ c ro2
  have f4 : Fr R [45] none (((w1.setCell ⟨R + 1, 0, none⟩ a).setCell ⟨R + 1, 1, none⟩ b).setCell ⟨R + 1 + 1, 0, none⟩ c) _ := (fr_setCell (((w1.setCell ⟨R + 1, 0, none⟩ a).setCell ⟨R + 1, 1, none⟩ b).setCell ⟨R + 1 + 1, 0, none⟩ c) (R + 1 + 1) 1 d (by omega)).weak ro3
  exact own_fr h2 (f3.trans f4) (by decide) (.inl rfl)

set_option maxHeartbeats 4000000 in
set_option maxRecDepth 100000 in
theorem refCall_none (C : Jn.Con) (sc sp v : Value) (n : ByteArray) (args : List Int) (fuel : Int) (w : World) (h : CRow w 0 sc C.list) (hp : PRow w 0 sp C.procs) (hok : Jn.Ok C) (hv : IntsAt w v args) (hs : srcL C.procs n.data.toList = none) :
    Calls Tryz.prog 120 #[.agg #[sc, sp], .string n, v, .int .i64 fuel] w (CrPost sp (Rn.dcall C n.data.toList args fuel) w) := by
  obtain ⟨q, hq⟩ : ∃ q, q = Rn.dcall C n.data.toList args fuel := ⟨_, rfl⟩
  rw [← hq]
  unfold Rn.dcall at hq
  rw [hs] at hq
  simp only at hq
  have HQ := hide hq
  have HROW := hide h
  obtain ⟨so, sk, rfl⟩ := crow_slice h
  obtain ⟨po, pk, rfl, -⟩ := hp.shape
  obtain ⟨ao, cap, rfl, -⟩ := hv
  have hcnt := hok.cnt
  obtain ⟨w0, hw0⟩ : ∃ w0, w0 = ((w.alloc (.cells #[.slice so C.list.length sk, .slice po C.procs.length pk] 146)).alloc (.cells #[.slice none 0 0, .slice none 0 0] 146)).alloc (.cells #[.int .i64 0, .int .i64 0] 45) := ⟨_, rfl⟩
  have hcb := cb_start w (.slice so C.list.length sk) (.slice po C.procs.length pk)
  rw [← hw0] at hcb
  have hpr := proc_any 0 (.slice po C.procs.length pk) C.procs n w0 (hp.below hcb.old) (by omega)
  rw [hs] at hpr
  have HPR := hide hpr
  obtain ⟨R, hR⟩ : ∃ R, R = w.heap.size := ⟨_, rfl⟩
  rw [← hR] at hcb
  have HCB := hide hcb
  have c0 : w0.cell? ⟨R, 0, none⟩ = some (.slice so C.list.length sk) := (cell_of_row w0 R 0 _ _ _ hcb.con).trans rfl
  have c1 : w0.cell? ⟨R, 1, none⟩ = some (.slice po C.procs.length pk) := (cell_of_row w0 R 1 _ _ _ hcb.con).trans rfl
  have r0 : w0.cell? ⟨R + 1, 0, none⟩ = some (.slice none 0 0) := (cell_of_row w0 (R + 1) 0 _ _ _ hcb.rc).trans rfl
  have r1 : w0.cell? ⟨R + 1, 1, none⟩ = some (.slice none 0 0) := (cell_of_row w0 (R + 1) 1 _ _ _ hcb.rc).trans rfl
  have u0 : w0.cell? ⟨R + 1 + 1, 0, none⟩ = some (.int .i64 0) := (cell_of_row w0 (R + 1 + 1) 0 _ _ _ hcb.ro).trans rfl
  have u1 : w0.cell? ⟨R + 1 + 1, 1, none⟩ = some (.int .i64 0) := (cell_of_row w0 (R + 1 + 1) 1 _ _ _ hcb.ro).trans rfl
  have fr0 : w0.frozen? ⟨R + 1, 0, none⟩ = false := frozen_of_row w0 _ 0 _ _ hcb.rc
  have fr1 : w0.frozen? ⟨R + 1, 1, none⟩ = false := frozen_of_row w0 _ 1 _ _ hcb.rc
  have fu0 : w0.frozen? ⟨R + 1 + 1, 0, none⟩ = false := frozen_of_row w0 _ 0 _ _ hcb.ro
  have fu1 : w0.frozen? ⟨R + 1 + 1, 1, none⟩ = false := frozen_of_row w0 _ 1 _ _ hcb.ro
  generalize C.list.length = sn at *
  generalize C.procs.length = pn at *
  clear hp hok h hq hpr hcb hs
  go_enter Tryz.func120, Tryz.ntmps120
  go_upto_region 1 with fail
  rw [← hw0, ← hR]
  clear hw0 hR
  go_wp2_with fail
  refine HPR.out.mono ?_
  rintro e w2 ⟨rfl, rfl⟩
  clear HPR
  have HF4 := hide (cr_four HCB.out.old HCB.out.le HCB.out.rc HCB.out.ro (.slice so sn sk) (.slice po pn pk) (.int .i64 0) (.int .i64 0))
  go_wp2
  obtain ⟨s0, s1, s2, s3⟩ := out_four (A := R + 1) (D := R + 1 + 1) (a := .slice so sn sk) (b := .slice po pn pk) (c := .int .i64 0) (d := .int .i64 0) (by omega) r0 r1 u0 u1
  refine bodyPost_ret (v := .tuple #[.agg #[.slice so sn sk, .slice po pn pk], .agg #[.int .i64 0, .int .i64 0], .int .i64 0, .int .i64 3]) (by simp [results, Tryz.results120, go_sem, s0, s1, s2, s3]) rfl ?_
  rw [HQ.out]
  exact ⟨_, rfl, HF4.out.2 _ _ (HROW.out.below HCB.out.old), HF4.out.1⟩
end Go.Proofs.YtellilpeakpbfabGreatDoor

end

section
/-
  The walk of the document's Call: arguments that may not be; the source is worked out.
-/
namespace Go.Proofs.YtellilpeakpbfabGreatDoor
open Go.RowKit
open Tr (Ex Sm Sms Tok kind)

def BdRel (b0 : Bool) (l : List Int) (bad i _x : Value) : Prop := ∃ k : Nat, k ≤ l.length ∧ i = .int .i64 k ∧ bad = .bool (b0 || !((l.take k).all Rn.inb))
theorem may_split (args : List Int) (fuel : Int) : Rn.may args fuel = (!(decide (4 < args.length) || decide (fuel < 0) || decide (10000 < fuel)) && args.all Rn.inb) := by
  unfold Rn.may
  have e1 : decide (args.length ≤ 4) = !decide (4 < args.length) := by by_cases h : args.length ≤ 4 <;> simp [h] <;> omega
  have e2 : decide (0 ≤ fuel) = !decide (fuel < 0) := by by_cases h : 0 ≤ fuel <;> simp [h] <;> omega
  have e3 : decide (fuel ≤ 10000) = !decide (10000 < fuel) := by by_cases h : fuel ≤ 10000 <;> simp [h] <;> omega
  rw [e1, e2, e3]
  simp [Bool.not_or]

set_option maxHeartbeats 4000000 in
set_option maxRecDepth 100000 in
theorem refCall_bad (C : Jn.Con) (sc sp v : Value) (n : ByteArray) (args : List Int) (fuel : Int) (w : World) (src : List UInt8) (h : CRow w 0 sc C.list) (hp : PRow w 0 sp C.procs) (hok : Jn.Ok C) (hv : IntsAt w v args) (hlen : args.length ≤ 4611686018427387904) (hab : ∀ a ∈ args, -9223372036854775808 ≤ a ∧ a ≤ 9223372036854775807)
    (hs : srcL C.procs n.data.toList = some src) (hm : Rn.may args fuel = false) :
    Calls Tryz.prog 120 #[.agg #[sc, sp], .string n, v, .int .i64 fuel] w (CrPost sp (Rn.dcall C n.data.toList args fuel) w) := by
  obtain ⟨q, hq⟩ : ∃ q, q = Rn.dcall C n.data.toList args fuel := ⟨_, rfl⟩
  rw [← hq]
  have hrun : Rn.run C src args fuel = (0, 0, [], 6) := by unfold Rn.run; rw [if_pos hm]
  unfold Rn.dcall at hq
  rw [hs] at hq
  simp only [hrun] at hq
  have hq2 : q = (C, 0, 0, 0, 6) := by rw [hq]; rfl
  have HQ := hide hq2
  have HROW := hide h
  clear hq hrun hq2
  obtain ⟨so, sk, rfl⟩ := crow_slice h
  obtain ⟨po, pk, rfl, -⟩ := hp.shape
  have hcnt := hok.cnt
  obtain ⟨w0, hw0⟩ : ∃ w0, w0 = ((w.alloc (.cells #[.slice so C.list.length sk, .slice po C.procs.length pk] 146)).alloc (.cells #[.slice none 0 0, .slice none 0 0] 146)).alloc (.cells #[.int .i64 0, .int .i64 0] 45) := ⟨_, rfl⟩
  have hcb := cb_start w (.slice so C.list.length sk) (.slice po C.procs.length pk)
  rw [← hw0] at hcb
  have hpr := proc_any 0 (.slice po C.procs.length pk) C.procs n w0 (hp.below hcb.old) (by omega)
  rw [hs] at hpr
  simp only [Option.getD_some, Option.isSome_some] at hpr
  have HPR := hide hpr
  obtain ⟨R, hR⟩ : ∃ R, R = w.heap.size := ⟨_, rfl⟩
  rw [← hR] at hcb
  have HCB := hide hcb
  have c0 : w0.cell? ⟨R, 0, none⟩ = some (.slice so C.list.length sk) := (cell_of_row w0 R 0 _ _ _ hcb.con).trans rfl
  have c1 : w0.cell? ⟨R, 1, none⟩ = some (.slice po C.procs.length pk) := (cell_of_row w0 R 1 _ _ _ hcb.con).trans rfl
  have r0 : w0.cell? ⟨R + 1, 0, none⟩ = some (.slice none 0 0) := (cell_of_row w0 (R + 1) 0 _ _ _ hcb.rc).trans rfl
  have r1 : w0.cell? ⟨R + 1, 1, none⟩ = some (.slice none 0 0) := (cell_of_row w0 (R + 1) 1 _ _ _ hcb.rc).trans rfl
  have u0 : w0.cell? ⟨R + 1 + 1, 0, none⟩ = some (.int .i64 0) := (cell_of_row w0 (R + 1 + 1) 0 _ _ _ hcb.ro).trans rfl
  have u1 : w0.cell? ⟨R + 1 + 1, 1, none⟩ = some (.int .i64 0) := (cell_of_row w0 (R + 1 + 1) 1 _ _ _ hcb.ro).trans rfl
  have fr0 : w0.frozen? ⟨R + 1, 0, none⟩ = false := frozen_of_row w0 _ 0 _ _ hcb.rc
  have fr1 : w0.frozen? ⟨R + 1, 1, none⟩ = false := frozen_of_row w0 _ 1 _ _ hcb.rc
  have fu0 : w0.frozen? ⟨R + 1 + 1, 0, none⟩ = false := frozen_of_row w0 _ 0 _ _ hcb.ro
  have fu1 : w0.frozen? ⟨R + 1 + 1, 1, none⟩ = false := frozen_of_row w0 _ 1 _ _ hcb.ro
  have hv2 := hv.below HCB.out.old
  obtain ⟨ao, cap, rfl, hvc⟩ := hv2
  have HVC := hide hvc
  have HAB := hide hab
  have hms := may_split args fuel
  rw [hm] at hms
  have HF4 := hide (cr_four HCB.out.old HCB.out.le HCB.out.rc HCB.out.ro (.slice so C.list.length sk) (.slice po C.procs.length pk) (.int .i64 0) (.int .i64 0))
  obtain ⟨s0, s1, s2, s3⟩ := out_four (A := R + 1) (D := R + 1 + 1) (a := .slice so C.list.length sk) (b := .slice po C.procs.length pk) (c := .int .i64 0) (d := .int .i64 0) (by omega) r0 r1 u0 u1
  have HS4 := hide (And.intro s0 (And.intro s1 (And.intro s2 s3)))
  generalize C.list.length = sn at *
  generalize C.procs.length = pn at *
  clear hp hok h hpr hcb hs hv hvc hab s0 s1 s2 s3 hcnt
  obtain ⟨b0, hb0⟩ : ∃ b0, b0 = (decide (4 < args.length) || decide (fuel < 0) || decide (10000 < fuel)) := ⟨_, rfl⟩
  rw [← hb0] at hms
  have HMS := hide hms
  clear hms hm
  have e4 : decide (4 < args.length) = decide ((4 : Int) < (args.length : Int)) := by by_cases h : 4 < args.length <;> simp [h] <;> omega
  rw [e4] at hb0
  clear e4
  have hcase : (decide ((4 : Int) < (args.length : Int)) = true ∧ b0 = true) ∨ (decide ((4 : Int) < (args.length : Int)) = false ∧ decide (fuel < 0) = true ∧ b0 = true) ∨ (decide ((4 : Int) < (args.length : Int)) = false ∧ decide (fuel < 0) = false ∧ decide (10000 < fuel) = true ∧ b0 = true) ∨ (decide ((4 : Int) < (args.length : Int)) = false ∧ decide (fuel < 0) = false ∧ decide (10000 < fuel) = false ∧ b0 = false) := by
    rw [hb0]
    cases decide ((4 : Int) < (args.length : Int)) <;> cases decide (fuel < 0) <;> cases decide (10000 < fuel) <;> simp
  clear hb0
  rcases hcase with ⟨t1, rfl⟩ | ⟨t1, t2, rfl⟩ | ⟨t1, t2, t3, rfl⟩ | ⟨t1, t2, t3, rfl⟩
  all_goals
    go_enter Tryz.func120, Tryz.ntmps120
    go_upto_region 1 with fail
    rw [← hw0, ← hR]
    clear hw0 hR
    go_wp2_with fail
    refine HPR.out.mono ?_
    rintro e w2 ⟨rfl, rfl⟩
    clear HPR
    go_wp2
    clear t1
    try clear t2
    try clear t3
  · go_loop [14, 15, 16] (fun bad i x => BdRel true args bad i x) (fun _ i _ => args.length - (intOf i).toNat)
    case atStart => exact ⟨0, Nat.zero_le _, rfl, rfl⟩
    case round =>
      obtain ⟨k, hk, rfl, rfl⟩ := hrel
      obtain ⟨bb, hbb⟩ : ∃ bb, bb = (true || !((args.take k).all Rn.inb)) := ⟨_, rfl⟩
      rw [← hbb]
      have HBB := hide hbb
      clear hbb
      by_cases hlt : k < args.length
      · have tk : decide (k < args.length) = true := by simp; omega
        have tk2 : decide ((k : Int) < (args.length : Int)) = true := by simp; omega
        obtain ⟨g, z, rfl, hcs⟩ := HVC.out (by omega)
        obtain ⟨a, ha⟩ : ∃ a, args[k]? = some a := ⟨args[k], by simp [hlt]⟩
        have d1 := hcs k a ha
        have hab := HAB.out a (List.mem_of_getElem? ha)
        have HWI := hide (fun w => within_any a w hab.1 hab.2)
        have HST := hide (all_at args k a ha)
        clear hcs ha hab
        go_wp2_with fail
        refine (HWI.out _).mono ?_
        rintro e w3 ⟨rfl, rfl⟩
        clear HWI
        have HNX : Hid ((true || !((args.take (k + 1)).all Rn.inb)) = (bb || !(Jn.isVal a))) := by
          show _ = _
          rw [HST.out, HBB.out]
          show (true || !((args.take k).all Rn.inb && Jn.isVal a)) = _
          simp [Bool.not_and]
        cases hbv : bb with
        | true =>
          go_wp2
          go_round
          case rel =>
            refine ⟨k + 1, by omega, by go_num, ?_⟩
            rw [HNX.out, hbv]; rfl
          case measure => simp [intOf]; omega
        | false =>
          cases hiv : Jn.isVal a with
          | true =>
            go_wp2
            go_round
            case rel =>
              refine ⟨k + 1, by omega, by go_num, ?_⟩
              rw [HNX.out, hbv, hiv]; rfl
            case measure => simp [intOf]; omega
          | false =>
            go_wp2
            go_round
            case rel =>
              refine ⟨k + 1, by omega, by go_num, ?_⟩
              rw [HNX.out, hbv, hiv]; rfl
            case measure => simp [intOf]; omega
      · have tk : decide (k < args.length) = false := by simp; omega
        have tk2 : decide ((k : Int) < (args.length : Int)) = false := by simp; omega
        have hbt : bb = true := by
          rw [HBB.out, List.take_of_length_le (by omega)]
          have hh := HMS.out
          revert hh
          cases args.all Rn.inb <;> simp
        subst hbt
        clear HBB HVC HAB HMS
        go_wp2
        obtain ⟨s0, s1, s2, s3⟩ := HS4.out
        refine bodyPost_ret (v := .tuple #[.agg #[.slice so sn sk, .slice po pn pk], .agg #[.int .i64 0, .int .i64 0], .int .i64 0, .int .i64 6]) (by simp [results, Tryz.results120, go_sem, s0, s1, s2, s3]) rfl ?_
        rw [HQ.out]
        exact ⟨_, rfl, HF4.out.2 _ _ (HROW.out.below HCB.out.old), HF4.out.1⟩
  · go_loop [14, 15, 16] (fun bad i x => BdRel true args bad i x) (fun _ i _ => args.length - (intOf i).toNat)
    case atStart => exact ⟨0, Nat.zero_le _, rfl, rfl⟩
    case round =>
      obtain ⟨k, hk, rfl, rfl⟩ := hrel
      obtain ⟨bb, hbb⟩ : ∃ bb, bb = (true || !((args.take k).all Rn.inb)) := ⟨_, rfl⟩
      rw [← hbb]
      have HBB := hide hbb
      clear hbb
      by_cases hlt : k < args.length
      · have tk : decide (k < args.length) = true := by simp; omega
        have tk2 : decide ((k : Int) < (args.length : Int)) = true := by simp; omega
        obtain ⟨g, z, rfl, hcs⟩ := HVC.out (by omega)
        obtain ⟨a, ha⟩ : ∃ a, args[k]? = some a := ⟨args[k], by simp [hlt]⟩
        have d1 := hcs k a ha
        have hab := HAB.out a (List.mem_of_getElem? ha)
        have HWI := hide (fun w => within_any a w hab.1 hab.2)
        have HST := hide (all_at args k a ha)
        clear hcs ha hab
        go_wp2_with fail
        refine (HWI.out _).mono ?_
        rintro e w3 ⟨rfl, rfl⟩
        clear HWI
        have HNX : Hid ((true || !((args.take (k + 1)).all Rn.inb)) = (bb || !(Jn.isVal a))) := by
          show _ = _
          rw [HST.out, HBB.out]
          show (true || !((args.take k).all Rn.inb && Jn.isVal a)) = _
          simp [Bool.not_and]
        cases hbv : bb with
        | true =>
          go_wp2
          go_round
          case rel =>
            refine ⟨k + 1, by omega, by go_num, ?_⟩
            rw [HNX.out, hbv]; rfl
          case measure => simp [intOf]; omega
        | false =>
          cases hiv : Jn.isVal a with
          | true =>
            go_wp2
            go_round
            case rel =>
              refine ⟨k + 1, by omega, by go_num, ?_⟩
              rw [HNX.out, hbv, hiv]; rfl
            case measure => simp [intOf]; omega
          | false =>
            go_wp2
            go_round
            case rel =>
              refine ⟨k + 1, by omega, by go_num, ?_⟩
              rw [HNX.out, hbv, hiv]; rfl
            case measure => simp [intOf]; omega
      · have tk : decide (k < args.length) = false := by simp; omega
        have tk2 : decide ((k : Int) < (args.length : Int)) = false := by simp; omega
        have hbt : bb = true := by
          rw [HBB.out, List.take_of_length_le (by omega)]
          have hh := HMS.out
          revert hh
          cases args.all Rn.inb <;> simp
        subst hbt
        clear HBB HVC HAB HMS
        go_wp2
        obtain ⟨s0, s1, s2, s3⟩ := HS4.out
        refine bodyPost_ret (v := .tuple #[.agg #[.slice so sn sk, .slice po pn pk], .agg #[.int .i64 0, .int .i64 0], .int .i64 0, .int .i64 6]) (by simp [results, Tryz.results120, go_sem, s0, s1, s2, s3]) rfl ?_
        rw [HQ.out]
        exact ⟨_, rfl, HF4.out.2 _ _ (HROW.out.below HCB.out.old), HF4.out.1⟩
  · go_loop [14, 15, 16] (fun bad i x => BdRel true args bad i x) (fun _ i _ => args.length - (intOf i).toNat)
    case atStart => exact ⟨0, Nat.zero_le _, rfl, rfl⟩
    case round =>
      obtain ⟨k, hk, rfl, rfl⟩ := hrel
      obtain ⟨bb, hbb⟩ : ∃ bb, bb = (true || !((args.take k).all Rn.inb)) := ⟨_, rfl⟩
      rw [← hbb]
      have HBB := hide hbb
      clear hbb
      by_cases hlt : k < args.length
      · have tk : decide (k < args.length) = true := by simp; omega
        have tk2 : decide ((k : Int) < (args.length : Int)) = true := by simp; omega
        obtain ⟨g, z, rfl, hcs⟩ := HVC.out (by omega)
        obtain ⟨a, ha⟩ : ∃ a, args[k]? = some a := ⟨args[k], by simp [hlt]⟩
        have d1 := hcs k a ha
        have hab := HAB.out a (List.mem_of_getElem? ha)
        have HWI := hide (fun w => within_any a w hab.1 hab.2)
        have HST := hide (all_at args k a ha)
        clear hcs ha hab
        go_wp2_with fail
        refine (HWI.out _).mono ?_
        rintro e w3 ⟨rfl, rfl⟩
        clear HWI
        have HNX : Hid ((true || !((args.take (k + 1)).all Rn.inb)) = (bb || !(Jn.isVal a))) := by
          show _ = _
          rw [HST.out, HBB.out]
          show (true || !((args.take k).all Rn.inb && Jn.isVal a)) = _
          simp [Bool.not_and]
        cases hbv : bb with
        | true =>
          go_wp2
          go_round
          case rel =>
            refine ⟨k + 1, by omega, by go_num, ?_⟩
            rw [HNX.out, hbv]; rfl
          case measure => simp [intOf]; omega
        | false =>
          cases hiv : Jn.isVal a with
          | true =>
            go_wp2
            go_round
            case rel =>
              refine ⟨k + 1, by omega, by go_num, ?_⟩
              rw [HNX.out, hbv, hiv]; rfl
            case measure => simp [intOf]; omega
          | false =>
            go_wp2
            go_round
            case rel =>
              refine ⟨k + 1, by omega, by go_num, ?_⟩
              rw [HNX.out, hbv, hiv]; rfl
            case measure => simp [intOf]; omega
      · have tk : decide (k < args.length) = false := by simp; omega
        have tk2 : decide ((k : Int) < (args.length : Int)) = false := by simp; omega
        have hbt : bb = true := by
          rw [HBB.out, List.take_of_length_le (by omega)]
          have hh := HMS.out
          revert hh
          cases args.all Rn.inb <;> simp
        subst hbt
        clear HBB HVC HAB HMS
        go_wp2
        obtain ⟨s0, s1, s2, s3⟩ := HS4.out
        refine bodyPost_ret (v := .tuple #[.agg #[.slice so sn sk, .slice po pn pk], .agg #[.int .i64 0, .int .i64 0], .int .i64 0, .int .i64 6]) (by simp [results, Tryz.results120, go_sem, s0, s1, s2, s3]) rfl ?_
        rw [HQ.out]
        exact ⟨_, rfl, HF4.out.2 _ _ (HROW.out.below HCB.out.old), HF4.out.1⟩
  · go_loop [14, 15, 16] (fun bad i x => BdRel false args bad i x) (fun _ i _ => args.length - (intOf i).toNat)
    case atStart => exact ⟨0, Nat.zero_le _, rfl, rfl⟩
    case round =>
      obtain ⟨k, hk, rfl, rfl⟩ := hrel
      obtain ⟨bb, hbb⟩ : ∃ bb, bb = (false || !((args.take k).all Rn.inb)) := ⟨_, rfl⟩
      rw [← hbb]
      have HBB := hide hbb
      clear hbb
      by_cases hlt : k < args.length
      · have tk : decide (k < args.length) = true := by simp; omega
        have tk2 : decide ((k : Int) < (args.length : Int)) = true := by simp; omega
        obtain ⟨g, z, rfl, hcs⟩ := HVC.out (by omega)
        obtain ⟨a, ha⟩ : ∃ a, args[k]? = some a := ⟨args[k], by simp [hlt]⟩
        have d1 := hcs k a ha
        have hab := HAB.out a (List.mem_of_getElem? ha)
        have HWI := hide (fun w => within_any a w hab.1 hab.2)
        have HST := hide (all_at args k a ha)
        clear hcs ha hab
        go_wp2_with fail
        refine (HWI.out _).mono ?_
        rintro e w3 ⟨rfl, rfl⟩
        clear HWI
        have HNX : Hid ((false || !((args.take (k + 1)).all Rn.inb)) = (bb || !(Jn.isVal a))) := by
          show _ = _
          rw [HST.out, HBB.out]
          show (false || !((args.take k).all Rn.inb && Jn.isVal a)) = _
          simp [Bool.not_and]
        cases hbv : bb with
        | true =>
          go_wp2
          go_round
          case rel =>
            refine ⟨k + 1, by omega, by go_num, ?_⟩
            rw [HNX.out, hbv]; rfl
          case measure => simp [intOf]; omega
        | false =>
          cases hiv : Jn.isVal a with
          | true =>
            go_wp2
            go_round
            case rel =>
              refine ⟨k + 1, by omega, by go_num, ?_⟩
              rw [HNX.out, hbv, hiv]; rfl
            case measure => simp [intOf]; omega
          | false =>
            go_wp2
            go_round
            case rel =>
              refine ⟨k + 1, by omega, by go_num, ?_⟩
              rw [HNX.out, hbv, hiv]; rfl
            case measure => simp [intOf]; omega
      · have tk : decide (k < args.length) = false := by simp; omega
        have tk2 : decide ((k : Int) < (args.length : Int)) = false := by simp; omega
        have hbt : bb = true := by
          rw [HBB.out, List.take_of_length_le (by omega)]
          have hh := HMS.out
          revert hh
          cases args.all Rn.inb <;> simp
        subst hbt
        clear HBB HVC HAB HMS
        go_wp2
        obtain ⟨s0, s1, s2, s3⟩ := HS4.out
        refine bodyPost_ret (v := .tuple #[.agg #[.slice so sn sk, .slice po pn pk], .agg #[.int .i64 0, .int .i64 0], .int .i64 0, .int .i64 6]) (by simp [results, Tryz.results120, go_sem, s0, s1, s2, s3]) rfl ?_
        rw [HQ.out]
        exact ⟨_, rfl, HF4.out.2 _ _ (HROW.out.below HCB.out.old), HF4.out.1⟩
end Go.Proofs.YtellilpeakpbfabGreatDoor

end
