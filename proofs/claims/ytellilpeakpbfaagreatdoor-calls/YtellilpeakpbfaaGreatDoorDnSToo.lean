import Derived.Test.YtellilpeakpbfaaGreatDoorDnRToo
/-
  The walk of the document's Call: the source is worked out.
-/
namespace Go.Proofs.YtellilpeakpbfaaGreatDoor
open Go.RowKit
open Tr (Ex Sm Sms Tok kind)

def GdRel (l : List Int) (bad i _x : Value) : Prop := ∃ k : Nat, k ≤ l.length ∧ i = .int .i64 k ∧ bad = .bool false

set_option maxHeartbeats 4000000 in
set_option maxRecDepth 100000 in
theorem refCall_run (C : Jn.Con) (sc sp v : Value) (n : ByteArray) (args : List Int) (fuel : Int) (w : World) (src : List UInt8) (h : CRow w 0 sc C.list) (hp : PRow w 0 sp C.procs) (hok : Jn.Ok C) (hv : IntsAt w v args) (hvg : InLow v args w.heap.size)
    (hs : srcL C.procs n.data.toList = some src) (hm : Rn.may args fuel = true) :
    Calls Tryz.prog 117 #[.agg #[sc, sp], .string n, v, .int .i64 fuel] w (CrPost sp (Rn.dcall C n.data.toList args fuel) w) := by
  obtain ⟨q, hq⟩ : ∃ q, q = Rn.dcall C n.data.toList args fuel := ⟨_, rfl⟩
  rw [← hq]
  have hrd : (Ck.read src).2 = 0 := (hok.prc _ (src_mem _ _ _ hs)).2
  obtain ⟨b, hbok, hbt, hrun⟩ := Rn.run_by C src args fuel hok hrd hm
  unfold Rn.dcall at hq
  rw [hs] at hq
  simp only at hq
  have HQ := hide hq
  have HRUN := hide hrun
  have HROW := hide h
  have HOK := hide hok
  clear hq hrun
  obtain ⟨so, sk, rfl⟩ := crow_slice h
  obtain ⟨po, pk, rfl, -⟩ := hp.shape
  have hcnt := hok.cnt
  obtain ⟨w0, hw0⟩ : ∃ w0, w0 = ((w.alloc (.cells #[.slice so C.list.length sk, .slice po C.procs.length pk] 128)).alloc (.cells #[.slice none 0 0, .slice none 0 0] 128)).alloc (.cells #[.int .i64 0, .int .i64 0] 57) := ⟨_, rfl⟩
  have hcb := cb_start w (.slice so C.list.length sk) (.slice po C.procs.length pk)
  rw [← hw0] at hcb
  have hpr := proc_any 0 (.slice po C.procs.length pk) C.procs n w0 (hp.below hcb.old) (by omega)
  rw [hs] at hpr
  simp only [Option.getD_some, Option.isSome_some, T] at hpr
  have HPR := hide hpr
  obtain ⟨R, hR⟩ : ∃ R, R = w.heap.size := ⟨_, rfl⟩
  rw [← hR] at hcb
  have HCB := hide hcb
  have c0 : w0.cell? ⟨R, 0, none⟩ = some (.slice so C.list.length sk) := (cell_of_row w0 R 0 _ _ _ hcb.con).trans rfl
  have c1 : w0.cell? ⟨R, 1, none⟩ = some (.slice po C.procs.length pk) := (cell_of_row w0 R 1 _ _ _ hcb.con).trans rfl
  have r0 : w0.cell? ⟨R + 1, 0, none⟩ = some (.slice none 0 0) := (cell_of_row w0 (R + 1) 0 _ _ _ hcb.rc).trans rfl
  have r1 : w0.cell? ⟨R + 1, 1, none⟩ = some (.slice none 0 0) := (cell_of_row w0 (R + 1) 1 _ _ _ hcb.rc).trans rfl
  have u0 : w0.cell? ⟨R + 1 + 1, 0, none⟩ = some (.int .i64 0) := (cell_of_row w0 (R + 1 + 1) 0 _ _ _ hcb.ro).trans rfl
  have u1 : w0.cell? ⟨R + 1 + 1, 1, none⟩ = some (.int .i64 0) := (cell_of_row w0 (R + 1 + 1) 1 _ _ _ hcb.ro).trans rfl
  have fr0 : w0.frozen? ⟨R + 1, 0, none⟩ = false := frozen_of_row w0 _ 0 _ _ hcb.rc
  have fr1 : w0.frozen? ⟨R + 1, 1, none⟩ = false := frozen_of_row w0 _ 1 _ _ hcb.rc
  have fu0 : w0.frozen? ⟨R + 1 + 1, 0, none⟩ = false := frozen_of_row w0 _ 0 _ _ hcb.ro
  have fu1 : w0.frozen? ⟨R + 1 + 1, 1, none⟩ = false := frozen_of_row w0 _ 1 _ _ hcb.ro
  obtain ⟨ml, mf0, mf1, mb⟩ := Rn.may_facts hm
  have hsl := read_len src hrd
  have htk := fun w => tokens_any ⟨src.toArray⟩ w (by exact hsl)
  rw [show (⟨src.toArray⟩ : ByteArray).data.toList = src by simp] at htk
  have HTK := hide htk
  have HV := hide hv
  have hv2 := hv.below HCB.out.old
  have HVG := hide hvg
  obtain ⟨ao, cap, rfl, hvc⟩ := hv2
  have HVC := hide hvc
  have HMB := hide mb
  have hlt4 : ¬ (4 < args.length) := by omega
  have t1 : decide ((4 : Int) < (args.length : Int)) = false := by simp; omega
  have t2 : decide (fuel < 0) = false := by simp; omega
  have t3 : decide (10000 < fuel) = false := by simp; omega
  have HSRC := hide hrd
  have HMAY := hide hm
  obtain ⟨srcb, hsrcb⟩ : ∃ sb : ByteArray, sb = ⟨src.toArray⟩ := ⟨_, rfl⟩
  rw [← hsrcb] at HPR HTK
  generalize hsn : C.list.length = sn at *
  generalize hpn : C.procs.length = pn at *
  clear hp hok h hpr hcb hs hv hvc hvg mb htk hsrcb hrd hm hlt4 hsn hpn hsl
  go_enter Tryz.func117, Tryz.ntmps117
  go_upto_region 1 with fail
  rw [← hw0, ← hR]
  have HRR := hide hR
  clear hw0 hR
  go_wp2_with fail
  refine HPR.out.mono ?_
  rintro e w2 ⟨rfl, rfl⟩
  clear HPR
  go_wp2
  clear t1 t2 t3
  go_loop [14, 15, 16] (fun bad i x => GdRel args bad i x) (fun _ i _ => args.length - (intOf i).toNat)
  case atStart => exact ⟨0, Nat.zero_le _, rfl, rfl⟩
  case round =>
    obtain ⟨k, hk, rfl, rfl⟩ := hrel
    by_cases hlt : k < args.length
    · have tk2 : decide ((k : Int) < (args.length : Int)) = true := by simp; omega
      obtain ⟨g, z, rfl, hcs⟩ := HVC.out (by omega)
      obtain ⟨a, ha⟩ : ∃ a, args[k]? = some a := ⟨args[k], by simp [hlt]⟩
      have d1 := hcs k a ha
      have hab := HMB.out a (List.mem_of_getElem? ha)
      have hwi := fun w => within_any a w (by omega) (by omega)
      have hiv : Jn.isVal a = true := by unfold Jn.isVal; simp; omega
      rw [hiv] at hwi
      have HWI := hide hwi
      clear hcs ha hab hwi hiv
      go_wp2_with fail
      refine (HWI.out _).mono ?_
      rintro e w3 ⟨rfl, rfl⟩
      clear HWI
      go_wp2
      go_round
      case rel => exact ⟨k + 1, by omega, by go_num, rfl⟩
      case measure => simp [intOf]; omega
    · have tk2 : decide ((k : Int) < (args.length : Int)) = false := by simp; omega
      clear HVC HMB
      go_wp2_with fail
      refine (HTK.out _).mono ?_
      rintro e w3 ⟨tv, rfl, hrow, hb3⟩
      obtain ⟨tao, tcap, rfl, -, -⟩ := own_slice hrow
      obtain ⟨X, hX⟩ : ∃ X, X = w3.heap.size := ⟨_, rfl⟩
      obtain ⟨w4, hw4⟩ : ∃ w4, w4 = w3.alloc (.cells #[.slice tao (Ck.toks src).length tcap, .slice ao args.length cap, .int .i64 0, .int .i64 0, .int .i64 0, .int .i64 0, .slice so sn sk, .slice none 0 0, .int .i64 fuel, .int .i64 0, .int .i64 0, .bool false, .int .i64 0] 213) := ⟨_, rfl⟩
      have hb4 : Below w3.heap.size w3 w4 := by rw [hw4]; exact (Below.refl _ _).alloc (Nat.le_refl _) _
      have hn4 : w4.heap[X]? = some (.cells #[.slice tao (Ck.toks src).length tcap, .slice ao args.length cap, .int .i64 0, .int .i64 0, .int .i64 0, .int .i64 0, .slice so sn sk, .slice none 0 0, .int .i64 fuel, .int .i64 0, .int .i64 0, .bool false, .int .i64 0] 213 (0, 0)) := by rw [hw4, hX]; exact heap_alloc_new w3 _
      have hsz := HCB.out.sz
      have h3sz := hb3.size
      have hb24 : Below (R + 3) w2 w4 := by
        rw [← hsz]
        exact hb3.trans (hb4.mono h3sz)
      have hb04 := (HCB.out.below hb24).1
      have c03 : w3.cell? ⟨R, 0, none⟩ = some (.slice so sn sk) := (cell_of_row w3 R 0 _ _ _ ((hb3.block R (by rw [hsz]; omega)).trans HCB.out.con)).trans rfl
      have hXR : R + 3 ≤ X := by rw [hX, ← hsz]; exact h3sz
      have hwX : w.heap.size ≤ X := by have := HCB.out.le; omega
      have hdk := dk_start X w4 (.slice tao (Ck.toks src).length tcap) (.slice ao args.length cap) (.slice so sn sk) C src args fuel HOK.out HSRC.out HMAY.out hn4 (HROW.out.below hb04) (ownsRow_base (ownsRow_below hrow hb4) (Nat.zero_le _)) (HV.out.below hb04) (fun hp g hg => by have := HVG.out hp g hg; omega)
      have hfm := dfrom_any X (.slice tao (Ck.toks src).length tcap) (.slice ao args.length cap) (Rn.env C src args fuel) (Ck.toks src) args (Rn.env_dk C src args fuel HSRC.out ml) (3 * fuel.toNat + 3) b 0 [] Rn.start w4 hbok (by rw [List.drop_zero, List.append_nil]; exact hbt) (by simp [Rn.env, Rn.start]) hdk
      rw [show ((0 + b.flat.length : Nat) : Int) = ((Ck.toks src).length : Int) by rw [hbt]; simp] at hfm
      have hru := HRUN.out _ rfl
      generalize Rn.tstmts (Rn.env C src args fuel) (3 * fuel.toNat + 3) b Rn.start = r at hfm hru
      obtain ⟨er, sr⟩ := r
      simp only at hru
      have HFM := hide hfm
      have HRU := hide hru
      have HB24 := hide hb24
      have HX3 := hide hX
      clear hrow hb3 hb4 hn4 hb24 hb04 hdk hfm hru hbt hbok HRUN HTK HV HVG h3sz hsz
      go_upto_region 14 with fail
      rw [← hw4, ← hX]
      clear hw4 hX
      go_wp2_with fail
      refine HFM.out.mono ?_
      rintro e w5 ⟨rfl, ho⟩
      have hb5 : Below (R + 3) w2 w5 := HB24.out.trans ((Fr.below ho.2).mono hXR)
      obtain ⟨hb05, hc5, hr5, hu5⟩ := HCB.out.below hb5
      have c0' : w5.cell? ⟨R, 0, none⟩ = some (.slice so sn sk) := (cell_of_row w5 R 0 _ _ _ hc5).trans rfl
      have c1' : w5.cell? ⟨R, 1, none⟩ = some (.slice po pn pk) := (cell_of_row w5 R 1 _ _ _ hc5).trans rfl
      have r0' : w5.cell? ⟨R + 1, 0, none⟩ = some (.slice none 0 0) := (cell_of_row w5 (R + 1) 0 _ _ _ hr5).trans rfl
      have r1' : w5.cell? ⟨R + 1, 1, none⟩ = some (.slice none 0 0) := (cell_of_row w5 (R + 1) 1 _ _ _ hr5).trans rfl
      have u0' : w5.cell? ⟨R + 1 + 1, 0, none⟩ = some (.int .i64 0) := (cell_of_row w5 (R + 1 + 1) 0 _ _ _ hu5).trans rfl
      have u1' : w5.cell? ⟨R + 1 + 1, 1, none⟩ = some (.int .i64 0) := (cell_of_row w5 (R + 1 + 1) 1 _ _ _ hu5).trans rfl
      have fr0' : w5.frozen? ⟨R + 1, 0, none⟩ = false := frozen_of_row w5 _ 0 _ _ hr5
      have fr1' : w5.frozen? ⟨R + 1, 1, none⟩ = false := frozen_of_row w5 _ 1 _ _ hr5
      have fu0' : w5.frozen? ⟨R + 1 + 1, 0, none⟩ = false := frozen_of_row w5 _ 0 _ _ hu5
      have fu1' : w5.frozen? ⟨R + 1 + 1, 1, none⟩ = false := frozen_of_row w5 _ 1 _ _ hu5
      have HB5 := hide hb05
      have HR5 := hide hr5
      have HU5 := hide hu5
      have HO := hide ho
      clear hb5 hb05 hc5 hr5 hu5 HFM HB24 c0 c1 r0 r1 u0 u1 fr0 fr1 fu0 fu1
      have n1 : X ≠ R := by omega
      have n2 : X ≠ R + 1 := by omega
      have n3 : X ≠ R + 1 + 1 := by omega
      rcases ho.1 with ⟨h0, hd⟩ | ⟨hne, her⟩
      · simp only at h0 hd
        have hru := HRU.out.2 h0
        have HE : Hid (q = (Rn.conW C sr.writes, sr.result, (sr.used : Int), sr.writes.length, 0)) := by show _ = _; rw [HQ.out, hru]; rfl
        obtain ⟨cv, sv, hcr0, hsr, -, hc, -⟩ := hd.cells
        have hcr : CRow w5 0 cv (Rn.conW C sr.writes).list := hcr0
        clear hcr0
        have x6 : w5.cell? ⟨X, 6, none⟩ = some cv := hc 6
        have x7 : w5.cell? ⟨X, 7, none⟩ = some sv := hc 7
        have x9 : w5.cell? ⟨X, 9, none⟩ = some (.int .i64 sr.used) := hc 9
        have x10 : w5.cell? ⟨X, 10, none⟩ = some (.int .i64 0) := hc 10
        have x12 : w5.cell? ⟨X, 12, none⟩ = some (.int .i64 sr.result) := hc 12
        obtain ⟨co, ck, rfl⟩ := crow_slice hcr
        obtain ⟨vo, vk, rfl, -, -⟩ := own_slice hsr
        have HCR := hide hcr
        clear ho hc hcr hsr hd HQ HRU hru h0
        generalize hcn : (Rn.conW C sr.writes).list.length = cn at *
        generalize hwn : sr.writes.length = wn at *
        clear hcn hwn
        have HF4 := hide (cr_four HB5.out HCB.out.le HR5.out HU5.out (.slice co cn ck) (.slice po pn pk) (.int .i64 sr.result) (.int .i64 sr.used))
        have HS4 := hide (out_four (A := R + 1) (D := R + 1 + 1) (a := .slice co cn ck) (b := .slice po pn pk) (c := .int .i64 sr.result) (d := .int .i64 sr.used) (by omega) r0' r1' u0' u1')
        go_wp2
        go_region
        go_wp2
        obtain ⟨s0, s1, s2, s3⟩ := HS4.out
        generalize ((((w5.setCell ⟨R + 1, 0, none⟩ (.slice co cn ck)).setCell ⟨R + 1, 1, none⟩ (.slice po pn pk)).setCell ⟨R + 1 + 1, 0, none⟩ (.int .i64 sr.result)).setCell ⟨R + 1 + 1, 1, none⟩ (.int .i64 sr.used)) = w9 at *
        have s0' : w9.drew.cell? ⟨R + 1, 0, none⟩ = _ := s0
        have s1' : w9.drew.cell? ⟨R + 1, 1, none⟩ = _ := s1
        have s2' : w9.drew.cell? ⟨R + 1 + 1, 0, none⟩ = _ := s2
        have s3' : w9.drew.cell? ⟨R + 1 + 1, 1, none⟩ = _ := s3
        refine bodyPost_ret (v := .tuple #[.agg #[.slice co cn ck, .slice po pn pk], .agg #[.int .i64 sr.result, .int .i64 sr.used], .int .i64 wn, .int .i64 0]) (by simp [results, Tryz.results117, go_sem, s0', s1', s2', s3']) rfl ?_
        rw [HE.out]
        exact ⟨_, rfl, CRow.below (HF4.out.2 _ _ HCR.out) (Below.drew (Below.refl _ _)), Below.drew HF4.out.1⟩
      · simp only at hne her
        have hru := HRU.out.1 hne
        have HE : Hid (q = (C, 0, (sr.used : Int), 0, er)) := by show _ = _; rw [HQ.out, hru]; simp only; rw [if_pos hne]
        have x10 := her.cell
        obtain ⟨⟨cur, hh, -, -, h9, -⟩, -⟩ := her
        have x9 : w5.cell? ⟨X, 9, none⟩ = some (.int .i64 sr.used) := (cell_of_row w5 X 9 _ _ _ hh).trans h9
        have tn : (er != 0) = true := by simpa using hne
        clear ho hh h9 HQ HRU hru hne
        have HF4 := hide (cr_four HB5.out HCB.out.le HR5.out HU5.out (.slice so sn sk) (.slice po pn pk) (.int .i64 0) (.int .i64 sr.used))
        have HS4 := hide (out_four (A := R + 1) (D := R + 1 + 1) (a := .slice so sn sk) (b := .slice po pn pk) (c := .int .i64 0) (d := .int .i64 sr.used) (by omega) r0' r1' u0' u1')
        go_wp2
        go_region
        go_wp2
        obtain ⟨s0, s1, s2, s3⟩ := HS4.out
        generalize ((((w5.setCell ⟨R + 1, 0, none⟩ (.slice so sn sk)).setCell ⟨R + 1, 1, none⟩ (.slice po pn pk)).setCell ⟨R + 1 + 1, 0, none⟩ (.int .i64 0)).setCell ⟨R + 1 + 1, 1, none⟩ (.int .i64 sr.used)) = w9 at *
        have s0' : w9.drew.cell? ⟨R + 1, 0, none⟩ = _ := s0
        have s1' : w9.drew.cell? ⟨R + 1, 1, none⟩ = _ := s1
        have s2' : w9.drew.cell? ⟨R + 1 + 1, 0, none⟩ = _ := s2
        have s3' : w9.drew.cell? ⟨R + 1 + 1, 1, none⟩ = _ := s3
        refine bodyPost_ret (v := .tuple #[.agg #[.slice so sn sk, .slice po pn pk], .agg #[.int .i64 0, .int .i64 sr.used], .int .i64 0, .int .i64 er]) (by simp [results, Tryz.results117, go_sem, s0', s1', s2', s3']) rfl ?_
        rw [HE.out]
        exact ⟨_, rfl, CRow.below (HF4.out.2 _ _ (HROW.out.below HB5.out)) (Below.drew (Below.refl _ _)), Below.drew HF4.out.1⟩

/-- the document's Call. -/
theorem refCall_any (C : Jn.Con) (sc sp v : Value) (n : ByteArray) (args : List Int) (fuel : Int) (w : World) (h : CRow w 0 sc C.list) (hp : PRow w 0 sp C.procs) (hok : Jn.Ok C) (hv : IntsAt w v args) (hvg : InLow v args w.heap.size) (hlen : args.length ≤ 4611686018427387904) (hab : ∀ a ∈ args, -9223372036854775808 ≤ a ∧ a ≤ 9223372036854775807) :
    Calls Tryz.prog 117 #[.agg #[sc, sp], .string n, v, .int .i64 fuel] w (CrPost sp (Rn.dcall C n.data.toList args fuel) w) := by
  cases hs : srcL C.procs n.data.toList with
  | none => exact refCall_none C sc sp v n args fuel w h hp hok hv hs
  | some src =>
    cases hm : Rn.may args fuel with
    | false => exact refCall_bad C sc sp v n args fuel w src h hp hok hv hlen hab hs hm
    | true => exact refCall_run C sc sp v n args fuel w src h hp hok hv hvg hs hm
end Go.Proofs.YtellilpeakpbfaaGreatDoor
