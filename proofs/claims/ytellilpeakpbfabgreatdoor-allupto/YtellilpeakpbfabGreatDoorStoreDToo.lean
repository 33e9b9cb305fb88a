import Derived.Test.YtellilpeakpbfabGreatDoorDnRToo
import Derived.Test.YtellilpeakpbfabGreatDoorStoreCToo
import Derived.Deep.RegionWith
section
/-
  The walk of the document's Call: the source is worked out.
-/
namespace Go.Proofs.YtellilpeakpbfabGreatDoor
open Go.RowKit
open Tr (Ex Sm Sms Tok kind)

def GdRel (l : List Int) (bad i _x : Value) : Prop := ∃ k : Nat, k ≤ l.length ∧ i = .int .i64 k ∧ bad = .bool false

set_option maxHeartbeats 4000000 in
set_option maxRecDepth 100000 in
theorem refCall_run (C : Jn.Con) (sc sp v : Value) (n : ByteArray) (args : List Int) (fuel : Int) (w : World) (src : List UInt8) (h : CRow w 0 sc C.list) (hp : PRow w 0 sp C.procs) (hok : Jn.Ok C) (hv : IntsAt w v args) (hvg : InLow v args w.heap.size)
    (hs : srcL C.procs n.data.toList = some src) (hm : Rn.may args fuel = true) :
    Calls Tryz.prog 120 #[.agg #[sc, sp], .string n, v, .int .i64 fuel] w (CrPost sp (Rn.dcall C n.data.toList args fuel) w) := by
  obtain ⟨q, hq⟩ : ∃ q, q = Rn.dcall C n.data.toList args fuel := ⟨_, rfl⟩
  rw [← hq]
  have hrd : (Ck.read src).2 = 0 := (hok.prc _ (src_mem _ _ _ hs)).2
  obtain ⟨b, hbok, hbt, hrun⟩ := Rn.run_by C src args fuel hok hrd hm
  unfold Rn.dcall at hq
  rw [hs] at hq
  simp only at hq
  have HQ := hide hq
  have HRUN := hide hrun
  have HROW := hide h
  have HOK := hide hok
  clear hq hrun
  obtain ⟨so, sk, rfl⟩ := crow_slice h
  obtain ⟨po, pk, rfl, -⟩ := hp.shape
  have hcnt := hok.cnt
  obtain ⟨w0, hw0⟩ : ∃ w0, w0 = ((w.alloc (.cells #[.slice so C.list.length sk, .slice po C.procs.length pk] 146)).alloc (.cells #[.slice none 0 0, .slice none 0 0] 146)).alloc (.cells #[.int .i64 0, .int .i64 0] 45) := ⟨_, rfl⟩
  have hcb := cb_start w (.slice so C.list.length sk) (.slice po C.procs.length pk)
  rw [← hw0] at hcb
  have hpr := proc_any 0 (.slice po C.procs.length pk) C.procs n w0 (hp.below hcb.old) (by omega)
  rw [hs] at hpr
  simp only [Option.getD_some, Option.isSome_some, T] at hpr
  have HPR := hide hpr
  obtain ⟨R, hR⟩ : ∃ R, R = w.heap.size := ⟨_, rfl⟩
  rw [← hR] at hcb
  have HCB := hide hcb
  have c0 : w0.cell? ⟨R, 0, none⟩ = some (.slice so C.list.length sk) := (cell_of_row w0 R 0 _ _ _ hcb.con).trans rfl
  have c1 : w0.cell? ⟨R, 1, none⟩ = some (.slice po C.procs.length pk) := (cell_of_row w0 R 1 _ _ _ hcb.con).trans rfl
  have r0 : w0.cell? ⟨R + 1, 0, none⟩ = some (.slice none 0 0) := (cell_of_row w0 (R + 1) 0 _ _ _ hcb.rc).trans rfl
  have r1 : w0.cell? ⟨R + 1, 1, none⟩ = some (.slice none 0 0) := (cell_of_row w0 (R + 1) 1 _ _ _ hcb.rc).trans rfl
  have u0 : w0.cell? ⟨R + 1 + 1, 0, none⟩ = some (.int .i64 0) := (cell_of_row w0 (R + 1 + 1) 0 _ _ _ hcb.ro).trans rfl
  have u1 : w0.cell? ⟨R + 1 + 1, 1, none⟩ = some (.int .i64 0) := (cell_of_row w0 (R + 1 + 1) 1 _ _ _ hcb.ro).trans rfl
  have fr0 : w0.frozen? ⟨R + 1, 0, none⟩ = false := frozen_of_row w0 _ 0 _ _ hcb.rc
  have fr1 : w0.frozen? ⟨R + 1, 1, none⟩ = false := frozen_of_row w0 _ 1 _ _ hcb.rc
  have fu0 : w0.frozen? ⟨R + 1 + 1, 0, none⟩ = false := frozen_of_row w0 _ 0 _ _ hcb.ro
  have fu1 : w0.frozen? ⟨R + 1 + 1, 1, none⟩ = false := frozen_of_row w0 _ 1 _ _ hcb.ro
  obtain ⟨ml, mf0, mf1, mb⟩ := Rn.may_facts hm
  have hsl := read_len src hrd
  have htk := fun w => tokens_any ⟨src.toArray⟩ w (by exact hsl)
  rw [show (⟨src.toArray⟩ : ByteArray).data.toList = src by simp] at htk
  have HTK := hide htk
  have HV := hide hv
  have hv2 := hv.below HCB.out.old
  have HVG := hide hvg
  obtain ⟨ao, cap, rfl, hvc⟩ := hv2
  have HVC := hide hvc
  have HMB := hide mb
  have hlt4 : ¬ (4 < args.length) := by omega
  have t1 : decide ((4 : Int) < (args.length : Int)) = false := by simp; omega
  have t2 : decide (fuel < 0) = false := by simp; omega
  have t3 : decide (10000 < fuel) = false := by simp; omega
  have HSRC := hide hrd
  have HMAY := hide hm
  obtain ⟨srcb, hsrcb⟩ : ∃ sb : ByteArray, sb = ⟨src.toArray⟩ := ⟨_, rfl⟩
  rw [← hsrcb] at HPR HTK
  generalize hsn : C.list.length = sn at *
  generalize hpn : C.procs.length = pn at *
  clear hp hok h hpr hcb hs hv hvc hvg mb htk hsrcb hrd hm hlt4 hsn hpn hsl
  go_enter Tryz.func120, Tryz.ntmps120
  go_upto_region 1 with fail
  rw [← hw0, ← hR]
  have HRR := hide hR
  clear hw0 hR
  go_wp2_with fail
  refine HPR.out.mono ?_
  rintro e w2 ⟨rfl, rfl⟩
  clear HPR
  go_wp2
  clear t1 t2 t3
  go_loop [14, 15, 16] (fun bad i x => GdRel args bad i x) (fun _ i _ => args.length - (intOf i).toNat)
  case atStart => exact ⟨0, Nat.zero_le _, rfl, rfl⟩
  case round =>
    obtain ⟨k, hk, rfl, rfl⟩ := hrel
    by_cases hlt : k < args.length
    · have tk2 : decide ((k : Int) < (args.length : Int)) = true := by simp; omega
      obtain ⟨g, z, rfl, hcs⟩ := HVC.out (by omega)
      obtain ⟨a, ha⟩ : ∃ a, args[k]? = some a := ⟨args[k], by simp [hlt]⟩
      have d1 := hcs k a ha
      have hab := HMB.out a (List.mem_of_getElem? ha)
      have hwi := fun w => within_any a w (by omega) (by omega)
      have hiv : Jn.isVal a = true := by unfold Jn.isVal; simp; omega
      rw [hiv] at hwi
      have HWI := hide hwi
      clear hcs ha hab hwi hiv
      go_wp2_with fail
      refine (HWI.out _).mono ?_
      rintro e w3 ⟨rfl, rfl⟩
      clear HWI
      go_wp2
      go_round
      case rel => exact ⟨k + 1, by omega, by go_num, rfl⟩
      case measure => simp [intOf]; omega
    · have tk2 : decide ((k : Int) < (args.length : Int)) = false := by simp; omega
      clear HVC HMB
      go_wp2_with fail
      refine (HTK.out _).mono ?_
      rintro e w3 ⟨tv, rfl, hrow, hb3⟩
      obtain ⟨tao, tcap, rfl, -, -⟩ := own_slice hrow
      obtain ⟨X, hX⟩ : ∃ X, X = w3.heap.size := ⟨_, rfl⟩
      obtain ⟨w4, hw4⟩ : ∃ w4, w4 = w3.alloc (.cells #[.slice tao (Ck.toks src).length tcap, .slice ao args.length cap, .int .i64 0, .int .i64 0, .int .i64 0, .int .i64 0, .slice so sn sk, .slice none 0 0, .int .i64 fuel, .int .i64 0, .int .i64 0, .bool false, .int .i64 0] 214) := ⟨_, rfl⟩
      have hb4 : Below w3.heap.size w3 w4 := by rw [hw4]; exact (Below.refl _ _).alloc (Nat.le_refl _) _
      have hn4 : w4.heap[X]? = some (.cells #[.slice tao (Ck.toks src).length tcap, .slice ao args.length cap, .int .i64 0, .int .i64 0, .int .i64 0, .int .i64 0, .slice so sn sk, .slice none 0 0, .int .i64 fuel, .int .i64 0, .int .i64 0, .bool false, .int .i64 0] 214 (0, 0)) := by rw [hw4, hX]; exact heap_alloc_new w3 _
      have hsz := HCB.out.sz
      have h3sz := hb3.size
      have hb24 : Below (R + 3) w2 w4 := by
        rw [← hsz]
        exact hb3.trans (hb4.mono h3sz)
      have hb04 := (HCB.out.below hb24).1
      have c03 : w3.cell? ⟨R, 0, none⟩ = some (.slice so sn sk) := (cell_of_row w3 R 0 _ _ _ ((hb3.block R (by rw [hsz]; omega)).trans HCB.out.con)).trans rfl
      have hXR : R + 3 ≤ X := by rw [hX, ← hsz]; exact h3sz
      have hwX : w.heap.size ≤ X := by have := HCB.out.le; omega
      have hdk := dk_start X w4 (.slice tao (Ck.toks src).length tcap) (.slice ao args.length cap) (.slice so sn sk) C src args fuel HOK.out HSRC.out HMAY.out hn4 (HROW.out.below hb04) (ownsRow_base (ownsRow_below hrow hb4) (Nat.zero_le _)) (HV.out.below hb04) (fun hp g hg => by have := HVG.out hp g hg; omega)
      have hfm := dfrom_any X (.slice tao (Ck.toks src).length tcap) (.slice ao args.length cap) (Rn.env C src args fuel) (Ck.toks src) args (Rn.env_dk C src args fuel HSRC.out ml) (3 * fuel.toNat + 3) b 0 [] Rn.start w4 hbok (by rw [List.drop_zero, List.append_nil]; exact hbt) (by simp [Rn.env, Rn.start]) hdk
      rw [show ((0 + b.flat.length : Nat) : Int) = ((Ck.toks src).length : Int) by rw [hbt]; simp] at hfm
      have hru := HRUN.out _ rfl
      generalize Rn.tstmts (Rn.env C src args fuel) (3 * fuel.toNat + 3) b Rn.start = r at hfm hru
      obtain ⟨er, sr⟩ := r
      simp only at hru
      have HFM := hide hfm
      have HRU := hide hru
      have HB24 := hide hb24
      have HX3 := hide hX
      clear hrow hb3 hb4 hn4 hb24 hb04 hdk hfm hru hbt hbok HRUN HTK HV HVG h3sz hsz
      go_upto_region 14 with fail
      rw [← hw4, ← hX]
      clear hw4 hX
      go_wp2_with fail
      refine HFM.out.mono ?_
      rintro e w5 ⟨rfl, ho⟩
      have hb5 : Below (R + 3) w2 w5 := HB24.out.trans ((Fr.below ho.2).mono hXR)
      obtain ⟨hb05, hc5, hr5, hu5⟩ := HCB.out.below hb5
      have c0' : w5.cell? ⟨R, 0, none⟩ = some (.slice so sn sk) := (cell_of_row w5 R 0 _ _ _ hc5).trans rfl
      have c1' : w5.cell? ⟨R, 1, none⟩ = some (.slice po pn pk) := (cell_of_row w5 R 1 _ _ _ hc5).trans rfl
      have r0' : w5.cell? ⟨R + 1, 0, none⟩ = some (.slice none 0 0) := (cell_of_row w5 (R + 1) 0 _ _ _ hr5).trans rfl
      have r1' : w5.cell? ⟨R + 1, 1, none⟩ = some (.slice none 0 0) := (cell_of_row w5 (R + 1) 1 _ _ _ hr5).trans rfl
      have u0' : w5.cell? ⟨R + 1 + 1, 0, none⟩ = some (.int .i64 0) := (cell_of_row w5 (R + 1 + 1) 0 _ _ _ hu5).trans rfl
      have u1' : w5.cell? ⟨R + 1 + 1, 1, none⟩ = some (.int .i64 0) := (cell_of_row w5 (R + 1 + 1) 1 _ _ _ hu5).trans rfl
      have fr0' : w5.frozen? ⟨R + 1, 0, none⟩ = false := frozen_of_row w5 _ 0 _ _ hr5
      have fr1' : w5.frozen? ⟨R + 1, 1, none⟩ = false := frozen_of_row w5 _ 1 _ _ hr5
      have fu0' : w5.frozen? ⟨R + 1 + 1, 0, none⟩ = false := frozen_of_row w5 _ 0 _ _ hu5
      have fu1' : w5.frozen? ⟨R + 1 + 1, 1, none⟩ = false := frozen_of_row w5 _ 1 _ _ hu5
      have HB5 := hide hb05
      have HR5 := hide hr5
      have HU5 := hide hu5
      have HO := hide ho
      clear hb5 hb05 hc5 hr5 hu5 HFM HB24 c0 c1 r0 r1 u0 u1 fr0 fr1 fu0 fu1
      have n1 : X ≠ R := by omega
      have n2 : X ≠ R + 1 := by omega
      have n3 : X ≠ R + 1 + 1 := by omega
      rcases ho.1 with ⟨h0, hd⟩ | ⟨hne, her⟩
      · simp only at h0 hd
        have hru := HRU.out.2 h0
        have HE : Hid (q = (Rn.conW C sr.writes, sr.result, (sr.used : Int), sr.writes.length, 0)) := by show _ = _; rw [HQ.out, hru]; rfl
        obtain ⟨cv, sv, hcr0, hsr, -, hc, -⟩ := hd.cells
        have hcr : CRow w5 0 cv (Rn.conW C sr.writes).list := hcr0
        clear hcr0
        have x6 : w5.cell? ⟨X, 6, none⟩ = some cv := hc 6
        have x7 : w5.cell? ⟨X, 7, none⟩ = some sv := hc 7
        have x9 : w5.cell? ⟨X, 9, none⟩ = some (.int .i64 sr.used) := hc 9
        have x10 : w5.cell? ⟨X, 10, none⟩ = some (.int .i64 0) := hc 10
        have x12 : w5.cell? ⟨X, 12, none⟩ = some (.int .i64 sr.result) := hc 12
        obtain ⟨co, ck, rfl⟩ := crow_slice hcr
        obtain ⟨vo, vk, rfl, -, -⟩ := own_slice hsr
        have HCR := hide hcr
        clear ho hc hcr hsr hd HQ HRU hru h0
        generalize hcn : (Rn.conW C sr.writes).list.length = cn at *
        generalize hwn : sr.writes.length = wn at *
        clear hcn hwn
        have HF4 := hide (cr_four HB5.out HCB.out.le HR5.out HU5.out (.slice co cn ck) (.slice po pn pk) (.int .i64 sr.result) (.int .i64 sr.used))
        have HS4 := hide (out_four (A := R + 1) (D := R + 1 + 1) (a := .slice co cn ck) (b := .slice po pn pk) (c := .int .i64 sr.result) (d := .int .i64 sr.used) (by omega) r0' r1' u0' u1')
        go_wp2
        go_region
        go_wp2
        obtain ⟨s0, s1, s2, s3⟩ := HS4.out
        generalize ((((w5.setCell ⟨R + 1, 0, none⟩ (.slice co cn ck)).setCell ⟨R + 1, 1, none⟩ (.slice po pn pk)).setCell ⟨R + 1 + 1, 0, none⟩ (.int .i64 sr.result)).setCell ⟨R + 1 + 1, 1, none⟩ (.int .i64 sr.used)) = w9 at *
        have s0' : w9.drew.cell? ⟨R + 1, 0, none⟩ = _ := s0
        have s1' : w9.drew.cell? ⟨R + 1, 1, none⟩ = _ := s1
        have s2' : w9.drew.cell? ⟨R + 1 + 1, 0, none⟩ = _ := s2
        have s3' : w9.drew.cell? ⟨R + 1 + 1, 1, none⟩ = _ := s3
        refine bodyPost_ret (v := .tuple #[.agg #[.slice co cn ck, .slice po pn pk], .agg #[.int .i64 sr.result, .int .i64 sr.used], .int .i64 wn, .int .i64 0]) (by simp [results, Tryz.results120, go_sem, s0', s1', s2', s3']) rfl ?_
        rw [HE.out]
        exact ⟨_, rfl, CRow.below (HF4.out.2 _ _ HCR.out) (Below.drew (Below.refl _ _)), Below.drew HF4.out.1⟩
      · simp only at hne her
        have hru := HRU.out.1 hne
        have HE : Hid (q = (C, 0, (sr.used : Int), 0, er)) := by show _ = _; rw [HQ.out, hru]; simp only; rw [if_pos hne]
        have x10 := her.cell
        obtain ⟨⟨cur, hh, -, -, h9, -⟩, -⟩ := her
        have x9 : w5.cell? ⟨X, 9, none⟩ = some (.int .i64 sr.used) := (cell_of_row w5 X 9 _ _ _ hh).trans h9
        have tn : (er != 0) = true := by simpa using hne
        clear ho hh h9 HQ HRU hru hne
        have HF4 := hide (cr_four HB5.out HCB.out.le HR5.out HU5.out (.slice so sn sk) (.slice po pn pk) (.int .i64 0) (.int .i64 sr.used))
        have HS4 := hide (out_four (A := R + 1) (D := R + 1 + 1) (a := .slice so sn sk) (b := .slice po pn pk) (c := .int .i64 0) (d := .int .i64 sr.used) (by omega) r0' r1' u0' u1')
        go_wp2
        go_region
        go_wp2
        obtain ⟨s0, s1, s2, s3⟩ := HS4.out
        generalize ((((w5.setCell ⟨R + 1, 0, none⟩ (.slice so sn sk)).setCell ⟨R + 1, 1, none⟩ (.slice po pn pk)).setCell ⟨R + 1 + 1, 0, none⟩ (.int .i64 0)).setCell ⟨R + 1 + 1, 1, none⟩ (.int .i64 sr.used)) = w9 at *
        have s0' : w9.drew.cell? ⟨R + 1, 0, none⟩ = _ := s0
        have s1' : w9.drew.cell? ⟨R + 1, 1, none⟩ = _ := s1
        have s2' : w9.drew.cell? ⟨R + 1 + 1, 0, none⟩ = _ := s2
        have s3' : w9.drew.cell? ⟨R + 1 + 1, 1, none⟩ = _ := s3
        refine bodyPost_ret (v := .tuple #[.agg #[.slice so sn sk, .slice po pn pk], .agg #[.int .i64 0, .int .i64 sr.used], .int .i64 0, .int .i64 er]) (by simp [results, Tryz.results120, go_sem, s0', s1', s2', s3']) rfl ?_
        rw [HE.out]
        exact ⟨_, rfl, CRow.below (HF4.out.2 _ _ (HROW.out.below HB5.out)) (Below.drew (Below.refl _ _)), Below.drew HF4.out.1⟩

/-- the document's Call. -/
theorem refCall_any (C : Jn.Con) (sc sp v : Value) (n : ByteArray) (args : List Int) (fuel : Int) (w : World) (h : CRow w 0 sc C.list) (hp : PRow w 0 sp C.procs) (hok : Jn.Ok C) (hv : IntsAt w v args) (hvg : InLow v args w.heap.size) (hlen : args.length ≤ 4611686018427387904) (hab : ∀ a ∈ args, -9223372036854775808 ≤ a ∧ a ≤ 9223372036854775807) :
    Calls Tryz.prog 120 #[.agg #[sc, sp], .string n, v, .int .i64 fuel] w (CrPost sp (Rn.dcall C n.data.toList args fuel) w) := by
  cases hs : srcL C.procs n.data.toList with
  | none => exact refCall_none C sc sp v n args fuel w h hp hok hv hs
  | some src =>
    cases hm : Rn.may args fuel with
    | false => exact refCall_bad C sc sp v n args fuel w src h hp hok hv hlen hab hs hm
    | true => exact refCall_run C sc sp v n args fuel w src h hp hok hv hvg hs hm
end Go.Proofs.YtellilpeakpbfabGreatDoor

end

section
/-
  The walks of the store's write and Call.
-/
namespace Go.Proofs.YtellilpeakpbfabGreatDoor
open Go.RowKit

def SwRel (L S B : Nat) (C : Jn.Con) (f : Int) (w : World) (ws : List (Int × Bool × Int)) (x i : Value) (wr : World) : Prop :=
  ∃ (k : Nat) (X : ByteArray), k ≤ ws.length ∧ i = .int .i64 k ∧ x = .string X ∧ X.data.toList = (Rn.wcells C (ws.take k)).2 ∧ StAt L wr S B (Rn.wcells C (ws.take k)).1 f ∧ Fr L [] (some B) w wr

/-- what write answers. -/
def SwPost (L S B : Nat) (f : Int) (r : Jn.Con × List UInt8) (w : World) (e : Ending) (w' : World) : Prop :=
  ∃ v, e = .returned v ∧ StAt L w' S B r.1 f ∧ Fr L [] (some B) w w' ∧ ((r.2 = [] ∧ v = .slice none 0 0) ∨ (r.2 ≠ [] ∧ ARow w' w.heap.size v [(1, f, Jn.record r.2)]))

set_option maxHeartbeats 4000000 in
set_option maxRecDepth 100000 in
theorem writeS_any (L S B b : Nat) (C : Jn.Con) (f : Int) (wv : Value) (ws : List (Int × Bool × Int)) (w : World) (h : StAt L w S B C f) (hr : WRow w b wv ws) (hl : ws.length ≤ 8) (hws : ∀ p ∈ ws, Rn.WrOk p) (hP : PowAt w) (hpL : 1 < L) :
    Calls Tryz.prog 46 #[.pointer (some ⟨S, 0, none⟩), wv] w (SwPost L S B f (Rn.wcells C ws) w) := by
  obtain ⟨ao, cap, rfl, -⟩ := hr.shape
  have hLw : L ≤ w.heap.size := Nat.le_trans h.low (Nat.le_of_lt h.lt)
  have HR0 : Hid (SwRel L S B C f w ws (.string ⟨#[]⟩) (.int .i64 (0 : Int)) w) := ⟨0, ⟨#[]⟩, Nat.zero_le _, rfl, rfl, rfl, h, Fr.refl _ _ _ _⟩
  have HH0 := hide h
  have HROW := hide hr
  have HPW := hide hP
  have HWS := hide hws
  obtain ⟨rc, hrc⟩ : ∃ rc, rc = Rn.wcells C ws := ⟨_, rfl⟩
  rw [← hrc]
  have HRC := hide hrc
  clear h hr hP hws hrc
  go_enter Tryz.func46, Tryz.ntmps46
  go_wp2
  go_loopw [5, 6] (fun x i wr => SwRel L S B C f w ws x i wr) (fun _ i _ => ws.length - (intOf i).toNat)
  case atStart => exact HR0.out
  case round =>
    obtain ⟨k, X, hk, rfl, rfl, hX, hst, hf⟩ := hrel
    have HX := hide hX
    have HS := hide hst
    have HF := hide hf
    clear hX hst hf HR0
    by_cases hlt : k < ws.length
    · have tk : decide ((k : Int) < (ws.length : Int)) = true := by simp; omega
      have hrow2 : WRow wr b (.slice ao ws.length cap) ws := own_fr HROW.out (HH0.out.weakB HF.out) (by decide) (.inl rfl)
      obtain ⟨ao', cap', heq, hsh⟩ := hrow2.shape
      obtain ⟨g, hg, -, hcs⟩ := hsh (by omega)
      cases heq
      subst hg
      obtain ⟨p, hp⟩ : ∃ p, ws[k]? = some p := ⟨ws[k], by simp [hlt]⟩
      obtain ⟨d1, d2, d3⟩ := hcs k p hp
      have hwk : Rn.wcells C (ws.take (k + 1)) = ((Rn.wcell (Rn.wcells C (ws.take k)).1 p).1, (Rn.wcells C (ws.take k)).2 ++ (Rn.wcell (Rn.wcells C (ws.take k)).1 p).2) := by
        rw [List.take_succ_eq_append_getElem hlt, (List.getElem?_eq_some_iff.1 hp).2, Rn.wcells_snoc]
      have HWK := hide hwk
      have hYl := Rn.wcell_len (Rn.wcells C (ws.take k)).1 p (HWS.out p (List.mem_of_getElem? hp))
      have hXl := Rn.wcells_len (ws.take k) C (fun q hq => HWS.out q (List.mem_of_mem_take hq))
      have hXs : X.size ≤ 200 := by rw [size_list, HX.out]; rw [List.length_take] at hXl; omega
      have HYL := hide hYl
      clear hXl hYl
      have HWC := hide (writeCell_any L S B (Rn.wcells C (ws.take k)).1 f p wr HS.out (HWS.out p (List.mem_of_getElem? hp)) (HPW.out.below hpL HF.out.below) hpL)
      clear hrow2 hsh hcs hp hwk
      obtain ⟨p1, p2, p3⟩ := p
      simp only at HWC HWK d1 d2 d3
      go_wp2_with fail
      refine HWC.out.mono ?_
      rintro e w4 ⟨Y, rfl, hY, hst4, hf4⟩
      have hYs : Y.size ≤ 25 := by rw [size_list, hY]; exact HYL.out
      have HRR : Hid (SwRel L S B C f w ws (.string (X ++ Y)) (.int .i64 ((k : Int) + 1)) w4) := by
        refine ⟨k + 1, X ++ Y, by omega, by go_num, rfl, ?_, ?_, HF.out.trans hf4⟩
        · rw [app_list, HX.out, hY, HWK.out]
        · rw [HWK.out]; exact hst4
      clear hY hst4 hf4 HWC
      go_wp2
      go_roundw
      case rel => exact HRR.out
      case measure => simp [intOf]; omega
    · have tk : decide ((k : Int) < (ws.length : Int)) = false := by simp; omega
      have hke : ws.take k = ws := List.take_of_length_le (by omega)
      rw [hke] at HX HS
      have hxl := Rn.wcells_len ws C HWS.out
      have hXs : X.size ≤ 200 := by rw [size_list, HX.out]; omega
      rw [← HRC.out] at HX HS hxl
      clear HRC
      obtain ⟨C', es⟩ := rc
      simp only at HX HS hxl
      have HTL := hide (tell_any L S B C' f X wr HS.out (by omega))
      have hxx : (X.toList == []) = decide (es = []) := by
        rw [ByteArray.toList_eq, HX.out]
        by_cases he : es = []
        · rw [he]; rfl
        · rw [decide_eq_false he, beq_eq_false_iff_ne]; exact he
      clear hke
      by_cases he : es = []
      · rw [decide_eq_true he] at hxx
        have HE := hide he
        clear he HTL
        go_wp2
        go_ret
        exact ⟨_, rfl, HS.out, HF.out, .inl ⟨HE.out, rfl⟩⟩
      · rw [decide_eq_false he] at hxx
        have HE := hide he
        clear he
        go_wp2_with fail
        refine HTL.out.mono ?_
        rintro e w5 ⟨v, rfl, hrow, hb5⟩
        obtain ⟨vo, vk, rfl, -, -⟩ := own_slice hrow
        have HFIN : Hid (SwPost L S B f (C', es) w (.returned (.slice vo 1 vk)) w5) := by
          refine ⟨_, rfl, HS.out.below hb5, HF.out.trans (Fr.of hb5 (Nat.le_trans hLw HF.out.size)), .inr ⟨HE.out, ?_⟩⟩
          rw [HX.out] at hrow
          exact ownsRow_base hrow HF.out.size
        clear hrow hb5 HTL
        go_wp2
        go_ret
        exact HFIN.out

namespace Rn
/-- Call: the contents behind it, the value, the units, the entries, the error. -/
def call (C : Jn.Con) (n : List UInt8) (args : List Int) (fuel : Int) : Jn.Con × Int × Int × List UInt8 × Int :=
  match srcL C.procs n with
  | none => (C, 0, 0, [], 3)
  | some src => if (run C src args fuel).2.2.2 ≠ 0 then (C, (run C src args fuel).1, (run C src args fuel).2.1, [], (run C src args fuel).2.2.2) else
    ((wcells C (run C src args fuel).2.2.1).1, (run C src args fuel).1, (run C src args fuel).2.1, (wcells C (run C src args fuel).2.2.1).2, 0)
theorem run_fit (C : Jn.Con) (src : List UInt8) (args : List Int) (fuel : Int) (hok : Jn.Ok C) : (run C src args fuel).2.2.1.length ≤ 8 ∧ ∀ p ∈ (run C src args fuel).2.2.1, WrOk p := by
  unfold run
  cases hm : may args fuel with
  | false => rw [if_pos rfl]; exact ⟨Nat.zero_le _, fun p hp => by cases hp⟩
  | true =>
    rw [if_neg (by simp)]
    split
    · exact ⟨Nat.zero_le _, fun p hp => by cases hp⟩
    · rename_i hr
      obtain ⟨-, f0, f1, fb⟩ := may_facts hm
      have hf := fit_start C src args fuel hok (by simpa using hr) ⟨f0, f1⟩ fb
      have hu := ((run_up (env C src args fuel) (3 * fuel.toNat + 3)).1 start hf).1
      simp only
      split
      · exact ⟨Nat.zero_le _, fun p hp => by cases hp⟩
      · exact ⟨hu.wrl, hu.wrs⟩
end Rn

/-- what Call answers. -/
def ClPost (L S B : Nat) (f : Int) (r : Jn.Con × Int × Int × List UInt8 × Int) (w : World) (e : Ending) (w' : World) : Prop :=
  ∃ v, e = .returned (.tuple #[.agg #[.int .i64 r.2.1, .int .i64 r.2.2.1], v, .int .i64 r.2.2.2.2]) ∧ StAt L w' S B r.1 f ∧ Fr L [] (some B) w w' ∧ ((r.2.2.2.1 = [] ∧ v = .slice none 0 0) ∨ (r.2.2.2.1 ≠ [] ∧ ARow w' w.heap.size v [(1, f, Jn.record r.2.2.2.1)]))

theorem fr_two {L B R : Nat} {a b c : World} (h : Fr L [] (some B) a b) (g : Fr L [] (some R) b c) (hR : a.heap.size ≤ R) : Fr L [] (some B) a c :=
  ⟨h.below.trans g.below, fun k cur t z hk ht hX => g.block k cur t z (h.block k cur t z hk ht hX) ht (fun e => by cases e; have := (Array.getElem?_eq_some_iff.1 hk).1; omega)⟩
theorem conAt_zero {L : Nat} {w : World} {B : Nat} {C : Jn.Con} (q : ConAt L w B C) : ConAt 0 w B C := ⟨Nat.zero_le _, q.ok, q.mem⟩
set_option maxHeartbeats 4000000 in
set_option maxRecDepth 100000 in
theorem callS_any (L S B : Nat) (C : Jn.Con) (f : Int) (n : ByteArray) (v : Value) (args : List Int) (fuel : Int) (w : World) (h : StAt L w S B C f) (hW : WordsAt w) (hv : IntsAt w v args) (hP : PowAt w) (hpL : 1 < L) :
    Calls Tryz.prog 23 #[.pointer (some ⟨S, 0, none⟩), .string n, v, .int .i64 fuel] w (ClPost L S B f (Rn.call C n.data.toList args fuel) w) := by
  obtain ⟨q, hq⟩ : ∃ q, q = Rn.call C n.data.toList args fuel := ⟨_, rfl⟩
  rw [← hq]
  unfold Rn.call at hq
  have hLw : L ≤ w.heap.size := Nat.le_trans h.low (Nat.le_of_lt h.lt)
  obtain ⟨w1, hw1⟩ : ∃ w1, w1 = w.alloc (.cells #[.int .i64 0, .int .i64 0] 45) := ⟨_, rfl⟩
  obtain ⟨R, hR⟩ : ∃ R, R = w.heap.size := ⟨_, rfl⟩
  have hb1 : Below w.heap.size w w1 := by rw [hw1]; exact (Below.refl _ _).alloc (Nat.le_refl _) _
  have hn1 : w1.heap[R]? = some (.cells #[.int .i64 0, .int .i64 0] 45 (0, 0)) := by rw [hw1, hR]; exact heap_alloc_new w _
  have h1 := h.below hb1
  have hsrc := source_any L B C n w1 h1.con
  obtain ⟨c0, -, -, -⟩ := h1.cells
  have hok := h.con.ok
  have HB1 := hide hb1
  have HN1 := hide hn1
  have H1 := hide h1
  have HH := hide h
  have HPW := hide hP
  have HRE := hide hR
  obtain ⟨vo, vk, hvs, -⟩ := id hv
  cases hs : srcL C.procs n.data.toList with
  | none =>
    rw [hs] at hq hsrc
    simp only [Option.getD_none, Option.isSome_none, T] at hsrc hq
    have e0 : w1.cell? ⟨R, 0, none⟩ = some (.int .i64 0) := (cell_of_row w1 _ 0 _ _ _ hn1).trans rfl
    have e1 : w1.cell? ⟨R, 1, none⟩ = some (.int .i64 0) := (cell_of_row w1 _ 1 _ _ _ hn1).trans rfl
    have g0 : w1.frozen? ⟨R, 0, none⟩ = false := frozen_of_row w1 _ 0 _ _ hn1
    have g1 : w1.frozen? ⟨R, 1, none⟩ = false := frozen_of_row w1 _ 1 _ _ hn1
    have hsrc' : Calls Tryz.prog 44 #[.pointer (some ⟨B, 0, none⟩), .string n] w1 fun e w' => e = .returned (.tuple #[.string ⟨#[]⟩, .int .i64 3]) ∧ w' = w1 := hsrc
    have HSRC := hide hsrc'
    have HQ := hide hq
    subst hvs
    clear hq hsrc hsrc' hb1 hn1 h1 h hP hW hv hs
    go_enter Tryz.func23, Tryz.ntmps23
    go_upto_region 1 with fail
    rw [← hw1, ← hR]
    clear hw1 hR
    go_wp2_with fail
    refine HSRC.out.mono ?_
    rintro e w2 ⟨rfl, rfl⟩
    go_wp2
    obtain ⟨s0, s1⟩ := out_two (a := .int .i64 0) (b := .int .i64 0) e0 e1
    refine bodyPost_ret (v := .tuple #[.agg #[.int .i64 0, .int .i64 0], .slice none 0 0, .int .i64 3]) (by simp [results, Tryz.results23, go_sem, s0, s1]) rfl ?_
    rw [HQ.out]
    have hle : w.heap.size ≤ R := Nat.le_of_eq HRE.out.symm
    have hbb := (HB1.out.setCell (p := ⟨R, 0, none⟩) hle (.int .i64 0)).setCell (p := ⟨R, 1, none⟩) hle (.int .i64 0)
    exact ⟨_, rfl, HH.out.below hbb, Fr.of hbb hLw, .inl ⟨rfl, rfl⟩⟩
  | some src =>
    rw [hs] at hq hsrc
    simp only [Option.getD_some, Option.isSome_some, T] at hsrc hq
    obtain ⟨sb, hsb⟩ : ∃ sb : ByteArray, sb = ⟨src.toArray⟩ := ⟨_, rfl⟩
    have hsl : sb.data.toList = src := by rw [hsb]
    have hsrc' : Calls Tryz.prog 44 #[.pointer (some ⟨B, 0, none⟩), .string n] w1 fun e w' => e = .returned (.tuple #[.string sb, .int .i64 0]) ∧ w' = w1 := by rw [hsb]; exact hsrc
    have HSRC := hide hsrc'
    have hrun := run_any B C sb v args fuel w1 (conAt_zero h1.con) (hW.below hW.1 hb1) (hv.below hb1)
    rw [hsl] at hrun
    obtain ⟨hl8, hwok⟩ := Rn.run_fit C src args fuel hok
    generalize Rn.run C src args fuel = rr at hq hrun hl8 hwok
    obtain ⟨r1, r2, ws, r4⟩ := rr
    simp only at hq hl8 hwok
    have HRUN := hide hrun
    have HWOK := hide hwok
    have HQ := hide hq
    subst hvs
    clear hq hsrc hsrc' hb1 hn1 h1 h hP hW hv hs hrun hsl hsb hwok
    go_enter Tryz.func23, Tryz.ntmps23
    go_upto_region 1 with fail
    rw [← hw1, ← hR]
    clear hw1 hR
    go_wp2_with fail
    refine HSRC.out.mono ?_
    rintro e w2 ⟨rfl, rfl⟩
    go_wp2_with fail
    refine HRUN.out.mono ?_
    rintro e w3 ⟨wv, rfl, hrw, hb3⟩
    obtain ⟨w4, hw4⟩ : ∃ w4, w4 = w3.alloc (.cells #[.int .i64 r1, .int .i64 r2] 45) := ⟨_, rfl⟩
    obtain ⟨O, hO⟩ : ∃ O, O = w3.heap.size := ⟨_, rfl⟩
    have hb4 : Below w3.heap.size w3 w4 := by rw [hw4]; exact (Below.refl _ _).alloc (Nat.le_refl _) _
    have hn4 : w4.heap[O]? = some (.cells #[.int .i64 r1, .int .i64 r2] 45 (0, 0)) := by rw [hw4, hO]; exact heap_alloc_new w3 _
    have hb24 : Below w2.heap.size w2 w4 := hb3.trans (hb4.mono hb3.size)
    have hb04 : Below w.heap.size w w4 := HB1.out.trans (hb24.mono HB1.out.size)
    have hn1' := (hb24.block R (Array.getElem?_eq_some_iff.1 HN1.out).1).trans HN1.out
    obtain ⟨wao, wcap, rfl, -⟩ := hrw.shape
    have HRW := hide (ownsRow_below hrw hb4)
    have HN4 := hide hn4
    have HR4 := hide hn1'
    have HB4 := hide hb04
    have H4 := hide (HH.out.below hb04)
    have o0 : w4.cell? ⟨O, 0, none⟩ = some (.int .i64 r1) := (cell_of_row w4 _ 0 _ _ _ hn4).trans rfl
    have o1 : w4.cell? ⟨O, 1, none⟩ = some (.int .i64 r2) := (cell_of_row w4 _ 1 _ _ _ hn4).trans rfl
    have e0 : w4.cell? ⟨R, 0, none⟩ = some (.int .i64 0) := (cell_of_row w4 _ 0 _ _ _ hn1').trans rfl
    have e1 : w4.cell? ⟨R, 1, none⟩ = some (.int .i64 0) := (cell_of_row w4 _ 1 _ _ _ hn1').trans rfl
    have g0 : w4.frozen? ⟨R, 0, none⟩ = false := frozen_of_row w4 _ 0 _ _ hn1'
    have g1 : w4.frozen? ⟨R, 1, none⟩ = false := frozen_of_row w4 _ 1 _ _ hn1'
    have hRO : R ≠ O := by have h1 := (Array.getElem?_eq_some_iff.1 HN1.out).1; have h2 := hb3.size; omega
    have hle : w.heap.size ≤ R := Nat.le_of_eq HRE.out.symm
    have hOw : w2.heap.size ≤ O := by rw [hO]; exact hb3.size
    clear hrw hb3 hb4 hn4 hb24 hb04 hn1' HRUN HSRC
    go_upto_region 5 with fail
    rw [← hw4, ← hO]
    clear hw4 hO
    cases ht : (r4 != (0 : Int)) with
    | true =>
      have HE : Hid (q = (C, r1, r2, [], r4)) := by show _ = _; rw [HQ.out, if_pos (by simpa using ht)]
      clear HQ
      go_wp2
      obtain ⟨s0, s1⟩ := out_two (a := .int .i64 r1) (b := .int .i64 r2) e0 e1
      refine bodyPost_ret (v := .tuple #[.agg #[.int .i64 r1, .int .i64 r2], .slice none 0 0, .int .i64 r4]) (by simp [results, Tryz.results23, go_sem, s0, s1]) rfl ?_
      rw [HE.out]
      have hbb := (HB4.out.setCell (p := ⟨R, 0, none⟩) hle (.int .i64 r1)).setCell (p := ⟨R, 1, none⟩) hle (.int .i64 r2)
      exact ⟨_, rfl, HH.out.below hbb, Fr.of hbb hLw, .inl ⟨rfl, rfl⟩⟩
    | false =>
      have h0 : r4 = 0 := by simpa using ht
      have HE : Hid (q = ((Rn.wcells C ws).1, r1, r2, (Rn.wcells C ws).2, 0)) := by show _ = _; rw [HQ.out, if_neg (by simpa using h0)]
      clear HQ
      subst h0
      have HWR := hide (fun x hx hr hp => writeS_any L S B w2.heap.size C f (.slice wao ws.length wcap) ws x hx hr hl8 HWOK.out hp hpL)
      generalize Rn.wcells C ws = rc at HE HWR
      obtain ⟨C', es⟩ := rc
      simp only at HE
      have hBR : B ≠ R := by have h1 := HH.out.con.lt; have h2 := HRE.out; omega
      have hBO : B ≠ O := by have h1 := HH.out.con.lt; have h3 := HB1.out.size; have h2 := hOw; omega
      have hRl : R < w2.heap.size := (Array.getElem?_eq_some_iff.1 HN1.out).1
      have hA1 : Below w.heap.size w w4.drew := Below.drew HB4.out
      have hA2 : Below w.heap.size w ((w4.drew.setCell ⟨R, 0, none⟩ (.int .i64 r1)).setCell ⟨R, 1, none⟩ (.int .i64 r2)) := (hA1.setCell (p := ⟨R, 0, none⟩) hle _).setCell (p := ⟨R, 1, none⟩) hle _
      have HC1 := hide (HWR.out w4.drew (HH.out.below hA1) HRW.out (HPW.out.below hpL (hA1.mono hLw)))
      have HC2 := hide (HWR.out ((w4.drew.setCell ⟨R, 0, none⟩ (.int .i64 r1)).setCell ⟨R, 1, none⟩ (.int .i64 r2)) (HH.out.below hA2) (ownsRow_setCell_below (ownsRow_setCell_below (w := w4.drew) HRW.out (a := ⟨R, 0, none⟩) hRl (.int .i64 r1)) (a := ⟨R, 1, none⟩) hRl (.int .i64 r2)) (HPW.out.below hpL (hA2.mono hLw)))
      have HA1 := hide hA1
      have HA2 := hide hA2
      have HKR := hide (fun x (hx : Fr L [] (some B) w4.drew x) => And.intro (hx.block O _ _ _ HN4.out (by simp) (by simpa using hBO)) (hx.block R _ _ _ HR4.out (by simp) (by simpa using hBR)))
      have hRA : ((w4.drew.setCell ⟨R, 0, none⟩ (.int .i64 r1)).setCell ⟨R, 1, none⟩ (.int .i64 r2)).heap[R]? = some (.cells #[.int .i64 r1, .int .i64 r2] 45 (0, 0)) := by
        rw [heap_setCell_same _ R 1 _ _ _ (heap_setCell_same w4.drew R 0 _ _ _ HR4.out)]; rfl
      have HK2 := hide (fun x (hx : Fr L [] (some B) ((w4.drew.setCell ⟨R, 0, none⟩ (.int .i64 r1)).setCell ⟨R, 1, none⟩ (.int .i64 r2)) x) => hx.block R _ _ _ hRA (by simp) (by simpa using hBR))
      clear HWR hA1 hA2 hRA
      go_wp2_with fail
      go_region_with (first | (go_at_call 46; first | (refine HC1.out.mono ?_; rintro e w5 ⟨v5, rfl, hst5, hf5, hor5⟩; obtain ⟨hO5, hR5⟩ := HKR.out w5 hf5; have x0 : w5.cell? ⟨O, 0, none⟩ = some (.int .i64 r1) := (cell_of_row w5 _ 0 _ _ _ hO5).trans rfl; have x1 : w5.cell? ⟨O, 1, none⟩ = some (.int .i64 r2) := (cell_of_row w5 _ 1 _ _ _ hO5).trans rfl; have y0 : w5.cell? ⟨R, 0, none⟩ = some (.int .i64 0) := (cell_of_row w5 _ 0 _ _ _ hR5).trans rfl; have y1 : w5.cell? ⟨R, 1, none⟩ = some (.int .i64 0) := (cell_of_row w5 _ 1 _ _ _ hR5).trans rfl; have z0 : w5.frozen? ⟨R, 0, none⟩ = false := frozen_of_row w5 _ 0 _ _ hR5; have z1 : w5.frozen? ⟨R, 1, none⟩ = false := frozen_of_row w5 _ 1 _ _ hR5; have HS5 := hide hst5; have HF5 := hide hf5; have HO5 := hide hor5; have HRR5 := hide hR5; clear hst5 hf5 hor5 hO5 hR5) | (refine HC2.out.mono ?_; rintro e w5 ⟨v5, rfl, hst5, hf5, hor5⟩; have hR5 := HK2.out w5 hf5; have y0 : w5.cell? ⟨R, 0, none⟩ = some (.int .i64 r1) := (cell_of_row w5 _ 0 _ _ _ hR5).trans rfl; have y1 : w5.cell? ⟨R, 1, none⟩ = some (.int .i64 r2) := (cell_of_row w5 _ 1 _ _ _ hR5).trans rfl; clear hR5; have HS5 := hide hst5; have HF5 := hide hf5; have HO5 := hide hor5; clear hst5 hf5 hor5)))
      all_goals
        go_wp2
        obtain ⟨s0, s1⟩ := out_two (w1 := w5) (a := .int .i64 r1) (b := .int .i64 r2) y0 y1
        refine bodyPost_ret (v := .tuple #[.agg #[.int .i64 r1, .int .i64 r2], v5, .int .i64 0]) (by simp [results, Tryz.results23, go_sem, s0, s1]) rfl ?_
        rw [HE.out]
        have hLR : L ≤ R := Nat.le_trans hLw hle
        have f1 : Fr L [45] none w5 (w5.setCell ⟨R, 0, none⟩ (.int .i64 r1)) := (fr_setCell w5 R 0 _ hLR).typed (fun k hk => by cases hk; exact ⟨_, _, _, HRR5.out, by simp⟩) none
        have f2 : Fr L [45] none (w5.setCell ⟨R, 0, none⟩ (.int .i64 r1)) ((w5.setCell ⟨R, 0, none⟩ (.int .i64 r1)).setCell ⟨R, 1, none⟩ (.int .i64 r2)) := (fr_setCell _ R 1 _ hLR).typed (fun k hk => by cases hk; exact ⟨_, _, _, heap_setCell_same w5 R 0 _ _ _ HRR5.out, by simp⟩) none
        have f12 := f1.trans f2
        have fa : Fr L [] (some B) w w5 := (Fr.of HA1.out hLw).trans HF5.out
        have fb := fr_two (fr_two fa (fr_setCell w5 R 0 (.int .i64 r1) hLR) hle) (fr_setCell (w5.setCell ⟨R, 0, none⟩ (.int .i64 r1)) R 1 (.int .i64 r2) hLR) hle
        refine ⟨v5, rfl, HS5.out.fr f12 (by decide) (by decide) (by decide) (by simp), fb, ?_⟩
        rcases HO5.out with ⟨h1, h2⟩ | ⟨h1, h2⟩
        · exact .inl ⟨h1, h2⟩
        · exact .inr ⟨h1, ownsRow_base (own_fr h2 f12 (by decide) (.inl rfl)) HB4.out.size⟩
end Go.Proofs.YtellilpeakpbfabGreatDoor

end
