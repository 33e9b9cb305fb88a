import Derived.Test.YtellilpeakpbfaaGreatDoorProcIToo
import Derived.Test.YtellilpeakpbfaaGreatDoorCellLToo
import Derived.Test.YtellilpeakpbfaaGreatDoorStpToo
section
/-
  The walk of World.procs: Drop.
-/
namespace Go.Proofs.YtellilpeakpbfaaGreatDoor
open Go.RowKit

set_option maxHeartbeats 8000000 in
set_option maxRecDepth 100000 in
theorem procs_drop (L W D m : Nat) (w : World) (C : Jn.Con) (o : OpD) (ho : o.kind = 8) (h : SInv L W D w C m) (hm : m ≤ 1300000000000) :
    Calls Tryz.prog 72 #[.pointer (some ⟨W, 0, none⟩), .agg o.cells, .bool false] w (StepPost L W D m w) := by
  have HCE := hide (fun W w s1 s2 f most a1 a2 b1 b2 c1 c2 h1 h2 hf => change_err W w s1 s2 f most a1 a2 b1 b2 c1 c2 h1 h2 o hf)
  obtain ⟨S, B, f, past, d, nc, nq, na, hlaw, hst, hlast, hpm, hnc, hnq, hna, hdk, hds, hpl⟩ := h
  have HCO := hide (fun N w C' d' s1 s2 v l most hlaw hLN hN hr hok h1 h2 hl hs hs2 her hp => change_ok L W D N N w (.pointer (some ⟨S, 0, none⟩)) past C' d d' nc nq na s1 s2 v l most o hlaw hLN hN hN h1 h2 hok hr hl hs hs2 her hp (by omega) (by omega))
  obtain ⟨kk, nn, mm, s, t, lo, ln, lc, cut, wo, wn, wc⟩ := o
  simp only at ho
  subst ho
  simp only [OpD.cells] at HCE HCO ⊢
  obtain ⟨w1, hw1⟩ : ∃ w1, w1 = w.alloc (.cells #[.int .i64 8, .int .i64 nn, .int .i64 mm, .string s, .string t, .slice lo ln lc, .int .i64 cut, .slice wo wn wc] 83) := ⟨_, rfl⟩
  obtain ⟨B0, hB0⟩ : ∃ B0, B0 = w.heap.size := ⟨_, rfl⟩
  have hB1 : Below w.heap.size w w1 := by rw [hw1]; exact (Below.refl _ _).alloc (Nat.le_refl _) _
  have hbo : w1.heap[B0]? = some (.cells #[.int .i64 8, .int .i64 nn, .int .i64 mm, .string s, .string t, .slice lo ln lc, .int .i64 cut, .slice wo wn wc] 83 (0, 0)) := by rw [hw1, hB0]; exact heap_alloc_new w _
  have hlaw1 := hlaw.below hB1
  obtain ⟨vp, vc, vq, va, lcs, lqs, lxs, hWA, hpast, -, -, -, -, -, -⟩ := hlaw1.rest
  have HNOW := hide (now_any L W w1 _ _ vp vc vq va past C hWA hpast hlast (by omega))
  have hok : Jn.Ok C := hst.con.ok
  have HIS := hide (fun x (hx : Below w1.heap.size w1 x) => dropS_any L S B C f s x ((hst.below hB1).below hx))
  have HRI := hide (fun sc sp w h1 h2 => refDrop_any C sc sp s w h1 h2 hok)
  have HPB := hide (fun b v w h => procBytes_any b v C s w h hok)
  have hcb := count_bd hok s.data.toList
  have HB1 := hide hB1
  have HWA := hide hWA
  have HBO := hide hbo
  have HLAW := hide hlaw
  have HST := hide hst
  have HIR := hide (fun h => drop_redo hok s.data.toList h)
  have HIM := hide (fun h => drop_same C s.data.toList h)
  have hIL : (Jn.drop C s.data.toList).1.cells = C.cells := by
    unfold Jn.drop
    repeat' split
    all_goals rfl
  clear hB1 hbo hlaw hst hlaw1 hWA hpast
  obtain ⟨C', hC'⟩ : ∃ C', C' = (Jn.drop C s.data.toList).1 := ⟨_, rfl⟩
  obtain ⟨er, her⟩ : ∃ er, er = (Jn.drop C s.data.toList).2 := ⟨_, rfl⟩
  rw [← hC', ← her] at HRI HIS
  rw [← her] at HIR HIM
  rw [← hC'] at HIR HIM hIL
  have hcl : C'.list = C.list := by unfold Jn.Con.list; rw [hIL]
  clear hC' her hIL
  obtain ⟨cb, hcb0⟩ : ∃ cb, cb = countL C.procs s.data.toList := ⟨_, rfl⟩
  rw [← hcb0] at HPB hcb
  clear hcb0
  go_enter Tryz.func72, Tryz.ntmps72
  go_upto_region 1 with fail
  rw [← hw1, ← hB0]
  have HW1 := hide hw1
  have HB0 := hide hB0
  clear hw1 hB0
  go_wp2_with fail
  refine HNOW.out.mono ?_
  rintro e wn ⟨sc, sp, rfl, hcr, hpr, hbn⟩
  obtain ⟨so, sk, rfl⟩ := crow_slice hcr
  obtain ⟨po, pk, rfl, -⟩ := hpr.shape
  obtain ⟨wv, hwv⟩ : ∃ wv, wv = wn.alloc (.cells #[.slice so C.list.length sk, .slice po C.procs.length pk] 128) := ⟨_, rfl⟩
  obtain ⟨Bv, hBv⟩ : ∃ Bv, Bv = wn.heap.size := ⟨_, rfl⟩
  have hba : Below wn.heap.size wn wv := by rw [hwv]; exact (Below.refl _ _).alloc (Nat.le_refl _) _
  have hbv : Below w1.heap.size w1 wv := hbn.trans (hba.mono hbn.size)
  have hon := (hbv.block B0 (Array.getElem?_eq_some_iff.1 HBO.out).1).trans HBO.out
  have hvn : wv.heap[Bv]? = some (.cells #[.slice so C.list.length sk, .slice po C.procs.length pk] 128 (0, 0)) := by rw [hwv, hBv]; exact heap_alloc_new wn _
  have p0 : wv.cell? ⟨B0, 0, none⟩ = some (.int .i64 8) := (cell_of_row wv B0 0 _ _ _ hon).trans rfl
  have p3 : wv.cell? ⟨B0, 3, none⟩ = some (.string s) := (cell_of_row wv B0 3 _ _ _ hon).trans rfl
  have p4 : wv.cell? ⟨B0, 4, none⟩ = some (.string t) := (cell_of_row wv B0 4 _ _ _ hon).trans rfl
  have v0 : wv.cell? ⟨Bv, 0, none⟩ = some (.slice so C.list.length sk) := (cell_of_row wv Bv 0 _ _ _ hvn).trans rfl
  have v1 : wv.cell? ⟨Bv, 1, none⟩ = some (.slice po C.procs.length pk) := (cell_of_row wv Bv 1 _ _ _ hvn).trans rfl
  have HON := hide hon
  have HVN := hide hvn
  have HCR := hide (hcr.below hba)
  have HPR := hide (hpr.below hba)
  have HBV := hide hbv
  clear hcr hpr hbn hon HNOW hba hbv hvn
  go_upto_region 2 with fail
  rw [← hwv, ← hBv]
  have HWV := hide hwv
  have HBVV := hide hBv
  clear hwv hBv
  go_wp2_with fail
  refine (HRI.out _ _ _ HCR.out HPR.out).mono ?_
  rintro e wi ⟨po', pk', rfl, hpi, hbi⟩
  obtain ⟨wd, hwd⟩ : ∃ wd, wd = wi.alloc (.cells #[.slice so C.list.length sk, .slice po' C'.procs.length pk'] 128) := ⟨_, rfl⟩
  obtain ⟨Bd, hBd⟩ : ∃ Bd, Bd = wi.heap.size := ⟨_, rfl⟩
  have hba : Below wi.heap.size wi wd := by rw [hwd]; exact (Below.refl _ _).alloc (Nat.le_refl _) _
  have hbvd : Below wv.heap.size wv wd := hbi.trans (hba.mono hbi.size)
  have hbd : Below w1.heap.size w1 wd := HBV.out.trans (hbvd.mono HBV.out.size)
  have hdn : wd.heap[Bd]? = some (.cells #[.slice so C.list.length sk, .slice po' C'.procs.length pk'] 128 (0, 0)) := by rw [hwd, hBd]; exact heap_alloc_new wi _
  have hon := (hbvd.block B0 (Array.getElem?_eq_some_iff.1 HON.out).1).trans HON.out
  have hvn := (hbvd.block Bv (Array.getElem?_eq_some_iff.1 HVN.out).1).trans HVN.out
  have hwa : WAt wd W _ _ _ _ _ _ := HWA.out.fr (Fr.of (L := 0) (T := []) (X := none) hbd (Nat.zero_le _)) (by simp) (by simp)
  have HFR := hide (fun x (hx : Fr L [145] none wd x) => And.intro (hx.block B0 _ _ _ hon (by decide) (by simp)) (And.intro (hx.block Bd _ _ _ hdn (by decide) (by simp)) (And.intro (hx.block Bv _ _ _ hvn (by decide) (by simp)) (hwa.fr hx (by decide) (by simp)))))
  have HKP := hide (fun x (hx : Fr L [145] none wd x) => (⟨(HFR.out x hx).2.2.2.cell.1, (cell_of_row x B0 3 _ _ _ (HFR.out x hx).1).trans rfl⟩ : x.cell? ⟨W, 0, none⟩ = some (.pointer (some ⟨S, 0, none⟩)) ∧ x.cell? ⟨B0, 3, none⟩ = some (.string s)))
  obtain ⟨k0, k3⟩ := HKP.out wd (Fr.refl _ _ _ _)
  have HCR2 := hide (HCR.out.below hbvd)
  have HPO := hide (HPR.out.below hbvd)
  have HPI := hide (hpi.below hba)
  have HBD := hide hbd
  clear hpi hbi hba hbvd hbd hdn hon hvn hwa p0 p3 p4 v0 v1 HRI HCR HPR HON HVN
  go_upto_region 11 with fail
  rw [← hwd, ← hBd]
  have HWD := hide hwd
  have HBDD := hide hBd
  clear hwd hBd
  go_region_held3 (fun w' => w'.cell? ⟨W, 0, none⟩ = some (.pointer (some ⟨S, 0, none⟩)) ∧ w'.cell? ⟨B0, 3, none⟩ = some (.string s))
    (first | with_reducible exact HKP.out _ hfr | go_keep)
    (first | (go_at_call 35; refine (HIS.out _ (Below.drew HBD.out)).mono ?_; rintro e wp ⟨v, rfl, hst', hfr0, hor⟩; have hfr : Fr L [145] none wd wp := Fr.undrew hfr0))
  obtain ⟨hob, hbd, hbv, -⟩ := HFR.out wp hfr
  have p0 : wp.cell? ⟨B0, 0, none⟩ = some (.int .i64 8) := (cell_of_row wp B0 0 _ _ _ hob).trans rfl
  have p1 : wp.cell? ⟨B0, 1, none⟩ = some (.int .i64 nn) := (cell_of_row wp B0 1 _ _ _ hob).trans rfl
  have p2 : wp.cell? ⟨B0, 2, none⟩ = some (.int .i64 mm) := (cell_of_row wp B0 2 _ _ _ hob).trans rfl
  have p3 : wp.cell? ⟨B0, 3, none⟩ = some (.string s) := (cell_of_row wp B0 3 _ _ _ hob).trans rfl
  have p4 : wp.cell? ⟨B0, 4, none⟩ = some (.string t) := (cell_of_row wp B0 4 _ _ _ hob).trans rfl
  have p5 : wp.cell? ⟨B0, 5, none⟩ = some (.slice lo ln lc) := (cell_of_row wp B0 5 _ _ _ hob).trans rfl
  have p6 : wp.cell? ⟨B0, 6, none⟩ = some (.int .i64 cut) := (cell_of_row wp B0 6 _ _ _ hob).trans rfl
  have p7 := (cell_of_row wp B0 7 _ _ _ hob).trans rfl
  have r0 : wp.cell? ⟨Bd, 0, none⟩ = some (.slice so C.list.length sk) := (cell_of_row wp Bd 0 _ _ _ hbd).trans rfl
  have r1 : wp.cell? ⟨Bd, 1, none⟩ = some (.slice po' C'.procs.length pk') := (cell_of_row wp Bd 1 _ _ _ hbd).trans rfl
  have v1 : wp.cell? ⟨Bv, 1, none⟩ = some (.slice po C.procs.length pk) := (cell_of_row wp Bv 1 _ _ _ hbv).trans rfl
  have HF := hide hfr
  have HS := hide hst'
  have HPP := hide (own_fr HPO.out hfr (by decide) (.inl rfl))
  clear hfr hst' hob hbd hbv hfr0 HIS HKP HFR k0 k3
  rcases hor with ⟨hne, rfl⟩ | ⟨h0, har⟩
  · have hsame : C' = C := HIM.out hne
    have HSM := hide hsame
    have HC1 := hide (fun most => HCE.out W wp (.slice so C.list.length sk) (.slice po' C'.procs.length pk') er most so po' C.list.length C'.procs.length sk pk' rfl rfl hne)
    clear hne hsame HCO HCE
    go_wp2_with fail
    refine (HPB.out 0 _ wp HPP.out).mono ?_
    rintro e wq ⟨rfl, rfl⟩
    go_wp2_with fail
    refine (HC1.out _).mono ?_
    rintro e w9 ⟨rfl, hb9⟩
    have HFIN := hide (step_err HLAW.out hlast hpm hnc hnq hna hdk hds hpl HB1.out HBD.out HF.out (HSM.out ▸ HS.out) hb9)
    clear hb9 HC1
    go_wp2_with fail
    go_ret
    exact HFIN.out
  · obtain ⟨hre, hno, hlen⟩ := HIR.out h0
    obtain ⟨d', hpd, hdk', z1, z2⟩ := hdk.change hno hre (by omega)
    have hLd : L ≤ wd.heap.size := Nat.le_trans (Nat.le_trans HLAW.out.low HB1.out.size) HBD.out.size
    have hlens : lens [((1 : Int), f, Jn.record (Jn.dropE s.data.toList))] ≤ 12 := by simp [lens, Jn.record]; omega
    have HC2 := hide (HCO.out wd.heap.size wp C' d' (.slice so C.list.length sk) (.slice po' C'.procs.length pk') v _ (64 + cb) (((((HLAW.out.below HB1.out).below HBD.out).fr HF.out (by simp)).mono (Nat.le_trans HB1.out.size HBD.out.size) (Nat.le_trans HB1.out.size HBD.out.size))) hLd HF.out.size har HS.out.con.ok
      (by rw [hcl]; have h := own_fr HCR2.out HF.out (by decide) (.inl rfl); exact h) (by have h := own_fr HPI.out HF.out (by decide) (.inl rfl); exact h) (by simp) (by omega) (by omega) (by simp) hpd)
    have HDK := hide hdk'
    have hsz : d'.1.size + d'.2.1.size ≤ 30000 + 4000 * (m + 1) := by omega
    have HSZ := hide hsz
    have HPL := hide (ok_plain HS.out.con.ok)
    subst h0
    clear har hre hno hlen hpd hdk' z1 z2 hLd hsz HCO HCE hlens
    go_wp2_with fail
    refine (HPB.out 0 _ wp HPP.out).mono ?_
    rintro e wq ⟨rfl, rfl⟩
    go_wp2_with fail
    refine HC2.out.mono ?_
    rintro e w9 ⟨rfl, hl9, hf9⟩
    have HFIN := hide (step_ok HLAW.out hpm hnc hnq hna HDK.out HSZ.out HPL.out HB1.out HBD.out HF.out HS.out hl9 hf9 (by decide) (by decide) (by decide))
    clear hl9 hf9 HC2
    go_wp2_with fail
    go_ret
    exact HFIN.out
end Go.Proofs.YtellilpeakpbfaaGreatDoor

end

section
/-
  The walk of World.procs: Procs.
-/
namespace Go.Proofs.YtellilpeakpbfaaGreatDoor
open Go.RowKit

set_option maxHeartbeats 8000000 in
set_option maxRecDepth 100000 in
theorem procs_procs (L W D m : Nat) (w : World) (C : Jn.Con) (o : OpD) (ho : o.kind = 9) (h : SInv L W D w C m) (hm : m ≤ 1300000000000) :
    Calls Tryz.prog 72 #[.pointer (some ⟨W, 0, none⟩), .agg o.cells, .bool false] w (StepPost L W D m w) := by
  obtain ⟨S, B, f, past, d, nc, nq, na, hlaw, hst, hlast, hpm, hnc, hnq, hna, hdk, hds, hpl⟩ := h
  obtain ⟨kk, nn, mm, s, t, lo, ln, lc, cut, wo, wn, wc⟩ := o
  simp only at ho
  subst ho
  simp only [OpD.cells]
  obtain ⟨w1, hw1⟩ : ∃ w1, w1 = w.alloc (.cells #[.int .i64 9, .int .i64 nn, .int .i64 mm, .string s, .string t, .slice lo ln lc, .int .i64 cut, .slice wo wn wc] 83) := ⟨_, rfl⟩
  obtain ⟨B0, hB0⟩ : ∃ B0, B0 = w.heap.size := ⟨_, rfl⟩
  have hB1 : Below w.heap.size w w1 := by rw [hw1]; exact (Below.refl _ _).alloc (Nat.le_refl _) _
  have hbo : w1.heap[B0]? = some (.cells #[.int .i64 9, .int .i64 nn, .int .i64 mm, .string s, .string t, .slice lo ln lc, .int .i64 cut, .slice wo wn wc] 83 (0, 0)) := by rw [hw1, hB0]; exact heap_alloc_new w _
  have hlaw1 := hlaw.below hB1
  have hst1 := hst.below hB1
  obtain ⟨vp, vc, vq, va, lcs, lqs, lxs, hWA, hpast, hh1, e1, hh2, e2, hh3, e3⟩ := hlaw1.rest
  have HNOW := hide (now_any L W w1 _ _ vp vc vq va past C hWA hpast hlast (by omega))
  have c0 := hWA.cell.1
  have hok : Jn.Ok C := hst.con.ok
  have hcnt := hok.cnt
  have HPS := hide (fun x (hx : Below w1.heap.size w1 x) => procsS_any L S B C f x (hst1.below hx))
  have hLw := hlaw1.low
  have hz1 := hB1.size
  have HKC : Hid (∀ (x y : World) (v : Value), Below w1.heap.size w1 x → Below x.heap.size x y → PRow y x.heap.size v C.procs → Calls Tryz.prog 100 #[.pointer (some ⟨W, 3, none⟩), v] y (fun e w9 => e = .returned (.tuple #[]) ∧ StepPost L W D m w (.returned (.bool true)) w9)) := by
    intro x y v hbx hby hr
    have hb : Below w1.heap.size w1 y := hbx.trans (hby.mono hbx.size)
    have f1 : Fr L [92, 42] none w1 y := Fr.of hb hLw
    have hzx := hbx.size
    have hzy := hby.size
    refine (keepProcs_any L x.heap.size W y _ _ vp vc vq va lqs v _ _ (hWA.fr (Fr.of (L := 0) (T := []) (X := none) hb (Nat.zero_le _)) (by simp) (by simp)) hlaw.lw
      ((hh2.fr (X := none) (Fr.of (T := []) hb hLw) (by simp) (by simp) (by simp) (.inl rfl)).mono (by omega)) hr (by omega) (by omega) hby.size (by omega)).mono ?_
    rintro e w9 ⟨v', ls', rfl, hW9, hh9, hl9, hf9⟩
    have hf : Fr L [92, 42] none w1 w9 := f1.fresh hf9 (fun k hk => Nat.le_trans hbx.size (own_lies hr k hk))
    have hz9 := hf.size
    refine ⟨rfl, rfl, ⟨C, S, B, f, past, d, nc, nq + 3, na, ⟨hlaw.lw, hlaw.ld, hlaw1.disk.fr hf (by decide) (by simp), vp, vc, v', va, lcs, ls', lxs, hW9, hpast.fr hf (by decide) (by decide) (by decide),
      (hh1.fr hf (by decide) (by decide) (by simp) (.inl rfl)).mono (by omega), e1, hh9, by omega, (hh3.fr hf (by decide) (by decide) (by simp) (.inl rfl)).mono (by omega), e3⟩, ?_, hlast, by omega, by omega, by omega, by omega, hdk, by omega, hpl⟩, ?_⟩
    · exact hst1.fr hf (by decide) (by decide) (by decide) (by simp)
    · exact (hB1.mono hlaw.low).trans hf.below
  have HSM : Hid (∀ (b : Nat) (va' vb : Value) (x : World), PRow x b va' C.procs → PRow x 0 vb C.procs → Calls Tryz.prog 98 #[va', vb] x (fun e w' => e = .returned (.bool true) ∧ Below x.heap.size x w')) := fun b va' vb x ha hb => by
    have := sameProcs_any b 0 va' vb C.procs C.procs x ha hb (by omega)
    rw [decide_eq_true (rfl : C.procs = C.procs)] at this
    exact this
  have HBO := hide hbo
  clear hB1 hlaw hst hlaw1 hst1 hWA hpast hh1 hh2 hh3 hok hbo
  go_enter Tryz.func72, Tryz.ntmps72
  go_upto_region 1 with fail
  rw [← hw1, ← hB0]
  have HW1 := hide hw1
  have HB0 := hide hB0
  clear hw1 hB0
  go_wp2_with fail
  refine HNOW.out.mono ?_
  rintro e wn ⟨sc, sp, rfl, hcr, hpr, hbn⟩
  obtain ⟨so, sk, rfl⟩ := crow_slice hcr
  obtain ⟨po, pk, rfl, -⟩ := hpr.shape
  obtain ⟨wv, hwv⟩ : ∃ wv, wv = wn.alloc (.cells #[.slice so C.list.length sk, .slice po C.procs.length pk] 128) := ⟨_, rfl⟩
  obtain ⟨Bv, hBv⟩ : ∃ Bv, Bv = wn.heap.size := ⟨_, rfl⟩
  have hba : Below wn.heap.size wn wv := by rw [hwv]; exact (Below.refl _ _).alloc (Nat.le_refl _) _
  have hbv : Below w1.heap.size w1 wv := hbn.trans (hba.mono hbn.size)
  have hon := (hbv.block B0 (Array.getElem?_eq_some_iff.1 HBO.out).1).trans HBO.out
  have hvn : wv.heap[Bv]? = some (.cells #[.slice so C.list.length sk, .slice po C.procs.length pk] 128 (0, 0)) := by rw [hwv, hBv]; exact heap_alloc_new wn _
  have p0 : wv.cell? ⟨B0, 0, none⟩ = some (.int .i64 9) := (cell_of_row wv B0 0 _ _ _ hon).trans rfl
  have g0 := at_old hbv c0
  have HVN := hide hvn
  have HPR := hide (hpr.below hba)
  have HBV := hide hbv
  clear hcr hpr hbn hon HNOW hba hbv hvn c0
  go_upto_region 2 with fail
  rw [← hwv, ← hBv]
  have HWV := hide hwv
  have HBVV := hide hBv
  clear hwv hBv
  go_wp2_with fail
  refine (HPS.out _ HBV.out).mono ?_
  rintro e w2 ⟨v, rfl, hcv, hb2⟩
  have hvn := (hb2.block Bv (Array.getElem?_eq_some_iff.1 HVN.out).1).trans HVN.out
  have v1 : w2.cell? ⟨Bv, 1, none⟩ = some (.slice po C.procs.length pk) := (cell_of_row w2 Bv 1 _ _ _ hvn).trans rfl
  have HCV := hide hcv
  have HB2 := hide hb2
  have HSX := hide (HSM.out _ v _ w2 hcv (HPR.out.below hb2))
  clear hcv hb2 hvn HPS HSM g0 p0
  go_wp2_with fail
  refine HSX.out.mono ?_
  rintro e w4 ⟨rfl, hb4⟩
  have HK := hide (HKC.out wv w4 v HBV.out (HB2.out.trans (hb4.mono HB2.out.size)) (HCV.out.below hb4))
  clear hb4 HSX HKC HCV
  go_wp2_with fail
  refine HK.out.mono ?_
  rintro e w9 ⟨rfl, hfin⟩
  have HFIN := hide hfin
  clear hfin HK
  go_wp2_with fail
  go_ret
  exact HFIN.out
end Go.Proofs.YtellilpeakpbfaaGreatDoor

end

section
/-
  The walk of World.step: the kinds of Installs.
-/
set_option linter.unusedVariables false
namespace Go.Proofs.YtellilpeakpbfaaGreatDoor
open Go.RowKit

set_option maxHeartbeats 8000000 in
set_option maxRecDepth 100000 in
theorem step_install (L W D m : Nat) (w : World) (C : Jn.Con) (o : OpD) (ho : o.kind = 7) (h : SInv L W D w C m) (hm : m ≤ 1300000000000) (hP : PowAt w) (hWd : WordsAt w) (hpL : 1 < L)
    (x0 : -9223372036854775808 ≤ o.m) (x1 : o.m ≤ 9223372036854775807) :
    Calls Tryz.prog 39 #[.pointer (some ⟨W, 0, none⟩), .agg o.cells, .bool false] w (StepPost L W D m w) := by
  obtain ⟨w1, hw1⟩ : ∃ w1, w1 = w.alloc (.cells o.cells 83) := ⟨_, rfl⟩
  obtain ⟨B0, hB0⟩ : ∃ B0, B0 = w.heap.size := ⟨_, rfl⟩
  have hB1 : Below w.heap.size w w1 := by rw [hw1]; exact (Below.refl _ _).alloc (Nat.le_refl _) _
  have hbo : w1.heap[B0]? = some (.cells o.cells 83 (0, 0)) := by rw [hw1, hB0]; exact heap_alloc_new w _
  have HC := hide (procs_install L W D m w1 C o ho (h.below hB1) hm (hWd.below hWd.1 hB1))
  have HBK := hide (fun e w9 => StepPost.back (D := D) (W := W) (m := m) (e := e) (w9 := w9) h.low hB1)
  obtain ⟨kk, nn, mm, s, t, lo, ln, lc, cut, wo, wn, wc⟩ := o
  simp only at ho
  subst ho
  simp only [OpD.cells] at hbo hw1 HC ⊢
  have p0 := (cell_of_row w1 B0 0 _ _ _ hbo).trans rfl
  have p1 := (cell_of_row w1 B0 1 _ _ _ hbo).trans rfl
  have p2 := (cell_of_row w1 B0 2 _ _ _ hbo).trans rfl
  have p3 := (cell_of_row w1 B0 3 _ _ _ hbo).trans rfl
  have p4 := (cell_of_row w1 B0 4 _ _ _ hbo).trans rfl
  have p5 := (cell_of_row w1 B0 5 _ _ _ hbo).trans rfl
  have p6 := (cell_of_row w1 B0 6 _ _ _ hbo).trans rfl
  have p7 := (cell_of_row w1 B0 7 _ _ _ hbo).trans rfl
  clear h hB1 hbo hP hWd
  go_enter Tryz.func39, Tryz.ntmps39
  go_upto_region 14 with fail
  rw [← hw1, ← hB0]
  have HW1 := hide hw1
  have HB0 := hide hB0
  clear hw1 hB0
  go_wp2_with fail
  refine HC.out.mono ?_
  rintro e w9 hpost
  obtain rfl := hpost.1
  have HFIN := hide (HBK.out _ _ hpost)
  clear hpost HC HBK
  go_wp2_with fail
  go_ret
  exact HFIN.out

set_option maxHeartbeats 8000000 in
set_option maxRecDepth 100000 in
theorem step_drop (L W D m : Nat) (w : World) (C : Jn.Con) (o : OpD) (ho : o.kind = 8) (h : SInv L W D w C m) (hm : m ≤ 1300000000000) (hP : PowAt w) (hWd : WordsAt w) (hpL : 1 < L)
    (x0 : -9223372036854775808 ≤ o.m) (x1 : o.m ≤ 9223372036854775807) :
    Calls Tryz.prog 39 #[.pointer (some ⟨W, 0, none⟩), .agg o.cells, .bool false] w (StepPost L W D m w) := by
  obtain ⟨w1, hw1⟩ : ∃ w1, w1 = w.alloc (.cells o.cells 83) := ⟨_, rfl⟩
  obtain ⟨B0, hB0⟩ : ∃ B0, B0 = w.heap.size := ⟨_, rfl⟩
  have hB1 : Below w.heap.size w w1 := by rw [hw1]; exact (Below.refl _ _).alloc (Nat.le_refl _) _
  have hbo : w1.heap[B0]? = some (.cells o.cells 83 (0, 0)) := by rw [hw1, hB0]; exact heap_alloc_new w _
  have HC := hide (procs_drop L W D m w1 C o ho (h.below hB1) hm)
  have HBK := hide (fun e w9 => StepPost.back (D := D) (W := W) (m := m) (e := e) (w9 := w9) h.low hB1)
  obtain ⟨kk, nn, mm, s, t, lo, ln, lc, cut, wo, wn, wc⟩ := o
  simp only at ho
  subst ho
  simp only [OpD.cells] at hbo hw1 HC ⊢
  have p0 := (cell_of_row w1 B0 0 _ _ _ hbo).trans rfl
  have p1 := (cell_of_row w1 B0 1 _ _ _ hbo).trans rfl
  have p2 := (cell_of_row w1 B0 2 _ _ _ hbo).trans rfl
  have p3 := (cell_of_row w1 B0 3 _ _ _ hbo).trans rfl
  have p4 := (cell_of_row w1 B0 4 _ _ _ hbo).trans rfl
  have p5 := (cell_of_row w1 B0 5 _ _ _ hbo).trans rfl
  have p6 := (cell_of_row w1 B0 6 _ _ _ hbo).trans rfl
  have p7 := (cell_of_row w1 B0 7 _ _ _ hbo).trans rfl
  clear h hB1 hbo hP hWd
  go_enter Tryz.func39, Tryz.ntmps39
  go_upto_region 14 with fail
  rw [← hw1, ← hB0]
  have HW1 := hide hw1
  have HB0 := hide hB0
  clear hw1 hB0
  go_wp2_with fail
  refine HC.out.mono ?_
  rintro e w9 hpost
  obtain rfl := hpost.1
  have HFIN := hide (HBK.out _ _ hpost)
  clear hpost HC HBK
  go_wp2_with fail
  go_ret
  exact HFIN.out

set_option maxHeartbeats 8000000 in
set_option maxRecDepth 100000 in
theorem step_procs (L W D m : Nat) (w : World) (C : Jn.Con) (o : OpD) (ho : o.kind = 9) (h : SInv L W D w C m) (hm : m ≤ 1300000000000) (hP : PowAt w) (hWd : WordsAt w) (hpL : 1 < L)
    (x0 : -9223372036854775808 ≤ o.m) (x1 : o.m ≤ 9223372036854775807) :
    Calls Tryz.prog 39 #[.pointer (some ⟨W, 0, none⟩), .agg o.cells, .bool false] w (StepPost L W D m w) := by
  obtain ⟨w1, hw1⟩ : ∃ w1, w1 = w.alloc (.cells o.cells 83) := ⟨_, rfl⟩
  obtain ⟨B0, hB0⟩ : ∃ B0, B0 = w.heap.size := ⟨_, rfl⟩
  have hB1 : Below w.heap.size w w1 := by rw [hw1]; exact (Below.refl _ _).alloc (Nat.le_refl _) _
  have hbo : w1.heap[B0]? = some (.cells o.cells 83 (0, 0)) := by rw [hw1, hB0]; exact heap_alloc_new w _
  have HC := hide (procs_procs L W D m w1 C o ho (h.below hB1) hm)
  have HBK := hide (fun e w9 => StepPost.back (D := D) (W := W) (m := m) (e := e) (w9 := w9) h.low hB1)
  obtain ⟨kk, nn, mm, s, t, lo, ln, lc, cut, wo, wn, wc⟩ := o
  simp only at ho
  subst ho
  simp only [OpD.cells] at hbo hw1 HC ⊢
  have p0 := (cell_of_row w1 B0 0 _ _ _ hbo).trans rfl
  have p1 := (cell_of_row w1 B0 1 _ _ _ hbo).trans rfl
  have p2 := (cell_of_row w1 B0 2 _ _ _ hbo).trans rfl
  have p3 := (cell_of_row w1 B0 3 _ _ _ hbo).trans rfl
  have p4 := (cell_of_row w1 B0 4 _ _ _ hbo).trans rfl
  have p5 := (cell_of_row w1 B0 5 _ _ _ hbo).trans rfl
  have p6 := (cell_of_row w1 B0 6 _ _ _ hbo).trans rfl
  have p7 := (cell_of_row w1 B0 7 _ _ _ hbo).trans rfl
  clear h hB1 hbo hP hWd
  go_enter Tryz.func39, Tryz.ntmps39
  go_upto_region 14 with fail
  rw [← hw1, ← hB0]
  have HW1 := hide hw1
  have HB0 := hide hB0
  clear hw1 hB0
  go_wp2_with fail
  refine HC.out.mono ?_
  rintro e w9 hpost
  obtain rfl := hpost.1
  have HFIN := hide (HBK.out _ _ hpost)
  clear hpost HC HBK
  go_wp2_with fail
  go_ret
  exact HFIN.out

/-- a step of a kind of Installs. -/
theorem step_installs (L W D m : Nat) (w : World) (C : Jn.Con) (o : OpD) (ho : o.kind ∈ [7, 8, 9, 11, 13]) (h : SInv L W D w C m) (hm : m ≤ 1300000000000) (hP : PowAt w) (hWd : WordsAt w) (hpL : 1 < L)
    (x0 : -9223372036854775808 ≤ o.m) (x1 : o.m ≤ 9223372036854775807) :
    Calls Tryz.prog 39 #[.pointer (some ⟨W, 0, none⟩), .agg o.cells, .bool false] w (StepPost L W D m w) := by
  simp only [List.mem_cons, List.not_mem_nil, or_false] at ho
  rcases ho with ho | ho | ho | ho | ho
  · exact step_install L W D m w C o ho h hm hP hWd hpL x0 x1
  · exact step_drop L W D m w C o ho h hm hP hWd hpL x0 x1
  · exact step_procs L W D m w C o ho h hm hP hWd hpL x0 x1
  · exact step_sync L W D m w C o ho h hm hP hWd hpL x0 x1
  · exact step_open L W D m w C o ho h hm hP hWd hpL x0 x1
end Go.Proofs.YtellilpeakpbfaaGreatDoor

end
