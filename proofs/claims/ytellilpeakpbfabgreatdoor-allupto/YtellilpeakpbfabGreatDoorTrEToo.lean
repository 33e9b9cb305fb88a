import Derived.Test.YtellilpeakpbfabGreatDoorStCToo
import Derived.Test.YtellilpeakpbfabGreatDoorProcDToo
import Derived.Test.YtellilpeakpbfabGreatDoorRnToo
import Derived.Test.YtellilpeakpbfabGreatDoorRnIToo
section
/-
  The walk of World.procs where crashes may come: Drop.
-/
set_option linter.unusedVariables false
namespace Go.Proofs.YtellilpeakpbfabGreatDoor
open Go.RowKit

set_option maxHeartbeats 8000000 in
set_option maxRecDepth 100000 in
theorem procs_dropC (L W D m : Nat) (w : World) (C : Jn.Con) (o : OpD) (ho : o.kind = 8) (h : SInvC L W D w C m) (hm : m ≤ 1200000000000) (hP : PowAt w) (hWd : WordsAt w) (hpL : 1 < L) (lW : List Int) (hcb : B64' o.cut) (hrw : ∀ x, Below L w x → Raws x (.slice o.wo o.wn o.wc) lW) :
    Calls Tryz.prog 77 #[.pointer (some ⟨W, 0, none⟩), .agg o.cells, .bool true] w (StepPostC L W D m w) := by
  have HCE := hide (fun W w s1 s2 f most a1 a2 b1 b2 c1 c2 h1 h2 hf => change_errC W w s1 s2 f most a1 a2 b1 b2 c1 c2 h1 h2 o hf)
  obtain ⟨S, B, f, past, d, nc, nq, na, hlaw, hst, hlast, hpm, hnc, hnq, hna, hdk, hds, hpl, hsf⟩ := h
  have HCO := hide (fun N wp C' d' s1 s2 v l most hlaw hLN hN h1 h2 hst hr hl8 hmost hel her hpd hdk' hpre (hbx : Below L w wp) => chg_step (L := L) (W := W) (D := D) (N := N) (S := S) (B := B) (m := m) (wp := wp) (past := past) (C' := C') (d := d) (d' := d') (f := f) (nc := nc) (nq := nq) (na := na) (s1 := s1) (s2 := s2) (v := v) (l := l) (most := most) (o := o) (lW := lW) hlaw hLN hN h1 h2 hst hr hl8 hmost hel her hpm hnc hnq hna hds hpd hdk' hpre hm (hP.below hpL hbx) (hWd.below (Nat.lt_of_le_of_lt (by decide) hpL) hbx) hpL hcb (fun y hy => hrw y (hbx.trans hy)))
  obtain ⟨kk, nn, mm, s, t, lo, ln, lc, cut, wo, wn, wc⟩ := o
  simp only at ho
  subst ho
  simp only [OpD.cells] at HCE HCO ⊢
  obtain ⟨w1, hw1⟩ : ∃ w1, w1 = w.alloc (.cells #[.int .i64 8, .int .i64 nn, .int .i64 mm, .string s, .string t, .slice lo ln lc, .int .i64 cut, .slice wo wn wc] 106) := ⟨_, rfl⟩
  obtain ⟨B0, hB0⟩ : ∃ B0, B0 = w.heap.size := ⟨_, rfl⟩
  have hB1 : Below w.heap.size w w1 := by rw [hw1]; exact (Below.refl _ _).alloc (Nat.le_refl _) _
  have hbo : w1.heap[B0]? = some (.cells #[.int .i64 8, .int .i64 nn, .int .i64 mm, .string s, .string t, .slice lo ln lc, .int .i64 cut, .slice wo wn wc] 106 (0, 0)) := by rw [hw1, hB0]; exact heap_alloc_new w _
  have hlaw1 := hlaw.below hB1
  obtain ⟨vp, vc, vq, va, lcs, lqs, lxs, hWA, hpast, -, -, -, -, -, -⟩ := hlaw1.rest
  have HNOW := hide (now_any L W w1 _ _ vp vc vq va past C hWA hpast hlast (by omega))
  have hok : Jn.Ok C := hst.con.ok
  have HIS := hide (fun x (hx : Below w1.heap.size w1 x) => dropS_any L S B C f s x ((hst.below hB1).below hx))
  have HRI := hide (fun sc sp w h1 h2 => refDrop_any C sc sp s w h1 h2 hok)
  have HPB := hide (fun b v w h => procBytes_any b v C s w h hok)
  have hcb := count_bd hok s.data.toList
  have HB1 := hide hB1
  have HWA := hide hWA
  have HBO := hide hbo
  have HLAW := hide hlaw
  have HST := hide hst
  have HIR := hide (fun h => drop_redo hok s.data.toList h)
  have HIM := hide (fun h => drop_same C s.data.toList h)
  have hIL : (Jn.drop C s.data.toList).1.cells = C.cells := by
    unfold Jn.drop
    repeat' split
    all_goals rfl
  clear hB1 hbo hlaw hst hlaw1 hWA hpast
  obtain ⟨C', hC'⟩ : ∃ C', C' = (Jn.drop C s.data.toList).1 := ⟨_, rfl⟩
  obtain ⟨er, her⟩ : ∃ er, er = (Jn.drop C s.data.toList).2 := ⟨_, rfl⟩
  rw [← hC', ← her] at HRI HIS
  rw [← her] at HIR HIM
  rw [← hC'] at HIR HIM hIL
  have hcl : C'.list = C.list := by unfold Jn.Con.list; rw [hIL]
  clear hC' her hIL
  obtain ⟨cb, hcb0⟩ : ∃ cb, cb = countL C.procs s.data.toList := ⟨_, rfl⟩
  rw [← hcb0] at HPB hcb
  clear hcb0
  go_enter Tryz.func77, Tryz.ntmps77
  go_upto_region 1 with fail
  rw [← hw1, ← hB0]
  have HW1 := hide hw1
  have HB0 := hide hB0
  clear hw1 hB0
  go_wp2_with fail
  refine HNOW.out.mono ?_
  rintro e wn ⟨sc, sp, rfl, hcr, hpr, hbn⟩
  obtain ⟨so, sk, rfl⟩ := crow_slice hcr
  obtain ⟨po, pk, rfl, -⟩ := hpr.shape
  obtain ⟨wv, hwv⟩ : ∃ wv, wv = wn.alloc (.cells #[.slice so C.list.length sk, .slice po C.procs.length pk] 146) := ⟨_, rfl⟩
  obtain ⟨Bv, hBv⟩ : ∃ Bv, Bv = wn.heap.size := ⟨_, rfl⟩
  have hba : Below wn.heap.size wn wv := by rw [hwv]; exact (Below.refl _ _).alloc (Nat.le_refl _) _
  have hbv : Below w1.heap.size w1 wv := hbn.trans (hba.mono hbn.size)
  have hon := (hbv.block B0 (Array.getElem?_eq_some_iff.1 HBO.out).1).trans HBO.out
  have hvn : wv.heap[Bv]? = some (.cells #[.slice so C.list.length sk, .slice po C.procs.length pk] 146 (0, 0)) := by rw [hwv, hBv]; exact heap_alloc_new wn _
  have p0 : wv.cell? ⟨B0, 0, none⟩ = some (.int .i64 8) := (cell_of_row wv B0 0 _ _ _ hon).trans rfl
  have p3 : wv.cell? ⟨B0, 3, none⟩ = some (.string s) := (cell_of_row wv B0 3 _ _ _ hon).trans rfl
  have p4 : wv.cell? ⟨B0, 4, none⟩ = some (.string t) := (cell_of_row wv B0 4 _ _ _ hon).trans rfl
  have v0 : wv.cell? ⟨Bv, 0, none⟩ = some (.slice so C.list.length sk) := (cell_of_row wv Bv 0 _ _ _ hvn).trans rfl
  have v1 : wv.cell? ⟨Bv, 1, none⟩ = some (.slice po C.procs.length pk) := (cell_of_row wv Bv 1 _ _ _ hvn).trans rfl
  have HON := hide hon
  have HVN := hide hvn
  have HCR := hide (hcr.below hba)
  have HPR := hide (hpr.below hba)
  have HBV := hide hbv
  clear hcr hpr hbn hon HNOW hba hbv hvn
  go_upto_region 2 with fail
  rw [← hwv, ← hBv]
  have HWV := hide hwv
  have HBVV := hide hBv
  clear hwv hBv
  go_wp2_with fail
  refine (HRI.out _ _ _ HCR.out HPR.out).mono ?_
  rintro e wi ⟨po', pk', rfl, hpi, hbi⟩
  obtain ⟨wd, hwd⟩ : ∃ wd, wd = wi.alloc (.cells #[.slice so C.list.length sk, .slice po' C'.procs.length pk'] 146) := ⟨_, rfl⟩
  obtain ⟨Bd, hBd⟩ : ∃ Bd, Bd = wi.heap.size := ⟨_, rfl⟩
  have hba : Below wi.heap.size wi wd := by rw [hwd]; exact (Below.refl _ _).alloc (Nat.le_refl _) _
  have hbvd : Below wv.heap.size wv wd := hbi.trans (hba.mono hbi.size)
  have hbd : Below w1.heap.size w1 wd := HBV.out.trans (hbvd.mono HBV.out.size)
  have hdn : wd.heap[Bd]? = some (.cells #[.slice so C.list.length sk, .slice po' C'.procs.length pk'] 146 (0, 0)) := by rw [hwd, hBd]; exact heap_alloc_new wi _
  have hon := (hbvd.block B0 (Array.getElem?_eq_some_iff.1 HON.out).1).trans HON.out
  have hvn := (hbvd.block Bv (Array.getElem?_eq_some_iff.1 HVN.out).1).trans HVN.out
  have hwa : WAt wd W _ _ _ _ _ _ := HWA.out.fr (Fr.of (L := 0) (T := []) (X := none) hbd (Nat.zero_le _)) (by simp) (by simp)
  have HFR := hide (fun x (hx : Fr L [123] none wd x) => And.intro (hx.block B0 _ _ _ hon (by decide) (by simp)) (And.intro (hx.block Bd _ _ _ hdn (by decide) (by simp)) (And.intro (hx.block Bv _ _ _ hvn (by decide) (by simp)) (hwa.fr hx (by decide) (by simp)))))
  have HKP := hide (fun x (hx : Fr L [123] none wd x) => (⟨(HFR.out x hx).2.2.2.cell.1, (cell_of_row x B0 3 _ _ _ (HFR.out x hx).1).trans rfl⟩ : x.cell? ⟨W, 0, none⟩ = some (.pointer (some ⟨S, 0, none⟩)) ∧ x.cell? ⟨B0, 3, none⟩ = some (.string s)))
  obtain ⟨k0, k3⟩ := HKP.out wd (Fr.refl _ _ _ _)
  have HCR2 := hide (HCR.out.below hbvd)
  have HPO := hide (HPR.out.below hbvd)
  have HPI := hide (hpi.below hba)
  have HBD := hide hbd
  clear hpi hbi hba hbvd hbd hdn hon hvn hwa p0 p3 p4 v0 v1 HRI HCR HPR HON HVN
  go_upto_region 11 with fail
  rw [← hwd, ← hBd]
  have HWD := hide hwd
  have HBDD := hide hBd
  clear hwd hBd
  go_region_held3 (fun w' => w'.cell? ⟨W, 0, none⟩ = some (.pointer (some ⟨S, 0, none⟩)) ∧ w'.cell? ⟨B0, 3, none⟩ = some (.string s))
    (first | with_reducible exact HKP.out _ hfr | go_keep)
    (first | (go_at_call 42; refine (HIS.out _ (Below.drew HBD.out)).mono ?_; rintro e wp ⟨v, rfl, hst', hfr0, hor⟩; have hfr : Fr L [123] none wd wp := Fr.undrew hfr0))
  obtain ⟨hob, hbd, hbv, -⟩ := HFR.out wp hfr
  have p0 : wp.cell? ⟨B0, 0, none⟩ = some (.int .i64 8) := (cell_of_row wp B0 0 _ _ _ hob).trans rfl
  have p1 : wp.cell? ⟨B0, 1, none⟩ = some (.int .i64 nn) := (cell_of_row wp B0 1 _ _ _ hob).trans rfl
  have p2 : wp.cell? ⟨B0, 2, none⟩ = some (.int .i64 mm) := (cell_of_row wp B0 2 _ _ _ hob).trans rfl
  have p3 : wp.cell? ⟨B0, 3, none⟩ = some (.string s) := (cell_of_row wp B0 3 _ _ _ hob).trans rfl
  have p4 : wp.cell? ⟨B0, 4, none⟩ = some (.string t) := (cell_of_row wp B0 4 _ _ _ hob).trans rfl
  have p5 : wp.cell? ⟨B0, 5, none⟩ = some (.slice lo ln lc) := (cell_of_row wp B0 5 _ _ _ hob).trans rfl
  have p6 : wp.cell? ⟨B0, 6, none⟩ = some (.int .i64 cut) := (cell_of_row wp B0 6 _ _ _ hob).trans rfl
  have p7 := (cell_of_row wp B0 7 _ _ _ hob).trans rfl
  have r0 : wp.cell? ⟨Bd, 0, none⟩ = some (.slice so C.list.length sk) := (cell_of_row wp Bd 0 _ _ _ hbd).trans rfl
  have r1 : wp.cell? ⟨Bd, 1, none⟩ = some (.slice po' C'.procs.length pk') := (cell_of_row wp Bd 1 _ _ _ hbd).trans rfl
  have v1 : wp.cell? ⟨Bv, 1, none⟩ = some (.slice po C.procs.length pk) := (cell_of_row wp Bv 1 _ _ _ hbv).trans rfl
  have HF := hide hfr
  have HS := hide hst'
  have HPP := hide (own_fr HPO.out hfr (by decide) (.inl rfl))
  clear hfr hst' hob hbd hbv hfr0 HIS HKP HFR k0 k3
  rcases hor with ⟨hne, rfl⟩ | ⟨h0, har⟩
  · have hsame : C' = C := HIM.out hne
    have HSM := hide hsame
    have HC1 := hide (fun most => HCE.out W wp (.slice so C.list.length sk) (.slice po' C'.procs.length pk') er most so po' C.list.length C'.procs.length sk pk' rfl rfl hne)
    clear hne hsame HCO HCE
    go_wp2_with fail
    refine (HPB.out 0 _ wp HPP.out).mono ?_
    rintro e wq ⟨rfl, rfl⟩
    go_wp2_with fail
    refine (HC1.out _).mono ?_
    rintro e w9 ⟨rfl, hb9⟩
    have HFIN := hide (step_errC hsf HLAW.out hlast hpm hnc hnq hna hdk hds hpl HB1.out HBD.out HF.out (HSM.out ▸ HS.out) hb9)
    clear hb9 HC1
    go_wp2_with fail
    go_ret
    exact HFIN.out
  · obtain ⟨hre, hno, hlen⟩ := HIR.out h0
    obtain ⟨d', hpd, hdk', hpre⟩ := pre_one (m := m) hdk hlast hsf hre hno (by omega) hds hm
    have hLd : L ≤ wd.heap.size := Nat.le_trans (Nat.le_trans HLAW.out.low HB1.out.size) HBD.out.size
    have hlens : lens [((1 : Int), f, Jn.record (Jn.dropE s.data.toList))] ≤ 12 := by simp [lens, Jn.record]; omega
    have hbx : Below L w wp := below3 HLAW.out.low HB1.out HBD.out HF.out
    have HC2 := hide (HCO.out wd.heap.size wp C' d' (.slice so C.list.length sk) (.slice po' C'.procs.length pk') v _ (64 + cb) (((((HLAW.out.below HB1.out).below HBD.out).fr HF.out (by simp)).mono (Nat.le_trans HB1.out.size HBD.out.size) (Nat.le_trans HB1.out.size HBD.out.size))) hLd HF.out.size
      (by rw [hcl]; have h := own_fr HCR2.out HF.out (by decide) (.inl rfl); exact h) (by have h := own_fr HPI.out HF.out (by decide) (.inl rfl); exact h) HS.out har (by simp) (by omega) (by omega) (by simp) hpd hdk' hpre hbx)
    have HBX := hide hbx
    subst h0
    clear har hre hno hlen hpd hdk' hpre hLd hbx HCO HCE hlens
    go_wp2_with fail
    refine (HPB.out 0 _ wp HPP.out).mono ?_
    rintro e wq ⟨rfl, rfl⟩
    go_wp2_with fail
    refine HC2.out.mono ?_
    rintro e w9 ⟨rfl, hi9, hf9⟩
    have HFIN : Hid (StepPostC L W D m w (.returned (.bool true)) w9) := ⟨rfl, hi9, HBX.out.trans hf9.below⟩
    clear hi9 hf9 HC2
    go_wp2_with fail
    go_ret
    exact HFIN.out
end Go.Proofs.YtellilpeakpbfabGreatDoor

end

section
/-
  Sources as trees; no Go text.
-/
namespace Go.Proofs.YtellilpeakpbfabGreatDoor
open Go.RowKit
namespace Tr

abbrev Tok := List UInt8
/-- expressions. -/
inductive Ex where
  | leaf (t : Tok)
  | un (t : Tok) (e : Ex)
  | bin (t : Tok) (a b : Ex)
mutual
/-- statements, and rows of them. -/
inductive Sm where
  | set (v : Tok) (e : Ex)
  | put (a b : Ex)
  | del (a : Ex)
  | stop (a : Ex)
  | fail
  | ite (e : Ex) (a b : Sms)
  | whl (e : Ex) (a : Sms)
inductive Sms where
  | nil
  | cons (s : Sm) (r : Sms)
end

def Ex.flat : Ex → List Tok
  | .leaf t => [t]
  | .un t e => t :: e.flat
  | .bin t a b => t :: (a.flat ++ b.flat)
mutual
def Sm.flat : Sm → List Tok
  | .set v e => [115, 101, 116] :: v :: e.flat
  | .put a b => [112, 117, 116] :: (a.flat ++ b.flat)
  | .del a => [100, 101, 108] :: a.flat
  | .stop a => [115, 116, 111, 112] :: a.flat
  | .fail => [[102, 97, 105, 108]]
  | .ite e a b => [105, 102] :: (e.flat ++ ([123] :: (a.flat ++ ([125] :: [123] :: (b.flat ++ [[125]])))))
  | .whl e a => [119, 104, 105, 108, 101] :: (e.flat ++ ([123] :: (a.flat ++ [[125]])))
def Sms.flat : Sms → List Tok
  | .nil => []
  | .cons s r => s.flat ++ r.flat
end

def kind (t : Tok) : Int := (Ck.tokenP t).1
def Ex.Ok : Ex → Prop
  | .leaf t => kind t = 1 ∨ kind t = 2 ∨ kind t = 3
  | .un t e => (kind t = 9 ∨ kind t = 10) ∧ e.Ok
  | .bin t a b => (4 ≤ kind t ∧ kind t ≤ 8) ∧ a.Ok ∧ b.Ok
mutual
def Sm.Ok : Sm → Prop
  | .set v e => kind v = 3 ∧ e.Ok
  | .put a b => a.Ok ∧ b.Ok
  | .del a => a.Ok
  | .stop a => a.Ok
  | .fail => True
  | .ite e a b => e.Ok ∧ a.Ok ∧ b.Ok
  | .whl e a => e.Ok ∧ a.Ok
def Sms.Ok : Sms → Prop
  | .nil => True
  | .cons s r => s.Ok ∧ r.Ok
end

/-- the tokens are taken, to the last. -/
def acc (st : List Int) : List Tok → Prop
  | [] => st = [1]
  | t :: ts => (Ck.take st (kind t)).1 = true ∧ acc (Ck.take st (kind t)).2 ts
theorem acc_rd (ts : List Tok) : ∀ (i : Nat) (st : List Int), (Ck.rdGo i st ts).2 = 0 → acc st ts := by
  induction ts with
  | nil =>
    intro i st h
    unfold Ck.rdGo at h
    split at h
    · rename_i hs; exact hs
    · simp at h
  | cons t r ih =>
    intro i st h
    unfold Ck.rdGo at h
    split at h
    · rename_i hk; exact ⟨hk, ih _ _ h⟩
    · simp at h

theorem kind_word (t : Tok) (h : 4 ≤ kind t) : Ck.wordsL.idxOf t < 16 ∧ kind t = 4 + (Ck.wordsL.idxOf t : Int) := by
  unfold kind Ck.tokenP at *
  split at h
  · rename_i hi
    rw [if_pos hi]
    exact ⟨hi, rfl⟩
  · cases hn : Ck.numIn t with
    | some n => rw [hn] at h; simp at h
    | none =>
      rw [hn] at h
      have h' : 4 ≤ (Ck.named t).1 := h
      unfold Ck.named at h'
      by_cases h1 : 0 ≤ Ck.slot t 97
      · rw [if_pos h1] at h'; simp at h'
      · rw [if_neg h1] at h'
        by_cases h2 : 0 ≤ Ck.slot t 118
        · rw [if_pos h2] at h'; simp at h'
        · rw [if_neg h2] at h'; simp at h'
theorem word_at (t : Tok) (j : Nat) (hj : j < Ck.wordsL.length) (h : kind t = 4 + (j : Int)) : t = Ck.wordsL[j] := by
  obtain ⟨h1, h2⟩ := kind_word t (by omega)
  have e : Ck.wordsL.idxOf t = j := by omega
  have hm : Ck.wordsL.idxOf t < Ck.wordsL.length := h1
  have := List.getElem_idxOf hm
  subst e
  exact this.symm
theorem w_set (t : Tok) (h : kind t = 11) : t = [115, 101, 116] := word_at t 7 (by decide) h
theorem w_put (t : Tok) (h : kind t = 12) : t = [112, 117, 116] := word_at t 8 (by decide) h
theorem w_del (t : Tok) (h : kind t = 13) : t = [100, 101, 108] := word_at t 9 (by decide) h
theorem w_if (t : Tok) (h : kind t = 14) : t = [105, 102] := word_at t 10 (by decide) h
theorem w_while (t : Tok) (h : kind t = 15) : t = [119, 104, 105, 108, 101] := word_at t 11 (by decide) h
theorem w_stop (t : Tok) (h : kind t = 16) : t = [115, 116, 111, 112] := word_at t 12 (by decide) h
theorem w_fail (t : Tok) (h : kind t = 17) : t = [102, 97, 105, 108] := word_at t 13 (by decide) h
theorem w_open (t : Tok) (h : kind t = 18) : t = [123] := word_at t 14 (by decide) h
theorem w_close (t : Tok) (h : kind t = 19) : t = [125] := word_at t 15 (by decide) h

/-- what an item of the stack yields. -/
theorem parse_ex (n : Nat) : ∀ (ts : List Tok) (r : List Int), ts.length ≤ n → acc (5 :: r) ts → ∃ e rest, Ex.Ok e ∧ ts = e.flat ++ rest ∧ acc r rest ∧ rest.length < ts.length := by
  induction n with
  | zero =>
    intro ts r hl h
    have : ts = [] := List.eq_nil_of_length_eq_zero (by omega)
    subst this
    unfold acc at h
    simp at h
  | succ n ih =>
    intro ts r hl h
    cases ts with
    | nil => unfold acc at h; simp at h
    | cons t ts =>
      obtain ⟨h1, h2⟩ := h
      have hl' : ts.length ≤ n := by simpa using hl
      rw [Ck.take_cons, if_neg (by decide), if_neg (by decide), if_neg (by decide), if_neg (by decide), if_pos rfl] at h1 h2
      unfold Ck.expr at h1 h2
      by_cases k1 : kind t = 1 ∨ kind t = 2 ∨ kind t = 3
      · rw [if_pos k1] at h2
        exact ⟨.leaf t, ts, k1, rfl, h2, by simp⟩
      · rw [if_neg k1] at h1 h2
        by_cases k2 : kind t = 4 ∨ kind t = 5 ∨ kind t = 6 ∨ kind t = 7 ∨ kind t = 8
        · rw [if_pos k2] at h2
          obtain ⟨a, ra, oka, ea, acca, la⟩ := ih ts _ hl' h2
          obtain ⟨b, rb, okb, eb, accb, lb⟩ := ih ra _ (by omega) acca
          refine ⟨.bin t a b, rb, ⟨by omega, oka, okb⟩, ?_, accb, by simp; omega⟩
          rw [ea, eb]
          simp [Ex.flat]
        · rw [if_neg k2] at h1 h2
          by_cases k3 : kind t = 9 ∨ kind t = 10
          · rw [if_pos k3] at h2
            obtain ⟨a, ra, oka, ea, acca, la⟩ := ih ts _ hl' h2
            refine ⟨.un t a, ra, ⟨k3, oka⟩, ?_, acca, by simp; omega⟩
            rw [ea]
            simp [Ex.flat]
          · rw [if_neg k3] at h1
            simp at h1
theorem parse_e {ts : List Tok} {r : List Int} (h : acc (5 :: r) ts) : ∃ e rest, Ex.Ok e ∧ ts = e.flat ++ rest ∧ acc r rest ∧ rest.length < ts.length := parse_ex ts.length ts r (Nat.le_refl _) h
theorem parse_v {ts : List Tok} {r : List Int} (h : acc (4 :: r) ts) : ∃ v rest, kind v = 3 ∧ ts = v :: rest ∧ acc r rest := by
  cases ts with
  | nil => unfold acc at h; simp at h
  | cons t ts =>
    obtain ⟨h1, h2⟩ := h
    rw [Ck.take_cons, if_neg (by decide), if_neg (by decide), if_neg (by decide), if_pos rfl] at h1 h2
    exact ⟨t, ts, by simpa using h1, rfl, h2⟩
theorem parse_o {ts : List Tok} {r : List Int} (h : acc (3 :: r) ts) : ∃ rest, ts = [123] :: rest ∧ acc (2 :: r) rest := by
  cases ts with
  | nil => unfold acc at h; simp at h
  | cons t ts =>
    obtain ⟨h1, h2⟩ := h
    rw [Ck.take_cons, if_neg (by decide), if_neg (by decide), if_pos rfl] at h1 h2
    exact ⟨ts, by rw [w_open t (by simpa using h1)], h2⟩

/-- a statement behind its first token; 'a' the body or block around it. -/
theorem parse_sm (n : Nat) (ihb : ∀ (ts : List Tok) (r : List Int), ts.length ≤ n → acc (2 :: r) ts → ∃ b rest, Sms.Ok b ∧ ts = b.flat ++ [125] :: rest ∧ acc r rest ∧ rest.length < ts.length)
    (t : Tok) (ts : List Tok) (a : Int) (r : List Int) (hl : ts.length ≤ n) (h1 : (Ck.stmt a r (kind t)).1 = true) (h2 : acc (Ck.stmt a r (kind t)).2 ts) :
    ∃ s rest, Sm.Ok s ∧ t :: ts = s.flat ++ rest ∧ acc (a :: r) rest ∧ rest.length < (t :: ts).length := by
  unfold Ck.stmt at h1 h2
  by_cases k : kind t = 11
  · rw [if_pos k] at h2
    obtain ⟨v, rv, kv, ev, av⟩ := parse_v h2
    obtain ⟨e, re, oe, ee, ae, le⟩ := parse_e av
    refine ⟨.set v e, re, ⟨kv, oe⟩, ?_, ae, ?_⟩
    · rw [w_set t k, ev, ee]; simp [Sm.flat]
    · rw [ev]; simp; omega
  rw [if_neg k] at h1 h2
  by_cases k : kind t = 12
  · rw [if_pos k] at h2
    obtain ⟨x, rx, ox, ex, ax, lx⟩ := parse_e h2
    obtain ⟨y, ry, oy, ey, ay, ly⟩ := parse_e ax
    refine ⟨.put x y, ry, ⟨ox, oy⟩, ?_, ay, by simp; omega⟩
    rw [w_put t k, ex, ey]; simp [Sm.flat]
  rw [if_neg k] at h1 h2
  by_cases k : kind t = 13
  · rw [if_pos k] at h2
    obtain ⟨x, rx, ox, ex, ax, lx⟩ := parse_e h2
    refine ⟨.del x, rx, ox, ?_, ax, by simp; omega⟩
    rw [w_del t k, ex]; simp [Sm.flat]
  rw [if_neg k] at h1 h2
  by_cases k : kind t = 16
  · rw [if_pos k] at h2
    obtain ⟨x, rx, ox, ex, ax, lx⟩ := parse_e h2
    refine ⟨.stop x, rx, ox, ?_, ax, by simp; omega⟩
    rw [w_stop t k, ex]; simp [Sm.flat]
  rw [if_neg k] at h1 h2
  by_cases k : kind t = 14
  · rw [if_pos k] at h2
    obtain ⟨x, rx, ox, ex, ax, lx⟩ := parse_e h2
    obtain ⟨r1, e1, a1⟩ := parse_o ax
    have l1 : r1.length < rx.length := by rw [e1]; simp
    obtain ⟨b, rb, ob, eb, ab, lb⟩ := ihb r1 _ (by omega) a1
    obtain ⟨r2, e2, a2⟩ := parse_o ab
    have l2 : r2.length < rb.length := by rw [e2]; simp
    obtain ⟨c, rc, oc, ec, ac, lc⟩ := ihb r2 _ (by omega) a2
    refine ⟨.ite x b c, rc, ⟨ox, ob, oc⟩, ?_, ac, by simp; omega⟩
    rw [w_if t k, ex, e1, eb, e2, ec]; simp [Sm.flat]
  rw [if_neg k] at h1 h2
  by_cases k : kind t = 15
  · rw [if_pos k] at h2
    obtain ⟨x, rx, ox, ex, ax, lx⟩ := parse_e h2
    obtain ⟨r1, e1, a1⟩ := parse_o ax
    have l1 : r1.length < rx.length := by rw [e1]; simp
    obtain ⟨b, rb, ob, eb, ab, lb⟩ := ihb r1 _ (by omega) a1
    refine ⟨.whl x b, rb, ⟨ox, ob⟩, ?_, ab, by simp; omega⟩
    rw [w_while t k, ex, e1, eb]; simp [Sm.flat]
  rw [if_neg k] at h1 h2
  by_cases k : kind t = 17
  · rw [if_pos k] at h2
    exact ⟨.fail, ts, trivial, by rw [w_fail t k]; simp [Sm.flat], h2, by simp⟩
  rw [if_neg k] at h1
  simp at h1
theorem parse_bl (n : Nat) : ∀ (ts : List Tok) (r : List Int), ts.length ≤ n → acc (2 :: r) ts → ∃ b rest, Sms.Ok b ∧ ts = b.flat ++ [125] :: rest ∧ acc r rest ∧ rest.length < ts.length := by
  induction n with
  | zero =>
    intro ts r hl h
    have : ts = [] := List.eq_nil_of_length_eq_zero (by omega)
    subst this
    unfold acc at h
    simp at h
  | succ n ih =>
    intro ts r hl h
    cases ts with
    | nil => unfold acc at h; simp at h
    | cons t ts =>
      obtain ⟨h1, h2⟩ := h
      have hl' : ts.length ≤ n := by simpa using hl
      rw [Ck.take_cons, if_neg (by decide), if_pos rfl] at h1 h2
      by_cases k : kind t = 19
      · rw [if_pos k] at h2
        exact ⟨.nil, ts, trivial, by rw [w_close t k]; simp [Sms.flat], h2, by simp⟩
      · rw [if_neg k] at h1 h2
        obtain ⟨s, rs, os, es, ac, ls⟩ := parse_sm n ih t ts 2 r hl' h1 h2
        obtain ⟨b, rb, ob, eb, ab, lb⟩ := ih rs r (by simp at ls; omega) ac
        refine ⟨.cons s b, rb, ⟨os, ob⟩, ?_, ab, by simp at ls ⊢; omega⟩
        rw [es, eb]; simp [Sms.flat]
theorem parse_body (n : Nat) : ∀ (ts : List Tok), ts.length ≤ n → acc [1] ts → ∃ b, Sms.Ok b ∧ ts = b.flat := by
  induction n with
  | zero =>
    intro ts hl _
    exact ⟨.nil, trivial, List.eq_nil_of_length_eq_zero (by omega)⟩
  | succ n ih =>
    intro ts hl h
    cases ts with
    | nil => exact ⟨.nil, trivial, rfl⟩
    | cons t ts =>
      obtain ⟨h1, h2⟩ := h
      have hl' : ts.length ≤ n := by simpa using hl
      rw [Ck.take_cons, if_pos rfl] at h1 h2
      obtain ⟨s, rs, os, es, ac, ls⟩ := parse_sm n (parse_bl n) t ts 1 [] hl' h1 h2
      obtain ⟨b, ob, eb⟩ := ih rs (by simp at ls; omega) ac
      refine ⟨.cons s b, ⟨os, ob⟩, ?_⟩
      rw [es, eb]; simp [Sms.flat]
/-- A source that reads is a row of statements. -/
theorem parse (src : List UInt8) (h : (Ck.read src).2 = 0) : ∃ b, Sms.Ok b ∧ Ck.toks src = b.flat := by
  unfold Ck.read at h
  split at h
  · simp at h
  · exact parse_body _ _ (Nat.le_refl _) (acc_rd _ 0 [1] h)
end Tr
end Go.Proofs.YtellilpeakpbfabGreatDoor

end

section
/-
  Trees that are worked out; that the program's way over tokens comes to the same: expressions; no Go text.
-/
namespace Go.Proofs.YtellilpeakpbfabGreatDoor
open Go.RowKit
namespace Rn
open Tr

/-- a state but for its place. -/
def N (s : St) : St := { s with pos := 0 }
def N3 (r : Int × Int × St) : Int × Int × St := (r.1, r.2.1, N r.2.2)
theorem N_use (s : St) : N (use s) = use (N s) := rfl
theorem N_adv (E : En) (s : St) : N (adv E s) = N s := by unfold adv; split <;> rfl
theorem N_look (E : En) (k : Int) (r : Int × Int × St) : N3 (look E k r) = look E k (N3 r) := by
  unfold look N3
  have e : get E (N r.2.2) r.1 = get E r.2.2 r.1 := rfl
  simp only [e]
  split
  · rfl
  · split <;> rfl
theorem N_two (k : Int) (a b : Int × Int × St) : N3 (two k a b) = two k (N3 a) (N3 b) := by
  unfold two N3
  simp only
  split
  · rfl
  · split <;> rfl

def leafV (E : En) (s : St) (t : Tok) : Int := if kind t = 1 then (Ck.tokenP t).2 else if kind t = 2 then arg E (Ck.tokenP t).2 else var s (Ck.tokenP t).2
/-- an expression: the value, the error, what is behind it. -/
def texpr (E : En) : Ex → St → Int × Int × St
  | .leaf t, s => if E.fuel ≤ s.used then (0, 10, s) else (leafV E s t, 0, use s)
  | .un t e, s => if E.fuel ≤ s.used then (0, 10, s) else look E (kind t) (texpr E e (use s))
  | .bin t a b, s => if E.fuel ≤ s.used then (0, 10, s) else two (kind t) (texpr E a (use s)) (texpr E b (texpr E a (use s)).2.2)

/-- the tokens from a place on. -/
def Here (E : En) (p : Nat) (l : List Tok) : Prop := E.tk.drop p = l.map Ck.tokenP
theorem Here.head {E : En} {s : St} {t : Tok} {l : List Tok} (h : Here E s.pos (t :: l)) : tok E s = Ck.tokenP t ∧ (adv E s).pos = s.pos + 1 ∧ Here E (s.pos + 1) l := by
  unfold Here at h
  have hl : s.pos < E.tk.length := by
    rcases Nat.lt_or_ge s.pos E.tk.length with h1 | h1
    · exact h1
    · rw [List.drop_eq_nil_of_le h1] at h; simp at h
  rw [List.drop_eq_getElem_cons hl, List.map_cons] at h
  injection h with h1 h2
  refine ⟨?_, ?_, h2⟩
  · unfold Rn.tok
    rw [List.getElem?_eq_getElem hl, h1]; rfl
  · unfold adv
    rw [if_pos hl]
theorem Here.app {E : En} {p : Nat} {l r : List Tok} (h : Here E p (l ++ r)) : Here E (p + l.length) r := by
  unfold Here at h ⊢
  rw [← List.drop_drop, h, List.map_append, List.drop_append_of_le_length (by simp), List.drop_eq_nil_of_le (by simp), List.nil_append]
theorem adv_use_pos {E : En} {s : St} {t : Tok} {l : List Tok} (h : Here E s.pos (t :: l)) : (adv E (use s)).pos = s.pos + 1 := (Here.head (s := use s) h).2.1

theorem expr_tree (E : En) (e : Ex) : ∀ (s : St) (rest : List Tok) (n : Nat), e.Ok → Here E s.pos (e.flat ++ rest) → E.fuel - s.used ≤ n → Fit E s →
    texpr E e (N s) = N3 (expr E n s) ∧ ((expr E n s).2.1 = 0 → (expr E n s).2.2.pos = s.pos + e.flat.length) := by
  induction e with
  | leaf t =>
    intro s rest n hok hh hn hf
    by_cases hu : E.fuel ≤ s.used
    · rw [expr_out E n s hu, texpr, if_pos (by exact hu)]
      exact ⟨rfl, fun h => by simp at h⟩
    · obtain ⟨m, rfl⟩ : ∃ m, n = m + 1 := ⟨n - 1, by omega⟩
      have hu' : s.used < E.fuel := by omega
      have hh' : Here E s.pos (t :: rest) := hh
      obtain ⟨ht, -, -⟩ := hh'.head
      have hp := adv_use_pos hh'
      rw [expr_succ E m s hu', ht, texpr, if_neg (by exact hu)]
      unfold leafV
      have hok' : kind t = 1 ∨ kind t = 2 ∨ kind t = 3 := hok
      have hk : (Ck.tokenP t).1 = kind t := rfl
      rw [hk]
      rcases hok' with h | h | h
      · rw [if_pos h, if_pos h]
        exact ⟨by unfold N3; simp only [N_adv, N_use], fun _ => hp⟩
      · have n1 : ¬ kind t = 1 := by omega
        rw [if_neg n1, if_neg n1, if_pos h, if_pos h]
        exact ⟨by unfold N3; simp only [N_adv, N_use], fun _ => hp⟩
      · have n1 : ¬ kind t = 1 := by omega
        have n2 : ¬ kind t = 2 := by omega
        rw [if_neg n1, if_neg n1, if_neg n2, if_neg n2, if_pos h]
        refine ⟨?_, fun _ => hp⟩
        have hv : var (adv E (use s)) (Ck.tokenP t).2 = var (N s) (Ck.tokenP t).2 := by
          unfold adv; split <;> rfl
        unfold N3
        simp only [N_adv, N_use, hv]
  | un t e ih =>
    intro s rest n hok hh hn hf
    by_cases hu : E.fuel ≤ s.used
    · rw [expr_out E n s hu, texpr, if_pos (by exact hu)]
      exact ⟨rfl, fun h => by simp at h⟩
    · obtain ⟨m, rfl⟩ : ∃ m, n = m + 1 := ⟨n - 1, by omega⟩
      have hu' : s.used < E.fuel := by omega
      have hh' : Here E s.pos (t :: (e.flat ++ rest)) := hh
      obtain ⟨ht, -, h1⟩ := hh'.head
      have hp := adv_use_pos hh'
      have hus : (adv E (use s)).used = s.used + 1 := adv_used E (use s)
      obtain ⟨hk, oke⟩ := (hok : (kind t = 9 ∨ kind t = 10) ∧ e.Ok)
      obtain ⟨i1, i2⟩ := ih (adv E (use s)) rest m oke (by rw [hp]; exact h1) (by omega) (hf.use hu').adv
      rw [N_adv, N_use] at i1
      have hkk : (Ck.tokenP t).1 = kind t := rfl
      rw [expr_succ E m s hu', ht, hkk, if_neg (by omega), if_neg (by omega), if_neg (by omega), if_pos hk, texpr, if_neg (by exact hu)]
      refine ⟨by rw [i1, N_look], fun h0 => ?_⟩
      rw [look_snd]
      have he : (expr E m (adv E (use s))).2.1 = 0 := by
        unfold look at h0
        split at h0
        · rename_i hne; exact absurd h0 hne
        · rename_i hne; simpa using hne
      rw [i2 he, hp]
      simp [Ex.flat]; omega
  | bin t a b iha ihb =>
    intro s rest n hok hh hn hf
    by_cases hu : E.fuel ≤ s.used
    · rw [expr_out E n s hu, texpr, if_pos (by exact hu)]
      exact ⟨rfl, fun h => by simp at h⟩
    · obtain ⟨m, rfl⟩ : ∃ m, n = m + 1 := ⟨n - 1, by omega⟩
      have hu' : s.used < E.fuel := by omega
      have hh' : Here E s.pos (t :: (a.flat ++ (b.flat ++ rest))) := by
        have : (Ex.bin t a b).flat ++ rest = t :: (a.flat ++ (b.flat ++ rest)) := by simp [Ex.flat]
        rw [this] at hh; exact hh
      obtain ⟨ht, -, h1⟩ := hh'.head
      have hp := adv_use_pos hh'
      have hus : (adv E (use s)).used = s.used + 1 := adv_used E (use s)
      obtain ⟨hk, oka, okb⟩ := (hok : (4 ≤ kind t ∧ kind t ≤ 8) ∧ a.Ok ∧ b.Ok)
      have f1 := (hf.use hu').adv
      obtain ⟨i1, i2⟩ := iha (adv E (use s)) (b.flat ++ rest) m oka (by rw [hp]; exact h1) (by omega) f1
      rw [N_adv, N_use] at i1
      obtain ⟨g1, g2, -⟩ := expr_fit E m _ f1
      have hkk : (Ck.tokenP t).1 = kind t := rfl
      rw [expr_succ E m s hu', ht, hkk, if_neg (by omega), if_neg (by omega), if_neg (by omega), if_neg (by omega), texpr, if_neg (by exact hu), i1]
      by_cases ha : (expr E m (adv E (use s))).2.1 = 0
      · have hpa := i2 ha
        obtain ⟨j1, j2⟩ := ihb (expr E m (adv E (use s))).2.2 rest m okb (by rw [hpa, hp]; exact h1.app) (by have := g2.used; omega) g1
        have e1 : (N3 (expr E m (adv E (use s)))).2.2 = N (expr E m (adv E (use s))).2.2 := rfl
        rw [e1, j1, ← N_two]
        refine ⟨rfl, fun h0 => ?_⟩
        rw [if_neg (by simpa using ha)] at h0 ⊢
        have hb : (expr E m (expr E m (adv E (use s))).2.2).2.1 = 0 := by
          split at h0
          · rename_i hne; exact absurd h0 hne
          · rename_i hne; simpa using hne
        rw [if_neg (by simpa using hb)]
        show (expr E m (expr E m (adv E (use s))).2.2).2.2.pos = _
        rw [j2 hb, hpa, hp]
        simp [Ex.flat]; omega
      · rw [if_pos ha]
        refine ⟨?_, fun h0 => absurd h0 ha⟩
        unfold two N3
        rw [if_pos ha]
end Rn
end Go.Proofs.YtellilpeakpbfabGreatDoor

end
