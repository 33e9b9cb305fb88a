import Derived.Test.YtellilpeakpbfaaGreatDoorRnToo
import Derived.Deep.DeepCutAuto
section
/-
  The walk of World.cells: Put, Del (without a crash).
-/
namespace Go.Proofs.YtellilpeakpbfaaGreatDoor
open Go.RowKit

/-- All that holds between two steps. -/
def SInv (L W D : Nat) (w : World) (C : Jn.Con) (m : Nat) : Prop :=
  ∃ S B f past d nc nq na, LawAt L W D w.heap.size w.heap.size w (.pointer (some ⟨S, 0, none⟩)) past d nc nq na ∧ StAt L w S B C f ∧ past[past.length - 1]? = some C ∧
    past.length ≤ m ∧ nc ≤ 3 * m ∧ nq ≤ 3 * m ∧ na ≤ 3 * m ∧ DiskOk d f C ∧ d.1.size + d.2.1.size ≤ 30000 + 4000 * m ∧ (∀ p ∈ C.procs, Jn.Plain p.2)

/-- what a step answers. -/
def StepPost (L W D : Nat) (m : Nat) (w : World) (e : Ending) (w' : World) : Prop := e = .returned (.bool true) ∧ (∃ C', SInv L W D w' C' (m + 1)) ∧ Below L w w'

theorem put_redo (C : Jn.Con) (k x : Int) (h : (Jn.put C k x).2 = 0) : Jn.redo C (Jn.putE k x) = some (Jn.put C k x).1 ∧ 46 ∉ Jn.putE k x ∧ (Jn.putE k x).length ≤ 25 := by
  unfold Jn.put at h ⊢
  split at h
  · simp at h
  · rename_i hk
    split at h
    · simp at h
    · rename_i hx
      have hk' : Jn.isKey k = true := by simpa using hk
      have hx' : Jn.isVal x = true := by simpa using hx
      rw [if_neg hk, if_neg hx, Jn.putE_B]
      refine ⟨by rw [Jn.redo_one C _ (Jn.putB_no k x 59 (.inr rfl)), Jn.redo_putB C k x hk' hx'], ?_, ?_⟩
      · simp only [List.mem_append, not_or]
        exact ⟨Jn.putB_no k x 46 (.inl rfl), by simp⟩
      · have h1 := itoa_len k (by have := Jn.isKey_val k hk'; unfold Jn.isVal at this; simp at this; omega) (by have := Jn.isKey_val k hk'; unfold Jn.isVal at this; simp at this; omega)
        have h2 := itoa_len x (by unfold Jn.isVal at hx'; simp at hx'; omega) (by unfold Jn.isVal at hx'; simp at hx'; omega)
        simp [Jn.putB]; omega
theorem del_redo (C : Jn.Con) (k : Int) (h : (Jn.del C k).2 = 0) : Jn.redo C (Jn.delE k) = some (Jn.del C k).1 ∧ 46 ∉ Jn.delE k ∧ (Jn.delE k).length ≤ 25 := by
  unfold Jn.del at h ⊢
  split at h
  · simp at h
  · rename_i hk
    have hk' : Jn.isKey k = true := by simpa using hk
    rw [if_neg hk, Jn.delE_B]
    refine ⟨by rw [Jn.redo_one C _ (Jn.delB_no k 59 (.inr rfl)), Jn.redo_delB C k hk'], ?_, ?_⟩
    · simp only [List.mem_append, not_or]
      exact ⟨Jn.delB_no k 46 (.inl rfl), by simp⟩
    · have h1 := itoa_len k (by have := Jn.isKey_val k hk'; unfold Jn.isVal at this; simp at this; omega) (by have := Jn.isKey_val k hk'; unfold Jn.isVal at this; simp at this; omega)
      simp [Jn.delB]; omega

theorem put_procs (C : Jn.Con) (k x : Int) : (Jn.put C k x).1.procs = C.procs := by
  unfold Jn.put
  split
  · rfl
  · split <;> rfl
theorem del_procs (C : Jn.Con) (k : Int) : (Jn.del C k).1.procs = C.procs := by
  unfold Jn.del
  split <;> rfl
theorem put_same (C : Jn.Con) (k x : Int) (h : (Jn.put C k x).2 ≠ 0) : (Jn.put C k x).1 = C := by
  unfold Jn.put at h ⊢
  split
  · rfl
  · split
    · rfl
    · rename_i h1 h2; rw [if_neg h1, if_neg h2] at h; simp at h
theorem del_same (C : Jn.Con) (k : Int) (h : (Jn.del C k).2 ≠ 0) : (Jn.del C k).1 = C := by
  unfold Jn.del at h ⊢
  split
  · rfl
  · rename_i h1; rw [if_neg h1] at h; simp at h

/-- the variable of contents, behind the document's answer. -/
def CutC (w1 : World) (C' : Jn.Con) (er : Int) (s7 s8 : Value) (wx : World) : Prop :=
  ∃ Bc so sk po pk, s7 = .pointer (some ⟨Bc, 0, none⟩) ∧ s8 = .int .i64 er ∧ wx.heap[Bc]? = some (.cells #[.slice so C'.list.length sk, .slice po C'.procs.length pk] 128 (0, 0)) ∧
    CRow wx 0 (.slice so C'.list.length sk) C'.list ∧ PRow wx 0 (.slice po C'.procs.length pk) C'.procs ∧ Below w1.heap.size w1 wx
/-- the variable is made last. -/
theorem cutc_last {w1 wp : World} {C' : Jn.Con} {Cp : List (Jn.Bytes × Jn.Bytes)} {er : Int} {so po : Option Addr} {sk pk : Nat} (hb : Below w1.heap.size w1 wp) (h1 : CRow wp 0 (.slice so C'.list.length sk) C'.list) (hp : C'.procs = Cp) (h2 : PRow wp 0 (.slice po Cp.length pk) Cp) :
    CutC w1 C' er (.pointer (some ⟨wp.heap.size, 0, none⟩)) (.int .i64 er) (wp.alloc (.cells #[.slice so C'.list.length sk, .slice po Cp.length pk] 128)) := by
  subst hp
  have hh := heap_alloc_new wp (.cells #[.slice so C'.list.length sk, .slice po C'.procs.length pk] 128)
  have hba : Below wp.heap.size wp (wp.alloc (.cells #[.slice so C'.list.length sk, .slice po C'.procs.length pk] 128)) := (Below.refl _ _).alloc (Nat.le_refl _) _
  exact ⟨wp.heap.size, so, sk, po, pk, rfl, rfl, hh, h1.below hba, h2.below hba, hb.alloc hb.size _⟩
/-- the variable was made ahead. -/
theorem cutc_set {w1 wp : World} {C' : Jn.Con} {Cp : List (Jn.Bytes × Jn.Bytes)} {er : Int} {so po : Option Addr} {sk pk Bc : Nat} (hb : Below w1.heap.size w1 wp) (hB : w1.heap.size ≤ Bc) (hcur : wp.heap[Bc]? = some (.cells #[.slice none 0 0, .slice none 0 0] 128 (0, 0)))
    (h1 : CRow wp 0 (.slice so C'.list.length sk) C'.list) (hp : C'.procs = Cp) (h2 : PRow wp 0 (.slice po Cp.length pk) Cp) :
    CutC w1 C' er (.pointer (some ⟨Bc, 0, none⟩)) (.int .i64 er) ((wp.setCell ⟨Bc, 0, none⟩ (.slice so C'.list.length sk)).setCell ⟨Bc, 1, none⟩ (.slice po Cp.length pk)) := by
  subst hp
  have g1 := heap_setCell_same wp Bc 0 _ _ (.slice so C'.list.length sk) hcur
  have g2 := heap_setCell_same (wp.setCell ⟨Bc, 0, none⟩ (.slice so C'.list.length sk)) Bc 1 _ _ (.slice po C'.procs.length pk) g1
  have f1 : Fr 0 [128] none wp ((wp.setCell ⟨Bc, 0, none⟩ (.slice so C'.list.length sk)).setCell ⟨Bc, 1, none⟩ (.slice po C'.procs.length pk)) :=
    ((fr_setCell wp Bc 0 _ (Nat.zero_le _)).typed (fun k hk => by cases hk; exact ⟨_, _, _, hcur, by simp⟩) none).trans ((fr_setCell _ Bc 1 _ (Nat.zero_le _)).typed (fun k hk => by cases hk; exact ⟨_, _, _, g1, by simp⟩) none)
  refine ⟨Bc, so, sk, po, pk, rfl, rfl, ?_, own_fr h1 f1 (by decide) (.inl rfl), own_fr h2 f1 (by decide) (.inl rfl), (hb.setCell (p := ⟨Bc, 0, none⟩) hB _).setCell (p := ⟨Bc, 1, none⟩) hB _⟩
  rw [g2]; simp

/-- the step's end: refused, nothing has turned. -/
theorem step_err {L W D m : Nat} {w w1 wc wp w9 : World} {S B : Nat} {f : Int} {past : List Jn.Con} {d : DS} {nc nq na : Nat} {C : Jn.Con}
    (hlaw : LawAt L W D w.heap.size w.heap.size w (.pointer (some ⟨S, 0, none⟩)) past d nc nq na) (hlast : past[past.length - 1]? = some C) (hpm : past.length ≤ m) (hnc : nc ≤ 3 * m) (hnq : nq ≤ 3 * m) (hna : na ≤ 3 * m)
    (hdk : DiskOk d f C) (hds : d.1.size + d.2.1.size ≤ 30000 + 4000 * m) (hpl : ∀ p ∈ C.procs, Jn.Plain p.2)
    (b1 : Below w.heap.size w w1) (b2 : Below w1.heap.size w1 wc) (fr : Fr L [145] none wc wp) (hst : StAt L wp S B C f) (b3 : Below wp.heap.size wp w9) : StepPost L W D m w (.returned (.bool true)) w9 := by
  have hz1 := b1.size
  have hz2 := b2.size
  have hz3 := fr.size
  have hz4 := b3.size
  refine ⟨rfl, ⟨C, S, B, f, past, d, nc, nq, na, ?_, hst.below b3, hlast, by omega, by omega, by omega, by omega, hdk, by omega, hpl⟩, ?_⟩
  · exact ((((hlaw.below b1).below b2).fr fr (by simp)).below b3).mono (by omega) (by omega)
  · exact (((b1.mono hlaw.low).trans (b2.mono (Nat.le_trans hlaw.low hz1))).trans fr.below).trans (b3.mono (by have := hlaw.low; omega))

/-- the step's end: changed. -/
theorem step_ok {L W D m : Nat} {w w1 wc wp w9 : World} {S B : Nat} {f : Int} {past : List Jn.Con} {d d' : DS} {nc nq na : Nat} {C' : Jn.Con} {T : List TypeId}
    (hlaw : LawAt L W D w.heap.size w.heap.size w (.pointer (some ⟨S, 0, none⟩)) past d nc nq na) (hpm : past.length ≤ m) (hnc : nc ≤ 3 * m) (hnq : nq ≤ 3 * m) (hna : na ≤ 3 * m)
    (hdk : DiskOk d' f C') (hds : d'.1.size + d'.2.1.size ≤ 30000 + 4000 * (m + 1)) (hpl : ∀ p ∈ C'.procs, Jn.Plain p.2)
    (b1 : Below w.heap.size w w1) (b2 : Below w1.heap.size w1 wc) (fr : Fr L [145] none wc wp) (hst : StAt L wp S B C' f)
    (hlaw9 : LawAt L W D w9.heap.size w9.heap.size w9 (.pointer (some ⟨S, 0, none⟩)) (past ++ [C']) d' nc nq (na + 3)) (fr9 : Fr L T none wp w9)
    (h0 : 105 ∉ T) (h1 : 145 ∉ T) (h2 : 62 ∉ T) : StepPost L W D m w (.returned (.bool true)) w9 := by
  have hz1 := b1.size
  have hz2 := b2.size
  refine ⟨rfl, ⟨C', S, B, f, past ++ [C'], d', nc, nq, na + 3, hlaw9, ?_, by simp, by simp; omega, by omega, by omega, by omega, hdk, hds, hpl⟩, ?_⟩
  · exact hst.fr fr9 h0 h1 h2 (by simp)
  · exact (((b1.mono hlaw.low).trans (b2.mono (Nat.le_trans hlaw.low hz1))).trans fr.below).trans fr9.below

set_option maxHeartbeats 8000000 in
set_option maxRecDepth 100000 in
theorem cells_put (L W D m : Nat) (w : World) (C : Jn.Con) (o : OpD) (ho : o.kind = 3) (h : SInv L W D w C m) (hm : m ≤ 1300000000000) (hP : PowAt w) (hpL : 1 < L)
    (x0 : -9223372036854775808 ≤ o.m) (x1 : o.m ≤ 9223372036854775807) :
    Calls Tryz.prog 71 #[.pointer (some ⟨W, 0, none⟩), .agg o.cells, .bool false] w (StepPost L W D m w) := by
  have HCE := hide (fun W w s1 s2 f a1 a2 b1 b2 c1 c2 h1 h2 hf => change_err W w s1 s2 f 96 a1 a2 b1 b2 c1 c2 h1 h2 o hf)
  obtain ⟨S, B, f, past, d, nc, nq, na, hlaw, hst, hlast, hpm, hnc, hnq, hna, hdk, hds, hpl⟩ := h
  have HCO := hide (fun N w C' d' s1 s2 v l hlaw hLN hN hr hok h1 h2 hl hs hs2 her hp => change_ok L W D N N w (.pointer (some ⟨S, 0, none⟩)) past C' d d' nc nq na s1 s2 v l 96 o hlaw hLN hN hN h1 h2 hok hr hl hs hs2 her hp (by omega) (by omega))
  obtain ⟨kk, nn, mm, s, t, lo, ln, lc, cut, wo, wn, wc⟩ := o
  simp only at ho x0 x1
  subst ho
  simp only [OpD.cells] at HCE HCO ⊢
  obtain ⟨w1, hw1⟩ : ∃ w1, w1 = w.alloc (.cells #[.int .i64 3, .int .i64 nn, .int .i64 mm, .string s, .string t, .slice lo ln lc, .int .i64 cut, .slice wo wn wc] 83) := ⟨_, rfl⟩
  obtain ⟨B0, hB0⟩ : ∃ B0, B0 = w.heap.size := ⟨_, rfl⟩
  have hB1 : Below w.heap.size w w1 := by rw [hw1]; exact (Below.refl _ _).alloc (Nat.le_refl _) _
  have hbo : w1.heap[B0]? = some (.cells #[.int .i64 3, .int .i64 nn, .int .i64 mm, .string s, .string t, .slice lo ln lc, .int .i64 cut, .slice wo wn wc] 83 (0, 0)) := by rw [hw1, hB0]; exact heap_alloc_new w _
  have q1 : w1.cell? ⟨B0, 1, none⟩ = some (.int .i64 nn) := (cell_of_row w1 B0 1 _ _ _ hbo).trans rfl
  have q2 : w1.cell? ⟨B0, 2, none⟩ = some (.int .i64 mm) := (cell_of_row w1 B0 2 _ _ _ hbo).trans rfl
  have hlaw1 := hlaw.below hB1
  obtain ⟨vp, vc, vq, va, lcs, lqs, lxs, hWA, hpast, -, -, -, -, -, -⟩ := hlaw1.rest
  have HNOW := hide (fun w' (hb : Below w1.heap.size w1 w') => now_any L W w' _ _ vp vc vq va past C (hWA.fr (Fr.of (L := 0) (T := []) (X := none) hb (Nat.zero_le _)) (by simp) (by simp)) (hpast.fr (Fr.of (T := []) hb (Nat.le_trans hlaw1.low (Nat.le_refl _))) (by simp) (by simp) (by simp)) hlast (by omega))
  obtain ⟨c0, -, -, -, -, -⟩ := hWA.cell
  have hok : Jn.Ok C := hst.con.ok
  have HPS := hide (fun x (hx : Below w1.heap.size w1 x) => putS_any L S B C f nn mm x ((hst.below hB1).below hx) ((hP.below hP.1 hB1).below (Nat.lt_of_lt_of_le hP.1 hB1.size) hx) hpL)
  have HRP := hide (fun sc sp w h1 h2 => refPut_any C sc sp nn mm w h1 h2 hok x0 x1)
  have HB1 := hide hB1
  have HWA := hide hWA
  have HBO := hide hbo
  have HLAW := hide hlaw
  have HST := hide hst
  have HPW := hide hP
  clear hB1 hbo hlaw hst hlaw1 hWA hpast hP
  obtain ⟨C', hC'⟩ : ∃ C', C' = (Jn.put C nn mm).1 := ⟨_, rfl⟩
  obtain ⟨er, her⟩ : ∃ er, er = (Jn.put C nn mm).2 := ⟨_, rfl⟩
  rw [← hC', ← her] at HRP HPS
  have hpp : C'.procs = C.procs := by rw [hC']; exact put_procs C nn mm
  have HCC' := hide hC'
  have HER := hide her
  have HPP := hide hpp
  have hB1s : ∀ x : World, Below w1.heap.size w1 x → x.cell? ⟨B0, 1, none⟩ = some (.int .i64 nn) ∧ x.cell? ⟨B0, 2, none⟩ = some (.int .i64 mm) := fun x hx => ⟨at_old hx q1, at_old hx q2⟩
  have HKP := hide hB1s
  clear hC' her hpp hB1s
  go_enter Tryz.func71, Tryz.ntmps71
  go_upto_region 3 with fail
  rw [← hw1, ← hB0]
  have HW1 := hide hw1
  have HB0 := hide hB0
  clear hw1 hB0
  go_cut [7, 8] (fun s7 s8 wx => CutC w1 C' er s7 s8 wx)
  case first =>
    go_region_held3 (fun w' => w'.cell? ⟨B0, 1, none⟩ = some (.int .i64 nn) ∧ w'.cell? ⟨B0, 2, none⟩ = some (.int .i64 mm))
      (first | with_reducible exact HKP.out _ (Below.drew (Below.refl _ _)) | with_reducible exact HKP.out _ hbp | with_reducible exact HKP.out _ hbn | with_reducible exact HKP.out _ (Below.alloc hbp hbp.size _) | with_reducible exact HKP.out _ (Below.alloc hbn hbn.size _) | with_reducible exact HKP.out _ (Below.alloc (Below.drew (Below.refl _ _)) (Nat.le_refl _) _) | with_reducible exact HKP.out _ (Below.drew (Below.alloc (Below.refl _ _) (Nat.le_refl _) _)) | with_reducible exact HKP.out _ ((hbp.setCell (p := ⟨wn.heap.size, 0, none⟩) hbn.size _).setCell (p := ⟨wn.heap.size, 1, none⟩) hbn.size _) | with_reducible exact HKP.out _ ((hbp.setCell (p := ⟨w1.heap.size, 0, none⟩) (Nat.le_refl _) _).setCell (p := ⟨w1.heap.size, 1, none⟩) (Nat.le_refl _) _))
      (first | (go_at_call 110; refine (HNOW.out _ (by first | exact Below.drew (Below.refl _ _) | exact (Below.drew (Below.alloc (Below.refl _ _) (Nat.le_refl _) _)) | exact (Below.alloc (Below.drew (Below.refl _ _)) (Nat.le_refl _) _))).mono ?_; rintro e wn ⟨sc, sp, rfl, hcr, hpr, hbn0⟩; obtain ⟨po, pk, rfl, -⟩ := hpr.shape; have hbn : Below w1.heap.size w1 wn := Below.trans (by first | exact Below.drew (Below.refl _ _) | exact (Below.drew (Below.alloc (Below.refl _ _) (Nat.le_refl _) _)) | exact (Below.alloc (Below.drew (Below.refl _ _)) (Nat.le_refl _) _)) (hbn0.mono (by first | exact (Nat.le_refl _) | (show w1.heap.size ≤ (w1.alloc _).heap.size; rw [World.size_alloc]; exact (Nat.le_succ _)))); (try (have vb : wn.heap[w1.heap.size]? = some (.cells #[.slice none 0 0, .slice none 0 0] 128 (0, 0)) := (hbn0.block _ (by show w1.heap.size < (w1.alloc _).heap.size; rw [World.size_alloc]; exact (Nat.lt_succ_self _))).trans (heap_alloc_new w1 _)))) | (go_at_call 109; refine (HRP.out sc _ _ (by first | exact hcr | exact hcr.below ((Below.refl _ _).alloc (Nat.le_refl _) _)) (by first | exact hpr | exact hpr.below ((Below.refl _ _).alloc (Nat.le_refl _) _))).mono ?_; rintro e wp ⟨sc', rfl, hcr', hbp0⟩; obtain ⟨so', sk', rfl⟩ := crow_slice hcr'; have hbp : Below w1.heap.size w1 wp := Below.trans (by first | exact hbn | exact (Below.alloc hbn hbn.size _)) (hbp0.mono (by first | exact hbn.size | (rw [World.size_alloc]; exact Nat.le_succ_of_le hbn.size))); (try (have vy : wp.heap[w1.heap.size]? = some (.cells #[.slice none 0 0, .slice none 0 0] 128 (0, 0)) := (hbp0.block _ (by exact (Array.getElem?_eq_some_iff.1 vb).1)).trans vb)); (try (have vy : wp.heap[wn.heap.size]? = some (.cells #[.slice none 0 0, .slice none 0 0] 128 (0, 0)) := (hbp0.block _ (by rw [World.size_alloc]; exact (Nat.lt_succ_self _))).trans (heap_alloc_new wn _))); (try (have y0 : wp.cell? ⟨w1.heap.size, 0, none⟩ = some (.slice none 0 0) := (cell_of_row wp _ 0 _ _ _ vy).trans rfl)); (try (have y2 : wp.frozen? ⟨w1.heap.size, 0, none⟩ = false := frozen_of_row wp _ 0 _ _ vy)); (try (have y1 : wp.cell? ⟨w1.heap.size, 1, none⟩ = some (.slice none 0 0) := (cell_of_row wp _ 1 _ _ _ vy).trans rfl)); (try (have y3 : wp.frozen? ⟨w1.heap.size, 1, none⟩ = false := frozen_of_row wp _ 1 _ _ vy)); (try (have y0 : wp.cell? ⟨wn.heap.size, 0, none⟩ = some (.slice none 0 0) := (cell_of_row wp _ 0 _ _ _ vy).trans rfl)); (try (have y2 : wp.frozen? ⟨wn.heap.size, 0, none⟩ = false := frozen_of_row wp _ 0 _ _ vy)); (try (have y1 : wp.cell? ⟨wn.heap.size, 1, none⟩ = some (.slice none 0 0) := (cell_of_row wp _ 1 _ _ _ vy).trans rfl)); (try (have y3 : wp.frozen? ⟨wn.heap.size, 1, none⟩ = false := frozen_of_row wp _ 1 _ _ vy))))
    all_goals
      go_wp2_with fail
      go_meet
      first
        | with_reducible exact cutc_last hbp hcr' HPP.out (hpr.below hbp0)
        | with_reducible exact cutc_set hbp hbn.size vy hcr' HPP.out ((hpr.below ((Below.refl _ _).alloc (Nat.le_refl _) _)).below hbp0)
        | with_reducible exact cutc_set hbp (Nat.le_refl _) vy hcr' HPP.out (hpr.below hbp0)
  case rest =>
    clear HNOW HRP HKP
    obtain ⟨Bc, so, sk, po, pk, rfl, rfl, hbc, hcr, hpr, hbw⟩ := hcut
    have k0 := at_old hbw c0
    have k1 := at_old hbw q1
    have k2 := at_old hbw q2
    have hwa : WAt wc W _ _ _ _ _ _ := HWA.out.fr (Fr.of (L := 0) (T := []) (X := none) hbw (Nat.zero_le _)) (by simp) (by simp)
    have hob := (hbw.block B0 (Array.getElem?_eq_some_iff.1 HBO.out).1).trans HBO.out
    have HFR := hide (fun x (hx : Fr L [145] none wc x) => And.intro (hx.block B0 _ _ _ hob (by decide) (by simp)) (And.intro (hx.block Bc _ _ _ hbc (by decide) (by simp)) (hwa.fr hx (by decide) (by simp))))
    have HKP := hide (fun x (hx : Fr L [145] none wc x) => (⟨(HFR.out x hx).2.2.cell.1, (cell_of_row x B0 1 _ _ _ (HFR.out x hx).1).trans rfl, (cell_of_row x B0 2 _ _ _ (HFR.out x hx).1).trans rfl⟩ : x.cell? ⟨W, 0, none⟩ = some (.pointer (some ⟨S, 0, none⟩)) ∧ x.cell? ⟨B0, 1, none⟩ = some (.int .i64 nn) ∧ x.cell? ⟨B0, 2, none⟩ = some (.int .i64 mm)))
    have HBW := hide hbw
    have HCR := hide hcr
    have HPR := hide hpr
    clear hbw hcr hpr hbc hwa hob q1 q2 c0
    go_wp2_with fail
    go_region_held3 (fun w' => w'.cell? ⟨W, 0, none⟩ = some (.pointer (some ⟨S, 0, none⟩)) ∧ w'.cell? ⟨B0, 1, none⟩ = some (.int .i64 nn) ∧ w'.cell? ⟨B0, 2, none⟩ = some (.int .i64 mm))
      (first | with_reducible exact HKP.out _ hfr | go_keep)
      (first | (go_at_call 32; refine (HPS.out _ (Below.drew HBW.out)).mono ?_; rintro e wp ⟨v, rfl, hst', hfr0, hor⟩; have hfr : Fr L [145] none wc wp := Fr.undrew hfr0))
    obtain ⟨hob, hbc, -⟩ := HFR.out wp hfr
    have p0 := (cell_of_row wp B0 0 _ _ _ hob).trans rfl
    have p1 := (cell_of_row wp B0 1 _ _ _ hob).trans rfl
    have p2 := (cell_of_row wp B0 2 _ _ _ hob).trans rfl
    have p3 := (cell_of_row wp B0 3 _ _ _ hob).trans rfl
    have p4 := (cell_of_row wp B0 4 _ _ _ hob).trans rfl
    have p5 := (cell_of_row wp B0 5 _ _ _ hob).trans rfl
    have p6 := (cell_of_row wp B0 6 _ _ _ hob).trans rfl
    have p7 := (cell_of_row wp B0 7 _ _ _ hob).trans rfl
    have r0 := (cell_of_row wp Bc 0 _ _ _ hbc).trans rfl
    have r1 := (cell_of_row wp Bc 1 _ _ _ hbc).trans rfl
    have HF := hide hfr
    have HS := hide hst'
    clear hfr hst' hob hbc hfr0 HPS HKP HFR k0 k1 k2
    rcases hor with ⟨hne, rfl⟩ | ⟨h0, har⟩
    · have HC1 := hide (HCE.out W wp (.slice so C'.list.length sk) (.slice po C'.procs.length pk) er so po C'.list.length C'.procs.length sk pk rfl rfl hne)
      have hsame : C' = C := by rw [HCC'.out]; exact put_same C nn mm (HER.out ▸ hne)
      have HSM := hide hsame
      clear hne hsame HCO HCE
      go_wp2_with fail
      refine HC1.out.mono ?_
      rintro e w9 ⟨rfl, hb9⟩
      have HFIN := hide (step_err HLAW.out hlast hpm hnc hnq hna hdk hds hpl HB1.out HBW.out HF.out (HSM.out ▸ HS.out) hb9)
      clear hb9 HC1
      go_wp2_with fail
      go_ret
      exact HFIN.out
    · obtain ⟨hre, hno, hlen⟩ := put_redo C nn mm (HER.out.symm.trans h0)
      rw [← HCC'.out] at hre
      obtain ⟨d', hpd, hdk', z1, z2⟩ := hdk.change hno hre (by omega)
      have hLc : L ≤ wc.heap.size := Nat.le_trans (Nat.le_trans HLAW.out.low HB1.out.size) HBW.out.size
      have HC2 := hide (HCO.out wc.heap.size wp C' d' _ _ v _ ((((HLAW.out.below HB1.out).below HBW.out).fr HF.out (by simp)).mono (Nat.le_trans HB1.out.size HBW.out.size) (Nat.le_trans HB1.out.size HBW.out.size)) hLc HF.out.size har HS.out.con.ok
        (own_fr HCR.out HF.out (by decide) (.inl rfl)) (own_fr HPR.out HF.out (by decide) (.inl rfl)) (by simp) (by simp [lens, Jn.record]; omega) (by simp [lens, Jn.record]; omega) (by simp) hpd)
      have HDK := hide hdk'
      have hsz : d'.1.size + d'.2.1.size ≤ 30000 + 4000 * (m + 1) := by omega
      have HSZ := hide hsz
      have HPL := hide (p := ∀ p ∈ C'.procs, Jn.Plain p.2) (by rw [HPP.out]; exact hpl)
      subst h0
      clear har hre hno hlen hpd hdk' z1 z2 hLc hsz HCO HCE
      go_wp2_with fail
      refine HC2.out.mono ?_
      rintro e w9 ⟨rfl, hl9, hf9⟩
      have HFIN := hide (step_ok HLAW.out hpm hnc hnq hna HDK.out HSZ.out HPL.out HB1.out HBW.out HF.out HS.out hl9 hf9 (by decide) (by decide) (by decide))
      clear hl9 hf9 HC2
      go_wp2_with fail
      go_ret
      exact HFIN.out
end Go.Proofs.YtellilpeakpbfaaGreatDoor

end

section
/-
  The walk of World.cells: Get.
-/
namespace Go.Proofs.YtellilpeakpbfaaGreatDoor
open Go.RowKit

set_option maxRecDepth 100000 in
theorem field_rc (a b : Value) (w : World) : Sem.run Tryz.prog (Instr.field 128 (.agg #[a, b]) 0) w = .ok a w := by rfl
/-- a step that only reads. -/
theorem step_same {L W D m : Nat} {w w9 : World} {C : Jn.Con} (h : SInv L W D w C m) (b : Below w.heap.size w w9) : StepPost L W D m w (.returned (.bool true)) w9 := by
  obtain ⟨S, B, f, past, d, nc, nq, na, hlaw, hst, hlast, hpm, hnc, hnq, hna, hdk, hds, hpl⟩ := h
  exact step_err hlaw hlast hpm hnc hnq hna hdk hds hpl (Below.refl _ _) (Below.refl _ _) (Fr.refl _ _ _ _) hst b

set_option maxHeartbeats 8000000 in
set_option maxRecDepth 100000 in
theorem cells_get_any (L W D m : Nat) (w : World) (C : Jn.Con) (o : OpD) (ho : o.kind = 5) (h : SInv L W D w C m) (hm : m ≤ 1300000000000) :
    Calls Tryz.prog 71 #[.pointer (some ⟨W, 0, none⟩), .agg o.cells, .bool false] w (StepPost L W D m w) := by
  have HSI := hide h
  obtain ⟨S, B, f, past, d, nc, nq, na, hlaw, hst, hlast, hpm, hnc, hnq, hna, hdk, hds, hpl⟩ := h
  obtain ⟨kk, nn, mm, s, t, lo, ln, lc, cut, wo, wn, wc⟩ := o
  simp only at ho
  subst ho
  simp only [OpD.cells]
  obtain ⟨w1, hw1⟩ : ∃ w1, w1 = w.alloc (.cells #[.int .i64 5, .int .i64 nn, .int .i64 mm, .string s, .string t, .slice lo ln lc, .int .i64 cut, .slice wo wn wc] 83) := ⟨_, rfl⟩
  obtain ⟨B0, hB0⟩ : ∃ B0, B0 = w.heap.size := ⟨_, rfl⟩
  have hB1 : Below w.heap.size w w1 := by rw [hw1]; exact (Below.refl _ _).alloc (Nat.le_refl _) _
  have hbo : w1.heap[B0]? = some (.cells #[.int .i64 5, .int .i64 nn, .int .i64 mm, .string s, .string t, .slice lo ln lc, .int .i64 cut, .slice wo wn wc] 83 (0, 0)) := by rw [hw1, hB0]; exact heap_alloc_new w _
  have q1 : w1.cell? ⟨B0, 1, none⟩ = some (.int .i64 nn) := (cell_of_row w1 B0 1 _ _ _ hbo).trans rfl
  have hlaw1 := hlaw.below hB1
  obtain ⟨vp, vc, vq, va, lcs, lqs, lxs, hWA, hpast, -, -, -, -, -, -⟩ := hlaw1.rest
  have HNOW := hide (fun w' (hb : Below w1.heap.size w1 w') => now_any L W w' _ _ vp vc vq va past C (hWA.fr (Fr.of (L := 0) (T := []) (X := none) hb (Nat.zero_le _)) (by simp) (by simp)) (hpast.fr (Fr.of (T := []) hb (Nat.le_trans hlaw1.low (Nat.le_refl _))) (by simp) (by simp) (by simp)) hlast (by omega))
  obtain ⟨c0, -, -, -, -, -⟩ := hWA.cell
  have hok : Jn.Ok C := hst.con.ok
  have HCE := hide (fun v x hr => cellR_any 0 v C.list nn x hr (list_bound hok))
  have HGET : Hid (∀ x, Below w1.heap.size w1 x → ∃ gv gb ge, Calls Tryz.prog 33 #[.pointer (some ⟨S, 0, none⟩), .int .i64 nn] x (fun e w' => e = .returned (.tuple #[.int .i64 gv, .bool gb, .int .i64 ge]) ∧ Below x.heap.size x w') ∧
      ((0 ≤ nn ∧ nn ≤ 99 ∧ ge = 0 ∧ gv = (cellL C.list nn).getD 0 ∧ gb = (cellL C.list nn).isSome) ∨ ((nn < 0 ∨ 99 < nn) ∧ ge = 5 ∧ gv = 0 ∧ gb = false))) := by
    intro x hx
    by_cases hk : 0 ≤ nn ∧ nn ≤ 99
    · have hn : nn = (nn.toNat : Int) := by omega
      refine ⟨_, _, _, ?_, .inl ⟨hk.1, hk.2, rfl, rfl, rfl⟩⟩
      have := getS_in L S B C f nn.toNat x ((hst.below hB1).below hx) (by omega)
      rw [← cell_con hok nn.toNat (by omega), ← hn] at this
      exact this
    · exact ⟨0, false, 5, getS_out L S B C f nn x ((hst.below hB1).below hx) (by unfold Jn.isKey; simp; omega), .inr ⟨by omega, rfl, rfl, rfl⟩⟩
  have HB1 := hide hB1
  clear hB1 hbo hlaw hst hlaw1 hWA hpast hok
  generalize (cellL C.list nn).getD 0 = cv at HCE HGET
  generalize (cellL C.list nn).isSome = cb at HCE HGET
  obtain ⟨gv, gb, ge, hg, hor⟩ := HGET.out w1.drew (Below.drew (Below.refl _ _))
  have HG := hide hg
  have HK : Hid (∀ x : World, Below w1.heap.size w1 x → x.cell? ⟨W, 0, none⟩ = some (.pointer (some ⟨S, 0, none⟩)) ∧ x.cell? ⟨B0, 1, none⟩ = some (.int .i64 nn)) := fun x hx => ⟨at_old hx c0, at_old hx q1⟩
  clear hg HGET
  go_enter Tryz.func71, Tryz.ntmps71
  go_upto_region 11 with fail
  rw [← hw1, ← hB0]
  have HW1 := hide hw1
  have HB0 := hide hB0
  clear hw1 hB0
  go_region_held3 (fun w' => w'.cell? ⟨W, 0, none⟩ = some (.pointer (some ⟨S, 0, none⟩)) ∧ w'.cell? ⟨B0, 1, none⟩ = some (.int .i64 nn))
    (first | with_reducible exact HK.out _ hb2 | go_keep)
    (first | (go_at_call 33; refine HG.out.mono ?_; rintro e w2 ⟨rfl, hb20⟩; have hb2 : Below w1.heap.size w1 w2 := (Below.drew (Below.refl _ _)).trans hb20))
  obtain ⟨k0, k1⟩ := HK.out _ hb2
  have HB2 := hide hb2
  clear hb2 hb20 HG c0 q1
  have hfd := field_rc
  go_wp2_with fail
  go_region_held3 (fun w' => w'.cell? ⟨B0, 1, none⟩ = some (.int .i64 nn))
    (first | with_reducible exact (HK.out _ hb3).2 | with_reducible exact (HK.out _ (Below.drew HB2.out)).2 | go_keep)
    (first | (go_at_call 110; refine (HNOW.out _ (Below.drew HB2.out)).mono ?_; rintro e w3 ⟨sc, sp, rfl, hcr, hpr, hb30⟩; obtain ⟨so, sk, rfl⟩ := crow_slice hcr; obtain ⟨po, pk, rfl, -⟩ := hpr.shape; have hb3 : Below w1.heap.size w1 w3 := (Below.drew HB2.out).trans (hb30.mono HB2.out.size)) | (go_at_call 113; refine (HCE.out _ _ hcr).mono ?_; rintro e w4 ⟨rfl, rfl⟩))
  have g1 := (HK.out _ hb3).2
  have HFIN := hide (step_same HSI.out (HB1.out.trans (hb3.mono HB1.out.size)))
  clear hb3 hb30 hcr hpr k0 k1 HNOW HCE HK HSI
  have HNUM := hide (num_any 5)
  rcases hor with ⟨h0, h1, rfl, rfl, rfl⟩ | ⟨hx, rfl, rfl, rfl⟩
  · have t1 : decide (nn < 0) = false := by simp; omega
    have t2 : decide (99 < nn) = false := by simp; omega
    go_wp2_with fail
    go_ret
    exact HFIN.out
  · by_cases hlt : nn < 0
    · have t1 : decide (nn < 0) = true := by simp; omega
      go_wp2_with fail
      refine (HNUM.out _).mono ?_
      rintro e w4 ⟨rfl, rfl⟩
      go_wp2_with fail
      go_ret
      exact HFIN.out
    · have t1 : decide (nn < 0) = false := by simp; omega
      have t2 : decide (99 < nn) = true := by simp; omega
      go_wp2_with fail
      refine (HNUM.out _).mono ?_
      rintro e w4 ⟨rfl, rfl⟩
      go_wp2_with fail
      go_ret
      exact HFIN.out
end Go.Proofs.YtellilpeakpbfaaGreatDoor

end

section
/-
  The walk of World.cells: Cells.
-/
namespace Go.Proofs.YtellilpeakpbfaaGreatDoor
open Go.RowKit

/-- a row's own block lies where the row lies. -/
theorem own_lies {w : World} {b : Nat} {e : TypeId} {s : Nat} {v : Value} {n : Nat} {xs : List Value} (h : w.ownsRow b e s v n xs) : ∀ k, v.ownBlock = some k → b ≤ k := by
  intro k hk
  rcases h.2 with ⟨rfl, _⟩ | ⟨g, cap, cur, rfl, hb, _⟩
  · simp [Value.ownBlock] at hk
  · simp [Value.ownBlock] at hk
    omega

set_option maxHeartbeats 8000000 in
set_option maxRecDepth 100000 in
theorem cells_cells (L W D m : Nat) (w : World) (C : Jn.Con) (o : OpD) (ho : o.kind = 6) (h : SInv L W D w C m) (hm : m ≤ 1300000000000) :
    Calls Tryz.prog 71 #[.pointer (some ⟨W, 0, none⟩), .agg o.cells, .bool false] w (StepPost L W D m w) := by
  obtain ⟨S, B, f, past, d, nc, nq, na, hlaw, hst, hlast, hpm, hnc, hnq, hna, hdk, hds, hpl⟩ := h
  obtain ⟨kk, nn, mm, s, t, lo, ln, lc, cut, wo, wn, wc⟩ := o
  simp only at ho
  subst ho
  simp only [OpD.cells]
  obtain ⟨w1, hw1⟩ : ∃ w1, w1 = w.alloc (.cells #[.int .i64 6, .int .i64 nn, .int .i64 mm, .string s, .string t, .slice lo ln lc, .int .i64 cut, .slice wo wn wc] 83) := ⟨_, rfl⟩
  have hB1 : Below w.heap.size w w1 := by rw [hw1]; exact (Below.refl _ _).alloc (Nat.le_refl _) _
  have hlaw1 := hlaw.below hB1
  have hst1 := hst.below hB1
  obtain ⟨vp, vc, vq, va, lcs, lqs, lxs, hWA, hpast, hh1, e1, hh2, e2, hh3, e3⟩ := hlaw1.rest
  have HNOW := hide (fun w' (hb : Below w1.heap.size w1 w') => now_any L W w' _ _ vp vc vq va past C (hWA.fr (Fr.of (L := 0) (T := []) (X := none) hb (Nat.zero_le _)) (by simp) (by simp)) (hpast.fr (Fr.of (T := []) hb (Nat.le_trans hlaw1.low (Nat.le_refl _))) (by simp) (by simp) (by simp)) hlast (by omega))
  obtain ⟨c0, -, -, -, -, -⟩ := hWA.cell
  have hok : Jn.Ok C := hst.con.ok
  have HCS := hide (cellsS_any L S B C f w1 hst1)
  have HSM : Hid (∀ (va' vb : Value) (x : World), CRow x w1.heap.size va' C.list → CRow x 0 vb C.list → Calls Tryz.prog 97 #[va', vb] x (fun e w' => e = .returned (.bool true) ∧ Below x.heap.size x w')) := fun va' vb x ha hb => by
    have := sameCells_any w1.heap.size 0 va' vb C.list C.list x ha hb (list_bound hok)
    rw [decide_eq_true (rfl : C.list = C.list)] at this
    exact this
  have hLw := hlaw1.low
  have hz1 := hB1.size
  have HKC : Hid (∀ (x : World) (v : Value), Below w1.heap.size w1 x → CRow x w1.heap.size v C.list → Calls Tryz.prog 99 #[.pointer (some ⟨W, 3, none⟩), v] x (fun e w9 => e = .returned (.tuple #[]) ∧ StepPost L W D m w (.returned (.bool true)) w9)) := by
    intro x v hb hr
    have f1 : Fr L [92, 35] none w1 x := Fr.of hb hLw
    have hlawx := hlaw1.below hb
    refine (keepCells_any L w1.heap.size W x _ _ vp vc vq va lcs v _ _ (hWA.fr (Fr.of (L := 0) (T := []) (X := none) hb (Nat.zero_le _)) (by simp) (by simp)) hlaw.lw
      ((hh1.fr (X := none) (Fr.of (T := []) hb hLw) (by simp) (by simp) (by simp) (.inl rfl)).mono hz1) hr (list_bound hok) hLw hb.size (by omega)).mono ?_
    rintro e w9 ⟨v', ls', rfl, hW9, hh9, hl9, hf9⟩
    have hf : Fr L [92, 35] none w1 w9 := f1.fresh hf9 (own_lies hr)
    have hz9 := hf.size
    refine ⟨rfl, rfl, ⟨C, S, B, f, past, d, nc + 3, nq, na, ⟨hlaw.lw, hlaw.ld, hlaw1.disk.fr hf (by decide) (by simp), vp, v', vq, va, ls', lqs, lxs, hW9, hpast.fr hf (by decide) (by decide) (by decide), hh9, by omega,
      (hh2.fr hf (by decide) (by decide) (by simp) (.inl rfl)).mono (by omega), e2, (hh3.fr hf (by decide) (by decide) (by simp) (.inl rfl)).mono (by omega), e3⟩, ?_, hlast, by omega, by omega, by omega, by omega, hdk, by omega, hpl⟩, ?_⟩
    · exact hst1.fr hf (by decide) (by decide) (by decide) (by simp)
    · exact (hB1.mono hlaw.low).trans hf.below
  clear hB1 hlaw hst hlaw1 hst1 hWA hpast hh1 hh2 hh3 hok
  go_enter Tryz.func71, Tryz.ntmps71
  go_upto_region 16 with fail
  rw [← hw1]
  have HW1 := hide hw1
  clear hw1
  go_wp2_with fail
  refine HCS.out.mono ?_
  rintro e w2 ⟨v, rfl, hcv, hb2⟩
  have g0 := at_old hb2 c0
  have HCV := hide hcv
  have HB2 := hide hb2
  clear hcv hb2 c0 HCS
  have hfd := field_rc
  go_wp2_with fail
  refine (HNOW.out _ HB2.out).mono ?_
  rintro e w3 ⟨sc, sp, rfl, hcr, hpr, hb3⟩
  obtain ⟨so, sk, rfl⟩ := crow_slice hcr
  obtain ⟨po, pk, rfl, -⟩ := hpr.shape
  have HSX := hide (HSM.out v _ w3 (HCV.out.below hb3) hcr)
  have HB3 := hide (HB2.out.trans (hb3.mono HB2.out.size))
  have HCV3 := hide (HCV.out.below hb3)
  clear hcr hpr hb3 HNOW HSM HCV HB2
  go_wp2_with fail
  refine HSX.out.mono ?_
  rintro e w4 ⟨rfl, hb4⟩
  have HB4 := hide (HB3.out.trans (hb4.mono HB3.out.size))
  have HK := hide (HKC.out w4 v (HB3.out.trans (hb4.mono HB3.out.size)) (HCV3.out.below hb4))
  clear hb4 HSX HKC HCV3 HB3
  go_wp2_with fail
  refine HK.out.mono ?_
  rintro e w9 ⟨rfl, hfin⟩
  have HFIN := hide hfin
  clear hfin HK
  go_wp2_with fail
  go_ret
  exact HFIN.out
end Go.Proofs.YtellilpeakpbfaaGreatDoor

end
