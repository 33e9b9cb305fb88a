/-
  The walk of World.cells: Get.
-/
import Derived.Test.YthehkgglblohfaaGreatDoorCellP
namespace Go.Proofs.YthehkgglblohfaaGreatDoor
open Go.RowKit

set_option maxRecDepth 100000 in
theorem field_rc (a b : Value) (w : World) : Sem.run Tryz.prog (Instr.field 50 (.agg #[a, b]) 0) w = .ok a w := by rfl
/-- a step that only reads. -/
theorem step_same {L W D m : Nat} {w w9 : World} {C : Jn.Con} (h : SInv L W D w C m) (b : Below w.heap.size w w9) : StepPost L W D m w (.returned (.bool true)) w9 := by
  obtain ⟨S, B, f, past, d, nc, nq, na, hlaw, hst, hlast, hpm, hnc, hnq, hna, hdk, hds, hpl⟩ := h
  exact step_err hlaw hlast hpm hnc hnq hna hdk hds hpl (Below.refl _ _) (Below.refl _ _) (Fr.refl _ _ _ _) hst b

set_option maxHeartbeats 8000000 in
set_option maxRecDepth 100000 in
theorem cells_get_any (L W D m : Nat) (w : World) (C : Jn.Con) (o : OpD) (ho : o.kind = 5) (h : SInv L W D w C m) (hm : m ≤ 1300000000000) :
    Calls Tryz.prog 15 #[.pointer (some ⟨W, 0, none⟩), .agg o.cells, .bool false] w (StepPost L W D m w) := by
  have HSI := hide h
  obtain ⟨S, B, f, past, d, nc, nq, na, hlaw, hst, hlast, hpm, hnc, hnq, hna, hdk, hds, hpl⟩ := h
  obtain ⟨kk, nn, mm, s, t, lo, ln, lc, cut, wo, wn, wc⟩ := o
  simp only at ho
  subst ho
  simp only [OpD.cells]
  obtain ⟨w1, hw1⟩ : ∃ w1, w1 = w.alloc (.cells #[.int .i64 5, .int .i64 nn, .int .i64 mm, .string s, .string t, .slice lo ln lc, .int .i64 cut, .slice wo wn wc] 30) := ⟨_, rfl⟩
  obtain ⟨B0, hB0⟩ : ∃ B0, B0 = w.heap.size := ⟨_, rfl⟩
  have hB1 : Below w.heap.size w w1 := by rw [hw1]; exact (Below.refl _ _).alloc (Nat.le_refl _) _
  have hbo : w1.heap[B0]? = some (.cells #[.int .i64 5, .int .i64 nn, .int .i64 mm, .string s, .string t, .slice lo ln lc, .int .i64 cut, .slice wo wn wc] 30 (0, 0)) := by rw [hw1, hB0]; exact heap_alloc_new w _
  have q1 : w1.cell? ⟨B0, 1, none⟩ = some (.int .i64 nn) := (cell_of_row w1 B0 1 _ _ _ hbo).trans rfl
  have hlaw1 := hlaw.below hB1
  obtain ⟨vp, vc, vq, va, lcs, lqs, lxs, hWA, hpast, -, -, -, -, -, -⟩ := hlaw1.rest
  have HNOW := hide (fun w' (hb : Below w1.heap.size w1 w') => now_any L W w' _ _ vp vc vq va past C (hWA.fr (Fr.of (L := 0) (T := []) (X := none) hb (Nat.zero_le _)) (by simp) (by simp)) (hpast.fr (Fr.of (T := []) hb (Nat.le_trans hlaw1.low (Nat.le_refl _))) (by simp) (by simp) (by simp)) hlast (by omega))
  obtain ⟨c0, -, -, -, -, -⟩ := hWA.cell
  have hok : Jn.Ok C := hst.con.ok
  have HCE := hide (fun v x hr => cellR_any 0 v C.list nn x hr (list_bound hok))
  have HGET : Hid (∀ x, Below w1.heap.size w1 x → ∃ gv gb ge, Calls Tryz.prog 44 #[.pointer (some ⟨S, 0, none⟩), .int .i64 nn] x (fun e w' => e = .returned (.tuple #[.int .i64 gv, .bool gb, .int .i64 ge]) ∧ Below x.heap.size x w') ∧
      ((0 ≤ nn ∧ nn ≤ 99 ∧ ge = 0 ∧ gv = (cellL C.list nn).getD 0 ∧ gb = (cellL C.list nn).isSome) ∨ ((nn < 0 ∨ 99 < nn) ∧ ge = 5 ∧ gv = 0 ∧ gb = false))) := by
    intro x hx
    by_cases hk : 0 ≤ nn ∧ nn ≤ 99
    · have hn : nn = (nn.toNat : Int) := by omega
      refine ⟨_, _, _, ?_, .inl ⟨hk.1, hk.2, rfl, rfl, rfl⟩⟩
      have := getS_in L S B C f nn.toNat x ((hst.below hB1).below hx) (by omega)
      rw [← cell_con hok nn.toNat (by omega), ← hn] at this
      exact this
    · exact ⟨0, false, 5, getS_out L S B C f nn x ((hst.below hB1).below hx) (by unfold Jn.isKey; simp; omega), .inr ⟨by omega, rfl, rfl, rfl⟩⟩
  have HB1 := hide hB1
  clear hB1 hbo hlaw hst hlaw1 hWA hpast hok
  generalize (cellL C.list nn).getD 0 = cv at HCE HGET
  generalize (cellL C.list nn).isSome = cb at HCE HGET
  obtain ⟨gv, gb, ge, hg, hor⟩ := HGET.out w1.drew (Below.drew (Below.refl _ _))
  have HG := hide hg
  have HK : Hid (∀ x : World, Below w1.heap.size w1 x → x.cell? ⟨W, 0, none⟩ = some (.pointer (some ⟨S, 0, none⟩)) ∧ x.cell? ⟨B0, 1, none⟩ = some (.int .i64 nn)) := fun x hx => ⟨at_old hx c0, at_old hx q1⟩
  clear hg HGET
  go_enter Tryz.func15, Tryz.ntmps15
  go_upto_region 11 with fail
  rw [← hw1, ← hB0]
  have HW1 := hide hw1
  have HB0 := hide hB0
  clear hw1 hB0
  go_region_held3 (fun w' => w'.cell? ⟨W, 0, none⟩ = some (.pointer (some ⟨S, 0, none⟩)) ∧ w'.cell? ⟨B0, 1, none⟩ = some (.int .i64 nn))
    (first | with_reducible exact HK.out _ hb2 | go_keep)
    (first | (go_at_call 44; refine HG.out.mono ?_; rintro e w2 ⟨rfl, hb20⟩; have hb2 : Below w1.heap.size w1 w2 := (Below.drew (Below.refl _ _)).trans hb20))
  obtain ⟨k0, k1⟩ := HK.out _ hb2
  have HB2 := hide hb2
  clear hb2 hb20 HG c0 q1
  have hfd := field_rc
  go_wp2_with fail
  go_region_held3 (fun w' => w'.cell? ⟨B0, 1, none⟩ = some (.int .i64 nn))
    (first | with_reducible exact (HK.out _ hb3).2 | with_reducible exact (HK.out _ (Below.drew HB2.out)).2 | go_keep)
    (first | (go_at_call 39; refine (HNOW.out _ (Below.drew HB2.out)).mono ?_; rintro e w3 ⟨sc, sp, rfl, hcr, hpr, hb30⟩; obtain ⟨so, sk, rfl⟩ := crow_slice hcr; obtain ⟨po, pk, rfl, -⟩ := hpr.shape; have hb3 : Below w1.heap.size w1 w3 := (Below.drew HB2.out).trans (hb30.mono HB2.out.size)) | (go_at_call 45; refine (HCE.out _ _ hcr).mono ?_; rintro e w4 ⟨rfl, rfl⟩))
  have g1 := (HK.out _ hb3).2
  have HFIN := hide (step_same HSI.out (HB1.out.trans (hb3.mono HB1.out.size)))
  clear hb3 hb30 hcr hpr k0 k1 HNOW HCE HK HSI
  have HNUM := hide (num_any 5)
  rcases hor with ⟨h0, h1, rfl, rfl, rfl⟩ | ⟨hx, rfl, rfl, rfl⟩
  · have t1 : decide (nn < 0) = false := by simp; omega
    have t2 : decide (99 < nn) = false := by simp; omega
    go_wp2_with fail
    go_ret
    exact HFIN.out
  · by_cases hlt : nn < 0
    · have t1 : decide (nn < 0) = true := by simp; omega
      go_wp2_with fail
      refine (HNUM.out _).mono ?_
      rintro e w4 ⟨rfl, rfl⟩
      go_wp2_with fail
      go_ret
      exact HFIN.out
    · have t1 : decide (nn < 0) = false := by simp; omega
      have t2 : decide (99 < nn) = true := by simp; omega
      go_wp2_with fail
      refine (HNUM.out _).mono ?_
      rintro e w4 ⟨rfl, rfl⟩
      go_wp2_with fail
      go_ret
      exact HFIN.out
end Go.Proofs.YthehkgglblohfaaGreatDoor
