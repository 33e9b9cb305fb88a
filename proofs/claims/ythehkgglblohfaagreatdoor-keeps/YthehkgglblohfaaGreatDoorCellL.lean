/-
  The walk of World.cells: Cells.
-/
import Derived.Test.YthehkgglblohfaaGreatDoorCellG
namespace Go.Proofs.YthehkgglblohfaaGreatDoor
open Go.RowKit

/-- a row's own block lies where the row lies. -/
theorem own_lies {w : World} {b : Nat} {e : TypeId} {s : Nat} {v : Value} {n : Nat} {xs : List Value} (h : w.ownsRow b e s v n xs) : ∀ k, v.ownBlock = some k → b ≤ k := by
  intro k hk
  rcases h.2 with ⟨rfl, _⟩ | ⟨g, cap, cur, rfl, hb, _⟩
  · simp [Value.ownBlock] at hk
  · simp [Value.ownBlock] at hk
    omega

set_option maxHeartbeats 8000000 in
set_option maxRecDepth 100000 in
theorem cells_cells (L W D m : Nat) (w : World) (C : Jn.Con) (o : OpD) (ho : o.kind = 6) (h : SInv L W D w C m) (hm : m ≤ 1300000000000) :
    Calls Tryz.prog 15 #[.pointer (some ⟨W, 0, none⟩), .agg o.cells, .bool false] w (StepPost L W D m w) := by
  obtain ⟨S, B, f, past, d, nc, nq, na, hlaw, hst, hlast, hpm, hnc, hnq, hna, hdk, hds, hpl⟩ := h
  obtain ⟨kk, nn, mm, s, t, lo, ln, lc, cut, wo, wn, wc⟩ := o
  simp only at ho
  subst ho
  simp only [OpD.cells]
  obtain ⟨w1, hw1⟩ : ∃ w1, w1 = w.alloc (.cells #[.int .i64 6, .int .i64 nn, .int .i64 mm, .string s, .string t, .slice lo ln lc, .int .i64 cut, .slice wo wn wc] 30) := ⟨_, rfl⟩
  have hB1 : Below w.heap.size w w1 := by rw [hw1]; exact (Below.refl _ _).alloc (Nat.le_refl _) _
  have hlaw1 := hlaw.below hB1
  have hst1 := hst.below hB1
  obtain ⟨vp, vc, vq, va, lcs, lqs, lxs, hWA, hpast, hh1, e1, hh2, e2, hh3, e3⟩ := hlaw1.rest
  have HNOW := hide (fun w' (hb : Below w1.heap.size w1 w') => now_any L W w' _ _ vp vc vq va past C (hWA.fr (Fr.of (L := 0) (T := []) (X := none) hb (Nat.zero_le _)) (by simp) (by simp)) (hpast.fr (Fr.of (T := []) hb (Nat.le_trans hlaw1.low (Nat.le_refl _))) (by simp) (by simp) (by simp)) hlast (by omega))
  obtain ⟨c0, -, -, -, -, -⟩ := hWA.cell
  have hok : Jn.Ok C := hst.con.ok
  have HCS := hide (cellsS_any L S B C f w1 hst1)
  have HSM : Hid (∀ (va' vb : Value) (x : World), CRow x w1.heap.size va' C.list → CRow x 0 vb C.list → Calls Tryz.prog 23 #[va', vb] x (fun e w' => e = .returned (.bool true) ∧ Below x.heap.size x w')) := fun va' vb x ha hb => by
    have := sameCells_any w1.heap.size 0 va' vb C.list C.list x ha hb (list_bound hok)
    rw [decide_eq_true (rfl : C.list = C.list)] at this
    exact this
  have hLw := hlaw1.low
  have hz1 := hB1.size
  have HKC : Hid (∀ (x : World) (v : Value), Below w1.heap.size w1 x → CRow x w1.heap.size v C.list → Calls Tryz.prog 25 #[.pointer (some ⟨W, 3, none⟩), v] x (fun e w9 => e = .returned (.tuple #[]) ∧ StepPost L W D m w (.returned (.bool true)) w9)) := by
    intro x v hb hr
    have f1 : Fr L [41, 47] none w1 x := Fr.of hb hLw
    have hlawx := hlaw1.below hb
    refine (keepCells_any L w1.heap.size W x _ _ vp vc vq va lcs v _ _ (hWA.fr (Fr.of (L := 0) (T := []) (X := none) hb (Nat.zero_le _)) (by simp) (by simp)) hlaw.lw
      ((hh1.fr (X := none) (Fr.of (T := []) hb hLw) (by simp) (by simp) (by simp) (.inl rfl)).mono hz1) hr (list_bound hok) hLw hb.size (by omega)).mono ?_
    rintro e w9 ⟨v', ls', rfl, hW9, hh9, hl9, hf9⟩
    have hf : Fr L [41, 47] none w1 w9 := f1.fresh hf9 (own_lies hr)
    have hz9 := hf.size
    refine ⟨rfl, rfl, ⟨C, S, B, f, past, d, nc + 3, nq, na, ⟨hlaw.lw, hlaw.ld, hlaw1.disk.fr hf (by decide) (by simp), vp, v', vq, va, ls', lqs, lxs, hW9, hpast.fr hf (by decide) (by decide) (by decide), hh9, by omega,
      (hh2.fr hf (by decide) (by decide) (by simp) (.inl rfl)).mono (by omega), e2, (hh3.fr hf (by decide) (by decide) (by simp) (.inl rfl)).mono (by omega), e3⟩, ?_, hlast, by omega, by omega, by omega, by omega, hdk, by omega, hpl⟩, ?_⟩
    · exact hst1.fr hf (by decide) (by decide) (by decide) (by simp)
    · exact (hB1.mono hlaw.low).trans hf.below
  clear hB1 hlaw hst hlaw1 hst1 hWA hpast hh1 hh2 hh3 hok
  go_enter Tryz.func15, Tryz.ntmps15
  go_upto_region 16 with fail
  rw [← hw1]
  have HW1 := hide hw1
  clear hw1
  go_wp2_with fail
  refine HCS.out.mono ?_
  rintro e w2 ⟨v, rfl, hcv, hb2⟩
  have g0 := at_old hb2 c0
  have HCV := hide hcv
  have HB2 := hide hb2
  clear hcv hb2 c0 HCS
  have hfd := field_rc
  go_wp2_with fail
  refine (HNOW.out _ HB2.out).mono ?_
  rintro e w3 ⟨sc, sp, rfl, hcr, hpr, hb3⟩
  obtain ⟨so, sk, rfl⟩ := crow_slice hcr
  obtain ⟨po, pk, rfl, -⟩ := hpr.shape
  have HSX := hide (HSM.out v _ w3 (HCV.out.below hb3) hcr)
  have HB3 := hide (HB2.out.trans (hb3.mono HB2.out.size))
  have HCV3 := hide (HCV.out.below hb3)
  clear hcr hpr hb3 HNOW HSM HCV HB2
  go_wp2_with fail
  refine HSX.out.mono ?_
  rintro e w4 ⟨rfl, hb4⟩
  have HB4 := hide (HB3.out.trans (hb4.mono HB3.out.size))
  have HK := hide (HKC.out w4 v (HB3.out.trans (hb4.mono HB3.out.size)) (HCV3.out.below hb4))
  clear hb4 HSX HKC HCV3 HB3
  go_wp2_with fail
  refine HK.out.mono ?_
  rintro e w9 ⟨rfl, hfin⟩
  have HFIN := hide hfin
  clear hfin HK
  go_wp2_with fail
  go_ret
  exact HFIN.out
end Go.Proofs.YthehkgglblohfaaGreatDoor
