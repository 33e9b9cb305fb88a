/-
  The walk of World.lasts: Sync, Open.
-/
import Derived.Test.YthehkgglblohfaaGreatDoorCellL
import Derived.Test.YthehkgglblohfaaGreatDoorSettle
namespace Go.Proofs.YthehkgglblohfaaGreatDoor
open Go.RowKit

theorem sync_any (S : Nat) (w : World) : Calls Tryz.prog 55 #[.pointer (some ⟨S, 0, none⟩)] w fun e w' => e = .returned (.slice none 0 0) ∧ w' = w := by
  go_enter Tryz.func55, Tryz.ntmps55
  go_wp2
  go_ret
  exact ⟨rfl, rfl⟩

set_option maxHeartbeats 8000000 in
set_option maxRecDepth 100000 in
theorem lasts_sync (L W D m : Nat) (w : World) (C : Jn.Con) (o : OpD) (ho : o.kind = 11) (h : SInv L W D w C m) (hm : m ≤ 1300000000000) :
    Calls Tryz.prog 18 #[.pointer (some ⟨W, 0, none⟩), .agg o.cells, .bool false] w (StepPost L W D m w) := by
  obtain ⟨S, B, f, past, d, nc, nq, na, hlaw, hst, hlast, hpm, hnc, hnq, hna, hdk, hds, hpl⟩ := h
  have hok : Jn.Ok C := hst.con.ok
  obtain ⟨w1, hw1⟩ : ∃ w1, w1 = w.alloc (.cells o.cells 30) := ⟨_, rfl⟩
  obtain ⟨B0, hB0⟩ : ∃ B0, B0 = w.heap.size := ⟨_, rfl⟩
  have hB1 : Below w.heap.size w w1 := by rw [hw1]; exact (Below.refl _ _).alloc (Nat.le_refl _) _
  have hbo : w1.heap[B0]? = some (.cells o.cells 30 (0, 0)) := by rw [hw1, hB0]; exact heap_alloc_new w _
  have hlaw1 := (hlaw.below hB1).mono hB1.size hB1.size
  have hst1 := hst.below hB1
  have hLw := hlaw1.low
  have HACT := hide (acted_any L W D w1.heap.size w1.heap.size w1 (.pointer (some ⟨S, 0, none⟩)) past d d nc nq na (.slice none 0 0) [] 64 false o hlaw1 hLw (Nat.le_refl _) (Nat.le_refl _) (World.ownsRow_nil _ _ _ _) (by simp) (by simp [lens]) (by simp [lens]) (.inr (by simp)) rfl (by omega))
  have HRS : Hid (∀ x : World, LawAt L W D x.heap.size x.heap.size x (.pointer (some ⟨S, 0, none⟩)) past d nc nq (na + 3) → Fr L [46, 41, 51, 64] none w1 x →
      Calls Tryz.prog 57 #[.pointer (some ⟨W, 0, none⟩)] x (fun e w9 => e = .returned (.tuple #[]) ∧ StepPost L W D m w (.returned (.bool true)) w9)) := by
    intro x hx hf
    refine (rests_any L W D _ _ x _ past d nc nq (na + 3) C hx hlast hok (by omega)).mono ?_
    rintro e w9 ⟨rfl, hl9, hf9⟩
    refine ⟨rfl, rfl, ⟨C, S, B, f, [C], d, nc, nq, na + 3, hl9.mono hf9.size hf9.size, (hst1.fr hf (by decide) (by decide) (by decide) (by simp)).fr hf9 (by decide) (by decide) (by decide) (by simp), by simp, by simp, by omega, by omega, by omega, hdk, by omega, hpl⟩, ?_⟩
    exact ((hB1.mono hlaw.low).trans hf.below).trans hf9.below
  obtain ⟨vp, vc, vq, va, lcs, lqs, lxs, hWA, -, -, -, -, -, -, -⟩ := hlaw1.rest
  obtain ⟨c0, -, -, -, -, -⟩ := hWA.cell
  obtain ⟨kk, nn, mm, s, t, lo, ln, lc, cut, wo, wn, wc⟩ := o
  simp only at ho
  subst ho
  simp only [OpD.cells] at hbo hw1 HACT ⊢
  have p0 := (cell_of_row w1 B0 0 _ _ _ hbo).trans rfl
  have p1 := (cell_of_row w1 B0 1 _ _ _ hbo).trans rfl
  have p2 := (cell_of_row w1 B0 2 _ _ _ hbo).trans rfl
  have p3 := (cell_of_row w1 B0 3 _ _ _ hbo).trans rfl
  have p4 := (cell_of_row w1 B0 4 _ _ _ hbo).trans rfl
  have p5 := (cell_of_row w1 B0 5 _ _ _ hbo).trans rfl
  have p6 := (cell_of_row w1 B0 6 _ _ _ hbo).trans rfl
  have p7 := (cell_of_row w1 B0 7 _ _ _ hbo).trans rfl
  have HSY := hide (sync_any S)
  clear hB1 hlaw hst hlaw1 hst1 hWA hbo
  go_enter Tryz.func18, Tryz.ntmps18
  go_upto_region 3 with fail
  rw [← hw1, ← hB0]
  have HW1 := hide hw1
  have HB0 := hide hB0
  clear hw1 hB0
  go_wp2_with fail
  refine (HSY.out _).mono ?_
  rintro e w2 ⟨rfl, rfl⟩
  go_wp2_with fail
  refine HACT.out.mono ?_
  rintro e w3 ⟨rfl, hl3, hf3⟩
  have HR := hide (HRS.out w3 hl3 hf3)
  clear hl3 hf3 HRS HACT
  go_wp2_with fail
  refine HR.out.mono ?_
  rintro e w9 ⟨rfl, hfin⟩
  have HFIN := hide hfin
  clear hfin HR
  go_wp2_with fail
  go_ret
  exact HFIN.out

set_option maxHeartbeats 8000000 in
set_option maxRecDepth 100000 in
theorem lasts_open (L W D m : Nat) (w : World) (C : Jn.Con) (o : OpD) (ho : o.kind = 13) (h : SInv L W D w C m) (hm : m ≤ 1300000000000) (hP : PowAt w) (hWd : WordsAt w) :
    Calls Tryz.prog 18 #[.pointer (some ⟨W, 0, none⟩), .agg o.cells, .bool false] w (StepPost L W D m w) := by
  obtain ⟨S, B, f, past, d, nc, nq, na, hlaw, hst, hlast, hpm, hnc, hnq, hna, hdk, hds, hpl⟩ := h
  have hok : Jn.Ok C := hst.con.ok
  have hf01 := hst.file
  obtain ⟨k, hk⟩ : ∃ k, past.length = k + 1 := ⟨past.length - 1, by cases past <;> simp at hlast ⊢⟩
  rw [hk, Nat.add_sub_cancel] at hlast
  obtain ⟨w1, hw1⟩ : ∃ w1, w1 = w.alloc (.cells o.cells 30) := ⟨_, rfl⟩
  have hB1 : Below w.heap.size w w1 := by rw [hw1]; exact (Below.refl _ _).alloc (Nat.le_refl _) _
  have hlaw1 := (hlaw.below hB1).mono hB1.size hB1.size
  have hLw := hlaw1.low
  have HOP := hide (opened_last L W D _ _ w1 _ past d nc nq na k C f hlaw1 (Nat.le_refl _) (Nat.le_refl _) hk hlast (hWd.below hWd.1 hB1) (hP.below hP.1 hB1) (by omega) (by omega) hdk.two (by omega) (by omega) (by omega))
  obtain ⟨d', hpd, hdk', hsz⟩ := DiskOk.move (d := d) hf01 hok hpl (Nat.le_trans (all_room hok).1 (Nat.le_trans (all_room hok).2 (by omega)))
  have hrm := (all_room hok).2
  have hra := (all_room hok).1
  have HST : Hid (∀ (x : World) (S' B' : Nat) (v : Value), LawAt L W D x.heap.size w1.heap.size x (.pointer (some ⟨S', 0, none⟩)) past d (nc + 3) (nq + 3) na → StAt L x S' B' C (1 - f) → ARow x w1.heap.size v (moveActs C f) → Below L w1 x →
      Calls Tryz.prog 12 #[.pointer (some ⟨W, 0, none⟩), v, .int .i64 k] x (fun e w9 => e = .returned (.bool true) ∧ StepPost L W D m w (.returned (.bool true)) w9)) := by
    intro x S' B' v hl hs' hr hb
    refine (settles_any L W D x.heap.size w1.heap.size k x _ past d d' (nc + 3) (nq + 3) na C v _ hl hLw (Nat.le_refl _) hb.size hr (by simp [moveActs]) hpd hlast hok (by omega) (by omega) (by omega)).mono ?_
    rintro e w9 ⟨rfl, hl9, hf9⟩
    refine ⟨rfl, rfl, ⟨C, S', B', 1 - f, [C], d', nc + 3, nq + 3, na + 3, hl9, hs'.fr hf9 (by decide) (by decide) (by decide) (by simp), by simp, by simp, by omega, by omega, by omega, hdk', by omega, hpl⟩, ?_⟩
    exact ((hB1.mono hlaw.low).trans hb).trans hf9.below
  obtain ⟨vp, vc, vq, va, lcs, lqs, lxs, hWA, hpast, -, -, -, -, -, -⟩ := hlaw1.rest
  obtain ⟨-, -, c2, -, -, -⟩ := hWA.cell
  obtain ⟨ss, hrow, -, -⟩ := hpast
  obtain ⟨vo, vk, hvp, -, -⟩ := own_slice hrow
  rw [hvp, hk] at c2
  have hkb : k + 1 ≤ 9000000000000 := by omega
  obtain ⟨kk, nn, mm, s, t, lo, ln, lc, cut, wo, wn, wc⟩ := o
  simp only at ho
  subst ho
  simp only [OpD.cells] at hw1 ⊢
  clear hB1 hlaw hst hlaw1 hWA hrow hdk hdk' hsz hpd hlast hok hpl hrm hra
  go_enter Tryz.func18, Tryz.ntmps18
  go_upto_region 17 with fail
  rw [← hw1]
  have HW1 := hide hw1
  clear hw1
  go_wp2_with fail
  refine HOP.out.mono ?_
  rintro e w2 ⟨S', B', v, rfl, hl2, hs2, hr2, hb2⟩
  have HR := hide (HST.out w2 S' B' v hl2 hs2 hr2 hb2)
  clear hl2 hs2 hr2 hb2 HST HOP
  go_wp2_with fail
  refine HR.out.mono ?_
  rintro e w9 ⟨rfl, hfin⟩
  have HFIN := hide hfin
  clear hfin HR
  go_wp2_with fail
  go_ret
  exact HFIN.out
end Go.Proofs.YthehkgglblohfaaGreatDoor
