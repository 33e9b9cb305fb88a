import Derived.Test.YtellilpeakpbfabGreatDoorStCToo
import Derived.Test.YtellilpeakpbfabGreatDoorRnToo
import Derived.Test.YtellilpeakpbfabGreatDoorOpenToo
import Derived.Test.YtellilpeakpbfabGreatDoorProcDToo
section
/-
  The walk of World.lasts where crashes may come: Sync, Open, a crash.
-/
set_option linter.unusedVariables false
namespace Go.Proofs.YtellilpeakpbfabGreatDoor
open Go.RowKit

set_option maxHeartbeats 8000000 in
set_option maxRecDepth 100000 in
theorem lasts_crashC (L W D m : Nat) (w : World) (C : Jn.Con) (o : OpD) (ho : o.kind = 14) (h : SInvC L W D w C m) (hm : m ≤ 1200000000000) (hP : PowAt w) (hWd : WordsAt w) (hpL : 1 < L) (lW : List Int) (hcb : B64' o.cut) (hrw : ∀ x, Below L w x → Raws x (.slice o.wo o.wn o.wc) lW) :
    Calls Tryz.prog 79 #[.pointer (some ⟨W, 0, none⟩), .agg o.cells, .bool true] w (StepPostC L W D m w) := by
  obtain ⟨S, B, f, past, d, nc, nq, na, hlaw, hst, hlast, hpm, hnc, hnq, hna, hdk, hds, hpl, hsf⟩ := h
  have hok : Jn.Ok C := hst.con.ok
  have hCm : C ∈ past := List.mem_of_getElem? hlast
  obtain ⟨w1, hw1⟩ : ∃ w1, w1 = w.alloc (.cells o.cells 106) := ⟨_, rfl⟩
  obtain ⟨B0, hB0⟩ : ∃ B0, B0 = w.heap.size := ⟨_, rfl⟩
  have hB1 : Below w.heap.size w w1 := by rw [hw1]; exact (Below.refl _ _).alloc (Nat.le_refl _) _
  have hbo : w1.heap[B0]? = some (.cells o.cells 106 (0, 0)) := by rw [hw1, hB0]; exact heap_alloc_new w _
  have hlaw1 := (hlaw.below hB1).mono hB1.size hB1.size
  have hst1 := hst.below hB1
  have hLw := hlaw1.low
  have hL0 := hlaw.low
  have hb1 : Below L w w1 := hB1.mono hL0
  have hP1 := hP.below hpL hb1
  have hwl : 0 < L := Nat.lt_of_le_of_lt (by decide) hpL
  have hW1 := hWd.below hwl hb1
  have hlw : LwC (30000 + 4000 * m) L W D past d nc nq na w w1 := ⟨⟨_, hlaw1⟩, hsf, hds, Fr.of hB1 hL0, hP1, hW1, hpL⟩
  have HCS := hide (crashes_any _ L W D past d nc nq na w w1 _ lW hlw (hrw w (Below.refl _ _)) hL0 hrw (by omega) (by omega) (by omega) (by omega) (by omega))
  obtain ⟨kk, nn, mm, s, t, lo, ln, lc, cut, wo, wn, wc⟩ := o
  simp only at ho
  subst ho
  simp only [OpD.cells] at hbo hw1 HCS ⊢
  have p0 := (cell_of_row w1 B0 0 _ _ _ hbo).trans rfl
  have p1 := (cell_of_row w1 B0 1 _ _ _ hbo).trans rfl
  have p2 := (cell_of_row w1 B0 2 _ _ _ hbo).trans rfl
  have p3 := (cell_of_row w1 B0 3 _ _ _ hbo).trans rfl
  have p4 := (cell_of_row w1 B0 4 _ _ _ hbo).trans rfl
  have p5 := (cell_of_row w1 B0 5 _ _ _ hbo).trans rfl
  have p6 := (cell_of_row w1 B0 6 _ _ _ hbo).trans rfl
  have p7 := (cell_of_row w1 B0 7 _ _ _ hbo).trans rfl
  clear hB1 hlaw hst hlaw1 hst1 hbo hlw hrw
  go_enter Tryz.func79, Tryz.ntmps79
  go_upto_region 19 with fail
  rw [← hw1, ← hB0]
  have HW1 := hide hw1
  have HB0 := hide hB0
  clear hw1 hB0
  go_wp2_with fail
  refine HCS.out.mono ?_
  rintro e w9 ⟨rfl, h9⟩
  have HFIN : Hid (StepPostC L W D m w (.returned (.bool true)) w9) := by
    obtain ⟨hi, hb⟩ := h9.inv (m := m + 4) (by omega) (by omega) (by omega) (by omega)
    exact ⟨rfl, hi, hb.below⟩
  clear h9 HCS
  go_wp2_with fail
  go_ret
  exact HFIN.out

set_option maxHeartbeats 8000000 in
set_option maxRecDepth 100000 in
theorem lasts_syncC (L W D m : Nat) (w : World) (C : Jn.Con) (o : OpD) (ho : o.kind = 11) (h : SInvC L W D w C m) (hm : m ≤ 1200000000000) (hP : PowAt w) (hWd : WordsAt w) (hpL : 1 < L) (lW : List Int) (hcb : B64' o.cut) (hrw : ∀ x, Below L w x → Raws x (.slice o.wo o.wn o.wc) lW) :
    Calls Tryz.prog 79 #[.pointer (some ⟨W, 0, none⟩), .agg o.cells, .bool true] w (StepPostC L W D m w) := by
  obtain ⟨S, B, f, past, d, nc, nq, na, hlaw, hst, hlast, hpm, hnc, hnq, hna, hdk, hds, hpl, hsf⟩ := h
  have hok : Jn.Ok C := hst.con.ok
  have hCm : C ∈ past := List.mem_of_getElem? hlast
  obtain ⟨w1, hw1⟩ : ∃ w1, w1 = w.alloc (.cells o.cells 106) := ⟨_, rfl⟩
  obtain ⟨B0, hB0⟩ : ∃ B0, B0 = w.heap.size := ⟨_, rfl⟩
  have hB1 : Below w.heap.size w w1 := by rw [hw1]; exact (Below.refl _ _).alloc (Nat.le_refl _) _
  have hbo : w1.heap[B0]? = some (.cells o.cells 106 (0, 0)) := by rw [hw1, hB0]; exact heap_alloc_new w _
  have hlaw1 := (hlaw.below hB1).mono hB1.size hB1.size
  have hst1 := hst.below hB1
  have hLw := hlaw1.low
  have hL0 := hlaw.low
  have hb1 : Below L w w1 := hB1.mono hL0
  have hP1 := hP.below hpL hb1
  have hwl : 0 < L := Nat.lt_of_le_of_lt (by decide) hpL
  have hW1 := hWd.below hwl hb1
  obtain ⟨d', hpd, hdk', hfi, e1, e2⟩ := hsf.sync hdk
  have hsf' : Safe d' (· = C) := hfi.safe hdk'.two
  have hpre : ∀ n, ∃ d2, playL d ([((2 : Int), f, ([] : List UInt8))].take n) = some d2 ∧ Safe d2 (· ∈ past) := by
    intro n
    cases n with
    | zero => exact ⟨d, rfl, hsf⟩
    | succ n => exact ⟨d', by simpa using hpd, hsf'.mono (fun X e => e ▸ hCm)⟩
  have HACT0 := hide (fun (hc : o.cut = 0) (w2 : World) (v : Value) (hb2 : Below w1.heap.size w1 w2) hr => acted_zero L W D w1.heap.size w1.heap.size w2 (.pointer (some ⟨S, 0, none⟩)) past d d' nc nq na v [(2, f, [])] 64 false o (hlaw1.below hb2) hLw hb2.size hb2.size hr (by simp) (by simp [lens]) (by simp [lens]) (.inr (by simp)) hpd (by omega) hc)
  have HACT1 := hide (fun (hc : o.cut ≠ 0) (w2 : World) (v : Value) (hb2 : Below w1.heap.size w1 w2) hr => acted_crash L W D w1.heap.size w1.heap.size w2 (.pointer (some ⟨S, 0, none⟩)) past d nc nq na v [(2, f, [])] 64 false o (hlaw1.below hb2) hLw hb2.size hb2.size hr (by simp) (by simp [lens]) (by simp [lens]) (.inr (by simp)) lW (40000 + 4000 * m) hpre (by simp [lens]; omega) (by omega) (by omega) (by omega) (by omega) (by omega) hc hcb (hP1.below hP1.1 hb2) (hW1.below hW1.1 hb2) hpL (fun y hy => hrw y ((hb1.trans (hb2.mono hLw)).trans hy)))
  have HSY := hide (sync_any L S B C f w1 hst1)
  have HRS : Hid (∀ x : World, LawAt L W D x.heap.size x.heap.size x (.pointer (some ⟨S, 0, none⟩)) past d' nc nq (na + 3) → Fr L [67, 115, 27, 84] none w1 x →
      Calls Tryz.prog 124 #[.pointer (some ⟨W, 0, none⟩)] x (fun e w9 => e = .returned (.tuple #[]) ∧ StepPostC L W D m w (.returned (.bool true)) w9)) := by
    intro x hx hf
    refine (rests_any L W D _ _ x _ past d' nc nq (na + 3) C hx hlast hok (by omega)).mono ?_
    rintro e w9 ⟨rfl, hl9, hf9⟩
    refine ⟨rfl, rfl, ⟨C, S, B, f, [C], d', nc, nq, na + 3, hl9.mono hf9.size hf9.size, (hst1.fr hf (by decide) (by decide) (by decide) (by simp)).fr hf9 (by decide) (by decide) (by decide) (by simp), by simp, by simp, by omega, by omega, by omega, hdk', by rw [e1, e2]; omega, hpl, hsf'.mono (fun X e => by simp [e])⟩, ?_⟩
    exact (hb1.trans hf.below).trans hf9.below
  obtain ⟨vp, vc, vq, va, lcs, lqs, lxs, hWA, -, -, -, -, -, -, -⟩ := hlaw1.rest
  obtain ⟨c0, -, -, -, -, -⟩ := hWA.cell
  obtain ⟨kk, nn, mm, s, t, lo, ln, lc, cut, wo, wn, wc⟩ := o
  simp only at ho
  subst ho
  simp only [OpD.cells] at hbo hw1 HACT0 HACT1 ⊢
  have p0 := (cell_of_row w1 B0 0 _ _ _ hbo).trans rfl
  have p1 := (cell_of_row w1 B0 1 _ _ _ hbo).trans rfl
  have p2 := (cell_of_row w1 B0 2 _ _ _ hbo).trans rfl
  have p3 := (cell_of_row w1 B0 3 _ _ _ hbo).trans rfl
  have p4 := (cell_of_row w1 B0 4 _ _ _ hbo).trans rfl
  have p5 := (cell_of_row w1 B0 5 _ _ _ hbo).trans rfl
  have p6 := (cell_of_row w1 B0 6 _ _ _ hbo).trans rfl
  have p7 := (cell_of_row w1 B0 7 _ _ _ hbo).trans rfl
  clear hB1 hlaw hst hlaw1 hst1 hWA hdk' hpd e1 e2 hpre hsf hsf' hfi hrw
  have HBO := hide hbo
  clear hbo
  go_enter Tryz.func79, Tryz.ntmps79
  go_upto_region 3 with fail
  rw [← hw1, ← hB0]
  have HW1 := hide hw1
  have HB0 := hide hB0
  clear hw1 hB0
  go_wp2_with fail
  refine HSY.out.mono ?_
  rintro e w2 ⟨v, rfl, hr, hb2⟩
  have hbo := (hb2.block B0 (Array.getElem?_eq_some_iff.1 HBO.out).1).trans HBO.out
  have p0 := (cell_of_row w2 B0 0 _ _ _ hbo).trans rfl
  have p1 := (cell_of_row w2 B0 1 _ _ _ hbo).trans rfl
  have p2 := (cell_of_row w2 B0 2 _ _ _ hbo).trans rfl
  have p3 := (cell_of_row w2 B0 3 _ _ _ hbo).trans rfl
  have p4 := (cell_of_row w2 B0 4 _ _ _ hbo).trans rfl
  have p5 := (cell_of_row w2 B0 5 _ _ _ hbo).trans rfl
  have p6 := (cell_of_row w2 B0 6 _ _ _ hbo).trans rfl
  have p7 := (cell_of_row w2 B0 7 _ _ _ hbo).trans rfl
  have HBO2 := hide hbo
  have HB2 := hide hb2
  by_cases hcut : cut = 0
  · have HA := hide (HACT0.out hcut w2 v hb2 hr)
    obtain ⟨vo, vn, vk, rfl⟩ : ∃ vo vn vk, v = .slice vo vn vk := by obtain ⟨x, y, e, -⟩ := hr.shape; exact ⟨x, _, y, e⟩
    subst hcut
    clear hbo hb2 hr HACT0 HACT1 HSY
    go_wp2_with fail
    refine HA.out.mono ?_
    rintro e w3 ⟨rfl, hl3, hf3⟩
    have hb3 := hf3.block B0 _ _ _ HBO2.out (by decide) (by simp)
    have q6 := (cell_of_row w3 B0 6 _ _ _ hb3).trans rfl
    have HR := hide (HRS.out w3 hl3 ((Fr.of HB2.out hLw).trans hf3))
    clear hl3 hf3 HRS HA hb3
    go_wp2_with fail
    refine HR.out.mono ?_
    rintro e w9 ⟨rfl, hfin⟩
    have HFIN := hide hfin
    clear hfin HR
    go_wp2_with fail
    go_ret
    exact HFIN.out
  · have HA := hide (HACT1.out hcut w2 v hb2 hr)
    obtain ⟨vo, vn, vk, rfl⟩ : ∃ vo vn vk, v = .slice vo vn vk := by obtain ⟨x, y, e, -⟩ := hr.shape; exact ⟨x, _, y, e⟩
    have tc : (cut == 0) = false := by simpa using hcut
    have HBB : Hid (Below L w w2) := hb1.trans (hb2.mono hLw)
    clear hbo hb2 hr HACT0 HACT1 HSY hcut
    go_wp2_with fail
    refine HA.out.mono ?_
    rintro e w3 ⟨rfl, h3⟩
    obtain ⟨hi, hf3⟩ := h3.inv (m := m + 4) (by omega) (by omega) (by omega) (by omega)
    have hb3 := hf3.block B0 _ _ _ HBO2.out (by decide) (by simp)
    have q6 := (cell_of_row w3 B0 6 _ _ _ hb3).trans rfl
    have HFIN : Hid (StepPostC L W D m w (.returned (.bool true)) w3) := ⟨rfl, hi, HBB.out.trans hf3.below⟩
    clear h3 hi hf3 hb3 HA HRS
    go_wp2_with fail
    go_ret
    exact HFIN.out

set_option maxHeartbeats 8000000 in
set_option maxRecDepth 100000 in
theorem lasts_openC (L W D m : Nat) (w : World) (C : Jn.Con) (o : OpD) (ho : o.kind = 13) (h : SInvC L W D w C m) (hm : m ≤ 1300000000000) (hP : PowAt w) (hWd : WordsAt w) :
    Calls Tryz.prog 79 #[.pointer (some ⟨W, 0, none⟩), .agg o.cells, .bool true] w (StepPostC L W D m w) := by
  obtain ⟨S, B, f, past, d, nc, nq, na, hlaw, hst, hlast, hpm, hnc, hnq, hna, hdk, hds, hpl, hsf⟩ := h
  have hok : Jn.Ok C := hst.con.ok
  have hf01 := hst.file
  obtain ⟨k, hk⟩ : ∃ k, past.length = k + 1 := ⟨past.length - 1, by cases past <;> simp at hlast ⊢⟩
  rw [hk, Nat.add_sub_cancel] at hlast
  obtain ⟨w1, hw1⟩ : ∃ w1, w1 = w.alloc (.cells o.cells 106) := ⟨_, rfl⟩
  have hB1 : Below w.heap.size w w1 := by rw [hw1]; exact (Below.refl _ _).alloc (Nat.le_refl _) _
  have hlaw1 := (hlaw.below hB1).mono hB1.size hB1.size
  have hLw := hlaw1.low
  have HOP := hide (opened_last L W D _ _ w1 _ past d nc nq na k C f hlaw1 (Nat.le_refl _) (Nat.le_refl _) hk hlast (hWd.below hWd.1 hB1) (hP.below hP.1 hB1) (by omega) (by omega) hdk.two (by omega) (by omega) (by omega))
  obtain ⟨d', hpd, hdk', hsz⟩ := DiskOk.move (d := d) hf01 hok hpl (Nat.le_trans (all_room hok).1 (Nat.le_trans (all_room hok).2 (by omega)))
  obtain ⟨d2, hp2, hsf2⟩ := hsf.moved hdk hok hpl (Nat.le_trans (all_room hok).1 (Nat.le_trans (all_room hok).2 (by omega)))
  rw [hpd] at hp2
  cases hp2
  have hrm := (all_room hok).2
  have hra := (all_room hok).1
  have HST : Hid (∀ (x : World) (S' B' : Nat) (v : Value), LawAt L W D x.heap.size w1.heap.size x (.pointer (some ⟨S', 0, none⟩)) past d (nc + 3) (nq + 3) na → StAt L x S' B' C (1 - f) → ARow x w1.heap.size v (moveActs C f) → Below L w1 x →
      Calls Tryz.prog 73 #[.pointer (some ⟨W, 0, none⟩), v, .int .i64 k] x (fun e w9 => e = .returned (.bool true) ∧ StepPostC L W D m w (.returned (.bool true)) w9)) := by
    intro x S' B' v hl hs' hr hb
    refine (settles_any L W D x.heap.size w1.heap.size k x _ past d d' (nc + 3) (nq + 3) na C v _ hl hLw (Nat.le_refl _) hb.size hr (by simp [moveActs]) hpd hlast hok (by omega) (by omega) (by omega)).mono ?_
    rintro e w9 ⟨rfl, hl9, hf9⟩
    refine ⟨rfl, rfl, ⟨C, S', B', 1 - f, [C], d', nc + 3, nq + 3, na + 3, hl9, hs'.fr hf9 (by decide) (by decide) (by decide) (by simp), by simp, by simp, by omega, by omega, by omega, hdk', by omega, hpl, hsf2.mono (fun X e => by simp [e])⟩, ?_⟩
    exact ((hB1.mono hlaw.low).trans hb).trans hf9.below
  obtain ⟨vp, vc, vq, va, lcs, lqs, lxs, hWA, hpast, -, -, -, -, -, -⟩ := hlaw1.rest
  obtain ⟨-, -, c2, -, -, -⟩ := hWA.cell
  obtain ⟨ss, hrow, -, -⟩ := hpast
  obtain ⟨vo, vk, hvp, -, -⟩ := own_slice hrow
  rw [hvp, hk] at c2
  have hkb : k + 1 ≤ 9000000000000 := by omega
  obtain ⟨kk, nn, mm, s, t, lo, ln, lc, cut, wo, wn, wc⟩ := o
  simp only at ho
  subst ho
  simp only [OpD.cells] at hw1 ⊢
  clear hsf hsf2 hB1 hlaw hst hlaw1 hWA hrow hdk hdk' hsz hpd hlast hok hpl hrm hra
  go_enter Tryz.func79, Tryz.ntmps79
  go_upto_region 17 with fail
  rw [← hw1]
  have HW1 := hide hw1
  clear hw1
  go_wp2_with fail
  refine HOP.out.mono ?_
  rintro e w2 ⟨S', B', v, rfl, hl2, hs2, hr2, hb2⟩
  have HR := hide (HST.out w2 S' B' v hl2 hs2 hr2 hb2)
  clear hl2 hs2 hr2 hb2 HST HOP
  go_wp2_with fail
  refine HR.out.mono ?_
  rintro e w9 ⟨rfl, hfin⟩
  have HFIN := hide hfin
  clear hfin HR
  go_wp2_with fail
  go_ret
  exact HFIN.out
end Go.Proofs.YtellilpeakpbfabGreatDoor

end

section
/-
  The walk of World.lasts where crashes may come: Compact.
-/
set_option linter.unusedVariables false
namespace Go.Proofs.YtellilpeakpbfabGreatDoor
open Go.RowKit

set_option maxHeartbeats 1000000 in
set_option maxRecDepth 100000 in
theorem move_ownW (L S B : Nat) (C : Jn.Con) (f : Int) (w : World) (h : StAt L w S B C f) (hP : PowAt w) (hgL : 1 < L) :
    Calls Tryz.prog 41 #[.pointer (some ⟨S, 0, none⟩)] w fun e w' => ∃ v, e = .returned v ∧ ARow w' w.heap.size v (moveActs C f) ∧ StAt L w' S B C (1 - f) ∧ Fr L [] (some S) w w' := by
  obtain ⟨c0, c1, f0, f1⟩ := h.cells
  have hf := h.file
  have hset := st_setF h (1 - f) (by omega)
  have hlt := h.lt
  have hf0 : 0 ≤ f ∧ f ≤ 1 := by omega
  obtain ⟨g0, g1⟩ := hf0
  obtain ⟨w1, hw1⟩ : ∃ w1, w1 = w.setCell ⟨S, 1, none⟩ (.int .i64 (1 - f)) := ⟨_, rfl⟩
  rw [← hw1] at hset
  have hown : Fr L [] (some S) w w1 := by rw [hw1]; exact fr_setCell w S 1 _ h.low
  have HOWN := hide hown
  have hz : w1.heap.size = w.heap.size := by rw [hw1]; simp
  have hc := all_any L B C w1 hset.1.con (hP.below hgL hset.2.below)
  have d0 := hset.1.cells.1
  have HC := hide hc
  have HS := hide hset
  clear hc hset h hf hP hown
  go_enter Tryz.func41, Tryz.ntmps41
  go_wp2_with fail
  rw [← hw1]
  have HW := hide hw1
  clear hw1
  refine HC.out.mono ?_
  rintro e w2 ⟨X, rfl, hX, hb⟩
  have HX := hide hX
  have HB := hide hb
  have hz2 := hb.size
  clear hX hb HC
  go_wp2
  go_ret
  have hL : L ≤ w1.heap.size := Nat.le_trans HS.out.1.low (Nat.le_of_lt HS.out.1.lt)
  refine ⟨_, rfl, ?_, (HS.out.1.below HB.out).below ((Below.refl _ _).alloc (Nat.le_refl _) _), ?_⟩
  · refine arow_new w2 w.heap.size (by omega) (moveActs C f) 5 rfl _ ?_ (by decide)
    simp only [moveActs, acts3, List.flatMap_cons, List.flatMap_nil, ← HX.out]
    rfl
  · exact HOWN.out.trans ((Fr.of HB.out hL).trans (Fr.of ((Below.refl _ _).alloc (Nat.le_refl _) _) (by omega)))
set_option maxHeartbeats 1000000 in
theorem compact_ownW (L S B : Nat) (C : Jn.Con) (f : Int) (w : World) (h : StAt L w S B C f) (hP : PowAt w) (hgL : 1 < L) :
    Calls Tryz.prog 20 #[.pointer (some ⟨S, 0, none⟩)] w fun e w' => ∃ v, e = .returned v ∧ ARow w' w.heap.size v (moveActs C f) ∧ StAt L w' S B C (1 - f) ∧ Fr L [] (some S) w w' := by
  have HM := hide (move_ownW L S B C f w h hP hgL)
  clear h hP
  go_enter Tryz.func20, Tryz.ntmps20
  go_wp2_with fail
  refine HM.out.mono ?_
  rintro e w1 ⟨v, rfl, h1, h2, h3⟩
  have HF := hide (And.intro h1 (And.intro h2 h3))
  obtain ⟨vo, vn, vk, rfl⟩ : ∃ vo vn vk, v = .slice vo vn vk := by obtain ⟨x, y, e, -⟩ := h1.shape; exact ⟨x, _, y, e⟩
  clear h1 h2 h3 HM
  go_wp2_with fail
  go_ret
  exact ⟨_, rfl, HF.out⟩

set_option maxHeartbeats 8000000 in
set_option maxRecDepth 100000 in
theorem lasts_compactC (L W D m : Nat) (w : World) (C : Jn.Con) (o : OpD) (ho : o.kind = 12) (h : SInvC L W D w C m) (hm : m ≤ 1200000000000) (hP : PowAt w) (hWd : WordsAt w) (hpL : 1 < L) (lW : List Int) (hcb : B64' o.cut) (hrw : ∀ x, Below L w x → Raws x (.slice o.wo o.wn o.wc) lW) :
    Calls Tryz.prog 79 #[.pointer (some ⟨W, 0, none⟩), .agg o.cells, .bool true] w (StepPostC L W D m w) := by
  obtain ⟨S, B, f, past, d, nc, nq, na, hlaw, hst, hlast, hpm, hnc, hnq, hna, hdk, hds, hpl, hsf⟩ := h
  have hok : Jn.Ok C := hst.con.ok
  have hCm : C ∈ past := List.mem_of_getElem? hlast
  obtain ⟨w1, hw1⟩ : ∃ w1, w1 = w.alloc (.cells o.cells 106) := ⟨_, rfl⟩
  obtain ⟨B0, hB0⟩ : ∃ B0, B0 = w.heap.size := ⟨_, rfl⟩
  have hB1 : Below w.heap.size w w1 := by rw [hw1]; exact (Below.refl _ _).alloc (Nat.le_refl _) _
  have hbo : w1.heap[B0]? = some (.cells o.cells 106 (0, 0)) := by rw [hw1, hB0]; exact heap_alloc_new w _
  have hlaw1 := (hlaw.below hB1).mono hB1.size hB1.size
  have hst1 := hst.below hB1
  have hLw := hlaw1.low
  have hL0 := hlaw.low
  have hb1 : Below L w w1 := hB1.mono hL0
  have hP1 := hP.below hpL hb1
  have hwl : 0 < L := Nat.lt_of_le_of_lt (by decide) hpL
  have hW1 := hWd.below hwl hb1
  have hf01 := hst.file
  have hall : (Jn.all C).length ≤ 100000 := Nat.le_trans (all_room hok).1 (Nat.le_trans (all_room hok).2 (by omega))
  have hrm := (all_room hok).2
  have hra := (all_room hok).1
  obtain ⟨d', hpd, hdk', hsz⟩ := DiskOk.move (d := d) hf01 hok hpl hall
  obtain ⟨d2, hp2, hsf'⟩ := hsf.moved hdk hok hpl hall
  rw [hpd] at hp2
  cases hp2
  have hpre : ∀ n, ∃ d2, playL d ((moveActs C f).take n) = some d2 ∧ Safe d2 (· ∈ past) := fun n => hsf.move hdk hCm hok hpl hall n
  have hlm : lens (moveActs C f) = (Jn.all C).length := by simp [lens, moveActs]
  have HCP := hide (compact_ownW L S B C f w1 hst1 hP1 hpL)
  have HLX : Hid (∀ x, Fr L [] (some S) w1 x → LawAt L W D w1.heap.size w1.heap.size x (.pointer (some ⟨S, 0, none⟩)) past d nc nq na) := fun x hx => hlaw1.fr (hx.weak hst1.mem) (by simp)
  have HACT0 := hide (fun (hc : o.cut = 0) (w2 : World) (v : Value) (hb2 : Fr L [] (some S) w1 w2) hr => acted_zero L W D w1.heap.size w1.heap.size w2 (.pointer (some ⟨S, 0, none⟩)) past d d' nc nq na v (moveActs C f) 1099511627776 true o (HLX.out w2 hb2) hLw hb2.size hb2.size hr (by simp [moveActs]) (by rw [hlm]; omega) (by rw [hlm]; omega) (.inl rfl) hpd (by omega) hc)
  have HACT1 := hide (fun (hc : o.cut ≠ 0) (w2 : World) (v : Value) (hb2 : Fr L [] (some S) w1 w2) hr => acted_crash L W D w1.heap.size w1.heap.size w2 (.pointer (some ⟨S, 0, none⟩)) past d nc nq na v (moveActs C f) 1099511627776 true o (HLX.out w2 hb2) hLw hb2.size hb2.size hr (by simp [moveActs]) (by rw [hlm]; omega) (by rw [hlm]; omega) (.inl rfl) lW (140000 + 4000 * m) hpre (by rw [hlm]; omega) (by omega) (by omega) (by omega) (by omega) (by omega) hc hcb (hP1.below hpL hb2.below) (hW1.below hwl hb2.below) hpL (fun y hy => hrw y ((hb1.trans hb2.below).trans hy)))
  have HRS : Hid (∀ x y : World, Fr L [] (some S) w1 y → StAt L y S B C (1 - f) → LawAt L W D x.heap.size x.heap.size x (.pointer (some ⟨S, 0, none⟩)) past d' nc nq (na + 3) → Fr L [67, 115, 27, 84] none y x →
      Calls Tryz.prog 124 #[.pointer (some ⟨W, 0, none⟩)] x (fun e w9 => e = .returned (.tuple #[]) ∧
        Calls Tryz.prog 113 #[.pointer (some ⟨W, 0, none⟩)] w9 (fun e w10 => ∃ o1 n1 k1 o2 n2 k2, e = .returned (.agg #[.slice o1 n1 k1, .slice o2 n2 k2]) ∧
          Calls Tryz.prog 106 #[.pointer (some ⟨W, 0, none⟩), .agg #[.slice o1 n1 k1, .slice o2 n2 k2]] w10 (fun e w11 => e = .returned (.bool true) ∧ StepPostC L W D m w (.returned (.bool true)) w11)))) := by
    intro x y hy hsty hx hf
    refine (rests_any L W D _ _ x _ past d' nc nq (na + 3) C hx hlast hok (by omega)).mono ?_
    rintro e w9 ⟨rfl, hl9, hf9⟩
    have hst9 : StAt L w9 S B C (1 - f) := (hsty.fr hf (by decide) (by decide) (by decide) (by simp)).fr hf9 (by decide) (by decide) (by decide) (by simp)
    obtain ⟨vp, vc, vq, va, lcs, lqs, lxs, hWA, hpast, -⟩ := hl9.rest
    refine ⟨rfl, (now_any L W w9 _ _ vp vc vq va [C] C hWA hpast rfl (by simp)).mono ?_⟩
    rintro e w10 ⟨sc, sp, rfl, hcr, hpr, hb10⟩
    obtain ⟨o1, k1, rfl⟩ := crow_slice hcr
    obtain ⟨o2, k2, rfl, -⟩ := hpr.shape
    refine ⟨o1, _, k1, o2, _, k2, rfl, ?_⟩
    refine (small_any W D w10 _ _ _ _ _ _ _ d'.1 d'.2.1 d'.2.2.1 d'.2.2.2 C (hWA.fr (Fr.of (L := 0) (T := []) (X := none) hb10 (Nat.zero_le _)) (by simp) (by simp)) (hl9.below hb10).disk hcr hpr hok (by omega)).mono ?_
    rintro e w11 ⟨rfl, hb11⟩
    have hbb : Below w9.heap.size w9 w11 := below_then hb10 hb11
    refine ⟨rfl, rfl, ⟨C, S, B, 1 - f, [C], d', nc, nq, na + 3, ((hl9.mono hf9.size hf9.size).below hbb).mono hbb.size hbb.size, hst9.below hbb, by simp, by simp, by omega, by omega, by omega, hdk', by omega, hpl, hsf'.mono (fun X e => by simp [e])⟩, ?_⟩
    exact ((((hb1.trans hy.below).trans hf.below).trans hf9.below)).trans (hbb.mono hl9.low)
  obtain ⟨vp, vc, vq, va, lcs, lqs, lxs, hWA, -, -, -, -, -, -, -⟩ := hlaw1.rest
  obtain ⟨c0, -, -, -, -, -⟩ := hWA.cell
  obtain ⟨kk, nn, mm, s, t, lo, ln, lc, cut, wo, wn, wc⟩ := o
  simp only at ho
  subst ho
  simp only [OpD.cells] at hbo hw1 HACT0 HACT1 ⊢
  have p0 := (cell_of_row w1 B0 0 _ _ _ hbo).trans rfl
  have p1 := (cell_of_row w1 B0 1 _ _ _ hbo).trans rfl
  have p2 := (cell_of_row w1 B0 2 _ _ _ hbo).trans rfl
  have p3 := (cell_of_row w1 B0 3 _ _ _ hbo).trans rfl
  have p4 := (cell_of_row w1 B0 4 _ _ _ hbo).trans rfl
  have p5 := (cell_of_row w1 B0 5 _ _ _ hbo).trans rfl
  have p6 := (cell_of_row w1 B0 6 _ _ _ hbo).trans rfl
  have p7 := (cell_of_row w1 B0 7 _ _ _ hbo).trans rfl
  have hSm := hst1.mem
  have nBS : B0 ≠ S := fun e => by rw [e, hSm] at hbo; cases hbo
  clear hB1 hlaw hst hlaw1 hst1 hWA hdk' hpd hpre hsf hsf' hrw HLX hSm
  have HBO := hide hbo
  clear hbo
  go_enter Tryz.func79, Tryz.ntmps79
  go_upto_region 9 with fail
  rw [← hw1, ← hB0]
  have HW1 := hide hw1
  have HB0 := hide hB0
  clear hw1 hB0
  go_wp2_with fail
  refine HCP.out.mono ?_
  rintro e w2 ⟨v, rfl, hr, hst2, hf2⟩
  have hbo := hf2.block B0 _ _ _ HBO.out (by simp) (by simpa using Ne.symm nBS)
  have p0 := (cell_of_row w2 B0 0 _ _ _ hbo).trans rfl
  have p1 := (cell_of_row w2 B0 1 _ _ _ hbo).trans rfl
  have p2 := (cell_of_row w2 B0 2 _ _ _ hbo).trans rfl
  have p3 := (cell_of_row w2 B0 3 _ _ _ hbo).trans rfl
  have p4 := (cell_of_row w2 B0 4 _ _ _ hbo).trans rfl
  have p5 := (cell_of_row w2 B0 5 _ _ _ hbo).trans rfl
  have p6 := (cell_of_row w2 B0 6 _ _ _ hbo).trans rfl
  have p7 := (cell_of_row w2 B0 7 _ _ _ hbo).trans rfl
  have HBO2 := hide hbo
  have HF2 := hide hf2
  have HST2 := hide hst2
  by_cases hcut : cut = 0
  · have HA := hide (HACT0.out hcut w2 v hf2 hr)
    obtain ⟨vo, vn, vk, rfl⟩ : ∃ vo vn vk, v = .slice vo vn vk := by obtain ⟨x, y, e, -⟩ := hr.shape; exact ⟨x, _, y, e⟩
    subst hcut
    clear hbo hf2 hr hst2 HACT0 HACT1 HCP
    go_wp2_with fail
    refine HA.out.mono ?_
    rintro e w3 ⟨rfl, hl3, hf3⟩
    have hb3 := hf3.block B0 _ _ _ HBO2.out (by decide) (by simp)
    have q6 := (cell_of_row w3 B0 6 _ _ _ hb3).trans rfl
    have HR := hide (HRS.out w3 w2 HF2.out HST2.out hl3 hf3)
    clear hl3 hf3 HRS HA hb3
    go_wp2_with fail
    refine HR.out.mono ?_
    rintro e w9 ⟨rfl, hnow⟩
    have HN := hide hnow
    clear hnow HR
    go_wp2_with fail
    refine HN.out.mono ?_
    rintro e w10 ⟨o1, n1, k1, o2, n2, k2, rfl, hsm⟩
    have HSM := hide hsm
    clear hsm HN
    go_wp2_with fail
    refine HSM.out.mono ?_
    rintro e w11 ⟨rfl, hfin⟩
    have HFIN := hide hfin
    clear hfin HSM
    go_wp2_with fail
    go_ret
    exact HFIN.out
  · have HA := hide (HACT1.out hcut w2 v hf2 hr)
    obtain ⟨vo, vn, vk, rfl⟩ : ∃ vo vn vk, v = .slice vo vn vk := by obtain ⟨x, y, e, -⟩ := hr.shape; exact ⟨x, _, y, e⟩
    have tc : (cut != 0) = true := by simpa using hcut
    have HBB : Hid (Below L w w2) := hb1.trans hf2.below
    clear hbo hf2 hr hst2 HACT0 HACT1 HCP hcut
    go_wp2_with fail
    refine HA.out.mono ?_
    rintro e w3 ⟨rfl, h3⟩
    obtain ⟨hi, hf3⟩ := h3.inv (m := m + 4) (by omega) (by omega) (by omega) (by omega)
    have hb3 := hf3.block B0 _ _ _ HBO2.out (by decide) (by simp)
    have q6 := (cell_of_row w3 B0 6 _ _ _ hb3).trans rfl
    have HFIN : Hid (StepPostC L W D m w (.returned (.bool true)) w3) := ⟨rfl, hi, HBB.out.trans hf3.below⟩
    clear h3 hi hf3 hb3 HA HRS
    go_wp2_with fail
    go_ret
    exact HFIN.out
end Go.Proofs.YtellilpeakpbfabGreatDoor

end
