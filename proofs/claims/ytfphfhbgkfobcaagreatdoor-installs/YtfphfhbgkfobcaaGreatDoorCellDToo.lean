import Derived.Test.YtfphfhbgkfobcaaGreatDoorSmallToo
import Derived.Test.YtfphfhbgkfobcaaGreatDoorCellPToo
section
/-
  The walk of settles.
-/
namespace Go.Proofs.YtfphfhbgkfobcaaGreatDoor
open Go.RowKit

set_option maxHeartbeats 4000000 in
set_option maxRecDepth 100000 in
theorem settles_any (L W D N M m : Nat) (w : World) (vx : Value) (past : List Jn.Con) (d d' : DS) (nc nq na : Nat) (C : Jn.Con) (v : Value) (l : List ActP)
    (hlaw : LawAt L W D N M w vx past d nc nq na) (hLM : L ≤ M) (hN : N ≤ w.heap.size) (hM : M ≤ w.heap.size) (hr : ARow w M v l) (hl : l.length ≤ 8) (hp : playL d l = some d') (hC : past[m]? = some C) (hok : Jn.Ok C)
    (hs : d'.1.size + d'.2.1.size ≤ room C) (hna : na ≤ 4000000000000) (hb : past.length ≤ 9000000000000) :
    Calls Tryz.prog 68 #[.pointer (some ⟨W, 0, none⟩), v, .int .i64 m] w fun e w' => e = .returned (.bool true) ∧
      LawAt L W D w'.heap.size w'.heap.size w' vx [C] d' nc nq (na + 3) ∧ Fr L [97, 92, 58, 136] none w w' := by
  obtain ⟨vp, vc, vq, va, lcs, lqs, lxs, hW, hpast, hh1, e1, hh2, e2, hh3, e3⟩ := hlaw.rest
  obtain ⟨-, c1, -, -, -, -⟩ := hW.cell
  have HAL := hide (allD_any L D M d d' v l w hlaw.disk hlaw.ld hr (by omega) hp)
  obtain ⟨ao, cap, hv, -⟩ := hr.shape
  subst hv
  have hLw := hlaw.low
  have hml : m < past.length := (List.getElem?_eq_some_iff.1 hC).1
  have HL := hide hlaw
  have HR := hide hr
  have HW := hide hW
  have HPA := hide hpast
  have HC := hide hC
  have HH1 := hide hh1
  have HH2 := hide hh2
  have HH3 := hide hh3
  have HE : Hid (lcs.length = nc ∧ lqs.length = nq ∧ lxs.length = na) := ⟨e1, e2, e3⟩
  clear hlaw hr hW hpast hC hh1 hh2 hh3 e1 e2 e3
  go_enter Tryz.func68, Tryz.ntmps68
  go_wp2_with fail
  refine HAL.out.mono ?_
  rintro e w1 ⟨rfl, hd1, hf1⟩
  have W1 := HW.out.fr hf1 (by decide) (by simp)
  have H31 := HH3.out.fr hf1 (by decide) (by decide) (by simp) (.inl rfl)
  have hAR1 : ARow w1 M (.slice ao l.length cap) l := HR.out.fr hf1 (by decide) (.inl rfl)
  have HK := hide (keepActs_any L M W w1 vx _ vp vc vq va lxs _ l.length _ W1 HL.out.lw H31 hAR1 (by omega) hLM (Nat.le_trans hM hf1.size) (by rw [HE.out.2.2]; omega))
  have HF1 := hide hf1
  have HD1 := hide hd1
  have HAR1 := hide hAR1
  clear hd1 hf1 W1 H31 hAR1 HAL
  go_wp2_with fail
  refine HK.out.mono ?_
  rintro e w2 ⟨va2, lx2, rfl, hW2, hh2', hl2, hf2⟩
  have F2 : Fr L [97, 92, 58, 136] none w w2 := by
    refine (HF1.out.wide (by simp)).trans ((hf2.wide (T' := [97, 92, 58, 136]) (by simp)).typed (fun k hk => ?_) none)
    rcases HAR1.out.2 with ⟨h0, _⟩ | ⟨g, cap', cur, h0, hb, hh, _⟩
    · rw [h0] at hk; simp [Value.ownBlock] at hk
    · rw [h0] at hk
      simp [Value.ownBlock] at hk
      subst hk
      exact ⟨cur, _, _, hh, by simp⟩
  have hD2 : DsAt w2 D d' := HD1.out.fr hf2 (by decide) (own_neB HAR1.out HD1.out (by decide))
  have hP2 := HPA.out.fr F2 (by decide) (by decide) (by decide)
  obtain ⟨ss, hrow, hsl, hss⟩ := hP2
  obtain ⟨s, hs'⟩ : ∃ s, ss[m]? = some s := ⟨ss[m]'(by omega), by simp [show m < ss.length by omega]⟩
  obtain ⟨hsc, hsp, -⟩ := hss m s C hs' HC.out
  have hrow' : w2.ownsRow L 128 2 vp ss.length (pairs ss) := by rw [hsl]; exact hrow
  obtain ⟨po, pcap, hvp, hsh⟩ := pair_shape hrow'
  obtain ⟨pg, pcur, rfl, -, hpg, hpc⟩ := hsh (by omega)
  obtain ⟨p0, p1⟩ := hpc m s hs'
  obtain ⟨s1, s2⟩ := s
  obtain ⟨so, sk, hs1⟩ := crow_slice hsc
  obtain ⟨qo, qk, hs2, -⟩ := hsp.shape
  simp only at hs1 hs2 p0 p1 hsc hsp
  subst hs1 hs2
  obtain ⟨-, b1, b2, -, -, -⟩ := hW2.cell
  rw [hvp, hsl] at b2
  have hmi : (m : Int) < (past.length : Int) := by omega
  obtain ⟨W3, W4, P4, F4⟩ := past_new (L := L) hW2 HL.out.lw (Nat.le_trans hLw F2.size) hsc hsp hok
  obtain ⟨-, -, b3, -, -, -⟩ := W3.cell
  rw [hvp, hsl] at b3
  have z3 := W3.fz 2
  obtain ⟨w4, hw4⟩ : ∃ w4, (w2.alloc (.cells #[.slice so C.list.length sk, .slice qo C.procs.length qk] 128)).setCell ⟨W, 2, none⟩ (.slice (some ⟨w2.heap.size, 0, none⟩) 1 1) = w4 := ⟨_, rfl⟩
  rw [hw4] at W4 P4 F4
  obtain ⟨-, x1, x2, -, -, -⟩ := W4.cell
  have hbc : w4.heap[w2.heap.size]? = some (.cells #[.slice so C.list.length sk, .slice qo C.procs.length qk] 128 (0, 0)) := by
    rw [← hw4, heap_setCell_other _ _ _ _ (by simp; have := hW2.lt; omega)]
    exact heap_alloc_new w2 _
  have y0 : w4.cell? ⟨w2.heap.size, 0, none⟩ = some (.slice so C.list.length sk) := (cell_of_row w4 _ 0 _ _ _ hbc).trans rfl
  have y1 : w4.cell? ⟨w2.heap.size, 1, none⟩ = some (.slice qo C.procs.length qk) := (cell_of_row w4 _ 1 _ _ _ hbc).trans rfl
  have hD4 : DsAt w4 D d' := hD2.fr F4 (by decide) (by simp)
  have HSM := hide (small_any W D w4 _ _ _ _ _ _ _ d'.1 d'.2.1 d'.2.2.1 d'.2.2.2 C W4 hD4 (own_fr hsc F4 (by decide) (.inl rfl)) (own_fr hsp F4 (by decide) (.inl rfl)) hok hs)
  have HFT : Hid (Fr L [97, 92, 58, 136] none w w4) := F2.trans (F4.wide (by simp))
  have HFIN : Hid (LawAt L W D w4.heap.size w4.heap.size w4 vx [C] d' nc nq (na + 3)) := by
    refine ⟨HL.out.lw, HL.out.ld, hD4, _, vc, vq, va2, lcs, lqs, lx2, W4, P4, ?_, HE.out.1, ?_, HE.out.2.1, ?_, by rw [hl2, HE.out.2.2]⟩
    · exact (HH1.out.fr HFT.out (by decide) (by decide) (by simp) (.inl rfl)).mono (Nat.le_trans hN HFT.out.size)
    · exact (HH2.out.fr HFT.out (by decide) (by decide) (by simp) (.inl rfl)).mono (Nat.le_trans hN HFT.out.size)
    · exact (hh2'.fr F4 (by decide) (by decide) (by simp) (.inl rfl)).mono F4.size
  have HE4 := hide hw4
  clear F2 hD2 hrow hss hsh hpc hs' hsc hsp hrow' hpg W3 W4 P4 F4 hbc hD4 hW2 hh2' hl2 hf2 HK hw4 hvp hsl
  go_upto_region 4 with fail
  rw [HE4.out]
  go_wp2_with fail
  refine HSM.out.mono ?_
  rintro e w5 ⟨rfl, hb5⟩
  have HL5 : Hid (LawAt L W D w5.heap.size w5.heap.size w5 vx [C] d' nc nq (na + 3)) := (HFIN.out.below hb5).mono hb5.size hb5.size
  have HF5 : Hid (Fr L [97, 92, 58, 136] none w w5) := HFT.out.trans (Fr.of hb5 (Nat.le_trans hLw HFT.out.size))
  clear hb5 HSM
  go_wp2
  go_ret
  exact ⟨rfl, HL5.out, HF5.out⟩
end Go.Proofs.YtfphfhbgkfobcaaGreatDoor

end

section
/-
  The walk of World.lasts: Sync, Open.
-/
namespace Go.Proofs.YtfphfhbgkfobcaaGreatDoor
open Go.RowKit

theorem sync_any (S : Nat) (w : World) : Calls Tryz.prog 43 #[.pointer (some ⟨S, 0, none⟩)] w fun e w' => e = .returned (.slice none 0 0) ∧ w' = w := by
  go_enter Tryz.func43, Tryz.ntmps43
  go_wp2
  go_ret
  exact ⟨rfl, rfl⟩

set_option maxHeartbeats 8000000 in
set_option maxRecDepth 100000 in
theorem lasts_sync (L W D m : Nat) (w : World) (C : Jn.Con) (o : OpD) (ho : o.kind = 11) (h : SInv L W D w C m) (hm : m ≤ 1300000000000) :
    Calls Tryz.prog 74 #[.pointer (some ⟨W, 0, none⟩), .agg o.cells, .bool false] w (StepPost L W D m w) := by
  obtain ⟨S, B, f, past, d, nc, nq, na, hlaw, hst, hlast, hpm, hnc, hnq, hna, hdk, hds, hpl⟩ := h
  have hok : Jn.Ok C := hst.con.ok
  obtain ⟨w1, hw1⟩ : ∃ w1, w1 = w.alloc (.cells o.cells 83) := ⟨_, rfl⟩
  obtain ⟨B0, hB0⟩ : ∃ B0, B0 = w.heap.size := ⟨_, rfl⟩
  have hB1 : Below w.heap.size w w1 := by rw [hw1]; exact (Below.refl _ _).alloc (Nat.le_refl _) _
  have hbo : w1.heap[B0]? = some (.cells o.cells 83 (0, 0)) := by rw [hw1, hB0]; exact heap_alloc_new w _
  have hlaw1 := (hlaw.below hB1).mono hB1.size hB1.size
  have hst1 := hst.below hB1
  have hLw := hlaw1.low
  have HACT := hide (acted_any L W D w1.heap.size w1.heap.size w1 (.pointer (some ⟨S, 0, none⟩)) past d d nc nq na (.slice none 0 0) [] 64 false o hlaw1 hLw (Nat.le_refl _) (Nat.le_refl _) (World.ownsRow_nil _ _ _ _) (by simp) (by simp [lens]) (by simp [lens]) (.inr (by simp)) rfl (by omega))
  have HRS : Hid (∀ x : World, LawAt L W D x.heap.size x.heap.size x (.pointer (some ⟨S, 0, none⟩)) past d nc nq (na + 3) → Fr L [97, 92, 58, 136] none w1 x →
      Calls Tryz.prog 120 #[.pointer (some ⟨W, 0, none⟩)] x (fun e w9 => e = .returned (.tuple #[]) ∧ StepPost L W D m w (.returned (.bool true)) w9)) := by
    intro x hx hf
    refine (rests_any L W D _ _ x _ past d nc nq (na + 3) C hx hlast hok (by omega)).mono ?_
    rintro e w9 ⟨rfl, hl9, hf9⟩
    refine ⟨rfl, rfl, ⟨C, S, B, f, [C], d, nc, nq, na + 3, hl9.mono hf9.size hf9.size, (hst1.fr hf (by decide) (by decide) (by decide) (by simp)).fr hf9 (by decide) (by decide) (by decide) (by simp), by simp, by simp, by omega, by omega, by omega, hdk, by omega, hpl⟩, ?_⟩
    exact ((hB1.mono hlaw.low).trans hf.below).trans hf9.below
  obtain ⟨vp, vc, vq, va, lcs, lqs, lxs, hWA, -, -, -, -, -, -, -⟩ := hlaw1.rest
  obtain ⟨c0, -, -, -, -, -⟩ := hWA.cell
  obtain ⟨kk, nn, mm, s, t, lo, ln, lc, cut, wo, wn, wc⟩ := o
  simp only at ho
  subst ho
  simp only [OpD.cells] at hbo hw1 HACT ⊢
  have p0 := (cell_of_row w1 B0 0 _ _ _ hbo).trans rfl
  have p1 := (cell_of_row w1 B0 1 _ _ _ hbo).trans rfl
  have p2 := (cell_of_row w1 B0 2 _ _ _ hbo).trans rfl
  have p3 := (cell_of_row w1 B0 3 _ _ _ hbo).trans rfl
  have p4 := (cell_of_row w1 B0 4 _ _ _ hbo).trans rfl
  have p5 := (cell_of_row w1 B0 5 _ _ _ hbo).trans rfl
  have p6 := (cell_of_row w1 B0 6 _ _ _ hbo).trans rfl
  have p7 := (cell_of_row w1 B0 7 _ _ _ hbo).trans rfl
  have HSY := hide (sync_any S)
  clear hB1 hlaw hst hlaw1 hst1 hWA hbo
  go_enter Tryz.func74, Tryz.ntmps74
  go_upto_region 3 with fail
  rw [← hw1, ← hB0]
  have HW1 := hide hw1
  have HB0 := hide hB0
  clear hw1 hB0
  go_wp2_with fail
  refine (HSY.out _).mono ?_
  rintro e w2 ⟨rfl, rfl⟩
  go_wp2_with fail
  refine HACT.out.mono ?_
  rintro e w3 ⟨rfl, hl3, hf3⟩
  have HR := hide (HRS.out w3 hl3 hf3)
  clear hl3 hf3 HRS HACT
  go_wp2_with fail
  refine HR.out.mono ?_
  rintro e w9 ⟨rfl, hfin⟩
  have HFIN := hide hfin
  clear hfin HR
  go_wp2_with fail
  go_ret
  exact HFIN.out

set_option maxHeartbeats 8000000 in
set_option maxRecDepth 100000 in
theorem lasts_open (L W D m : Nat) (w : World) (C : Jn.Con) (o : OpD) (ho : o.kind = 13) (h : SInv L W D w C m) (hm : m ≤ 1300000000000) (hP : PowAt w) (hWd : WordsAt w) :
    Calls Tryz.prog 74 #[.pointer (some ⟨W, 0, none⟩), .agg o.cells, .bool false] w (StepPost L W D m w) := by
  obtain ⟨S, B, f, past, d, nc, nq, na, hlaw, hst, hlast, hpm, hnc, hnq, hna, hdk, hds, hpl⟩ := h
  have hok : Jn.Ok C := hst.con.ok
  have hf01 := hst.file
  obtain ⟨k, hk⟩ : ∃ k, past.length = k + 1 := ⟨past.length - 1, by cases past <;> simp at hlast ⊢⟩
  rw [hk, Nat.add_sub_cancel] at hlast
  obtain ⟨w1, hw1⟩ : ∃ w1, w1 = w.alloc (.cells o.cells 83) := ⟨_, rfl⟩
  have hB1 : Below w.heap.size w w1 := by rw [hw1]; exact (Below.refl _ _).alloc (Nat.le_refl _) _
  have hlaw1 := (hlaw.below hB1).mono hB1.size hB1.size
  have hLw := hlaw1.low
  have HOP := hide (opened_last L W D _ _ w1 _ past d nc nq na k C f hlaw1 (Nat.le_refl _) (Nat.le_refl _) hk hlast (hWd.below hWd.1 hB1) (hP.below hP.1 hB1) (by omega) (by omega) hdk.two (by omega) (by omega) (by omega))
  obtain ⟨d', hpd, hdk', hsz⟩ := DiskOk.move (d := d) hf01 hok hpl (Nat.le_trans (all_room hok).1 (Nat.le_trans (all_room hok).2 (by omega)))
  have hrm := (all_room hok).2
  have hra := (all_room hok).1
  have HST : Hid (∀ (x : World) (S' B' : Nat) (v : Value), LawAt L W D x.heap.size w1.heap.size x (.pointer (some ⟨S', 0, none⟩)) past d (nc + 3) (nq + 3) na → StAt L x S' B' C (1 - f) → ARow x w1.heap.size v (moveActs C f) → Below L w1 x →
      Calls Tryz.prog 68 #[.pointer (some ⟨W, 0, none⟩), v, .int .i64 k] x (fun e w9 => e = .returned (.bool true) ∧ StepPost L W D m w (.returned (.bool true)) w9)) := by
    intro x S' B' v hl hs' hr hb
    refine (settles_any L W D x.heap.size w1.heap.size k x _ past d d' (nc + 3) (nq + 3) na C v _ hl hLw (Nat.le_refl _) hb.size hr (by simp [moveActs]) hpd hlast hok (by omega) (by omega) (by omega)).mono ?_
    rintro e w9 ⟨rfl, hl9, hf9⟩
    refine ⟨rfl, rfl, ⟨C, S', B', 1 - f, [C], d', nc + 3, nq + 3, na + 3, hl9, hs'.fr hf9 (by decide) (by decide) (by decide) (by simp), by simp, by simp, by omega, by omega, by omega, hdk', by omega, hpl⟩, ?_⟩
    exact ((hB1.mono hlaw.low).trans hb).trans hf9.below
  obtain ⟨vp, vc, vq, va, lcs, lqs, lxs, hWA, hpast, -, -, -, -, -, -⟩ := hlaw1.rest
  obtain ⟨-, -, c2, -, -, -⟩ := hWA.cell
  obtain ⟨ss, hrow, -, -⟩ := hpast
  obtain ⟨vo, vk, hvp, -, -⟩ := own_slice hrow
  rw [hvp, hk] at c2
  have hkb : k + 1 ≤ 9000000000000 := by omega
  obtain ⟨kk, nn, mm, s, t, lo, ln, lc, cut, wo, wn, wc⟩ := o
  simp only at ho
  subst ho
  simp only [OpD.cells] at hw1 ⊢
  clear hB1 hlaw hst hlaw1 hWA hrow hdk hdk' hsz hpd hlast hok hpl hrm hra
  go_enter Tryz.func74, Tryz.ntmps74
  go_upto_region 17 with fail
  rw [← hw1]
  have HW1 := hide hw1
  clear hw1
  go_wp2_with fail
  refine HOP.out.mono ?_
  rintro e w2 ⟨S', B', v, rfl, hl2, hs2, hr2, hb2⟩
  have HR := hide (HST.out w2 S' B' v hl2 hs2 hr2 hb2)
  clear hl2 hs2 hr2 hb2 HST HOP
  go_wp2_with fail
  refine HR.out.mono ?_
  rintro e w9 ⟨rfl, hfin⟩
  have HFIN := hide hfin
  clear hfin HR
  go_wp2_with fail
  go_ret
  exact HFIN.out
end Go.Proofs.YtfphfhbgkfobcaaGreatDoor

end

section
/-
  The walk of World.cells: Del (without a crash).
-/
namespace Go.Proofs.YtfphfhbgkfobcaaGreatDoor
open Go.RowKit

set_option maxHeartbeats 8000000 in
set_option maxRecDepth 100000 in
theorem cells_del (L W D m : Nat) (w : World) (C : Jn.Con) (o : OpD) (ho : o.kind = 4) (h : SInv L W D w C m) (hm : m ≤ 1300000000000) (hP : PowAt w) (hpL : 1 < L) :
    Calls Tryz.prog 71 #[.pointer (some ⟨W, 0, none⟩), .agg o.cells, .bool false] w (StepPost L W D m w) := by
  have HCE := hide (fun W w s1 s2 f a1 a2 b1 b2 c1 c2 h1 h2 hf => change_err W w s1 s2 f 96 a1 a2 b1 b2 c1 c2 h1 h2 o hf)
  obtain ⟨S, B, f, past, d, nc, nq, na, hlaw, hst, hlast, hpm, hnc, hnq, hna, hdk, hds, hpl⟩ := h
  have HCO := hide (fun N w C' d' s1 s2 v l hlaw hLN hN hr hok h1 h2 hl hs hs2 her hp => change_ok L W D N N w (.pointer (some ⟨S, 0, none⟩)) past C' d d' nc nq na s1 s2 v l 96 o hlaw hLN hN hN h1 h2 hok hr hl hs hs2 her hp (by omega) (by omega))
  obtain ⟨kk, nn, mm, s, t, lo, ln, lc, cut, wo, wn, wc⟩ := o
  simp only at ho
  subst ho
  simp only [OpD.cells] at HCE HCO ⊢
  obtain ⟨w1, hw1⟩ : ∃ w1, w1 = w.alloc (.cells #[.int .i64 4, .int .i64 nn, .int .i64 mm, .string s, .string t, .slice lo ln lc, .int .i64 cut, .slice wo wn wc] 83) := ⟨_, rfl⟩
  obtain ⟨B0, hB0⟩ : ∃ B0, B0 = w.heap.size := ⟨_, rfl⟩
  have hB1 : Below w.heap.size w w1 := by rw [hw1]; exact (Below.refl _ _).alloc (Nat.le_refl _) _
  have hbo : w1.heap[B0]? = some (.cells #[.int .i64 4, .int .i64 nn, .int .i64 mm, .string s, .string t, .slice lo ln lc, .int .i64 cut, .slice wo wn wc] 83 (0, 0)) := by rw [hw1, hB0]; exact heap_alloc_new w _
  have q1 : w1.cell? ⟨B0, 1, none⟩ = some (.int .i64 nn) := (cell_of_row w1 B0 1 _ _ _ hbo).trans rfl
  have q2 : w1.cell? ⟨B0, 2, none⟩ = some (.int .i64 mm) := (cell_of_row w1 B0 2 _ _ _ hbo).trans rfl
  have hlaw1 := hlaw.below hB1
  obtain ⟨vp, vc, vq, va, lcs, lqs, lxs, hWA, hpast, -, -, -, -, -, -⟩ := hlaw1.rest
  have HNOW := hide (fun w' (hb : Below w1.heap.size w1 w') => now_any L W w' _ _ vp vc vq va past C (hWA.fr (Fr.of (L := 0) (T := []) (X := none) hb (Nat.zero_le _)) (by simp) (by simp)) (hpast.fr (Fr.of (T := []) hb (Nat.le_trans hlaw1.low (Nat.le_refl _))) (by simp) (by simp) (by simp)) hlast (by omega))
  obtain ⟨c0, -, -, -, -, -⟩ := hWA.cell
  have hok : Jn.Ok C := hst.con.ok
  have HPS := hide (fun x (hx : Below w1.heap.size w1 x) => delS_any L S B C f nn x ((hst.below hB1).below hx) ((hP.below hP.1 hB1).below (Nat.lt_of_lt_of_le hP.1 hB1.size) hx) hpL)
  have HRP := hide (fun sc sp w h1 h2 => refDel_any C sc sp nn w h1 h2 hok)
  have HB1 := hide hB1
  have HWA := hide hWA
  have HBO := hide hbo
  have HLAW := hide hlaw
  have HST := hide hst
  have HPW := hide hP
  clear hB1 hbo hlaw hst hlaw1 hWA hpast hP
  obtain ⟨C', hC'⟩ : ∃ C', C' = (Jn.del C nn).1 := ⟨_, rfl⟩
  obtain ⟨er, her⟩ : ∃ er, er = (Jn.del C nn).2 := ⟨_, rfl⟩
  rw [← hC', ← her] at HRP HPS
  have hpp : C'.procs = C.procs := by rw [hC']; exact del_procs C nn
  have HCC' := hide hC'
  have HER := hide her
  have HPP := hide hpp
  have hB1s : ∀ x : World, Below w1.heap.size w1 x → x.cell? ⟨B0, 1, none⟩ = some (.int .i64 nn) ∧ x.cell? ⟨B0, 2, none⟩ = some (.int .i64 mm) := fun x hx => ⟨at_old hx q1, at_old hx q2⟩
  have HKP := hide hB1s
  clear hC' her hpp hB1s
  go_enter Tryz.func71, Tryz.ntmps71
  go_upto_region 7 with fail
  rw [← hw1, ← hB0]
  have HW1 := hide hw1
  have HB0 := hide hB0
  clear hw1 hB0
  go_cut [11, 12] (fun s7 s8 wx => CutC w1 C' er s7 s8 wx)
  case first =>
    go_region_held3 (fun w' => w'.cell? ⟨B0, 1, none⟩ = some (.int .i64 nn) ∧ w'.cell? ⟨B0, 2, none⟩ = some (.int .i64 mm))
      (first | with_reducible exact HKP.out _ (Below.drew (Below.refl _ _)) | with_reducible exact HKP.out _ hbp | with_reducible exact HKP.out _ hbn | with_reducible exact HKP.out _ (Below.alloc hbp hbp.size _) | with_reducible exact HKP.out _ (Below.alloc hbn hbn.size _) | with_reducible exact HKP.out _ (Below.alloc (Below.drew (Below.refl _ _)) (Nat.le_refl _) _) | with_reducible exact HKP.out _ (Below.drew (Below.alloc (Below.refl _ _) (Nat.le_refl _) _)) | with_reducible exact HKP.out _ ((hbp.setCell (p := ⟨wn.heap.size, 0, none⟩) hbn.size _).setCell (p := ⟨wn.heap.size, 1, none⟩) hbn.size _) | with_reducible exact HKP.out _ ((hbp.setCell (p := ⟨w1.heap.size, 0, none⟩) (Nat.le_refl _) _).setCell (p := ⟨w1.heap.size, 1, none⟩) (Nat.le_refl _) _))
      (first | (go_at_call 109; refine (HNOW.out _ (by first | exact Below.drew (Below.refl _ _) | exact (Below.drew (Below.alloc (Below.refl _ _) (Nat.le_refl _) _)) | exact (Below.alloc (Below.drew (Below.refl _ _)) (Nat.le_refl _) _))).mono ?_; rintro e wn ⟨sc, sp, rfl, hcr, hpr, hbn0⟩; obtain ⟨po, pk, rfl, -⟩ := hpr.shape; have hbn : Below w1.heap.size w1 wn := Below.trans (by first | exact Below.drew (Below.refl _ _) | exact (Below.drew (Below.alloc (Below.refl _ _) (Nat.le_refl _) _)) | exact (Below.alloc (Below.drew (Below.refl _ _)) (Nat.le_refl _) _)) (hbn0.mono (by first | exact (Nat.le_refl _) | (show w1.heap.size ≤ (w1.alloc _).heap.size; rw [World.size_alloc]; exact (Nat.le_succ _)))); (try (have vb : wn.heap[w1.heap.size]? = some (.cells #[.slice none 0 0, .slice none 0 0] 128 (0, 0)) := (hbn0.block _ (by show w1.heap.size < (w1.alloc _).heap.size; rw [World.size_alloc]; exact (Nat.lt_succ_self _))).trans (heap_alloc_new w1 _)))) | (go_at_call 111; refine (HRP.out sc _ _ (by first | exact hcr | exact hcr.below ((Below.refl _ _).alloc (Nat.le_refl _) _)) (by first | exact hpr | exact hpr.below ((Below.refl _ _).alloc (Nat.le_refl _) _))).mono ?_; rintro e wp ⟨sc', rfl, hcr', hbp0⟩; obtain ⟨so', sk', rfl⟩ := crow_slice hcr'; have hbp : Below w1.heap.size w1 wp := Below.trans (by first | exact hbn | exact (Below.alloc hbn hbn.size _)) (hbp0.mono (by first | exact hbn.size | (rw [World.size_alloc]; exact Nat.le_succ_of_le hbn.size))); (try (have vy : wp.heap[w1.heap.size]? = some (.cells #[.slice none 0 0, .slice none 0 0] 128 (0, 0)) := (hbp0.block _ (by exact (Array.getElem?_eq_some_iff.1 vb).1)).trans vb)); (try (have vy : wp.heap[wn.heap.size]? = some (.cells #[.slice none 0 0, .slice none 0 0] 128 (0, 0)) := (hbp0.block _ (by rw [World.size_alloc]; exact (Nat.lt_succ_self _))).trans (heap_alloc_new wn _))); (try (have y0 : wp.cell? ⟨w1.heap.size, 0, none⟩ = some (.slice none 0 0) := (cell_of_row wp _ 0 _ _ _ vy).trans rfl)); (try (have y2 : wp.frozen? ⟨w1.heap.size, 0, none⟩ = false := frozen_of_row wp _ 0 _ _ vy)); (try (have y1 : wp.cell? ⟨w1.heap.size, 1, none⟩ = some (.slice none 0 0) := (cell_of_row wp _ 1 _ _ _ vy).trans rfl)); (try (have y3 : wp.frozen? ⟨w1.heap.size, 1, none⟩ = false := frozen_of_row wp _ 1 _ _ vy)); (try (have y0 : wp.cell? ⟨wn.heap.size, 0, none⟩ = some (.slice none 0 0) := (cell_of_row wp _ 0 _ _ _ vy).trans rfl)); (try (have y2 : wp.frozen? ⟨wn.heap.size, 0, none⟩ = false := frozen_of_row wp _ 0 _ _ vy)); (try (have y1 : wp.cell? ⟨wn.heap.size, 1, none⟩ = some (.slice none 0 0) := (cell_of_row wp _ 1 _ _ _ vy).trans rfl)); (try (have y3 : wp.frozen? ⟨wn.heap.size, 1, none⟩ = false := frozen_of_row wp _ 1 _ _ vy))))
    all_goals
      go_wp2_with fail
      go_meet
      first
        | with_reducible exact cutc_last hbp hcr' HPP.out (hpr.below hbp0)
        | with_reducible exact cutc_set hbp hbn.size vy hcr' HPP.out ((hpr.below ((Below.refl _ _).alloc (Nat.le_refl _) _)).below hbp0)
        | with_reducible exact cutc_set hbp (Nat.le_refl _) vy hcr' HPP.out (hpr.below hbp0)
  case rest =>
    clear HNOW HRP HKP
    obtain ⟨Bc, so, sk, po, pk, rfl, rfl, hbc, hcr, hpr, hbw⟩ := hcut
    have k0 := at_old hbw c0
    have k1 := at_old hbw q1
    have k2 := at_old hbw q2
    have hwa : WAt wc W _ _ _ _ _ _ := HWA.out.fr (Fr.of (L := 0) (T := []) (X := none) hbw (Nat.zero_le _)) (by simp) (by simp)
    have hob := (hbw.block B0 (Array.getElem?_eq_some_iff.1 HBO.out).1).trans HBO.out
    have HFR := hide (fun x (hx : Fr L [145] none wc x) => And.intro (hx.block B0 _ _ _ hob (by decide) (by simp)) (And.intro (hx.block Bc _ _ _ hbc (by decide) (by simp)) (hwa.fr hx (by decide) (by simp))))
    have HKP := hide (fun x (hx : Fr L [145] none wc x) => (⟨(HFR.out x hx).2.2.cell.1, (cell_of_row x B0 1 _ _ _ (HFR.out x hx).1).trans rfl, (cell_of_row x B0 2 _ _ _ (HFR.out x hx).1).trans rfl⟩ : x.cell? ⟨W, 0, none⟩ = some (.pointer (some ⟨S, 0, none⟩)) ∧ x.cell? ⟨B0, 1, none⟩ = some (.int .i64 nn) ∧ x.cell? ⟨B0, 2, none⟩ = some (.int .i64 mm)))
    have HBW := hide hbw
    have HCR := hide hcr
    have HPR := hide hpr
    clear hbw hcr hpr hbc hwa hob q1 q2 c0
    go_wp2_with fail
    go_region_held3 (fun w' => w'.cell? ⟨W, 0, none⟩ = some (.pointer (some ⟨S, 0, none⟩)) ∧ w'.cell? ⟨B0, 1, none⟩ = some (.int .i64 nn) ∧ w'.cell? ⟨B0, 2, none⟩ = some (.int .i64 mm))
      (first | with_reducible exact HKP.out _ hfr | go_keep)
      (first | (go_at_call 34; refine (HPS.out _ (Below.drew HBW.out)).mono ?_; rintro e wp ⟨v, rfl, hst', hfr0, hor⟩; have hfr : Fr L [145] none wc wp := Fr.undrew hfr0))
    obtain ⟨hob, hbc, -⟩ := HFR.out wp hfr
    have p0 := (cell_of_row wp B0 0 _ _ _ hob).trans rfl
    have p1 := (cell_of_row wp B0 1 _ _ _ hob).trans rfl
    have p2 := (cell_of_row wp B0 2 _ _ _ hob).trans rfl
    have p3 := (cell_of_row wp B0 3 _ _ _ hob).trans rfl
    have p4 := (cell_of_row wp B0 4 _ _ _ hob).trans rfl
    have p5 := (cell_of_row wp B0 5 _ _ _ hob).trans rfl
    have p6 := (cell_of_row wp B0 6 _ _ _ hob).trans rfl
    have p7 := (cell_of_row wp B0 7 _ _ _ hob).trans rfl
    have r0 := (cell_of_row wp Bc 0 _ _ _ hbc).trans rfl
    have r1 := (cell_of_row wp Bc 1 _ _ _ hbc).trans rfl
    have HF := hide hfr
    have HS := hide hst'
    clear hfr hst' hob hbc hfr0 HPS HKP HFR k0 k1 k2
    rcases hor with ⟨hne, rfl⟩ | ⟨h0, har⟩
    · have HC1 := hide (HCE.out W wp (.slice so C'.list.length sk) (.slice po C'.procs.length pk) er so po C'.list.length C'.procs.length sk pk rfl rfl hne)
      have hsame : C' = C := by rw [HCC'.out]; exact del_same C nn (HER.out ▸ hne)
      have HSM := hide hsame
      clear hne hsame HCO HCE
      go_wp2_with fail
      refine HC1.out.mono ?_
      rintro e w9 ⟨rfl, hb9⟩
      have HFIN := hide (step_err HLAW.out hlast hpm hnc hnq hna hdk hds hpl HB1.out HBW.out HF.out (HSM.out ▸ HS.out) hb9)
      clear hb9 HC1
      go_wp2_with fail
      go_ret
      exact HFIN.out
    · obtain ⟨hre, hno, hlen⟩ := del_redo C nn (HER.out.symm.trans h0)
      rw [← HCC'.out] at hre
      obtain ⟨d', hpd, hdk', z1, z2⟩ := hdk.change hno hre (by omega)
      have hLc : L ≤ wc.heap.size := Nat.le_trans (Nat.le_trans HLAW.out.low HB1.out.size) HBW.out.size
      have HC2 := hide (HCO.out wc.heap.size wp C' d' _ _ v _ ((((HLAW.out.below HB1.out).below HBW.out).fr HF.out (by simp)).mono (Nat.le_trans HB1.out.size HBW.out.size) (Nat.le_trans HB1.out.size HBW.out.size)) hLc HF.out.size har HS.out.con.ok
        (own_fr HCR.out HF.out (by decide) (.inl rfl)) (own_fr HPR.out HF.out (by decide) (.inl rfl)) (by simp) (by simp [lens, Jn.record]; omega) (by simp [lens, Jn.record]; omega) (by simp) hpd)
      have HDK := hide hdk'
      have hsz : d'.1.size + d'.2.1.size ≤ 30000 + 4000 * (m + 1) := by omega
      have HSZ := hide hsz
      have HPL := hide (p := ∀ p ∈ C'.procs, Jn.Plain p.2) (by rw [HPP.out]; exact hpl)
      subst h0
      clear har hre hno hlen hpd hdk' z1 z2 hLc hsz HCO HCE
      go_wp2_with fail
      refine HC2.out.mono ?_
      rintro e w9 ⟨rfl, hl9, hf9⟩
      have HFIN := hide (step_ok HLAW.out hpm hnc hnq hna HDK.out HSZ.out HPL.out HB1.out HBW.out HF.out HS.out hl9 hf9 (by decide) (by decide) (by decide))
      clear hl9 hf9 HC2
      go_wp2_with fail
      go_ret
      exact HFIN.out
end Go.Proofs.YtfphfhbgkfobcaaGreatDoor

end
