/-
  The walk of settles.
-/
import Derived.Test.YthehkgglblohfaaGreatDoorSmall
namespace Go.Proofs.YthehkgglblohfaaGreatDoor
open Go.RowKit

set_option maxHeartbeats 4000000 in
set_option maxRecDepth 100000 in
theorem settles_any (L W D N M m : Nat) (w : World) (vx : Value) (past : List Jn.Con) (d d' : DS) (nc nq na : Nat) (C : Jn.Con) (v : Value) (l : List ActP)
    (hlaw : LawAt L W D N M w vx past d nc nq na) (hLM : L ≤ M) (hN : N ≤ w.heap.size) (hM : M ≤ w.heap.size) (hr : ARow w M v l) (hl : l.length ≤ 8) (hp : playL d l = some d') (hC : past[m]? = some C) (hok : Jn.Ok C)
    (hs : d'.1.size + d'.2.1.size ≤ room C) (hna : na ≤ 4000000000000) (hb : past.length ≤ 9000000000000) :
    Calls Tryz.prog 12 #[.pointer (some ⟨W, 0, none⟩), v, .int .i64 m] w fun e w' => e = .returned (.bool true) ∧
      LawAt L W D w'.heap.size w'.heap.size w' vx [C] d' nc nq (na + 3) ∧ Fr L [46, 41, 51, 64] none w w' := by
  obtain ⟨vp, vc, vq, va, lcs, lqs, lxs, hW, hpast, hh1, e1, hh2, e2, hh3, e3⟩ := hlaw.rest
  obtain ⟨-, c1, -, -, -, -⟩ := hW.cell
  have HAL := hide (allD_any L D M d d' v l w hlaw.disk hlaw.ld hr (by omega) hp)
  obtain ⟨ao, cap, hv, -⟩ := hr.shape
  subst hv
  have hLw := hlaw.low
  have hml : m < past.length := (List.getElem?_eq_some_iff.1 hC).1
  have HL := hide hlaw
  have HR := hide hr
  have HW := hide hW
  have HPA := hide hpast
  have HC := hide hC
  have HH1 := hide hh1
  have HH2 := hide hh2
  have HH3 := hide hh3
  have HE : Hid (lcs.length = nc ∧ lqs.length = nq ∧ lxs.length = na) := ⟨e1, e2, e3⟩
  clear hlaw hr hW hpast hC hh1 hh2 hh3 e1 e2 e3
  go_enter Tryz.func12, Tryz.ntmps12
  go_wp2_with fail
  refine HAL.out.mono ?_
  rintro e w1 ⟨rfl, hd1, hf1⟩
  have W1 := HW.out.fr hf1 (by decide) (by simp)
  have H31 := HH3.out.fr hf1 (by decide) (by decide) (by simp) (.inl rfl)
  have hAR1 : ARow w1 M (.slice ao l.length cap) l := HR.out.fr hf1 (by decide) (.inl rfl)
  have HK := hide (keepActs_any L M W w1 vx _ vp vc vq va lxs _ l.length _ W1 HL.out.lw H31 hAR1 (by omega) hLM (Nat.le_trans hM hf1.size) (by rw [HE.out.2.2]; omega))
  have HF1 := hide hf1
  have HD1 := hide hd1
  have HAR1 := hide hAR1
  clear hd1 hf1 W1 H31 hAR1 HAL
  go_wp2_with fail
  refine HK.out.mono ?_
  rintro e w2 ⟨va2, lx2, rfl, hW2, hh2', hl2, hf2⟩
  have F2 : Fr L [46, 41, 51, 64] none w w2 := by
    refine (HF1.out.wide (by simp)).trans ((hf2.wide (T' := [46, 41, 51, 64]) (by simp)).typed (fun k hk => ?_) none)
    rcases HAR1.out.2 with ⟨h0, _⟩ | ⟨g, cap', cur, h0, hb, hh, _⟩
    · rw [h0] at hk; simp [Value.ownBlock] at hk
    · rw [h0] at hk
      simp [Value.ownBlock] at hk
      subst hk
      exact ⟨cur, _, _, hh, by simp⟩
  have hD2 : DsAt w2 D d' := HD1.out.fr hf2 (by decide) (own_neB HAR1.out HD1.out (by decide))
  have hP2 := HPA.out.fr F2 (by decide) (by decide) (by decide)
  obtain ⟨ss, hrow, hsl, hss⟩ := hP2
  obtain ⟨s, hs'⟩ : ∃ s, ss[m]? = some s := ⟨ss[m]'(by omega), by simp [show m < ss.length by omega]⟩
  obtain ⟨hsc, hsp, -⟩ := hss m s C hs' HC.out
  have hrow' : w2.ownsRow L 50 2 vp ss.length (pairs ss) := by rw [hsl]; exact hrow
  obtain ⟨po, pcap, hvp, hsh⟩ := pair_shape hrow'
  obtain ⟨pg, pcur, rfl, -, hpg, hpc⟩ := hsh (by omega)
  obtain ⟨p0, p1⟩ := hpc m s hs'
  obtain ⟨s1, s2⟩ := s
  obtain ⟨so, sk, hs1⟩ := crow_slice hsc
  obtain ⟨qo, qk, hs2, -⟩ := hsp.shape
  simp only at hs1 hs2 p0 p1 hsc hsp
  subst hs1 hs2
  obtain ⟨-, b1, b2, -, -, -⟩ := hW2.cell
  rw [hvp, hsl] at b2
  have hmi : (m : Int) < (past.length : Int) := by omega
  obtain ⟨W3, W4, P4, F4⟩ := past_new (L := L) hW2 HL.out.lw (Nat.le_trans hLw F2.size) hsc hsp hok
  obtain ⟨-, -, b3, -, -, -⟩ := W3.cell
  rw [hvp, hsl] at b3
  have z3 := W3.fz 2
  obtain ⟨w4, hw4⟩ : ∃ w4, (w2.alloc (.cells #[.slice so C.list.length sk, .slice qo C.procs.length qk] 50)).setCell ⟨W, 2, none⟩ (.slice (some ⟨w2.heap.size, 0, none⟩) 1 1) = w4 := ⟨_, rfl⟩
  rw [hw4] at W4 P4 F4
  obtain ⟨-, x1, x2, -, -, -⟩ := W4.cell
  have hbc : w4.heap[w2.heap.size]? = some (.cells #[.slice so C.list.length sk, .slice qo C.procs.length qk] 50 (0, 0)) := by
    rw [← hw4, heap_setCell_other _ _ _ _ (by simp; have := hW2.lt; omega)]
    exact heap_alloc_new w2 _
  have y0 : w4.cell? ⟨w2.heap.size, 0, none⟩ = some (.slice so C.list.length sk) := (cell_of_row w4 _ 0 _ _ _ hbc).trans rfl
  have y1 : w4.cell? ⟨w2.heap.size, 1, none⟩ = some (.slice qo C.procs.length qk) := (cell_of_row w4 _ 1 _ _ _ hbc).trans rfl
  have hD4 : DsAt w4 D d' := hD2.fr F4 (by decide) (by simp)
  have HSM := hide (small_any W D w4 _ _ _ _ _ _ _ d'.1 d'.2.1 d'.2.2.1 d'.2.2.2 C W4 hD4 (own_fr hsc F4 (by decide) (.inl rfl)) (own_fr hsp F4 (by decide) (.inl rfl)) hok hs)
  have HFT : Hid (Fr L [46, 41, 51, 64] none w w4) := F2.trans (F4.wide (by simp))
  have HFIN : Hid (LawAt L W D w4.heap.size w4.heap.size w4 vx [C] d' nc nq (na + 3)) := by
    refine ⟨HL.out.lw, HL.out.ld, hD4, _, vc, vq, va2, lcs, lqs, lx2, W4, P4, ?_, HE.out.1, ?_, HE.out.2.1, ?_, by rw [hl2, HE.out.2.2]⟩
    · exact (HH1.out.fr HFT.out (by decide) (by decide) (by simp) (.inl rfl)).mono (Nat.le_trans hN HFT.out.size)
    · exact (HH2.out.fr HFT.out (by decide) (by decide) (by simp) (.inl rfl)).mono (Nat.le_trans hN HFT.out.size)
    · exact (hh2'.fr F4 (by decide) (by decide) (by simp) (.inl rfl)).mono F4.size
  have HE4 := hide hw4
  clear F2 hD2 hrow hss hsh hpc hs' hsc hsp hrow' hpg W3 W4 P4 F4 hbc hD4 hW2 hh2' hl2 hf2 HK hw4 hvp hsl
  go_upto_region 4 with fail
  rw [HE4.out]
  go_wp2_with fail
  refine HSM.out.mono ?_
  rintro e w5 ⟨rfl, hb5⟩
  have HL5 : Hid (LawAt L W D w5.heap.size w5.heap.size w5 vx [C] d' nc nq (na + 3)) := (HFIN.out.below hb5).mono hb5.size hb5.size
  have HF5 : Hid (Fr L [46, 41, 51, 64] none w w5) := HFT.out.trans (Fr.of hb5 (Nat.le_trans hLw HFT.out.size))
  clear hb5 HSM
  go_wp2
  go_ret
  exact ⟨rfl, HL5.out, HF5.out⟩
end Go.Proofs.YthehkgglblohfaaGreatDoor
