import Derived.Test.YtellilpeakpbfaaGreatDoorLawQToo
import Derived.Deep.DeepCutAuto
import Derived.Test.YtellilpeakpbfaaGreatDoorCellLToo
section
/-
  The walks of small and rests.
-/
namespace Go.Proofs.YtellilpeakpbfaaGreatDoor
open Go.RowKit

/-- the room that contents may take. -/
def roomP : List (List UInt8 × List UInt8) → Nat
  | [] => 0
  | p :: r => 64 + 2 * p.2.length + roomP r
theorem roomP_app (a b : List (List UInt8 × List UInt8)) : roomP (a ++ b) = roomP a + roomP b := by
  induction a with
  | nil => simp [roomP]
  | cons p r ih => simp only [List.cons_append, roomP, ih]; omega
def room (C : Jn.Con) : Nat := 64 + 32 * C.list.length + roomP C.procs
theorem roomP_take (l : List (List UInt8 × List UInt8)) (k : Nat) (p : List UInt8 × List UInt8) (h : l[k]? = some p) : roomP (l.take (k + 1)) = roomP (l.take k) + (64 + 2 * p.2.length) := by
  have hk := (List.getElem?_eq_some_iff.1 h).1
  have e := (List.getElem?_eq_some_iff.1 h).2
  rw [List.take_succ_eq_append_getElem hk, e, roomP_app]
  simp [roomP]
theorem roomP_le (l : List (List UInt8 × List UInt8)) (h : ∀ p ∈ l, p.2.length ≤ 1000) : roomP l ≤ 2064 * l.length := by
  induction l with
  | nil => simp [roomP]
  | cons p r ih =>
    have h1 := h p (by simp)
    have h2 := ih (fun q hq => h q (by simp [hq]))
    simp only [roomP, List.length_cons]
    omega

theorem cellsE_len (l : List (Int × Int)) (h : ∀ p ∈ l, (0 ≤ p.1 ∧ p.1 ≤ 99) ∧ -1000000000 ≤ p.2 ∧ p.2 ≤ 1000000000) : (Jn.cellsE l).length ≤ 25 * l.length := by
  induction l with
  | nil => simp [Jn.cellsE]
  | cons p r ih =>
    obtain ⟨⟨b1, b2⟩, b3, b4⟩ := h p (by simp)
    have h1 := itoa_len p.1 (by omega) (by omega)
    have h2 := itoa_len p.2 b3 b4
    have h3 := ih (fun q hq => h q (by simp [hq]))
    have e : (Jn.cellsE (p :: r)).length = (Jn.putE p.1 p.2).length + (Jn.cellsE r).length := by simp [Jn.cellsE]
    have e2 : (Jn.putE p.1 p.2).length = (Lib.itoa p.1).length + (Lib.itoa p.2).length + 3 := by simp [Jn.putE]; omega
    rw [e, e2, List.length_cons]
    omega
theorem procsE_len (l : List (List UInt8 × List UInt8)) (h : ∀ p ∈ l, p.1.length ≤ 8) : (Jn.procsE l).length ≤ roomP l := by
  induction l with
  | nil => simp [Jn.procsE, roomP]
  | cons p r ih =>
    have h1 := h p (by simp)
    have h3 := ih (fun q hq => h q (by simp [hq]))
    have e : (Jn.procsE (p :: r)).length = (Jn.installE p.1 p.2).length + (Jn.procsE r).length := by simp [Jn.procsE]
    have e2 : (Jn.installE p.1 p.2).length = p.1.length + p.2.length + 3 := by simp [Jn.installE]; omega
    rw [e, e2, roomP]
    omega
/-- P12: what is written anew fits. -/
theorem all_room {C : Jn.Con} (h : Jn.Ok C) : (Jn.all C).length ≤ room C ∧ room C ≤ 30000 := by
  have h1 := cellsE_len C.list (list_bd C.cells h.val 0 (by have := h.len; omega))
  have h2 := procsE_len C.procs (fun p hp => name_len _ (h.prc p hp).1)
  have h3 := roomP_le C.procs (fun p hp => (proc_bd h p hp).2)
  have h4 : C.list.length ≤ 100 := Nat.le_trans (list_len _ _) (Nat.le_of_eq h.len)
  have h5 := h.cnt
  unfold room
  simp only [Jn.all, Jn.record, List.length_append, List.length_cons, List.length_nil]
  omega

def SmRel (l : List (List UInt8 × List UInt8)) (n0 : Nat) (n i : Value) : Prop := ∃ k : Nat, k ≤ l.length ∧ i = .int .i64 k ∧ n = .int .i64 ((n0 + roomP (l.take k) : Nat) : Int)

set_option maxHeartbeats 2000000 in
set_option maxRecDepth 100000 in
theorem small_any (W D : Nat) (w : World) (vx vp vc vq va s1 s2 : Value) (a b : ByteArray) (la lb : Int) (C : Jn.Con) (hW : WAt w W vx (.pointer (some ⟨D, 0, none⟩)) vp vc vq va) (hD : DAt w D a b la lb)
    (h1 : CRow w 0 s1 C.list) (h2 : PRow w 0 s2 C.procs) (hok : Jn.Ok C) (hs : a.size + b.size ≤ room C) :
    Calls Tryz.prog 105 #[.pointer (some ⟨W, 0, none⟩), .agg #[s1, s2]] w fun e w' => e = .returned (.bool true) ∧ Below w.heap.size w w' := by
  obtain ⟨o1, k1, rfl⟩ := crow_slice h1
  obtain ⟨o2, k2, rfl, hcs⟩ := h2.shape
  obtain ⟨-, c1, -, -, -, -⟩ := hW.cell
  have hcn := hok.cnt
  have hl1 : C.list.length ≤ 100 := Nat.le_trans (list_len _ _) (Nat.le_of_eq hok.len)
  have hpb := fun p hp => (proc_bd hok p hp).2
  have hr3 := (all_room hok).2
  unfold room at hs hr3
  obtain ⟨w1, hw1⟩ : ∃ w1, w1 = w.alloc (.cells #[.slice o1 C.list.length k1, .slice o2 C.procs.length k2] 128) := ⟨_, rfl⟩
  obtain ⟨B0, hB0⟩ : ∃ B0, B0 = w.heap.size := ⟨_, rfl⟩
  have hB1 : Below w.heap.size w w1 := by rw [hw1]; exact (Below.refl _ _).alloc (Nat.le_refl _) _
  have hbo : w1.heap[B0]? = some (.cells #[.slice o1 C.list.length k1, .slice o2 C.procs.length k2] 128 (0, 0)) := by rw [hw1, hB0]; exact heap_alloc_new w _
  have q0 : w1.cell? ⟨B0, 0, none⟩ = some (.slice o1 C.list.length k1) := (cell_of_row w1 B0 0 _ _ _ hbo).trans rfl
  have q1 : w1.cell? ⟨B0, 1, none⟩ = some (.slice o2 C.procs.length k2) := (cell_of_row w1 B0 1 _ _ _ hbo).trans rfl
  have hD1 : DAt w1 D a b la lb := hD.fr (Fr.of (L := 0) (T := []) (X := none) hB1 (Nat.zero_le _)) (by simp) (by simp)
  have e1 := at_old hB1 c1
  have HSZ := hide (size_any D a b la lb w1 hD1 (by omega) (by omega))
  have HC := hide hcs
  have HB1 := hide hB1
  have HPB := hide hpb
  clear hcs hB1 hbo hD1 hD hW h1 h2 hok hpb c1
  generalize C.procs = ps at *
  generalize C.list.length = nl at *
  go_enter Tryz.func105, Tryz.ntmps105
  go_wp2
  rw [← hw1, ← hB0]
  clear hw1 hB0
  go_loop [5, 6] (fun n i => SmRel ps (64 + 32 * nl) n i) (fun _ i => ps.length - (intOf i).toNat)
  case atStart => exact ⟨0, Nat.zero_le _, rfl, by simp [roomP]⟩
  case round =>
    obtain ⟨k, hk, rfl, rfl⟩ := hrel
    have hrk : roomP (ps.take k) ≤ roomP ps := by
      have := roomP_app (ps.take k) (ps.drop k)
      rw [List.take_append_drop] at this
      omega
    by_cases hlt : k < ps.length
    · obtain ⟨g, cur, rfl, -, -, hcc⟩ := HC.out (by omega)
      obtain ⟨p, hp⟩ : ∃ p, ps[k]? = some p := ⟨ps[k], by simp [hlt]⟩
      obtain ⟨-, x2⟩ := hcc k p hp
      have d2 := at_old HB1.out x2
      have hpl := HPB.out p (List.mem_of_getElem? hp)
      have HT := hide (roomP_take ps k p hp)
      clear hcc x2 hp
      obtain ⟨p1, p2⟩ := p
      simp only [T] at d2 hpl
      obtain ⟨q2, hq2⟩ : ∃ q : ByteArray, q = ⟨p2.toArray⟩ := ⟨_, rfl⟩
      have hqs : q2.size = p2.length := by rw [hq2]; rfl
      rw [← hq2] at d2
      have hqb : q2.size ≤ 1000 := by omega
      have HQ := hide hqs
      clear hq2 hqs
      generalize roomP (ps.take k) = z at *
      go_wp2
      go_round
      case rel => exact ⟨k + 1, by omega, by go_num, by rw [HT.out]; simp only; rw [← HQ.out]; go_num⟩
      case measure => simp [intOf]; omega
    · have hkl : ps.take k = ps := List.take_of_length_le (by omega)
      rw [hkl]
      clear hkl hrk
      generalize roomP ps = z at *
      go_wp2_with fail
      refine HSZ.out.mono ?_
      rintro e w2 ⟨rfl, hb2⟩
      have HB2 : Hid (Below w.heap.size w w2) := HB1.out.trans (hb2.mono HB1.out.size)
      clear hb2
      go_wp2
      go_ret
      refine ⟨ret_bool ?_, HB2.out⟩
      simp
      omega

/-- the list of contents is laid anew. -/
theorem past_new {L W : Nat} {w : World} {vx vd vp vc vq va s1 s2 : Value} {C : Jn.Con} (hW : WAt w W vx vd vp vc vq va) (hLW : L ≤ W) (hL : L ≤ w.heap.size) (h1 : CRow w 0 s1 C.list) (h2 : PRow w 0 s2 C.procs) (hok : Jn.Ok C) :
    WAt (w.alloc (.cells #[s1, s2] 128)) W vx vd vp vc vq va ∧
    WAt ((w.alloc (.cells #[s1, s2] 128)).setCell ⟨W, 2, none⟩ (.slice (some ⟨w.heap.size, 0, none⟩) 1 1)) W vx vd (.slice (some ⟨w.heap.size, 0, none⟩) 1 1) vc vq va ∧
    PastAt L ((w.alloc (.cells #[s1, s2] 128)).setCell ⟨W, 2, none⟩ (.slice (some ⟨w.heap.size, 0, none⟩) 1 1)) (.slice (some ⟨w.heap.size, 0, none⟩) 1 1) [C] ∧
    Fr L [92] none w ((w.alloc (.cells #[s1, s2] 128)).setCell ⟨W, 2, none⟩ (.slice (some ⟨w.heap.size, 0, none⟩) 1 1)) := by
  have hb : Below w.heap.size w (w.alloc (.cells #[s1, s2] 128)) := (Below.refl _ _).alloc (Nat.le_refl _) _
  have hW1 : WAt (w.alloc (.cells #[s1, s2] 128)) W vx vd vp vc vq va := hW.fr (Fr.of (L := 0) (T := []) (X := none) hb (Nat.zero_le _)) (by simp) (by simp)
  have f1 : Fr L [92] none w (w.alloc (.cells #[s1, s2] 128)) := Fr.of hb hL
  have f2 : Fr L [92] none (w.alloc (.cells #[s1, s2] 128)) ((w.alloc (.cells #[s1, s2] 128)).setCell ⟨W, 2, none⟩ (.slice (some ⟨w.heap.size, 0, none⟩) 1 1)) :=
    (fr_setCell _ W 2 _ hLW).typed (fun k hk => by cases hk; exact ⟨_, _, _, hW1, by simp⟩) none
  refine ⟨hW1, wat_set hW1 2 _, ⟨[(s1, s2)], ?_, rfl, ?_⟩, f1.trans f2⟩
  · have ho : (w.alloc (.cells #[s1, s2] 128)).ownsRow L 128 2 (.slice (some ⟨w.heap.size, 0, none⟩) 1 1) 1 (pairs [(s1, s2)]) :=
      ⟨rfl, .inr ⟨w.heap.size, 1, #[s1, s2], rfl, hL, heap_alloc_new w _, Nat.le_refl _, by decide, rfl, rfl⟩⟩
    exact own_fr ho f2 (by decide) (.inl rfl)
  · intro i s C' hs hC'
    match i, hs, hC' with
    | 0, hs, hC' =>
      simp at hs hC'
      subst hs hC'
      exact ⟨own_fr h1 (f1.trans f2) (by decide) (.inl rfl), own_fr h2 (f1.trans f2) (by decide) (.inl rfl), hok⟩
    | i + 1, hs, hC' => simp at hs

set_option maxHeartbeats 2000000 in
set_option maxRecDepth 100000 in
theorem rests_any (L W D N M : Nat) (w : World) (vx : Value) (past : List Jn.Con) (d : DS) (nc nq na : Nat) (C : Jn.Con) (hlaw : LawAt L W D N M w vx past d nc nq na) (hC : past[past.length - 1]? = some C) (hok : Jn.Ok C) (hb : past.length ≤ 9000000000000) :
    Calls Tryz.prog 121 #[.pointer (some ⟨W, 0, none⟩)] w fun e w' => e = .returned (.tuple #[]) ∧ LawAt L W D N M w' vx [C] d nc nq na ∧ Fr L [92] none w w' := by
  obtain ⟨vp, vc, vq, va, lcs, lqs, lxs, hW, hpast, hh1, e1, hh2, e2, hh3, e3⟩ := hlaw.rest
  have HN := hide (now_any L W w _ _ vp vc vq va past C hW hpast hC hb)
  have HL := hide hlaw
  have HW := hide hW
  have HH : Hid (HoldRow L N w 102 35 mkC vc lcs ∧ lcs.length = nc ∧ HoldRow L N w 62 42 mkP vq lqs ∧ lqs.length = nq ∧ HoldRow L M w 136 58 mkA va lxs ∧ lxs.length = na) := ⟨hh1, e1, hh2, e2, hh3, e3⟩
  have hLw := hlaw.low
  clear hlaw hW hpast hC hh1 e1 hh2 e2 hh3 e3
  go_enter Tryz.func121, Tryz.ntmps121
  go_wp2_with fail
  refine HN.out.mono ?_
  rintro e w1 ⟨sc, sp, rfl, hcr, hpr, hb1⟩
  obtain ⟨o1, k1, rfl⟩ := crow_slice hcr
  obtain ⟨o2, k2, rfl, -⟩ := hpr.shape
  obtain ⟨w2, hw2⟩ : ∃ w2, w2 = w1.alloc (.cells #[.slice o1 C.list.length k1, .slice o2 C.procs.length k2] 128) := ⟨_, rfl⟩
  have hb2 : Below w1.heap.size w1 w2 := by rw [hw2]; exact (Below.refl _ _).alloc (Nat.le_refl _) _
  have hB : Below w.heap.size w w2 := hb1.trans (hb2.mono hb1.size)
  have hW2 := HW.out.fr (Fr.of (L := 0) (T := []) (X := none) hB (Nat.zero_le _)) (by simp) (by simp)
  have q0 : w2.cell? ⟨w1.heap.size, 0, none⟩ = some (.slice o1 C.list.length k1) := by rw [hw2]; simp
  have q1 : w2.cell? ⟨w1.heap.size, 1, none⟩ = some (.slice o2 C.procs.length k2) := by rw [hw2]; simp
  have hfin := past_new (L := L) hW2 HL.out.lw (Nat.le_trans hLw hB.size) (hcr.below hb2) (hpr.below hb2) hok
  obtain ⟨W3, W4, P4, F4⟩ := hfin
  obtain ⟨-, -, c2, -, -, -⟩ := W3.cell
  have z2 := W3.fz 2
  have HW4 := hide W4
  have HP4 := hide P4
  have HF4 : Hid (Fr L [92] none w ((w2.alloc (.cells #[.slice o1 C.list.length k1, .slice o2 C.procs.length k2] 128)).setCell ⟨W, 2, none⟩ (.slice (some ⟨w2.heap.size, 0, none⟩) 1 1))) := (Fr.of hB hLw).trans F4
  have HE : Hid (w1.alloc (.cells #[.slice o1 C.list.length k1, .slice o2 C.procs.length k2] 128) = w2) := hw2.symm
  clear hcr hpr hb1 hb2 hB hW2 W3 W4 P4 F4 hw2 HN
  go_upto_region 1 with fail
  rw [HE.out]
  go_wp2
  go_end0
  obtain ⟨hh1, e1, hh2, e2, hh3, e3⟩ := HH.out
  refine ⟨rfl, ⟨HL.out.lw, HL.out.ld, HL.out.disk.fr HF4.out (by decide) (by simp), _, vc, vq, va, lcs, lqs, lxs, HW4.out, HP4.out, hh1.fr HF4.out (by decide) (by decide) (by simp) (.inl rfl), e1, hh2.fr HF4.out (by decide) (by decide) (by simp) (.inl rfl), e2, hh3.fr HF4.out (by decide) (by decide) (by simp) (.inl rfl), e3⟩, HF4.out⟩
end Go.Proofs.YtellilpeakpbfaaGreatDoor

end

section
/-
  The walk of settles.
-/
namespace Go.Proofs.YtellilpeakpbfaaGreatDoor
open Go.RowKit

set_option maxHeartbeats 4000000 in
set_option maxRecDepth 100000 in
theorem settles_any (L W D N M m : Nat) (w : World) (vx : Value) (past : List Jn.Con) (d d' : DS) (nc nq na : Nat) (C : Jn.Con) (v : Value) (l : List ActP)
    (hlaw : LawAt L W D N M w vx past d nc nq na) (hLM : L ≤ M) (hN : N ≤ w.heap.size) (hM : M ≤ w.heap.size) (hr : ARow w M v l) (hl : l.length ≤ 8) (hp : playL d l = some d') (hC : past[m]? = some C) (hok : Jn.Ok C)
    (hs : d'.1.size + d'.2.1.size ≤ room C) (hna : na ≤ 4000000000000) (hb : past.length ≤ 9000000000000) :
    Calls Tryz.prog 68 #[.pointer (some ⟨W, 0, none⟩), v, .int .i64 m] w fun e w' => e = .returned (.bool true) ∧
      LawAt L W D w'.heap.size w'.heap.size w' vx [C] d' nc nq (na + 3) ∧ Fr L [97, 92, 58, 136] none w w' := by
  obtain ⟨vp, vc, vq, va, lcs, lqs, lxs, hW, hpast, hh1, e1, hh2, e2, hh3, e3⟩ := hlaw.rest
  obtain ⟨-, c1, -, -, -, -⟩ := hW.cell
  have HAL := hide (allD_any L D M d d' v l w hlaw.disk hlaw.ld hr (by omega) hp)
  obtain ⟨ao, cap, hv, -⟩ := hr.shape
  subst hv
  have hLw := hlaw.low
  have hml : m < past.length := (List.getElem?_eq_some_iff.1 hC).1
  have HL := hide hlaw
  have HR := hide hr
  have HW := hide hW
  have HPA := hide hpast
  have HC := hide hC
  have HH1 := hide hh1
  have HH2 := hide hh2
  have HH3 := hide hh3
  have HE : Hid (lcs.length = nc ∧ lqs.length = nq ∧ lxs.length = na) := ⟨e1, e2, e3⟩
  clear hlaw hr hW hpast hC hh1 hh2 hh3 e1 e2 e3
  go_enter Tryz.func68, Tryz.ntmps68
  go_wp2_with fail
  refine HAL.out.mono ?_
  rintro e w1 ⟨rfl, hd1, hf1⟩
  have W1 := HW.out.fr hf1 (by decide) (by simp)
  have H31 := HH3.out.fr hf1 (by decide) (by decide) (by simp) (.inl rfl)
  have hAR1 : ARow w1 M (.slice ao l.length cap) l := HR.out.fr hf1 (by decide) (.inl rfl)
  have HK := hide (keepActs_any L M W w1 vx _ vp vc vq va lxs _ l.length _ W1 HL.out.lw H31 hAR1 (by omega) hLM (Nat.le_trans hM hf1.size) (by rw [HE.out.2.2]; omega))
  have HF1 := hide hf1
  have HD1 := hide hd1
  have HAR1 := hide hAR1
  clear hd1 hf1 W1 H31 hAR1 HAL
  go_wp2_with fail
  refine HK.out.mono ?_
  rintro e w2 ⟨va2, lx2, rfl, hW2, hh2', hl2, hf2⟩
  have F2 : Fr L [97, 92, 58, 136] none w w2 := by
    refine (HF1.out.wide (by simp)).trans ((hf2.wide (T' := [97, 92, 58, 136]) (by simp)).typed (fun k hk => ?_) none)
    rcases HAR1.out.2 with ⟨h0, _⟩ | ⟨g, cap', cur, h0, hb, hh, _⟩
    · rw [h0] at hk; simp [Value.ownBlock] at hk
    · rw [h0] at hk
      simp [Value.ownBlock] at hk
      subst hk
      exact ⟨cur, _, _, hh, by simp⟩
  have hD2 : DsAt w2 D d' := HD1.out.fr hf2 (by decide) (own_neB HAR1.out HD1.out (by decide))
  have hP2 := HPA.out.fr F2 (by decide) (by decide) (by decide)
  obtain ⟨ss, hrow, hsl, hss⟩ := hP2
  obtain ⟨s, hs'⟩ : ∃ s, ss[m]? = some s := ⟨ss[m]'(by omega), by simp [show m < ss.length by omega]⟩
  obtain ⟨hsc, hsp, -⟩ := hss m s C hs' HC.out
  have hrow' : w2.ownsRow L 128 2 vp ss.length (pairs ss) := by rw [hsl]; exact hrow
  obtain ⟨po, pcap, hvp, hsh⟩ := pair_shape hrow'
  obtain ⟨pg, pcur, rfl, -, hpg, hpc⟩ := hsh (by omega)
  obtain ⟨p0, p1⟩ := hpc m s hs'
  obtain ⟨s1, s2⟩ := s
  obtain ⟨so, sk, hs1⟩ := crow_slice hsc
  obtain ⟨qo, qk, hs2, -⟩ := hsp.shape
  simp only at hs1 hs2 p0 p1 hsc hsp
  subst hs1 hs2
  obtain ⟨-, b1, b2, -, -, -⟩ := hW2.cell
  rw [hvp, hsl] at b2
  have hmi : (m : Int) < (past.length : Int) := by omega
  obtain ⟨W3, W4, P4, F4⟩ := past_new (L := L) hW2 HL.out.lw (Nat.le_trans hLw F2.size) hsc hsp hok
  obtain ⟨-, -, b3, -, -, -⟩ := W3.cell
  rw [hvp, hsl] at b3
  have z3 := W3.fz 2
  obtain ⟨w4, hw4⟩ : ∃ w4, (w2.alloc (.cells #[.slice so C.list.length sk, .slice qo C.procs.length qk] 128)).setCell ⟨W, 2, none⟩ (.slice (some ⟨w2.heap.size, 0, none⟩) 1 1) = w4 := ⟨_, rfl⟩
  rw [hw4] at W4 P4 F4
  obtain ⟨-, x1, x2, -, -, -⟩ := W4.cell
  have hbc : w4.heap[w2.heap.size]? = some (.cells #[.slice so C.list.length sk, .slice qo C.procs.length qk] 128 (0, 0)) := by
    rw [← hw4, heap_setCell_other _ _ _ _ (by simp; have := hW2.lt; omega)]
    exact heap_alloc_new w2 _
  have y0 : w4.cell? ⟨w2.heap.size, 0, none⟩ = some (.slice so C.list.length sk) := (cell_of_row w4 _ 0 _ _ _ hbc).trans rfl
  have y1 : w4.cell? ⟨w2.heap.size, 1, none⟩ = some (.slice qo C.procs.length qk) := (cell_of_row w4 _ 1 _ _ _ hbc).trans rfl
  have hD4 : DsAt w4 D d' := hD2.fr F4 (by decide) (by simp)
  have HSM := hide (small_any W D w4 _ _ _ _ _ _ _ d'.1 d'.2.1 d'.2.2.1 d'.2.2.2 C W4 hD4 (own_fr hsc F4 (by decide) (.inl rfl)) (own_fr hsp F4 (by decide) (.inl rfl)) hok hs)
  have HFT : Hid (Fr L [97, 92, 58, 136] none w w4) := F2.trans (F4.wide (by simp))
  have HFIN : Hid (LawAt L W D w4.heap.size w4.heap.size w4 vx [C] d' nc nq (na + 3)) := by
    refine ⟨HL.out.lw, HL.out.ld, hD4, _, vc, vq, va2, lcs, lqs, lx2, W4, P4, ?_, HE.out.1, ?_, HE.out.2.1, ?_, by rw [hl2, HE.out.2.2]⟩
    · exact (HH1.out.fr HFT.out (by decide) (by decide) (by simp) (.inl rfl)).mono (Nat.le_trans hN HFT.out.size)
    · exact (HH2.out.fr HFT.out (by decide) (by decide) (by simp) (.inl rfl)).mono (Nat.le_trans hN HFT.out.size)
    · exact (hh2'.fr F4 (by decide) (by decide) (by simp) (.inl rfl)).mono F4.size
  have HE4 := hide hw4
  clear F2 hD2 hrow hss hsh hpc hs' hsc hsp hrow' hpg W3 W4 P4 F4 hbc hD4 hW2 hh2' hl2 hf2 HK hw4 hvp hsl
  go_upto_region 4 with fail
  rw [HE4.out]
  go_wp2_with fail
  refine HSM.out.mono ?_
  rintro e w5 ⟨rfl, hb5⟩
  have HL5 : Hid (LawAt L W D w5.heap.size w5.heap.size w5 vx [C] d' nc nq (na + 3)) := (HFIN.out.below hb5).mono hb5.size hb5.size
  have HF5 : Hid (Fr L [97, 92, 58, 136] none w w5) := HFT.out.trans (Fr.of hb5 (Nat.le_trans hLw HFT.out.size))
  clear hb5 HSM
  go_wp2
  go_ret
  exact ⟨rfl, HL5.out, HF5.out⟩
end Go.Proofs.YtellilpeakpbfaaGreatDoor

end

section
/-
  The walk of World.lasts: Sync, Open.
-/
namespace Go.Proofs.YtellilpeakpbfaaGreatDoor
open Go.RowKit

set_option maxHeartbeats 400000 in
set_option maxRecDepth 100000 in
theorem sync_any (L S B : Nat) (C : Jn.Con) (f : Int) (w : World) (h : StAt L w S B C f) : Calls Tryz.prog 43 #[.pointer (some ⟨S, 0, none⟩)] w fun e w' => ∃ v, e = .returned v ∧ ARow w' w.heap.size v [(2, f, [])] ∧ Below w.heap.size w w' := by
  obtain ⟨-, c1, -, -⟩ := h.cells
  clear h
  go_enter Tryz.func43, Tryz.ntmps43
  go_wp2
  go_ret
  refine ⟨_, rfl, arow_new w w.heap.size (Nat.le_refl _) [(2, f, [])] 1 rfl _ ?_ (by decide), (Below.refl w.heap.size w).alloc (Nat.le_refl _) _⟩
  simp only [acts3, List.flatMap_cons, List.flatMap_nil]
  rfl

/-- the file that tells is made lasting. -/
theorem DiskOk.sync {d : DS} {f : Int} {C : Jn.Con} (h : DiskOk d f C) : ∃ d', playL d [(2, f, [])] = some d' ∧ DiskOk d' f C ∧ d'.1 = d.1 ∧ d'.2.1 = d.2.1 := by
  obtain ⟨a, b, la, lb⟩ := d
  rcases h with ⟨rfl, h1, h2⟩ | ⟨rfl, h1, h2⟩
  · exact ⟨(a, b, (a.size : Int), lb), rfl, .inl ⟨rfl, h1, h2⟩, rfl, rfl⟩
  · exact ⟨(a, b, la, (b.size : Int)), rfl, .inr ⟨rfl, h1, h2⟩, rfl, rfl⟩

set_option maxHeartbeats 8000000 in
set_option maxRecDepth 100000 in
theorem lasts_sync (L W D m : Nat) (w : World) (C : Jn.Con) (o : OpD) (ho : o.kind = 11) (h : SInv L W D w C m) (hm : m ≤ 1300000000000) :
    Calls Tryz.prog 74 #[.pointer (some ⟨W, 0, none⟩), .agg o.cells, .bool false] w (StepPost L W D m w) := by
  obtain ⟨S, B, f, past, d, nc, nq, na, hlaw, hst, hlast, hpm, hnc, hnq, hna, hdk, hds, hpl⟩ := h
  have hok : Jn.Ok C := hst.con.ok
  obtain ⟨w1, hw1⟩ : ∃ w1, w1 = w.alloc (.cells o.cells 83) := ⟨_, rfl⟩
  obtain ⟨B0, hB0⟩ : ∃ B0, B0 = w.heap.size := ⟨_, rfl⟩
  have hB1 : Below w.heap.size w w1 := by rw [hw1]; exact (Below.refl _ _).alloc (Nat.le_refl _) _
  have hbo : w1.heap[B0]? = some (.cells o.cells 83 (0, 0)) := by rw [hw1, hB0]; exact heap_alloc_new w _
  have hlaw1 := (hlaw.below hB1).mono hB1.size hB1.size
  have hst1 := hst.below hB1
  have hLw := hlaw1.low
  obtain ⟨d', hpd, hdk', e1, e2⟩ := hdk.sync
  have HACT := hide (fun (w2 : World) (v : Value) (hb2 : Below w1.heap.size w1 w2) hr => acted_any L W D w1.heap.size w1.heap.size w2 (.pointer (some ⟨S, 0, none⟩)) past d d' nc nq na v [(2, f, [])] 64 false o (hlaw1.below hb2) hLw hb2.size hb2.size hr (by simp) (by simp [lens]) (by simp [lens]) (.inr (by simp)) hpd (by omega))
  have HSY := hide (sync_any L S B C f w1 hst1)
  have HRS : Hid (∀ x : World, LawAt L W D x.heap.size x.heap.size x (.pointer (some ⟨S, 0, none⟩)) past d' nc nq (na + 3) → Fr L [97, 92, 58, 136] none w1 x →
      Calls Tryz.prog 121 #[.pointer (some ⟨W, 0, none⟩)] x (fun e w9 => e = .returned (.tuple #[]) ∧ StepPost L W D m w (.returned (.bool true)) w9)) := by
    intro x hx hf
    refine (rests_any L W D _ _ x _ past d' nc nq (na + 3) C hx hlast hok (by omega)).mono ?_
    rintro e w9 ⟨rfl, hl9, hf9⟩
    refine ⟨rfl, rfl, ⟨C, S, B, f, [C], d', nc, nq, na + 3, hl9.mono hf9.size hf9.size, (hst1.fr hf (by decide) (by decide) (by decide) (by simp)).fr hf9 (by decide) (by decide) (by decide) (by simp), by simp, by simp, by omega, by omega, by omega, hdk', by rw [e1, e2]; omega, hpl⟩, ?_⟩
    exact ((hB1.mono hlaw.low).trans hf.below).trans hf9.below
  obtain ⟨vp, vc, vq, va, lcs, lqs, lxs, hWA, -, -, -, -, -, -, -⟩ := hlaw1.rest
  obtain ⟨c0, -, -, -, -, -⟩ := hWA.cell
  obtain ⟨kk, nn, mm, s, t, lo, ln, lc, cut, wo, wn, wc⟩ := o
  simp only at ho
  subst ho
  simp only [OpD.cells] at hbo hw1 HACT ⊢
  have p0 := (cell_of_row w1 B0 0 _ _ _ hbo).trans rfl
  have p1 := (cell_of_row w1 B0 1 _ _ _ hbo).trans rfl
  have p2 := (cell_of_row w1 B0 2 _ _ _ hbo).trans rfl
  have p3 := (cell_of_row w1 B0 3 _ _ _ hbo).trans rfl
  have p4 := (cell_of_row w1 B0 4 _ _ _ hbo).trans rfl
  have p5 := (cell_of_row w1 B0 5 _ _ _ hbo).trans rfl
  have p6 := (cell_of_row w1 B0 6 _ _ _ hbo).trans rfl
  have p7 := (cell_of_row w1 B0 7 _ _ _ hbo).trans rfl
  clear hB1 hlaw hst hlaw1 hst1 hWA hdk' hpd e1 e2
  have HBO := hide hbo
  clear hbo
  go_enter Tryz.func74, Tryz.ntmps74
  go_upto_region 3 with fail
  rw [← hw1, ← hB0]
  have HW1 := hide hw1
  have HB0 := hide hB0
  clear hw1 hB0
  go_wp2_with fail
  refine HSY.out.mono ?_
  rintro e w2 ⟨v, rfl, hr, hb2⟩
  have hbo := (hb2.block B0 (Array.getElem?_eq_some_iff.1 HBO.out).1).trans HBO.out
  have p0 := (cell_of_row w2 B0 0 _ _ _ hbo).trans rfl
  have p1 := (cell_of_row w2 B0 1 _ _ _ hbo).trans rfl
  have p2 := (cell_of_row w2 B0 2 _ _ _ hbo).trans rfl
  have p3 := (cell_of_row w2 B0 3 _ _ _ hbo).trans rfl
  have p4 := (cell_of_row w2 B0 4 _ _ _ hbo).trans rfl
  have p5 := (cell_of_row w2 B0 5 _ _ _ hbo).trans rfl
  have p6 := (cell_of_row w2 B0 6 _ _ _ hbo).trans rfl
  have p7 := (cell_of_row w2 B0 7 _ _ _ hbo).trans rfl
  have HA := hide (HACT.out w2 v hb2 hr)
  have HB2 := hide hb2
  clear hbo hb2 hr HACT HSY
  go_wp2_with fail
  refine HA.out.mono ?_
  rintro e w3 ⟨rfl, hl3, hf3⟩
  have HR := hide (HRS.out w3 hl3 ((Fr.of HB2.out hLw).trans hf3))
  clear hl3 hf3 HRS HA
  go_wp2_with fail
  refine HR.out.mono ?_
  rintro e w9 ⟨rfl, hfin⟩
  have HFIN := hide hfin
  clear hfin HR
  go_wp2_with fail
  go_ret
  exact HFIN.out

set_option maxHeartbeats 8000000 in
set_option maxRecDepth 100000 in
theorem lasts_open (L W D m : Nat) (w : World) (C : Jn.Con) (o : OpD) (ho : o.kind = 13) (h : SInv L W D w C m) (hm : m ≤ 1300000000000) (hP : PowAt w) (hWd : WordsAt w) :
    Calls Tryz.prog 74 #[.pointer (some ⟨W, 0, none⟩), .agg o.cells, .bool false] w (StepPost L W D m w) := by
  obtain ⟨S, B, f, past, d, nc, nq, na, hlaw, hst, hlast, hpm, hnc, hnq, hna, hdk, hds, hpl⟩ := h
  have hok : Jn.Ok C := hst.con.ok
  have hf01 := hst.file
  obtain ⟨k, hk⟩ : ∃ k, past.length = k + 1 := ⟨past.length - 1, by cases past <;> simp at hlast ⊢⟩
  rw [hk, Nat.add_sub_cancel] at hlast
  obtain ⟨w1, hw1⟩ : ∃ w1, w1 = w.alloc (.cells o.cells 83) := ⟨_, rfl⟩
  have hB1 : Below w.heap.size w w1 := by rw [hw1]; exact (Below.refl _ _).alloc (Nat.le_refl _) _
  have hlaw1 := (hlaw.below hB1).mono hB1.size hB1.size
  have hLw := hlaw1.low
  have HOP := hide (opened_last L W D _ _ w1 _ past d nc nq na k C f hlaw1 (Nat.le_refl _) (Nat.le_refl _) hk hlast (hWd.below hWd.1 hB1) (hP.below hP.1 hB1) (by omega) (by omega) hdk.two (by omega) (by omega) (by omega))
  obtain ⟨d', hpd, hdk', hsz⟩ := DiskOk.move (d := d) hf01 hok hpl (Nat.le_trans (all_room hok).1 (Nat.le_trans (all_room hok).2 (by omega)))
  have hrm := (all_room hok).2
  have hra := (all_room hok).1
  have HST : Hid (∀ (x : World) (S' B' : Nat) (v : Value), LawAt L W D x.heap.size w1.heap.size x (.pointer (some ⟨S', 0, none⟩)) past d (nc + 3) (nq + 3) na → StAt L x S' B' C (1 - f) → ARow x w1.heap.size v (moveActs C f) → Below L w1 x →
      Calls Tryz.prog 68 #[.pointer (some ⟨W, 0, none⟩), v, .int .i64 k] x (fun e w9 => e = .returned (.bool true) ∧ StepPost L W D m w (.returned (.bool true)) w9)) := by
    intro x S' B' v hl hs' hr hb
    refine (settles_any L W D x.heap.size w1.heap.size k x _ past d d' (nc + 3) (nq + 3) na C v _ hl hLw (Nat.le_refl _) hb.size hr (by simp [moveActs]) hpd hlast hok (by omega) (by omega) (by omega)).mono ?_
    rintro e w9 ⟨rfl, hl9, hf9⟩
    refine ⟨rfl, rfl, ⟨C, S', B', 1 - f, [C], d', nc + 3, nq + 3, na + 3, hl9, hs'.fr hf9 (by decide) (by decide) (by decide) (by simp), by simp, by simp, by omega, by omega, by omega, hdk', by omega, hpl⟩, ?_⟩
    exact ((hB1.mono hlaw.low).trans hb).trans hf9.below
  obtain ⟨vp, vc, vq, va, lcs, lqs, lxs, hWA, hpast, -, -, -, -, -, -⟩ := hlaw1.rest
  obtain ⟨-, -, c2, -, -, -⟩ := hWA.cell
  obtain ⟨ss, hrow, -, -⟩ := hpast
  obtain ⟨vo, vk, hvp, -, -⟩ := own_slice hrow
  rw [hvp, hk] at c2
  have hkb : k + 1 ≤ 9000000000000 := by omega
  obtain ⟨kk, nn, mm, s, t, lo, ln, lc, cut, wo, wn, wc⟩ := o
  simp only at ho
  subst ho
  simp only [OpD.cells] at hw1 ⊢
  clear hB1 hlaw hst hlaw1 hWA hrow hdk hdk' hsz hpd hlast hok hpl hrm hra
  go_enter Tryz.func74, Tryz.ntmps74
  go_upto_region 17 with fail
  rw [← hw1]
  have HW1 := hide hw1
  clear hw1
  go_wp2_with fail
  refine HOP.out.mono ?_
  rintro e w2 ⟨S', B', v, rfl, hl2, hs2, hr2, hb2⟩
  have HR := hide (HST.out w2 S' B' v hl2 hs2 hr2 hb2)
  clear hl2 hs2 hr2 hb2 HST HOP
  go_wp2_with fail
  refine HR.out.mono ?_
  rintro e w9 ⟨rfl, hfin⟩
  have HFIN := hide hfin
  clear hfin HR
  go_wp2_with fail
  go_ret
  exact HFIN.out
end Go.Proofs.YtellilpeakpbfaaGreatDoor

end
