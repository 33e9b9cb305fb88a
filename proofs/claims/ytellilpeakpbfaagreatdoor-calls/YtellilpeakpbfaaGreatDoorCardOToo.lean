import Derived.Test.YtellilpeakpbfaaGreatDoorStpToo
import Derived.BigQuiet
import Derived.ProofKit
import Derived.OpenShut
import Derived.Deep.Slices
import Derived.ChangeSame
import Derived.Carry
section
/-
  The walk of begin: the store of two empty files.
-/
namespace Go.Proofs.YtellilpeakpbfaaGreatDoor
open Go.RowKit

/-- the world that begin makes. -/
def beg1 (w : World) : World := w.alloc (.cells #[.string ⟨#[]⟩, .string ⟨#[]⟩, .int .i64 0, .int .i64 0] 97)
def beg2 (w : World) : World := (beg1 w).alloc (.cells #[.slice none 0 0, .slice none 0 0] 128)
def begW (w : World) : World := (beg2 w).alloc (.cells #[.pointer none, .pointer (some ⟨w.heap.size, 0, none⟩), .slice (some ⟨w.heap.size + 1, 0, none⟩) 1 1, .slice none 0 0, .slice none 0 0, .slice none 0 0] 92)

theorem beg_empty : Jn.readTwo [] [] = some (Jn.none0, 1) := rfl

theorem beg_law (w : World) : Below w.heap.size w (begW w) ∧ LawAt w.heap.size (w.heap.size + 2) w.heap.size (begW w).heap.size (begW w).heap.size (begW w) (.pointer none) [Jn.none0] (⟨#[]⟩, ⟨#[]⟩, 0, 0) 0 0 0 := by
  have s1 : (beg1 w).heap.size = w.heap.size + 1 := World.size_alloc ..
  have s2 : (beg2 w).heap.size = w.heap.size + 2 := by unfold beg2; rw [World.size_alloc, s1]
  have b1 : Below w.heap.size w (beg1 w) := (Below.refl _ _).alloc (Nat.le_refl _) _
  have b2 : Below (beg1 w).heap.size (beg1 w) (beg2 w) := (Below.refl _ _).alloc (Nat.le_refl _) _
  have b3 : Below (beg2 w).heap.size (beg2 w) (begW w) := (Below.refl _ _).alloc (Nat.le_refl _) _
  have hD : (begW w).heap[w.heap.size]? = some (.cells #[.string ⟨#[]⟩, .string ⟨#[]⟩, .int .i64 0, .int .i64 0] 97 (0, 0)) :=
    (b3.block _ (by omega)).trans ((b2.block _ (by omega)).trans (heap_alloc_new w _))
  have hR : (begW w).heap[w.heap.size + 1]? = some (.cells #[.slice none 0 0, .slice none 0 0] 128 (0, 0)) := by
    have := heap_alloc_new (beg1 w) (.cells #[.slice none 0 0, .slice none 0 0] 128)
    rw [s1] at this
    exact (b3.block _ (by omega)).trans this
  have hW : WAt (begW w) (w.heap.size + 2) (.pointer none) (.pointer (some ⟨w.heap.size, 0, none⟩)) (.slice (some ⟨w.heap.size + 1, 0, none⟩) 1 1) (.slice none 0 0) (.slice none 0 0) (.slice none 0 0) := by
    have := heap_alloc_new (beg2 w) (.cells #[.pointer none, .pointer (some ⟨w.heap.size, 0, none⟩), .slice (some ⟨w.heap.size + 1, 0, none⟩) 1 1, .slice none 0 0, .slice none 0 0, .slice none 0 0] 92)
    rw [s2] at this
    exact this
  refine ⟨(b1.trans (b2.mono b1.size)).trans (b3.mono (by omega)), by omega, Nat.le_refl _, hD, _, _, _, _, [], [], [], hW, ⟨[(.slice none 0 0, .slice none 0 0)], ?_, rfl, ?_⟩, ?_, rfl, ?_, rfl, ?_, rfl⟩
  · exact ⟨rfl, .inr ⟨w.heap.size + 1, 1, #[.slice none 0 0, .slice none 0 0], rfl, by omega, hR, Nat.le_refl _, by decide, rfl, rfl⟩⟩
  · intro i s C' hs hC'
    match i, hs, hC' with
    | 0, hs, hC' =>
      simp at hs hC'
      subst hs hC'
      exact ⟨World.ownsRow_nil _ _ _ _, World.ownsRow_nil _ _ _ _, Jn.ok_none⟩
    | i + 1, hs, hC' => simp at hs
  · exact ⟨World.ownsRow_nil _ _ _ _, rfl, fun i u hu => by simp at hu⟩
  · exact ⟨World.ownsRow_nil _ _ _ _, rfl, fun i u hu => by simp at hu⟩
  · exact ⟨World.ownsRow_nil _ _ _ _, rfl, fun i u hu => by simp at hu⟩

set_option maxHeartbeats 8000000 in
set_option maxRecDepth 100000 in
theorem begin_any (w : World) (vs : Value) (hP : PowAt w) (hWd : WordsAt w) :
    Calls Tryz.prog 38 #[vs, .bool false] w fun e w' => e = .returned (.tuple #[.pointer (some ⟨w.heap.size + 2, 0, none⟩), .bool true]) ∧ SInv w.heap.size (w.heap.size + 2) w.heap.size w' Jn.none0 1 ∧ Below w.heap.size w w' := by
  obtain ⟨w1, hw1⟩ : ∃ w1, w1 = begW w := ⟨_, rfl⟩
  obtain ⟨hB1, hlaw1⟩ := beg_law w
  rw [← hw1] at hB1 hlaw1
  obtain ⟨W, hW⟩ : ∃ W, W = w.heap.size + 2 := ⟨_, rfl⟩
  rw [← hW] at hlaw1 ⊢
  have hok := Jn.ok_none
  have hLw := hB1.size
  have HOP : Hid (Calls Tryz.prog 65 #[.pointer (some ⟨W, 0, none⟩), .int .i64 0] w1 (OpenedPost w.heap.size W w.heap.size w1 [Jn.none0] (⟨#[]⟩, ⟨#[]⟩, 0, 0) 0 0 0 0 Jn.none0 1)) :=
    opened_last _ _ _ _ _ w1 _ [Jn.none0] _ 0 0 0 0 Jn.none0 1 hlaw1 (Nat.le_refl _) (Nat.le_refl _) rfl rfl (hWd.below hWd.1 hB1) (hP.below hP.1 hB1) (by show (⟨#[]⟩ : ByteArray).size ≤ _; exact Nat.zero_le _) (by show (⟨#[]⟩ : ByteArray).size ≤ _; exact Nat.zero_le _) beg_empty (by omega) (by omega) (by omega)
  obtain ⟨d', hpd, hdk', hsz⟩ := DiskOk.move (d := ((⟨#[]⟩, ⟨#[]⟩, 0, 0) : DS)) (f := 1) (.inr rfl) hok (by intro p hp; simp [Jn.none0] at hp) (Nat.le_trans (all_room hok).1 (Nat.le_trans (all_room hok).2 (by omega)))
  have hrm := (all_room hok).2
  have hra := (all_room hok).1
  have HST : Hid (∀ (x : World) (S' B' : Nat) (v : Value), LawAt w.heap.size W w.heap.size x.heap.size w1.heap.size x (.pointer (some ⟨S', 0, none⟩)) [Jn.none0] (⟨#[]⟩, ⟨#[]⟩, 0, 0) (0 + 3) (0 + 3) 0 → StAt w.heap.size x S' B' Jn.none0 (1 - 1) → ARow x w1.heap.size v (moveActs Jn.none0 1) → Below w.heap.size w1 x →
      Calls Tryz.prog 68 #[.pointer (some ⟨W, 0, none⟩), v, .int .i64 0] x (fun e w9 => e = .returned (.bool true) ∧ SInv w.heap.size W w.heap.size w9 Jn.none0 1 ∧ Below w.heap.size w w9)) := by
    intro x S' B' v hl hs' hr hb
    refine (settles_any _ _ _ x.heap.size w1.heap.size 0 x _ [Jn.none0] _ d' (0 + 3) (0 + 3) 0 Jn.none0 v _ hl hLw (Nat.le_refl _) hb.size hr (by simp [moveActs]) hpd rfl hok (by omega) (by omega) (by simp)).mono ?_
    rintro e w9 ⟨rfl, hl9, hf9⟩
    refine ⟨rfl, ⟨S', B', 1 - 1, [Jn.none0], d', 0 + 3, 0 + 3, 0 + 3, hl9, hs'.fr hf9 (by decide) (by decide) (by decide) (by simp), by simp, by simp, by omega, by omega, by omega, hdk', by omega, by intro p hp; simp [Jn.none0] at hp⟩, ?_⟩
    exact (hB1.trans hb).trans hf9.below
  clear hlaw1 hB1 hpd hdk' hsz hrm hra hok hP hWd
  unfold begW beg2 beg1 at hw1
  go_enter Tryz.func38, Tryz.ntmps38
  go_upto_region 2 with fail
  rw [← hw1, show w.heap.size + 1 + 1 = W from hW.symm]
  have HW1 := hide hw1
  have HWW := hide hW
  clear hw1 hW
  go_wp2_with fail
  refine HOP.out.mono ?_
  rintro e w2 ⟨S', B', v, he, hl2, hs2, hr2, hb2⟩
  have he' : e = .returned (.tuple #[v, .int .i64 0, .bool true]) := he
  clear he
  subst he'
  have HR := hide (HST.out w2 S' B' v hl2 hs2 hr2 hb2)
  clear hl2 hs2 hr2 hb2 HST HOP
  go_wp2_with fail
  refine HR.out.mono ?_
  rintro e w9 ⟨rfl, hfin⟩
  have HFIN := hide hfin
  clear hfin HR
  go_wp2_with fail
  go_ret2
  exact ⟨rfl, HFIN.out⟩
end Go.Proofs.YtellilpeakpbfaaGreatDoor

end

section
/-
  The walk of plays.
-/
set_option linter.unusedVariables false
namespace Go.Proofs.YtellilpeakpbfaaGreatDoor
open Go.RowKit

theorem SInv.up {L W D m : Nat} {w : World} {C : Jn.Con} (h : SInv L W D w C m) : SInv L W D w C (m + 1) := by
  obtain ⟨S, B, f, past, d, nc, nq, na, hlaw, hst, hlast, hpm, hnc, hnq, hna, hdk, hds, hpl⟩ := h
  exact ⟨S, B, f, past, d, nc, nq, na, hlaw, hst, hlast, by omega, by omega, by omega, by omega, hdk, by omega, hpl⟩
theorem still_inv {L W D m : Nat} {w : World} {C : Jn.Con} (h : SInv L W D w C m) (hm : m ≤ 1300000000001) :
    Calls Tryz.prog 40 #[.pointer (some ⟨W, 3, none⟩)] w fun e w' => e = .returned (.bool true) ∧ Below w.heap.size w w' := by
  obtain ⟨S, B, f, past, d, nc, nq, na, hlaw, hst, hlast, hpm, hnc, hnq, hna, hdk, hds, hpl⟩ := h
  obtain ⟨vp, vc, vq, va, lcs, lqs, lxs, hWA, hpast, hh1, e1, hh2, e2, hh3, e3⟩ := hlaw.rest
  exact still_any L w.heap.size W w _ _ vp vc vq va lcs lqs lxs hWA hh1 hh2 hh3 (by omega) (by omega) (by omega)

/-- The script in memory: eight cells a step. -/
def ScrAt (w : World) (g z : Nat) (ops : List OpD) : Prop := g < w.heap.size ∧ ∀ k o, ops[k]? = some o → ∀ j u, o.cells[j]? = some u → w.cell? ⟨g, z + k * 8 + j, none⟩ = some u
def KnAt (w : World) (g : Nat) (ks : List Int) : Prop := g < w.heap.size ∧ ∀ k x, ks[k]? = some x → w.cell? ⟨g, k, none⟩ = some (.int .i64 x)
theorem ScrAt.below {w w' : World} {g z : Nat} {ops : List OpD} (h : ScrAt w g z ops) (hb : Below w.heap.size w w') : ScrAt w' g z ops := ⟨Nat.lt_of_lt_of_le h.1 hb.size, fun k o ho j u hu => at_old hb (h.2 k o ho j u hu)⟩
theorem KnAt.below {w w' : World} {g : Nat} {ks : List Int} (h : KnAt w g ks) (hb : Below w.heap.size w w') : KnAt w' g ks := ⟨Nat.lt_of_lt_of_le h.1 hb.size, fun k x hx => at_old hb (h.2 k x hx)⟩

def PlRel (L W D n : Nat) (w : World) (ok i : Value) (wr : World) : Prop := ∃ k : Nat, k ≤ n ∧ i = .int .i64 k ∧ ok = .bool true ∧ (∃ C, SInv L W D wr C (k + 1)) ∧ Below L w wr
def InRel (ks : List Int) (q : Int) (w : World) (b i : Value) (wr : World) : Prop := ∃ j : Nat, j ≤ ks.length ∧ i = .int .i64 j ∧ b = .bool (decide (q ∈ ks.take j)) ∧ Below w.heap.size w wr

theorem take_in (ks : List Int) (q x : Int) (j : Nat) (h : ks[j]? = some x) : decide (q ∈ ks.take (j + 1)) = (decide (q ∈ ks.take j) || decide (x = q)) := by
  have e : ks.take (j + 1) = ks.take j ++ [x] := by rw [List.take_add_one, h]; rfl
  rw [e]
  simp only [List.mem_append, List.mem_singleton, Bool.decide_or]
  congr 1
  exact decide_eq_decide.2 ⟨Eq.symm, Eq.symm⟩

set_option maxHeartbeats 8000000 in
set_option maxRecDepth 100000 in
theorem plays_any (w : World) (ao : Option Addr) (cap gk : Nat) (ops : List OpD) (ks : List Int) (hs : 0 < ops.length → ∃ g z, ao = some ⟨g, z, none⟩ ∧ ScrAt w g z ops) (hkn : KnAt w gk ks) (hP : PowAt w) (hWd : WordsAt w) (hn : ops.length ≤ 1299999999999) (hks : ks.length ≤ 100)
    (hstep : ∀ (x : World) (W D m : Nat) (C : Jn.Con) (o : OpD), o ∈ ops → o.kind ∈ ks → SInv w.heap.size W D x C m → m ≤ 1300000000000 → PowAt x → WordsAt x → Below w.heap.size w x → Calls Tryz.prog 39 #[.pointer (some ⟨W, 0, none⟩), .agg o.cells, .bool false] x (StepPost w.heap.size W D m x)) :
    Calls Tryz.prog 12 #[.slice ao ops.length cap, .slice (some ⟨gk, 0, none⟩) ks.length ks.length, .bool false] w fun e w' => e = .returned (.bool true) ∧ Below w.heap.size w w' := by
  have HBG := hide (begin_any w (.slice ao ops.length cap) hP hWd)
  have HS := hide hs
  have HK := hide hkn
  have HP := hide hP
  have HWD := hide hWd
  have HSTEP := hide hstep
  obtain ⟨L, hL⟩ : ∃ L, L = w.heap.size := ⟨_, rfl⟩
  obtain ⟨W, hW⟩ : ∃ W, W = L + 2 := ⟨_, rfl⟩
  rw [← hL] at HBG HSTEP ⊢
  rw [← hW] at HBG
  have HL := hide hL
  clear hs hkn hP hWd hstep hL hW
  go_enter Tryz.func12, Tryz.ntmps12
  go_wp2_with fail
  refine HBG.out.mono ?_
  rintro e w1 ⟨rfl, hsi, hb1⟩
  have HI := hide hsi
  have HB1 := hide hb1
  clear hsi hb1 HBG
  go_wp2_with fail
  go_loopw [8, 9] (fun ok i wr => PlRel L W L ops.length w ok i wr) (fun _ i _ => ops.length - (intOf i).toNat)
  case atStart => exact ⟨0, Nat.zero_le _, rfl, rfl, ⟨_, HI.out⟩, HB1.out⟩
  case round =>
    clear HI HB1
    obtain ⟨k, hk, rfl, rfl, ⟨C, hsi⟩, hb⟩ := hrel
    have HI := hide hsi
    have HB := hide hb
    clear hsi hb
    by_cases hkl : k < ops.length
    · obtain ⟨g, z, rfl, hsc⟩ := HS.out (by omega)
      have HSC := hide hsc
      clear hsc HS
      have ho : ops[k]? = some ops[k] := List.getElem?_eq_getElem hkl
      obtain ⟨o, hoe⟩ : ∃ o, o = ops[k] := ⟨_, rfl⟩
      rw [← hoe] at ho
      have hmem : o ∈ ops := by rw [hoe]; exact List.getElem_mem hkl
      have HM := hide hmem
      have HSB : Hid (ScrAt wr g z ops ∧ KnAt wr gk ks) := ⟨HSC.out.below (HL.out ▸ HB.out), HK.out.below (HL.out ▸ HB.out)⟩
      have HO := hide ho
      clear ho hoe hmem
      obtain ⟨wo, rfl⟩ : ∃ wo : World, wo = wr := ⟨_, rfl⟩
      go_wp2_with fail
      go_loopw [10, 11] (fun b i x => InRel ks o.kind wo b i x) (fun _ i _ => ks.length - (intOf i).toNat)
      case atStart => exact ⟨0, Nat.zero_le _, rfl, by simp, Below.refl _ _⟩
      case round =>
        obtain ⟨j, hj, rfl, rfl, hbi⟩ := hrel
        have HBI := hide hbi
        clear hbi
        by_cases hjl : j < ks.length
        · obtain ⟨x, hx⟩ : ∃ x, ks[j]? = some x := ⟨ks[j], List.getElem?_eq_getElem hjl⟩
          have d0 := (HSB.out.1.below HBI.out).2 k o HO.out 0 (.int .i64 o.kind) rfl
          have d1 := (HSB.out.2.below HBI.out).2 j x hx
          simp only [Nat.add_zero] at d0
          have HT := hide (take_in ks o.kind x j hx)
          clear hx
          generalize decide (o.kind ∈ ks.take j) = b at HT
          cases b with
          | true =>
            go_wp2_with fail
            go_quiet (fail)
            all_goals go_wp2
            all_goals go_round
            case rel => exact ⟨j + 1, by omega, by go_num, by rw [HT.out]; rfl, below_drewN HBI.out _⟩
            case measure => simp [intOf]; omega
          | false =>
            go_wp2_with fail
            go_quiet (fail)
            all_goals go_wp2
            all_goals go_round
            case rel => exact ⟨j + 1, by omega, by go_num, by rw [HT.out]; rfl, below_drewN HBI.out _⟩
            case measure => simp [intOf]; omega
        · have hje : ks.take j = ks := List.take_of_length_le (by omega)
          rw [hje]
          have HBW : Hid (Below w.heap.size w wr) := by
            have h1 := HB.out
            rw [HL.out] at h1
            exact h1.trans (HBI.out.mono h1.size)
          by_cases hin : o.kind ∈ ks
          · rw [decide_eq_true hin]
            have hd := (HSB.out.1.below HBI.out).2 k o HO.out
            have d0 := hd 0 (.int .i64 o.kind) rfl
            have d1 := hd 1 (.int .i64 o.n) rfl
            have d2 := hd 2 (.int .i64 o.m) rfl
            have d3 := hd 3 (.string o.s) rfl
            have d4 := hd 4 (.string o.t) rfl
            have d5 := hd 5 (.slice o.lo o.ln o.lc) rfl
            have d6 := hd 6 (.int .i64 o.cut) rfl
            have d7 := hd 7 (.slice o.wo o.wn o.wc) rfl
            simp only [Nat.add_zero] at d0
            have HC := hide (HSTEP.out wr W L (k + 1) C o HM.out hin (HI.out.below HBI.out) (by omega) (HP.out.below HP.out.1 HBW.out) (HWD.out.below HWD.out.1 HBW.out) (HL.out ▸ HBW.out))
            clear hd hin hje
            go_wp2_with fail
            refine HC.out.mono ?_
            rintro e w9 ⟨rfl, ⟨C', hsi'⟩, hb9⟩
            have HST := hide (still_inv hsi' (by omega))
            have HI9 := hide hsi'
            have HB9 := hide hb9
            clear hsi' hb9 HC
            go_wp2_with fail
            refine HST.out.mono ?_
            rintro e w10 ⟨rfl, hb10⟩
            have HB10 := hide hb10
            clear hb10 HST
            go_wp2_with fail
            go_round
            case rel =>
              refine ⟨k + 1, by omega, by go_num, rfl, ⟨C', HI9.out.below HB10.out⟩, ?_⟩
              have h1 := HBW.out
              rw [← HL.out] at h1
              exact (h1.trans HB9.out).trans (HB10.out.mono HI9.out.low)
            case measure => simp [intOf]; omega
          · rw [decide_eq_false hin]
            clear hin hje
            go_wp2_with fail
            go_round
            case rel =>
              refine ⟨k + 1, by omega, by go_num, rfl, ⟨C, (HI.out.below HBI.out).up⟩, ?_⟩
              have h1 := HBW.out
              rw [← HL.out] at h1
              exact h1
            case measure => simp [intOf]; omega
    · go_wp2_with fail
      go_ret
      exact ⟨rfl, HB.out⟩
end Go.Proofs.YtellilpeakpbfaaGreatDoor

end

section
/-
  Keeps.
-/
namespace Go.Proofs.YtellilpeakpbfaaGreatDoor
open Go.RowKit

set_option maxHeartbeats 4000000 in
set_option maxRecDepth 100000 in
theorem keeps_any (w : World) (ao : Option Addr) (cap : Nat) (ops : List OpD) (hs : 0 < ops.length → ∃ g z, ao = some ⟨g, z, none⟩ ∧ ScrAt w g z ops) (hP : PowAt w) (hWd : WordsAt w) (hn : ops.length ≤ 1299999999999)
    (hm : ∀ o ∈ ops, -9223372036854775808 ≤ o.m ∧ o.m ≤ 9223372036854775807) :
    Calls Tryz.prog 3 #[.slice ao ops.length cap] w fun e w' => e = .returned (.bool true) ∧ Below w.heap.size w w' := by
  obtain ⟨w1, hw1⟩ : ∃ w1, w1 = w.alloc (.cells #[.int .i64 3, .int .i64 4, .int .i64 5, .int .i64 6, .int .i64 11, .int .i64 13] 3) := ⟨_, rfl⟩
  have hB1 : Below w.heap.size w w1 := by rw [hw1]; exact (Below.refl _ _).alloc (Nat.le_refl _) _
  have hbk : w1.heap[w.heap.size]? = some (.cells #[.int .i64 3, .int .i64 4, .int .i64 5, .int .i64 6, .int .i64 11, .int .i64 13] 3 (0, 0)) := by rw [hw1]; exact heap_alloc_new w _
  have hkn : KnAt w1 w.heap.size [3, 4, 5, 6, 11, 13] := by
    refine ⟨(Array.getElem?_eq_some_iff.1 hbk).1, fun k x hx => ?_⟩
    rw [cell_of_row w1 w.heap.size k _ _ _ hbk]
    match k, hx with
    | 0, hx => simp at hx; subst hx; rfl
    | 1, hx => simp at hx; subst hx; rfl
    | 2, hx => simp at hx; subst hx; rfl
    | 3, hx => simp at hx; subst hx; rfl
    | 4, hx => simp at hx; subst hx; rfl
    | 5, hx => simp at hx; subst hx; rfl
    | k + 6, hx => simp at hx
  have hP1 := hP.below hP.1 hB1
  have HPL := hide (plays_any w1 ao cap w.heap.size ops [3, 4, 5, 6, 11, 13] (fun h0 => by obtain ⟨g, z, e, hsc⟩ := hs h0; exact ⟨g, z, e, hsc.below hB1⟩) hkn hP1 (hWd.below hWd.1 hB1) hn (by simp)
    (fun x W D m C o ho hk hi hm' hp hw _ => step_keeps w1.heap.size W D m x C o hk hi hm' hp hw hP1.1 (hm o ho).1 (hm o ho).2))
  simp only [List.length_cons, List.length_nil] at HPL
  have HB1 := hide hB1
  clear hs hP hWd hm hB1 hbk hkn hP1
  go_enter Tryz.func3, Tryz.ntmps3
  go_wp2_with fail
  rw [← hw1]
  refine HPL.out.mono ?_
  rintro e w9 ⟨rfl, hb9⟩
  have HFIN := hide (HB1.out.trans (hb9.mono HB1.out.size))
  clear hb9 HPL hw1
  go_wp2_with fail
  go_ret
  exact ⟨rfl, HFIN.out⟩
end Go.Proofs.YtellilpeakpbfaaGreatDoor

end

section
/-
  From the script as it is read to what the walks ask.
-/
namespace Go.Proofs.YtellilpeakpbfaaGreatDoor.Scd
open Go.ChangeShapes Go.WideShapes Go.ChangeAt Go.RowKit

section
variable {H : Type} {enc : TypeId × Value → H}

theorem cellsOp : Tryz.prog.cellsOf 83 = 8 := by kernel_rfl
theorem bytesOp : Tryz.prog.bytesOf 83 = 112 := by kernel_rfl
theorem cInt : Tryz.prog.cellsOf 3 = 1 := by kernel_rfl
theorem cStr : Tryz.prog.cellsOf 9 = 1 := by kernel_rfl
theorem cInts : Tryz.prog.cellsOf 24 = 1 := by kernel_rfl

/-- a slice of numbers is some slice. -/
theorem some_slice {W : World} {fuel : Nat} {v : Value} {x : DataW H × List MemPlace} (h : DataW.trod enc Tryz.prog W 0 (fun _ => true) true fuel 24 [v] = some x) : ∃ lo ln lc, v = .slice lo ln lc := by
  rcases DataW.trod_slice Tryz.underlying24 h with ⟨e, -⟩ | ⟨a, len, cap, elems, rest, n, _, e, _⟩
  · exact ⟨none, 0, 0, by simpa using e⟩
  · exact ⟨some a, len, cap, by simpa using e⟩

set_option maxRecDepth 100000 in
theorem op_of {W : World} {fuel : Nat} {cs : List Value} {x : DataW H × List MemPlace} (h : DataW.trod enc Tryz.prog W 0 (fun _ => true) true fuel 83 cs = some x) :
    ∃ o : OpD, cs = o.cells.toList ∧ -9223372036854775808 ≤ o.m ∧ o.m ≤ 9223372036854775807 := by
  obtain ⟨xs, n, _, -, hl, hxl, hf⟩ := DataW.trod_struct Tryz.underlying83 h
  rw [cellsOp] at hl
  match cs, hl, xs, hxl with
  | [c0, c1, c2, c3, c4, c5, c6, c7], _, [y0, y1, y2, y3, y4, y5, y6, y7], _ =>
    have g0 := hf 0 _ rfl
    have g1 := hf 1 _ rfl
    have g2 := hf 2 _ rfl
    have g3 := hf 3 _ rfl
    have g4 := hf 4 _ rfl
    have g5 := hf 5 _ rfl
    have g6 := hf 6 _ rfl
    have g7 := hf 7 _ rfl
    simp [cInt, cStr, cInts] at g0 g1 g2 g3 g4 g5 g6 g7
    obtain ⟨k0, e0, -, -⟩ := DataW.trod_int Tryz.underlying3 g0
    obtain ⟨k1, e1, -, -⟩ := DataW.trod_int Tryz.underlying3 g1
    obtain ⟨k2, e2, -, w2⟩ := DataW.trod_int Tryz.underlying3 g2
    obtain ⟨s, e3, -, -⟩ := DataW.trod_string Tryz.underlying9 g3
    obtain ⟨t, e4, -, -⟩ := DataW.trod_string Tryz.underlying9 g4
    obtain ⟨lo, ln, lc, e5⟩ := some_slice g5
    obtain ⟨k6, e6, -, -⟩ := DataW.trod_int Tryz.underlying3 g6
    obtain ⟨wo, wn, wc, e7⟩ := some_slice g7
    simp only [List.cons.injEq, and_true] at e0 e1 e2 e3 e4 e6
    subst e0 e1 e2 e3 e4 e5 e6 e7
    refine ⟨⟨k0, k1, k2, s, t, lo, ln, lc, k6, wo, wn, wc⟩, rfl, ?_⟩
    have := w2
    simp [Lit.wf] at this
    exact ⟨this.1, this.2⟩

/-- The script, opened. -/
theorem scr_of {W : World} {fuel : Nat} {v : Value} {x : DataW H × List MemPlace} (h : DataW.trod enc Tryz.prog W 0 (fun _ => true) true fuel 22 [v] = some x) :
    ∃ ao cap ops, v = .slice ao (List.length ops) cap ∧ (0 < ops.length → ∃ g z, ao = some ⟨g, z, none⟩ ∧ ScrAt W g z ops) ∧ (∀ o ∈ ops, -9223372036854775808 ≤ o.m ∧ o.m ≤ 9223372036854775807) ∧
      (ops = [] ∨ ∃ el sp, x.1 = .slice el sp ∧ el.length = ops.length) := by
  rcases Deep.open_slice Tryz.underlying22 h with ⟨e, -⟩ | ⟨a, len, cap, m, n, D, Pl, e, -, hl, -, hm, hx, hi⟩
  · exact ⟨none, 0, [], by simpa using e, by simp, by simp, .inl rfl⟩
  · have hlm : len ≤ m := by rw [hm]; simpa using hl
    rw [cellsOp] at hi
    have each : ∀ i, i < len → ∃ o : OpD, (∀ j u, o.cells[j]? = some u → W.cell? (a.add (i * 8 + j)) = some u) ∧ -9223372036854775808 ≤ o.m ∧ o.m ≤ 9223372036854775807 := by
      intro i hil
      obtain ⟨cs', h1, h2⟩ := hi i (by omega)
      obtain ⟨_, hlen, hcell⟩ := World.cells?_some h1
      obtain ⟨o, rfl, hb⟩ := op_of h2
      refine ⟨o, fun j u hu => ?_, hb⟩
      have hj : j < 8 := by have := (Array.getElem?_eq_some_iff.1 hu).1; simpa [OpD.cells] using this
      have := hcell j hj
      rw [Deep.add_add] at this
      rw [this]
      simpa using hu
    have : Inhabited OpD := ⟨⟨0, 0, 0, ⟨#[]⟩, ⟨#[]⟩, none, 0, 0, 0, none, 0, 0⟩⟩
    obtain ⟨q, hq⟩ := Deep.choose_lt each
    have hops : ∀ k o, ((List.range len).map q)[k]? = some o → k < len ∧ o = q k := by
      intro k o ho
      rw [List.getElem?_map] at ho
      by_cases hk : k < len
      · rw [List.getElem?_range hk] at ho
        simp at ho
        exact ⟨hk, ho.symm⟩
      · rw [List.getElem?_eq_none (by simp; omega)] at ho
        simp at ho
    refine ⟨some a, cap, (List.range len).map q, by simpa using e, ?_, ?_, .inr ⟨_, _, by rw [hx], by simp⟩⟩
    · intro h0
      simp at h0
      obtain ⟨g, z, sp⟩ := a
      have c0 := (hq 0 h0).1 0 _ rfl
      have hspot : sp = none := by simpa [Addr.add] using World.cell?_spot c0
      subst hspot
      refine ⟨g, z, rfl, World.block_lt_of_cell? W _ c0, ?_⟩
      intro k o ho j u hu
      obtain ⟨hk, rfl⟩ := hops k o ho
      have := (hq k hk).1 j u hu
      rw [← this]
      congr 1
      unfold Addr.add
      split <;> simp_all [Nat.add_assoc]
    · intro o ho
      obtain ⟨k, hk, rfl⟩ := List.mem_map.1 ho
      exact (hq k (List.mem_range.1 hk)).2
end
end Go.Proofs.YtellilpeakpbfaaGreatDoor.Scd

end
