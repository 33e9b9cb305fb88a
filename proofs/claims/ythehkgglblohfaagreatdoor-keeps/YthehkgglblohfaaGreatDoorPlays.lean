/-
  The walk of plays.
-/
import Derived.Test.YthehkgglblohfaaGreatDoorBgn
import Derived.BigQuiet
set_option linter.unusedVariables false
namespace Go.Proofs.YthehkgglblohfaaGreatDoor
open Go.RowKit

theorem SInv.up {L W D m : Nat} {w : World} {C : Jn.Con} (h : SInv L W D w C m) : SInv L W D w C (m + 1) := by
  obtain ⟨S, B, f, past, d, nc, nq, na, hlaw, hst, hlast, hpm, hnc, hnq, hna, hdk, hds, hpl⟩ := h
  exact ⟨S, B, f, past, d, nc, nq, na, hlaw, hst, hlast, by omega, by omega, by omega, by omega, hdk, by omega, hpl⟩
theorem still_inv {L W D m : Nat} {w : World} {C : Jn.Con} (h : SInv L W D w C m) (hm : m ≤ 1300000000001) :
    Calls Tryz.prog 8 #[.pointer (some ⟨W, 3, none⟩)] w fun e w' => e = .returned (.bool true) ∧ Below w.heap.size w w' := by
  obtain ⟨S, B, f, past, d, nc, nq, na, hlaw, hst, hlast, hpm, hnc, hnq, hna, hdk, hds, hpl⟩ := h
  obtain ⟨vp, vc, vq, va, lcs, lqs, lxs, hWA, hpast, hh1, e1, hh2, e2, hh3, e3⟩ := hlaw.rest
  exact still_any L w.heap.size W w _ _ vp vc vq va lcs lqs lxs hWA hh1 hh2 hh3 (by omega) (by omega) (by omega)

/-- The script in memory: eight cells a step. -/
def ScrAt (w : World) (g z : Nat) (ops : List OpD) : Prop := g < w.heap.size ∧ ∀ k o, ops[k]? = some o → ∀ j u, o.cells[j]? = some u → w.cell? ⟨g, z + k * 8 + j, none⟩ = some u
def KnAt (w : World) (g : Nat) (ks : List Int) : Prop := g < w.heap.size ∧ ∀ k x, ks[k]? = some x → w.cell? ⟨g, k, none⟩ = some (.int .i64 x)
theorem ScrAt.below {w w' : World} {g z : Nat} {ops : List OpD} (h : ScrAt w g z ops) (hb : Below w.heap.size w w') : ScrAt w' g z ops := ⟨Nat.lt_of_lt_of_le h.1 hb.size, fun k o ho j u hu => at_old hb (h.2 k o ho j u hu)⟩
theorem KnAt.below {w w' : World} {g : Nat} {ks : List Int} (h : KnAt w g ks) (hb : Below w.heap.size w w') : KnAt w' g ks := ⟨Nat.lt_of_lt_of_le h.1 hb.size, fun k x hx => at_old hb (h.2 k x hx)⟩

def PlRel (L W D n : Nat) (w : World) (ok i : Value) (wr : World) : Prop := ∃ k : Nat, k ≤ n ∧ i = .int .i64 k ∧ ok = .bool true ∧ (∃ C, SInv L W D wr C (k + 1)) ∧ Below L w wr
def InRel (ks : List Int) (q : Int) (w : World) (b i : Value) (wr : World) : Prop := ∃ j : Nat, j ≤ ks.length ∧ i = .int .i64 j ∧ b = .bool (decide (q ∈ ks.take j)) ∧ Below w.heap.size w wr

theorem take_in (ks : List Int) (q x : Int) (j : Nat) (h : ks[j]? = some x) : decide (q ∈ ks.take (j + 1)) = (decide (q ∈ ks.take j) || decide (x = q)) := by
  have e : ks.take (j + 1) = ks.take j ++ [x] := by rw [List.take_add_one, h]; rfl
  rw [e]
  simp only [List.mem_append, List.mem_singleton, Bool.decide_or]
  congr 1
  exact decide_eq_decide.2 ⟨Eq.symm, Eq.symm⟩

set_option maxHeartbeats 8000000 in
set_option maxRecDepth 100000 in
theorem plays_any (w : World) (ao : Option Addr) (cap gk : Nat) (ops : List OpD) (ks : List Int) (hs : 0 < ops.length → ∃ g z, ao = some ⟨g, z, none⟩ ∧ ScrAt w g z ops) (hkn : KnAt w gk ks) (hP : PowAt w) (hWd : WordsAt w) (hn : ops.length ≤ 1299999999999) (hks : ks.length ≤ 100)
    (hstep : ∀ (x : World) (W D m : Nat) (C : Jn.Con) (o : OpD), o ∈ ops → o.kind ∈ ks → SInv w.heap.size W D x C m → m ≤ 1300000000000 → PowAt x → WordsAt x → Calls Tryz.prog 7 #[.pointer (some ⟨W, 0, none⟩), .agg o.cells, .bool false] x (StepPost w.heap.size W D m x)) :
    Calls Tryz.prog 5 #[.slice ao ops.length cap, .slice (some ⟨gk, 0, none⟩) ks.length ks.length, .bool false] w fun e w' => e = .returned (.bool true) ∧ Below w.heap.size w w' := by
  have HBG := hide (begin_any w (.slice ao ops.length cap) hP hWd)
  have HS := hide hs
  have HK := hide hkn
  have HP := hide hP
  have HWD := hide hWd
  have HSTEP := hide hstep
  obtain ⟨L, hL⟩ : ∃ L, L = w.heap.size := ⟨_, rfl⟩
  obtain ⟨W, hW⟩ : ∃ W, W = L + 2 := ⟨_, rfl⟩
  rw [← hL] at HBG HSTEP ⊢
  rw [← hW] at HBG
  have HL := hide hL
  clear hs hkn hP hWd hstep hL hW
  go_enter Tryz.func5, Tryz.ntmps5
  go_wp2_with fail
  refine HBG.out.mono ?_
  rintro e w1 ⟨rfl, hsi, hb1⟩
  have HI := hide hsi
  have HB1 := hide hb1
  clear hsi hb1 HBG
  go_wp2_with fail
  go_loopw [8, 9] (fun ok i wr => PlRel L W L ops.length w ok i wr) (fun _ i _ => ops.length - (intOf i).toNat)
  case atStart => exact ⟨0, Nat.zero_le _, rfl, rfl, ⟨_, HI.out⟩, HB1.out⟩
  case round =>
    clear HI HB1
    obtain ⟨k, hk, rfl, rfl, ⟨C, hsi⟩, hb⟩ := hrel
    have HI := hide hsi
    have HB := hide hb
    clear hsi hb
    by_cases hkl : k < ops.length
    · obtain ⟨g, z, rfl, hsc⟩ := HS.out (by omega)
      have HSC := hide hsc
      clear hsc HS
      have ho : ops[k]? = some ops[k] := List.getElem?_eq_getElem hkl
      obtain ⟨o, hoe⟩ : ∃ o, o = ops[k] := ⟨_, rfl⟩
      rw [← hoe] at ho
      have hmem : o ∈ ops := by rw [hoe]; exact List.getElem_mem hkl
      have HM := hide hmem
      have HSB : Hid (ScrAt wr g z ops ∧ KnAt wr gk ks) := ⟨HSC.out.below (HL.out ▸ HB.out), HK.out.below (HL.out ▸ HB.out)⟩
      have HO := hide ho
      clear ho hoe hmem
      obtain ⟨wo, rfl⟩ : ∃ wo : World, wo = wr := ⟨_, rfl⟩
      go_wp2_with fail
      go_loopw [10, 11] (fun b i x => InRel ks o.kind wo b i x) (fun _ i _ => ks.length - (intOf i).toNat)
      case atStart => exact ⟨0, Nat.zero_le _, rfl, by simp, Below.refl _ _⟩
      case round =>
        obtain ⟨j, hj, rfl, rfl, hbi⟩ := hrel
        have HBI := hide hbi
        clear hbi
        by_cases hjl : j < ks.length
        · obtain ⟨x, hx⟩ : ∃ x, ks[j]? = some x := ⟨ks[j], List.getElem?_eq_getElem hjl⟩
          have d0 := (HSB.out.1.below HBI.out).2 k o HO.out 0 (.int .i64 o.kind) rfl
          have d1 := (HSB.out.2.below HBI.out).2 j x hx
          simp only [Nat.add_zero] at d0
          have HT := hide (take_in ks o.kind x j hx)
          clear hx
          generalize decide (o.kind ∈ ks.take j) = b at HT
          cases b with
          | true =>
            go_wp2_with fail
            go_quiet (fail)
            all_goals go_wp2
            all_goals go_round
            case rel => exact ⟨j + 1, by omega, by go_num, by rw [HT.out]; rfl, below_drewN HBI.out _⟩
            case measure => simp [intOf]; omega
          | false =>
            go_wp2_with fail
            go_quiet (fail)
            all_goals go_wp2
            all_goals go_round
            case rel => exact ⟨j + 1, by omega, by go_num, by rw [HT.out]; rfl, below_drewN HBI.out _⟩
            case measure => simp [intOf]; omega
        · have hje : ks.take j = ks := List.take_of_length_le (by omega)
          rw [hje]
          have HBW : Hid (Below w.heap.size w wr) := by
            have h1 := HB.out
            rw [HL.out] at h1
            exact h1.trans (HBI.out.mono h1.size)
          by_cases hin : o.kind ∈ ks
          · rw [decide_eq_true hin]
            have hd := (HSB.out.1.below HBI.out).2 k o HO.out
            have d0 := hd 0 (.int .i64 o.kind) rfl
            have d1 := hd 1 (.int .i64 o.n) rfl
            have d2 := hd 2 (.int .i64 o.m) rfl
            have d3 := hd 3 (.string o.s) rfl
            have d4 := hd 4 (.string o.t) rfl
            have d5 := hd 5 (.slice o.lo o.ln o.lc) rfl
            have d6 := hd 6 (.int .i64 o.cut) rfl
            have d7 := hd 7 (.slice o.wo o.wn o.wc) rfl
            simp only [Nat.add_zero] at d0
            have HC := hide (HSTEP.out wr W L (k + 1) C o HM.out hin (HI.out.below HBI.out) (by omega) (HP.out.below HP.out.1 HBW.out) (HWD.out.below HWD.out.1 HBW.out))
            clear hd hin hje
            go_wp2_with fail
            refine HC.out.mono ?_
            rintro e w9 ⟨rfl, ⟨C', hsi'⟩, hb9⟩
            have HST := hide (still_inv hsi' (by omega))
            have HI9 := hide hsi'
            have HB9 := hide hb9
            clear hsi' hb9 HC
            go_wp2_with fail
            refine HST.out.mono ?_
            rintro e w10 ⟨rfl, hb10⟩
            have HB10 := hide hb10
            clear hb10 HST
            go_wp2_with fail
            go_round
            case rel =>
              refine ⟨k + 1, by omega, by go_num, rfl, ⟨C', HI9.out.below HB10.out⟩, ?_⟩
              have h1 := HBW.out
              rw [← HL.out] at h1
              exact (h1.trans HB9.out).trans (HB10.out.mono HI9.out.low)
            case measure => simp [intOf]; omega
          · rw [decide_eq_false hin]
            clear hin hje
            go_wp2_with fail
            go_round
            case rel =>
              refine ⟨k + 1, by omega, by go_num, rfl, ⟨C, (HI.out.below HBI.out).up⟩, ?_⟩
              have h1 := HBW.out
              rw [← HL.out] at h1
              exact h1
            case measure => simp [intOf]; omega
    · go_wp2_with fail
      go_ret
      exact ⟨rfl, HB.out⟩
end Go.Proofs.YthehkgglblohfaaGreatDoor
