import Derived.Test.YtfphfhbgkfobcaaGreatDoorBgnToo
import Derived.BigQuiet
import Derived.ProofKit
import Derived.OpenShut
import Derived.Deep.Slices
import Derived.ChangeSame
import Derived.Carry
import Derived.Test.YtfphfhbgkfobcaaGreatDoorTokToo
import Derived.Deep.DeepHandedRow
import Derived.Lib.LaidTab
import Derived.Test.YtfphfhbgkfobcaaGreatDoorShelfToo
section
/-
  The walk of plays.
-/
set_option linter.unusedVariables false
namespace Go.Proofs.YtfphfhbgkfobcaaGreatDoor
open Go.RowKit

theorem SInv.up {L W D m : Nat} {w : World} {C : Jn.Con} (h : SInv L W D w C m) : SInv L W D w C (m + 1) := by
  obtain ⟨S, B, f, past, d, nc, nq, na, hlaw, hst, hlast, hpm, hnc, hnq, hna, hdk, hds, hpl⟩ := h
  exact ⟨S, B, f, past, d, nc, nq, na, hlaw, hst, hlast, by omega, by omega, by omega, by omega, hdk, by omega, hpl⟩
theorem still_inv {L W D m : Nat} {w : World} {C : Jn.Con} (h : SInv L W D w C m) (hm : m ≤ 1300000000001) :
    Calls Tryz.prog 40 #[.pointer (some ⟨W, 3, none⟩)] w fun e w' => e = .returned (.bool true) ∧ Below w.heap.size w w' := by
  obtain ⟨S, B, f, past, d, nc, nq, na, hlaw, hst, hlast, hpm, hnc, hnq, hna, hdk, hds, hpl⟩ := h
  obtain ⟨vp, vc, vq, va, lcs, lqs, lxs, hWA, hpast, hh1, e1, hh2, e2, hh3, e3⟩ := hlaw.rest
  exact still_any L w.heap.size W w _ _ vp vc vq va lcs lqs lxs hWA hh1 hh2 hh3 (by omega) (by omega) (by omega)

/-- The script in memory: eight cells a step. -/
def ScrAt (w : World) (g z : Nat) (ops : List OpD) : Prop := g < w.heap.size ∧ ∀ k o, ops[k]? = some o → ∀ j u, o.cells[j]? = some u → w.cell? ⟨g, z + k * 8 + j, none⟩ = some u
def KnAt (w : World) (g : Nat) (ks : List Int) : Prop := g < w.heap.size ∧ ∀ k x, ks[k]? = some x → w.cell? ⟨g, k, none⟩ = some (.int .i64 x)
theorem ScrAt.below {w w' : World} {g z : Nat} {ops : List OpD} (h : ScrAt w g z ops) (hb : Below w.heap.size w w') : ScrAt w' g z ops := ⟨Nat.lt_of_lt_of_le h.1 hb.size, fun k o ho j u hu => at_old hb (h.2 k o ho j u hu)⟩
theorem KnAt.below {w w' : World} {g : Nat} {ks : List Int} (h : KnAt w g ks) (hb : Below w.heap.size w w') : KnAt w' g ks := ⟨Nat.lt_of_lt_of_le h.1 hb.size, fun k x hx => at_old hb (h.2 k x hx)⟩

def PlRel (L W D n : Nat) (w : World) (ok i : Value) (wr : World) : Prop := ∃ k : Nat, k ≤ n ∧ i = .int .i64 k ∧ ok = .bool true ∧ (∃ C, SInv L W D wr C (k + 1)) ∧ Below L w wr
def InRel (ks : List Int) (q : Int) (w : World) (b i : Value) (wr : World) : Prop := ∃ j : Nat, j ≤ ks.length ∧ i = .int .i64 j ∧ b = .bool (decide (q ∈ ks.take j)) ∧ Below w.heap.size w wr

theorem take_in (ks : List Int) (q x : Int) (j : Nat) (h : ks[j]? = some x) : decide (q ∈ ks.take (j + 1)) = (decide (q ∈ ks.take j) || decide (x = q)) := by
  have e : ks.take (j + 1) = ks.take j ++ [x] := by rw [List.take_add_one, h]; rfl
  rw [e]
  simp only [List.mem_append, List.mem_singleton, Bool.decide_or]
  congr 1
  exact decide_eq_decide.2 ⟨Eq.symm, Eq.symm⟩

set_option maxHeartbeats 8000000 in
set_option maxRecDepth 100000 in
theorem plays_any (w : World) (ao : Option Addr) (cap gk : Nat) (ops : List OpD) (ks : List Int) (hs : 0 < ops.length → ∃ g z, ao = some ⟨g, z, none⟩ ∧ ScrAt w g z ops) (hkn : KnAt w gk ks) (hP : PowAt w) (hWd : WordsAt w) (hn : ops.length ≤ 1299999999999) (hks : ks.length ≤ 100)
    (hstep : ∀ (x : World) (W D m : Nat) (C : Jn.Con) (o : OpD), o ∈ ops → o.kind ∈ ks → SInv w.heap.size W D x C m → m ≤ 1300000000000 → PowAt x → WordsAt x → Calls Tryz.prog 39 #[.pointer (some ⟨W, 0, none⟩), .agg o.cells, .bool false] x (StepPost w.heap.size W D m x)) :
    Calls Tryz.prog 12 #[.slice ao ops.length cap, .slice (some ⟨gk, 0, none⟩) ks.length ks.length, .bool false] w fun e w' => e = .returned (.bool true) ∧ Below w.heap.size w w' := by
  have HBG := hide (begin_any w (.slice ao ops.length cap) hP hWd)
  have HS := hide hs
  have HK := hide hkn
  have HP := hide hP
  have HWD := hide hWd
  have HSTEP := hide hstep
  obtain ⟨L, hL⟩ : ∃ L, L = w.heap.size := ⟨_, rfl⟩
  obtain ⟨W, hW⟩ : ∃ W, W = L + 2 := ⟨_, rfl⟩
  rw [← hL] at HBG HSTEP ⊢
  rw [← hW] at HBG
  have HL := hide hL
  clear hs hkn hP hWd hstep hL hW
  go_enter Tryz.func12, Tryz.ntmps12
  go_wp2_with fail
  refine HBG.out.mono ?_
  rintro e w1 ⟨rfl, hsi, hb1⟩
  have HI := hide hsi
  have HB1 := hide hb1
  clear hsi hb1 HBG
  go_wp2_with fail
  go_loopw [8, 9] (fun ok i wr => PlRel L W L ops.length w ok i wr) (fun _ i _ => ops.length - (intOf i).toNat)
  case atStart => exact ⟨0, Nat.zero_le _, rfl, rfl, ⟨_, HI.out⟩, HB1.out⟩
  case round =>
    clear HI HB1
    obtain ⟨k, hk, rfl, rfl, ⟨C, hsi⟩, hb⟩ := hrel
    have HI := hide hsi
    have HB := hide hb
    clear hsi hb
    by_cases hkl : k < ops.length
    · obtain ⟨g, z, rfl, hsc⟩ := HS.out (by omega)
      have HSC := hide hsc
      clear hsc HS
      have ho : ops[k]? = some ops[k] := List.getElem?_eq_getElem hkl
      obtain ⟨o, hoe⟩ : ∃ o, o = ops[k] := ⟨_, rfl⟩
      rw [← hoe] at ho
      have hmem : o ∈ ops := by rw [hoe]; exact List.getElem_mem hkl
      have HM := hide hmem
      have HSB : Hid (ScrAt wr g z ops ∧ KnAt wr gk ks) := ⟨HSC.out.below (HL.out ▸ HB.out), HK.out.below (HL.out ▸ HB.out)⟩
      have HO := hide ho
      clear ho hoe hmem
      obtain ⟨wo, rfl⟩ : ∃ wo : World, wo = wr := ⟨_, rfl⟩
      go_wp2_with fail
      go_loopw [10, 11] (fun b i x => InRel ks o.kind wo b i x) (fun _ i _ => ks.length - (intOf i).toNat)
      case atStart => exact ⟨0, Nat.zero_le _, rfl, by simp, Below.refl _ _⟩
      case round =>
        obtain ⟨j, hj, rfl, rfl, hbi⟩ := hrel
        have HBI := hide hbi
        clear hbi
        by_cases hjl : j < ks.length
        · obtain ⟨x, hx⟩ : ∃ x, ks[j]? = some x := ⟨ks[j], List.getElem?_eq_getElem hjl⟩
          have d0 := (HSB.out.1.below HBI.out).2 k o HO.out 0 (.int .i64 o.kind) rfl
          have d1 := (HSB.out.2.below HBI.out).2 j x hx
          simp only [Nat.add_zero] at d0
          have HT := hide (take_in ks o.kind x j hx)
          clear hx
          generalize decide (o.kind ∈ ks.take j) = b at HT
          cases b with
          | true =>
            go_wp2_with fail
            go_quiet (fail)
            all_goals go_wp2
            all_goals go_round
            case rel => exact ⟨j + 1, by omega, by go_num, by rw [HT.out]; rfl, below_drewN HBI.out _⟩
            case measure => simp [intOf]; omega
          | false =>
            go_wp2_with fail
            go_quiet (fail)
            all_goals go_wp2
            all_goals go_round
            case rel => exact ⟨j + 1, by omega, by go_num, by rw [HT.out]; rfl, below_drewN HBI.out _⟩
            case measure => simp [intOf]; omega
        · have hje : ks.take j = ks := List.take_of_length_le (by omega)
          rw [hje]
          have HBW : Hid (Below w.heap.size w wr) := by
            have h1 := HB.out
            rw [HL.out] at h1
            exact h1.trans (HBI.out.mono h1.size)
          by_cases hin : o.kind ∈ ks
          · rw [decide_eq_true hin]
            have hd := (HSB.out.1.below HBI.out).2 k o HO.out
            have d0 := hd 0 (.int .i64 o.kind) rfl
            have d1 := hd 1 (.int .i64 o.n) rfl
            have d2 := hd 2 (.int .i64 o.m) rfl
            have d3 := hd 3 (.string o.s) rfl
            have d4 := hd 4 (.string o.t) rfl
            have d5 := hd 5 (.slice o.lo o.ln o.lc) rfl
            have d6 := hd 6 (.int .i64 o.cut) rfl
            have d7 := hd 7 (.slice o.wo o.wn o.wc) rfl
            simp only [Nat.add_zero] at d0
            have HC := hide (HSTEP.out wr W L (k + 1) C o HM.out hin (HI.out.below HBI.out) (by omega) (HP.out.below HP.out.1 HBW.out) (HWD.out.below HWD.out.1 HBW.out))
            clear hd hin hje
            go_wp2_with fail
            refine HC.out.mono ?_
            rintro e w9 ⟨rfl, ⟨C', hsi'⟩, hb9⟩
            have HST := hide (still_inv hsi' (by omega))
            have HI9 := hide hsi'
            have HB9 := hide hb9
            clear hsi' hb9 HC
            go_wp2_with fail
            refine HST.out.mono ?_
            rintro e w10 ⟨rfl, hb10⟩
            have HB10 := hide hb10
            clear hb10 HST
            go_wp2_with fail
            go_round
            case rel =>
              refine ⟨k + 1, by omega, by go_num, rfl, ⟨C', HI9.out.below HB10.out⟩, ?_⟩
              have h1 := HBW.out
              rw [← HL.out] at h1
              exact (h1.trans HB9.out).trans (HB10.out.mono HI9.out.low)
            case measure => simp [intOf]; omega
          · rw [decide_eq_false hin]
            clear hin hje
            go_wp2_with fail
            go_round
            case rel =>
              refine ⟨k + 1, by omega, by go_num, rfl, ⟨C, (HI.out.below HBI.out).up⟩, ?_⟩
              have h1 := HBW.out
              rw [← HL.out] at h1
              exact h1
            case measure => simp [intOf]; omega
    · go_wp2_with fail
      go_ret
      exact ⟨rfl, HB.out⟩
end Go.Proofs.YtfphfhbgkfobcaaGreatDoor

end

section
/-
  Keeps.
-/
namespace Go.Proofs.YtfphfhbgkfobcaaGreatDoor
open Go.RowKit

set_option maxHeartbeats 4000000 in
set_option maxRecDepth 100000 in
theorem keeps_any (w : World) (ao : Option Addr) (cap : Nat) (ops : List OpD) (hs : 0 < ops.length → ∃ g z, ao = some ⟨g, z, none⟩ ∧ ScrAt w g z ops) (hP : PowAt w) (hWd : WordsAt w) (hn : ops.length ≤ 1299999999999)
    (hm : ∀ o ∈ ops, -9223372036854775808 ≤ o.m ∧ o.m ≤ 9223372036854775807) :
    Calls Tryz.prog 3 #[.slice ao ops.length cap] w fun e w' => e = .returned (.bool true) ∧ Below w.heap.size w w' := by
  obtain ⟨w1, hw1⟩ : ∃ w1, w1 = w.alloc (.cells #[.int .i64 3, .int .i64 4, .int .i64 5, .int .i64 6, .int .i64 11, .int .i64 13] 3) := ⟨_, rfl⟩
  have hB1 : Below w.heap.size w w1 := by rw [hw1]; exact (Below.refl _ _).alloc (Nat.le_refl _) _
  have hbk : w1.heap[w.heap.size]? = some (.cells #[.int .i64 3, .int .i64 4, .int .i64 5, .int .i64 6, .int .i64 11, .int .i64 13] 3 (0, 0)) := by rw [hw1]; exact heap_alloc_new w _
  have hkn : KnAt w1 w.heap.size [3, 4, 5, 6, 11, 13] := by
    refine ⟨(Array.getElem?_eq_some_iff.1 hbk).1, fun k x hx => ?_⟩
    rw [cell_of_row w1 w.heap.size k _ _ _ hbk]
    match k, hx with
    | 0, hx => simp at hx; subst hx; rfl
    | 1, hx => simp at hx; subst hx; rfl
    | 2, hx => simp at hx; subst hx; rfl
    | 3, hx => simp at hx; subst hx; rfl
    | 4, hx => simp at hx; subst hx; rfl
    | 5, hx => simp at hx; subst hx; rfl
    | k + 6, hx => simp at hx
  have hP1 := hP.below hP.1 hB1
  have HPL := hide (plays_any w1 ao cap w.heap.size ops [3, 4, 5, 6, 11, 13] (fun h0 => by obtain ⟨g, z, e, hsc⟩ := hs h0; exact ⟨g, z, e, hsc.below hB1⟩) hkn hP1 (hWd.below hWd.1 hB1) hn (by simp)
    (fun x W D m C o ho hk hi hm' hp hw => step_keeps w1.heap.size W D m x C o hk hi hm' hp hw hP1.1 (hm o ho).1 (hm o ho).2))
  simp only [List.length_cons, List.length_nil] at HPL
  have HB1 := hide hB1
  clear hs hP hWd hm hB1 hbk hkn hP1
  go_enter Tryz.func3, Tryz.ntmps3
  go_wp2_with fail
  rw [← hw1]
  refine HPL.out.mono ?_
  rintro e w9 ⟨rfl, hb9⟩
  have HFIN := hide (HB1.out.trans (hb9.mono HB1.out.size))
  clear hb9 HPL hw1
  go_wp2_with fail
  go_ret
  exact ⟨rfl, HFIN.out⟩
end Go.Proofs.YtfphfhbgkfobcaaGreatDoor

end

section
/-
  From the script as it is read to what the walks ask.
-/
namespace Go.Proofs.YtfphfhbgkfobcaaGreatDoor.Scd
open Go.ChangeShapes Go.WideShapes Go.ChangeAt Go.RowKit

section
variable {H : Type} {enc : TypeId × Value → H}

theorem cellsOp : Tryz.prog.cellsOf 83 = 8 := by kernel_rfl
theorem bytesOp : Tryz.prog.bytesOf 83 = 112 := by kernel_rfl
theorem cInt : Tryz.prog.cellsOf 3 = 1 := by kernel_rfl
theorem cStr : Tryz.prog.cellsOf 9 = 1 := by kernel_rfl
theorem cInts : Tryz.prog.cellsOf 24 = 1 := by kernel_rfl

/-- a slice of numbers is some slice. -/
theorem some_slice {W : World} {fuel : Nat} {v : Value} {x : DataW H × List MemPlace} (h : DataW.trod enc Tryz.prog W 0 (fun _ => true) true fuel 24 [v] = some x) : ∃ lo ln lc, v = .slice lo ln lc := by
  rcases DataW.trod_slice Tryz.underlying24 h with ⟨e, -⟩ | ⟨a, len, cap, elems, rest, n, _, e, _⟩
  · exact ⟨none, 0, 0, by simpa using e⟩
  · exact ⟨some a, len, cap, by simpa using e⟩

set_option maxRecDepth 100000 in
theorem op_of {W : World} {fuel : Nat} {cs : List Value} {x : DataW H × List MemPlace} (h : DataW.trod enc Tryz.prog W 0 (fun _ => true) true fuel 83 cs = some x) :
    ∃ o : OpD, cs = o.cells.toList ∧ -9223372036854775808 ≤ o.m ∧ o.m ≤ 9223372036854775807 := by
  obtain ⟨xs, n, _, -, hl, hxl, hf⟩ := DataW.trod_struct Tryz.underlying83 h
  rw [cellsOp] at hl
  match cs, hl, xs, hxl with
  | [c0, c1, c2, c3, c4, c5, c6, c7], _, [y0, y1, y2, y3, y4, y5, y6, y7], _ =>
    have g0 := hf 0 _ rfl
    have g1 := hf 1 _ rfl
    have g2 := hf 2 _ rfl
    have g3 := hf 3 _ rfl
    have g4 := hf 4 _ rfl
    have g5 := hf 5 _ rfl
    have g6 := hf 6 _ rfl
    have g7 := hf 7 _ rfl
    simp [cInt, cStr, cInts] at g0 g1 g2 g3 g4 g5 g6 g7
    obtain ⟨k0, e0, -, -⟩ := DataW.trod_int Tryz.underlying3 g0
    obtain ⟨k1, e1, -, -⟩ := DataW.trod_int Tryz.underlying3 g1
    obtain ⟨k2, e2, -, w2⟩ := DataW.trod_int Tryz.underlying3 g2
    obtain ⟨s, e3, -, -⟩ := DataW.trod_string Tryz.underlying9 g3
    obtain ⟨t, e4, -, -⟩ := DataW.trod_string Tryz.underlying9 g4
    obtain ⟨lo, ln, lc, e5⟩ := some_slice g5
    obtain ⟨k6, e6, -, -⟩ := DataW.trod_int Tryz.underlying3 g6
    obtain ⟨wo, wn, wc, e7⟩ := some_slice g7
    simp only [List.cons.injEq, and_true] at e0 e1 e2 e3 e4 e6
    subst e0 e1 e2 e3 e4 e5 e6 e7
    refine ⟨⟨k0, k1, k2, s, t, lo, ln, lc, k6, wo, wn, wc⟩, rfl, ?_⟩
    have := w2
    simp [Lit.wf] at this
    exact ⟨this.1, this.2⟩

/-- The script, opened. -/
theorem scr_of {W : World} {fuel : Nat} {v : Value} {x : DataW H × List MemPlace} (h : DataW.trod enc Tryz.prog W 0 (fun _ => true) true fuel 22 [v] = some x) :
    ∃ ao cap ops, v = .slice ao (List.length ops) cap ∧ (0 < ops.length → ∃ g z, ao = some ⟨g, z, none⟩ ∧ ScrAt W g z ops) ∧ (∀ o ∈ ops, -9223372036854775808 ≤ o.m ∧ o.m ≤ 9223372036854775807) ∧
      (ops = [] ∨ ∃ el sp, x.1 = .slice el sp ∧ el.length = ops.length) := by
  rcases Deep.open_slice Tryz.underlying22 h with ⟨e, -⟩ | ⟨a, len, cap, m, n, D, Pl, e, -, hl, -, hm, hx, hi⟩
  · exact ⟨none, 0, [], by simpa using e, by simp, by simp, .inl rfl⟩
  · have hlm : len ≤ m := by rw [hm]; simpa using hl
    rw [cellsOp] at hi
    have each : ∀ i, i < len → ∃ o : OpD, (∀ j u, o.cells[j]? = some u → W.cell? (a.add (i * 8 + j)) = some u) ∧ -9223372036854775808 ≤ o.m ∧ o.m ≤ 9223372036854775807 := by
      intro i hil
      obtain ⟨cs', h1, h2⟩ := hi i (by omega)
      obtain ⟨_, hlen, hcell⟩ := World.cells?_some h1
      obtain ⟨o, rfl, hb⟩ := op_of h2
      refine ⟨o, fun j u hu => ?_, hb⟩
      have hj : j < 8 := by have := (Array.getElem?_eq_some_iff.1 hu).1; simpa [OpD.cells] using this
      have := hcell j hj
      rw [Deep.add_add] at this
      rw [this]
      simpa using hu
    have : Inhabited OpD := ⟨⟨0, 0, 0, ⟨#[]⟩, ⟨#[]⟩, none, 0, 0, 0, none, 0, 0⟩⟩
    obtain ⟨q, hq⟩ := Deep.choose_lt each
    have hops : ∀ k o, ((List.range len).map q)[k]? = some o → k < len ∧ o = q k := by
      intro k o ho
      rw [List.getElem?_map] at ho
      by_cases hk : k < len
      · rw [List.getElem?_range hk] at ho
        simp at ho
        exact ⟨hk, ho.symm⟩
      · rw [List.getElem?_eq_none (by simp; omega)] at ho
        simp at ho
    refine ⟨some a, cap, (List.range len).map q, by simpa using e, ?_, ?_, .inr ⟨_, _, by rw [hx], by simp⟩⟩
    · intro h0
      simp at h0
      obtain ⟨g, z, sp⟩ := a
      have c0 := (hq 0 h0).1 0 _ rfl
      have hspot : sp = none := by simpa [Addr.add] using World.cell?_spot c0
      subst hspot
      refine ⟨g, z, rfl, World.block_lt_of_cell? W _ c0, ?_⟩
      intro k o ho j u hu
      obtain ⟨hk, rfl⟩ := hops k o ho
      have := (hq k hk).1 j u hu
      rw [← this]
      congr 1
      unfold Addr.add
      split <;> simp_all [Nat.add_assoc]
    · intro o ho
      obtain ⟨k, hk, rfl⟩ := List.mem_map.1 ho
      exact (hq k (List.mem_range.1 hk)).2
end
end Go.Proofs.YtfphfhbgkfobcaaGreatDoor.Scd

end

section
/-
  What the rows share: from the listed variables to what the walks ask.
-/
namespace Go.Proofs.YtfphfhbgkfobcaaGreatDoor.Ckd
open Go.ChangeShapes Go.WideShapes Go.ChangeAt Go.RowKit

theorem own : ownKnob Tryz.prog.godebug = none := by kernel_rfl
theorem gTab : Tryz.prog.globalNamed (Rows.keepsRow.named.headD "") = some 0 := by kernel_rfl
theorem gTabType : (Tryz.prog.globals[0]?).map (·.type) = some 198 := by kernel_rfl
theorem cellsWords : Tryz.prog.cellsOf 198 = 16 := by kernel_rfl
theorem cellsStr : Tryz.prog.cellsOf 9 = 1 := by kernel_rfl

/-- An array of texts as a row lists it. -/
def strData {H : Type} (ls : List (List UInt8)) : DataW H := .agg (ls.map fun l => .lit (.string l))
theorem cells_of_strs {H : Type} {enc : TypeId × Value → H} {P : Program} {w : World} {base : Nat} {sp : Nat → Bool} {held : Bool} {fuel : Nat} {t e : TypeId} {n : Nat} {cs : List Value} {ls : List (List UInt8)} {p : List MemPlace}
    (ht : P.underlying t = some (.array n e)) (he : P.underlying e = some .string) (hce : P.cellsOf e = 1) (hct : P.cellsOf t = n)
    (h : DataW.trod enc P w base sp held fuel t cs = some (strData ls, p)) : cs = ls.map T := by
  cases fuel with
  | zero => simp [DataW.trod] at h
  | succ fuel =>
    simp only [DataW.trod, ht, hce, hct, Nat.mul_one] at h
    split at h
    · rename_i hl
      obtain ⟨xs, hm, hx⟩ := Option.map_eq_some_iff.1 h
      have hxs : xs.map (·.1) = ls.map fun l => (DataW.lit (.string l) : DataW H) := by
        have := congrArg Prod.fst hx
        simpa [strData] using this
      have hxl : xs.length = n := by simpa using Lib.mapM_length hm
      have hzl : ls.length = n := by
        have := congrArg List.length hxs
        simp at this
        omega
      apply List.ext_getElem?
      intro i
      by_cases hi : i < n
      · obtain ⟨b, hb, hf⟩ := Lib.mapM_at hm i i (by simp [hi])
        obtain ⟨s, hc, rfl, _⟩ := DataW.trod_string he hf
        have h1 : cs[i]? = some (.string s) := by
          have := congrArg (·[0]?) hc
          simpa [List.getElem?_take, List.getElem?_drop] using this
        have h2 : (xs.map (·.1))[i]? = some (DataW.lit (.string s.data.toList) : DataW H) := by simp [hb]
        rw [hxs] at h2
        simp only [List.getElem?_map, Option.map_eq_some_iff, DataW.lit.injEq, Lit.string.injEq] at h2
        obtain ⟨l, hl', rfl⟩ := h2
        simp [h1, hl', T]
      · rw [List.getElem?_eq_none (by omega), List.getElem?_eq_none (by simp; omega)]
    · cases h

theorem words_of {W : World} {rest : List (String × DataW Unit)} {ps : List MemPlace} (h : DataW.LaidVars Tryz.prog W ((Rows.keepsRow.named.headD "", Rows.laid_cellar_source_words) :: rest) ps) : WordsAt W := by
  obtain ⟨g', t', cs, fuel, p, q, hg', ht', hvar, hd, _, _⟩ := h
  obtain rfl := Option.some.inj (gTab.symm.trans hg')
  obtain rfl := Option.some.inj (gTabType.symm.trans ht')
  have hcs : cs.toList = Ck.wordsL.map T := cells_of_strs (ls := Ck.wordsL) Tryz.underlying198 Tryz.underlying9 cellsStr cellsWords hd
  have hall : ∀ k, k < 16 → W.cell? ⟨0, k, none⟩ = some (.string ⟨(Ck.wordsL.getD k []).toArray⟩) := by
    intro k hk
    have := World.var?_cell gTab hvar k
    rw [this]
    have e : cs[k]? = (Ck.wordsL.map T)[k]? := by rw [← hcs]; simp
    rw [e]
    have hl : k < Ck.wordsL.length := hk
    simp [List.getD, hl, T]
  exact ⟨World.block_lt_of_cell? W ⟨0, 0, none⟩ (hall 0 (by omega)), hall⟩

/-- FOR A WITNESS: a variable's cells as its initialiser lays them. -/
def litVal : DataW Unit → Value
  | .lit (.int k z) => .int k z
  | .lit (.string l) => T l
  | _ => .bool false
def layVar (d : DataW Unit) : Obj → Obj
  | .cells c t frozen => match d with
    | .agg ds => .cells (ds.map litVal).toArray t frozen
    | _ => .cells c t frozen
  | o => o

end Go.Proofs.YtfphfhbgkfobcaaGreatDoor.Ckd

end

section
/-
  From the listed powers of ten to what the walks ask.
-/
namespace Go.Proofs.YtfphfhbgkfobcaaGreatDoor.Ckd
open Go.ChangeShapes Go.WideShapes Go.ChangeAt Go.RowKit

theorem gPowType : (Tryz.prog.globals[1]?).map (·.type) = some 237 := by kernel_rfl
theorem cellsPow : Tryz.prog.cellsOf 237 = 20 := by kernel_rfl
theorem cellsU64 : Tryz.prog.cellsOf 227 = 1 := by kernel_rfl
theorem powData : (Rows.laid_internal_strconv_uint64pow10 : DataW Unit) = Lib.tabData .u64 Lib.pow10Tab := by kernel_rfl
theorem pow_of {W : World} {rest : List (String × DataW Unit)} {ps : List MemPlace} (h : DataW.LaidVars Tryz.prog W ((Rows.keepsRow.named.getD 1 "", Rows.laid_internal_strconv_uint64pow10) :: rest) ps) : PowAt W := by
  obtain ⟨g', t', cs, fuel, p, q, hg', ht', hvar, hd, _, _⟩ := h
  obtain rfl := Option.some.inj (gPow.symm.trans hg')
  obtain rfl := Option.some.inj (gPowType.symm.trans ht')
  rw [powData] at hd
  have hcs := Lib.cells_of_tab Tryz.underlying237 Tryz.underlying227 cellsU64 cellsPow hd
  have htab : Lib.TabIs Tryz.prog W (Rows.keepsRow.named.getD 1 "") .u64 Lib.pow10Tab := by
    unfold Lib.TabIs
    rw [hvar, ← hcs]
  exact ⟨World.block_lt_of_cell? W ⟨1, 0, none⟩ (htab.cell gPow 0 (by rw [Lib.pow10Tab_length]; omega)), htab⟩
end Go.Proofs.YtfphfhbgkfobcaaGreatDoor.Ckd

end
