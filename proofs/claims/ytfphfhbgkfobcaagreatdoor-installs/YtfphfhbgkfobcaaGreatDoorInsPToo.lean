import Derived.Test.YtfphfhbgkfobcaaGreatDoorBgnToo
import Derived.BigQuiet
import Derived.Test.YtfphfhbgkfobcaaGreatDoorLawQToo
section
/-
  The walk of plays.
-/
set_option linter.unusedVariables false
namespace Go.Proofs.YtfphfhbgkfobcaaGreatDoor
open Go.RowKit

theorem SInv.up {L W D m : Nat} {w : World} {C : Jn.Con} (h : SInv L W D w C m) : SInv L W D w C (m + 1) := by
  obtain ⟨S, B, f, past, d, nc, nq, na, hlaw, hst, hlast, hpm, hnc, hnq, hna, hdk, hds, hpl⟩ := h
  exact ⟨S, B, f, past, d, nc, nq, na, hlaw, hst, hlast, by omega, by omega, by omega, by omega, hdk, by omega, hpl⟩
theorem still_inv {L W D m : Nat} {w : World} {C : Jn.Con} (h : SInv L W D w C m) (hm : m ≤ 1300000000001) :
    Calls Tryz.prog 40 #[.pointer (some ⟨W, 3, none⟩)] w fun e w' => e = .returned (.bool true) ∧ Below w.heap.size w w' := by
  obtain ⟨S, B, f, past, d, nc, nq, na, hlaw, hst, hlast, hpm, hnc, hnq, hna, hdk, hds, hpl⟩ := h
  obtain ⟨vp, vc, vq, va, lcs, lqs, lxs, hWA, hpast, hh1, e1, hh2, e2, hh3, e3⟩ := hlaw.rest
  exact still_any L w.heap.size W w _ _ vp vc vq va lcs lqs lxs hWA hh1 hh2 hh3 (by omega) (by omega) (by omega)

/-- The script in memory: eight cells a step. -/
def ScrAt (w : World) (g z : Nat) (ops : List OpD) : Prop := g < w.heap.size ∧ ∀ k o, ops[k]? = some o → ∀ j u, o.cells[j]? = some u → w.cell? ⟨g, z + k * 8 + j, none⟩ = some u
def KnAt (w : World) (g : Nat) (ks : List Int) : Prop := g < w.heap.size ∧ ∀ k x, ks[k]? = some x → w.cell? ⟨g, k, none⟩ = some (.int .i64 x)
theorem ScrAt.below {w w' : World} {g z : Nat} {ops : List OpD} (h : ScrAt w g z ops) (hb : Below w.heap.size w w') : ScrAt w' g z ops := ⟨Nat.lt_of_lt_of_le h.1 hb.size, fun k o ho j u hu => at_old hb (h.2 k o ho j u hu)⟩
theorem KnAt.below {w w' : World} {g : Nat} {ks : List Int} (h : KnAt w g ks) (hb : Below w.heap.size w w') : KnAt w' g ks := ⟨Nat.lt_of_lt_of_le h.1 hb.size, fun k x hx => at_old hb (h.2 k x hx)⟩

def PlRel (L W D n : Nat) (w : World) (ok i : Value) (wr : World) : Prop := ∃ k : Nat, k ≤ n ∧ i = .int .i64 k ∧ ok = .bool true ∧ (∃ C, SInv L W D wr C (k + 1)) ∧ Below L w wr
def InRel (ks : List Int) (q : Int) (w : World) (b i : Value) (wr : World) : Prop := ∃ j : Nat, j ≤ ks.length ∧ i = .int .i64 j ∧ b = .bool (decide (q ∈ ks.take j)) ∧ Below w.heap.size w wr

theorem take_in (ks : List Int) (q x : Int) (j : Nat) (h : ks[j]? = some x) : decide (q ∈ ks.take (j + 1)) = (decide (q ∈ ks.take j) || decide (x = q)) := by
  have e : ks.take (j + 1) = ks.take j ++ [x] := by rw [List.take_add_one, h]; rfl
  rw [e]
  simp only [List.mem_append, List.mem_singleton, Bool.decide_or]
  congr 1
  exact decide_eq_decide.2 ⟨Eq.symm, Eq.symm⟩

set_option maxHeartbeats 8000000 in
set_option maxRecDepth 100000 in
theorem plays_any (w : World) (ao : Option Addr) (cap gk : Nat) (ops : List OpD) (ks : List Int) (hs : 0 < ops.length → ∃ g z, ao = some ⟨g, z, none⟩ ∧ ScrAt w g z ops) (hkn : KnAt w gk ks) (hP : PowAt w) (hWd : WordsAt w) (hn : ops.length ≤ 1299999999999) (hks : ks.length ≤ 100)
    (hstep : ∀ (x : World) (W D m : Nat) (C : Jn.Con) (o : OpD), o ∈ ops → o.kind ∈ ks → SInv w.heap.size W D x C m → m ≤ 1300000000000 → PowAt x → WordsAt x → Calls Tryz.prog 39 #[.pointer (some ⟨W, 0, none⟩), .agg o.cells, .bool false] x (StepPost w.heap.size W D m x)) :
    Calls Tryz.prog 12 #[.slice ao ops.length cap, .slice (some ⟨gk, 0, none⟩) ks.length ks.length, .bool false] w fun e w' => e = .returned (.bool true) ∧ Below w.heap.size w w' := by
  have HBG := hide (begin_any w (.slice ao ops.length cap) hP hWd)
  have HS := hide hs
  have HK := hide hkn
  have HP := hide hP
  have HWD := hide hWd
  have HSTEP := hide hstep
  obtain ⟨L, hL⟩ : ∃ L, L = w.heap.size := ⟨_, rfl⟩
  obtain ⟨W, hW⟩ : ∃ W, W = L + 2 := ⟨_, rfl⟩
  rw [← hL] at HBG HSTEP ⊢
  rw [← hW] at HBG
  have HL := hide hL
  clear hs hkn hP hWd hstep hL hW
  go_enter Tryz.func12, Tryz.ntmps12
  go_wp2_with fail
  refine HBG.out.mono ?_
  rintro e w1 ⟨rfl, hsi, hb1⟩
  have HI := hide hsi
  have HB1 := hide hb1
  clear hsi hb1 HBG
  go_wp2_with fail
  go_loopw [8, 9] (fun ok i wr => PlRel L W L ops.length w ok i wr) (fun _ i _ => ops.length - (intOf i).toNat)
  case atStart => exact ⟨0, Nat.zero_le _, rfl, rfl, ⟨_, HI.out⟩, HB1.out⟩
  case round =>
    clear HI HB1
    obtain ⟨k, hk, rfl, rfl, ⟨C, hsi⟩, hb⟩ := hrel
    have HI := hide hsi
    have HB := hide hb
    clear hsi hb
    by_cases hkl : k < ops.length
    · obtain ⟨g, z, rfl, hsc⟩ := HS.out (by omega)
      have HSC := hide hsc
      clear hsc HS
      have ho : ops[k]? = some ops[k] := List.getElem?_eq_getElem hkl
      obtain ⟨o, hoe⟩ : ∃ o, o = ops[k] := ⟨_, rfl⟩
      rw [← hoe] at ho
      have hmem : o ∈ ops := by rw [hoe]; exact List.getElem_mem hkl
      have HM := hide hmem
      have HSB : Hid (ScrAt wr g z ops ∧ KnAt wr gk ks) := ⟨HSC.out.below (HL.out ▸ HB.out), HK.out.below (HL.out ▸ HB.out)⟩
      have HO := hide ho
      clear ho hoe hmem
      obtain ⟨wo, rfl⟩ : ∃ wo : World, wo = wr := ⟨_, rfl⟩
      go_wp2_with fail
      go_loopw [10, 11] (fun b i x => InRel ks o.kind wo b i x) (fun _ i _ => ks.length - (intOf i).toNat)
      case atStart => exact ⟨0, Nat.zero_le _, rfl, by simp, Below.refl _ _⟩
      case round =>
        obtain ⟨j, hj, rfl, rfl, hbi⟩ := hrel
        have HBI := hide hbi
        clear hbi
        by_cases hjl : j < ks.length
        · obtain ⟨x, hx⟩ : ∃ x, ks[j]? = some x := ⟨ks[j], List.getElem?_eq_getElem hjl⟩
          have d0 := (HSB.out.1.below HBI.out).2 k o HO.out 0 (.int .i64 o.kind) rfl
          have d1 := (HSB.out.2.below HBI.out).2 j x hx
          simp only [Nat.add_zero] at d0
          have HT := hide (take_in ks o.kind x j hx)
          clear hx
          generalize decide (o.kind ∈ ks.take j) = b at HT
          cases b with
          | true =>
            go_wp2_with fail
            go_quiet (fail)
            all_goals go_wp2
            all_goals go_round
            case rel => exact ⟨j + 1, by omega, by go_num, by rw [HT.out]; rfl, below_drewN HBI.out _⟩
            case measure => simp [intOf]; omega
          | false =>
            go_wp2_with fail
            go_quiet (fail)
            all_goals go_wp2
            all_goals go_round
            case rel => exact ⟨j + 1, by omega, by go_num, by rw [HT.out]; rfl, below_drewN HBI.out _⟩
            case measure => simp [intOf]; omega
        · have hje : ks.take j = ks := List.take_of_length_le (by omega)
          rw [hje]
          have HBW : Hid (Below w.heap.size w wr) := by
            have h1 := HB.out
            rw [HL.out] at h1
            exact h1.trans (HBI.out.mono h1.size)
          by_cases hin : o.kind ∈ ks
          · rw [decide_eq_true hin]
            have hd := (HSB.out.1.below HBI.out).2 k o HO.out
            have d0 := hd 0 (.int .i64 o.kind) rfl
            have d1 := hd 1 (.int .i64 o.n) rfl
            have d2 := hd 2 (.int .i64 o.m) rfl
            have d3 := hd 3 (.string o.s) rfl
            have d4 := hd 4 (.string o.t) rfl
            have d5 := hd 5 (.slice o.lo o.ln o.lc) rfl
            have d6 := hd 6 (.int .i64 o.cut) rfl
            have d7 := hd 7 (.slice o.wo o.wn o.wc) rfl
            simp only [Nat.add_zero] at d0
            have HC := hide (HSTEP.out wr W L (k + 1) C o HM.out hin (HI.out.below HBI.out) (by omega) (HP.out.below HP.out.1 HBW.out) (HWD.out.below HWD.out.1 HBW.out))
            clear hd hin hje
            go_wp2_with fail
            refine HC.out.mono ?_
            rintro e w9 ⟨rfl, ⟨C', hsi'⟩, hb9⟩
            have HST := hide (still_inv hsi' (by omega))
            have HI9 := hide hsi'
            have HB9 := hide hb9
            clear hsi' hb9 HC
            go_wp2_with fail
            refine HST.out.mono ?_
            rintro e w10 ⟨rfl, hb10⟩
            have HB10 := hide hb10
            clear hb10 HST
            go_wp2_with fail
            go_round
            case rel =>
              refine ⟨k + 1, by omega, by go_num, rfl, ⟨C', HI9.out.below HB10.out⟩, ?_⟩
              have h1 := HBW.out
              rw [← HL.out] at h1
              exact (h1.trans HB9.out).trans (HB10.out.mono HI9.out.low)
            case measure => simp [intOf]; omega
          · rw [decide_eq_false hin]
            clear hin hje
            go_wp2_with fail
            go_round
            case rel =>
              refine ⟨k + 1, by omega, by go_num, rfl, ⟨C, (HI.out.below HBI.out).up⟩, ?_⟩
              have h1 := HBW.out
              rw [← HL.out] at h1
              exact h1
            case measure => simp [intOf]; omega
    · go_wp2_with fail
      go_ret
      exact ⟨rfl, HB.out⟩
end Go.Proofs.YtfphfhbgkfobcaaGreatDoor

end

section
/-
  Keeps.
-/
namespace Go.Proofs.YtfphfhbgkfobcaaGreatDoor
open Go.RowKit

set_option maxHeartbeats 4000000 in
set_option maxRecDepth 100000 in
theorem keeps_any (w : World) (ao : Option Addr) (cap : Nat) (ops : List OpD) (hs : 0 < ops.length → ∃ g z, ao = some ⟨g, z, none⟩ ∧ ScrAt w g z ops) (hP : PowAt w) (hWd : WordsAt w) (hn : ops.length ≤ 1299999999999)
    (hm : ∀ o ∈ ops, -9223372036854775808 ≤ o.m ∧ o.m ≤ 9223372036854775807) :
    Calls Tryz.prog 3 #[.slice ao ops.length cap] w fun e w' => e = .returned (.bool true) ∧ Below w.heap.size w w' := by
  obtain ⟨w1, hw1⟩ : ∃ w1, w1 = w.alloc (.cells #[.int .i64 3, .int .i64 4, .int .i64 5, .int .i64 6, .int .i64 11, .int .i64 13] 3) := ⟨_, rfl⟩
  have hB1 : Below w.heap.size w w1 := by rw [hw1]; exact (Below.refl _ _).alloc (Nat.le_refl _) _
  have hbk : w1.heap[w.heap.size]? = some (.cells #[.int .i64 3, .int .i64 4, .int .i64 5, .int .i64 6, .int .i64 11, .int .i64 13] 3 (0, 0)) := by rw [hw1]; exact heap_alloc_new w _
  have hkn : KnAt w1 w.heap.size [3, 4, 5, 6, 11, 13] := by
    refine ⟨(Array.getElem?_eq_some_iff.1 hbk).1, fun k x hx => ?_⟩
    rw [cell_of_row w1 w.heap.size k _ _ _ hbk]
    match k, hx with
    | 0, hx => simp at hx; subst hx; rfl
    | 1, hx => simp at hx; subst hx; rfl
    | 2, hx => simp at hx; subst hx; rfl
    | 3, hx => simp at hx; subst hx; rfl
    | 4, hx => simp at hx; subst hx; rfl
    | 5, hx => simp at hx; subst hx; rfl
    | k + 6, hx => simp at hx
  have hP1 := hP.below hP.1 hB1
  have HPL := hide (plays_any w1 ao cap w.heap.size ops [3, 4, 5, 6, 11, 13] (fun h0 => by obtain ⟨g, z, e, hsc⟩ := hs h0; exact ⟨g, z, e, hsc.below hB1⟩) hkn hP1 (hWd.below hWd.1 hB1) hn (by simp)
    (fun x W D m C o ho hk hi hm' hp hw => step_keeps w1.heap.size W D m x C o hk hi hm' hp hw hP1.1 (hm o ho).1 (hm o ho).2))
  simp only [List.length_cons, List.length_nil] at HPL
  have HB1 := hide hB1
  clear hs hP hWd hm hB1 hbk hkn hP1
  go_enter Tryz.func3, Tryz.ntmps3
  go_wp2_with fail
  rw [← hw1]
  refine HPL.out.mono ?_
  rintro e w9 ⟨rfl, hb9⟩
  have HFIN := hide (HB1.out.trans (hb9.mono HB1.out.size))
  clear hb9 HPL hw1
  go_wp2_with fail
  go_ret
  exact ⟨rfl, HFIN.out⟩
end Go.Proofs.YtfphfhbgkfobcaaGreatDoor

end

section
/-
  Plain mathematics for Install and Drop: a source that reads is plain; what their entries do when read back.
-/
namespace Go.Proofs.YtfphfhbgkfobcaaGreatDoor
open Go.RowKit
namespace Ck

theorem take_nought (st : List Int) : (take st 0).1 = false := by
  unfold take
  repeat' split
  all_goals first | rfl | (exfalso; omega)
theorem rd_known (ts : List (List UInt8)) : ∀ (i : Nat) (st : List Int), (rdGo i st ts).2 = 0 → ∀ t ∈ ts, (tokenP t).1 ≠ 0 := by
  induction ts with
  | nil => intro _ _ _ t ht; cases ht
  | cons a r ih =>
    intro i st h t ht
    unfold rdGo at h
    split at h
    · rename_i hk
      rcases List.mem_cons.1 ht with rfl | ht
      · intro h0; rw [h0, take_nought] at hk; cases hk
      · exact ih _ _ h t ht
    · simp at h
theorem idx_mem (l : List UInt8) (h : wordsL.idxOf l < 16) : l ∈ wordsL := List.idxOf_lt_length_iff.1 h
theorem word_plain : ∀ x ∈ wordsL, ∀ c ∈ x, c ≠ 46 ∧ c ≠ 59 := by decide
theorem dig_plain (c : UInt8) (h : isDig c = true) : c ≠ 46 ∧ c ≠ 59 := by
  rw [isDig_iff] at h
  refine ⟨fun e => ?_, fun e => ?_⟩ <;> (subst e; revert h; decide)
theorem slot_plain (t : List UInt8) (c : UInt8) (hc : c ≠ 46 ∧ c ≠ 59) (h : 0 ≤ slot t c) : ∀ x ∈ t, x ≠ 46 ∧ x ≠ 59 := by
  obtain ⟨b, rfl, h1, h2⟩ := (slot_iff t c).1 h
  intro x hx
  simp only [List.mem_cons, List.not_mem_nil, or_false] at hx
  rcases hx with rfl | rfl
  · exact hc
  · exact dig_plain x ((isDig_iff x).2 ⟨h1, by omega⟩)
theorem tok_plain (t : List UInt8) (h : (tokenP t).1 ≠ 0) : ∀ c ∈ t, c ≠ 46 ∧ c ≠ 59 := by
  unfold tokenP at h
  split at h
  · rename_i hi
    exact word_plain t (idx_mem t hi)
  · cases hn : numIn t with
    | some n =>
      unfold numIn at hn
      split at hn
      · rename_i hg
        intro c hc
        exact dig_plain c (hg.2.2 c hc)
      · cases hn
    | none =>
      rw [hn] at h
      have h' : (named t).1 ≠ 0 := h
      unfold named at h'
      by_cases h1 : 0 ≤ slot t 97
      · exact slot_plain t 97 (by decide) h1
      · rw [if_neg h1] at h'
        by_cases h2 : 0 ≤ slot t 118
        · exact slot_plain t 118 (by decide) h2
        · rw [if_neg h2] at h'; simp at h'
theorem scan_has (l : List UInt8) : ∀ c ∈ l, isSp c = true ∨ (∃ t ∈ (scan l).1, c ∈ t) ∨ c ∈ (scan l).2 := by
  induction l using snoc_ind with
  | h0 => intro c hc; cases hc
  | h1 l a ih =>
    intro c hc
    rcases List.mem_append.1 hc with h | h
    · rcases ih c h with h | ⟨t, ht, hct⟩ | h
      · exact .inl h
      · refine .inr (.inl ⟨t, ?_, hct⟩)
        by_cases ha : isSp a = true
        · by_cases hn : (scan l).2 = []
          · rw [scan_gap l a ha hn]; exact ht
          · rw [scan_done l a ha hn]; simp [ht]
        · rw [scan_more l a (by simpa using ha)]; exact ht
      · by_cases ha : isSp a = true
        · by_cases hn : (scan l).2 = []
          · rw [hn] at h; cases h
          · rw [scan_done l a ha hn]
            exact .inr (.inl ⟨(scan l).2, by simp, h⟩)
        · rw [scan_more l a (by simpa using ha)]
          exact .inr (.inr (by simp [h]))
    · simp only [List.mem_cons, List.not_mem_nil, or_false] at h
      subst h
      by_cases ha : isSp c = true
      · exact .inl ha
      · rw [scan_more l c (by simpa using ha)]
        exact .inr (.inr (by simp))
theorem toks_has (l : List UInt8) (c : UInt8) (hc : c ∈ l) : isSp c = true ∨ ∃ t ∈ toks l, c ∈ t := by
  rcases scan_has l c hc with h | ⟨t, ht, h⟩ | h
  · exact .inl h
  · refine .inr ⟨t, ?_, h⟩
    by_cases hn : (scan l).2 = []
    · rw [toks_gap l hn]; exact ht
    · rw [toks_end l hn]; simp [ht]
  · refine .inr ⟨(scan l).2, ?_, h⟩
    have hn : (scan l).2 ≠ [] := fun e => by rw [e] at h; cases h
    rw [toks_end l hn]; simp
theorem read_plain (s : List UInt8) (h : (read s).2 = 0) : Jn.Plain s := by
  unfold read at h
  split at h
  · simp at h
  · have hk := rd_known (toks s) 0 [1] h
    have hb : ∀ c ∈ s, c ≠ 46 ∧ c ≠ 59 := by
      intro c hc
      rcases toks_has s c hc with hs | ⟨t, ht, hct⟩
      · unfold isSp at hs
        simp at hs
        rcases hs with rfl | rfl <;> decide
      · exact tok_plain t (hk t ht) c hct
    exact ⟨fun hm => (hb 46 hm).1 rfl, fun hm => (hb 59 hm).2 rfl⟩
end Ck

/-- the source of a procedure in a list. -/
def srcL : List (Jn.Bytes × Jn.Bytes) → Jn.Bytes → Option Jn.Bytes
  | [], _ => none
  | p :: r, n => if p.1 = n then some p.2 else srcL r n
theorem src_mem (l : List (Jn.Bytes × Jn.Bytes)) (n s : Jn.Bytes) (h : srcL l n = some s) : (n, s) ∈ l := by
  induction l with
  | nil => cases h
  | cons p r ih =>
    unfold srcL at h
    split at h
    · rename_i hp
      cases h
      subst hp
      simp
    · exact List.mem_cons_of_mem _ (ih h)
theorem src_none (l : List (Jn.Bytes × Jn.Bytes)) (n : Jn.Bytes) (h : srcL l n = none) : Jn.others l n = l := by
  induction l with
  | nil => rfl
  | cons p r ih =>
    unfold srcL at h
    split at h
    · cases h
    · rename_i hp
      have := ih h
      unfold Jn.others at this ⊢
      rw [List.filter_cons, if_pos (by simpa using hp), this]
theorem src_some (l : List (Jn.Bytes × Jn.Bytes)) (n : Jn.Bytes) (h : (srcL l n).isSome = true) : (Jn.others l n).length ≠ l.length := by
  cases hs : srcL l n with
  | none => rw [hs] at h; cases h
  | some s =>
    have hm := src_mem l n s hs
    intro hl
    unfold Jn.others at hl
    rw [List.length_filter_eq_length_iff] at hl
    have := hl _ hm
    simp at this
theorem drop_doc (C : Jn.Con) (n : Jn.Bytes) : Jn.drop C n = if (srcL C.procs n).isSome = true then (⟨C.cells, Jn.others C.procs n⟩, 0) else (C, 3) := by
  unfold Jn.drop
  by_cases h : (srcL C.procs n).isSome = true
  · rw [if_pos h, if_neg (src_some _ _ h)]
  · rw [if_neg h, if_pos]
    rw [src_none C.procs n (by simpa using h)]
theorem drop_same (C : Jn.Con) (n : Jn.Bytes) (h : (Jn.drop C n).2 ≠ 0) : (Jn.drop C n).1 = C := by
  unfold Jn.drop at h ⊢
  split
  · rfl
  · rename_i h1; rw [if_neg h1] at h; simp at h
theorem install_same (C : Jn.Con) (n s : Jn.Bytes) (h : (Jn.install C n s).2.2 ≠ 0) : (Jn.install C n s).1 = C := by
  unfold Jn.install at h ⊢
  split
  · rfl
  · split
    · rfl
    · split
      · rfl
      · rename_i h1 h2 h3; rw [if_neg h1, if_neg h2, if_neg h3] at h; simp at h
theorem install_facts (C : Jn.Con) (n s : Jn.Bytes) (h : (Jn.install C n s).2.2 = 0) : Jn.isName n = true ∧ (Ck.read s).2 = 0 ∧ (Jn.install C n s).2.1 = 0 := by
  unfold Jn.install at h ⊢
  split at h
  · simp at h
  · rename_i h1
    rw [if_neg h1]
    split at h
    · rename_i h2; exact absurd h h2
    · rename_i h2
      rw [if_neg h2]
      split at h
      · simp at h
      · rename_i h3
        rw [if_neg h3]
        exact ⟨by simpa using h1, by simpa using h2, rfl⟩
theorem install_redo (C : Jn.Con) (n s : Jn.Bytes) (h : (Jn.install C n s).2.2 = 0) : Jn.redo C (Jn.installE n s) = some (Jn.install C n s).1 ∧ 46 ∉ Jn.installE n s ∧ (Jn.installE n s).length = n.length + s.length + 3 := by
  obtain ⟨hn, hs, -⟩ := install_facts C n s h
  obtain ⟨p1, p2⟩ := Ck.read_plain s hs
  rw [Jn.installE_B]
  refine ⟨by rw [Jn.redo_one C _ (Jn.installB_no n s 59 (.inr rfl) hn p2), Jn.redo_installB C n s hn, if_pos h], ?_, ?_⟩
  · simp only [List.mem_append, not_or]
    exact ⟨Jn.installB_no n s 46 (.inl rfl) hn p1, by simp⟩
  · simp [Jn.installB]; omega
theorem drop_redo {C : Jn.Con} (hok : Jn.Ok C) (n : Jn.Bytes) (h : (Jn.drop C n).2 = 0) : Jn.redo C (Jn.dropE n) = some (Jn.drop C n).1 ∧ 46 ∉ Jn.dropE n ∧ (Jn.dropE n).length ≤ 10 := by
  have hn : Jn.isName n = true := by
    rw [drop_doc] at h
    split at h
    · rename_i hs
      cases ht : srcL C.procs n with
      | none => rw [ht] at hs; cases hs
      | some t => exact (hok.prc _ (src_mem _ _ _ ht)).1
    · simp at h
  have hno : ∀ m : UInt8, (m = 46 ∨ m = 59) → m ∉ Jn.dropB n := by
    intro m hm
    unfold Jn.dropB
    simp only [List.mem_cons, not_or]
    exact ⟨by rcases hm with rfl | rfl <;> decide, Jn.name_no n hn m (by rcases hm with rfl | rfl <;> simp)⟩
  rw [Jn.dropE_B]
  refine ⟨by rw [Jn.redo_one C _ (hno 59 (.inr rfl)), Jn.redo_dropB C n, if_pos h], ?_, ?_⟩
  · simp only [List.mem_append, not_or]
    exact ⟨hno 46 (.inl rfl), by simp⟩
  · have := name_len n hn
    simp [Jn.dropB]; omega

/-- the document's list behind an Install. -/
def procL (l : List (Jn.Bytes × Jn.Bytes)) (n s : Jn.Bytes) : List (Jn.Bytes × Jn.Bytes) := l.takeWhile (fun p => Jn.ltB p.1 n) ++ [(n, s)] ++ l.filter (fun p => Jn.ltB n p.1)
theorem ltB_asym (a b : Jn.Bytes) (h : Jn.ltB a b = true) : Jn.ltB b a = false := by
  cases hb : Jn.ltB b a with
  | false => rfl
  | true => have := Jn.ltB_trans a b a h hb; rw [Jn.ltB_irr] at this; cases this
theorem filter_up (l : List (Jn.Bytes × Jn.Bytes)) (n : Jn.Bytes) (h : ∀ p ∈ l, Jn.ltB n p.1 = true) : l.filter (fun p => Jn.ltB n p.1) = l := List.filter_eq_self.2 h
theorem procL_insert (l : List (Jn.Bytes × Jn.Bytes)) (n s : Jn.Bytes) (h : l.Pairwise (fun p q => Jn.ltB p.1 q.1 = true)) (hn : ∀ p ∈ l, p.1 ≠ n) : procL l n s = Jn.insertP l (n, s) := by
  induction l with
  | nil => rfl
  | cons p r ih =>
    rw [List.pairwise_cons] at h
    have ih' := ih h.2 (fun q hq => hn q (by simp [hq]))
    unfold procL at ih' ⊢
    unfold Jn.insertP
    by_cases hp : Jn.ltB p.1 n = true
    · rw [if_pos hp, List.takeWhile_cons, if_pos hp, List.filter_cons, if_neg (by rw [ltB_asym _ _ hp]; simp), ← ih']
      simp
    · have hp' : Jn.ltB p.1 n = false := by simpa using hp
      have hnp : Jn.ltB n p.1 = true := Jn.ltB_tot p.1 n hp' (hn p (by simp))
      rw [if_neg hp, List.takeWhile_cons, if_neg hp, filter_up (p :: r) n]
      · simp
      · intro q hq
        rcases List.mem_cons.1 hq with rfl | hq
        · exact hnp
        · exact Jn.ltB_trans _ _ _ hnp (h.1 q hq)
theorem install_doc {C : Jn.Con} (hok : Jn.Ok C) (n s : Jn.Bytes) (hn : Jn.isName n = true) (hr : (Ck.read s).2 = 0) (hf : (Jn.others C.procs n).length < 8) : Jn.install C n s = (⟨C.cells, procL (Jn.others C.procs n) n s⟩, 0, 0) := by
  unfold Jn.install
  rw [if_neg (by rw [hn]; simp), if_neg (by simpa using hr), if_neg (by omega), procL_insert (Jn.others C.procs n) n s (hok.srt.filter _) (fun p hp => (Jn.others_mem _ _ _ hp).2)]

theorem ok_plain {C : Jn.Con} (h : Jn.Ok C) : ∀ p ∈ C.procs, Jn.Plain p.2 := fun p hp => Ck.read_plain p.2 (h.prc p hp).2
end Go.Proofs.YtfphfhbgkfobcaaGreatDoor

end
