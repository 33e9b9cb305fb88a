import Derived.Test.YtellilpeakpbfabGreatDoorStCToo
import Derived.Test.YtellilpeakpbfabGreatDoorRnToo
import Derived.BigQuiet
section
/-
  The walk of begin where crashes may come.
-/
set_option linter.unusedVariables false
namespace Go.Proofs.YtellilpeakpbfabGreatDoor
open Go.RowKit

theorem SInvC.plain {L W D m : Nat} {w : World} {C : Jn.Con} (h : SInvC L W D w C m) : SInv L W D w C m := by
  obtain ⟨S, B, f, past, d, nc, nq, na, h1, h2, h3, h4, h5, h6, h7, h8, h9, h10, -⟩ := h
  exact ⟨S, B, f, past, d, nc, nq, na, h1, h2, h3, h4, h5, h6, h7, h8, h9, h10⟩
/-- some of opened's acts. -/
theorem opd_part0 {Z L W D : Nat} {past : List Jn.Con} {nc nq na : Nat} {v : Value} {m : Nat} {w0 w : World} (h : Opd Z L W D past nc nq na v m w0 w) (c : Int) (hc : B64' c) :
    Calls Tryz.prog 71 #[.pointer (some ⟨W, 0, none⟩), v, .int .i64 c] w fun e w1 => e = .returned (.bool true) ∧ ∃ d', LwC (Z + 100000) L W D past d' nc nq na w0 w1 := by
  obtain ⟨C, f, d, S, B, M, hm, hfi, hrd, hsz, hl, hLM, hM, hst, har⟩ := h.is
  have hok := hst.con.ok
  have hlen : (Jn.all C).length ≤ 100000 := Nat.le_trans (all_room hok).1 (Nat.le_trans (all_room hok).2 (by omega))
  have hmv := fun k => hfi.move hrd hok (ok_plain hok) hlen k
  refine (part_any L W D _ M w _ past d nc nq na v _ c hl har (by simp [moveActs]) (fun n => by obtain ⟨d', h1, -⟩ := hmv n; exact ⟨d', h1⟩) hc).mono ?_
  rintro e w1 ⟨rfl, n, d', hpd, hl1, g1⟩
  obtain ⟨d2, h1, hsf⟩ := hmv n
  rw [hpd] at h1
  cases h1
  have hsd : d'.1.size + d'.2.1.size ≤ Z + 100000 := by
    have := play_size _ d d' hpd
    have hls : lens ((moveActs C f).take n) ≤ (Jn.all C).length := by
      refine Nat.le_trans (lens_le _ n) ?_
      simp [lens, moveActs]
    omega
  have hwl : 0 < L := Nat.lt_of_le_of_lt (by decide) h.pL
  exact ⟨rfl, d', ⟨_, hl1.mono g1.size (Nat.le_trans hM g1.size)⟩, hsf.mono (fun X e => e ▸ List.mem_of_getElem? hm), hsd, h.fr.trans (g1.wide (by simp [crT])), h.pow.below h.pL g1.below, h.words.below hwl g1.below, h.pL⟩

set_option maxHeartbeats 8000000 in
set_option maxRecDepth 100000 in
theorem begin_c (w : World) (ao : Option Addr) (cap : Nat) (ops : List OpD) (hs : 0 < ops.length → ∃ g z, ao = some ⟨g, z, none⟩ ∧ ScrAt w g z ops) (hn : ops.length ≤ 1299999999999) (hP : PowAt w) (hWd : WordsAt w) (hO : ∀ o ∈ ops, B64' o.cut ∧ ∃ l, ∀ x, Below w.heap.size w x → Raws x (.slice o.wo o.wn o.wc) l) :
    Calls Tryz.prog 50 #[.slice ao ops.length cap, .bool true] w fun e w' => e = .returned (.tuple #[.pointer (some ⟨w.heap.size + 2, 0, none⟩), .bool true]) ∧ (∃ C, SInvC w.heap.size (w.heap.size + 2) w.heap.size w' C 4) ∧ Below w.heap.size w w' := by
  obtain ⟨w1, hw1⟩ : ∃ w1, w1 = begW w := ⟨_, rfl⟩
  obtain ⟨hB1, hlaw1⟩ := beg_law w
  rw [← hw1] at hB1 hlaw1
  obtain ⟨W, hW⟩ : ∃ W, W = w.heap.size + 2 := ⟨_, rfl⟩
  rw [← hW] at hlaw1 ⊢
  have hpL : 1 < w.heap.size := hP.1
  have hfirm : Firm ((⟨#[]⟩, ⟨#[]⟩, 0, 0) : DS) := ⟨rfl, rfl⟩
  have HOP : Hid (Calls Tryz.prog 70 #[.pointer (some ⟨W, 0, none⟩), .int .i64 0] w1 fun e w2 => ∃ vo vn vk, e = .returned (.tuple #[.slice vo vn vk, .int .i64 0, .bool true]) ∧ Opd 0 w.heap.size W w.heap.size [Jn.none0] 3 3 0 (.slice vo vn vk) 0 w1 w2) := by
    refine (opened_some _ _ _ _ _ w1 _ [Jn.none0] (⟨#[]⟩, ⟨#[]⟩, 0, 0) 0 0 0 Jn.none0 1 hlaw1 (Nat.le_refl _) (Nat.le_refl _) (by simp) (hWd.below hWd.1 hB1) (hP.below hP.1 hB1) (by show (⟨#[]⟩ : ByteArray).size ≤ _; exact Nat.zero_le _) (by show (⟨#[]⟩ : ByteArray).size ≤ _; exact Nat.zero_le _) beg_empty (by omega) (by omega) (by simp)).mono ?_
    rintro e w2 ⟨k, hk, ⟨S, B, v, rfl, hl2, hst, har, hb2⟩, f2⟩
    obtain rfl : k = 0 := by have := (List.getElem?_eq_some_iff.1 hk).1; simp at this; omega
    obtain ⟨vo, vk, rfl, -⟩ := har.shape
    exact ⟨vo, _, vk, rfl, ⟨Jn.none0, 1, (⟨#[]⟩, ⟨#[]⟩, 0, 0), S, B, w1.heap.size, rfl, hfirm, beg_empty, Nat.le_refl _, hl2, hlaw1.low, hb2.size, hst, har⟩, f2.wide (by simp [crT]), (hP.below hP.1 hB1).below hpL hb2, (hWd.below hWd.1 hB1).below (Nat.lt_of_le_of_lt (by decide) hpL) hb2, hpL⟩
  have HEND : Hid (∀ x nc nq na, nc ≤ 12 → nq ≤ 12 → na ≤ 12 → Rest1 w.heap.size W w.heap.size nc nq na w1 x → (∃ C, SInvC w.heap.size W w.heap.size x C 4) ∧ Below w.heap.size w x) := by
    intro x nc nq na a b c h
    obtain ⟨hi, hf⟩ := h.inv (m := 4) (by omega) (by omega) (by omega) (by omega)
    exact ⟨hi, hB1.trans hf.below⟩
  have HCR : Hid (∀ (x : World) (d : DS) (o : OpD) (l : List Int), (∀ x, Below w.heap.size w x → Raws x (.slice o.wo o.wn o.wc) l) → LwC (0 + 100000) w.heap.size W w.heap.size [Jn.none0] d 3 3 0 w1 x → Calls Tryz.prog 72 #[.pointer (some ⟨W, 0, none⟩), .slice o.wo o.wn o.wc] x fun e w' => e = .returned (.bool true) ∧ Rest1 w.heap.size W w.heap.size (3 + 9) (3 + 9) (0 + 9) w1 w') := by
    intro x d o l hr hx
    exact crashes_any _ _ _ _ [Jn.none0] d 3 3 0 w1 x _ l hx (hr w1 hB1) hB1.size (fun y hy => hr y (hB1.trans hy)) (by omega) (by simp) (by omega) (by omega) (by omega)
  have HSB := hide (fun x (hx : Below w.heap.size w1 x) => hB1.trans hx)
  have HS := hide hs
  have HO := hide hO
  clear hlaw1 hB1 hP hWd hs hO hfirm
  unfold begW beg2 beg1 at hw1
  go_enter Tryz.func50, Tryz.ntmps50
  go_upto_region 2 with fail
  rw [← hw1, show w.heap.size + 1 + 1 = W from hW.symm]
  have HW1 := hide hw1
  have HWW := hide hW
  clear hw1 hW
  go_wp2_with fail
  refine HOP.out.mono ?_
  rintro e w2 ⟨vo, vn, vk, rfl, h2⟩
  have HST := hide (opd_settles h2 (by omega) (by simp))
  have HPT := hide (fun c hc => opd_part0 h2 c hc)
  have HB2 := hide (HSB.out w2 h2.low)
  clear h2 HOP
  have t0 : ((0 : Nat) : Int) = 0 := rfl
  rw [t0] at HST
  cases ops with
  | nil =>
    clear HPT HCR HO HS
    simp only [List.length_nil]
    go_wp2_with fail
    refine HST.out.mono ?_
    rintro e w9 ⟨rfl, h9⟩
    have HFIN := hide (HEND.out w9 _ _ _ (by omega) (by omega) (by omega) h9)
    clear h9 HST
    go_wp2_with fail
    go_ret2
    exact ⟨rfl, HFIN.out⟩
  | cons o r =>
    obtain ⟨g, z, rfl, hsc⟩ := HS.out (by simp)
    obtain ⟨hcb, l, hrl⟩ := HO.out o (by simp)
    have HRL := hide hrl
    have hsc2 := (hsc.below HB2.out).2 0 o rfl
    have d0 := hsc2 0 (.int .i64 o.kind) rfl
    have d6 := hsc2 6 (.int .i64 o.cut) rfl
    have d7 := hsc2 7 (.slice o.wo o.wn o.wc) rfl
    have HSC := hide hsc
    simp only [Nat.zero_mul, Nat.add_zero] at d0 d6 d7
    have hln : (0 : Int) < ((o :: r).length : Int) := by simp only [List.length_cons]; omega
    generalize (o :: r).length = n at *
    have tn : decide ((0 : Int) < (n : Int)) = true := decide_eq_true hln
    clear hsc hsc2 hrl HS HO
    by_cases hk : o.kind = 14
    · have tk : (o.kind == 14) = true := by simpa using hk
      by_cases hcut : o.cut = 0
      · have tc : (o.cut != 0) = false := by simpa using hcut
        clear hk hcut HPT HCR
        go_wp2_with fail
        refine HST.out.mono ?_
        rintro e w9 ⟨rfl, h9⟩
        have HFIN := hide (HEND.out w9 _ _ _ (by omega) (by omega) (by omega) h9)
        clear h9 HST
        go_wp2_with fail
        go_ret2
        exact ⟨rfl, HFIN.out⟩
      · have tc : (o.cut != 0) = true := by simpa using hcut
        have HP1 := hide (HPT.out o.cut hcb)
        clear hk hcut HST HPT
        go_wp2_with fail
        refine HP1.out.mono ?_
        rintro e w3 ⟨rfl, d3, h3⟩
        have HC3 := hide (HCR.out w3 d3 o l HRL.out h3)
        have hb3 := HSB.out w3 h3.low
        have e7 := (HSC.out.below hb3).2 0 o rfl 7 (.slice o.wo o.wn o.wc) rfl
        simp only [Nat.zero_mul, Nat.add_zero] at e7
        clear h3 hb3 HP1 HCR
        go_wp2_with fail
        refine HC3.out.mono ?_
        rintro e w9 ⟨rfl, h9⟩
        have HFIN := hide (HEND.out w9 _ _ _ (by omega) (by omega) (by omega) h9)
        clear h9 HC3
        go_wp2_with fail
        go_ret2
        exact ⟨rfl, HFIN.out⟩
    · have tk : (o.kind == 14) = false := by simpa using hk
      clear hk HPT HCR
      go_wp2_with fail
      refine HST.out.mono ?_
      rintro e w9 ⟨rfl, h9⟩
      have HFIN := hide (HEND.out w9 _ _ _ (by omega) (by omega) (by omega) h9)
      clear h9 HST
      go_wp2_with fail
      go_ret2
      exact ⟨rfl, HFIN.out⟩
end Go.Proofs.YtellilpeakpbfabGreatDoor

end

section
/-
  The walk of plays where crashes may come.
-/
set_option linter.unusedVariables false
namespace Go.Proofs.YtellilpeakpbfabGreatDoor
open Go.RowKit

def PlRelC (L W D n : Nat) (w : World) (ok i : Value) (wr : World) : Prop := ∃ k : Nat, k ≤ n ∧ i = .int .i64 k ∧ ok = .bool true ∧ (∃ C, SInvC L W D wr C (4 * k + 4)) ∧ Below L w wr

set_option maxHeartbeats 8000000 in
set_option maxRecDepth 100000 in
theorem plays_c (w : World) (ao : Option Addr) (cap gk : Nat) (ops : List OpD) (ks : List Int) (hs : 0 < ops.length → ∃ g z, ao = some ⟨g, z, none⟩ ∧ ScrAt w g z ops) (hkn : KnAt w gk ks) (hP : PowAt w) (hWd : WordsAt w) (hn : ops.length ≤ 200000000000) (hks : ks.length ≤ 100)
    (hO : ∀ o ∈ ops, B64' o.cut ∧ ∃ l, ∀ x, Below w.heap.size w x → Raws x (.slice o.wo o.wn o.wc) l)
    (hstep : ∀ (x : World) (W D m : Nat) (C : Jn.Con) (o : OpD), o ∈ ops → o.kind ∈ ks → SInvC w.heap.size W D x C m → m ≤ 1200000000000 → PowAt x → WordsAt x → Below w.heap.size w x → Calls Tryz.prog 51 #[.pointer (some ⟨W, 0, none⟩), .agg o.cells, .bool true] x (StepPostC w.heap.size W D m x)) :
    Calls Tryz.prog 32 #[.slice ao ops.length cap, .slice (some ⟨gk, 0, none⟩) ks.length ks.length, .bool true] w fun e w' => e = .returned (.bool true) ∧ Below w.heap.size w w' := by
  have HBG := hide (begin_c w ao cap ops hs (by omega) hP hWd hO)
  have HS := hide hs
  have HK := hide hkn
  have HP := hide hP
  have HWD := hide hWd
  have HSTEP := hide hstep
  obtain ⟨L, hL⟩ : ∃ L, L = w.heap.size := ⟨_, rfl⟩
  obtain ⟨W, hW⟩ : ∃ W, W = L + 2 := ⟨_, rfl⟩
  rw [← hL] at HBG HSTEP ⊢
  rw [← hW] at HBG
  have HL := hide hL
  clear hs hkn hP hWd hstep hO hL hW
  go_enter Tryz.func32, Tryz.ntmps32
  go_wp2_with fail
  refine HBG.out.mono ?_
  rintro e w1 ⟨rfl, hsi, hb1⟩
  have HI := hide hsi
  have HB1 := hide hb1
  clear hsi hb1 HBG
  go_wp2_with fail
  go_loopw [8, 9] (fun ok i wr => PlRelC L W L ops.length w ok i wr) (fun _ i _ => ops.length - (intOf i).toNat)
  case atStart => exact ⟨0, Nat.zero_le _, rfl, rfl, HI.out, HB1.out⟩
  case round =>
    clear HI HB1
    obtain ⟨k, hk, rfl, rfl, ⟨C, hsi⟩, hb⟩ := hrel
    have HI := hide hsi
    have HB := hide hb
    clear hsi hb
    by_cases hkl : k < ops.length
    · obtain ⟨g, z, rfl, hsc⟩ := HS.out (by omega)
      have HSC := hide hsc
      clear hsc HS
      have ho : ops[k]? = some ops[k] := List.getElem?_eq_getElem hkl
      obtain ⟨o, hoe⟩ : ∃ o, o = ops[k] := ⟨_, rfl⟩
      rw [← hoe] at ho
      have hmem : o ∈ ops := by rw [hoe]; exact List.getElem_mem hkl
      have HM := hide hmem
      have HSB : Hid (ScrAt wr g z ops ∧ KnAt wr gk ks) := ⟨HSC.out.below (HL.out ▸ HB.out), HK.out.below (HL.out ▸ HB.out)⟩
      have HO := hide ho
      clear ho hoe hmem
      obtain ⟨wo, rfl⟩ : ∃ wo : World, wo = wr := ⟨_, rfl⟩
      go_wp2_with fail
      go_loopw [10, 11] (fun b i x => InRel ks o.kind wo b i x) (fun _ i _ => ks.length - (intOf i).toNat)
      case atStart => exact ⟨0, Nat.zero_le _, rfl, by simp, Below.refl _ _⟩
      case round =>
        obtain ⟨j, hj, rfl, rfl, hbi⟩ := hrel
        have HBI := hide hbi
        clear hbi
        by_cases hjl : j < ks.length
        · obtain ⟨x, hx⟩ : ∃ x, ks[j]? = some x := ⟨ks[j], List.getElem?_eq_getElem hjl⟩
          have d0 := (HSB.out.1.below HBI.out).2 k o HO.out 0 (.int .i64 o.kind) rfl
          have d1 := (HSB.out.2.below HBI.out).2 j x hx
          simp only [Nat.add_zero] at d0
          have HT := hide (take_in ks o.kind x j hx)
          clear hx
          generalize decide (o.kind ∈ ks.take j) = b at HT
          cases b with
          | true =>
            go_wp2_with fail
            go_quiet (fail)
            all_goals go_wp2
            all_goals go_round
            case rel => exact ⟨j + 1, by omega, by go_num, by rw [HT.out]; rfl, below_drewN HBI.out _⟩
            case measure => simp [intOf]; omega
          | false =>
            go_wp2_with fail
            go_quiet (fail)
            all_goals go_wp2
            all_goals go_round
            case rel => exact ⟨j + 1, by omega, by go_num, by rw [HT.out]; rfl, below_drewN HBI.out _⟩
            case measure => simp [intOf]; omega
        · have hje : ks.take j = ks := List.take_of_length_le (by omega)
          rw [hje]
          have HBW : Hid (Below w.heap.size w wr) := by
            have h1 := HB.out
            rw [HL.out] at h1
            exact h1.trans (HBI.out.mono h1.size)
          by_cases hin : o.kind ∈ ks
          · rw [decide_eq_true hin]
            have hd := (HSB.out.1.below HBI.out).2 k o HO.out
            have d0 := hd 0 (.int .i64 o.kind) rfl
            have d1 := hd 1 (.int .i64 o.n) rfl
            have d2 := hd 2 (.int .i64 o.m) rfl
            have d3 := hd 3 (.string o.s) rfl
            have d4 := hd 4 (.string o.t) rfl
            have d5 := hd 5 (.slice o.lo o.ln o.lc) rfl
            have d6 := hd 6 (.int .i64 o.cut) rfl
            have d7 := hd 7 (.slice o.wo o.wn o.wc) rfl
            simp only [Nat.add_zero] at d0
            have HC := hide (HSTEP.out wr W L (4 * k + 4) C o HM.out hin (HI.out.below HBI.out) (by omega) (HP.out.below HP.out.1 HBW.out) (HWD.out.below HWD.out.1 HBW.out) (HL.out ▸ HBW.out))
            clear hd hin hje
            go_wp2_with fail
            refine HC.out.mono ?_
            rintro e w9 ⟨rfl, ⟨C', hsi'⟩, hb9⟩
            have HST := hide (still_inv hsi'.plain (by omega))
            have HI9 := hide hsi'
            have HB9 := hide hb9
            clear hsi' hb9 HC
            go_wp2_with fail
            refine HST.out.mono ?_
            rintro e w10 ⟨rfl, hb10⟩
            have HB10 := hide hb10
            clear hb10 HST
            go_wp2_with fail
            go_round
            case rel =>
              refine ⟨k + 1, by omega, by go_num, rfl, ⟨C', (HI9.out.below HB10.out).up (by omega)⟩, ?_⟩
              have h1 := HBW.out
              rw [← HL.out] at h1
              exact (h1.trans HB9.out).trans (HB10.out.mono HI9.out.low)
            case measure => simp [intOf]; omega
          · rw [decide_eq_false hin]
            clear hin hje
            go_wp2_with fail
            go_round
            case rel =>
              refine ⟨k + 1, by omega, by go_num, rfl, ⟨C, (HI.out.below HBI.out).up (by omega)⟩, ?_⟩
              have h1 := HBW.out
              rw [← HL.out] at h1
              exact h1
            case measure => simp [intOf]; omega
    · go_wp2_with fail
      go_ret
      exact ⟨rfl, HB.out⟩
end Go.Proofs.YtellilpeakpbfabGreatDoor

end
