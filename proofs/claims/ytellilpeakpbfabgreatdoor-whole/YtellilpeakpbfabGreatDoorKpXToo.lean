import Derived.Test.YtellilpeakpbfabGreatDoorHldsToo
import Derived.Test.YtellilpeakpbfabGreatDoorKpWToo
import Derived.Test.YtellilpeakpbfabGreatDoorSiteAToo
section
/-
  Kept.
-/
set_option linter.unusedVariables false
namespace Go.Proofs.YtellilpeakpbfabGreatDoor
open Go.RowKit

theorem setC_get (C : Jn.Con) (hok : Jn.Ok C) (k : Nat) (hk : k ≤ 99) (o : Option Int) : (Jn.setC C (k : Int) o).cells.getD k none = o := by
  have hl := hok.len
  unfold Jn.setC
  simp only [Int.toNat_natCast, List.getD_eq_getElem?_getD]
  rw [List.getElem?_set_self (by omega)]
  rfl

def KtRel (L s D : Nat) (C : Jn.Con) (w0 : World) (va vb vi : Value) (wr : World) : Prop :=
  ∃ j : Nat, j ≤ 2 ∧ vi = .int .i64 (j : Int) ∧ (∃ x, va = .int .i64 x ∧ -9223372036854775808 ≤ x ∧ x ≤ 9223372036854775807) ∧ (∃ x, vb = .int .i64 x ∧ -9223372036854775808 ≤ x ∧ x ≤ 9223372036854775807) ∧
    ∃ S B f d n, n ≤ 1000000000000000000 ∧ Hd L s S B D C f d (· = C) n w0 wr

set_option maxHeartbeats 8000000 in
set_option maxRecDepth 100000 in
theorem kept_any (w : World) (v : Value) (ps : List (Int × Int × Int)) (k x a b : Int) (hv : StepsOf w v ps) (hP : PowAt w) (hWd : WordsAt w) (k0 : -9223372036854775808 ≤ k) (k1 : k ≤ 9223372036854775807) (x0 : -9223372036854775808 ≤ x) (x1 : x ≤ 9223372036854775807)
    (a0 : -9223372036854775808 ≤ a) (a1 : a ≤ 9223372036854775807) (b0 : -9223372036854775808 ≤ b) (b1 : b ≤ 9223372036854775807) :
    Calls Tryz.prog 3 #[v, .int .i64 k, .int .i64 x, .int .i64 a, .int .i64 b] w fun e w' => e = .returned (.bool true) ∧ Below w.heap.size w w' := by
  have HLV := hide (live_any w v ps hv hP hWd)
  have hlen : ps.length ≤ 6000000000000 := by obtain ⟨_, _, _, _, _, h⟩ := hv; exact h
  obtain ⟨vo, vcap, hvs, -⟩ := hv
  have hky := Kp.key_is k
  have hvl := Kp.value_is x
  have HKY0 := hide (fun z => kkey_any k k0 k1 z)
  have HVL0 := hide (fun z => kvalue_any x x0 x1 z)
  obtain ⟨kk, hkk⟩ : ∃ kk : Nat, Kp.key k = (kk : Int) := ⟨(Kp.key k).toNat, by have := Kp.key_bd k; omega⟩
  have hk9 : kk ≤ 99 := by have := Kp.key_bd k; omega
  rw [hkk] at hky HKY0
  generalize Kp.value x = vv at *
  have HST := hide (fun s S B D C f d n w1 (hs : SiteAt w.heap.size w1 s S B D C f d) (hd : DiskFit d f C n) (hb : Below w.heap.size w w1) => Hd.start hs hd hb hP hWd hP.1)
  have HKY := hide hky
  have HVL := hide hvl
  clear hP hWd hkk hky hvl
  subst hvs
  go_enter Tryz.func3, Tryz.ntmps3
  go_wp2_with fail
  refine HLV.out.mono ?_
  rintro e w1 ⟨s, S, B, D, f, d, rfl, hs, hd, -, hb1⟩
  have h1 := HST.out _ _ _ _ _ _ _ _ _ hs hd hb1
  obtain ⟨C0, hC0⟩ : ∃ C, C = ps.foldl Kp.play Jn.none0 := ⟨_, rfl⟩
  rw [← hC0] at h1
  have HPT := hide (site_put h1 h1.ok (by omega) (kk : Int) vv HKY.out HVL.out)
  have hput : (Jn.put C0 (kk : Int) vv).1.cells.getD kk none = some vv := by
    have e : Jn.put C0 (kk : Int) vv = (Jn.setC C0 (kk : Int) (some vv), 0) := by unfold Jn.put; rw [if_neg (by rw [HKY.out]; decide), if_neg (by rw [HVL.out]; decide)]
    rw [e]
    exact setC_get C0 h1.ok kk hk9 _
  obtain ⟨C, hC⟩ : ∃ C, C = (Jn.put C0 (kk : Int) vv).1 := ⟨_, rfl⟩
  rw [← hC] at HPT hput
  have HG := hide hput
  obtain ⟨s0, s1⟩ := h1.cells
  clear hs hd hb1 hC0 hC hput h1 HLV HST HKY HVL
  go_wp2_with fail
  refine (HKY0.out _).mono ?_
  rintro e wx ⟨rfl, hq⟩
  obtain rfl : w1 = wx := hq.symm
  go_wp2_with fail
  refine (HVL0.out _).mono ?_
  rintro e wx ⟨rfl, hq⟩
  obtain rfl : w1 = wx := hq.symm
  clear HKY0 HVL0
  go_wp2_with fail
  refine HPT.out.mono ?_
  rintro e w2 ⟨vo, vn, vk, rfl, ⟨s1, s0⟩, hall⟩
  have HA := hide hall
  clear hall HPT
  go_wp2_with fail
  refine HA.out.mono ?_
  rintro e w3 ⟨rfl, d3, h3, -⟩
  have HSY := hide (fun x (hx : Below w3.heap.size w3 x) => site_sync (h3.below hx))
  obtain ⟨c0, c1⟩ := h3.cells
  clear h3 HA s0 s1
  go_wp2_with fail
  go_region_held3 (fun w' => w'.cell? ⟨s, 1, none⟩ = some (.pointer (some ⟨D, 0, none⟩)) ∧ w'.cell? ⟨s, 0, none⟩ = some (.pointer (some ⟨S, 0, none⟩)))
    (first | with_reducible exact hk1 | exact ⟨h9.cells.2, h9.cells.1⟩ | go_keep)
    (first | (go_at_call 15; refine (HSY.out _ (by first | exact Below.refl _ _ | exact Below.drew (Below.refl _ _))).mono ?_; rintro e wp ⟨vo, vn, vk, rfl, hk1, hall⟩) | (go_at_call 14; refine hall.mono ?_; rintro e w9 ⟨rfl, d9, h9, -⟩))
  have HR0 : Hid (KtRel w.heap.size s D C w (.int .i64 a) (.int .i64 b) (.int .i64 (0 : Int)) w9) := ⟨0, by omega, rfl, ⟨a, rfl, a0, a1⟩, ⟨b, rfl, b0, b1⟩, S, B, f, d9, _, by omega, h9⟩
  clear h9 hk1 hall HSY c0 c1
  go_wp2_with fail
  go_loopw [3, 4, 15] (fun va vb vi wr => KtRel w.heap.size s D C w va vb vi wr) (fun _ _ i _ => 2 - (intOf i).toNat)
  case atStart => exact HR0.out
  case round =>
    clear HR0
    obtain ⟨j, hj, rfl, ⟨xa, rfl, xa0, xa1⟩, ⟨xb, rfl, xb0, xb1⟩, S, B, f, d, n, hn, hh⟩ := hrel
    have HCR := hide (hh.crash (by omega) xa xb xa0 xa1 xb0 xb1)
    obtain ⟨c0, c1⟩ := hh.cells
    have HLOW := hide hh.low
    clear hh
    have hjc : j = 0 ∨ j = 1 ∨ j = 2 := by omega
    rcases hjc with rfl | rfl | rfl
    · have hpb := Kp.pick_bd xa 2 (by decide)
      have hpk := fun z => kpick_any xa 2 (by decide) (by decide) xa0 xa1 z
      rw [show ((2 : Nat) : Int) = 2 from rfl] at hpk
      have hpc : Kp.pick xa 2 = 0 ∨ Kp.pick xa 2 = 1 := by omega
      generalize Kp.pick xa 2 = pc at *
      have HPK := hide hpk
      clear hpk hpb
      go_wp2_with fail
      refine HCR.out.mono ?_
      rintro e w4 ⟨rfl, hre⟩
      have HRE := hide hre
      clear hre HCR c0 c1
      go_wp2_with fail
      refine HRE.out.mono ?_
      rintro e w5 ⟨rfl, C2, S2, B2, f2, d2, hC2, h5, -⟩
      subst hC2
      have HH := hide h5
      clear h5 HRE
      rcases hpc with rfl | rfl
      · go_wp2_with fail
        refine (HPK.out _).mono ?_
        rintro e wx ⟨rfl, hq⟩
        obtain rfl : w5 = wx := hq.symm
        clear HPK
        have HCP := hide (fun x (hx : Below w5.heap.size w5 x) => site_compact (HH.out.below hx))
        obtain ⟨c0, c1⟩ := HH.out.cells
        go_wp2_with fail
        go_region_held3 (fun w' => w'.cell? ⟨s, 1, none⟩ = some (.pointer (some ⟨D, 0, none⟩)) ∧ w'.cell? ⟨s, 0, none⟩ = some (.pointer (some ⟨S2, 0, none⟩)))
          (first | with_reducible exact hk1 | exact ⟨h9.cells.2, h9.cells.1⟩ | go_keep)
          (first | (go_at_call 20; refine (HCP.out _ (by first | exact Below.refl _ _ | exact Below.drew (Below.refl _ _))).mono ?_; rintro e wp ⟨vo, vn, vk, rfl, hk1, hall⟩) | (go_at_call 14; refine hall.mono ?_; rintro e w9 ⟨rfl, d9, h9, -⟩))
        have HRR : Hid (KtRel w.heap.size s D C2 w (.int .i64 xb) (.int .i64 xa) (.int .i64 (1 : Int)) w9) := ⟨1, by omega, rfl, ⟨xb, rfl, xb0, xb1⟩, ⟨xa, rfl, xa0, xa1⟩, S2, B2, _, d9, _, Nat.le_trans (all_room h9.ok).2 (by omega), h9⟩
        clear h9 hk1 hall HCP c0 c1 HH
        go_wp2_with fail
        go_roundw
        case rel => exact HRR.out
        case measure => simp [intOf]
      · have HHO := hide (holds_any w.heap.size s S2 B2 D C2 f2 d2 w5 kk vv hk9 HH.out.site HG.out)
        go_wp2_with fail
        refine (HPK.out _).mono ?_
        rintro e wx ⟨rfl, hq⟩
        obtain rfl : w5 = wx := hq.symm
        clear HPK
        go_wp2_with fail
        refine HHO.out.mono ?_
        rintro e w6 ⟨rfl, hb6⟩
        have h6 := HH.out.below hb6
        clear HH HHO hb6
        have HH := hide h6
        clear h6
        have HCP := hide (fun x (hx : Below w6.heap.size w6 x) => site_compact (HH.out.below hx))
        obtain ⟨c0, c1⟩ := HH.out.cells
        go_wp2_with fail
        go_region_held3 (fun w' => w'.cell? ⟨s, 1, none⟩ = some (.pointer (some ⟨D, 0, none⟩)) ∧ w'.cell? ⟨s, 0, none⟩ = some (.pointer (some ⟨S2, 0, none⟩)))
          (first | with_reducible exact hk1 | exact ⟨h9.cells.2, h9.cells.1⟩ | go_keep)
          (first | (go_at_call 20; refine (HCP.out _ (by first | exact Below.refl _ _ | exact Below.drew (Below.refl _ _))).mono ?_; rintro e wp ⟨vo, vn, vk, rfl, hk1, hall⟩) | (go_at_call 14; refine hall.mono ?_; rintro e w9 ⟨rfl, d9, h9, -⟩))
        have HRR : Hid (KtRel w.heap.size s D C2 w (.int .i64 xb) (.int .i64 xa) (.int .i64 (1 : Int)) w9) := ⟨1, by omega, rfl, ⟨xb, rfl, xb0, xb1⟩, ⟨xa, rfl, xa0, xa1⟩, S2, B2, _, d9, _, Nat.le_trans (all_room h9.ok).2 (by omega), h9⟩
        clear h9 hk1 hall HCP c0 c1 HH
        go_wp2_with fail
        go_roundw
        case rel => exact HRR.out
        case measure => simp [intOf]
    · go_wp2_with fail
      refine HCR.out.mono ?_
      rintro e w4 ⟨rfl, hre⟩
      have HRE := hide hre
      clear hre HCR c0 c1
      go_wp2_with fail
      refine HRE.out.mono ?_
      rintro e w5 ⟨rfl, C2, S2, B2, f2, d2, hC2, h5, -⟩
      subst hC2
      have HHO := hide (holds_any w.heap.size s S2 B2 D C2 f2 d2 w5 kk vv hk9 h5.site HG.out)
      have HH5 := hide h5
      clear h5 HRE
      go_wp2_with fail
      refine HHO.out.mono ?_
      rintro e w6 ⟨rfl, hb6⟩
      have h6 := HH5.out.below hb6
      clear HH5 HHO hb6
      have HH := hide h6
      clear h6
      have HCP := hide (fun x (hx : Below w6.heap.size w6 x) => site_compact (HH.out.below hx))
      obtain ⟨c0, c1⟩ := HH.out.cells
      go_wp2_with fail
      go_region_held3 (fun w' => w'.cell? ⟨s, 1, none⟩ = some (.pointer (some ⟨D, 0, none⟩)) ∧ w'.cell? ⟨s, 0, none⟩ = some (.pointer (some ⟨S2, 0, none⟩)))
        (first | with_reducible exact hk1 | exact ⟨h9.cells.2, h9.cells.1⟩ | go_keep)
        (first | (go_at_call 20; refine (HCP.out _ (by first | exact Below.refl _ _ | exact Below.drew (Below.refl _ _))).mono ?_; rintro e wp ⟨vo, vn, vk, rfl, hk1, hall⟩) | (go_at_call 14; refine hall.mono ?_; rintro e w9 ⟨rfl, d9, h9, -⟩))
      have HRR : Hid (KtRel w.heap.size s D C2 w (.int .i64 xb) (.int .i64 xa) (.int .i64 (2 : Int)) w9) := ⟨2, by omega, rfl, ⟨xb, rfl, xb0, xb1⟩, ⟨xa, rfl, xa0, xa1⟩, S2, B2, _, d9, _, Nat.le_trans (all_room h9.ok).2 (by omega), h9⟩
      clear h9 hk1 hall HCP c0 c1 HH
      go_wp2_with fail
      go_roundw
      case rel => exact HRR.out
      case measure => simp [intOf]
    · clear HCR c0 c1
      go_wp2_with fail
      go_ret
      exact ⟨rfl, HLOW.out⟩
end Go.Proofs.YtellilpeakpbfabGreatDoor

end

section
/-
  A loop that adds up numbers, in plain words; no Go text.
-/
namespace Go.Proofs.YtellilpeakpbfabGreatDoor
open Go.RowKit
namespace Kp
open Tr (Tok Ex Sm Sms kind acc)

def sumCond : Ex := .bin [60] (.leaf [118, 48]) (.leaf [97, 48])
def sumBody : Sms := .cons (.set [118, 48] (.bin [43] (.leaf [118, 48]) (.leaf [49]))) (.cons (.set [118, 49] (.bin [43] (.leaf [118, 49]) (.leaf [118, 48]))) .nil)
def sumTree : Sms := .cons (.whl sumCond sumBody) (.cons (.put (.leaf [97, 49]) (.leaf [118, 49])) (.cons (.stop (.un [64] (.leaf [97, 49]))) .nil))
def sumSrc : List UInt8 := [119, 104, 105, 108, 101, 32, 60, 32, 118, 48, 32, 97, 48, 32, 123, 32, 115, 101, 116, 32, 118, 48, 32, 43, 32, 118, 48, 32, 49, 32, 115, 101, 116, 32, 118, 49, 32, 43, 32, 118, 49, 32, 118, 48, 32, 125, 32, 112, 117, 116, 32, 97, 49, 32, 118, 49, 32, 115, 116, 111, 112, 32, 64, 32, 97, 49]
theorem sum_toks : Ck.toks sumSrc = sumTree.flat := by decide +kernel
theorem sum_ok : sumTree.Ok := by
  have a : kind [60] = 7 := by decide
  have b : kind [118, 48] = 3 := by decide
  have c : kind [97, 48] = 2 := by decide
  have d : kind [43] = 4 := by decide
  have e : kind [49] = 1 := by decide
  have f : kind [118, 49] = 3 := by decide
  have g : kind [97, 49] = 2 := by decide
  have h : kind [64] = 9 := by decide
  exact ⟨⟨⟨⟨by omega, by omega⟩, .inr (.inr b), .inr (.inl c)⟩, ⟨b, ⟨by omega, by omega⟩, .inr (.inr b), .inl e⟩, ⟨f, ⟨by omega, by omega⟩, .inr (.inr f), .inr (.inr b)⟩, trivial⟩, ⟨.inr (.inl g), .inr (.inr f)⟩, ⟨.inl h, .inr (.inl g)⟩, trivial⟩
theorem sum_read : Ck.read sumSrc = (0, 0) := read_tree _ sumTree sum_ok sum_toks (by decide)

def tri (i : Nat) : Nat := i * (i + 1) / 2
theorem tri_succ (i : Nat) : tri i + (i + 1) = tri (i + 1) := by
  unfold tri
  have h : (i + 1) * (i + 1 + 1) = i * (i + 1) + 2 * (i + 1) := by rw [← Nat.add_mul]; simp [Nat.add_mul, Nat.mul_add]; omega
  rw [h]; omega
theorem tri_le (i : Nat) (h : i ≤ 800) : tri i ≤ 320400 := by
  unfold tri
  have : i * (i + 1) ≤ 800 * 801 := Nat.mul_le_mul h (by omega)
  omega
/-- the variables, and the units that were used. -/
def sst (i : Int) (t : Int) (u : Nat) : Rn.St := ⟨0, i, t, 0, 0, [], u, false, 0⟩
theorem use_sst (i t : Int) (u : Nat) : Rn.use (sst i t u) = sst i t (u + 1) := rfl
theorem sum_cond (E : Rn.En) (n : Nat) (hE : E.fuel = 10000) (ha : E.a0 = (n : Int)) (i : Nat) (t : Int) (u : Nat) (hu : u + 4 ≤ 10000) : Rn.texpr E sumCond (Rn.use (sst i t u)) = (Rn.oneIf (decide ((i : Int) < n)), 0, sst i t (u + 4)) := by
  have e1 := tx_var E (Rn.use (Rn.use (sst i t u))) [118, 48] 0 (by decide) (by rw [hE]; show u + 2 < 10000; omega)
  have e2 := tx_arg E (Rn.use (Rn.use (Rn.use (sst i t u)))) [97, 48] 0 (by decide) (by rw [hE]; show u + 3 < 10000; omega)
  have e3 := tx_bin E (Rn.use (sst i t u)) _ _ [60] _ _ _ _ e1 e2 (by rw [hE]; show u + 1 < 10000; omega)
  have hk : kind [60] = 7 := by decide
  unfold sumCond
  rw [e3, hk]
  have hr : ∀ a b, Rn.reckon 7 a b = (Rn.oneIf (decide (a < b)), 0) := fun a b => by unfold Rn.reckon; rw [if_pos rfl]
  rw [hr]
  show (Rn.oneIf (decide ((i : Int) < E.a0)), 0, _) = _
  rw [ha]
  rfl
theorem isVal_nat (k : Nat) (h : k ≤ 1000000) : Jn.isVal (k : Int) = true := by unfold Jn.isVal; simp; omega
theorem reck_add (a b : Nat) (h : a + b ≤ 1000000) : Rn.reckon 4 (a : Int) (b : Int) = (((a + b : Nat) : Int), 0) := by
  unfold Rn.reckon Rn.sum Rn.bounded
  rw [if_neg (by decide), if_neg (by decide), if_pos rfl]
  have e : (a : Int) + b = ((a + b : Nat) : Int) := by omega
  rw [e, if_pos (isVal_nat _ h)]
theorem sum_body (E : Rn.En) (hE : E.fuel = 10000) (i : Nat) (hi : i < 800) (u g : Nat) (hu : u + 8 ≤ 10000) : Rn.tstmts E (g + 3) sumBody (sst i (tri i) u) = (0, sst (i + 1 : Nat) (tri (i + 1)) (u + 8)) := by
  have ht := tri_le (i + 1) (by omega)
  have hs := tri_succ i
  -- the first
  have a1 := tx_var E (Rn.use (Rn.use (sst i (tri i) u))) [118, 48] 0 (by decide) (by rw [hE]; show u + 2 < 10000; omega)
  have a2 : Rn.texpr E (.leaf [49]) (Rn.use (Rn.use (Rn.use (sst i (tri i) u)))) = (((1 : Nat) : Int), 0, Rn.use (Rn.use (Rn.use (Rn.use (sst i (tri i) u))))) := by
    have := tx_num E (Rn.use (Rn.use (Rn.use (sst i (tri i) u)))) 1 (by decide) (by rw [hE]; show u + 3 < 10000; omega)
    have h1 : Lib.decDigits 1 = [49] := by rw [Lib.decDigits, dif_pos (by decide)]; rfl
    rw [h1] at this
    exact this
  have a3 := tx_bin E (Rn.use (sst i (tri i) u)) _ _ [43] _ _ _ _ a1 a2 (by rw [hE]; show u + 1 < 10000; omega)
  have hk : kind [43] = 4 := by decide
  have hv0 : Rn.var (Rn.use (Rn.use (sst i (tri i) u))) 0 = (i : Int) := rfl
  rw [hk, hv0, reck_add i 1 (by omega)] at a3
  have s1 : ∀ g, Rn.tstmt E (g + 1) (.set [118, 48] (.bin [43] (.leaf [118, 48]) (.leaf [49]))) (sst i (tri i) u) = (0, sst (i + 1 : Nat) (tri i) (u + 4)) := by
    intro g
    rw [Rn.tstmt, if_neg (by rw [hE]; show ¬ 10000 ≤ u; omega), a3]
    have hp : (Ck.tokenP [118, 48]).2 = 0 := by decide
    rw [hp]
    rfl
  -- the second
  have b1 := tx_var E (Rn.use (Rn.use (sst (i + 1 : Nat) (tri i) (u + 4)))) [118, 49] 1 (by decide) (by rw [hE]; show u + 4 + 2 < 10000; omega)
  have b2 := tx_var E (Rn.use (Rn.use (Rn.use (sst (i + 1 : Nat) (tri i) (u + 4))))) [118, 48] 0 (by decide) (by rw [hE]; show u + 4 + 3 < 10000; omega)
  have b3 := tx_bin E (Rn.use (sst (i + 1 : Nat) (tri i) (u + 4))) _ _ [43] _ _ _ _ b1 b2 (by rw [hE]; show u + 4 + 1 < 10000; omega)
  have hw0 : Rn.var (Rn.use (Rn.use (sst (i + 1 : Nat) (tri i) (u + 4)))) 1 = (tri i : Int) := rfl
  have hw1 : Rn.var (Rn.use (Rn.use (Rn.use (sst (i + 1 : Nat) (tri i) (u + 4))))) 0 = ((i + 1 : Nat) : Int) := rfl
  rw [hk, hw0, hw1, reck_add (tri i) (i + 1) (by omega), hs] at b3
  have s2 : ∀ g, Rn.tstmt E (g + 1) (.set [118, 49] (.bin [43] (.leaf [118, 49]) (.leaf [118, 48]))) (sst (i + 1 : Nat) (tri i) (u + 4)) = (0, sst (i + 1 : Nat) (tri (i + 1)) (u + 8)) := by
    intro g
    rw [Rn.tstmt, if_neg (by rw [hE]; show ¬ 10000 ≤ u + 4; omega), b3]
    have hp : (Ck.tokenP [118, 49]).2 = 1 := by decide
    rw [hp]
    rfl
  unfold sumBody
  rw [Rn.tstmts, if_neg (by simp [sst]), s1, if_neg (by simp)]
  simp only
  rw [Rn.tstmts, if_neg (by simp [sst]), s2, if_neg (by simp)]
  simp only
  rw [Rn.tstmts]
theorem sum_loop (E : Rn.En) (n : Nat) (hn : n ≤ 800) (hE : E.fuel = 10000) (ha : E.a0 = (n : Int)) : ∀ (j i u g : Nat), i + j = n → u = 12 * i → Rn.tloop E (g + 4 + j) sumCond sumBody (sst i (tri i) u) = (0, sst n (tri n) (12 * n + 4)) := by
  intro j
  induction j with
  | zero =>
    intro i u g hij hu
    have hin : i = n := by omega
    subst hin hu
    rw [show g + 4 + 0 = (g + 3) + 1 from rfl, Rn.tloop, if_neg (by simp [sst]), if_neg (by rw [hE]; show ¬ 10000 ≤ 12 * i; omega), sum_cond E i hE ha i _ _ (by omega)]
    simp [Rn.oneIf]
  | succ j ih =>
    intro i u g hij hu
    subst hu
    have hlt : decide ((i : Int) < n) = true := decide_eq_true (by omega)
    rw [show g + 4 + (j + 1) = (g + 4 + j) + 1 by omega, Rn.tloop, if_neg (by simp [sst]), if_neg (by rw [hE]; show ¬ 10000 ≤ 12 * i; omega), sum_cond E n hE ha i _ _ (by omega), hlt]
    simp only [Rn.oneIf, if_true, ne_eq, not_true, if_false]
    rw [if_neg (by decide), show g + 4 + j = (g + 1 + j) + 3 by omega, sum_body E hE i (by omega) _ _ (by omega)]
    simp only [not_true, if_false]
    have := ih (i + 1) (12 * i + 4 + 8) g (by omega) (by omega)
    rw [show (g + 1 + j) + 3 = g + 4 + j by omega]
    exact this
set_option maxRecDepth 100000 in
/-- all of it. -/
theorem sum_run (C : Jn.Con) (hok : Jn.Ok C) (n k : Nat) (hn : n ≤ 800) (hk : k ≤ 99) : Rn.run C sumSrc [(n : Int), (k : Int)] 10000 = ((tri n : Int), ((12 * n + 10 : Nat) : Int), [((k : Int), true, (tri n : Int))], 0) := by
  have hmay : Rn.may [(n : Int), (k : Int)] 10000 = true := by unfold Rn.may Rn.inb; simp; omega
  have hr : (Ck.read sumSrc).2 = 0 := by rw [sum_read]
  have htree := Rn.run_tree C sumSrc [(n : Int), (k : Int)] 10000 hok hr hmay sumTree sum_ok sum_toks
  have hrun := Rn.run_ok C sumSrc [(n : Int), (k : Int)] 10000 hr hmay
  have key : ∀ E : Rn.En, E.fuel = 10000 → E.a0 = (n : Int) → E.a1 = (k : Int) → ∀ g, Rn.tstmts E (g + 808) sumTree (sst 0 0 0) = (0, ⟨0, n, tri n, 0, 0, [((k : Int), true, (tri n : Int))], 12 * n + 10, true, (tri n : Int)⟩) := by
    intro E hE ha hb g
    have hkey : Jn.isKey (k : Int) = true := by unfold Jn.isKey; simp; omega
    have hl := sum_loop E n hn hE ha n 0 0 (g + (802 - n)) (by omega) (by omega)
    rw [show g + (802 - n) + 4 + n = g + 806 by omega] at hl
    have hl' : Rn.tstmt E (g + 807) (.whl sumCond sumBody) (sst 0 0 0) = (0, sst n (tri n) (12 * n + 4)) := by rw [show g + 807 = (g + 806) + 1 from rfl, Rn.tstmt]; exact hl
    have p1 := tx_arg E (Rn.use (sst n (tri n) (12 * n + 4))) [97, 49] 1 (by decide) (by rw [hE]; show 12 * n + 5 < 10000; omega)
    have p2 := tx_var E (Rn.use (Rn.use (sst n (tri n) (12 * n + 4)))) [118, 49] 1 (by decide) (by rw [hE]; show 12 * n + 6 < 10000; omega)
    have ha1 : Rn.arg E 1 = (k : Int) := by unfold Rn.arg; rw [if_neg (by decide), if_pos rfl, hb]
    have hs2 : Rn.tstmt E (g + 806) (.put (.leaf [97, 49]) (.leaf [118, 49])) (sst n (tri n) (12 * n + 4)) = (0, ⟨0, n, tri n, 0, 0, [((k : Int), true, (tri n : Int))], 12 * n + 7, false, 0⟩) := by
      rw [show g + 806 = (g + 805) + 1 from rfl, Rn.tstmt, if_neg (by rw [hE]; show ¬ 10000 ≤ 12 * n + 4; omega), p1]
      simp only
      rw [p2, ha1]
      unfold Rn.putS Rn.put
      simp [hkey, Rn.find, Rn.use, sst, Rn.var]
    obtain ⟨z, hz⟩ : ∃ z : Rn.St, z = ⟨0, n, tri n, 0, 0, [((k : Int), true, (tri n : Int))], 12 * n + 7, false, 0⟩ := ⟨_, rfl⟩
    rw [← hz] at hs2
    have q1 := tx_arg E (Rn.use (Rn.use z)) [97, 49] 1 (by decide) (by rw [hE, hz]; show 12 * n + 9 < 10000; omega)
    rw [ha1] at q1
    have hg : Rn.get E (Rn.use (Rn.use (Rn.use z))) (k : Int) = ((tri n : Int), true, 0) := by
      rw [hz]
      unfold Rn.get
      simp [Rn.use, Rn.find]
    have q2 := tx_at E (Rn.use z) _ _ _ _ _ q1 hg (by rw [hE, hz]; show 12 * n + 8 < 10000; omega)
    have hs3 : Rn.tstmt E (g + 805) (.stop (.un [64] (.leaf [97, 49]))) z = (0, ⟨0, n, tri n, 0, 0, [((k : Int), true, (tri n : Int))], 12 * n + 10, true, (tri n : Int)⟩) := by
      rw [show g + 805 = (g + 804) + 1 from rfl, Rn.tstmt, if_neg (by rw [hE, hz]; show ¬ 10000 ≤ 12 * n + 7; omega), q2]
      unfold Rn.stopS
      rw [hz]
      simp [Rn.use]
    unfold sumTree
    rw [show g + 808 = (g + 807) + 1 from rfl, Rn.tstmts, if_neg (by simp [sst]), hl', if_neg (by simp)]
    simp only
    rw [show g + 807 = (g + 806) + 1 from rfl, Rn.tstmts, if_neg (by simp [sst]), hs2, if_neg (by simp)]
    simp only
    rw [show g + 806 = (g + 805) + 1 from rfl, Rn.tstmts, if_neg (by rw [hz]; simp), hs3, if_neg (by simp)]
    simp only
    rw [show g + 805 = (g + 804) + 1 from rfl, Rn.tstmts]
  have h9 := key (Rn.env C sumSrc [(n : Int), (k : Int)] 10000) rfl rfl rfl 29195
  have e0 : Rn.start = sst 0 0 0 := rfl
  have eg : 3 * (10000 : Int).toNat + 3 = 29195 + 808 := by decide
  rw [hrun]
  rw [eg, e0, h9] at htree
  rw [eg, e0]
  have h1 : (Rn.stmts (Rn.env C sumSrc [(n : Int), (k : Int)] 10000) (29195 + 808) (sst 0 0 0)).1 = 0 := by
    have := congrArg Prod.fst htree
    exact this.symm
  have h2 := congrArg Prod.snd htree
  generalize Rn.stmts (Rn.env C sumSrc [(n : Int), (k : Int)] 10000) (29195 + 808) (sst 0 0 0) = q at h1 h2
  rw [if_neg (by rw [h1]; simp)]
  have h3 : Rn.N q.2 = ⟨0, n, tri n, 0, 0, [((k : Int), true, (tri n : Int))], 12 * n + 10, true, (tri n : Int)⟩ := h2.symm
  have r1 : q.2.result = (tri n : Int) := congrArg Rn.St.result h3
  have r2 : q.2.used = 12 * n + 10 := congrArg Rn.St.used h3
  have r3 : q.2.writes = [((k : Int), true, (tri n : Int))] := congrArg Rn.St.writes h3
  rw [r1, r2, r3]
/-- the call: the sum, the units, and the cell behind it. -/
theorem sum_call (C : Jn.Con) (hok : Jn.Ok C) (nm : List UInt8) (hs : srcL C.procs nm = some sumSrc) (n k : Nat) (hn : n ≤ 800) (hk : k ≤ 99) :
    (Rn.call C nm [(n : Int), (k : Int)] 10000).2.1 = (tri n : Int) ∧ (Rn.call C nm [(n : Int), (k : Int)] 10000).2.2.1 = ((12 * n + 10 : Nat) : Int) ∧ (Rn.call C nm [(n : Int), (k : Int)] 10000).2.2.2.2 = 0 ∧ (Rn.call C nm [(n : Int), (k : Int)] 10000).1.cells.getD k none = some (tri n : Int) := by
  have ht := tri_le n hn
  have e : Rn.call C nm [(n : Int), (k : Int)] 10000 = ((Rn.wcells C [((k : Int), true, (tri n : Int))]).1, (tri n : Int), ((12 * n + 10 : Nat) : Int), (Rn.wcells C [((k : Int), true, (tri n : Int))]).2, 0) := by
    unfold Rn.call
    rw [hs]
    simp only
    rw [sum_run C hok n k hn hk]
    simp
  rw [e]
  refine ⟨rfl, rfl, rfl, ?_⟩
  have hw := Rn.wcell_con hok ((k : Int), true, (tri n : Int)) ⟨by unfold Jn.isKey; simp; omega, by simp only; omega⟩ (fun h => by cases h)
  show (Rn.wcell C ((k : Int), true, (tri n : Int))).1.cells.getD k none = _
  rw [hw]
  unfold Jn.setC Rn.opW
  have hl := hok.len
  simp only [Int.toNat_natCast, List.getD_eq_getElem?_getD]
  rw [List.getElem?_set_self (by omega)]
  simp
end Kp
end Go.Proofs.YtellilpeakpbfabGreatDoor

end
