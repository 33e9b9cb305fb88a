import Derived.Test.YtellilpeakpbfabGreatDoorRnIToo
section
/-
  The walks of put, del, stop; of skip.
-/
namespace Go.Proofs.YtellilpeakpbfabGreatDoor
open Go.RowKit

def Rn.putS (a b : Int × Int × Rn.St) : Int × Rn.St := if a.2.1 ≠ 0 then (a.2.1, a.2.2) else if b.2.1 ≠ 0 then (b.2.1, b.2.2) else Rn.put b.2.2 (a.1, true, b.1)
def Rn.delS (a : Int × Int × Rn.St) : Int × Rn.St := if a.2.1 ≠ 0 then (a.2.1, a.2.2) else Rn.put a.2.2 (a.1, false, 0)
def Rn.stopS (a : Int × Int × Rn.St) : Int × Rn.St := if a.2.1 ≠ 0 then (a.2.1, a.2.2) else (0, { a.2.2 with result := a.1, stopped := true })

set_option maxHeartbeats 2000000 in
set_option maxRecDepth 100000 in
theorem putW_any (X B : Nat) (w : World) (tv : Value) (E : Rn.En) (s : Rn.St) (a b : Int × Int × Rn.St) (h : WkAt X B w tv E s) (ha : ExAt X B tv E s a) (hb : ExAt X B tv E a.2.2 b) (b0 : -1000000000 ≤ b.1 ∧ b.1 ≤ 1000000000) :
    Calls Tryz.prog 135 #[.pointer (some ⟨X, 0, none⟩)] w (WrPost X B tv E (Rn.putS a b) w) := by
  obtain ⟨q, hq⟩ : ∃ q, q = Rn.putS a b := ⟨_, rfl⟩
  rw [← hq]
  unfold Rn.putS at hq
  have HQ := hide hq
  have HA := hide (ha w h)
  have HB := hide hb
  clear hq ha hb h
  obtain ⟨x1, x2, sx⟩ := a
  obtain ⟨y1, y2, sy⟩ := b
  simp only at HQ HA HB b0
  go_enter Tryz.func135, Tryz.ntmps135
  go_wp2_with fail
  refine HA.out.mono ?_
  rintro e w1 ⟨rfl, hk1, hf1⟩
  have HK1 := hide hk1
  have HF1 := hide hf1
  clear hk1 hf1 HA
  cases ht : (x2 != (0 : Int)) with
  | true =>
    have HE : Hid (q = (x2, sx)) := by show _ = _; rw [HQ.out, if_pos (by simpa using ht)]
    go_wp2
    go_ret
    rw [HE.out]
    exact ⟨rfl, HK1.out, HF1.out⟩
  | false =>
    have h0 : x2 = 0 := by simpa using ht
    have HQ2 : Hid (q = if y2 ≠ 0 then (y2, sy) else Rn.put sy (x1, true, y1)) := by show _ = _; rw [HQ.out, if_neg (by simpa using h0)]
    clear HQ
    subst h0
    go_wp2_with fail
    refine (HB.out _ HK1.out).mono ?_
    rintro e w2 ⟨rfl, hk2, hf2⟩
    have HK2 := hide hk2
    have HF2 := hide (HF1.out.trans hf2)
    clear hk2 hf2 HB HK1 HF1
    cases hu : (y2 != (0 : Int)) with
    | true =>
      have HE : Hid (q = (y2, sy)) := by show _ = _; rw [HQ2.out, if_pos (by simpa using hu)]
      go_wp2
      go_ret
      rw [HE.out]
      exact ⟨rfl, HK2.out, HF2.out⟩
    | false =>
      have h3 : y2 = 0 := by simpa using hu
      have HE : Hid (q = Rn.put sy (x1, true, y1)) := by show _ = _; rw [HQ2.out, if_neg (by simpa using h3)]
      have HW := hide (write_any X B w2 tv E sy (x1, true, y1) HK2.out b0)
      simp only at HW
      clear HQ2
      subst h3
      go_wp2_with fail
      refine HW.out.mono ?_
      rintro e w3 ⟨rfl, hk3, hf3⟩
      have HK3 := hide hk3
      have HF3 := hide (HF2.out.trans hf3)
      clear hk3 hf3 HW
      go_wp2
      go_ret
      rw [HE.out]
      exact ⟨rfl, HK3.out, HF3.out⟩

set_option maxHeartbeats 2000000 in
set_option maxRecDepth 100000 in
theorem delW_any (X B : Nat) (w : World) (tv : Value) (E : Rn.En) (s : Rn.St) (a : Int × Int × Rn.St) (h : WkAt X B w tv E s) (ha : ExAt X B tv E s a) :
    Calls Tryz.prog 136 #[.pointer (some ⟨X, 0, none⟩)] w (WrPost X B tv E (Rn.delS a) w) := by
  obtain ⟨q, hq⟩ : ∃ q, q = Rn.delS a := ⟨_, rfl⟩
  rw [← hq]
  unfold Rn.delS at hq
  have HQ := hide hq
  have HA := hide (ha w h)
  clear hq ha h
  obtain ⟨x1, x2, sx⟩ := a
  simp only at HQ HA
  go_enter Tryz.func136, Tryz.ntmps136
  go_wp2_with fail
  refine HA.out.mono ?_
  rintro e w1 ⟨rfl, hk1, hf1⟩
  have HK1 := hide hk1
  have HF1 := hide hf1
  clear hk1 hf1 HA
  cases ht : (x2 != (0 : Int)) with
  | true =>
    have HE : Hid (q = (x2, sx)) := by show _ = _; rw [HQ.out, if_pos (by simpa using ht)]
    go_wp2
    go_ret
    rw [HE.out]
    exact ⟨rfl, HK1.out, HF1.out⟩
  | false =>
    have h0 : x2 = 0 := by simpa using ht
    have HE : Hid (q = Rn.put sx (x1, false, 0)) := by show _ = _; rw [HQ.out, if_neg (by simpa using h0)]
    have HW := hide (write_any X B w1 tv E sx (x1, false, 0) HK1.out (by simp))
    simp only at HW
    clear HQ
    subst h0
    go_wp2_with fail
    refine HW.out.mono ?_
    rintro e w3 ⟨rfl, hk3, hf3⟩
    have HK3 := hide hk3
    have HF3 := hide (HF1.out.trans hf3)
    clear hk3 hf3 HW
    go_wp2
    go_ret
    rw [HE.out]
    exact ⟨rfl, HK3.out, HF3.out⟩

set_option maxHeartbeats 2000000 in
set_option maxRecDepth 100000 in
theorem stopW_any (X B : Nat) (w : World) (tv : Value) (E : Rn.En) (s : Rn.St) (a : Int × Int × Rn.St) (h : WkAt X B w tv E s) (ha : ExAt X B tv E s a) :
    Calls Tryz.prog 138 #[.pointer (some ⟨X, 0, none⟩)] w (WrPost X B tv E (Rn.stopS a) w) := by
  obtain ⟨q, hq⟩ : ∃ q, q = Rn.stopS a := ⟨_, rfl⟩
  rw [← hq]
  unfold Rn.stopS at hq
  have HQ := hide hq
  have HA := hide (ha w h)
  clear hq ha h
  obtain ⟨x1, x2, sx⟩ := a
  simp only at HQ HA
  go_enter Tryz.func138, Tryz.ntmps138
  go_wp2_with fail
  refine HA.out.mono ?_
  rintro e w1 ⟨rfl, hk1, hf1⟩
  have HK1 := hide hk1
  have HF1 := hide hf1
  obtain ⟨wv, hr, hm, hc, hz⟩ := hk1.cells
  have c14 : w1.cell? ⟨X, 14, none⟩ = some (.bool sx.stopped) := hc 14
  have c15 : w1.cell? ⟨X, 15, none⟩ = some (.int .i64 sx.result) := hc 15
  have f14 := hz 14
  have f15 := hz 15
  have HR := hide hr
  have HM := hide hm
  clear hk1 hf1 HA hc hz hr hm
  cases ht : (x2 != (0 : Int)) with
  | true =>
    have HE : Hid (q = (x2, sx)) := by show _ = _; rw [HQ.out, if_pos (by simpa using ht)]
    go_wp2
    go_ret
    rw [HE.out]
    exact ⟨rfl, HK1.out, HF1.out⟩
  | false =>
    have h0 : x2 = 0 := by simpa using ht
    have HE : Hid (q = (0, { sx with result := x1, stopped := true })) := by show _ = _; rw [HQ.out, if_neg (by simpa using h0)]
    clear HQ
    subst h0
    have g1 := WkAt.set (s' := { sx with result := x1 }) HK1.out 15 (.int .i64 x1) HM.out HR.out rfl rfl ⟨HK1.out.fit.tk, HK1.out.fit.len, HK1.out.fit.arg, HK1.out.fit.con, HK1.out.fit.fuel, HK1.out.fit.pos, HK1.out.fit.var, HK1.out.fit.wrl, HK1.out.fit.wrs, HK1.out.fit.used⟩
    obtain ⟨wv2, hr2, hm2, -, -⟩ := g1.1.cells
    have g2 := WkAt.set (s' := { sx with result := x1, stopped := true }) g1.1 14 (.bool true) hm2 hr2 rfl rfl ⟨HK1.out.fit.tk, HK1.out.fit.len, HK1.out.fit.arg, HK1.out.fit.con, HK1.out.fit.fuel, HK1.out.fit.pos, HK1.out.fit.var, HK1.out.fit.wrl, HK1.out.fit.wrs, HK1.out.fit.used⟩
    have HG1 := hide g1
    have HG2 := hide g2
    clear g1 g2 hr2 hm2
    go_wp2
    go_ret
    rw [HE.out]
    exact ⟨rfl, HG2.out.1, (HF1.out.trans HG1.out.2).trans HG2.out.2⟩

namespace Rn
def deep (E : En) (s : St) (d : Int) : Int := if (tok E s).1 = 18 then d + 1 else if (tok E s).1 = 19 then d - 1 else d
theorem skip_succ (E : En) (n : Nat) (d : Int) (s : St) : skipGo E (n + 1) d s = if s.pos < E.tk.length then (if deep E s d = 0 then adv E s else skipGo E n (deep E s d) (adv E s)) else s := rfl
theorem skip_fit (E : En) (n : Nat) : ∀ d s, Fit E s → Fit E (skipGo E n d s) ∧ Same s (skipGo E n d s) ∧ (skipGo E n d s).used = s.used := by
  induction n with
  | zero => intro d s h; exact ⟨h, Same.refl s, rfl⟩
  | succ n ih =>
    intro d s h
    rw [skip_succ]
    split
    · split
      · exact ⟨h.adv, Same.adv E s, adv_used E s⟩
      · obtain ⟨h1, h2, h3⟩ := ih (deep E s d) (adv E s) h.adv
        exact ⟨h1, (Same.adv E s).trans h2, h3.trans (adv_used E s)⟩
    · exact ⟨h, Same.refl s, rfl⟩
end Rn
/-- the place and the units, as memory has them. -/
def posOf (X : Nat) (w : World) : Nat := (intOf ((w.cell? ⟨X, 1, none⟩).getD (.int .i64 0))).toNat
def usedOf (X : Nat) (w : World) : Nat := (intOf ((w.cell? ⟨X, 13, none⟩).getD (.int .i64 0))).toNat
theorem WkAt.posOf {X B : Nat} {w : World} {tv : Value} {E : Rn.En} {s : Rn.St} (h : WkAt X B w tv E s) : posOf X w = s.pos := by
  obtain ⟨wv, -, -, hc, -⟩ := h.cells
  unfold Proofs.YtellilpeakpbfabGreatDoor.posOf
  rw [show w.cell? ⟨X, 1, none⟩ = some (.int .i64 s.pos) from hc 1]
  simp [intOf]
theorem WkAt.usedOf {X B : Nat} {w : World} {tv : Value} {E : Rn.En} {s : Rn.St} (h : WkAt X B w tv E s) : usedOf X w = s.used := by
  obtain ⟨wv, -, -, hc, -⟩ := h.cells
  unfold Proofs.YtellilpeakpbfabGreatDoor.usedOf
  rw [show w.cell? ⟨X, 13, none⟩ = some (.int .i64 s.used) from hc 13]
  simp [intOf]

def SkRel (X B : Nat) (tv : Value) (E : Rn.En) (w : World) (q : Rn.St) (d : Value) (wr : World) : Prop :=
  ∃ (n : Nat) (k : Int) (s : Rn.St), d = .int .i64 k ∧ (-(s.pos : Int) ≤ k ∧ k ≤ s.pos) ∧ E.tk.length - s.pos < n ∧ WkAt X B wr tv E s ∧ WkFr X w wr ∧ Rn.skipGo E n k s = q

set_option maxHeartbeats 2000000 in
set_option maxRecDepth 100000 in
theorem skip_any (X B : Nat) (w : World) (tv : Value) (E : Rn.En) (s : Rn.St) (h : WkAt X B w tv E s) :
    Calls Tryz.prog 158 #[.pointer (some ⟨X, 0, none⟩)] w fun e w' => e = .returned (.tuple #[]) ∧ WkAt X B w' tv E (Rn.skip E s) ∧ WkFr X w w' := by
  obtain ⟨q, hq⟩ : ∃ q, q = Rn.skip E s := ⟨_, rfl⟩
  rw [← hq]
  have HS0 : Hid (SkRel X B tv E w q (.int .i64 0) w) := ⟨E.tk.length + 1, 0, s, rfl, by omega, by omega, h, Fr.refl _ _ _ _, hq.symm⟩
  clear h hq
  go_enter Tryz.func158, Tryz.ntmps158
  go_wp2
  go_loopw [2] (fun d wr => SkRel X B tv E w q d wr) (fun _ wr => E.tk.length - posOf X wr)
  case atStart => exact HS0.out
  case round =>
    obtain ⟨n, k, t, rfl, hkb, hn, hk, hf, hqq⟩ := hrel
    obtain ⟨wv, -, -, hc, -⟩ := hk.cells
    obtain ⟨ao, cap, rfl, -⟩ := hk.toks.shape
    have c0 : wr.cell? ⟨X, 0, none⟩ = some (.slice ao E.tk.length cap) := hc 0
    have c1 : wr.cell? ⟨X, 1, none⟩ = some (.int .i64 t.pos) := hc 1
    have hln := hk.fit.len
    have hps := hk.fit.pos
    have HQQ := hide hqq
    have HK := hide hk
    have HF := hide hf
    have hX := hk.lt
    have HPO := hide hk.posOf
    clear hc hk hf hqq HS0
    cases n with
    | zero => omega
    | succ n =>
    by_cases hp : t.pos < E.tk.length
    · have tp : decide ((t.pos : Int) < (E.tk.length : Int)) = true := by simp; omega
      have hk1 := HK.out
      have HNX := hide (fun n => next_any X B (wr.drewN n) _ E t (HK.out.below (below_drewN (Below.refl _ _) n)))
      have hte : Rn.deep E t k = if (Rn.tok E t).1 = 18 then k + 1 else if (Rn.tok E t).1 = 19 then k - 1 else k := rfl
      have hadv : (Rn.adv E t).pos = t.pos + 1 := by unfold Rn.adv; rw [if_pos hp]
      have hq2 : (if Rn.deep E t k = 0 then Rn.adv E t else Rn.skipGo E n (Rn.deep E t k) (Rn.adv E t)) = q := by rw [← HQQ.out, Rn.skip_succ, if_pos hp]
      clear HQQ hk1
      generalize Rn.tok E t = tk at HNX hte
      obtain ⟨k1, k2⟩ := tk
      simp only at HNX hte
      generalize Rn.deep E t k = d at hte hq2
      generalize Rn.adv E t = ta at HNX hadv hq2
      go_wp2
      go_quiet (fail)
      go_wp2_with fail
      refine (HNX.out nq).mono ?_
      rintro e w2 ⟨rfl, hk2, hf2⟩
      obtain ⟨w3, hw3⟩ : ∃ w3, w3 = w2.alloc (.cells #[.int .i64 k1, .int .i64 k2] 165) := ⟨_, rfl⟩
      obtain ⟨N, hN⟩ : ∃ N, N = w2.heap.size := ⟨_, rfl⟩
      have hb3 : Below w2.heap.size w2 w3 := by rw [hw3]; exact (Below.refl _ _).alloc (Nat.le_refl _) _
      have hn3 : w3.heap[N]? = some (.cells #[.int .i64 k1, .int .i64 k2] 165 (0, 0)) := by rw [hw3, hN]; exact heap_alloc_new w2 _
      have e0 : w3.cell? ⟨N, 0, none⟩ = some (.int .i64 k1) := (cell_of_row w3 _ 0 _ _ _ hn3).trans rfl
      have HK3 := hide (hk2.below hb3)
      have HF3 := hide (HF.out.trans (((WkFr.below (below_drewN (Below.refl _ _) nq) hX).trans hf2).trans (WkFr.below hb3 hk2.lt)))
      clear hk2 hf2 hb3 hn3 HNX HK HF
      have HEND : Hid (d = 0 → WkAt X B w3 (.slice ao E.tk.length cap) E q ∧ WkFr X w w3) := by
        intro h0
        rw [if_pos h0] at hq2
        rw [← hq2]
        exact ⟨HK3.out, HF3.out⟩
      have hpo : posOf X w3 = t.pos + 1 := HK3.out.posOf.trans hadv
      have HON : Hid (d ≠ 0 → SkRel X B (.slice ao E.tk.length cap) E w q (.int .i64 d) w3 ∧ E.tk.length - posOf X w3 < E.tk.length - posOf X wr) := by
        intro h0
        rw [if_neg h0] at hq2
        refine ⟨⟨n, d, ta, rfl, ?_, by omega, HK3.out, HF3.out, hq2⟩, by have := HPO.out; omega⟩
        rw [hte, hadv]
        repeat' split
        all_goals omega
      clear hq2 HK3 HF3 hpo HPO
      go_upto_region 3 with fail
      rw [← hw3, ← hN]
      clear hw3 hN
      by_cases h18 : k1 = 18
      · have u1 : (k1 == 18) = true := by simpa using h18
        have u2 : (k1 == 19) = false := by rw [h18]; rfl
        rw [if_pos h18] at hte
        clear h18
        by_cases hd : d = 0
        · have u3 : (k + 1 == 0) = true := by rw [← hte]; simpa using hd
          have HFIN := hide (HEND.out hd)
          clear HEND HON
          go_wp2
          refine bodyPost_ret (results_none rfl _ _ _) rfl ?_
          exact ⟨rfl, HFIN.out⟩
        · have u3 : (k + 1 == 0) = false := by rw [← hte]; simpa using hd
          have HFIN := hide (HON.out hd)
          rw [hte] at HFIN
          clear HEND HON
          go_wp2
          go_roundw
          case rel => exact HFIN.out.1
          case measure => exact HFIN.out.2
      · have u1 : (k1 == 18) = false := by simpa using h18
        rw [if_neg h18] at hte
        by_cases h19 : k1 = 19
        · have u2 : (k1 == 19) = true := by simpa using h19
          rw [if_pos h19] at hte
          by_cases hd : d = 0
          · have u3 : (k - 1 == 0) = true := by rw [← hte]; simpa using hd
            have HFIN := hide (HEND.out hd)
            clear HEND HON
            go_wp2
            refine bodyPost_ret (results_none rfl _ _ _) rfl ?_
            exact ⟨rfl, HFIN.out⟩
          · have u3 : (k - 1 == 0) = false := by rw [← hte]; simpa using hd
            have HFIN := hide (HON.out hd)
            rw [hte] at HFIN
            clear HEND HON
            go_wp2
            go_roundw
            case rel => exact HFIN.out.1
            case measure => exact HFIN.out.2
        · have u2 : (k1 == 19) = false := by simpa using h19
          rw [if_neg h19] at hte
          by_cases hd : d = 0
          · have u3 : (k == 0) = true := by rw [← hte]; simpa using hd
            have HFIN := hide (HEND.out hd)
            clear HEND HON
            go_wp2
            refine bodyPost_ret (results_none rfl _ _ _) rfl ?_
            exact ⟨rfl, HFIN.out⟩
          · have u3 : (k == 0) = false := by rw [← hte]; simpa using hd
            have HFIN := hide (HON.out hd)
            rw [hte] at HFIN
            clear HEND HON
            go_wp2
            go_roundw
            case rel => exact HFIN.out.1
            case measure => exact HFIN.out.2
    · have tp : decide ((t.pos : Int) < (E.tk.length : Int)) = false := by simp; omega
      have HE : Hid (q = t) := by show _ = _; rw [← HQQ.out, Rn.skip_succ, if_neg hp]
      go_wp2
      go_quiet (fail)
      go_wp2
      go_end0
      rw [HE.out]
      exact ⟨rfl, HK.out.below (below_drewN (Below.refl _ _) _), HF.out.trans (WkFr.below (below_drewN (Below.refl _ _) _) hX)⟩
end Go.Proofs.YtellilpeakpbfabGreatDoor

end

section
/-
  Plain mathematics of statements: what may be stays so, units go up.
-/
namespace Go.Proofs.YtellilpeakpbfabGreatDoor
open Go.RowKit
namespace Rn

def chooseS (E : En) (n : Nat) (a : Int × Int × St) : Int × St :=
  if a.2.1 ≠ 0 then (a.2.1, a.2.2) else if a.1 = 0 then stmts E n (adv E (skip E a.2.2)) else ((stmts E n (adv E a.2.2)).1, skip E (stmts E n (adv E a.2.2)).2)
def onward (E : En) (n : Nat) (r : Int × St) : Int × St := if r.1 ≠ 0 then r else stmts E n r.2
theorem stmts_succ (E : En) (n : Nat) (s : St) : stmts E (n + 1) s = if s.stopped = true then (0, s) else if (tok E s).1 = 19 ∨ (tok E s).1 = 0 then (0, adv E s) else onward E n (stmt E n (tok E s).1 (adv E s)) := by
  rw [stmts]; rfl
theorem stmt_succ (E : En) (n : Nat) (k : Int) (s : St) : stmt E (n + 1) k s = if k = 15 then loop E n s.pos s else if E.fuel ≤ s.used then (10, s) else
    if k = 11 then setS (tok E s).2 (expr E E.fuel (adv E (use s))) else if k = 12 then putS (expr E E.fuel (use s)) (expr E E.fuel (expr E E.fuel (use s)).2.2) else if k = 13 then delS (expr E E.fuel (use s)) else
    if k = 14 then chooseS E n (expr E E.fuel (use s)) else if k = 16 then stopS (expr E E.fuel (use s)) else (9, use s) := by
  rw [stmt]; rfl
def back (E : En) (n p : Nat) (r : Int × St) : Int × St := if r.1 ≠ 0 then r else loop E n p r.2
def whileS (E : En) (n p : Nat) (a : Int × Int × St) : Int × St :=
  if a.2.1 ≠ 0 then (a.2.1, a.2.2) else if a.1 = 0 then (0, skip E a.2.2) else back E n p (stmts E n (adv E a.2.2))
theorem loop_succ (E : En) (n p : Nat) (s : St) : loop E (n + 1) p s = if s.stopped = true then (0, s) else if E.fuel ≤ s.used then (10, { s with pos := p }) else whileS E n p (expr E E.fuel (use { s with pos := p })) := by
  rw [loop]; rfl

theorem Fit.at {E : En} {s : St} (h : Fit E s) (p : Nat) (hp : p ≤ E.tk.length) : Fit E { s with pos := p } := ⟨h.tk, h.len, h.arg, h.con, h.fuel, hp, h.var, h.wrl, h.wrs, h.used⟩
theorem Fit.skip {E : En} {s : St} (h : Fit E s) : Fit E (skip E s) := (skip_fit E _ 0 s h).1
theorem skip_used {E : En} {s : St} (h : Fit E s) : (skip E s).used = s.used := (skip_fit E _ 0 s h).2.2
theorem setV_var (s : St) (k x j : Int) : var (setV s k x) j = var s j ∨ var (setV s k x) j = x := by
  unfold var setV
  repeat' split
  all_goals simp_all
theorem setV_used (s : St) (k x : Int) : (setV s k x).used = s.used := by
  unfold setV
  repeat' split
  all_goals rfl
theorem Fit.setV {E : En} {s : St} (h : Fit E s) (k x : Int) (hx : -1000000000 ≤ x ∧ x ≤ 1000000000) : Fit E (setV s k x) := by
  have hv : ∀ j, -1000000000 ≤ Rn.var (Rn.setV s k x) j ∧ Rn.var (Rn.setV s k x) j ≤ 1000000000 := by
    intro j
    rcases setV_var s k x j with e | e
    · rw [e]; exact h.var j
    · rw [e]; exact hx
  have hs : (Rn.setV s k x).pos = s.pos ∧ (Rn.setV s k x).writes = s.writes ∧ (Rn.setV s k x).used = s.used := by
    unfold Rn.setV
    repeat' split
    all_goals exact ⟨rfl, rfl, rfl⟩
  exact ⟨h.tk, h.len, h.arg, h.con, h.fuel, by rw [hs.1]; exact h.pos, hv, by rw [hs.2.1]; exact h.wrl, by rw [hs.2.1]; exact h.wrs, by rw [hs.2.2]; exact h.used⟩
theorem Fit.put {E : En} {s : St} (h : Fit E s) (p : Int × Bool × Int) (hx : -1000000000 ≤ p.2.2 ∧ p.2.2 ≤ 1000000000) : Fit E (put s p).2 ∧ (put s p).2.used = s.used := by
  unfold Rn.put
  cases hk : Jn.isKey p.1 with
  | false => rw [if_pos rfl]; exact ⟨h, rfl⟩
  | true =>
    rw [if_neg (by simp)]
    have := find_le s.writes p.1
    have hl := h.wrl
    split
    · refine ⟨Fit.writes h _ (by rw [List.length_set]; exact h.wrl) ?_, rfl⟩
      intro q hq
      rcases List.mem_or_eq_of_mem_set hq with h1 | h1
      · exact h.wrs q h1
      · rw [h1]; exact ⟨hk, hx⟩
    · split
      · exact ⟨h, rfl⟩
      · refine ⟨Fit.writes h _ (by simp; omega) ?_, rfl⟩
        intro q hq
        rcases List.mem_append.1 hq with h1 | h1
        · exact h.wrs q h1
        · simp at h1; rw [h1]; exact ⟨hk, hx⟩

/-- what may be, and no unit less than u. -/
def Up (E : En) (u : Nat) (s : St) : Prop := Fit E s ∧ u ≤ s.used
theorem Up.expr {E : En} {u : Nat} {s : St} (h : Up E u s) (n : Nat) : Up E u (expr E n s).2.2 ∧ (-1000000000 ≤ (Rn.expr E n s).1 ∧ (Rn.expr E n s).1 ≤ 1000000000) := by
  obtain ⟨h1, h2, h3⟩ := expr_fit E n s h.1
  exact ⟨⟨h1, Nat.le_trans h.2 h2.used⟩, h3⟩
theorem Up.adv {E : En} {u : Nat} {s : St} (h : Up E u s) : Up E u (adv E s) := ⟨h.1.adv, by rw [adv_used]; exact h.2⟩
theorem Up.skip {E : En} {u : Nat} {s : St} (h : Up E u s) : Up E u (skip E s) := ⟨h.1.skip, by rw [skip_used h.1]; exact h.2⟩
theorem Up.setS {E : En} {u : Nat} {r : Int × Int × St} (k : Int) (h : Up E u r.2.2) (hb : -1000000000 ≤ r.1 ∧ r.1 ≤ 1000000000) : Up E u (setS k r).2 := by
  unfold Rn.setS
  split
  · exact h
  · exact ⟨h.1.setV k r.1 hb, by rw [setV_used]; exact h.2⟩
theorem Up.putS {E : En} {u : Nat} {a b : Int × Int × St} (ha : Up E u a.2.2) (hb : Up E u b.2.2) (b0 : -1000000000 ≤ b.1 ∧ b.1 ≤ 1000000000) : Up E u (putS a b).2 := by
  unfold Rn.putS
  split
  · exact ha
  · split
    · exact hb
    · obtain ⟨h1, h2⟩ := hb.1.put (a.1, true, b.1) b0
      exact ⟨h1, by rw [h2]; exact hb.2⟩
theorem Up.delS {E : En} {u : Nat} {a : Int × Int × St} (ha : Up E u a.2.2) : Up E u (delS a).2 := by
  unfold Rn.delS
  split
  · exact ha
  · obtain ⟨h1, h2⟩ := ha.1.put (a.1, false, 0) (by simp)
    exact ⟨h1, by rw [h2]; exact ha.2⟩
theorem Up.stopS {E : En} {u : Nat} {a : Int × Int × St} (ha : Up E u a.2.2) : Up E u (stopS a).2 := by
  unfold Rn.stopS
  split
  · exact ha
  · exact ⟨⟨ha.1.tk, ha.1.len, ha.1.arg, ha.1.con, ha.1.fuel, ha.1.pos, ha.1.var, ha.1.wrl, ha.1.wrs, ha.1.used⟩, ha.2⟩
theorem Up.use {E : En} {s : St} (h : Fit E s) (hu : s.used < E.fuel) : Up E (s.used + 1) (use s) := ⟨h.use hu, Nat.le_refl _⟩
theorem Up.mono {E : En} {u u' : Nat} {s : St} (h : Up E u s) (hu : u' ≤ u) : Up E u' s := ⟨h.1, Nat.le_trans hu h.2⟩

theorem run_up (E : En) (n : Nat) : (∀ s, Fit E s → Up E s.used (stmts E n s).2) ∧ (∀ k s, Fit E s → Up E s.used (stmt E n k s).2 ∧ (s.stopped = false → (stmt E n k s).1 = 0 → Up E (s.used + 1) (stmt E n k s).2)) ∧
    (∀ p s, p ≤ E.tk.length → Fit E s → Up E s.used (loop E n p s).2 ∧ (s.stopped = false → (loop E n p s).1 = 0 → Up E (s.used + 1) (loop E n p s).2)) := by
  induction n with
  | zero =>
    refine ⟨fun s h => ?_, fun k s h => ?_, fun p s _ h => ?_⟩
    · rw [stmts]; exact ⟨h, Nat.le_refl _⟩
    · rw [stmt]; exact ⟨⟨h, Nat.le_refl _⟩, fun _ h0 => by simp at h0⟩
    · rw [loop]; exact ⟨⟨h, Nat.le_refl _⟩, fun _ h0 => by simp at h0⟩
  | succ n ih =>
    obtain ⟨i1, i2, i3⟩ := ih
    refine ⟨fun s h => ?_, fun k s h => ?_, fun p s hp h => ?_⟩
    · rw [stmts_succ]
      split
      · exact ⟨h, Nat.le_refl _⟩
      · split
        · exact Up.adv ⟨h, Nat.le_refl _⟩
        · obtain ⟨h1, -⟩ := i2 (tok E s).1 (adv E s) h.adv
          rw [adv_used] at h1
          unfold onward
          split
          · exact h1
          · exact (i1 _ h1.1).mono h1.2
    · rw [stmt_succ]
      split
      · exact i3 s.pos s h.pos h
      · split
        · exact ⟨⟨h, Nat.le_refl _⟩, fun _ h0 => by simp at h0⟩
        · rename_i hu
          have u1 : Up E (s.used + 1) (use s) := Up.use h (by omega)
          have key : ∀ r : Int × St, Up E (s.used + 1) r.2 → Up E s.used r.2 ∧ (s.stopped = false → r.1 = 0 → Up E (s.used + 1) r.2) := fun r hr => ⟨hr.mono (Nat.le_succ _), fun _ _ => hr⟩
          obtain ⟨e1, e2⟩ := u1.expr E.fuel
          split
          · obtain ⟨a1, a2⟩ := u1.adv.expr E.fuel
            exact key _ (Up.setS _ a1 a2)
          · split
            · obtain ⟨b1, b2⟩ := e1.expr E.fuel
              exact key _ (Up.putS e1 b1 b2)
            · split
              · exact key _ (Up.delS e1)
              · split
                · refine key _ ?_
                  unfold chooseS
                  split
                  · exact e1
                  · split
                    · exact (i1 _ e1.skip.adv.1).mono e1.skip.adv.2
                    · exact Up.skip ((i1 _ e1.adv.1).mono e1.adv.2)
                · split
                  · exact key _ (Up.stopS e1)
                  · exact key _ u1
    · rw [loop_succ]
      split
      · rename_i hs; exact ⟨⟨h, Nat.le_refl _⟩, fun h0 => by rw [hs] at h0; cases h0⟩
      · split
        · exact ⟨⟨h.at p hp, Nat.le_refl _⟩, fun _ h0 => by simp at h0⟩
        · rename_i hu
          have u1 : Up E (s.used + 1) (use { s with pos := p }) := Up.use (h.at p hp) (by show s.used < E.fuel; omega)
          obtain ⟨e1, e2⟩ := u1.expr E.fuel
          have key : ∀ r : Int × St, Up E (s.used + 1) r.2 → Up E s.used r.2 ∧ (s.stopped = false → r.1 = 0 → Up E (s.used + 1) r.2) := fun r hr => ⟨hr.mono (Nat.le_succ _), fun _ _ => hr⟩
          refine key _ ?_
          unfold whileS
          split
          · exact e1
          · split
            · exact e1.skip
            · have h2 := (i1 _ e1.adv.1).mono e1.adv.2
              unfold back
              split
              · exact h2
              · exact (i3 p _ hp h2.1).1.mono h2.2
end Rn
end Go.Proofs.YtellilpeakpbfabGreatDoor

end
