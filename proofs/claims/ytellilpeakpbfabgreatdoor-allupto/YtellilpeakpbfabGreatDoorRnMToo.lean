import Derived.Test.YtellilpeakpbfabGreatDoorRnKToo
section
/-
  The walks of block, choose, while, statement, statements.
-/
namespace Go.Proofs.YtellilpeakpbfabGreatDoor
open Go.RowKit

/-- the contract of statements, at the state s. -/
abbrev SmAt (X B : Nat) (tv : Value) (E : Rn.En) (s : Rn.St) (r : Int × Rn.St) : Prop := ∀ x, WkAt X B x tv E s → Calls Tryz.prog 67 #[.pointer (some ⟨X, 0, none⟩)] x (WrPost X B tv E r x)

set_option maxHeartbeats 1000000 in
theorem block_any (X B : Nat) (w : World) (tv : Value) (E : Rn.En) (s : Rn.St) (r : Int × Rn.St) (h : WkAt X B w tv E s) (hr : SmAt X B tv E (Rn.adv E s) r) :
    Calls Tryz.prog 159 #[.pointer (some ⟨X, 0, none⟩)] w (WrPost X B tv E r w) := by
  have HNX := hide (next_any X B w tv E s h)
  have HR := hide hr
  clear h hr
  go_enter Tryz.func159, Tryz.ntmps159
  go_wp2_with fail
  refine HNX.out.mono ?_
  rintro e w1 ⟨rfl, hk1, hf1⟩
  have HK1 := hide hk1
  have HF1 := hide hf1
  clear hk1 hf1 HNX
  go_wp2_with fail
  refine (HR.out _ HK1.out).mono ?_
  rintro e w2 ⟨rfl, hk2, hf2⟩
  have HK2 := hide hk2
  have HF2 := hide (HF1.out.trans hf2)
  clear hk2 hf2 HR
  go_wp2
  go_ret
  exact ⟨rfl, HK2.out, HF2.out⟩

set_option maxHeartbeats 2000000 in
set_option maxRecDepth 100000 in
theorem choose_any (X B : Nat) (w : World) (tv : Value) (E : Rn.En) (n : Nat) (s : Rn.St) (a : Int × Int × Rn.St) (h : WkAt X B w tv E s) (ha : ExAt X B tv E s a)
    (h1 : SmAt X B tv E (Rn.adv E (Rn.skip E a.2.2)) (Rn.stmts E n (Rn.adv E (Rn.skip E a.2.2)))) (h2 : SmAt X B tv E (Rn.adv E a.2.2) (Rn.stmts E n (Rn.adv E a.2.2))) :
    Calls Tryz.prog 137 #[.pointer (some ⟨X, 0, none⟩)] w (WrPost X B tv E (Rn.chooseS E n a) w) := by
  obtain ⟨q, hq⟩ : ∃ q, q = Rn.chooseS E n a := ⟨_, rfl⟩
  rw [← hq]
  unfold Rn.chooseS at hq
  have HQ := hide hq
  have HA := hide (ha w h)
  have HB1 := hide (fun x hx => block_any X B x tv E (Rn.skip E a.2.2) _ hx h1)
  have HB2 := hide (fun x hx => block_any X B x tv E a.2.2 _ hx h2)
  clear hq ha h h1 h2
  obtain ⟨x1, x2, sx⟩ := a
  simp only at HQ HA HB1 HB2
  have HSK := hide (fun x hx => skip_any X B x tv E sx hx)
  generalize Rn.stmts E n (Rn.adv E (Rn.skip E sx)) = r1 at HQ HB1
  generalize Rn.stmts E n (Rn.adv E sx) = r2 at HQ HB2
  go_enter Tryz.func137, Tryz.ntmps137
  go_wp2_with fail
  refine HA.out.mono ?_
  rintro e w1 ⟨rfl, hk1, hf1⟩
  have HK1 := hide hk1
  have HF1 := hide hf1
  clear hk1 hf1 HA
  cases ht : (x2 != (0 : Int)) with
  | true =>
    have HE : Hid (q = (x2, sx)) := by show _ = _; rw [HQ.out, if_pos (by simpa using ht)]
    go_wp2
    go_ret
    rw [HE.out]
    exact ⟨rfl, HK1.out, HF1.out⟩
  | false =>
    have h0 : x2 = 0 := by simpa using ht
    have HQ2 : Hid (q = if x1 = 0 then r1 else (r2.1, Rn.skip E r2.2)) := by show _ = _; rw [HQ.out, if_neg (by simpa using h0)]
    clear HQ
    subst h0
    by_cases hz : x1 = 0
    · have tz : (x1 == 0) = true := by simpa using hz
      have HE : Hid (q = r1) := by show _ = _; rw [HQ2.out, if_pos hz]
      clear HQ2 hz
      go_wp2_with fail
      refine (HSK.out _ HK1.out).mono ?_
      rintro e w2 ⟨rfl, hk2, hf2⟩
      have HK2 := hide hk2
      have HF2 := hide (HF1.out.trans hf2)
      clear hk2 hf2 HSK
      go_wp2_with fail
      refine (HB1.out _ HK2.out).mono ?_
      rintro e w3 ⟨rfl, hk3, hf3⟩
      have HK3 := hide hk3
      have HF3 := hide (HF2.out.trans hf3)
      clear hk3 hf3 HB1
      go_wp2
      go_ret
      rw [HE.out]
      exact ⟨rfl, HK3.out, HF3.out⟩
    · have tz : (x1 == 0) = false := by simpa using hz
      have HE : Hid (q = (r2.1, Rn.skip E r2.2)) := by show _ = _; rw [HQ2.out, if_neg hz]
      clear HQ2 hz HSK
      go_wp2_with fail
      refine (HB2.out _ HK1.out).mono ?_
      rintro e w2 ⟨rfl, hk2, hf2⟩
      have HK2 := hide hk2
      have HF2 := hide (HF1.out.trans hf2)
      have HSK := hide (skip_any X B w2 tv E r2.2 hk2)
      clear hk2 hf2 HB2
      go_wp2_with fail
      refine HSK.out.mono ?_
      rintro e w3 ⟨rfl, hk3, hf3⟩
      have HK3 := hide hk3
      have HF3 := hide (HF2.out.trans hf3)
      clear hk3 hf3 HSK
      go_wp2
      go_ret
      rw [HE.out]
      exact ⟨rfl, HK3.out, HF3.out⟩

/-- a round of while: the place. -/
theorem WkAt.setPos {X B : Nat} {w : World} {tv : Value} {E : Rn.En} {s : Rn.St} (h : WkAt X B w tv E s) (p : Nat) (hp : p ≤ E.tk.length) : WkAt X B (w.setCell ⟨X, 1, none⟩ (.int .i64 p)) tv E { s with pos := p } ∧ WkFr X w (w.setCell ⟨X, 1, none⟩ (.int .i64 p)) := by
  obtain ⟨wv, hr, hm, -, -⟩ := h.cells
  exact WkAt.set (s' := { s with pos := p }) h 1 (.int .i64 p) hm hr rfl rfl (h.fit.at p hp)

def WhRel (X B : Nat) (tv : Value) (E : Rn.En) (w : World) (p n : Nat) (q : Int × Rn.St) (wr : World) : Prop :=
  ∃ (m : Nat) (s : Rn.St), m ≤ n ∧ WkAt X B wr tv E s ∧ WkFr X w wr ∧ 3 * (E.fuel - s.used) + 1 ≤ m ∧ Rn.loop E m p s = q

set_option maxHeartbeats 4000000 in
set_option maxRecDepth 100000 in
theorem while_any (X B : Nat) (w : World) (tv : Value) (E : Rn.En) (n : Nat) (s : Rn.St) (h : WkAt X B w tv E s) (hn : 3 * (E.fuel - s.used) + 1 ≤ n)
    (hS : ∀ m, m < n → ∀ t, 3 * (E.fuel - t.used) + 3 ≤ m → SmAt X B tv E t (Rn.stmts E m t)) :
    Calls Tryz.prog 132 #[.pointer (some ⟨X, 0, none⟩)] w (WrPost X B tv E (Rn.loop E n s.pos s) w) := by
  obtain ⟨q, hq⟩ : ∃ q, q = Rn.loop E n s.pos s := ⟨_, rfl⟩
  rw [← hq]
  have HS := hide hS
  obtain ⟨wv, -, -, hc, -⟩ := h.cells
  have c1 : w.cell? ⟨X, 1, none⟩ = some (.int .i64 s.pos) := hc 1
  have hp := h.fit.pos
  have hln := h.fit.len
  have HR0 : Hid (WhRel X B tv E w s.pos n q w) := ⟨n, s, Nat.le_refl _, h, Fr.refl _ _ _ _, hn, hq.symm⟩
  clear hS h hq hc hn
  obtain ⟨p, hpp⟩ : ∃ p, p = s.pos := ⟨_, rfl⟩
  rw [← hpp] at c1 hp HR0
  clear hpp
  go_enter Tryz.func132, Tryz.ntmps132
  go_wp2
  go_loopw [] (fun wr => WhRel X B tv E w p n q wr) (fun wr => E.fuel - usedOf X wr)
  case atStart => exact HR0.out
  case round =>
    obtain ⟨m, t, hmn, hk, hf, hm, hqq⟩ := hrel
    obtain ⟨wv, -, -, hc, hz⟩ := hk.cells
    have d1 : wr.cell? ⟨X, 1, none⟩ = some (.int .i64 t.pos) := hc 1
    have d14 : wr.cell? ⟨X, 14, none⟩ = some (.bool t.stopped) := hc 14
    have f1 := hz 1
    have HK := hide hk
    have HF := hide hf
    have HUS := hide hk.usedOf
    have hfit := hk.fit
    have hX := hk.lt
    have HP := hide (hk.setPos p hp)
    clear hc hz hk hf HR0
    cases m with
    | zero => omega
    | succ m =>
    cases hst : t.stopped with
    | true =>
      rw [hst] at d14
      have HE : Hid (q = (0, t)) := by show _ = _; rw [← hqq, Rn.loop_succ, if_pos hst]
      clear hqq
      go_wp2
      go_ret
      rw [HE.out]
      exact ⟨rfl, HK.out, HF.out⟩
    | false =>
      rw [hst] at d14
      rw [Rn.loop_succ, if_neg (by rw [hst]; simp)] at hqq
      by_cases hu : E.fuel ≤ t.used
      · have HE : Hid (q = (10, { t with pos := p })) := by show _ = _; rw [← hqq, if_pos hu]
        have HU := hide (unit_no X B _ tv E _ HP.out.1 (by exact hu))
        clear hqq
        go_wp2_with fail
        refine HU.out.mono ?_
        rintro e w2 ⟨rfl, hb⟩
        have HB := hide hb
        clear hb
        go_wp2
        go_ret
        rw [HE.out]
        exact ⟨rfl, HP.out.1.below HB.out, (HF.out.trans HP.out.2).trans (WkFr.below HB.out HP.out.1.lt)⟩
      · rw [if_neg hu] at hqq
        have hfu : t.used < E.fuel := by omega
        have hup : Rn.Up E (t.used + 1) (Rn.use { t with pos := p }) := Rn.Up.use (hfit.at p hp) (by exact hfu)
        obtain ⟨e1, e2⟩ := hup.expr E.fuel
        have HU := hide (unit_ok X B _ tv E _ HP.out.1 (by exact hfu))
        have HEX := hide (fun x (hx : WkAt X B x tv E (Rn.use { t with pos := p })) => expr_any X B tv E E.fuel _ x hx (by omega))
        have hbl : SmAt X B tv E (Rn.adv E (Rn.expr E E.fuel (Rn.use { t with pos := p })).2.2) (Rn.stmts E m (Rn.adv E (Rn.expr E E.fuel (Rn.use { t with pos := p })).2.2)) := HS.out m (by omega) _ (by rw [Rn.adv_used]; have := e1.2; omega)
        have hsu := (Rn.run_up E m).1 _ e1.adv.1
        rw [Rn.adv_used] at hsu
        have hs2 := hsu.2
        have he12 := e1.2
        have hle := hsu.1.used
        generalize Rn.expr E E.fuel (Rn.use { t with pos := p }) = a at *
        obtain ⟨a1, a2, sa⟩ := a
        simp only at hbl hqq hs2 he12 hle
        have HBL := hide (fun x hx => block_any X B x tv E sa _ hx hbl)
        have HSK := hide (fun x hx => skip_any X B x tv E sa hx)
        unfold Rn.whileS at hqq
        have HQ := hide hqq
        clear hqq hbl hsu e1 e2 hup
        simp only at HQ HEX
        generalize Rn.stmts E m (Rn.adv E sa) = rs at *
        go_wp2_with fail
        refine HU.out.mono ?_
        rintro e w2 ⟨rfl, hk2, hf2⟩
        have HK2 := hide hk2
        have HF2 := hide ((HF.out.trans HP.out.2).trans hf2)
        clear hk2 hf2 HU
        go_wp2_with fail
        refine (HEX.out _ HK2.out).mono ?_
        rintro e w3 ⟨rfl, hk3, hf3⟩
        have HK3 := hide hk3
        have HF3 := hide (HF2.out.trans hf3)
        clear hk3 hf3 HEX HK2 HF2
        cases ht : (a2 != (0 : Int)) with
        | true =>
          have HE : Hid (q = (a2, sa)) := by show _ = _; rw [← HQ.out, if_pos (by simpa using ht)]
          go_wp2
          go_ret
          rw [HE.out]
          exact ⟨rfl, HK3.out, HF3.out⟩
        | false =>
          have h0 : a2 = 0 := by simpa using ht
          have HQ2 : Hid ((if a1 = 0 then (0, Rn.skip E sa) else Rn.back E m p rs) = q) := by
            have hh := HQ.out
            rw [if_neg (by simpa using h0)] at hh
            exact hh
          clear HQ
          subst h0
          by_cases hz : a1 = 0
          · have tz : (a1 == 0) = true := by simpa using hz
            have HE : Hid (q = (0, Rn.skip E sa)) := by show _ = _; rw [← HQ2.out, if_pos hz]
            clear HQ2 hz
            go_wp2_with fail
            refine (HSK.out _ HK3.out).mono ?_
            rintro e w4 ⟨rfl, hk4, hf4⟩
            have HK4 := hide hk4
            have HF4 := hide (HF3.out.trans hf4)
            clear hk4 hf4 HSK
            go_wp2
            go_ret
            rw [HE.out]
            exact ⟨rfl, HK4.out, HF4.out⟩
          · have tz : (a1 == 0) = false := by simpa using hz
            have HQ3 : Hid (Rn.back E m p rs = q) := by show _ = _; rw [← HQ2.out, if_neg hz]
            clear HQ2 hz HSK
            obtain ⟨r1, sr⟩ := rs
            simp only at HBL hs2 hle
            unfold Rn.back at HQ3
            simp only at HQ3
            go_wp2_with fail
            refine (HBL.out _ HK3.out).mono ?_
            rintro e w4 ⟨rfl, hk4, hf4⟩
            have HK4 := hide hk4
            have HF4 := hide (HF3.out.trans hf4)
            clear hk4 hf4 HBL
            cases hv : (r1 != (0 : Int)) with
            | true =>
              have HE : Hid (q = (r1, sr)) := by show _ = _; rw [← HQ3.out, if_pos (by simpa using hv)]
              go_wp2
              go_ret
              rw [HE.out]
              exact ⟨rfl, HK4.out, HF4.out⟩
            | false =>
              have h3 : r1 = 0 := by simpa using hv
              have HE : Hid (Rn.loop E m p sr = q) := by show _ = _; rw [← HQ3.out, if_neg (by simpa using h3)]
              clear HQ3
              subst h3
              have HRR : Hid (WhRel X B tv E w p n q w4) := ⟨m, sr, by omega, HK4.out, HF4.out, by omega, HE.out⟩
              have HMS : Hid (E.fuel - usedOf X w4 < E.fuel - usedOf X wr) := by
                have hu4 : usedOf X w4 = sr.used := HK4.out.usedOf
                show _ < _
                rw [HUS.out, hu4]
                omega
              go_wp2
              go_roundw
              case rel => exact HRR.out
              case measure => exact HMS.out
end Go.Proofs.YtellilpeakpbfabGreatDoor

end

section
/-
  The walks of statement and statements, by the units that are left.
-/
namespace Go.Proofs.YtellilpeakpbfabGreatDoor
open Go.RowKit

set_option maxHeartbeats 4000000 in
set_option maxRecDepth 100000 in
theorem statement_any (X B : Nat) (w : World) (tv : Value) (E : Rn.En) (n : Nat) (k : Int) (s : Rn.St) (h : WkAt X B w tv E s) (hn : 3 * (E.fuel - s.used) + 2 ≤ n + 1)
    (hS : ∀ m, m ≤ n → ∀ t, 3 * (E.fuel - t.used) + 3 ≤ m → SmAt X B tv E t (Rn.stmts E m t)) :
    Calls Tryz.prog 96 #[.pointer (some ⟨X, 0, none⟩), .int .i64 k] w (WrPost X B tv E (Rn.stmt E (n + 1) k s) w) := by
  obtain ⟨q, hq⟩ : ∃ q, q = Rn.stmt E (n + 1) k s := ⟨_, rfl⟩
  rw [← hq]
  rw [Rn.stmt_succ] at hq
  have HQ := hide hq
  clear hq
  by_cases k15 : k = 15
  · subst k15
    have HE : Hid (q = Rn.loop E n s.pos s) := by show _ = _; rw [HQ.out, if_pos rfl]
    have HW := hide (while_any X B w tv E n s h (by omega) (fun m hm t ht => hS m (by omega) t ht))
    rw [← HE.out] at HW
    clear HQ HE hS h hn
    go_enter Tryz.func96, Tryz.ntmps96
    go_wp2_with fail
    refine HW.out.mono ?_
    rintro e w1 ⟨rfl, hk1, hf1⟩
    have HK1 := hide hk1
    have HF1 := hide hf1
    clear hk1 hf1 HW
    go_wp2
    go_ret
    exact ⟨rfl, HK1.out, HF1.out⟩
  · have u15 : (k == 15) = false := by simpa using k15
    by_cases hu : E.fuel ≤ s.used
    · have HE : Hid (q = (10, s)) := by show _ = _; rw [HQ.out, if_neg k15, if_pos hu]
      have HU := hide (unit_no X B w tv E s h hu)
      have HH := hide h
      clear HQ hS h
      go_enter Tryz.func96, Tryz.ntmps96
      go_wp2_with fail
      refine HU.out.mono ?_
      rintro e w1 ⟨rfl, hb⟩
      have HB := hide hb
      clear hb
      go_wp2
      go_ret
      rw [HE.out]
      exact ⟨rfl, HH.out.below HB.out, WkFr.below HB.out HH.out.lt⟩
    · have hu' : s.used < E.fuel := by omega
      have HU := hide (unit_ok X B w tv E s h hu')
      have hfit := h.fit
      have u1 : Rn.Up E (s.used + 1) (Rn.use s) := Rn.Up.use hfit hu'
      obtain ⟨e1, e2⟩ := u1.expr E.fuel
      have hex : ∀ t, ExAt X B tv E t (Rn.expr E E.fuel t) := fun t x hx => expr_any X B tv E E.fuel t x hx (by omega)
      have ht2 : Rn.tok E (Rn.use s) = Rn.tok E s := rfl
      obtain ⟨res, hres⟩ : ∃ res, res = (if k = 11 then Rn.setS (Rn.tok E s).2 (Rn.expr E E.fuel (Rn.adv E (Rn.use s))) else if k = 12 then Rn.putS (Rn.expr E E.fuel (Rn.use s)) (Rn.expr E E.fuel (Rn.expr E E.fuel (Rn.use s)).2.2) else if k = 13 then Rn.delS (Rn.expr E E.fuel (Rn.use s)) else
        if k = 14 then Rn.chooseS E n (Rn.expr E E.fuel (Rn.use s)) else if k = 16 then Rn.stopS (Rn.expr E E.fuel (Rn.use s)) else (9, Rn.use s)) := ⟨_, rfl⟩
      have hqr : q = res := by rw [HQ.out, if_neg k15, if_neg hu, ← hres]
      rw [hqr]
      clear HQ hqr
      have close : ∀ (f : FuncId) (hf : f = 134 ∨ f = 135 ∨ f = 136 ∨ f = 137 ∨ f = 138), True := fun _ _ => trivial
      clear close
      by_cases k11 : k = 11
      · subst k11
        rw [if_pos rfl] at hres
        obtain ⟨a1, a2⟩ := u1.adv.expr E.fuel
        have hw := fun x (hx : WkAt X B x tv E (Rn.use s)) => setW_any X B x tv E (Rn.use s) _ hx (hex _) a2
        rw [ht2, ← hres] at hw
        have HW := hide hw
        clear hw hres hS h a1 a2 e1 e2 u1 hex ht2 hfit
        go_enter Tryz.func96, Tryz.ntmps96
        go_wp2_with fail
        refine HU.out.mono ?_
        rintro e w1 ⟨rfl, hk1, hf1⟩
        have HK1 := hide hk1
        have HF1 := hide hf1
        clear hk1 hf1 HU
        go_wp2_with fail
        refine (HW.out _ HK1.out).mono ?_
        rintro e w2 ⟨rfl, hk2, hf2⟩
        have HK2 := hide hk2
        have HF2 := hide (HF1.out.trans hf2)
        clear hk2 hf2 HW
        go_wp2
        go_ret
        exact ⟨rfl, HK2.out, HF2.out⟩
      by_cases k12 : k = 12
      · subst k12
        rw [if_neg (by decide), if_pos rfl] at hres
        obtain ⟨b1, b2⟩ := e1.expr E.fuel
        have hw := fun x (hx : WkAt X B x tv E (Rn.use s)) => putW_any X B x tv E (Rn.use s) _ _ hx (hex _) (hex _) b2
        rw [← hres] at hw
        have HW := hide hw
        clear hw hres hS h b1 b2 e1 e2 u1 hex ht2 hfit
        go_enter Tryz.func96, Tryz.ntmps96
        go_wp2_with fail
        refine HU.out.mono ?_
        rintro e w1 ⟨rfl, hk1, hf1⟩
        have HK1 := hide hk1
        have HF1 := hide hf1
        clear hk1 hf1 HU
        go_wp2_with fail
        refine (HW.out _ HK1.out).mono ?_
        rintro e w2 ⟨rfl, hk2, hf2⟩
        have HK2 := hide hk2
        have HF2 := hide (HF1.out.trans hf2)
        clear hk2 hf2 HW
        go_wp2
        go_ret
        exact ⟨rfl, HK2.out, HF2.out⟩
      by_cases k13 : k = 13
      · subst k13
        rw [if_neg (by decide), if_neg (by decide), if_pos rfl] at hres
        have hw := fun x (hx : WkAt X B x tv E (Rn.use s)) => delW_any X B x tv E (Rn.use s) _ hx (hex _)
        rw [← hres] at hw
        have HW := hide hw
        clear hw hres hS h e1 e2 u1 hex ht2 hfit
        go_enter Tryz.func96, Tryz.ntmps96
        go_wp2_with fail
        refine HU.out.mono ?_
        rintro e w1 ⟨rfl, hk1, hf1⟩
        have HK1 := hide hk1
        have HF1 := hide hf1
        clear hk1 hf1 HU
        go_wp2_with fail
        refine (HW.out _ HK1.out).mono ?_
        rintro e w2 ⟨rfl, hk2, hf2⟩
        have HK2 := hide hk2
        have HF2 := hide (HF1.out.trans hf2)
        clear hk2 hf2 HW
        go_wp2
        go_ret
        exact ⟨rfl, HK2.out, HF2.out⟩
      by_cases k14 : k = 14
      · subst k14
        rw [if_neg (by decide), if_neg (by decide), if_neg (by decide), if_pos rfl] at hres
        have he1 := e1.2
        have hw := fun x (hx : WkAt X B x tv E (Rn.use s)) => choose_any X B x tv E n (Rn.use s) _ hx (hex _) (hS n (Nat.le_refl _) _ (by have := e1.skip.adv.2; omega)) (hS n (Nat.le_refl _) _ (by have := e1.adv.2; omega))
        rw [← hres] at hw
        have HW := hide hw
        clear hw hres hS h he1 e1 e2 u1 hex ht2 hfit
        go_enter Tryz.func96, Tryz.ntmps96
        go_wp2_with fail
        refine HU.out.mono ?_
        rintro e w1 ⟨rfl, hk1, hf1⟩
        have HK1 := hide hk1
        have HF1 := hide hf1
        clear hk1 hf1 HU
        go_wp2_with fail
        refine (HW.out _ HK1.out).mono ?_
        rintro e w2 ⟨rfl, hk2, hf2⟩
        have HK2 := hide hk2
        have HF2 := hide (HF1.out.trans hf2)
        clear hk2 hf2 HW
        go_wp2
        go_ret
        exact ⟨rfl, HK2.out, HF2.out⟩
      by_cases k16 : k = 16
      · subst k16
        rw [if_neg (by decide), if_neg (by decide), if_neg (by decide), if_neg (by decide), if_pos rfl] at hres
        have hw := fun x (hx : WkAt X B x tv E (Rn.use s)) => stopW_any X B x tv E (Rn.use s) _ hx (hex _)
        rw [← hres] at hw
        have HW := hide hw
        clear hw hres hS h e1 e2 u1 hex ht2 hfit
        go_enter Tryz.func96, Tryz.ntmps96
        go_wp2_with fail
        refine HU.out.mono ?_
        rintro e w1 ⟨rfl, hk1, hf1⟩
        have HK1 := hide hk1
        have HF1 := hide hf1
        clear hk1 hf1 HU
        go_wp2_with fail
        refine (HW.out _ HK1.out).mono ?_
        rintro e w2 ⟨rfl, hk2, hf2⟩
        have HK2 := hide hk2
        have HF2 := hide (HF1.out.trans hf2)
        clear hk2 hf2 HW
        go_wp2
        go_ret
        exact ⟨rfl, HK2.out, HF2.out⟩
      · rw [if_neg k11, if_neg k12, if_neg k13, if_neg k14, if_neg k16] at hres
        have HE := hide hres
        have u11 : (k == 11) = false := by simpa using k11
        have u12 : (k == 12) = false := by simpa using k12
        have u13 : (k == 13) = false := by simpa using k13
        have u14 : (k == 14) = false := by simpa using k14
        have u16 : (k == 16) = false := by simpa using k16
        clear hres hS h e1 e2 u1 hex ht2 hfit
        go_enter Tryz.func96, Tryz.ntmps96
        go_wp2_with fail
        refine HU.out.mono ?_
        rintro e w1 ⟨rfl, hk1, hf1⟩
        have HK1 := hide hk1
        have HF1 := hide hf1
        clear hk1 hf1 HU
        go_wp2
        go_ret
        rw [HE.out]
        exact ⟨rfl, HK1.out, HF1.out⟩

def SsRel (X B : Nat) (tv : Value) (E : Rn.En) (w : World) (n : Nat) (q : Int × Rn.St) (wr : World) : Prop :=
  ∃ (m : Nat) (s : Rn.St), m ≤ n ∧ WkAt X B wr tv E s ∧ WkFr X w wr ∧ 3 * (E.fuel - s.used) + 3 ≤ m ∧ Rn.stmts E m s = q

set_option maxHeartbeats 4000000 in
set_option maxRecDepth 100000 in
theorem statements_step (X B : Nat) (w : World) (tv : Value) (E : Rn.En) (n : Nat) (s : Rn.St) (h : WkAt X B w tv E s) (hn : 3 * (E.fuel - s.used) + 3 ≤ n)
    (hS : ∀ m, m < n → ∀ t, 3 * (E.fuel - t.used) + 3 ≤ m → SmAt X B tv E t (Rn.stmts E m t)) :
    Calls Tryz.prog 67 #[.pointer (some ⟨X, 0, none⟩)] w (WrPost X B tv E (Rn.stmts E n s) w) := by
  obtain ⟨q, hq⟩ : ∃ q, q = Rn.stmts E n s := ⟨_, rfl⟩
  rw [← hq]
  have HS := hide hS
  have HR0 : Hid (SsRel X B tv E w n q w) := ⟨n, s, Nat.le_refl _, h, Fr.refl _ _ _ _, hn, hq.symm⟩
  clear hS h hq hn
  go_enter Tryz.func67, Tryz.ntmps67
  go_wp2
  go_loopw [] (fun wr => SsRel X B tv E w n q wr) (fun wr => E.fuel - usedOf X wr)
  case atStart => exact HR0.out
  case round =>
    obtain ⟨m, t, hmn, hk, hf, hm, hqq⟩ := hrel
    obtain ⟨wv, -, -, hc, hz⟩ := hk.cells
    have d14 : wr.cell? ⟨X, 14, none⟩ = some (.bool t.stopped) := hc 14
    have HK := hide hk
    have HF := hide hf
    have HUS := hide hk.usedOf
    have hfit := hk.fit
    have hX := hk.lt
    have HNX := hide (next_any X B wr tv E t hk)
    clear hc hz hk hf HR0
    cases m with
    | zero => omega
    | succ m =>
    cases hst : t.stopped with
    | true =>
      rw [hst] at d14
      have HE : Hid (q = (0, t)) := by show _ = _; rw [← hqq, Rn.stmts_succ, if_pos hst]
      clear hqq
      go_wp2
      go_ret
      rw [HE.out]
      exact ⟨rfl, HK.out, HF.out⟩
    | false =>
      rw [hst] at d14
      rw [Rn.stmts_succ, if_neg (by rw [hst]; simp)] at hqq
      cases m with
      | zero => omega
      | succ m =>
      have hadv : (Rn.adv E t).used = t.used := Rn.adv_used E t
      have hast : (Rn.adv E t).stopped = false := (Rn.Same.adv E t).stopped.trans hst
      have hup := ((Rn.run_up E (m + 1)).2.1 (Rn.tok E t).1 (Rn.adv E t) hfit.adv).2 hast
      have hup0 := ((Rn.run_up E (m + 1)).2.1 (Rn.tok E t).1 (Rn.adv E t) hfit.adv).1
      have hstm := fun x (hx : WkAt X B x tv E (Rn.adv E t)) => statement_any X B x tv E m (Rn.tok E t).1 (Rn.adv E t) hx (by omega) (fun j hj y hy => HS.out j (by omega) y hy)
      rw [hadv] at hup hup0
      generalize Rn.tok E t = tk at *
      obtain ⟨k1, k2⟩ := tk
      simp only at hqq hup hup0 hstm
      have HST := hide hstm
      have HQ := hide hqq
      generalize Rn.stmt E (m + 1) k1 (Rn.adv E t) = rs at *
      obtain ⟨r1, sr⟩ := rs
      unfold Rn.onward at HQ
      simp only at HQ hup hup0
      have HUP := hide hup
      have hle := hup0.1.used
      clear hqq hstm hup hup0 hadv hast
      generalize Rn.adv E t = ta at *
      go_wp2_with fail
      refine HNX.out.mono ?_
      rintro e w2 ⟨rfl, hk2, hf2⟩
      obtain ⟨w3, hw3⟩ : ∃ w3, w3 = w2.alloc (.cells #[.int .i64 k1, .int .i64 k2] 165) := ⟨_, rfl⟩
      obtain ⟨N, hN⟩ : ∃ N, N = w2.heap.size := ⟨_, rfl⟩
      have hb3 : Below w2.heap.size w2 w3 := by rw [hw3]; exact (Below.refl _ _).alloc (Nat.le_refl _) _
      have hn3 : w3.heap[N]? = some (.cells #[.int .i64 k1, .int .i64 k2] 165 (0, 0)) := by rw [hw3, hN]; exact heap_alloc_new w2 _
      have e0 : w3.cell? ⟨N, 0, none⟩ = some (.int .i64 k1) := (cell_of_row w3 _ 0 _ _ _ hn3).trans rfl
      have HK3 := hide (hk2.below hb3)
      have HF3 := hide ((HF.out.trans hf2).trans (WkFr.below hb3 hk2.lt))
      clear hk2 hf2 hb3 hn3 HNX HK HF
      go_upto_region 3 with fail
      rw [← hw3, ← hN]
      clear hw3 hN
      by_cases k19 : k1 = 19
      · have u19 : (k1 == 19) = true := by simpa using k19
        have HE : Hid (q = (0, ta)) := by show _ = _; rw [← HQ.out, if_pos (.inl k19)]
        clear HQ k19
        go_wp2
        go_ret
        rw [HE.out]
        exact ⟨rfl, HK3.out, HF3.out⟩
      · have u19 : (k1 == 19) = false := by simpa using k19
        by_cases k0 : k1 = 0
        · have u0 : (k1 == 0) = true := by simpa using k0
          have HE : Hid (q = (0, ta)) := by show _ = _; rw [← HQ.out, if_pos (.inr k0)]
          clear HQ k0
          go_wp2
          go_ret
          rw [HE.out]
          exact ⟨rfl, HK3.out, HF3.out⟩
        · have u0 : (k1 == 0) = false := by simpa using k0
          have HQ2 : Hid ((if r1 ≠ 0 then (r1, sr) else Rn.stmts E (m + 1) sr) = q) := by
            have hh := HQ.out
            rw [if_neg (by omega)] at hh
            exact hh
          clear HQ
          go_wp2_with fail
          refine (HST.out _ HK3.out).mono ?_
          rintro e w4 ⟨rfl, hk4, hf4⟩
          have HK4 := hide hk4
          have HF4 := hide (HF3.out.trans hf4)
          clear hk4 hf4 HST
          cases hv : (r1 != (0 : Int)) with
          | true =>
            have HE : Hid (q = (r1, sr)) := by show _ = _; rw [← HQ2.out, if_pos (by simpa using hv)]
            go_wp2
            go_ret
            rw [HE.out]
            exact ⟨rfl, HK4.out, HF4.out⟩
          | false =>
            have h3 : r1 = 0 := by simpa using hv
            have HE : Hid (Rn.stmts E (m + 1) sr = q) := by
              have hh := HQ2.out
              rw [if_neg (by simpa using h3)] at hh
              exact hh
            have hus := (HUP.out h3).2
            clear HQ2 HUP
            subst h3
            have HRR : Hid (SsRel X B tv E w n q w4) := ⟨m + 1, sr, by omega, HK4.out, HF4.out, by omega, HE.out⟩
            have HMS : Hid (E.fuel - usedOf X w4 < E.fuel - usedOf X wr) := by
              have hu4 : usedOf X w4 = sr.used := HK4.out.usedOf
              show _ < _
              rw [HUS.out, hu4]
              omega
            go_wp2
            go_roundw
            case rel => exact HRR.out
            case measure => exact HMS.out

theorem statements_any (X B : Nat) (tv : Value) (E : Rn.En) (n : Nat) : ∀ s, 3 * (E.fuel - s.used) + 3 ≤ n → SmAt X B tv E s (Rn.stmts E n s) := by
  induction n using Nat.strongRecOn with
  | ind n ih => exact fun s hn x hx => statements_step X B x tv E n s hx hn (fun m hm t ht => ih m hm t ht)
end Go.Proofs.YtellilpeakpbfabGreatDoor

end
