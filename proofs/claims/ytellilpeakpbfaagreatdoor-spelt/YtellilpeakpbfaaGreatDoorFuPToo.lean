import Derived.Test.YtellilpeakpbfaaGreatDoorDnUToo
/-
  Fuel over trees: with less of it all is the same up to where it ends; no Go text.
-/
set_option linter.unusedVariables false
namespace Go.Proofs.YtellilpeakpbfaaGreatDoor
open Go.RowKit
open Tr (Ex Sm Sms Tok kind)
namespace Rn

/-- the same surroundings, with no more fuel. -/
structure Lo (E1 E : En) : Prop where
  fuel : E1.fuel ≤ E.fuel
  get : ∀ s k, get E1 s k = get E s k
  leaf : ∀ s t, leafV E1 s t = leafV E s t
/-- the same, or the fuel is at its end. -/
def Q3 (n : Nat) (a b : Int × Int × St) : Prop := (a = b ∧ b.2.1 ≠ 10 ∧ b.2.2.used ≤ n) ∨ (a.2.1 = 10 ∧ a.2.2.used = n ∧ (b.2.1 = 10 ∨ n < b.2.2.used))
def Q2 (n : Nat) (a b : Int × St) : Prop := (a = b ∧ b.1 ≠ 10 ∧ b.2.used ≤ n) ∨ (a.1 = 10 ∧ a.2.used = n ∧ (b.1 = 10 ∨ n < b.2.used))

theorem get_err (E : En) (s : St) (k : Int) : (get E s k).2.2 ≠ 10 := by
  unfold get
  split
  · simp
  · unfold held
    split <;> simp
theorem reckon_err (k a b : Int) : (reckon k a b).2 ≠ 10 := by
  unfold reckon bounded
  repeat' split
  all_goals simp
theorem put_err (s : St) (p : Int × Bool × Int) : (put s p).1 ≠ 10 := by
  unfold put
  repeat' split
  all_goals simp
theorem put_use (s : St) (p : Int × Bool × Int) : (put s p).2.used = s.used := by
  unfold put
  repeat' split
  all_goals rfl
theorem use_used (s : St) : (use s).used = s.used + 1 := rfl
theorem two_used (k : Int) (a b : Int × Int × St) (h : a.2.2.used ≤ b.2.2.used) : a.2.2.used ≤ (two k a b).2.2.used := by
  unfold two
  split
  · exact Nat.le_refl _
  · split <;> exact h
theorem texpr_le (E : En) (e : Ex) : ∀ s, s.used ≤ (texpr E e s).2.2.used := by
  induction e with
  | leaf t => intro s; rw [texpr]; split; exact Nat.le_refl _; exact Nat.le_succ _
  | un t e ih =>
    intro s
    rw [texpr]
    split
    · exact Nat.le_refl _
    · rw [look_snd]; have := ih (use s); rw [use_used] at this; omega
  | bin t a b iha ihb =>
    intro s
    rw [texpr]
    split
    · exact Nat.le_refl _
    · have h1 := iha (use s)
      have h2 := ihb (texpr E a (use s)).2.2
      have h3 := two_used (kind t) _ _ h2
      rw [use_used] at h1
      omega
theorem look_lo {E1 E : En} (h : Lo E1 E) (k : Int) (r : Int × Int × St) : look E1 k r = look E k r := by
  unfold look
  rw [h.get]
theorem look_err (E : En) (k : Int) (r : Int × Int × St) (h : r.2.1 ≠ 10) : (look E k r).2.1 ≠ 10 := by
  unfold look
  split
  · exact h
  · split
    · exact get_err _ _ _
    · simp
theorem look_no (E : En) (k : Int) (r : Int × Int × St) (h : r.2.1 = 10) : (look E k r).2.1 = 10 := by
  unfold look
  have h0 : r.2.1 ≠ 0 := by omega
  rw [if_pos h0]
  exact h
theorem look_q {n : Nat} (E : En) (k : Int) {a b : Int × Int × St} (q : Q3 n a b) : Q3 n (look E k a) (look E k b) := by
  rcases q with ⟨rfl, h2, h3⟩ | ⟨h1, h2, h3⟩
  · exact .inl ⟨rfl, look_err E k _ h2, by rw [look_snd]; exact h3⟩
  · refine .inr ⟨look_no E k _ h1, by rw [look_snd]; exact h2, ?_⟩
    rcases h3 with h3 | h3
    · exact .inl (look_no E k _ h3)
    · exact .inr (by rw [look_snd]; exact h3)
theorem two_no (k : Int) (a b : Int × Int × St) (h : a.2.1 ≠ 0) : two k a b = (0, a.2.1, a.2.2) := by
  unfold two
  rw [if_pos h]
theorem two_q {n : Nat} (k : Int) {a b1 b2 : Int × Int × St} (h2 : a.2.1 ≠ 10) (h3 : a.2.2.used ≤ n) (q : Q3 n b1 b2) : Q3 n (two k a b1) (two k a b2) := by
  by_cases h0 : a.2.1 ≠ 0
  · rw [two_no k a b1 h0, two_no k a b2 h0]
    exact .inl ⟨rfl, h2, h3⟩
  · unfold two
    rw [if_neg h0, if_neg h0]
    rcases q with ⟨rfl, g2, g3⟩ | ⟨g1, g2, g3⟩
    · refine .inl ⟨rfl, ?_, ?_⟩
      · split
        · exact g2
        · exact reckon_err _ _ _
      · split <;> exact g3
    · have hb : b1.2.1 ≠ 0 := by omega
      rw [if_pos hb]
      refine .inr ⟨g1, g2, ?_⟩
      rcases g3 with g3 | g3
      · have hb2 : b2.2.1 ≠ 0 := by omega
        rw [if_pos hb2]
        exact .inl g3
      · right
        split <;> exact g3
theorem texpr_fuel {E1 E : En} (h : Lo E1 E) (e : Ex) : ∀ s, s.used ≤ E1.fuel → Q3 E1.fuel (texpr E1 e s) (texpr E e s) := by
  have hF := h.fuel
  induction e with
  | leaf t =>
    intro s hs
    rw [texpr, texpr]
    by_cases h1 : E1.fuel ≤ s.used
    · rw [if_pos h1]
      refine .inr ⟨rfl, Nat.le_antisymm hs h1, ?_⟩
      by_cases h2 : E.fuel ≤ s.used
      · rw [if_pos h2]; exact .inl rfl
      · rw [if_neg h2]; right; show E1.fuel < s.used + 1; omega
    · rw [if_neg h1, if_neg (by omega), h.leaf]
      exact .inl ⟨rfl, by simp, by show s.used + 1 ≤ _; omega⟩
  | un t e ih =>
    intro s hs
    rw [texpr, texpr]
    by_cases h1 : E1.fuel ≤ s.used
    · rw [if_pos h1]
      refine .inr ⟨rfl, Nat.le_antisymm hs h1, ?_⟩
      by_cases h2 : E.fuel ≤ s.used
      · rw [if_pos h2]; exact .inl rfl
      · rw [if_neg h2, look_snd]
        have := texpr_le E e (use s)
        rw [use_used] at this
        right; omega
    · rw [if_neg h1, if_neg (by omega), look_lo h]
      exact look_q E _ (ih (use s) (by rw [use_used]; omega))
  | bin t a b iha ihb =>
    intro s hs
    rw [texpr, texpr]
    by_cases h1 : E1.fuel ≤ s.used
    · rw [if_pos h1]
      refine .inr ⟨rfl, Nat.le_antisymm hs h1, ?_⟩
      by_cases h2 : E.fuel ≤ s.used
      · rw [if_pos h2]; exact .inl rfl
      · rw [if_neg h2]
        have g1 := texpr_le E a (use s)
        have g2 := texpr_le E b (texpr E a (use s)).2.2
        have g3 := two_used (kind t) _ _ g2
        rw [use_used] at g1
        right; omega
    · rw [if_neg h1, if_neg (by omega)]
      rcases iha (use s) (by rw [use_used]; omega) with ⟨e1, h2, h3⟩ | ⟨g1, g2, g3⟩
      · rw [e1]
        exact two_q _ h2 h3 (ihb _ h3)
      · have h0 : (texpr E1 a (use s)).2.1 ≠ 0 := by omega
        rw [two_no _ _ _ h0]
        refine .inr ⟨g1, g2, ?_⟩
        rcases g3 with g3 | g3
        · have h0' : (texpr E a (use s)).2.1 ≠ 0 := by omega
          rw [two_no _ _ _ h0']
          exact .inl g3
        · have g4 := texpr_le E b (texpr E a (use s)).2.2
          have g5 := two_used (kind t) _ _ g4
          right; omega

/-- what a statement makes of its expression. -/
theorem q_then {n : Nat} {a b : Int × Int × St} (f : Int × Int × St → Int × St) (hf0 : ∀ r, r.2.1 ≠ 0 → f r = (r.2.1, r.2.2)) (hf1 : ∀ r, r.2.1 = 0 → (f r).1 ≠ 10) (hfu : ∀ r, (f r).2.used = r.2.2.used) (q : Q3 n a b) : Q2 n (f a) (f b) := by
  rcases q with ⟨rfl, h2, h3⟩ | ⟨h1, h2, h3⟩
  · refine .inl ⟨rfl, ?_, by rw [hfu]; exact h3⟩
    by_cases h0 : a.2.1 = 0
    · exact hf1 a h0
    · rw [hf0 a h0]; exact h2
  · refine .inr ⟨by rw [hf0 a (by omega)]; exact h1, by rw [hfu]; exact h2, ?_⟩
    rcases h3 with h3 | h3
    · exact .inl (by rw [hf0 b (by omega)]; exact h3)
    · exact .inr (by rw [hfu]; exact h3)
theorem q_use {E1 E : En} (h : Lo E1 E) {s : St} {x1 x2 : Int × St} (hs : s.used ≤ E1.fuel) (hx : s.used < E1.fuel → Q2 E1.fuel x1 x2) (hm : s.used + 1 ≤ x2.2.used) : Q2 E1.fuel (if E1.fuel ≤ s.used then (10, s) else x1) (if E.fuel ≤ s.used then (10, s) else x2) := by
  have hF := h.fuel
  by_cases h1 : E1.fuel ≤ s.used
  · rw [if_pos h1]
    refine .inr ⟨rfl, Nat.le_antisymm hs h1, ?_⟩
    by_cases h2 : E.fuel ≤ s.used
    · rw [if_pos h2]; exact .inl rfl
    · rw [if_neg h2]; right; omega
  · rw [if_neg h1, if_neg (by omega)]
    exact hx (by omega)
theorem setS_u (k : Int) (r : Int × Int × St) : (setS k r).2.used = r.2.2.used := by
  unfold setS
  split
  · rfl
  · exact setV_used _ _ _
theorem delS_u (r : Int × Int × St) : (delS r).2.used = r.2.2.used := by
  unfold delS
  split
  · rfl
  · exact put_use _ _
theorem stopS_u (r : Int × Int × St) : (stopS r).2.used = r.2.2.used := by
  unfold stopS
  split <;> rfl
theorem putS_u (a b : Int × Int × St) (h : a.2.2.used ≤ b.2.2.used) : a.2.2.used ≤ (putS a b).2.used := by
  unfold putS
  split
  · exact Nat.le_refl _
  · split
    · exact h
    · rw [put_use]; exact h
theorem putS_no (a b : Int × Int × St) (h : a.2.1 ≠ 0) : putS a b = (a.2.1, a.2.2) := by
  unfold putS
  rw [if_pos h]

theorem tr_fuel {E1 E : En} (h : Lo E1 E) (g1 : Nat) : ∀ g2,
    (∀ b s, Fit E1 s → Fit E s → 3 * (E1.fuel - s.used) + 3 ≤ g1 → 3 * (E.fuel - s.used) + 3 ≤ g2 → Q2 E1.fuel (tstmts E1 g1 b s) (tstmts E g2 b s)) ∧
    (∀ m s, Fit E1 s → Fit E s → 3 * (E1.fuel - s.used) + 2 ≤ g1 → 3 * (E.fuel - s.used) + 2 ≤ g2 → Q2 E1.fuel (tstmt E1 g1 m s) (tstmt E g2 m s)) ∧
    (∀ e b s, Fit E1 s → Fit E s → 3 * (E1.fuel - s.used) + 1 ≤ g1 → 3 * (E.fuel - s.used) + 1 ≤ g2 → Q2 E1.fuel (tloop E1 g1 e b s) (tloop E g2 e b s)) := by
  have hF := h.fuel
  induction g1 with
  | zero => intro g2; exact ⟨fun b s _ _ h1 _ => by omega, fun m s _ _ h1 _ => by omega, fun e b s _ _ h1 _ => by omega⟩
  | succ g1 ih =>
    intro g2
    cases g2 with
    | zero => exact ⟨fun b s _ _ _ h1 => by omega, fun m s _ _ _ h1 => by omega, fun e b s _ _ _ h1 => by omega⟩
    | succ g2 =>
      obtain ⟨ihs, ihm, ihl⟩ := ih g2
      refine ⟨?_, ?_, ?_⟩
      · intro b s f1 f2 h1 h2
        cases b with
        | nil => rw [tstmts, tstmts]; exact .inl ⟨rfl, by simp, f1.used⟩
        | cons m r =>
          rw [tstmts, tstmts]
          by_cases hs : s.stopped = true
          · rw [if_pos hs, if_pos hs]; exact .inl ⟨rfl, by simp, f1.used⟩
          · rw [if_neg hs, if_neg hs]
            have hs' : s.stopped = false := by simpa using hs
            obtain ⟨u1, u1'⟩ := (tr_up E1 g1).2.1 m s f1
            obtain ⟨u2, u2'⟩ := (tr_up E g2).2.1 m s f2
            rcases ihm m s f1 f2 (by omega) (by omega) with ⟨e, q2, q3⟩ | ⟨q1, q2, q3⟩
            · rw [e] at u1 u1' ⊢
              by_cases h0 : (tstmt E g2 m s).1 ≠ 0
              · rw [if_pos h0, if_pos h0]; exact .inl ⟨rfl, q2, q3⟩
              · rw [if_neg h0, if_neg h0]
                have h0' : (tstmt E g2 m s).1 = 0 := by omega
                have v1 := u1' hs' h0'
                have v2 := u2' hs' h0'
                have a1 := v1.1.used
                have a2 := v2.1.used
                have b1 := v1.2
                have b2 := v2.2
                exact ihs r _ v1.1 v2.1 (by omega) (by omega)
            · have h0 : (tstmt E1 g1 m s).1 ≠ 0 := by omega
              rw [if_pos h0]
              refine .inr ⟨q1, q2, ?_⟩
              by_cases h0b : (tstmt E g2 m s).1 ≠ 0
              · rw [if_pos h0b]; exact q3
              · rw [if_neg h0b]
                rcases q3 with q3 | q3
                · omega
                · have := ((tr_up E g2).1 r _ u2.1).2
                  right; omega
      · intro m s f1 f2 h1 h2
        have hu := f1.used
        cases m with
        | whl e b => rw [tstmt, tstmt]; exact ihl e b s f1 f2 (by omega) (by omega)
        | set v e =>
          rw [tstmt, tstmt]
          have hl := texpr_le E e (use s)
          rw [use_used] at hl
          refine q_use h hu (fun hlt => ?_) (by rw [setS_u]; exact hl)
          exact q_then (setS _) (fun r hr => by unfold setS; rw [if_pos hr]) (fun r hr => by unfold setS; rw [if_neg (by omega)]; simp) (setS_u _) (texpr_fuel h e (use s) (by rw [use_used]; omega))
        | put a b =>
          rw [tstmt, tstmt]
          have hl := texpr_le E a (use s)
          have hl2 := texpr_le E b (texpr E a (use s)).2.2
          have hl3 := putS_u _ _ hl2
          rw [use_used] at hl
          refine q_use h hu (fun hlt => ?_) (by omega)
          rcases texpr_fuel h a (use s) (by rw [use_used]; omega) with ⟨e1, q2, q3⟩ | ⟨q1, q2, q3⟩
          · rw [e1]
            by_cases h0 : (texpr E a (use s)).2.1 ≠ 0
            · rw [putS_no _ _ h0, putS_no _ _ h0]; exact .inl ⟨rfl, q2, q3⟩
            · refine q_then (putS (texpr E a (use s))) (fun r hr => by unfold putS; rw [if_neg h0, if_pos hr]) (fun r hr => by unfold putS; rw [if_neg h0, if_neg (by omega)]; exact put_err _ _) (fun r => ?_) (texpr_fuel h b _ q3)
              unfold putS
              rw [if_neg h0]
              split
              · rfl
              · exact put_use _ _
          · have h0 : (texpr E1 a (use s)).2.1 ≠ 0 := by omega
            rw [putS_no _ _ h0]
            refine .inr ⟨q1, q2, ?_⟩
            rcases q3 with q3 | q3
            · have h0' : (texpr E a (use s)).2.1 ≠ 0 := by omega
              rw [putS_no _ _ h0']; exact .inl q3
            · right; omega
        | del a =>
          rw [tstmt, tstmt]
          have hl := texpr_le E a (use s)
          rw [use_used] at hl
          refine q_use h hu (fun hlt => ?_) (by rw [delS_u]; exact hl)
          exact q_then delS (fun r hr => by unfold delS; rw [if_pos hr]) (fun r hr => by unfold delS; rw [if_neg (by omega)]; exact put_err _ _) delS_u (texpr_fuel h a (use s) (by rw [use_used]; omega))
        | stop a =>
          rw [tstmt, tstmt]
          have hl := texpr_le E a (use s)
          rw [use_used] at hl
          refine q_use h hu (fun hlt => ?_) (by rw [stopS_u]; exact hl)
          exact q_then stopS (fun r hr => by unfold stopS; rw [if_pos hr]) (fun r hr => by unfold stopS; rw [if_neg (by omega)]; simp) stopS_u (texpr_fuel h a (use s) (by rw [use_used]; omega))
        | fail =>
          rw [tstmt, tstmt]
          exact q_use h hu (fun hlt => .inl ⟨rfl, by simp, by show s.used + 1 ≤ _; omega⟩) (Nat.le_refl _)
        | ite e a b =>
          rw [tstmt, tstmt]
          have hl := texpr_le E e (use s)
          rw [use_used] at hl
          refine q_use h hu (fun hlt => ?_) ?_
          · have p1 := (texpr_fit E1 e (use s) (f1.use hlt)).1
            have p2 := (texpr_fit E e (use s) (f2.use (by omega))).1
            rcases texpr_fuel h e (use s) (by rw [use_used]; omega) with ⟨e1, q2, q3⟩ | ⟨q1, q2, q3⟩
            · rw [e1] at p1 ⊢
              by_cases h0 : (texpr E e (use s)).2.1 ≠ 0
              · rw [if_pos h0, if_pos h0]; exact .inl ⟨rfl, q2, q3⟩
              · rw [if_neg h0, if_neg h0]
                by_cases hz : (texpr E e (use s)).1 = 0
                · rw [if_pos hz, if_pos hz]; exact ihs b _ p1 p2 (by omega) (by omega)
                · rw [if_neg hz, if_neg hz]; exact ihs a _ p1 p2 (by omega) (by omega)
            · have h0 : (texpr E1 e (use s)).2.1 ≠ 0 := by omega
              rw [if_pos h0]
              refine .inr ⟨q1, q2, ?_⟩
              by_cases h0b : (texpr E e (use s)).2.1 ≠ 0
              · rw [if_pos h0b]; exact q3
              · rw [if_neg h0b]
                rcases q3 with q3 | q3
                · omega
                · right
                  split
                  · have := ((tr_up E g2).1 b _ p2).2; omega
                  · have := ((tr_up E g2).1 a _ p2).2; omega
          · by_cases hlt : s.used < E.fuel
            · have p2 := (texpr_fit E e (use s) (f2.use hlt)).1
              split
              · exact hl
              · split
                · have := ((tr_up E g2).1 b _ p2).2; omega
                · have := ((tr_up E g2).1 a _ p2).2; omega
            · have hx : (texpr E e (use s)).2.1 ≠ 0 := by
                have : texpr E e (use s) = (0, 10, use s) := by
                  cases e <;> (rw [texpr, if_pos (by rw [use_used]; omega)])
                rw [this]; simp
              rw [if_pos hx]
              exact hl
      · intro e b s f1 f2 h1 h2
        have hu := f1.used
        rw [tloop, tloop]
        by_cases hs : s.stopped = true
        · rw [if_pos hs, if_pos hs]; exact .inl ⟨rfl, by simp, hu⟩
        · rw [if_neg hs, if_neg hs]
          have hl := texpr_le E e (use s)
          rw [use_used] at hl
          refine q_use h hu (fun hlt => ?_) ?_
          · have p1 := (texpr_fit E1 e (use s) (f1.use hlt)).1
            have p2 := (texpr_fit E e (use s) (f2.use (by omega))).1
            rcases texpr_fuel h e (use s) (by rw [use_used]; omega) with ⟨e1, q2, q3⟩ | ⟨q1, q2, q3⟩
            · rw [e1] at p1 ⊢
              by_cases h0 : (texpr E e (use s)).2.1 ≠ 0
              · rw [if_pos h0, if_pos h0]; exact .inl ⟨rfl, q2, q3⟩
              · rw [if_neg h0, if_neg h0]
                by_cases hz : (texpr E e (use s)).1 = 0
                · rw [if_pos hz, if_pos hz]; exact .inl ⟨rfl, by simp, q3⟩
                · rw [if_neg hz, if_neg hz]
                  have w1 := (tr_up E1 g1).1 b _ p1
                  have w2 := (tr_up E g2).1 b _ p2
                  have c1 := w1.2
                  have c2 := w2.2
                  rcases ihs b _ p1 p2 (by omega) (by omega) with ⟨e2, r2, r3⟩ | ⟨r1, r2, r3⟩
                  · rw [e2] at w1 c1 ⊢
                    by_cases h9 : (tstmts E g2 b (texpr E e (use s)).2.2).1 ≠ 0
                    · rw [if_pos h9, if_pos h9]; exact .inl ⟨rfl, r2, r3⟩
                    · rw [if_neg h9, if_neg h9]
                      exact ihl e b _ w1.1 w2.1 (by omega) (by omega)
                  · have h9 : (tstmts E1 g1 b (texpr E e (use s)).2.2).1 ≠ 0 := by omega
                    rw [if_pos h9]
                    refine .inr ⟨r1, r2, ?_⟩
                    by_cases h9b : (tstmts E g2 b (texpr E e (use s)).2.2).1 ≠ 0
                    · rw [if_pos h9b]; exact r3
                    · rw [if_neg h9b]
                      rcases r3 with r3 | r3
                      · omega
                      · have := ((tr_up E g2).2.2 e b _ w2.1).1.2
                        right; omega
            · have h0 : (texpr E1 e (use s)).2.1 ≠ 0 := by omega
              rw [if_pos h0]
              refine .inr ⟨q1, q2, ?_⟩
              by_cases h0b : (texpr E e (use s)).2.1 ≠ 0
              · rw [if_pos h0b]; exact q3
              · rw [if_neg h0b]
                rcases q3 with q3 | q3
                · omega
                · right
                  split
                  · exact q3
                  · have w2 := (tr_up E g2).1 b _ p2
                    have c2 := w2.2
                    split
                    · omega
                    · have := ((tr_up E g2).2.2 e b _ w2.1).1.2; omega
          · by_cases hlt : s.used < E.fuel
            · have p2 := (texpr_fit E e (use s) (f2.use hlt)).1
              split
              · exact hl
              · split
                · exact hl
                · have w2 := (tr_up E g2).1 b _ p2
                  have c2 := w2.2
                  split
                  · omega
                  · have := ((tr_up E g2).2.2 e b _ w2.1).1.2; omega
            · have hx : (texpr E e (use s)).2.1 ≠ 0 := by
                have : texpr E e (use s) = (0, 10, use s) := by
                  cases e <;> (rw [texpr, if_pos (by rw [use_used]; omega)])
                rw [this]; simp
              rw [if_pos hx]
              exact hl

theorem held_cells {C1 C2 : Jn.Con} (h : C1.cells = C2.cells) (k : Int) : held C1 k = held C2 k := by
  unfold held
  rw [h]
theorem lo_env {C1 C2 : Jn.Con} (hc : C1.cells = C2.cells) (src : List UInt8) (args : List Int) (n F : Int) (h : n ≤ F) : Lo (env C1 src args n) (env C2 src args F) := by
  refine ⟨?_, fun s k => ?_, fun s t => rfl⟩
  · show n.toNat ≤ F.toNat
    omega
  · unfold get
    split
    · rfl
    · exact held_cells hc k
/-- a run with less fuel. -/
theorem run_fuel {C1 C2 : Jn.Con} (hc : C1.cells = C2.cells) (src : List UInt8) (args : List Int) (n F : Int) (hok1 : Jn.Ok C1) (hok2 : Jn.Ok C2) (hr : (Ck.read src).2 = 0) (hmn : may args n = true) (hmF : may args F = true) (h : n ≤ F) :
    (run C1 src args n = run C2 src args F ∧ (run C2 src args F).2.2.2 ≠ 10 ∧ (run C2 src args F).2.1 ≤ n) ∨ (run C1 src args n = (0, n, [], 10) ∧ ((run C2 src args F).2.2.2 = 10 ∨ n < (run C2 src args F).2.1)) := by
  obtain ⟨b, hb, ht⟩ := Tr.parse src hr
  obtain ⟨-, n0, n1, nb⟩ := may_facts hmn
  obtain ⟨-, F0, F1, -⟩ := may_facts hmF
  have t1 := run_tree C1 src args n hok1 hr hmn b hb ht
  have t2 := run_tree C2 src args F hok2 hr hmF b hb ht
  have f1 := fit_start C1 src args n hok1 hr ⟨n0, n1⟩ nb
  have f2 := fit_start C2 src args F hok2 hr ⟨F0, F1⟩ nb
  have q := (tr_fuel (lo_env hc src args n F h) (3 * n.toNat + 3) (3 * F.toNat + 3)).1 b start f1 f2 (by show 3 * (n.toNat - 0) + 3 ≤ _; omega) (by show 3 * (F.toNat - 0) + 3 ≤ _; omega)
  rw [t1, t2] at q
  rw [run_ok C1 src args n hr hmn, run_ok C2 src args F hr hmF]
  have hfu : (env C1 src args n).fuel = n.toNat := rfl
  rw [hfu] at q
  generalize stmts (env C1 src args n) (3 * n.toNat + 3) start = a at q ⊢
  generalize stmts (env C2 src args F) (3 * F.toNat + 3) start = c at q ⊢
  have ea : (N2 a).1 = a.1 ∧ (N2 a).2.used = a.2.used ∧ (N2 a).2.result = a.2.result ∧ (N2 a).2.writes = a.2.writes := ⟨rfl, rfl, rfl, rfl⟩
  have ec : (N2 c).1 = c.1 ∧ (N2 c).2.used = c.2.used ∧ (N2 c).2.result = c.2.result ∧ (N2 c).2.writes = c.2.writes := ⟨rfl, rfl, rfl, rfl⟩
  rcases q with ⟨e, h2, h3⟩ | ⟨h1, h2, h3⟩
  · left
    rw [e] at ea
    have g1 : a.1 = c.1 := ea.1.symm.trans ec.1
    have g2 : a.2.used = c.2.used := ea.2.1.symm.trans ec.2.1
    have g3 : a.2.result = c.2.result := ea.2.2.1.symm.trans ec.2.2.1
    have g4 : a.2.writes = c.2.writes := ea.2.2.2.symm.trans ec.2.2.2
    rw [g1, g2, g3, g4]
    rw [ec.2.1] at h3
    rw [ec.1] at h2
    refine ⟨rfl, ?_, ?_⟩
    · split
      · exact h2
      · simp
    · split
      · show (c.2.used : Int) ≤ n; omega
      · show (c.2.used : Int) ≤ n; omega
  · right
    rw [ea.1] at h1
    rw [ea.2.1] at h2
    rw [ec.1, ec.2.1] at h3
    have h0 : a.1 ≠ 0 := by omega
    rw [if_pos h0, h1, h2]
    refine ⟨by rw [Int.toNat_of_nonneg n0], ?_⟩
    rcases h3 with h3 | h3
    · have h0' : c.1 ≠ 0 := by omega
      rw [if_pos h0']; exact .inl h3
    · right
      split
      · show n < (c.2.used : Int); omega
      · show n < (c.2.used : Int); omega
theorem run_units (C : Jn.Con) (src : List UInt8) (args : List Int) (F : Int) (hok : Jn.Ok C) (hr : (Ck.read src).2 = 0) (hm : may args F = true) : 0 ≤ (run C src args F).2.1 ∧ (run C src args F).2.1 ≤ F := by
  obtain ⟨-, F0, F1, nb⟩ := may_facts hm
  have f2 := fit_start C src args F hok hr ⟨F0, F1⟩ nb
  have hu := ((run_up (env C src args F) (3 * F.toNat + 3)).1 start f2).1.used
  have hfu : (env C src args F).fuel = F.toNat := rfl
  rw [hfu] at hu
  rw [run_ok C src args F hr hm]
  generalize stmts (env C src args F) (3 * F.toNat + 3) start = c at hu ⊢
  split
  · show 0 ≤ (c.2.used : Int) ∧ (c.2.used : Int) ≤ F; omega
  · show 0 ≤ (c.2.used : Int) ∧ (c.2.used : Int) ≤ F; omega
/-- a run by contents of the same cells. -/
theorem run_con {C1 C2 : Jn.Con} (hc : C1.cells = C2.cells) (src : List UInt8) (args : List Int) (n : Int) (hok1 : Jn.Ok C1) (hok2 : Jn.Ok C2) (hr : (Ck.read src).2 = 0) (hm : may args n = true) : run C1 src args n = run C2 src args n := by
  rcases run_fuel hc src args n n hok1 hok2 hr hm hm (Int.le_refl _) with ⟨h, -, -⟩ | ⟨h, g⟩
  · exact h
  · rcases run_fuel hc.symm src args n n hok2 hok1 hr hm hm (Int.le_refl _) with ⟨h', -, -⟩ | ⟨h', -⟩
    · exact h'.symm
    · rw [h, h']
end Rn
end Go.Proofs.YtellilpeakpbfaaGreatDoor
