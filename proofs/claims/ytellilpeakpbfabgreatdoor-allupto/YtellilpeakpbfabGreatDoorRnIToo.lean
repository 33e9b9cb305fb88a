import Derived.Test.YtellilpeakpbfabGreatDoorRnFToo
section
/-
  The walk of expression.
-/
namespace Go.Proofs.YtellilpeakpbfabGreatDoor
open Go.RowKit

namespace Rn
def look (E : En) (k : Int) (r : Int × Int × St) : Int × Int × St :=
  if r.2.1 ≠ 0 then (0, r.2.1, r.2.2) else if (get E r.2.2 r.1).2.2 ≠ 0 then (0, (get E r.2.2 r.1).2.2, r.2.2) else (if k = 10 then oneIf (get E r.2.2 r.1).2.1 else (get E r.2.2 r.1).1, 0, r.2.2)
theorem expr_succ (E : En) (n : Nat) (s : St) (h : s.used < E.fuel) : expr E (n + 1) s =
    if (tok E s).1 = 1 then ((tok E s).2, 0, adv E (use s)) else if (tok E s).1 = 2 then (arg E (tok E s).2, 0, adv E (use s)) else if (tok E s).1 = 3 then (var (adv E (use s)) (tok E s).2, 0, adv E (use s)) else
    if (tok E s).1 = 9 ∨ (tok E s).1 = 10 then look E (tok E s).1 (expr E n (adv E (use s))) else
    if (expr E n (adv E (use s))).2.1 ≠ 0 then (0, (expr E n (adv E (use s))).2.1, (expr E n (adv E (use s))).2.2) else
    if (expr E n (expr E n (adv E (use s))).2.2).2.1 ≠ 0 then (0, (expr E n (expr E n (adv E (use s))).2.2).2.1, (expr E n (expr E n (adv E (use s))).2.2).2.2) else
    ((reckon (tok E s).1 (expr E n (adv E (use s))).1 (expr E n (expr E n (adv E (use s))).2.2).1).1, (reckon (tok E s).1 (expr E n (adv E (use s))).1 (expr E n (expr E n (adv E (use s))).2.2).1).2, (expr E n (expr E n (adv E (use s))).2.2).2.2) := by
  rw [expr, if_neg (by omega)]
  rfl
theorem expr_out (E : En) (n : Nat) (s : St) (h : E.fuel ≤ s.used) : expr E n s = (0, 10, s) := by
  cases n with
  | zero => rfl
  | succ n => rw [expr, if_pos h]

/-- an expression turns the place and the units alone. -/
structure Same (s s' : St) : Prop where
  v0 : s'.v0 = s.v0
  v1 : s'.v1 = s.v1
  v2 : s'.v2 = s.v2
  v3 : s'.v3 = s.v3
  writes : s'.writes = s.writes
  stopped : s'.stopped = s.stopped
  result : s'.result = s.result
  used : s.used ≤ s'.used
theorem Same.refl (s : St) : Same s s := ⟨rfl, rfl, rfl, rfl, rfl, rfl, rfl, Nat.le_refl _⟩
theorem Same.trans {a b c : St} (h : Same a b) (g : Same b c) : Same a c := ⟨g.v0.trans h.v0, g.v1.trans h.v1, g.v2.trans h.v2, g.v3.trans h.v3, g.writes.trans h.writes, g.stopped.trans h.stopped, g.result.trans h.result, Nat.le_trans h.used g.used⟩
theorem Same.use (s : St) : Same s (use s) := ⟨rfl, rfl, rfl, rfl, rfl, rfl, rfl, Nat.le_succ _⟩
theorem Same.adv (E : En) (s : St) : Same s (adv E s) := by
  unfold Rn.adv
  split
  · exact ⟨rfl, rfl, rfl, rfl, rfl, rfl, rfl, Nat.le_refl _⟩
  · exact Same.refl s
theorem adv_used (E : En) (s : St) : (adv E s).used = s.used := by unfold adv; split <;> rfl
theorem Fit.adv {E : En} {s : St} (h : Fit E s) : Fit E (adv E s) := by
  unfold Rn.adv
  split
  · exact ⟨h.tk, h.len, h.arg, h.con, h.fuel, by show s.pos + 1 ≤ _; omega, h.var, h.wrl, h.wrs, h.used⟩
  · exact h
theorem Fit.use {E : En} {s : St} (h : Fit E s) (hu : s.used < E.fuel) : Fit E (use s) := ⟨h.tk, h.len, h.arg, h.con, h.fuel, h.pos, h.var, h.wrl, h.wrs, hu⟩
theorem tok_bd {E : En} {s : St} (h : Fit E s) : (0 ≤ (tok E s).1 ∧ (tok E s).1 ≤ 19) ∧ 0 ≤ (tok E s).2 ∧ (tok E s).2 ≤ 999999 := by
  unfold tok
  cases ht : E.tk[s.pos]? with
  | none => simp
  | some t => exact h.tk t (List.mem_of_getElem? ht)
theorem oneIf_bd (b : Bool) : -1000000000 ≤ oneIf b ∧ oneIf b ≤ 1000000000 := by cases b <;> simp [oneIf]
theorem get_bd {E : En} {s : St} (h : Fit E s) (k : Int) : -1000000000 ≤ (get E s k).1 ∧ (get E s k).1 ≤ 1000000000 := by
  unfold get
  cases hp : s.writes[find s.writes k]? with
  | some p => exact (h.wrs p (List.mem_of_getElem? hp)).2
  | none =>
    simp only
    unfold held
    split
    · simp only
      cases ho : E.con.cells.getD k.toNat none with
      | none => simp
      | some v =>
        have hm : some v ∈ E.con.cells := by
          rw [List.getD_eq_getElem?_getD] at ho
          cases hg : E.con.cells[k.toNat]? with
          | none => rw [hg] at ho; cases ho
          | some o => rw [hg] at ho; simp at ho; subst ho; exact List.mem_of_getElem? hg
        have := h.con.val _ hm v rfl
        unfold Jn.isVal at this
        simp at this ⊢
        exact this
    · simp
theorem bounded_bd (n : Int) : -1000000000 ≤ (bounded n).1 ∧ (bounded n).1 ≤ 1000000000 := by
  unfold bounded
  split
  · rename_i h; unfold Jn.isVal at h; simpa using h
  · simp
theorem reckon_bd (k a b : Int) : -1000000000 ≤ (reckon k a b).1 ∧ (reckon k a b).1 ≤ 1000000000 := by
  unfold reckon
  split
  · exact oneIf_bd _
  · split
    · exact oneIf_bd _
    · exact bounded_bd _
theorem look_snd (E : En) (k : Int) (r : Int × Int × St) : (look E k r).2.2 = r.2.2 := by
  unfold look
  split
  · rfl
  · split <;> rfl
theorem look_bd {E : En} (k : Int) (r : Int × Int × St) (h : Fit E r.2.2) : -1000000000 ≤ (look E k r).1 ∧ (look E k r).1 ≤ 1000000000 := by
  unfold look
  split
  · simp
  · split
    · simp
    · simp only
      split
      · exact oneIf_bd _
      · exact get_bd h _
theorem expr_fit (E : En) (n : Nat) : ∀ s, Fit E s → Fit E (expr E n s).2.2 ∧ Same s (expr E n s).2.2 ∧ (-1000000000 ≤ (expr E n s).1 ∧ (expr E n s).1 ≤ 1000000000) := by
  induction n with
  | zero => intro s h; exact ⟨h, Same.refl s, by simp [expr]⟩
  | succ n ih =>
    intro s h
    by_cases hu : E.fuel ≤ s.used
    · rw [expr_out E _ s hu]; exact ⟨h, Same.refl s, by simp⟩
    · have hu' : s.used < E.fuel := by omega
      rw [expr_succ E n s hu']
      have h1 : Fit E (adv E (use s)) := (h.use hu').adv
      have e1 : Same s (adv E (use s)) := (Same.use s).trans (Same.adv E _)
      obtain ⟨t1, t2⟩ := tok_bd h
      obtain ⟨f1, m1, b1⟩ := ih _ h1
      obtain ⟨f2, m2, b2⟩ := ih _ f1
      split
      · exact ⟨h1, e1, by simp only; omega⟩
      · split
        · exact ⟨h1, e1, h1.arg _⟩
        · split
          · exact ⟨h1, e1, h1.var _⟩
          · split
            · rw [look_snd]
              exact ⟨f1, e1.trans m1, look_bd _ _ f1⟩
            · split
              · exact ⟨f1, e1.trans m1, by simp⟩
              · split
                · exact ⟨f2, (e1.trans m1).trans m2, by simp⟩
                · exact ⟨f2, (e1.trans m1).trans m2, reckon_bd _ _ _⟩
end Rn

/-- what an expression answers. -/
def ExPost (X B : Nat) (tv : Value) (E : Rn.En) (r : Int × Int × Rn.St) (w : World) (e : Ending) (w' : World) : Prop := e = .returned (.tuple #[.int .i64 r.1, .int .i64 r.2.1]) ∧ WkAt X B w' tv E r.2.2 ∧ WkFr X w w'

set_option maxHeartbeats 1000000 in
set_option maxRecDepth 100000 in
theorem look_any (X B : Nat) (w : World) (tv : Value) (E : Rn.En) (k : Int) (r : Int × Int × Rn.St) (hr : Calls Tryz.prog 157 #[.pointer (some ⟨X, 0, none⟩)] w (ExPost X B tv E r w)) :
    Calls Tryz.prog 177 #[.pointer (some ⟨X, 0, none⟩), .int .i64 k] w (ExPost X B tv E (Rn.look E k r) w) := by
  obtain ⟨q, hq⟩ : ∃ q, q = Rn.look E k r := ⟨_, rfl⟩
  rw [← hq]
  unfold Rn.look at hq
  have HQ := hide hq
  have HR := hide hr
  clear hq hr
  obtain ⟨r1, r2, s⟩ := r
  simp only at HQ
  go_enter Tryz.func177, Tryz.ntmps177
  go_wp2_with fail
  refine HR.out.mono ?_
  rintro e w1 ⟨rfl, hk1, hf1⟩
  have HK1 := hide hk1
  have HF1 := hide hf1
  clear hk1 hf1 HR
  cases ht : (r2 != (0 : Int)) with
  | true =>
    have HE : Hid (q = (0, r2, s)) := by show _ = _; rw [HQ.out, if_pos (by simpa using ht)]
    go_wp2
    go_ret2
    rw [HE.out]
    exact ⟨rfl, HK1.out, HF1.out⟩
  | false =>
    have h0 : r2 = 0 := by simpa using ht
    have HG := hide (getW_any X B w1 tv E s r1 HK1.out)
    have HQ2 : Hid (q = if (Rn.get E s r1).2.2 ≠ 0 then (0, (Rn.get E s r1).2.2, s) else (if k = 10 then Rn.oneIf (Rn.get E s r1).2.1 else (Rn.get E s r1).1, 0, s)) := by show _ = _; rw [HQ.out, if_neg (by simpa using h0)]
    clear HQ
    subst h0
    generalize Rn.get E s r1 = g at HG HQ2
    obtain ⟨g1, g2, g3⟩ := g
    simp only at HQ2
    go_wp2_with fail
    refine HG.out.mono ?_
    rintro e w2 ⟨rfl, hb2⟩
    have HB2 := hide hb2
    clear hb2 HG
    cases hu : (g3 != (0 : Int)) with
    | true =>
      have HE : Hid (q = (0, g3, s)) := by show _ = _; rw [HQ2.out, if_pos (by simpa using hu)]
      go_wp2
      go_ret2
      rw [HE.out]
      exact ⟨rfl, HK1.out.below HB2.out, HF1.out.trans (WkFr.below HB2.out HK1.out.lt)⟩
    | false =>
      have h3 : g3 = 0 := by simpa using hu
      have HQ3 : Hid (q = (if k = 10 then Rn.oneIf g2 else g1, 0, s)) := by show _ = _; rw [HQ2.out, if_neg (by simpa using h3)]
      clear HQ2
      subst h3
      have HO := hide (oneIf_any g2)
      by_cases h10 : k = 10
      · have t10 : (k == 10) = true := by simpa using h10
        have HE : Hid (q = (Rn.oneIf g2, 0, s)) := by show _ = _; rw [HQ3.out, if_pos h10]
        go_wp2_with fail
        refine (HO.out _).mono ?_
        rintro e w3 ⟨rfl, rfl⟩
        go_wp2
        go_ret2
        rw [HE.out]
        exact ⟨rfl, HK1.out.below HB2.out, HF1.out.trans (WkFr.below HB2.out HK1.out.lt)⟩
      · have t10 : (k == 10) = false := by simpa using h10
        have HE : Hid (q = (g1, 0, s)) := by show _ = _; rw [HQ3.out, if_neg h10]
        go_wp2
        go_ret2
        rw [HE.out]
        exact ⟨rfl, HK1.out.below HB2.out, HF1.out.trans (WkFr.below HB2.out HK1.out.lt)⟩

/-- what comes of two expressions. -/
def Rn.two (k : Int) (a b : Int × Int × Rn.St) : Int × Int × Rn.St :=
  if a.2.1 ≠ 0 then (0, a.2.1, a.2.2) else if b.2.1 ≠ 0 then (0, b.2.1, b.2.2) else ((Rn.reckon k a.1 b.1).1, (Rn.reckon k a.1 b.1).2, b.2.2)

set_option maxHeartbeats 1000000 in
set_option maxRecDepth 100000 in
theorem reckon_any (X B : Nat) (w : World) (tv : Value) (E : Rn.En) (k : Int) (a b : Int × Int × Rn.St) (ha : Calls Tryz.prog 157 #[.pointer (some ⟨X, 0, none⟩)] w (ExPost X B tv E a w))
    (hb : ∀ x, WkAt X B x tv E a.2.2 → Calls Tryz.prog 157 #[.pointer (some ⟨X, 0, none⟩)] x (ExPost X B tv E b x)) (a0 : -1000000000 ≤ a.1 ∧ a.1 ≤ 1000000000) (b0 : -1000000000 ≤ b.1 ∧ b.1 ≤ 1000000000) :
    Calls Tryz.prog 178 #[.pointer (some ⟨X, 0, none⟩), .int .i64 k] w (ExPost X B tv E (Rn.two k a b) w) := by
  obtain ⟨q, hq⟩ : ∃ q, q = Rn.two k a b := ⟨_, rfl⟩
  rw [← hq]
  unfold Rn.two at hq
  have HQ := hide hq
  have HA := hide ha
  have HB := hide hb
  clear hq ha hb
  obtain ⟨x1, x2, s⟩ := a
  obtain ⟨y1, y2, t⟩ := b
  simp only at HQ HA HB a0 b0
  obtain ⟨a0, a1⟩ := a0
  obtain ⟨b0, b1⟩ := b0
  go_enter Tryz.func178, Tryz.ntmps178
  go_wp2_with fail
  refine HA.out.mono ?_
  rintro e w1 ⟨rfl, hk1, hf1⟩
  have HK1 := hide hk1
  have HF1 := hide hf1
  clear hk1 hf1 HA
  cases ht : (x2 != (0 : Int)) with
  | true =>
    have HE : Hid (q = (0, x2, s)) := by show _ = _; rw [HQ.out, if_pos (by simpa using ht)]
    go_wp2
    go_ret2
    rw [HE.out]
    exact ⟨rfl, HK1.out, HF1.out⟩
  | false =>
    have h0 : x2 = 0 := by simpa using ht
    have HQ2 : Hid (q = if y2 ≠ 0 then (0, y2, t) else ((Rn.reckon k x1 y1).1, (Rn.reckon k x1 y1).2, t)) := by show _ = _; rw [HQ.out, if_neg (by simpa using h0)]
    clear HQ
    subst h0
    go_wp2_with fail
    refine (HB.out _ HK1.out).mono ?_
    rintro e w2 ⟨rfl, hk2, hf2⟩
    have HK2 := hide hk2
    have HF2 := hide (HF1.out.trans hf2)
    clear hk2 hf2 HB HK1 HF1
    cases hu : (y2 != (0 : Int)) with
    | true =>
      have HE : Hid (q = (0, y2, t)) := by show _ = _; rw [HQ2.out, if_pos (by simpa using hu)]
      go_wp2
      go_ret2
      rw [HE.out]
      exact ⟨rfl, HK2.out, HF2.out⟩
    | false =>
      have h3 : y2 = 0 := by simpa using hu
      have HQ3 : Hid (q = ((Rn.reckon k x1 y1).1, (Rn.reckon k x1 y1).2, t)) := by show _ = _; rw [HQ2.out, if_neg (by simpa using h3)]
      clear HQ2
      subst h3
      unfold Rn.reckon at HQ3
      by_cases h7 : k = 7
      · subst h7
        have HE : Hid (q = (Rn.oneIf (decide (x1 < y1)), 0, t)) := by show _ = _; rw [HQ3.out, if_pos rfl]
        have HO := hide (oneIf_any (decide (x1 < y1)))
        clear HQ3
        go_wp2_with fail
        refine (HO.out _).mono ?_
        rintro e w3 ⟨rfl, rfl⟩
        go_wp2
        go_ret2
        rw [HE.out]
        exact ⟨rfl, HK2.out, HF2.out⟩
      · by_cases h8 : k = 8
        · subst h8
          have HE : Hid (q = (Rn.oneIf (x1 == y1), 0, t)) := by show _ = _; rw [HQ3.out, if_neg (by decide), if_pos rfl]
          have HO := hide (oneIf_any (x1 == y1))
          clear HQ3
          go_wp2_with fail
          refine (HO.out _).mono ?_
          rintro e w3 ⟨rfl, rfl⟩
          go_wp2
          go_ret2
          rw [HE.out]
          exact ⟨rfl, HK2.out, HF2.out⟩
        · have t7 : (k == 7) = false := by simpa using h7
          have t8 : (k == 8) = false := by simpa using h8
          have HE : Hid (q = ((Rn.bounded (Rn.sum k x1 y1)).1, (Rn.bounded (Rn.sum k x1 y1)).2, t)) := by show _ = _; rw [HQ3.out, if_neg h7, if_neg h8]
          have HS := hide (fun w => reckoned_any k x1 y1 w a0 a1 b0 b1)
          have HBD := hide (bounded_any (Rn.sum k x1 y1))
          clear HQ3
          generalize Rn.sum k x1 y1 = z at HS HBD HE
          go_wp2_with fail
          refine (HS.out _).mono ?_
          rintro e w3 ⟨rfl, rfl⟩
          go_wp2_with fail
          refine (HBD.out _).mono ?_
          rintro e w3 ⟨rfl, rfl⟩
          go_wp2
          go_ret2
          rw [HE.out]
          exact ⟨rfl, HK2.out, HF2.out⟩
end Go.Proofs.YtellilpeakpbfabGreatDoor

end

section
/-
  The walk of expression, by the units that are left.
-/
namespace Go.Proofs.YtellilpeakpbfabGreatDoor
open Go.RowKit

theorem tok_use (E : Rn.En) (s : Rn.St) : Rn.tok E (Rn.use s) = Rn.tok E s := rfl

set_option maxHeartbeats 2000000 in
set_option maxRecDepth 100000 in
theorem expr_any (X B : Nat) (tv : Value) (E : Rn.En) (n : Nat) : ∀ (s : Rn.St) (w : World), WkAt X B w tv E s → E.fuel - s.used ≤ n →
    Calls Tryz.prog 157 #[.pointer (some ⟨X, 0, none⟩)] w (ExPost X B tv E (Rn.expr E n s) w) := by
  induction n with
  | zero =>
    intro s w h hn
    rw [Rn.expr_out E 0 s (by omega)]
    have HU := hide (unit_no X B w tv E s h (by omega))
    have HH := hide h
    clear h
    go_enter Tryz.func157, Tryz.ntmps157
    go_wp2_with fail
    refine HU.out.mono ?_
    rintro e w1 ⟨rfl, hb⟩
    have HB := hide hb
    clear hb
    go_wp2
    go_ret2
    exact ⟨rfl, HH.out.below HB.out, WkFr.below HB.out HH.out.lt⟩
  | succ n ih =>
    intro s w h hn
    by_cases hu : E.fuel ≤ s.used
    · rw [Rn.expr_out E _ s hu]
      have HU := hide (unit_no X B w tv E s h hu)
      have HH := hide h
      clear h ih
      go_enter Tryz.func157, Tryz.ntmps157
      go_wp2_with fail
      refine HU.out.mono ?_
      rintro e w1 ⟨rfl, hb⟩
      have HB := hide hb
      clear hb
      go_wp2
      go_ret2
      exact ⟨rfl, HH.out.below HB.out, WkFr.below HB.out HH.out.lt⟩
    · have hu' : s.used < E.fuel := by omega
      have hfit := h.fit
      have h1fit : Rn.Fit E (Rn.adv E (Rn.use s)) := (hfit.use hu').adv
      have hused : (Rn.adv E (Rn.use s)).used = s.used + 1 := Rn.adv_used E (Rn.use s)
      obtain ⟨f1, m1, b1⟩ := Rn.expr_fit E n _ h1fit
      obtain ⟨f2, m2, b2⟩ := Rn.expr_fit E n _ f1
      have hm1 := m1.used
      have hA : ∀ w, WkAt X B w tv E (Rn.adv E (Rn.use s)) → Calls Tryz.prog 157 #[.pointer (some ⟨X, 0, none⟩)] w (ExPost X B tv E (Rn.expr E n (Rn.adv E (Rn.use s))) w) := fun w hw => ih _ w hw (by omega)
      have hB : ∀ w, WkAt X B w tv E (Rn.expr E n (Rn.adv E (Rn.use s))).2.2 → Calls Tryz.prog 157 #[.pointer (some ⟨X, 0, none⟩)] w (ExPost X B tv E (Rn.expr E n (Rn.expr E n (Rn.adv E (Rn.use s))).2.2) w) := fun w hw => ih _ w hw (by omega)
      have HLK := hide (fun w k hw => look_any X B w tv E k _ (hA w hw))
      have HRK := hide (fun w k hw => reckon_any X B w tv E k _ _ (hA w hw) hB b1 b2)
      have HARG := hide (fun w k (hw : WkAt X B w tv E (Rn.adv E (Rn.use s))) => argument_any X B w tv E _ k hw)
      have HVAR := hide (fun w k (hw : WkAt X B w tv E (Rn.adv E (Rn.use s))) => variable_any X B w tv E _ k hw)
      have HU := hide (unit_ok X B w tv E s h hu')
      have HNX := hide (fun w (hw : WkAt X B w tv E (Rn.use s)) => next_any X B w tv E (Rn.use s) hw)
      rw [tok_use] at HNX
      obtain ⟨q, hq⟩ : ∃ q, q = Rn.expr E (n + 1) s := ⟨_, rfl⟩
      rw [← hq]
      rw [Rn.expr_succ E n s hu'] at hq
      have HQ := hide hq
      clear hq h ih hfit h1fit hused f1 m1 b1 f2 m2 b2 hm1 hA hB
      generalize Rn.tok E s = t at HQ HNX
      obtain ⟨t1, t2⟩ := t
      simp only at HQ HNX
      generalize Rn.expr E n (Rn.expr E n (Rn.adv E (Rn.use s))).2.2 = rb at HQ HRK
      generalize Rn.expr E n (Rn.adv E (Rn.use s)) = ra at HQ HRK HLK
      generalize Rn.adv E (Rn.use s) = sa at HQ HRK HLK HARG HVAR HNX
      go_enter Tryz.func157, Tryz.ntmps157
      go_wp2_with fail
      refine HU.out.mono ?_
      rintro e w1 ⟨rfl, hk1, hf1⟩
      have HK1 := hide hk1
      have HF1 := hide hf1
      clear hk1 hf1 HU
      go_wp2_with fail
      refine (HNX.out _ HK1.out).mono ?_
      rintro e w2 ⟨rfl, hk2, hf2⟩
      obtain ⟨w3, hw3⟩ : ∃ w3, w3 = w2.alloc (.cells #[.int .i64 t1, .int .i64 t2] 165) := ⟨_, rfl⟩
      have hb3 : Below w2.heap.size w2 w3 := by rw [hw3]; exact (Below.refl _ _).alloc (Nat.le_refl _) _
      have hn3 : w3.heap[w2.heap.size]? = some (.cells #[.int .i64 t1, .int .i64 t2] 165 (0, 0)) := by rw [hw3]; exact heap_alloc_new w2 _
      have c0 : w3.cell? ⟨w2.heap.size, 0, none⟩ = some (.int .i64 t1) := (cell_of_row w3 _ 0 _ _ _ hn3).trans rfl
      have c1 : w3.cell? ⟨w2.heap.size, 1, none⟩ = some (.int .i64 t2) := (cell_of_row w3 _ 1 _ _ _ hn3).trans rfl
      have HK3 := hide (hk2.below hb3)
      have HF3 := hide ((HF1.out.trans hf2).trans (WkFr.below hb3 hk2.lt))
      clear hk2 hf2 hb3 hn3 HNX HK1 HF1
      go_upto_region 5 with fail
      rw [← hw3]
      clear hw3
      by_cases k1 : t1 = 1
      · subst k1
        have HE : Hid (q = (t2, 0, sa)) := by show _ = _; rw [HQ.out, if_pos rfl]
        go_wp2
        go_ret2
        rw [HE.out]
        exact ⟨rfl, HK3.out, HF3.out⟩
      by_cases k2 : t1 = 2
      · subst k2
        have HE : Hid (q = (Rn.arg E t2, 0, sa)) := by show _ = _; rw [HQ.out, if_neg (by decide), if_pos rfl]
        go_wp2_with fail
        refine (HARG.out _ _ HK3.out).mono ?_
        rintro e w4 ⟨rfl, rfl⟩
        go_wp2
        go_ret2
        rw [HE.out]
        exact ⟨rfl, HK3.out, HF3.out⟩
      by_cases k3 : t1 = 3
      · subst k3
        have HE : Hid (q = (Rn.var sa t2, 0, sa)) := by show _ = _; rw [HQ.out, if_neg (by decide), if_neg (by decide), if_pos rfl]
        go_wp2_with fail
        refine (HVAR.out _ _ HK3.out).mono ?_
        rintro e w4 ⟨rfl, rfl⟩
        go_wp2
        go_ret2
        rw [HE.out]
        exact ⟨rfl, HK3.out, HF3.out⟩
      by_cases k9 : t1 = 9
      · subst k9
        have HE : Hid (q = Rn.look E 9 ra) := by show _ = _; rw [HQ.out, if_neg (by decide), if_neg (by decide), if_neg (by decide), if_pos (.inl rfl)]
        go_wp2_with fail
        refine (HLK.out _ _ HK3.out).mono ?_
        rintro e w4 ⟨rfl, hk4, hf4⟩
        have HK4 := hide hk4
        have HF4 := hide (HF3.out.trans hf4)
        clear hk4 hf4
        go_wp2
        go_ret2
        rw [HE.out]
        exact ⟨rfl, HK4.out, HF4.out⟩
      by_cases k10 : t1 = 10
      · subst k10
        have HE : Hid (q = Rn.look E 10 ra) := by show _ = _; rw [HQ.out, if_neg (by decide), if_neg (by decide), if_neg (by decide), if_pos (.inr rfl)]
        go_wp2_with fail
        refine (HLK.out _ _ HK3.out).mono ?_
        rintro e w4 ⟨rfl, hk4, hf4⟩
        have HK4 := hide hk4
        have HF4 := hide (HF3.out.trans hf4)
        clear hk4 hf4
        go_wp2
        go_ret2
        rw [HE.out]
        exact ⟨rfl, HK4.out, HF4.out⟩
      · have HE : Hid (q = Rn.two t1 ra rb) := by show _ = _; rw [HQ.out, if_neg k1, if_neg k2, if_neg k3, if_neg (by omega)]; rfl
        have u1 : (t1 == 1) = false := by simpa using k1
        have u2 : (t1 == 2) = false := by simpa using k2
        have u3 : (t1 == 3) = false := by simpa using k3
        have u9 : (t1 == 9) = false := by simpa using k9
        have u10 : (t1 == 10) = false := by simpa using k10
        go_wp2_with fail
        refine (HRK.out _ _ HK3.out).mono ?_
        rintro e w4 ⟨rfl, hk4, hf4⟩
        have HK4 := hide hk4
        have HF4 := hide (HF3.out.trans hf4)
        clear hk4 hf4
        go_wp2
        go_ret2
        rw [HE.out]
        exact ⟨rfl, HK4.out, HF4.out⟩
end Go.Proofs.YtellilpeakpbfabGreatDoor

end

section
/-
  The walks of the statements that hold no others: set, put, del, stop; of skip.
-/
namespace Go.Proofs.YtellilpeakpbfabGreatDoor
open Go.RowKit

/-- the contract of one expression, at the state s. -/
abbrev ExAt (X B : Nat) (tv : Value) (E : Rn.En) (s : Rn.St) (r : Int × Int × Rn.St) : Prop := ∀ x, WkAt X B x tv E s → Calls Tryz.prog 157 #[.pointer (some ⟨X, 0, none⟩)] x (ExPost X B tv E r x)

theorem WkAt.setVar {X B : Nat} {w : World} {tv : Value} {E : Rn.En} {s : Rn.St} (h : WkAt X B w tv E s) (k x : Int) (h0 : 0 ≤ k) (h3 : k < 4) (hx : -1000000000 ≤ x ∧ x ≤ 1000000000) : WkAt X B (w.setCell ⟨X, 6 + k.toNat, none⟩ (.int .i64 x)) tv E (Rn.setV s k x) ∧ WkFr X w (w.setCell ⟨X, 6 + k.toNat, none⟩ (.int .i64 x)) := by
  obtain ⟨wv, hr, hm, -, -⟩ := h.cells
  have hk : k = 0 ∨ k = 1 ∨ k = 2 ∨ k = 3 := by omega
  have hv : ∀ j, -1000000000 ≤ Rn.var (Rn.setV s k x) j ∧ Rn.var (Rn.setV s k x) j ≤ 1000000000 := by
    intro j
    have hj := h.fit.var j
    rcases hk with rfl | rfl | rfl | rfl
    all_goals
      unfold Rn.var Rn.setV at *
      simp at hj ⊢
      repeat' split
      all_goals simp_all
  rcases hk with rfl | rfl | rfl | rfl
  · exact WkAt.set (s' := Rn.setV s 0 x) h 6 (.int .i64 x) hm hr rfl rfl ⟨h.fit.tk, h.fit.len, h.fit.arg, h.fit.con, h.fit.fuel, h.fit.pos, hv, h.fit.wrl, h.fit.wrs, h.fit.used⟩
  · exact WkAt.set (s' := Rn.setV s 1 x) h 7 (.int .i64 x) hm hr rfl rfl ⟨h.fit.tk, h.fit.len, h.fit.arg, h.fit.con, h.fit.fuel, h.fit.pos, hv, h.fit.wrl, h.fit.wrs, h.fit.used⟩
  · exact WkAt.set (s' := Rn.setV s 2 x) h 8 (.int .i64 x) hm hr rfl rfl ⟨h.fit.tk, h.fit.len, h.fit.arg, h.fit.con, h.fit.fuel, h.fit.pos, hv, h.fit.wrl, h.fit.wrs, h.fit.used⟩
  · exact WkAt.set (s' := Rn.setV s 3 x) h 9 (.int .i64 x) hm hr rfl rfl ⟨h.fit.tk, h.fit.len, h.fit.arg, h.fit.con, h.fit.fuel, h.fit.pos, hv, h.fit.wrl, h.fit.wrs, h.fit.used⟩

def Rn.setS (k : Int) (r : Int × Int × Rn.St) : Int × Rn.St := if r.2.1 ≠ 0 then (r.2.1, r.2.2) else (0, Rn.setV r.2.2 k r.1)

set_option maxHeartbeats 2000000 in
set_option maxRecDepth 100000 in
theorem setW_any (X B : Nat) (w : World) (tv : Value) (E : Rn.En) (s : Rn.St) (r : Int × Int × Rn.St) (h : WkAt X B w tv E s) (hr : ExAt X B tv E (Rn.adv E s) r) (hb : -1000000000 ≤ r.1 ∧ r.1 ≤ 1000000000) :
    Calls Tryz.prog 134 #[.pointer (some ⟨X, 0, none⟩)] w (WrPost X B tv E (Rn.setS (Rn.tok E s).2 r) w) := by
  obtain ⟨q, hq⟩ : ∃ q, q = Rn.setS (Rn.tok E s).2 r := ⟨_, rfl⟩
  rw [← hq]
  unfold Rn.setS at hq
  have HQ := hide hq
  have HR := hide hr
  have HNX := hide (next_any X B w tv E s h)
  have ht0 := (Rn.tok_bd h.fit).2.1
  clear hq hr h
  generalize Rn.tok E s = t at HQ HNX ht0
  obtain ⟨t1, t2⟩ := t
  obtain ⟨r1, r2, sr⟩ := r
  simp only at HQ HNX ht0 hb
  generalize Rn.adv E s = sa at HNX HR
  go_enter Tryz.func134, Tryz.ntmps134
  go_wp2_with fail
  refine HNX.out.mono ?_
  rintro e w2 ⟨rfl, hk2, hf2⟩
  obtain ⟨w3, hw3⟩ : ∃ w3, w3 = w2.alloc (.cells #[.int .i64 t1, .int .i64 t2] 165) := ⟨_, rfl⟩
  have hb3 : Below w2.heap.size w2 w3 := by rw [hw3]; exact (Below.refl _ _).alloc (Nat.le_refl _) _
  have hn3 : w3.heap[w2.heap.size]? = some (.cells #[.int .i64 t1, .int .i64 t2] 165 (0, 0)) := by rw [hw3]; exact heap_alloc_new w2 _
  have HN3 := hide hn3
  have HK3 := hide (hk2.below hb3)
  have HF3 := hide (hf2.trans (WkFr.below hb3 hk2.lt))
  obtain ⟨N, hN⟩ : ∃ N, N = w2.heap.size := ⟨_, rfl⟩
  rw [← hN] at HN3
  clear hk2 hf2 hb3 hn3 HNX
  go_upto_region 2 with fail
  rw [← hw3, ← hN]
  clear hw3 hN
  go_wp2_with fail
  refine (HR.out _ HK3.out).mono ?_
  rintro e w4 ⟨rfl, hk4, hf4⟩
  have hn4 := hf4.block N _ _ _ HN3.out (by decide) (by simp)
  have c1 : w4.cell? ⟨N, 1, none⟩ = some (.int .i64 t2) := (cell_of_row w4 N 1 _ _ _ hn4).trans rfl
  obtain ⟨wv, -, -, hc, hz⟩ := hk4.cells
  have HK4 := hide hk4
  have HF4 := hide (HF3.out.trans hf4)
  clear hk4 hf4 hn4 HR HK3 HF3
  cases ht : (r2 != (0 : Int)) with
  | true =>
    have HE : Hid (q = (r2, sr)) := by show _ = _; rw [HQ.out, if_pos (by simpa using ht)]
    clear hc hz
    go_wp2
    go_ret
    rw [HE.out]
    exact ⟨rfl, HK4.out, HF4.out⟩
  | false =>
    have h0 : r2 = 0 := by simpa using ht
    have HE : Hid (q = (0, Rn.setV sr t2 r1)) := by show _ = _; rw [HQ.out, if_neg (by simpa using h0)]
    subst h0
    have t1' : decide (0 ≤ t2) = true := decide_eq_true ht0
    by_cases h4 : t2 < 4
    · have t4 : decide (t2 < 4) = true := decide_eq_true h4
      have hk : t2 = 0 ∨ t2 = 1 ∨ t2 = 2 ∨ t2 = 3 := by omega
      have HS := hide (WkAt.setVar (w := w4.drew) (HK4.out.below (Below.drew (Below.refl _ _))) t2 r1 ht0 h4 hb)
      have f6 := hz 6
      have f7 := hz 7
      have f8 := hz 8
      have f9 := hz 9
      have c6 : w4.cell? ⟨X, 6, none⟩ = some (.int .i64 sr.v0) := hc 6
      have c7 : w4.cell? ⟨X, 7, none⟩ = some (.int .i64 sr.v1) := hc 7
      have c8 : w4.cell? ⟨X, 8, none⟩ = some (.int .i64 sr.v2) := hc 8
      have c9 : w4.cell? ⟨X, 9, none⟩ = some (.int .i64 sr.v3) := hc 9
      have hX := HK4.out.lt
      clear hc hz
      rcases hk with rfl | rfl | rfl | rfl
      all_goals
        go_wp2
        go_region
        go_wp2
        go_ret
        rw [HE.out]
        exact ⟨rfl, HS.out.1, HF4.out.trans ((WkFr.below (Below.drew (Below.refl _ _)) hX).trans HS.out.2)⟩
    · have t4 : decide (t2 < 4) = false := decide_eq_false h4
      have HV : Hid (Rn.setV sr t2 r1 = sr) := by
        show _ = _
        unfold Rn.setV
        rw [if_neg (by omega), if_neg (by omega), if_neg (by omega), if_neg (by omega)]
      clear hc hz
      go_wp2
      go_ret
      rw [HE.out, HV.out]
      exact ⟨rfl, HK4.out, HF4.out⟩
end Go.Proofs.YtellilpeakpbfabGreatDoor

end
