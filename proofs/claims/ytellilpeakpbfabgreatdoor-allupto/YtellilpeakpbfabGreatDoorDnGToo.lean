import Derived.Test.YtellilpeakpbfabGreatDoorDnTToo
import Derived.Test.YtellilpeakpbfabGreatDoorRefCToo
section
/-
  What trees leave as it was, and units over trees; no Go text.
-/
namespace Go.Proofs.YtellilpeakpbfabGreatDoor
open Go.RowKit
open Tr (Ex Sm Sms Tok kind)
namespace Rn

open Tr
theorem texpr_fit (E : En) (e : Ex) : ∀ s, Fit E s → Fit E (texpr E e s).2.2 ∧ Same s (texpr E e s).2.2 ∧ (-1000000000 ≤ (texpr E e s).1 ∧ (texpr E e s).1 ≤ 1000000000) := by
  induction e with
  | leaf t =>
    intro s h
    rw [texpr]
    split
    · exact ⟨h, Same.refl s, by simp⟩
    · rename_i hu
      refine ⟨h.use (by omega), Same.use s, ?_⟩
      have tb := token_bd t
      unfold leafV
      simp only
      split
      · omega
      · split
        · exact h.arg _
        · exact h.var _
  | un t e ih =>
    intro s h
    rw [texpr]
    split
    · exact ⟨h, Same.refl s, by simp⟩
    · rename_i hu
      obtain ⟨f1, m1, -⟩ := ih (use s) (h.use (by omega))
      rw [look_snd]
      exact ⟨f1, (Same.use s).trans m1, look_bd _ _ f1⟩
  | bin t a b iha ihb =>
    intro s h
    rw [texpr]
    split
    · exact ⟨h, Same.refl s, by simp⟩
    · rename_i hu
      obtain ⟨f1, m1, -⟩ := iha (use s) (h.use (by omega))
      obtain ⟨f2, m2, -⟩ := ihb _ f1
      unfold two
      split
      · exact ⟨f1, (Same.use s).trans m1, by simp⟩
      · split
        · exact ⟨f2, ((Same.use s).trans m1).trans m2, by simp⟩
        · exact ⟨f2, ((Same.use s).trans m1).trans m2, reckon_bd _ _ _⟩
theorem Up.texpr {E : En} {u : Nat} {s : St} (h : Up E u s) (e : Ex) : Up E u (texpr E e s).2.2 ∧ (-1000000000 ≤ (Rn.texpr E e s).1 ∧ (Rn.texpr E e s).1 ≤ 1000000000) := by
  obtain ⟨h1, h2, h3⟩ := texpr_fit E e s h.1
  exact ⟨⟨h1, Nat.le_trans h.2 h2.used⟩, h3⟩

theorem tr_up (E : En) (n : Nat) : (∀ b s, Fit E s → Up E s.used (tstmts E n b s).2) ∧ (∀ m s, Fit E s → Up E s.used (tstmt E n m s).2 ∧ (s.stopped = false → (tstmt E n m s).1 = 0 → Up E (s.used + 1) (tstmt E n m s).2)) ∧
    (∀ e b s, Fit E s → Up E s.used (tloop E n e b s).2 ∧ (s.stopped = false → (tloop E n e b s).1 = 0 → Up E (s.used + 1) (tloop E n e b s).2)) := by
  induction n with
  | zero =>
    refine ⟨fun b s h => ?_, fun m s h => ?_, fun e b s h => ?_⟩
    · rw [tstmts]; exact ⟨h, Nat.le_refl _⟩
    · rw [tstmt]; exact ⟨⟨h, Nat.le_refl _⟩, fun _ h0 => by simp at h0⟩
    · rw [tloop]; exact ⟨⟨h, Nat.le_refl _⟩, fun _ h0 => by simp at h0⟩
  | succ n ih =>
    obtain ⟨i1, i2, i3⟩ := ih
    refine ⟨fun b s h => ?_, fun m s h => ?_, fun e b s h => ?_⟩
    · cases b with
      | nil => rw [tstmts]; exact ⟨h, Nat.le_refl _⟩
      | cons m r =>
        rw [tstmts]
        split
        · exact ⟨h, Nat.le_refl _⟩
        · obtain ⟨h1, -⟩ := i2 m s h
          split
          · exact h1
          · exact (i1 r _ h1.1).mono h1.2
    · have key : ∀ r : Int × St, Up E (s.used + 1) r.2 → Up E s.used r.2 ∧ (s.stopped = false → r.1 = 0 → Up E (s.used + 1) r.2) := fun r hr => ⟨hr.mono (Nat.le_succ _), fun _ _ => hr⟩
      have out : ∀ r : Int × St, r = (10, s) → Up E s.used r.2 ∧ (s.stopped = false → r.1 = 0 → Up E (s.used + 1) r.2) := fun r hr => by subst hr; exact ⟨⟨h, Nat.le_refl _⟩, fun _ h0 => by simp at h0⟩
      cases m with
      | whl e b => rw [tstmt]; exact i3 e b s h
      | set v e =>
        rw [tstmt]
        split
        · exact out _ rfl
        · rename_i hu
          obtain ⟨a1, a2⟩ := (Up.use h (by omega)).texpr e
          exact key _ (Up.setS _ a1 a2)
      | put a b =>
        rw [tstmt]
        split
        · exact out _ rfl
        · rename_i hu
          obtain ⟨a1, a2⟩ := (Up.use h (by omega)).texpr a
          obtain ⟨b1, b2⟩ := a1.texpr b
          exact key _ (Up.putS a1 b1 b2)
      | del a =>
        rw [tstmt]
        split
        · exact out _ rfl
        · rename_i hu
          obtain ⟨a1, a2⟩ := (Up.use h (by omega)).texpr a
          exact key _ (Up.delS a1)
      | stop a =>
        rw [tstmt]
        split
        · exact out _ rfl
        · rename_i hu
          obtain ⟨a1, a2⟩ := (Up.use h (by omega)).texpr a
          exact key _ (Up.stopS a1)
      | fail =>
        rw [tstmt]
        split
        · exact out _ rfl
        · rename_i hu
          exact key _ (Up.use h (by omega))
      | ite e a b =>
        rw [tstmt]
        split
        · exact out _ rfl
        · rename_i hu
          obtain ⟨a1, a2⟩ := (Up.use h (by omega)).texpr e
          refine key _ ?_
          split
          · exact a1
          · split
            · exact (i1 _ _ a1.1).mono a1.2
            · exact (i1 _ _ a1.1).mono a1.2
    · rw [tloop]
      split
      · rename_i hs; exact ⟨⟨h, Nat.le_refl _⟩, fun h0 => by rw [hs] at h0; cases h0⟩
      · split
        · exact ⟨⟨h, Nat.le_refl _⟩, fun _ h0 => by simp at h0⟩
        · rename_i hu
          obtain ⟨a1, a2⟩ := (Up.use h (by omega)).texpr e
          have key : ∀ r : Int × St, Up E (s.used + 1) r.2 → Up E s.used r.2 ∧ (s.stopped = false → r.1 = 0 → Up E (s.used + 1) r.2) := fun r hr => ⟨hr.mono (Nat.le_succ _), fun _ _ => hr⟩
          refine key _ ?_
          split
          · exact a1
          · split
            · exact a1
            · have h2 := (i1 b _ a1.1).mono a1.2
              split
              · exact h2
              · exact (i3 e b _ h2.1).1.mono h2.2
end Rn
end Go.Proofs.YtellilpeakpbfabGreatDoor

end

section
/-
  The walk of the document's expr.
-/
namespace Go.Proofs.YtellilpeakpbfabGreatDoor
open Go.RowKit

namespace Tr
theorem w_plus (t : Tok) (h : kind t = 4) : t = [43] := word_at t 0 (by decide) h
theorem w_minus (t : Tok) (h : kind t = 5) : t = [45] := word_at t 1 (by decide) h
theorem w_times (t : Tok) (h : kind t = 6) : t = [42] := word_at t 2 (by decide) h
theorem w_less (t : Tok) (h : kind t = 7) : t = [60] := word_at t 3 (by decide) h
theorem w_same (t : Tok) (h : kind t = 8) : t = [61] := word_at t 4 (by decide) h
theorem w_value (t : Tok) (h : kind t = 9) : t = [64] := word_at t 5 (by decide) h
theorem w_there (t : Tok) (h : kind t = 10) : t = [35] := word_at t 6 (by decide) h
/-- a token that is a number, an argument, a variable. -/
theorem leaf_facts (t : Tok) (h : kind t = 1 ∨ kind t = 2 ∨ kind t = 3) : Ck.wants t = some [] ∧
    (kind t = 1 → 0 ≤ Ck.numberR t ∧ Ck.numberR t = (Ck.tokenP t).2) ∧ (kind t = 2 → ¬ 0 ≤ Ck.numberR t ∧ 0 ≤ Ck.slot t 97 ∧ Ck.slot t 97 = (Ck.tokenP t).2 ∧ ¬ 0 ≤ Ck.slot t 118) ∧ (kind t = 3 → ¬ 0 ≤ Ck.numberR t ∧ ¬ 0 ≤ Ck.slot t 97 ∧ 0 ≤ Ck.slot t 118 ∧ Ck.slot t 118 = (Ck.tokenP t).2) := by
  have hni : ¬ Ck.wordsL.idxOf t < 16 := by
    intro hi
    have : kind t = 4 + (Ck.wordsL.idxOf t : Int) := by unfold kind Ck.tokenP; rw [if_pos hi]
    omega
  have hk : Ck.tokenP t = match Ck.numIn t with | some n => (1, (n : Int)) | none => Ck.named t := by unfold Ck.tokenP; rw [if_neg hni]; rfl
  have hne : t ≠ [] := by
    intro h0
    subst h0
    revert h
    decide
  have hnot : ∀ x ∈ Ck.wordsL, t ≠ x := by
    intro x hx e
    subst e
    exact hni (List.idxOf_lt_length_iff.2 hx)
  have hw : (0 ≤ Ck.numberR t ∨ 0 ≤ Ck.slot t 97 ∨ 0 ≤ Ck.slot t 118) → Ck.wants t = some [] := by
    intro hh
    unfold Ck.wants
    rw [if_neg (hnot _ (by decide)), if_neg (hnot _ (by decide)), if_neg (hnot _ (by decide)), if_neg (hnot _ (by decide)), if_neg (hnot _ (by decide)), if_neg (hnot _ (by decide)), if_neg (hnot _ (by decide)), if_pos hh]
  have hnr := Ck.numR_iff t hne
  have hs97 := Ck.slot_iff t 97
  have hs118 := Ck.slot_iff t 118
  cases hn : Ck.numIn t with
  | some n =>
    rw [hn] at hk hnr
    simp only at hk hnr
    have h1 : kind t = 1 := by unfold kind; rw [hk]
    refine ⟨hw (.inl (by rw [hnr]; omega)), fun _ => ⟨by rw [hnr]; omega, by rw [hnr, hk]⟩, fun h2 => by omega, fun h2 => by omega⟩
  | none =>
    rw [hn] at hk hnr
    simp only at hk hnr
    unfold Ck.named at hk
    by_cases a : 0 ≤ Ck.slot t 97
    · rw [if_pos a] at hk
      have h2 : kind t = 2 := by unfold kind; rw [hk]
      have hv : ¬ 0 ≤ Ck.slot t 118 := by
        intro hv
        obtain ⟨b, hb, -⟩ := hs97.1 a
        obtain ⟨c, hc, -⟩ := hs118.1 hv
        rw [hb] at hc
        injection hc with h1 _
        revert h1; decide
      exact ⟨hw (.inr (.inl a)), fun h1 => by omega, fun _ => ⟨by rw [hnr]; decide, a, by rw [hk], hv⟩, fun h3 => by omega⟩
    · rw [if_neg a] at hk
      by_cases v : 0 ≤ Ck.slot t 118
      · rw [if_pos v] at hk
        have h3 : kind t = 3 := by unfold kind; rw [hk]
        exact ⟨hw (.inr (.inr v)), fun h1 => by omega, fun h2 => by omega, fun _ => ⟨by rw [hnr]; decide, a, v, by rw [hk]⟩⟩
      · rw [if_neg v] at hk
        have h0 : kind t = 0 := by unfold kind; rw [hk]
        omega
end Tr
theorem plain_leaf {E : Rn.En} {ts : List (List UInt8)} {args : List Int} (hE : DkEn E ts args) (s : Rn.St) (t : List UInt8) (h : Tr.kind t = 1 ∨ Tr.kind t = 2 ∨ Tr.kind t = 3) : plainV args s t = Rn.leafV E s t := by
  obtain ⟨-, f1, f2, f3⟩ := Tr.leaf_facts t h
  unfold plainV Rn.leafV
  rcases h with h | h | h
  · obtain ⟨a, b⟩ := f1 h
    rw [if_pos a, if_pos h, b]
  · obtain ⟨a, b, c, d⟩ := f2 h
    rw [if_neg a, if_neg (by omega : ¬ Tr.kind t = 1), if_pos h, ← c]
    have hb := Rn.slot_bd t 97 b
    have hk : (((Ck.slot t 97).toNat : Nat) : Int) = Ck.slot t 97 := by omega
    have ha := hE.arg (Ck.slot t 97).toNat (by omega)
    rw [hk] at ha
    rw [ha]
    by_cases hl : Ck.slot t 97 < args.length
    · rw [if_pos ⟨b, hl⟩]
    · rw [if_neg (fun x => hl x.2), if_neg d, List.getD_eq_getElem?_getD, List.getElem?_eq_none (by omega)]; rfl
  · obtain ⟨a, b, c, d⟩ := f3 h
    rw [if_neg a, if_neg (fun x => b x.1), if_pos c, if_neg (by omega : ¬ Tr.kind t = 1), if_neg (by omega : ¬ Tr.kind t = 2), d]
end Go.Proofs.YtellilpeakpbfabGreatDoor

end

section
/-
  The walk of the document's expr, by the tree.
-/
namespace Go.Proofs.YtellilpeakpbfabGreatDoor
open Go.RowKit
open Tr (Ex Tok kind)

/-- what expr answers. -/
def DxPost (X : Nat) (tv av : Value) (E : Rn.En) (ts : List (List UInt8)) (args : List Int) (r : Int × Int × Rn.St) (j0 : Int) (w : World) (e : Ending) (w' : World) : Prop :=
  ∃ v j : Int, e = .returned (.tuple #[.int .i64 v, .int .i64 j]) ∧ ((r.2.1 = 0 ∧ DkAt X w' tv av E ts args r.2.2 ∧ v = r.1 ∧ j = j0) ∨ (r.2.1 ≠ 0 ∧ DkErr X w' tv ts r.2.2.used r.2.1)) ∧ DkFr X w w'

/-- a token in memory. -/
theorem DkAt.tok {X : Nat} {w : World} {tv av : Value} {E : Rn.En} {ts : List (List UInt8)} {args : List Int} {s : Rn.St} (h : DkAt X w tv av E ts args s) {i : Nat} {t : List UInt8} {r : List (List UInt8)} (hi : ts.drop i = t :: r) :
    ∃ g cap, tv = .slice (some ⟨g, 0, none⟩) ts.length cap ∧ w.cell? ⟨g, i, none⟩ = some (.string ⟨t.toArray⟩) ∧ i < ts.length ∧ g < w.heap.size := by
  have hl : i < ts.length := by
    rcases Nat.lt_or_ge i ts.length with h1 | h1
    · exact h1
    · rw [List.drop_eq_nil_of_le h1] at hi; cases hi
  obtain ⟨ao, cap, hv, hsh⟩ := row_shape h.toks
  obtain ⟨g, hg, -, hgl, hcs⟩ := hsh (by omega)
  refine ⟨g, cap, by rw [hv, hg], ?_, hl, hgl⟩
  rw [hcs i hl]
  rw [List.drop_eq_getElem_cons hl] at hi
  injection hi with h1 _
  rw [List.getD_eq_getElem?_getD, List.getElem?_eq_getElem hl, ← h1]; rfl
theorem drop_next {ts : List (List UInt8)} {i : Nat} {t : List UInt8} {r : List (List UInt8)} (hi : ts.drop i = t :: r) : ts.drop (i + 1) = r := by
  rw [← List.drop_drop, hi]; rfl
theorem drop_app {ts : List (List UInt8)} {i : Nat} {l r : List (List UInt8)} (hi : ts.drop i = l ++ r) : ts.drop (i + l.length) = r := by
  rw [← List.drop_drop, hi]; simp
theorem DkErr.cell {X : Nat} {w : World} {tv : Value} {ts : List (List UInt8)} {used : Nat} {er : Int} (h : DkErr X w tv ts used er) : w.cell? ⟨X, 10, none⟩ = some (.int .i64 er) := by
  obtain ⟨⟨cur, hh, -, -, -, h10, -⟩, -⟩ := h
  exact (cell_of_row w X 10 _ _ _ hh).trans h10
theorem DkAt.cell10 {X : Nat} {w : World} {tv av : Value} {E : Rn.En} {ts : List (List UInt8)} {args : List Int} {s : Rn.St} (h : DkAt X w tv av E ts args s) : w.cell? ⟨X, 10, none⟩ = some (.int .i64 0) := by
  obtain ⟨cv, sv, -, -, -, hc, -⟩ := h.cells
  exact hc 10

set_option maxHeartbeats 4000000 in
set_option maxRecDepth 100000 in
/-- there are no units. -/
theorem dexpr_out (X : Nat) (tv av : Value) (E : Rn.En) (ts : List (List UInt8)) (args : List Int) (hE : DkEn E ts args) (i : Nat) (t : List UInt8) (rest : List (List UInt8)) (s : Rn.St) (w : World) (h : DkAt X w tv av E ts args s) (hi : ts.drop i = t :: rest) (hu : E.fuel ≤ s.used) (j0 : Int) :
    Calls Tryz.prog 182 #[.pointer (some ⟨X, 0, none⟩), .int .i64 i] w (DxPost X tv av E ts args (0, 10, s) j0 w) := by
  obtain ⟨g, cap, rfl, d1, hil, -⟩ := h.tok hi
  obtain ⟨cv, sv, -, -, -, hc, -⟩ := h.cells
  have c0 : w.cell? ⟨X, 0, none⟩ = some (.slice (some ⟨g, 0, none⟩) ts.length cap) := hc 0
  have hln := hE.len
  have hmem : t ∈ ts := List.mem_of_mem_drop (i := i) (by rw [hi]; simp)
  have hts := hE.small t hmem
  obtain ⟨tb, htb⟩ : ∃ tb : ByteArray, tb = ⟨t.toArray⟩ := ⟨_, rfl⟩
  have hsz : tb.size ≤ 400 := by rw [htb]; exact hts
  rw [← htb] at d1
  have HW := hide (fun w => wants_any tb w hsz)
  have HU := hide (dunit_no X w _ av E ts args s h hu)
  have hX := h.lt
  clear hc h htb
  generalize (Ck.wants tb.data.toList).getD [] = wl at HW
  generalize (Ck.wants tb.data.toList).isSome = wb at HW
  simp only [T] at HW
  obtain ⟨ws, hws⟩ : ∃ ws : ByteArray, ws = ⟨wl.toArray⟩ := ⟨_, rfl⟩
  rw [← hws] at HW
  clear hws
  go_enter Tryz.func182, Tryz.ntmps182
  go_wp2_with fail
  refine (HW.out _).mono ?_
  rintro e w1 ⟨rfl, rfl⟩
  go_wp2_with fail
  refine HU.out.mono ?_
  rintro e w2 ⟨rfl, her, hfr⟩
  obtain ⟨cv2, sv2, hm2⟩ := her.mem
  have c10 : w2.cell? ⟨X, 10, none⟩ = some (.int .i64 10) := (cell_of_row w2 X 10 _ _ _ hm2).trans rfl
  have HPL := hide (plain_any X w2 _ av cv2 sv2 E args s 10 tb hm2 her.args hE.four hsz)
  have HER := hide her.err
  have HFR := hide hfr
  clear her hm2 hfr HU
  generalize plainV args s tb.data.toList = pv at HPL
  cases hww : (ws.toList == []) with
  | true =>
    go_wp2_with fail
    refine HPL.out.mono ?_
    rintro e w3 ⟨rfl, rfl⟩
    go_wp2
    go_ret2
    exact ⟨_, _, rfl, .inr ⟨by show (10 : Int) ≠ 0; decide, HER.out⟩, HFR.out⟩
  | false =>
    go_wp2_with fail
    refine HPL.out.mono ?_
    rintro e w3 ⟨rfl, rfl⟩
    go_wp2
    go_ret2
    exact ⟨_, _, rfl, .inr ⟨by show (10 : Int) ≠ 0; decide, HER.out⟩, HFR.out⟩
end Go.Proofs.YtellilpeakpbfabGreatDoor

end

section
/-
  The walk of the document's expr, by the tree: leaves, one and two expressions.
-/
namespace Go.Proofs.YtellilpeakpbfabGreatDoor
open Go.RowKit
open Tr (Ex Tok kind)

set_option maxHeartbeats 4000000 in
set_option maxRecDepth 100000 in
theorem dexpr_leaf (X : Nat) (tv av : Value) (E : Rn.En) (ts : List (List UInt8)) (args : List Int) (hE : DkEn E ts args) (i : Nat) (t : List UInt8) (rest : List (List UInt8)) (s : Rn.St) (w : World) (h : DkAt X w tv av E ts args s) (hi : ts.drop i = t :: rest) (hu : s.used < E.fuel)
    (hk : kind t = 1 ∨ kind t = 2 ∨ kind t = 3) :
    Calls Tryz.prog 182 #[.pointer (some ⟨X, 0, none⟩), .int .i64 i] w (DxPost X tv av E ts args (Rn.leafV E s t, 0, Rn.use s) ((i : Int) + 1) w) := by
  obtain ⟨g, cap, rfl, d1, hil, -⟩ := h.tok hi
  obtain ⟨cv, sv, -, -, -, hc, -⟩ := h.cells
  have c0 : w.cell? ⟨X, 0, none⟩ = some (.slice (some ⟨g, 0, none⟩) ts.length cap) := hc 0
  have hln := hE.len
  have hmem : t ∈ ts := List.mem_of_mem_drop (i := i) (by rw [hi]; simp)
  have hts := hE.small t hmem
  obtain ⟨tb, htb⟩ : ∃ tb : ByteArray, tb = ⟨t.toArray⟩ := ⟨_, rfl⟩
  have hsz : tb.size ≤ 400 := by rw [htb]; exact hts
  have hbl : tb.data.toList = t := by rw [htb]
  rw [← htb] at d1
  have hww := fun w => wants_any tb w hsz
  rw [hbl, (Tr.leaf_facts t hk).1] at hww
  simp only [T, Option.getD_some, Option.isSome_some] at hww
  have HW := hide hww
  have HU := hide (dunit_ok X w _ av E ts args s h hu)
  have hX := h.lt
  have HLV : Hid (plainV args (Rn.use s) t = Rn.leafV E s t) := (plain_leaf hE (Rn.use s) t hk).trans rfl
  clear hc h htb hww
  go_enter Tryz.func182, Tryz.ntmps182
  go_wp2_with fail
  refine (HW.out _).mono ?_
  rintro e w1 ⟨rfl, rfl⟩
  go_wp2_with fail
  refine HU.out.mono ?_
  rintro e w2 ⟨rfl, hdk, hfr⟩
  obtain ⟨cv2, sv2, hm2, -, -⟩ := hdk.mem
  have hpl := plain_any X w2 _ av cv2 sv2 E args (Rn.use s) 0 tb hm2 hdk.args.1 hE.four hsz
  rw [hbl, HLV.out] at hpl
  have HPL := hide hpl
  have HDK := hide hdk
  have HFR := hide hfr
  clear hdk hm2 hfr HU hpl
  go_wp2_with fail
  refine HPL.out.mono ?_
  rintro e w3 ⟨rfl, rfl⟩
  go_wp2
  go_ret2
  exact ⟨_, _, rfl, .inl ⟨rfl, HDK.out, rfl, rfl⟩, HFR.out⟩

/-- the contract of one expression. -/
abbrev DxAt (X : Nat) (tv av : Value) (E : Rn.En) (ts : List (List UInt8)) (args : List Int) (i : Nat) (s : Rn.St) (r : Int × Int × Rn.St) (j : Int) : Prop :=
  ∀ w, DkAt X w tv av E ts args s → Calls Tryz.prog 182 #[.pointer (some ⟨X, 0, none⟩), .int .i64 i] w (DxPost X tv av E ts args r j w)

set_option maxHeartbeats 4000000 in
set_option maxRecDepth 100000 in
theorem dexpr_un (X : Nat) (tv av : Value) (E : Rn.En) (ts : List (List UInt8)) (args : List Int) (hE : DkEn E ts args) (i : Nat) (t : List UInt8) (rest : List (List UInt8)) (s : Rn.St) (w : World) (h : DkAt X w tv av E ts args s) (hi : ts.drop i = t :: rest) (hu : s.used < E.fuel)
    (hk : kind t = 9 ∨ kind t = 10) (r : Int × Int × Rn.St) (j : Int) (hr : DxAt X tv av E ts args (i + 1) (Rn.use s) r j) :
    Calls Tryz.prog 182 #[.pointer (some ⟨X, 0, none⟩), .int .i64 i] w (DxPost X tv av E ts args (Rn.look E (kind t) r) j w) := by
  obtain ⟨q, hq⟩ : ∃ q, q = Rn.look E (kind t) r := ⟨_, rfl⟩
  rw [← hq]
  unfold Rn.look at hq
  have HQ := hide hq
  obtain ⟨g, cap, rfl, d1, hil, -⟩ := h.tok hi
  obtain ⟨cv, sv, -, -, -, hc, -⟩ := h.cells
  have c0 : w.cell? ⟨X, 0, none⟩ = some (.slice (some ⟨g, 0, none⟩) ts.length cap) := hc 0
  have hln := hE.len
  have ht : t = [64] ∨ t = [35] := by rcases hk with h | h; · exact .inl (Tr.w_value t h)
                                      · exact .inr (Tr.w_there t h)
  have hww : ∀ w, Calls Tryz.prog 165 #[.string ⟨t.toArray⟩] w fun e w' => e = .returned (.tuple #[.string ⟨#[101]⟩, .bool true]) ∧ w' = w := by
    intro w
    have := wants_any ⟨t.toArray⟩ w (by rcases ht with rfl | rfl <;> decide)
    rcases ht with rfl | rfl <;> exact this
  have HW := hide hww
  have HU := hide (dunit_ok X w _ av E ts args s h hu)
  have hX := h.lt
  have hr' : DxAt X (.slice (some ⟨g, 0, none⟩) ts.length cap) av E ts args (i + 1) (Rn.use s) r j := hr
  have HR := hide hr'
  obtain ⟨a, er, sa⟩ := r
  simp only at HQ
  have hk10 : (kind t = 10) ↔ t = [35] := ⟨Tr.w_there t, fun h => by rw [h]; decide⟩
  have HK10 := hide hk10
  clear hc h hww hr hr' hq hk hk10
  go_enter Tryz.func182, Tryz.ntmps182
  go_wp2_with fail
  refine (HW.out _).mono ?_
  rintro e w1 ⟨rfl, rfl⟩
  go_wp2_with fail
  refine HU.out.mono ?_
  rintro e w2 ⟨rfl, hdk, hfr⟩
  have c10 := hdk.cell10
  have hcall := HR.out w2 hdk
  rw [show (((i + 1 : Nat)) : Int) = (i : Int) + 1 by omega] at hcall
  have HCALL := hide hcall
  have HFR := hide hfr
  clear hdk hfr HU hcall HR
  go_wp2_with fail
  refine HCALL.out.mono ?_
  rintro e w3 ⟨v3, j3, rfl, hor, hfr3⟩
  have HF3 := hide (HFR.out.trans hfr3)
  clear hfr3 HCALL
  rcases hor with ⟨h0, hdk3, hv3, hj3⟩ | ⟨hne, herr⟩
  · simp only at h0 hdk3 hv3 hj3
    subst hv3 hj3
    have HQ2 : Hid (q = if (Rn.get E sa v3).2.2 ≠ 0 then (0, (Rn.get E sa v3).2.2, sa) else (if kind t = 10 then Rn.oneIf (Rn.get E sa v3).2.1 else (Rn.get E sa v3).1, 0, sa)) := by show _ = _; rw [HQ.out, if_neg (by simpa using h0)]
    clear HQ
    subst h0
    have c10' := hdk3.cell10
    have HKEY := hide (dkey_any X w3 _ av E ts args sa v3 hdk3)
    obtain ⟨cv3, sv3, hcr3, -, hm3, hc3, -⟩ := hdk3.cells
    have c6 : w3.cell? ⟨X, 6, none⟩ = some cv3 := hc3 6
    have hok : Jn.Ok (Rn.conW E.con sa.writes) := Rn.conW_ok _ _ hdk3.fit.con hdk3.wr.ok
    have hgv := Rn.get_view E sa v3 hdk3.fit.con.len hdk3.wr
    have HCELL := hide (cellR_any 0 cv3 _ v3 w3 hcr3 (list_bound hok))
    have HOK := hide hok
    have HGV := hide hgv
    have HDK3 := hide hdk3
    obtain ⟨cvo, cvk, rfl⟩ := crow_slice hcr3
    clear hdk3 hcr3 hm3 hc3 hok hgv
    cases hkk : Jn.isKey v3 with
    | false =>
      rw [hkk] at HKEY
      have hgf : (Rn.get E sa v3).2.2 = 5 := by
        unfold Rn.get
        rw [Rn.find_find]
        have hn : sa.writes.find? (fun p => p.1 == v3) = none := by
          rw [List.find?_eq_none]
          intro p hp
          have h1 := (HDK3.out.wr.ok p hp).1
          simp only [beq_iff_eq]
          intro e
          rw [e, hkk] at h1; cases h1
        rw [hn]
        simp only
        unfold Rn.held
        rw [if_neg (by rw [hkk]; simp)]
      have HE : Hid (q = (0, 5, sa)) := by show _ = _; rw [HQ2.out, if_pos (by rw [hgf]; decide), hgf]
      clear HQ2
      go_wp2_with fail
      refine HKEY.out.mono ?_
      rintro e w4 ⟨rfl, hor4⟩
      rcases hor4 with ⟨hx, -⟩ | ⟨-, her4, hf4⟩
      · cases hx
      have HER := hide her4
      have HF4 := hide (HF3.out.trans hf4)
      clear her4 hf4 HKEY
      go_wp2
      go_ret2
      rw [HE.out]
      exact ⟨_, _, rfl, .inr ⟨by show (5 : Int) ≠ 0; decide, HER.out⟩, HF4.out⟩
    | true =>
      rw [hkk] at HKEY
      obtain ⟨k1, k2⟩ := Rn.key_nat hkk
      have hcc := cell_con HOK.out v3.toNat k2
      rw [k1] at hcc
      have hg3 := HGV.out hkk
      rw [← hcc] at hg3
      generalize cellL (Rn.conW E.con sa.writes).list v3 = co at HCELL hg3
      have HE : Hid (q = (if kind t = 10 then Rn.oneIf co.isSome else co.getD 0, 0, sa)) := by show _ = _; rw [HQ2.out, hg3, if_neg (by simp)]
      clear HQ2 hg3 HGV
      go_wp2_with fail
      refine HKEY.out.mono ?_
      rintro e w4 ⟨rfl, hor4⟩
      rcases hor4 with ⟨-, rfl⟩ | ⟨hx, -⟩
      rotate_left
      · cases hx
      go_wp2_with fail
      refine HCELL.out.mono ?_
      rintro e w5 ⟨rfl, rfl⟩
      have hfin : ∀ v : Int, v = (if kind t = 10 then Rn.oneIf co.isSome else co.getD 0) → DxPost X (.slice (some ⟨g, 0, none⟩) ts.length cap) av E ts args q j3 w1 (.returned (.tuple #[.int .i64 v, .int .i64 j3])) w5 := by
        intro v hv
        rw [HE.out]
        exact ⟨v, j3, rfl, .inl ⟨rfl, HDK3.out, hv, rfl⟩, HF3.out⟩
      have HFIN := hide hfin
      clear hfin HKEY HCELL HE
      rcases ht with rfl | rfl
      · have hkn : ¬ kind [64] = 10 := by decide
        have HFIN2 : Hid (DxPost X (.slice (some ⟨g, 0, none⟩) ts.length cap) av E ts args q j3 w1 (.returned (.tuple #[.int .i64 (co.getD 0), .int .i64 j3])) w5) := HFIN.out _ (by rw [if_neg hkn])
        clear HFIN
        cases hco : co.isSome
        all_goals
          go_wp2
          go_ret2
          exact HFIN2.out
      · have hkn : kind [35] = 10 := by decide
        cases hco : co.isSome with
        | true =>
          have HFIN2 : Hid (DxPost X (.slice (some ⟨g, 0, none⟩) ts.length cap) av E ts args q j3 w1 (.returned (.tuple #[.int .i64 1, .int .i64 j3])) w5) := HFIN.out _ (by rw [if_pos hkn, hco]; rfl)
          clear HFIN
          go_wp2
          go_ret2
          exact HFIN2.out
        | false =>
          have hcz : co.getD 0 = 0 := by cases co with
            | none => rfl
            | some x => cases hco
          have HFIN2 : Hid (DxPost X (.slice (some ⟨g, 0, none⟩) ts.length cap) av E ts args q j3 w1 (.returned (.tuple #[.int .i64 0, .int .i64 j3])) w5) := HFIN.out _ (by rw [if_pos hkn, hco]; rfl)
          clear HFIN
          go_wp2
          go_ret2
          exact HFIN2.out
  · simp only at hne herr
    have HE : Hid (q = (0, er, sa)) := by show _ = _; rw [HQ.out, if_pos hne]
    have c10' := herr.cell
    have t1 : (er != 0) = true := by simpa using hne
    have HER := hide herr
    have HNE := hide hne
    clear herr hne HQ
    go_wp2
    go_ret2
    rw [HE.out]
    exact ⟨_, _, rfl, .inr ⟨HNE.out, HER.out⟩, HF3.out⟩
end Go.Proofs.YtellilpeakpbfabGreatDoor

end

section
/-
  The walk of the document's expr: two expressions; every tree.
-/
namespace Go.Proofs.YtellilpeakpbfabGreatDoor
open Go.RowKit
open Tr (Ex Tok kind)

theorem reckon_sign (t : List UInt8) (a b : Int) (hk : 4 ≤ kind t ∧ kind t ≤ 8) : Rn.reckon (kind t) a b = if Jn.isVal (signT t a b) = true then (signT t a b, 0) else (0, 7) := by
  have ho : ∀ c : Bool, Jn.isVal (Rn.oneIf c) = true := by intro c; cases c <;> decide
  have hc : kind t = 4 ∨ kind t = 5 ∨ kind t = 6 ∨ kind t = 7 ∨ kind t = 8 := by omega
  rcases hc with h | h | h | h | h
  · rw [h, Tr.w_plus t h]; rfl
  · rw [h, Tr.w_minus t h]; rfl
  · rw [h, Tr.w_times t h]; rfl
  · rw [h, Tr.w_less t h]
    have e : signT [60] a b = Rn.oneIf (decide (a < b)) := rfl
    rw [e, if_pos (ho _)]; rfl
  · rw [h, Tr.w_same t h]
    have e : signT [61] a b = Rn.oneIf (a == b) := rfl
    rw [e, if_pos (ho _)]; rfl
theorem sign_bd (t : List UInt8) (a b : Int) (a0 : -1000000000 ≤ a ∧ a ≤ 1000000000) (b0 : -1000000000 ≤ b ∧ b ≤ 1000000000) : -9223372036854775808 ≤ signT t a b ∧ signT t a b ≤ 9223372036854775807 := by
  have h := mul_bd a b a0.1 a0.2 b0.1 b0.2
  have ho : ∀ c : Bool, 0 ≤ Rn.oneIf c ∧ Rn.oneIf c ≤ 1 := by intro c; cases c <;> decide
  unfold signT
  repeat' split
  · omega
  · omega
  · omega
  · have := ho (decide (a < b)); omega
  · have := ho (a == b); omega
  · omega

set_option maxHeartbeats 4000000 in
set_option maxRecDepth 100000 in
theorem dexpr_bin (X : Nat) (tv av : Value) (E : Rn.En) (ts : List (List UInt8)) (args : List Int) (hE : DkEn E ts args) (i : Nat) (t : List UInt8) (rest : List (List UInt8)) (s : Rn.St) (w : World) (h : DkAt X w tv av E ts args s) (hi : ts.drop i = t :: rest) (hu : s.used < E.fuel)
    (hk : 4 ≤ kind t ∧ kind t ≤ 8) (ra rb : Int × Int × Rn.St) (ja : Nat) (jb : Int) (ha : DxAt X tv av E ts args (i + 1) (Rn.use s) ra ja) (hb : ra.2.1 = 0 → DxAt X tv av E ts args ja ra.2.2 rb jb)
    (va : -1000000000 ≤ ra.1 ∧ ra.1 ≤ 1000000000) (vb : -1000000000 ≤ rb.1 ∧ rb.1 ≤ 1000000000) :
    Calls Tryz.prog 182 #[.pointer (some ⟨X, 0, none⟩), .int .i64 i] w (DxPost X tv av E ts args (Rn.two (kind t) ra rb) jb w) := by
  obtain ⟨q, hq⟩ : ∃ q, q = Rn.two (kind t) ra rb := ⟨_, rfl⟩
  rw [← hq]
  unfold Rn.two at hq
  rw [reckon_sign t ra.1 rb.1 hk] at hq
  have HQ := hide hq
  obtain ⟨g, cap, rfl, d1, hil, -⟩ := h.tok hi
  obtain ⟨cv, sv, -, -, -, hc, -⟩ := h.cells
  have c0 : w.cell? ⟨X, 0, none⟩ = some (.slice (some ⟨g, 0, none⟩) ts.length cap) := hc 0
  have hln := hE.len
  have ht : t = [43] ∨ t = [45] ∨ t = [42] ∨ t = [60] ∨ t = [61] := by
    have hcc : kind t = 4 ∨ kind t = 5 ∨ kind t = 6 ∨ kind t = 7 ∨ kind t = 8 := by omega
    rcases hcc with h | h | h | h | h
    · exact .inl (Tr.w_plus t h)
    · exact .inr (.inl (Tr.w_minus t h))
    · exact .inr (.inr (.inl (Tr.w_times t h)))
    · exact .inr (.inr (.inr (.inl (Tr.w_less t h))))
    · exact .inr (.inr (.inr (.inr (Tr.w_same t h))))
  have hww : ∀ w, Calls Tryz.prog 165 #[.string ⟨t.toArray⟩] w fun e w' => e = .returned (.tuple #[.string ⟨#[101, 101]⟩, .bool true]) ∧ w' = w := by
    intro w
    have := wants_any ⟨t.toArray⟩ w (by rcases ht with rfl | rfl | rfl | rfl | rfl <;> decide)
    rcases ht with rfl | rfl | rfl | rfl | rfl <;> exact this
  have HW := hide hww
  have HU := hide (dunit_ok X w _ av E ts args s h hu)
  have HA := hide ha
  have HB := hide hb
  have HSG := hide (fun w => sign_any ⟨t.toArray⟩ ra.1 rb.1 w (by simpa using ht) va.1 va.2 vb.1 vb.2)
  have hsb := sign_bd t ra.1 rb.1 va vb
  have HWI := hide (fun w => within_any (signT t ra.1 rb.1) w hsb.1 hsb.2)
  clear hc h hww ha hb hq hk hsb
  obtain ⟨a, ea, sa⟩ := ra
  obtain ⟨b, eb, sb⟩ := rb
  simp only at HQ HA HB HSG HWI va vb
  generalize signT t a b = sg at HQ HSG HWI
  obtain ⟨tb, htb⟩ : ∃ tb : ByteArray, tb = ⟨t.toArray⟩ := ⟨_, rfl⟩
  have hta : (⟨t.toArray⟩ : ByteArray).data.toList = t := by simp
  rw [← htb] at d1 HW HSG
  clear hta htb
  go_enter Tryz.func182, Tryz.ntmps182
  go_wp2_with fail
  refine (HW.out _).mono ?_
  rintro e w1 ⟨rfl, rfl⟩
  go_wp2_with fail
  refine HU.out.mono ?_
  rintro e w2 ⟨rfl, hdk, hfr⟩
  have c10 := hdk.cell10
  have hcall := HA.out w2 hdk
  rw [show (((i + 1 : Nat)) : Int) = (i : Int) + 1 by omega] at hcall
  have HCALL := hide hcall
  have HFR := hide hfr
  clear hdk hfr HU hcall HA
  go_wp2_with fail
  refine HCALL.out.mono ?_
  rintro e w3 ⟨v3, j3, rfl, hor, hfr3⟩
  have HF3 := hide (HFR.out.trans hfr3)
  clear hfr3 HCALL
  rcases hor with ⟨h0, hdk3, hv3, hj3⟩ | ⟨hne, herr⟩
  · simp only at h0 hdk3 hv3 hj3
    subst hv3 hj3
    have HQ2 : Hid (q = if eb ≠ 0 then (0, eb, sb) else ((if Jn.isVal sg = true then (sg, (0 : Int)) else (0, 7)).1, (if Jn.isVal sg = true then (sg, (0 : Int)) else (0, 7)).2, sb)) := by show _ = _; rw [HQ.out, if_neg (by simpa using h0)]
    have HCB := hide (HB.out h0 w3 hdk3)
    have c10' := hdk3.cell10
    clear HQ HB hdk3
    subst h0
    go_wp2_with fail
    refine HCB.out.mono ?_
    rintro e w4 ⟨v4, j4, rfl, hor4, hfr4⟩
    have HF4 := hide (HF3.out.trans hfr4)
    clear hfr4 HCB
    rcases hor4 with ⟨h0, hdk4, hv4, hj4⟩ | ⟨hne, herr⟩
    · simp only at h0 hdk4 hv4 hj4
      subst hv4 hj4
      have HQ3 : Hid (q = ((if Jn.isVal sg = true then (sg, (0 : Int)) else (0, 7)).1, (if Jn.isVal sg = true then (sg, (0 : Int)) else (0, 7)).2, sb)) := by show _ = _; rw [HQ2.out, if_neg (by simpa using h0)]
      clear HQ2
      subst h0
      have c10'' := hdk4.cell10
      obtain ⟨cv4, sv4, -, -, -, -, hz4⟩ := hdk4.cells
      have f10 := hz4 10
      have HFL := hide (hdk4.fail 7)
      have HDK4 := hide hdk4
      clear hdk4 hz4
      go_wp2_with fail
      refine (HSG.out _).mono ?_
      rintro e w5 ⟨rfl, rfl⟩
      go_wp2_with fail
      refine (HWI.out _).mono ?_
      rintro e w6 ⟨rfl, rfl⟩
      cases hiv : Jn.isVal sg with
      | true =>
        have HE : Hid (q = (sg, 0, sb)) := by show _ = _; rw [HQ3.out, if_pos hiv]
        clear HQ3
        go_wp2
        go_ret2
        rw [HE.out]
        exact ⟨_, _, rfl, .inl ⟨rfl, HDK4.out, rfl, rfl⟩, HF4.out⟩
      | false =>
        have HE : Hid (q = (0, 7, sb)) := by show _ = _; rw [HQ3.out, if_neg (by rw [hiv]; simp)]
        clear HQ3
        go_wp2
        go_ret2
        rw [HE.out]
        exact ⟨_, _, rfl, .inr ⟨by show (7 : Int) ≠ 0; decide, HFL.out.1.err⟩, HF4.out.trans HFL.out.2⟩
    · simp only at hne herr
      have HE : Hid (q = (0, eb, sb)) := by show _ = _; rw [HQ2.out, if_pos hne]
      have c10'' := herr.cell
      have t1 : (eb != 0) = true := by simpa using hne
      have HER := hide herr
      have HNE := hide hne
      clear herr hne HQ2
      go_wp2
      go_ret2
      rw [HE.out]
      exact ⟨_, _, rfl, .inr ⟨HNE.out, HER.out⟩, HF4.out⟩
  · simp only at hne herr
    have HE : Hid (q = (0, ea, sa)) := by show _ = _; rw [HQ.out, if_pos hne]
    have c10' := herr.cell
    have t1 : (ea != 0) = true := by simpa using hne
    have HER := hide herr
    have HNE := hide hne
    clear herr hne HQ
    go_wp2
    go_ret2
    rw [HE.out]
    exact ⟨_, _, rfl, .inr ⟨HNE.out, HER.out⟩, HF3.out⟩

/-- every expression. -/
theorem dexpr_any (X : Nat) (tv av : Value) (E : Rn.En) (ts : List (List UInt8)) (args : List Int) (hE : DkEn E ts args) (e : Ex) : ∀ (i : Nat) (rest : List (List UInt8)) (s : Rn.St), e.Ok → ts.drop i = e.flat ++ rest →
    DxAt X tv av E ts args i s (Rn.texpr E e s) ((i + e.flat.length : Nat) : Int) := by
  induction e with
  | leaf t =>
    intro i rest s hok hi w h
    rw [Rn.texpr]
    have hi' : ts.drop i = t :: rest := hi
    by_cases hu : E.fuel ≤ s.used
    · rw [if_pos hu]; exact dexpr_out X tv av E ts args hE i t rest s w h hi' hu _
    · rw [if_neg hu]
      exact dexpr_leaf X tv av E ts args hE i t rest s w h hi' (by omega) hok
  | un t e ih =>
    intro i rest s hok hi w h
    rw [Rn.texpr]
    have hi' : ts.drop i = t :: (e.flat ++ rest) := hi
    by_cases hu : E.fuel ≤ s.used
    · rw [if_pos hu]; exact dexpr_out X tv av E ts args hE i t _ s w h hi' hu _
    · rw [if_neg hu]
      have hr := ih (i + 1) rest (Rn.use s) hok.2 (drop_next hi')
      have e1 : ((i + (Ex.un t e).flat.length : Nat) : Int) = ((i + 1 + e.flat.length : Nat) : Int) := by simp [Ex.flat]; omega
      rw [e1]
      exact dexpr_un X tv av E ts args hE i t _ s w h hi' (by omega) hok.1 _ _ hr
  | bin t a b iha ihb =>
    intro i rest s hok hi w h
    rw [Rn.texpr]
    have hi' : ts.drop i = t :: (a.flat ++ (b.flat ++ rest)) := by
      have e0 : (Ex.bin t a b).flat ++ rest = t :: (a.flat ++ (b.flat ++ rest)) := by simp [Ex.flat]
      rw [e0] at hi; exact hi
    by_cases hu : E.fuel ≤ s.used
    · rw [if_pos hu]; exact dexpr_out X tv av E ts args hE i t _ s w h hi' hu _
    · rw [if_neg hu]
      have h1 := drop_next hi'
      have hra := iha (i + 1) (b.flat ++ rest) (Rn.use s) hok.2.1 h1
      have hrb := ihb (i + 1 + a.flat.length) rest (Rn.texpr E a (Rn.use s)).2.2 hok.2.2 (drop_app h1)
      have fa := Rn.texpr_fit E a (Rn.use s) (h.fit.use (by omega))
      have fb := Rn.texpr_fit E b _ fa.1
      have e1 : ((i + (Ex.bin t a b).flat.length : Nat) : Int) = ((i + 1 + a.flat.length + b.flat.length : Nat) : Int) := by simp [Ex.flat]; omega
      rw [e1]
      exact dexpr_bin X tv av E ts args hE i t _ s w h hi' (by omega) hok.1 _ _ _ _ hra (fun _ => hrb) fa.2.2 fb.2.2
end Go.Proofs.YtellilpeakpbfabGreatDoor

end
