import Derived.Test.YtellilpeakpbfabGreatDoorTrEToo
import Derived.Test.YtellilpeakpbfabGreatDoorRnKToo
section
/-
  Trees that are worked out: statements; no Go text.
-/
namespace Go.Proofs.YtellilpeakpbfabGreatDoor
open Go.RowKit
namespace Rn
open Tr

def atp (s : St) (p : Nat) : St := { s with pos := p }
theorem N_atp (s : St) (p : Nat) : N (atp s p) = N s := rfl
theorem adv_atp {E : En} {s : St} {t : Tok} {l : List Tok} (h : Here E s.pos (t :: l)) : adv E s = atp s (s.pos + 1) := by
  have := h.head.2.1
  unfold adv at this ⊢
  split at this
  · rename_i hl; rw [if_pos hl]; rfl
  · omega
/-- tokens that leave the depth as it was. -/
def Even (l : List Tok) : Prop := ∀ (E : En) (d : Int) (n : Nat) (s : St) (rest : List Tok), 1 ≤ d → Here E s.pos (l ++ rest) → skipGo E (n + l.length) d s = skipGo E n d (atp s (s.pos + l.length))
theorem Even.nil : Even [] := fun _ _ _ _ _ _ _ => rfl
theorem Even.one (t : Tok) (h : kind t ≠ 18) (h2 : kind t ≠ 19) : Even [t] := by
  intro E d n s rest hd hh
  have hh' : Here E s.pos (t :: rest) := hh
  obtain ⟨ht, -, -⟩ := hh'.head
  have hl : s.pos < E.tk.length := by
    rcases Nat.lt_or_ge s.pos E.tk.length with h1 | h1
    · exact h1
    · unfold Here at hh'; rw [List.drop_eq_nil_of_le h1] at hh'; simp at hh'
  show skipGo E (n + 1) d s = _
  rw [skip_succ, if_pos hl]
  have hd' : deep E s d = d := by
    unfold deep
    rw [ht]
    exact (if_neg h).trans (if_neg h2)
  rw [hd', if_neg (by omega), adv_atp hh']
  rfl
theorem Even.app {a b : List Tok} (ha : Even a) (hb : Even b) : Even (a ++ b) := by
  intro E d n s rest hd hh
  rw [List.append_assoc] at hh
  rw [List.length_append, show n + (a.length + b.length) = (n + b.length) + a.length by omega, ha E d _ s (b ++ rest) hd hh, hb E d n _ rest hd (by exact hh.app)]
  congr 1
  unfold atp
  simp; omega
theorem Even.cons {t : Tok} {l : List Tok} (h : kind t ≠ 18) (h2 : kind t ≠ 19) (hl : Even l) : Even (t :: l) := Even.app (a := [t]) (Even.one t h h2) hl
theorem pos_lt {E : En} {p : Nat} {t : Tok} {l : List Tok} (h : Here E p (t :: l)) : p < E.tk.length := by
  rcases Nat.lt_or_ge p E.tk.length with h1 | h1
  · exact h1
  · unfold Here at h; rw [List.drop_eq_nil_of_le h1] at h; simp at h
theorem k_open : kind [123] = 18 := by decide
theorem k_close : kind [125] = 19 := by decide
theorem Even.block {l : List Tok} (hl : Even l) : Even ([123] :: (l ++ [[125]])) := by
  intro E d n s rest hd hh
  have e : ([123] :: (l ++ [[125]])) ++ rest = [123] :: (l ++ ([125] :: rest)) := by simp
  rw [e] at hh
  obtain ⟨ht, -, h1⟩ := hh.head
  have ht' : (tok E s).1 = 18 := by rw [ht]; exact k_open
  rw [show n + ([123] :: (l ++ [[125]])).length = ((n + 1) + l.length) + 1 by simp; omega, skip_succ, if_pos (pos_lt hh)]
  have hd' : deep E s d = d + 1 := by unfold deep; rw [if_pos ht']
  rw [hd', if_neg (by omega), adv_atp hh, hl E (d + 1) (n + 1) (atp s (s.pos + 1)) ([125] :: rest) (by omega) h1]
  have h2 : Here E (atp (atp s (s.pos + 1)) ((atp s (s.pos + 1)).pos + l.length)).pos ([125] :: rest) := Here.app h1
  obtain ⟨hu, -, -⟩ := h2.head
  have hu' : (tok E (atp (atp s (s.pos + 1)) ((atp s (s.pos + 1)).pos + l.length))).1 = 19 := by rw [hu]; exact k_close
  rw [skip_succ, if_pos (pos_lt h2)]
  have hd2 : deep E (atp (atp s (s.pos + 1)) ((atp s (s.pos + 1)).pos + l.length)) (d + 1) = d := by unfold deep; rw [hu', if_neg (by decide), if_pos rfl]; omega
  rw [hd2, if_neg (by omega), adv_atp h2]
  congr 1
  unfold atp
  simp; omega
theorem Ex.even (e : Ex) : e.Ok → Even e.flat := by
  induction e with
  | leaf t => intro h; exact Even.one t (by have : kind t = 1 ∨ kind t = 2 ∨ kind t = 3 := h; omega) (by have : kind t = 1 ∨ kind t = 2 ∨ kind t = 3 := h; omega)
  | un t e ih => intro h; exact Even.cons (by have := h.1; omega) (by have := h.1; omega) (ih h.2)
  | bin t a b iha ihb => intro h; exact Even.cons (by have := h.1; omega) (by have := h.1; omega) (Even.app (iha h.2.1) (ihb h.2.2))
mutual
theorem Sm.even : (m : Sm) → m.Ok → Even m.flat
  | .set v e, h => Even.cons (by decide) (by decide) (Even.cons (by have := h.1; omega) (by have := h.1; omega) (Ex.even e h.2))
  | .put a b, h => Even.cons (by decide) (by decide) (Even.app (Ex.even a h.1) (Ex.even b h.2))
  | .del a, h => Even.cons (by decide) (by decide) (Ex.even a h)
  | .stop a, h => Even.cons (by decide) (by decide) (Ex.even a h)
  | .fail, _ => Even.one _ (by decide) (by decide)
  | .ite e a b, h => by
    have e1 : (Sm.ite e a b).flat = [105, 102] :: (e.flat ++ (([123] :: (a.flat ++ [[125]])) ++ ([123] :: (b.flat ++ [[125]])))) := by simp [Sm.flat]
    rw [e1]
    exact Even.cons (by decide) (by decide) (Even.app (Ex.even e h.1) (Even.app (Even.block (Sms.even a h.2.1)) (Even.block (Sms.even b h.2.2))))
  | .whl e a, h => by
    have e1 : (Sm.whl e a).flat = [119, 104, 105, 108, 101] :: (e.flat ++ ([123] :: (a.flat ++ [[125]]))) := by simp [Sm.flat]
    rw [e1]
    exact Even.cons (by decide) (by decide) (Even.app (Ex.even e h.1) (Even.block (Sms.even a h.2)))
theorem Sms.even : (b : Sms) → b.Ok → Even b.flat
  | .nil, _ => Even.nil
  | .cons m r, h => by
    have e1 : (Sms.cons m r).flat = m.flat ++ r.flat := by simp [Sms.flat]
    rw [e1]
    exact Even.app (Sm.even m h.1) (Sms.even r h.2)
end

/-- past a block. -/
theorem skip_block {E : En} {s : St} {l rest : List Tok} (hl : Even l) (hh : Here E s.pos ([123] :: (l ++ ([125] :: rest)))) : skip E s = atp s (s.pos + l.length + 2) := by
  obtain ⟨ht, -, h1⟩ := hh.head
  have ht' : (tok E s).1 = 18 := by rw [ht]; exact k_open
  have hlen : s.pos + l.length + 2 ≤ E.tk.length := by
    have := congrArg List.length hh
    simp at this
    omega
  unfold skip
  obtain ⟨n, hn⟩ : ∃ n, E.tk.length + 1 = ((n + 1) + l.length) + 1 := ⟨E.tk.length - l.length - 1, by omega⟩
  rw [hn, skip_succ, if_pos (pos_lt hh)]
  have hd' : deep E s 0 = 1 := by unfold deep; rw [if_pos ht']; rfl
  rw [hd', if_neg (by omega), adv_atp hh, hl E 1 (n + 1) (atp s (s.pos + 1)) ([125] :: rest) (by omega) h1]
  have h2 : Here E (atp (atp s (s.pos + 1)) ((atp s (s.pos + 1)).pos + l.length)).pos ([125] :: rest) := Here.app h1
  obtain ⟨hu, -, -⟩ := h2.head
  have hu' : (tok E (atp (atp s (s.pos + 1)) ((atp s (s.pos + 1)).pos + l.length))).1 = 19 := by rw [hu]; exact k_close
  rw [skip_succ, if_pos (pos_lt h2)]
  have hd2 : deep E (atp (atp s (s.pos + 1)) ((atp s (s.pos + 1)).pos + l.length)) 1 = 0 := by unfold deep; rw [hu', if_neg (by decide), if_pos rfl]; rfl
  rw [hd2, if_pos rfl, adv_atp h2]
  unfold atp
  simp; omega

mutual
def tstmts (E : En) : Nat → Sms → St → Int × St
  | 0, _, s => (10, s)
  | _ + 1, .nil, s => (0, s)
  | n + 1, .cons m r, s => if s.stopped = true then (0, s) else if (tstmt E n m s).1 ≠ 0 then tstmt E n m s else tstmts E n r (tstmt E n m s).2
def tstmt (E : En) : Nat → Sm → St → Int × St
  | 0, _, s => (10, s)
  | n + 1, .whl e b, s => tloop E n e b s
  | _ + 1, .set v e, s => if E.fuel ≤ s.used then (10, s) else setS (Ck.tokenP v).2 (texpr E e (use s))
  | _ + 1, .put a b, s => if E.fuel ≤ s.used then (10, s) else putS (texpr E a (use s)) (texpr E b (texpr E a (use s)).2.2)
  | _ + 1, .del a, s => if E.fuel ≤ s.used then (10, s) else delS (texpr E a (use s))
  | _ + 1, .stop a, s => if E.fuel ≤ s.used then (10, s) else stopS (texpr E a (use s))
  | _ + 1, .fail, s => if E.fuel ≤ s.used then (10, s) else (9, use s)
  | n + 1, .ite e a b, s => if E.fuel ≤ s.used then (10, s) else
    if (texpr E e (use s)).2.1 ≠ 0 then ((texpr E e (use s)).2.1, (texpr E e (use s)).2.2) else
    if (texpr E e (use s)).1 = 0 then tstmts E n b (texpr E e (use s)).2.2 else tstmts E n a (texpr E e (use s)).2.2
def tloop (E : En) : Nat → Ex → Sms → St → Int × St
  | 0, _, _, s => (10, s)
  | n + 1, e, b, s => if s.stopped = true then (0, s) else if E.fuel ≤ s.used then (10, s) else
    if (texpr E e (use s)).2.1 ≠ 0 then ((texpr E e (use s)).2.1, (texpr E e (use s)).2.2) else
    if (texpr E e (use s)).1 = 0 then (0, (texpr E e (use s)).2.2) else
    if (tstmts E n b (texpr E e (use s)).2.2).1 ≠ 0 then tstmts E n b (texpr E e (use s)).2.2 else tloop E n e b (tstmts E n b (texpr E e (use s)).2.2).2
end
end Rn
end Go.Proofs.YtellilpeakpbfabGreatDoor

end

section
/-
  The program's way over tokens and the tree's come to the same: statements; no Go text.
-/
namespace Go.Proofs.YtellilpeakpbfabGreatDoor
open Go.RowKit
namespace Rn
open Tr

def N2 (r : Int × St) : Int × St := (r.1, N r.2)
theorem N_setV (s : St) (k x : Int) : N (setV s k x) = setV (N s) k x := by
  unfold setV
  repeat' split
  all_goals rfl
theorem N_setS (k : Int) (r : Int × Int × St) : N2 (setS k r) = setS k (N3 r) := by
  unfold setS N2 N3
  simp only
  split
  · rfl
  · rw [N_setV]
theorem N_put (s : St) (p : Int × Bool × Int) : N2 (put s p) = put (N s) p := by
  unfold put N2
  have e : (N s).writes = s.writes := rfl
  rw [e]
  repeat' split
  all_goals rfl
theorem N_putS (a b : Int × Int × St) : N2 (putS a b) = putS (N3 a) (N3 b) := by
  unfold putS
  have e1 : (N3 a).2.1 = a.2.1 := rfl
  have e2 : (N3 b).2.1 = b.2.1 := rfl
  rw [e1, e2]
  split
  · rfl
  · split
    · rfl
    · rw [N_put]; rfl
theorem N_delS (a : Int × Int × St) : N2 (delS a) = delS (N3 a) := by
  unfold delS
  have e1 : (N3 a).2.1 = a.2.1 := rfl
  rw [e1]
  split
  · rfl
  · rw [N_put]; rfl
theorem N_stopS (a : Int × Int × St) : N2 (stopS a) = stopS (N3 a) := by
  unfold stopS N2 N3
  simp only
  split <;> rfl
theorem setS_pos (k : Int) (r : Int × Int × St) : (setS k r).2.pos = r.2.2.pos := by
  unfold setS
  split
  · rfl
  · unfold setV
    repeat' split
    all_goals rfl
theorem setS_err (k : Int) (r : Int × Int × St) (h : (setS k r).1 = 0) : r.2.1 = 0 := by
  unfold setS at h
  split at h
  · rename_i hne; exact absurd h hne
  · rename_i hne; simpa using hne
theorem put_pos (s : St) (p : Int × Bool × Int) : (put s p).2.pos = s.pos := by
  unfold put
  repeat' split
  all_goals rfl
theorem putS_facts (a b : Int × Int × St) (h : (putS a b).1 = 0) : a.2.1 = 0 ∧ b.2.1 = 0 ∧ (putS a b).2.pos = b.2.2.pos := by
  unfold putS at h ⊢
  split at h
  · rename_i hne; exact absurd h hne
  · rename_i hne
    split at h
    · rename_i hne2; exact absurd h hne2
    · rename_i hne2
      rw [if_neg hne, if_neg hne2]
      exact ⟨by simpa using hne, by simpa using hne2, put_pos _ _⟩
theorem delS_facts (a : Int × Int × St) (h : (delS a).1 = 0) : a.2.1 = 0 ∧ (delS a).2.pos = a.2.2.pos := by
  unfold delS at h ⊢
  split at h
  · rename_i hne; exact absurd h hne
  · rename_i hne
    rw [if_neg hne]
    exact ⟨by simpa using hne, put_pos _ _⟩
theorem stopS_stop (a : Int × Int × St) (h : (stopS a).1 = 0) : (stopS a).2.stopped = true := by
  unfold stopS at h ⊢
  split at h
  · rename_i hne; exact absurd h hne
  · rename_i hne; rw [if_neg hne]

/-- what the two ways have in common: the error, the state but for its place; and the place, where it goes on. -/
def Meets (t : Int × St) (r : Int × St) (p : Nat) : Prop := t = N2 r ∧ (r.1 = 0 → r.2.stopped = false → r.2.pos = p)

theorem ex_here {E : En} {s : St} (hf : Fit E s) {e : Ex} {rest : List Tok} (hok : e.Ok) (hh : Here E s.pos (e.flat ++ rest)) :
    texpr E e (N s) = N3 (expr E E.fuel s) ∧ ((expr E E.fuel s).2.1 = 0 → (expr E E.fuel s).2.2.pos = s.pos + e.flat.length) ∧ Fit E (expr E E.fuel s).2.2 := by
  obtain ⟨h1, h2⟩ := expr_tree E e s rest E.fuel hok hh (by omega) hf
  exact ⟨h1, h2, (expr_fit E E.fuel s hf).1⟩

def headK : Sm → Int
  | .set _ _ => 11
  | .put _ _ => 12
  | .del _ => 13
  | .stop _ => 16
  | .fail => 17
  | .ite _ _ _ => 14
  | .whl _ _ => 15
def restT : Sm → List Tok
  | .set v e => v :: e.flat
  | .put a b => a.flat ++ b.flat
  | .del a => a.flat
  | .stop a => a.flat
  | .fail => []
  | .ite e a b => e.flat ++ ([123] :: (a.flat ++ ([125] :: [123] :: (b.flat ++ [[125]]))))
  | .whl e a => e.flat ++ ([123] :: (a.flat ++ [[125]]))
theorem flat_head (m : Sm) : ∃ t, kind t = headK m ∧ m.flat = t :: restT m := by
  cases m with
  | set v e => exact ⟨[115, 101, 116], (by show kind [115, 101, 116] = 11; decide), by simp [Sm.flat, restT]⟩
  | put a b => exact ⟨[112, 117, 116], (by show kind [112, 117, 116] = 12; decide), by simp [Sm.flat, restT]⟩
  | del a => exact ⟨[100, 101, 108], (by show kind [100, 101, 108] = 13; decide), by simp [Sm.flat, restT]⟩
  | stop a => exact ⟨[115, 116, 111, 112], (by show kind [115, 116, 111, 112] = 16; decide), by simp [Sm.flat, restT]⟩
  | fail => exact ⟨[102, 97, 105, 108], (by show kind [102, 97, 105, 108] = 17; decide), by simp [Sm.flat, restT]⟩
  | ite e a b => exact ⟨[105, 102], (by show kind [105, 102] = 14; decide), by simp [Sm.flat, restT]⟩
  | whl e a => exact ⟨[119, 104, 105, 108, 101], (by show kind [119, 104, 105, 108, 101] = 15; decide), by simp [Sm.flat, restT]⟩
theorem headK_bd (m : Sm) : 11 ≤ headK m ∧ headK m ≤ 17 := by cases m <;> simp [headK]

/-- what ends a row of statements. -/
def Ends (rest : List Tok) (k : Nat) : Prop := (rest = [] ∧ k = 0) ∨ ((∃ r, rest = [125] :: r) ∧ k = 1)

theorem stmt_out (E : En) (n : Nat) (k : Int) (s : St) (h15 : k ≠ 15) (hu : E.fuel ≤ s.used) : stmt E (n + 1) k s = (10, s) := by rw [stmt_succ, if_neg h15, if_pos hu]
theorem stmt_11 (E : En) (n : Nat) (s : St) (hu : ¬ E.fuel ≤ s.used) : stmt E (n + 1) 11 s = setS (tok E s).2 (expr E E.fuel (adv E (use s))) := by rw [stmt_succ, if_neg (by decide), if_neg hu, if_pos rfl]
theorem stmt_12 (E : En) (n : Nat) (s : St) (hu : ¬ E.fuel ≤ s.used) : stmt E (n + 1) 12 s = putS (expr E E.fuel (use s)) (expr E E.fuel (expr E E.fuel (use s)).2.2) := by rw [stmt_succ, if_neg (by decide), if_neg hu, if_neg (by decide), if_pos rfl]
theorem stmt_13 (E : En) (n : Nat) (s : St) (hu : ¬ E.fuel ≤ s.used) : stmt E (n + 1) 13 s = delS (expr E E.fuel (use s)) := by rw [stmt_succ, if_neg (by decide), if_neg hu, if_neg (by decide), if_neg (by decide), if_pos rfl]
theorem stmt_14 (E : En) (n : Nat) (s : St) (hu : ¬ E.fuel ≤ s.used) : stmt E (n + 1) 14 s = chooseS E n (expr E E.fuel (use s)) := by rw [stmt_succ, if_neg (by decide), if_neg hu, if_neg (by decide), if_neg (by decide), if_neg (by decide), if_pos rfl]
theorem stmt_16 (E : En) (n : Nat) (s : St) (hu : ¬ E.fuel ≤ s.used) : stmt E (n + 1) 16 s = stopS (expr E E.fuel (use s)) := by rw [stmt_succ, if_neg (by decide), if_neg hu, if_neg (by decide), if_neg (by decide), if_neg (by decide), if_neg (by decide), if_pos rfl]
theorem stmt_17 (E : En) (n : Nat) (s : St) (hu : ¬ E.fuel ≤ s.used) : stmt E (n + 1) 17 s = (9, use s) := by rw [stmt_succ, if_neg (by decide), if_neg hu, if_neg (by decide), if_neg (by decide), if_neg (by decide), if_neg (by decide), if_neg (by decide)]
theorem stmt_15 (E : En) (n : Nat) (s : St) : stmt E (n + 1) 15 s = loop E n s.pos s := by rw [stmt_succ, if_pos rfl]

theorem tree_all (E : En) (n : Nat) :
    (∀ (b : Sms) (rest : List Tok) (k : Nat) (s : St), b.Ok → Ends rest k → Here E s.pos (b.flat ++ rest) → Fit E s → Meets (tstmts E n b (N s)) (stmts E n s) (s.pos + b.flat.length + k)) ∧
    (∀ (m : Sm) (rest : List Tok) (s : St), m.Ok → s.stopped = false → Here E s.pos (restT m ++ rest) → Fit E s → Meets (tstmt E n m (N s)) (stmt E n (headK m) s) (s.pos + (restT m).length)) ∧
    (∀ (e : Ex) (b : Sms) (rest : List Tok) (p : Nat) (s : St), e.Ok → b.Ok → Here E p (e.flat ++ ([123] :: (b.flat ++ ([125] :: rest)))) → Fit E s → Meets (tloop E n e b (N s)) (loop E n p s) (p + e.flat.length + b.flat.length + 2)) := by
  induction n with
  | zero =>
    refine ⟨fun b rest k s _ _ _ _ => ?_, fun m rest s _ _ _ _ => ?_, fun e b rest p s _ _ _ _ => ?_⟩
    · rw [tstmts, stmts]; exact ⟨rfl, fun h => by simp at h⟩
    · rw [tstmt, stmt]; exact ⟨rfl, fun h => by simp at h⟩
    · rw [tloop, loop]; exact ⟨rfl, fun h => by simp at h⟩
  | succ n ih =>
    obtain ⟨i1, i2, i3⟩ := ih
    refine ⟨fun b rest k s hok hend hh hf => ?_, fun m rest s hok hst hh hf => ?_, fun e b rest p s oke okb hh hf => ?_⟩
    · rw [stmts_succ]
      by_cases hs : s.stopped = true
      · rw [if_pos hs]
        cases b with
        | nil => rw [tstmts]; exact ⟨rfl, fun _ h => by simp only at h; rw [hs] at h; cases h⟩
        | cons m r => rw [tstmts, if_pos (by exact hs)]; exact ⟨rfl, fun _ h => by simp only at h; rw [hs] at h; cases h⟩
      · rw [if_neg hs]
        have hs' : s.stopped = false := by simpa using hs
        cases b with
        | nil =>
          rw [tstmts]
          have hh' : Here E s.pos rest := by simpa [Sms.flat] using hh
          rcases hend with ⟨rfl, rfl⟩ | ⟨⟨r, rfl⟩, rfl⟩
          · have hlen : E.tk.length ≤ s.pos := by
              have := congrArg List.length hh'
              simp at this
              omega
            have ht : tok E s = (0, 0) := by unfold tok; rw [List.getElem?_eq_none hlen]; rfl
            have ha : adv E s = s := by unfold adv; rw [if_neg (by omega)]
            rw [ht, if_pos (.inr rfl), ha]
            exact ⟨rfl, fun _ _ => by simp [Sms.flat]⟩
          · obtain ⟨ht, hp, -⟩ := hh'.head
            have ht' : (tok E s).1 = 19 := by rw [ht]; exact k_close
            rw [if_pos (.inl ht')]
            refine ⟨by unfold N2; simp only [N_adv], fun _ _ => ?_⟩
            simp only [hp, Sms.flat, List.length_nil]
        | cons m r =>
          obtain ⟨t, hk, hfl⟩ := flat_head m
          have e1 : (Sms.cons m r).flat = t :: (restT m ++ r.flat) := by simp [Sms.flat, hfl]
          have hlen : (Sms.cons m r).flat.length = (restT m).length + r.flat.length + 1 := by rw [e1]; simp
          have hh' : Here E s.pos (t :: (restT m ++ (r.flat ++ rest))) := by
            rw [e1] at hh
            simpa using hh
          obtain ⟨ht, hp, h1⟩ := hh'.head
          have hkk : (tok E s).1 = headK m := by rw [ht]; exact hk
          have hb := headK_bd m
          rw [hkk, if_neg (by omega), tstmts, if_neg (by exact hs)]
          have hadv : (adv E s).stopped = false := (Same.adv E s).stopped.trans hs'
          obtain ⟨j1, j2⟩ := i2 m (r.flat ++ rest) (adv E s) hok.1 hadv (by rw [hp]; exact h1) hf.adv
          rw [N_adv] at j1
          have hup := ((run_up E n).2.1 (headK m) (adv E s) hf.adv).1.1
          have e2 : (tstmt E n m (N s)).1 = (stmt E n (headK m) (adv E s)).1 := by rw [j1]; rfl
          have e3 : (tstmt E n m (N s)).2 = N (stmt E n (headK m) (adv E s)).2 := by rw [j1]; rfl
          unfold onward
          by_cases h0 : (stmt E n (headK m) (adv E s)).1 = 0
          · rw [if_neg (by rw [e2]; simpa using h0), if_neg (by simpa using h0), e3]
            by_cases hs2 : (stmt E n (headK m) (adv E s)).2.stopped = true
            · -- the source was told to stop
              have q1 : ∀ n, stmts E n (stmt E n (headK m) (adv E s)).2 = stmts E n (stmt E n (headK m) (adv E s)).2 := fun _ => rfl
              cases n with
              | zero => rw [tstmts, stmts]; exact ⟨rfl, fun h => by simp at h⟩
              | succ n =>
                rw [stmts_succ, if_pos hs2]
                cases r with
                | nil => rw [tstmts]; exact ⟨rfl, fun _ h => by simp only at h; rw [hs2] at h; cases h⟩
                | cons m' r' => rw [tstmts, if_pos (by exact hs2)]; exact ⟨rfl, fun _ h => by simp only at h; rw [hs2] at h; cases h⟩
            · have hpos := j2 h0 (by simpa using hs2)
              have hh2 : Here E (stmt E n (headK m) (adv E s)).2.pos (r.flat ++ rest) := by
                rw [hpos, hp]
                exact h1.app
              obtain ⟨l1, l2⟩ := i1 r rest k _ hok.2 hend hh2 hup
              refine ⟨l1, fun a b => ?_⟩
              rw [l2 a b, hpos, hp, hlen]
              omega
          · rw [if_pos (by rw [e2]; exact h0), if_pos h0, j1]
            exact ⟨rfl, fun a => absurd a h0⟩
    · cases m with
      | whl e b =>
        rw [tstmt]
        have hk : headK (.whl e b) = 15 := rfl
        rw [hk, stmt_15]
        have hh' : Here E s.pos (e.flat ++ ([123] :: (b.flat ++ ([125] :: rest)))) := by simpa [restT] using hh
        obtain ⟨j1, j2⟩ := i3 e b rest s.pos s hok.1 hok.2 hh' hf
        refine ⟨j1, fun a b => ?_⟩
        rw [j2 a b]
        simp [restT]; omega
      | set v e =>
        have hk : headK (.set v e) = 11 := rfl
        rw [hk, tstmt]
        by_cases hu : E.fuel ≤ s.used
        · rw [stmt_out E n _ s (by decide) hu, if_pos (by exact hu)]; exact ⟨rfl, fun h => by simp at h⟩
        · rw [stmt_11 E n s hu, if_neg (by exact hu)]
          have hh' : Here E s.pos (v :: (e.flat ++ rest)) := by simpa [restT] using hh
          obtain ⟨ht, -, h1⟩ := hh'.head
          have hp := adv_use_pos hh'
          obtain ⟨x1, x2, -⟩ := ex_here ((hf.use (by omega)).adv) hok.2 (by rw [hp]; exact h1)
          rw [N_adv, N_use] at x1
          rw [x1, ht, ← N_setS]
          refine ⟨rfl, fun a _ => ?_⟩
          rw [setS_pos, x2 (setS_err _ _ a), hp]
          simp [restT]; omega
      | put a b =>
        have hk : headK (.put a b) = 12 := rfl
        rw [hk, tstmt]
        by_cases hu : E.fuel ≤ s.used
        · rw [stmt_out E n _ s (by decide) hu, if_pos (by exact hu)]; exact ⟨rfl, fun h => by simp at h⟩
        · rw [stmt_12 E n s hu, if_neg (by exact hu)]
          have hh' : Here E (use s).pos (a.flat ++ (b.flat ++ rest)) := by show Here E s.pos _; simpa [restT] using hh
          obtain ⟨x1, x2, x3⟩ := ex_here (hf.use (by omega)) hok.1 hh'
          rw [N_use] at x1
          rw [x1]
          have e1 : (N3 (expr E E.fuel (use s))).2.2 = N (expr E E.fuel (use s)).2.2 := rfl
          rw [e1]
          by_cases ha : (expr E E.fuel (use s)).2.1 = 0
          · obtain ⟨y1, y2, -⟩ := ex_here x3 hok.2 (rest := rest) (by rw [x2 ha]; exact hh'.app)
            rw [y1, ← N_putS]
            refine ⟨rfl, fun h0 _ => ?_⟩
            obtain ⟨-, p2, p3⟩ := putS_facts _ _ h0
            rw [p3, y2 p2, x2 ha]
            show s.pos + _ + _ = _
            simp [restT]; omega
          · have q1 : ∀ z, putS (N3 (expr E E.fuel (use s))) z = N2 ((expr E E.fuel (use s)).2.1, (expr E E.fuel (use s)).2.2) := fun z => by
              unfold putS
              rw [if_pos (by exact ha)]; rfl
            have q2 : ∀ z, putS (expr E E.fuel (use s)) z = ((expr E E.fuel (use s)).2.1, (expr E E.fuel (use s)).2.2) := fun z => by
              unfold putS
              rw [if_pos ha]
            rw [q1, q2]
            exact ⟨rfl, fun h0 => absurd h0 ha⟩
      | del a =>
        have hk : headK (.del a) = 13 := rfl
        rw [hk, tstmt]
        by_cases hu : E.fuel ≤ s.used
        · rw [stmt_out E n _ s (by decide) hu, if_pos (by exact hu)]; exact ⟨rfl, fun h => by simp at h⟩
        · rw [stmt_13 E n s hu, if_neg (by exact hu)]
          have hh' : Here E (use s).pos (a.flat ++ rest) := by show Here E s.pos _; simpa [restT] using hh
          obtain ⟨x1, x2, -⟩ := ex_here (hf.use (by omega)) hok hh'
          rw [N_use] at x1
          rw [x1, ← N_delS]
          refine ⟨rfl, fun h0 _ => ?_⟩
          obtain ⟨p1, p2⟩ := delS_facts _ h0
          rw [p2, x2 p1]
          show s.pos + _ = _
          simp [restT]
      | stop a =>
        have hk : headK (.stop a) = 16 := rfl
        rw [hk, tstmt]
        by_cases hu : E.fuel ≤ s.used
        · rw [stmt_out E n _ s (by decide) hu, if_pos (by exact hu)]; exact ⟨rfl, fun h => by simp at h⟩
        · rw [stmt_16 E n s hu, if_neg (by exact hu)]
          have hh' : Here E (use s).pos (a.flat ++ rest) := by show Here E s.pos _; simpa [restT] using hh
          obtain ⟨x1, -, -⟩ := ex_here (hf.use (by omega)) hok hh'
          rw [N_use] at x1
          rw [x1, ← N_stopS]
          exact ⟨rfl, fun h0 h1 => by rw [stopS_stop _ h0] at h1; cases h1⟩
      | fail =>
        have hk : headK .fail = 17 := rfl
        rw [hk, tstmt]
        by_cases hu : E.fuel ≤ s.used
        · rw [stmt_out E n _ s (by decide) hu, if_pos (by exact hu)]; exact ⟨rfl, fun h => by simp at h⟩
        · rw [stmt_17 E n s hu, if_neg (by exact hu)]
          exact ⟨rfl, fun h => by simp at h⟩
      | ite e a b =>
        have hk : headK (.ite e a b) = 14 := rfl
        rw [hk, tstmt]
        by_cases hu : E.fuel ≤ s.used
        · rw [stmt_out E n _ s (by decide) hu, if_pos (by exact hu)]; exact ⟨rfl, fun h => by simp at h⟩
        · rw [stmt_14 E n s hu, if_neg (by exact hu)]
          have hh' : Here E (use s).pos (e.flat ++ ([123] :: (a.flat ++ ([125] :: ([123] :: (b.flat ++ ([125] :: rest))))))) := by show Here E s.pos _; simpa [restT] using hh
          obtain ⟨x1, x2, x3⟩ := ex_here (hf.use (by omega)) hok.1 hh'
          rw [N_use] at x1
          rw [x1]
          unfold chooseS
          have e1 : (N3 (expr E E.fuel (use s))).2.1 = (expr E E.fuel (use s)).2.1 := rfl
          have e2 : (N3 (expr E E.fuel (use s))).1 = (expr E E.fuel (use s)).1 := rfl
          have e3 : (N3 (expr E E.fuel (use s))).2.2 = N (expr E E.fuel (use s)).2.2 := rfl
          rw [e1, e2, e3]
          by_cases h0 : (expr E E.fuel (use s)).2.1 = 0
          · have nz : ¬ ((expr E E.fuel (use s)).2.1 ≠ 0) := by simpa using h0
            rw [if_neg nz, if_neg nz]
            have hq := x2 h0
            have hA : Here E (expr E E.fuel (use s)).2.2.pos ([123] :: (a.flat ++ ([125] :: ([123] :: (b.flat ++ ([125] :: rest)))))) := by rw [hq]; exact hh'.app
            by_cases hz : (expr E E.fuel (use s)).1 = 0
            · rw [if_pos hz, if_pos hz]
              have hsk := skip_block (Sms.even a hok.2.1) hA
              have hB : Here E (skip E (expr E E.fuel (use s)).2.2).pos ([123] :: (b.flat ++ ([125] :: rest))) := by
                rw [hsk]
                have h2 : Here E ((expr E E.fuel (use s)).2.2.pos + ([123] :: (a.flat ++ [[125]])).length) ([123] :: (b.flat ++ ([125] :: rest))) := Here.app (by simpa using hA)
                have e4 : (atp (expr E E.fuel (use s)).2.2 ((expr E E.fuel (use s)).2.2.pos + a.flat.length + 2)).pos = (expr E E.fuel (use s)).2.2.pos + ([123] :: (a.flat ++ [[125]])).length := by simp [atp]; omega
                rw [e4]; exact h2
              obtain ⟨-, hp, h3⟩ := hB.head
              obtain ⟨l1, l2⟩ := i1 b ([125] :: rest) 1 (adv E (skip E (expr E E.fuel (use s)).2.2)) hok.2.2 (.inr ⟨⟨rest, rfl⟩, rfl⟩) (by rw [hp]; exact h3) x3.skip.adv
              rw [N_adv, hsk, N_atp] at l1
              refine ⟨by rw [l1, hsk], fun c d => ?_⟩
              rw [l2 c d, hp, hsk]
              show (expr E E.fuel (use s)).2.2.pos + a.flat.length + 2 + 1 + b.flat.length + 1 = _
              rw [hq]
              show s.pos + _ + _ + 2 + 1 + _ + 1 = _
              simp [restT]; omega
            · rw [if_neg hz, if_neg hz]
              obtain ⟨-, hp, h3⟩ := hA.head
              obtain ⟨l1, l2⟩ := i1 a ([125] :: ([123] :: (b.flat ++ ([125] :: rest)))) 1 (adv E (expr E E.fuel (use s)).2.2) hok.2.1 (.inr ⟨⟨_, rfl⟩, rfl⟩) (by rw [hp]; exact h3) x3.adv
              rw [N_adv] at l1
              have hup := ((run_up E n).1 (adv E (expr E E.fuel (use s)).2.2) x3.adv).1
              have hsame := (skip_fit E (E.tk.length + 1) 0 _ hup).2.1
              have hN : N (skip E (stmts E n (adv E (expr E E.fuel (use s)).2.2)).2) = N (stmts E n (adv E (expr E E.fuel (use s)).2.2)).2 := by
                have hu2 := (skip_fit E (E.tk.length + 1) 0 _ hup).2.2
                unfold N skip
                simp only [hsame.v0, hsame.v1, hsame.v2, hsame.v3, hsame.writes, hsame.stopped, hsame.result, hu2]
              refine ⟨by rw [l1]; unfold N2; simp only [hN], fun c d => ?_⟩
              have hst2 : (stmts E n (adv E (expr E E.fuel (use s)).2.2)).2.stopped = false := by
                have := hsame.stopped
                simp only at d
                unfold skip at d
                rw [this] at d
                exact d
              have hpp := l2 c hst2
              have hB : Here E (stmts E n (adv E (expr E E.fuel (use s)).2.2)).2.pos ([123] :: (b.flat ++ ([125] :: rest))) := by
                rw [hpp, hp]
                have h2 : Here E ((expr E E.fuel (use s)).2.2.pos + ([123] :: (a.flat ++ [[125]])).length) ([123] :: (b.flat ++ ([125] :: rest))) := Here.app (by simpa using hA)
                have e4 : (expr E E.fuel (use s)).2.2.pos + 1 + a.flat.length + 1 = (expr E E.fuel (use s)).2.2.pos + ([123] :: (a.flat ++ [[125]])).length := by simp; omega
                rw [e4]; exact h2
              have hsk := skip_block (Sms.even b hok.2.2) hB
              show (skip E (stmts E n (adv E (expr E E.fuel (use s)).2.2)).2).pos = _
              rw [hsk]
              show (stmts E n (adv E (expr E E.fuel (use s)).2.2)).2.pos + b.flat.length + 2 = _
              rw [hpp, hp, hq]
              show s.pos + _ + 1 + _ + 1 + _ + 2 = _
              simp [restT]; omega
          · rw [if_pos h0, if_pos h0]
            exact ⟨rfl, fun c => absurd c h0⟩
    · rw [loop_succ, tloop]
      by_cases hs : s.stopped = true
      · rw [if_pos hs, if_pos (by exact hs)]; exact ⟨rfl, fun _ h => by simp only at h; rw [hs] at h; cases h⟩
      · rw [if_neg hs, if_neg (by exact hs)]
        have hple : p ≤ E.tk.length := by
          rcases Nat.lt_or_ge E.tk.length p with h1 | h1
          · exfalso
            unfold Here at hh
            rw [List.drop_eq_nil_of_le (by omega)] at hh
            have := congrArg List.length hh
            simp at this
          · exact h1
        by_cases hu : E.fuel ≤ s.used
        · rw [if_pos hu, if_pos (by exact hu)]; exact ⟨rfl, fun h => by simp at h⟩
        · rw [if_neg hu, if_neg (by exact hu)]
          have hf1 : Fit E (use { s with pos := p }) := (hf.at p hple).use (by show s.used < _; omega)
          have hh' : Here E (use { s with pos := p }).pos (e.flat ++ ([123] :: (b.flat ++ ([125] :: rest)))) := hh
          obtain ⟨x1, x2, x3⟩ := ex_here hf1 oke hh'
          have eN : N (use { s with pos := p }) = use (N s) := rfl
          rw [eN] at x1
          rw [x1]
          unfold whileS
          have e1 : (N3 (expr E E.fuel (use { s with pos := p }))).2.1 = (expr E E.fuel (use { s with pos := p })).2.1 := rfl
          have e2 : (N3 (expr E E.fuel (use { s with pos := p }))).1 = (expr E E.fuel (use { s with pos := p })).1 := rfl
          have e3 : (N3 (expr E E.fuel (use { s with pos := p }))).2.2 = N (expr E E.fuel (use { s with pos := p })).2.2 := rfl
          rw [e1, e2, e3]
          by_cases h0 : (expr E E.fuel (use { s with pos := p })).2.1 = 0
          · have nz : ¬ ((expr E E.fuel (use { s with pos := p })).2.1 ≠ 0) := by simpa using h0
            rw [if_neg nz, if_neg nz]
            have hq := x2 h0
            have hA : Here E (expr E E.fuel (use { s with pos := p })).2.2.pos ([123] :: (b.flat ++ ([125] :: rest))) := by rw [hq]; exact hh'.app
            by_cases hz : (expr E E.fuel (use { s with pos := p })).1 = 0
            · rw [if_pos hz, if_pos hz, skip_block (Sms.even b okb) hA]
              refine ⟨rfl, fun _ _ => ?_⟩
              show (expr E E.fuel (use { s with pos := p })).2.2.pos + b.flat.length + 2 = _
              rw [hq]
              rfl
            · rw [if_neg hz, if_neg hz]
              obtain ⟨-, hp, h3⟩ := hA.head
              obtain ⟨l1, l2⟩ := i1 b ([125] :: rest) 1 (adv E (expr E E.fuel (use { s with pos := p })).2.2) okb (.inr ⟨⟨_, rfl⟩, rfl⟩) (by rw [hp]; exact h3) x3.adv
              rw [N_adv] at l1
              have hup := ((run_up E n).1 (adv E (expr E E.fuel (use { s with pos := p })).2.2) x3.adv).1
              rw [l1]
              unfold back
              have g1 : (N2 (stmts E n (adv E (expr E E.fuel (use { s with pos := p })).2.2))).1 = (stmts E n (adv E (expr E E.fuel (use { s with pos := p })).2.2)).1 := rfl
              have g2 : (N2 (stmts E n (adv E (expr E E.fuel (use { s with pos := p })).2.2))).2 = N (stmts E n (adv E (expr E E.fuel (use { s with pos := p })).2.2)).2 := rfl
              rw [g1, g2]
              by_cases hb : (stmts E n (adv E (expr E E.fuel (use { s with pos := p })).2.2)).1 = 0
              · have nz2 : ¬ ((stmts E n (adv E (expr E E.fuel (use { s with pos := p })).2.2)).1 ≠ 0) := by simpa using hb
                rw [if_neg nz2, if_neg nz2]
                exact i3 e b rest p _ oke okb hh hup
              · rw [if_pos hb, if_pos hb]
                exact ⟨rfl, fun c => absurd c hb⟩
          · rw [if_pos h0, if_pos h0]
            exact ⟨rfl, fun c => absurd c h0⟩
end Rn
end Go.Proofs.YtellilpeakpbfabGreatDoor

end
