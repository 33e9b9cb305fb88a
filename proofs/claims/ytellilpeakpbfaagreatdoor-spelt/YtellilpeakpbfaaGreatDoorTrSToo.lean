import Derived.Test.YtellilpeakpbfaaGreatDoorTrEToo
import Derived.Test.YtellilpeakpbfaaGreatDoorRnKToo
/-
  Trees that are worked out: statements; no Go text.
-/
namespace Go.Proofs.YtellilpeakpbfaaGreatDoor
open Go.RowKit
namespace Rn
open Tr

def atp (s : St) (p : Nat) : St := { s with pos := p }
theorem N_atp (s : St) (p : Nat) : N (atp s p) = N s := rfl
theorem adv_atp {E : En} {s : St} {t : Tok} {l : List Tok} (h : Here E s.pos (t :: l)) : adv E s = atp s (s.pos + 1) := by
  have := h.head.2.1
  unfold adv at this ⊢
  split at this
  · rename_i hl; rw [if_pos hl]; rfl
  · omega
/-- tokens that leave the depth as it was. -/
def Even (l : List Tok) : Prop := ∀ (E : En) (d : Int) (n : Nat) (s : St) (rest : List Tok), 1 ≤ d → Here E s.pos (l ++ rest) → skipGo E (n + l.length) d s = skipGo E n d (atp s (s.pos + l.length))
theorem Even.nil : Even [] := fun _ _ _ _ _ _ _ => rfl
theorem Even.one (t : Tok) (h : kind t ≠ 18) (h2 : kind t ≠ 19) : Even [t] := by
  intro E d n s rest hd hh
  have hh' : Here E s.pos (t :: rest) := hh
  obtain ⟨ht, -, -⟩ := hh'.head
  have hl : s.pos < E.tk.length := by
    rcases Nat.lt_or_ge s.pos E.tk.length with h1 | h1
    · exact h1
    · unfold Here at hh'; rw [List.drop_eq_nil_of_le h1] at hh'; simp at hh'
  show skipGo E (n + 1) d s = _
  rw [skip_succ, if_pos hl]
  have hd' : deep E s d = d := by
    unfold deep
    rw [ht]
    exact (if_neg h).trans (if_neg h2)
  rw [hd', if_neg (by omega), adv_atp hh']
  rfl
theorem Even.app {a b : List Tok} (ha : Even a) (hb : Even b) : Even (a ++ b) := by
  intro E d n s rest hd hh
  rw [List.append_assoc] at hh
  rw [List.length_append, show n + (a.length + b.length) = (n + b.length) + a.length by omega, ha E d _ s (b ++ rest) hd hh, hb E d n _ rest hd (by exact hh.app)]
  congr 1
  unfold atp
  simp; omega
theorem Even.cons {t : Tok} {l : List Tok} (h : kind t ≠ 18) (h2 : kind t ≠ 19) (hl : Even l) : Even (t :: l) := Even.app (a := [t]) (Even.one t h h2) hl
theorem pos_lt {E : En} {p : Nat} {t : Tok} {l : List Tok} (h : Here E p (t :: l)) : p < E.tk.length := by
  rcases Nat.lt_or_ge p E.tk.length with h1 | h1
  · exact h1
  · unfold Here at h; rw [List.drop_eq_nil_of_le h1] at h; simp at h
theorem k_open : kind [123] = 18 := by decide
theorem k_close : kind [125] = 19 := by decide
theorem Even.block {l : List Tok} (hl : Even l) : Even ([123] :: (l ++ [[125]])) := by
  intro E d n s rest hd hh
  have e : ([123] :: (l ++ [[125]])) ++ rest = [123] :: (l ++ ([125] :: rest)) := by simp
  rw [e] at hh
  obtain ⟨ht, -, h1⟩ := hh.head
  have ht' : (tok E s).1 = 18 := by rw [ht]; exact k_open
  rw [show n + ([123] :: (l ++ [[125]])).length = ((n + 1) + l.length) + 1 by simp; omega, skip_succ, if_pos (pos_lt hh)]
  have hd' : deep E s d = d + 1 := by unfold deep; rw [if_pos ht']
  rw [hd', if_neg (by omega), adv_atp hh, hl E (d + 1) (n + 1) (atp s (s.pos + 1)) ([125] :: rest) (by omega) h1]
  have h2 : Here E (atp (atp s (s.pos + 1)) ((atp s (s.pos + 1)).pos + l.length)).pos ([125] :: rest) := Here.app h1
  obtain ⟨hu, -, -⟩ := h2.head
  have hu' : (tok E (atp (atp s (s.pos + 1)) ((atp s (s.pos + 1)).pos + l.length))).1 = 19 := by rw [hu]; exact k_close
  rw [skip_succ, if_pos (pos_lt h2)]
  have hd2 : deep E (atp (atp s (s.pos + 1)) ((atp s (s.pos + 1)).pos + l.length)) (d + 1) = d := by unfold deep; rw [hu', if_neg (by decide), if_pos rfl]; omega
  rw [hd2, if_neg (by omega), adv_atp h2]
  congr 1
  unfold atp
  simp; omega
theorem Ex.even (e : Ex) : e.Ok → Even e.flat := by
  induction e with
  | leaf t => intro h; exact Even.one t (by have : kind t = 1 ∨ kind t = 2 ∨ kind t = 3 := h; omega) (by have : kind t = 1 ∨ kind t = 2 ∨ kind t = 3 := h; omega)
  | un t e ih => intro h; exact Even.cons (by have := h.1; omega) (by have := h.1; omega) (ih h.2)
  | bin t a b iha ihb => intro h; exact Even.cons (by have := h.1; omega) (by have := h.1; omega) (Even.app (iha h.2.1) (ihb h.2.2))
mutual
theorem Sm.even : (m : Sm) → m.Ok → Even m.flat
  | .set v e, h => Even.cons (by decide) (by decide) (Even.cons (by have := h.1; omega) (by have := h.1; omega) (Ex.even e h.2))
  | .put a b, h => Even.cons (by decide) (by decide) (Even.app (Ex.even a h.1) (Ex.even b h.2))
  | .del a, h => Even.cons (by decide) (by decide) (Ex.even a h)
  | .stop a, h => Even.cons (by decide) (by decide) (Ex.even a h)
  | .fail, _ => Even.one _ (by decide) (by decide)
  | .ite e a b, h => by
    have e1 : (Sm.ite e a b).flat = [105, 102] :: (e.flat ++ (([123] :: (a.flat ++ [[125]])) ++ ([123] :: (b.flat ++ [[125]])))) := by simp [Sm.flat]
    rw [e1]
    exact Even.cons (by decide) (by decide) (Even.app (Ex.even e h.1) (Even.app (Even.block (Sms.even a h.2.1)) (Even.block (Sms.even b h.2.2))))
  | .whl e a, h => by
    have e1 : (Sm.whl e a).flat = [119, 104, 105, 108, 101] :: (e.flat ++ ([123] :: (a.flat ++ [[125]]))) := by simp [Sm.flat]
    rw [e1]
    exact Even.cons (by decide) (by decide) (Even.app (Ex.even e h.1) (Even.block (Sms.even a h.2)))
theorem Sms.even : (b : Sms) → b.Ok → Even b.flat
  | .nil, _ => Even.nil
  | .cons m r, h => by
    have e1 : (Sms.cons m r).flat = m.flat ++ r.flat := by simp [Sms.flat]
    rw [e1]
    exact Even.app (Sm.even m h.1) (Sms.even r h.2)
end

/-- past a block. -/
theorem skip_block {E : En} {s : St} {l rest : List Tok} (hl : Even l) (hh : Here E s.pos ([123] :: (l ++ ([125] :: rest)))) : skip E s = atp s (s.pos + l.length + 2) := by
  obtain ⟨ht, -, h1⟩ := hh.head
  have ht' : (tok E s).1 = 18 := by rw [ht]; exact k_open
  have hlen : s.pos + l.length + 2 ≤ E.tk.length := by
    have := congrArg List.length hh
    simp at this
    omega
  unfold skip
  obtain ⟨n, hn⟩ : ∃ n, E.tk.length + 1 = ((n + 1) + l.length) + 1 := ⟨E.tk.length - l.length - 1, by omega⟩
  rw [hn, skip_succ, if_pos (pos_lt hh)]
  have hd' : deep E s 0 = 1 := by unfold deep; rw [if_pos ht']; rfl
  rw [hd', if_neg (by omega), adv_atp hh, hl E 1 (n + 1) (atp s (s.pos + 1)) ([125] :: rest) (by omega) h1]
  have h2 : Here E (atp (atp s (s.pos + 1)) ((atp s (s.pos + 1)).pos + l.length)).pos ([125] :: rest) := Here.app h1
  obtain ⟨hu, -, -⟩ := h2.head
  have hu' : (tok E (atp (atp s (s.pos + 1)) ((atp s (s.pos + 1)).pos + l.length))).1 = 19 := by rw [hu]; exact k_close
  rw [skip_succ, if_pos (pos_lt h2)]
  have hd2 : deep E (atp (atp s (s.pos + 1)) ((atp s (s.pos + 1)).pos + l.length)) 1 = 0 := by unfold deep; rw [hu', if_neg (by decide), if_pos rfl]; rfl
  rw [hd2, if_pos rfl, adv_atp h2]
  unfold atp
  simp; omega

mutual
def tstmts (E : En) : Nat → Sms → St → Int × St
  | 0, _, s => (10, s)
  | _ + 1, .nil, s => (0, s)
  | n + 1, .cons m r, s => if s.stopped = true then (0, s) else if (tstmt E n m s).1 ≠ 0 then tstmt E n m s else tstmts E n r (tstmt E n m s).2
def tstmt (E : En) : Nat → Sm → St → Int × St
  | 0, _, s => (10, s)
  | n + 1, .whl e b, s => tloop E n e b s
  | _ + 1, .set v e, s => if E.fuel ≤ s.used then (10, s) else setS (Ck.tokenP v).2 (texpr E e (use s))
  | _ + 1, .put a b, s => if E.fuel ≤ s.used then (10, s) else putS (texpr E a (use s)) (texpr E b (texpr E a (use s)).2.2)
  | _ + 1, .del a, s => if E.fuel ≤ s.used then (10, s) else delS (texpr E a (use s))
  | _ + 1, .stop a, s => if E.fuel ≤ s.used then (10, s) else stopS (texpr E a (use s))
  | _ + 1, .fail, s => if E.fuel ≤ s.used then (10, s) else (9, use s)
  | n + 1, .ite e a b, s => if E.fuel ≤ s.used then (10, s) else
    if (texpr E e (use s)).2.1 ≠ 0 then ((texpr E e (use s)).2.1, (texpr E e (use s)).2.2) else
    if (texpr E e (use s)).1 = 0 then tstmts E n b (texpr E e (use s)).2.2 else tstmts E n a (texpr E e (use s)).2.2
def tloop (E : En) : Nat → Ex → Sms → St → Int × St
  | 0, _, _, s => (10, s)
  | n + 1, e, b, s => if s.stopped = true then (0, s) else if E.fuel ≤ s.used then (10, s) else
    if (texpr E e (use s)).2.1 ≠ 0 then ((texpr E e (use s)).2.1, (texpr E e (use s)).2.2) else
    if (texpr E e (use s)).1 = 0 then (0, (texpr E e (use s)).2.2) else
    if (tstmts E n b (texpr E e (use s)).2.2).1 ≠ 0 then tstmts E n b (texpr E e (use s)).2.2 else tloop E n e b (tstmts E n b (texpr E e (use s)).2.2).2
end
end Rn
end Go.Proofs.YtellilpeakpbfaaGreatDoor
