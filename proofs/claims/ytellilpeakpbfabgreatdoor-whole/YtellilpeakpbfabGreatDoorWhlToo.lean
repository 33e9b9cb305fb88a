import Derived.Test.YtellilpeakpbfabGreatDoorKpXToo
import Derived.Test.YtellilpeakpbfabGreatDoorOpenToo
section
/-
  The procedures of Alike, in plain words; no Go text.
-/
namespace Go.Proofs.YtellilpeakpbfabGreatDoor
open Go.RowKit
namespace Kp
open Tr (Tok Ex Sm Sms kind acc)

def aSrc : List UInt8 := [112, 117, 116, 32, 97, 48, 32, 97, 49]
def aTree : Sms := .cons (.put (.leaf [97, 48]) (.leaf [97, 49])) .nil
def bSrc : List UInt8 := [105, 102, 32, 97, 49, 32, 123, 32, 115, 116, 111, 112, 32, 64, 32, 97, 48, 32, 125, 32, 123, 32, 115, 116, 111, 112, 32, 35, 32, 97, 48, 32, 125]
def bTree : Sms := .cons (.ite (.leaf [97, 49]) (.cons (.stop (.un [64] (.leaf [97, 48]))) .nil) (.cons (.stop (.un [35] (.leaf [97, 48]))) .nil)) .nil
def cSrc : List UInt8 := [100, 101, 108, 32, 97, 48]
def cTree : Sms := .cons (.del (.leaf [97, 48])) .nil
theorem a_toks : Ck.toks aSrc = aTree.flat := by decide +kernel
theorem b_toks : Ck.toks bSrc = bTree.flat := by decide +kernel
theorem c_toks : Ck.toks cSrc = cTree.flat := by decide +kernel
theorem k_a0 : kind [97, 48] = 2 := by decide
theorem k_a1 : kind [97, 49] = 2 := by decide
theorem a_ok : aTree.Ok := ⟨⟨.inr (.inl k_a0), .inr (.inl k_a1)⟩, trivial⟩
theorem b_ok : bTree.Ok := by
  have d : kind [64] = 9 := by decide
  have e : kind [35] = 10 := by decide
  exact ⟨⟨.inr (.inl k_a1), ⟨⟨.inl d, .inr (.inl k_a0)⟩, trivial⟩, ⟨⟨.inr e, .inr (.inl k_a0)⟩, trivial⟩⟩, trivial⟩
theorem c_ok : cTree.Ok := ⟨.inr (.inl k_a0), trivial⟩
theorem a_read : Ck.read aSrc = (0, 0) := read_tree _ aTree a_ok a_toks (by decide)
theorem b_read : Ck.read bSrc = (0, 0) := read_tree _ bTree b_ok b_toks (by decide)
theorem c_read : Ck.read cSrc = (0, 0) := read_tree _ cTree c_ok c_toks (by decide)

/-- a run that ends well, by its tree. -/
theorem run_end (C : Jn.Con) (hok : Jn.Ok C) (src : List UInt8) (args : List Int) (fuel : Int) (b : Sms) (hb : b.Ok) (ht : Ck.toks src = b.flat) (hr : Ck.read src = (0, 0)) (hmay : Rn.may args fuel = true) (z : Rn.St)
    (h : Rn.tstmts (Rn.env C src args fuel) (3 * fuel.toNat + 3) b (sst 0 0 0) = (0, z)) : Rn.run C src args fuel = (z.result, (z.used : Int), z.writes, 0) := by
  have hr' : (Ck.read src).2 = 0 := by rw [hr]
  have htree := Rn.run_tree C src args fuel hok hr' hmay b hb ht
  have hrun := Rn.run_ok C src args fuel hr' hmay
  have e0 : Rn.start = sst 0 0 0 := rfl
  rw [e0, h] at htree
  rw [hrun, e0]
  have h1 : (Rn.stmts (Rn.env C src args fuel) (3 * fuel.toNat + 3) (sst 0 0 0)).1 = 0 := (congrArg Prod.fst htree).symm
  have h2 := congrArg Prod.snd htree
  generalize Rn.stmts (Rn.env C src args fuel) (3 * fuel.toNat + 3) (sst 0 0 0) = q at h1 h2
  rw [if_neg (by rw [h1]; simp)]
  have h3 : z = Rn.N q.2 := h2
  have r1 : z.result = q.2.result := by rw [h3]; rfl
  have r2 : z.used = q.2.used := by rw [h3]; rfl
  have r3 : z.writes = q.2.writes := by rw [h3]; rfl
  rw [r1, r2, r3]
theorem may_of (args : List Int) (fuel : Int) (h4 : args.length ≤ 4) (f0 : 0 ≤ fuel) (f1 : fuel ≤ 10000) (ha : ∀ a ∈ args, -1000000000 ≤ a ∧ a ≤ 1000000000) : Rn.may args fuel = true := by
  unfold Rn.may
  simp only [Bool.and_eq_true, decide_eq_true_eq, List.all_eq_true]
  refine ⟨⟨⟨h4, f0⟩, f1⟩, fun a h => ?_⟩
  unfold Rn.inb
  simpa using ha a h
theorem ts_cons (E : Rn.En) (g : Nat) (m : Sm) (r : Sms) (s z : Rn.St) (hs : s.stopped = false) (h : Rn.tstmt E g m s = (0, z)) : Rn.tstmts E (g + 1) (.cons m r) s = Rn.tstmts E g r z := by
  rw [Rn.tstmts, if_neg (by rw [hs]; simp), h, if_neg (by simp)]
theorem ts_nil (E : Rn.En) (g : Nat) (s : Rn.St) : Rn.tstmts E (g + 1) .nil s = (0, s) := by rw [Rn.tstmts]

/-- put a0 a1. -/
theorem a_run (C : Jn.Con) (hok : Jn.Ok C) (k : Nat) (v : Int) (hk : k ≤ 99) (hv : -1000000000 ≤ v ∧ v ≤ 1000000000) : Rn.run C aSrc [(k : Int), v] 3 = (0, 3, [((k : Int), true, v)], 0) := by
  have hmay := may_of [(k : Int), v] 3 (by simp) (by decide) (by decide) (by simp; omega)
  have hkey : Jn.isKey (k : Int) = true := by unfold Jn.isKey; simp; omega
  refine run_end C hok aSrc _ 3 aTree a_ok a_toks a_read hmay ⟨0, 0, 0, 0, 0, [((k : Int), true, v)], 3, false, 0⟩ ?_
  obtain ⟨E, hE⟩ : ∃ E, E = Rn.env C aSrc [(k : Int), v] 3 := ⟨_, rfl⟩
  have hf : E.fuel = 3 := by rw [hE]; rfl
  have h0 : Rn.arg E 0 = (k : Int) := by rw [hE]; rfl
  have h1 : Rn.arg E 1 = v := by rw [hE]; rfl
  rw [← hE]
  have p1 := tx_arg E (Rn.use (sst 0 0 0)) [97, 48] 0 (by decide) (by rw [hf]; decide)
  have p2 := tx_arg E (Rn.use (Rn.use (sst 0 0 0))) [97, 49] 1 (by decide) (by rw [hf]; decide)
  rw [h0] at p1
  rw [h1] at p2
  have s1 : Rn.tstmt E (9 + 1 + 1) (.put (.leaf [97, 48]) (.leaf [97, 49])) (sst 0 0 0) = (0, ⟨0, 0, 0, 0, 0, [((k : Int), true, v)], 3, false, 0⟩) := by
    rw [Rn.tstmt, if_neg (by rw [hf]; decide), p1]
    simp only
    rw [p2]
    unfold Rn.putS Rn.put
    simp [hkey, Rn.find, Rn.use, sst]
  show Rn.tstmts E (9 + 1 + 1 + 1) aTree _ = _
  unfold aTree
  rw [ts_cons E _ _ _ _ _ rfl s1, ts_nil]
/-- del a0. -/
theorem c_run (C : Jn.Con) (hok : Jn.Ok C) (k : Nat) (hk : k ≤ 99) : Rn.run C cSrc [(k : Int)] 2 = (0, 2, [((k : Int), false, 0)], 0) := by
  have hmay := may_of [(k : Int)] 2 (by simp) (by decide) (by decide) (by simp; omega)
  have hkey : Jn.isKey (k : Int) = true := by unfold Jn.isKey; simp; omega
  refine run_end C hok cSrc _ 2 cTree c_ok c_toks c_read hmay ⟨0, 0, 0, 0, 0, [((k : Int), false, 0)], 2, false, 0⟩ ?_
  obtain ⟨E, hE⟩ : ∃ E, E = Rn.env C cSrc [(k : Int)] 2 := ⟨_, rfl⟩
  have hf : E.fuel = 2 := by rw [hE]; rfl
  have h0 : Rn.arg E 0 = (k : Int) := by rw [hE]; rfl
  rw [← hE]
  have p1 := tx_arg E (Rn.use (sst 0 0 0)) [97, 48] 0 (by decide) (by rw [hf]; decide)
  rw [h0] at p1
  have s1 : Rn.tstmt E (6 + 1 + 1) (.del (.leaf [97, 48])) (sst 0 0 0) = (0, ⟨0, 0, 0, 0, 0, [((k : Int), false, 0)], 2, false, 0⟩) := by
    rw [Rn.tstmt, if_neg (by rw [hf]; decide), p1]
    unfold Rn.delS Rn.put
    simp [hkey, Rn.find, Rn.use, sst]
  show Rn.tstmts E (6 + 1 + 1 + 1) cTree _ = _
  unfold cTree
  rw [ts_cons E _ _ _ _ _ rfl s1, ts_nil]
/-- if a1 { stop @ a0 } { stop # a0 }. -/
theorem b_run (C : Jn.Con) (hok : Jn.Ok C) (k : Nat) (hk : k ≤ 99) (c : Int) (hc : c = 0 ∨ c = 1) :
    Rn.run C bSrc [(k : Int), c] 9 = (if c = 0 then Rn.oneIf (C.cells.getD k none).isSome else (C.cells.getD k none).getD 0, 5, [], 0) := by
  have hmay := may_of [(k : Int), c] 9 (by simp) (by decide) (by decide) (by simp; omega)
  have hkey : Jn.isKey (k : Int) = true := by unfold Jn.isKey; simp; omega
  refine run_end C hok bSrc _ 9 bTree b_ok b_toks b_read hmay ⟨0, 0, 0, 0, 0, [], 5, true, if c = 0 then Rn.oneIf (C.cells.getD k none).isSome else (C.cells.getD k none).getD 0⟩ ?_
  obtain ⟨E, hE⟩ : ∃ E, E = Rn.env C bSrc [(k : Int), c] 9 := ⟨_, rfl⟩
  have hf : E.fuel = 9 := by rw [hE]; rfl
  have hcon : E.con = C := by rw [hE]; rfl
  have h0 : Rn.arg E 0 = (k : Int) := by rw [hE]; rfl
  have h1 : Rn.arg E 1 = c := by rw [hE]; rfl
  rw [← hE]
  have p1 := tx_arg E (Rn.use (sst 0 0 0)) [97, 49] 1 (by decide) (by rw [hf]; decide)
  rw [h1] at p1
  obtain ⟨z1, hz1⟩ : ∃ z1, z1 = Rn.use (Rn.use (sst 0 0 0)) := ⟨_, rfl⟩
  rw [← hz1] at p1
  have p2 := tx_arg E (Rn.use (Rn.use z1)) [97, 48] 0 (by decide) (by rw [hf, hz1]; decide)
  rw [h0] at p2
  have hg := get_held E (Rn.use (Rn.use (Rn.use z1))) (k : Int) (by rw [hz1]; rfl) hkey
  rw [hcon, Int.toNat_natCast] at hg
  have q1 := tx_at E (Rn.use z1) _ _ _ _ _ p2 hg (by rw [hf, hz1]; decide)
  have q2 := tx_has E (Rn.use z1) _ _ _ _ _ p2 hg (by rw [hf, hz1]; decide)
  have s1 : Rn.tstmt E (24 + 1 + 1 + 1 + 1 + 1) (.ite (.leaf [97, 49]) (.cons (.stop (.un [64] (.leaf [97, 48]))) .nil) (.cons (.stop (.un [35] (.leaf [97, 48]))) .nil)) (sst 0 0 0) = (0, ⟨0, 0, 0, 0, 0, [], 5, true, if c = 0 then Rn.oneIf (C.cells.getD k none).isSome else (C.cells.getD k none).getD 0⟩) := by
    rw [Rn.tstmt, if_neg (by rw [hf]; decide), p1]
    simp only [ne_eq, not_true, if_false]
    rcases hc with rfl | rfl
    · rw [if_pos rfl, if_pos rfl]
      have t1 : Rn.tstmt E (24 + 1 + 1 + 1) (.stop (.un [35] (.leaf [97, 48]))) z1 = (0, ⟨0, 0, 0, 0, 0, [], 5, true, Rn.oneIf (C.cells.getD k none).isSome⟩) := by
        rw [Rn.tstmt, if_neg (by rw [hf, hz1]; decide), q2]
        unfold Rn.stopS
        rw [hz1]
        simp [Rn.use, sst]
      rw [ts_cons E _ _ _ _ _ (by rw [hz1]; rfl) t1, ts_nil]
    · rw [if_neg (by decide), if_neg (by decide)]
      have t1 : Rn.tstmt E (24 + 1 + 1 + 1) (.stop (.un [64] (.leaf [97, 48]))) z1 = (0, ⟨0, 0, 0, 0, 0, [], 5, true, (C.cells.getD k none).getD 0⟩) := by
        rw [Rn.tstmt, if_neg (by rw [hf, hz1]; decide), q1]
        unfold Rn.stopS
        rw [hz1]
        simp [Rn.use, sst]
      rw [ts_cons E _ _ _ _ _ (by rw [hz1]; rfl) t1, ts_nil]
  show Rn.tstmts E (24 + 1 + 1 + 1 + 1 + 1 + 1) bTree _ = _
  unfold bTree
  rw [ts_cons E _ _ _ _ _ rfl s1, ts_nil]
end Kp
end Go.Proofs.YtellilpeakpbfabGreatDoor

end

section
/-
  The procedure 'move' of Whole: what comes of it.
-/
set_option linter.unusedVariables false
namespace Go.Proofs.YtellilpeakpbfabGreatDoor
open Go.RowKit
namespace Kp
open Tr (Tok Ex Sm Sms kind acc)

def mSrc : List UInt8 := [112, 117, 116, 32, 97, 48, 32, 45, 32, 64, 32, 97, 48, 32, 97, 50, 32, 112, 117, 116, 32, 97, 49, 32, 43, 32, 64, 32, 97, 49, 32, 97, 50, 32, 115, 116, 111, 112, 32, 64, 32, 97, 49]
def mOne : Sm := .put (.leaf [97, 48]) (.bin [45] (.un [64] (.leaf [97, 48])) (.leaf [97, 50]))
def mTwo : Sm := .put (.leaf [97, 49]) (.bin [43] (.un [64] (.leaf [97, 49])) (.leaf [97, 50]))
def mEnd : Sm := .stop (.un [64] (.leaf [97, 49]))
def mTree : Sms := .cons mOne (.cons mTwo (.cons mEnd .nil))
theorem m_toks : Ck.toks mSrc = mTree.flat := by decide +kernel
theorem k_a2 : kind [97, 50] = 2 := by decide
theorem k_at : kind [64] = 9 := by decide
theorem k_sub : kind [45] = 5 := by decide
theorem k_add : kind [43] = 4 := by decide
theorem m_ok : mTree.Ok := by
  unfold mTree mOne mTwo mEnd
  simp only [Sms.Ok, Sm.Ok, Ex.Ok, k_a0, k_a1, k_a2, k_at, k_sub, k_add]
  simp
theorem m_read : Ck.read mSrc = (0, 0) := read_tree _ mTree m_ok m_toks (by decide)

/-- a cell that was not written. -/
theorem get_cell (E : Rn.En) (s : Rn.St) (k : Nat) (hk : k ≤ 99) (x : Int) (hw : s.writes.length ≤ Rn.find s.writes (k : Int)) (hc : E.con.cells.getD k none = some x) : Rn.get E s (k : Int) = (x, true, 0) := by
  have hkey : Jn.isKey (k : Int) = true := by unfold Jn.isKey; simp; omega
  unfold Rn.get Rn.held
  rw [List.getElem?_eq_none hw]
  simp only
  rw [if_pos hkey, Int.toNat_natCast, hc]
  rfl

theorem m_run (C : Jn.Con) (hok : Jn.Ok C) (p q : Nat) (hp : p ≤ 99) (hq : q ≤ 99) (hpq : p ≠ q) (h a : Int) (h0 : 0 ≤ h ∧ h ≤ 1000000) (a0 : 1 ≤ a ∧ a ≤ 1000000) (cp : C.cells.getD p none = some h) (cq : C.cells.getD q none = some h) :
    Rn.run C mSrc [(p : Int), (q : Int), a] 100 = (h + a, 15, [((p : Int), true, h - a), ((q : Int), true, h + a)], 0) := by
  have hmay := may_of [(p : Int), (q : Int), a] 100 (by simp) (by decide) (by decide) (by simp; omega)
  have hkp : Jn.isKey (p : Int) = true := by unfold Jn.isKey; simp; omega
  have hkq : Jn.isKey (q : Int) = true := by unfold Jn.isKey; simp; omega
  have hv1 : Jn.isVal (h - a) = true := by unfold Jn.isVal; simp; omega
  have hv2 : Jn.isVal (h + a) = true := by unfold Jn.isVal; simp; omega
  have hne : ((p : Int) == (q : Int)) = false := by simp; omega
  have hne' : ¬ (p : Int) = (q : Int) := by omega
  obtain ⟨z1, hz1⟩ : ∃ z : Rn.St, z = ⟨0, 0, 0, 0, 0, [((p : Int), true, h - a)], 6, false, 0⟩ := ⟨_, rfl⟩
  obtain ⟨z2, hz2⟩ : ∃ z : Rn.St, z = ⟨0, 0, 0, 0, 0, [((p : Int), true, h - a), ((q : Int), true, h + a)], 12, false, 0⟩ := ⟨_, rfl⟩
  refine run_end C hok mSrc _ 100 mTree m_ok m_toks m_read hmay ⟨0, 0, 0, 0, 0, [((p : Int), true, h - a), ((q : Int), true, h + a)], 15, true, h + a⟩ ?_
  obtain ⟨E, hE⟩ : ∃ E, E = Rn.env C mSrc [(p : Int), (q : Int), a] 100 := ⟨_, rfl⟩
  have hf : E.fuel = 100 := by rw [hE]; rfl
  have hcon : E.con = C := by rw [hE]; rfl
  have h0' : Rn.arg E 0 = (p : Int) := by rw [hE]; rfl
  have h1' : Rn.arg E 1 = (q : Int) := by rw [hE]; rfl
  have h2' : Rn.arg E 2 = a := by rw [hE]; rfl
  rw [← hE]
  have A0 : ∀ s : Rn.St, s.used < 100 → Rn.texpr E (.leaf [97, 48]) s = ((p : Int), 0, Rn.use s) := fun s hs => by rw [← h0']; exact tx_arg E s [97, 48] 0 (by decide) (by rw [hf]; exact hs)
  have A1 : ∀ s : Rn.St, s.used < 100 → Rn.texpr E (.leaf [97, 49]) s = ((q : Int), 0, Rn.use s) := fun s hs => by rw [← h1']; exact tx_arg E s [97, 49] 1 (by decide) (by rw [hf]; exact hs)
  have A2 : ∀ s : Rn.St, s.used < 100 → Rn.texpr E (.leaf [97, 50]) s = (a, 0, Rn.use s) := fun s hs => by rw [← h2']; exact tx_arg E s [97, 50] 2 (by decide) (by rw [hf]; exact hs)
  have R1 : Rn.reckon (kind [45]) h a = (h - a, 0) := by
    rw [k_sub]
    simp [Rn.reckon, Rn.bounded, Rn.sum, hv1]
  have R2 : Rn.reckon (kind [43]) h a = (h + a, 0) := by
    rw [k_add]
    simp [Rn.reckon, Rn.bounded, Rn.sum, hv2]
  have s1 : Rn.tstmt E 302 mOne (sst 0 0 0) = (0, z1) := by
    obtain ⟨b0, hb0⟩ : ∃ b, b = Rn.use (Rn.use (sst 0 0 0)) := ⟨_, rfl⟩
    have e1 := A0 (Rn.use (sst 0 0 0)) (by decide)
    have e2 := A0 (Rn.use (Rn.use b0)) (by rw [hb0]; decide)
    have g := get_cell E (Rn.use (Rn.use (Rn.use b0))) p hp h (by rw [hb0]; exact Nat.zero_le _) (by rw [hcon]; exact cp)
    have e3 := tx_at E (Rn.use b0) _ _ _ _ _ e2 g (by rw [hf, hb0]; decide)
    have e4 := A2 (Rn.use (Rn.use (Rn.use b0))) (by rw [hb0]; decide)
    have e5 := tx_bin E b0 _ _ [45] _ _ _ _ e3 e4 (by rw [hf, hb0]; decide)
    rw [R1] at e5
    unfold mOne
    rw [show (302 : Nat) = 301 + 1 from rfl, Rn.tstmt, if_neg (by rw [hf]; decide), e1]
    simp only
    rw [← hb0, e5, hz1, hb0]
    unfold Rn.putS Rn.put
    simp [hkp, Rn.find, Rn.use, sst]
  have s2 : Rn.tstmt E 301 mTwo z1 = (0, z2) := by
    obtain ⟨b0, hb0⟩ : ∃ b, b = Rn.use (Rn.use z1) := ⟨_, rfl⟩
    have e1 := A1 (Rn.use z1) (by rw [hz1]; simp [Rn.use])
    have e2 := A1 (Rn.use (Rn.use b0)) (by rw [hb0, hz1]; simp [Rn.use])
    have g := get_cell E (Rn.use (Rn.use (Rn.use b0))) q hq h (by rw [hb0, hz1]; simp [Rn.use, Rn.find, List.findIdx_cons, hne]) (by rw [hcon]; exact cq)
    have e3 := tx_at E (Rn.use b0) _ _ _ _ _ e2 g (by rw [hf, hb0, hz1]; simp [Rn.use])
    have e4 := A2 (Rn.use (Rn.use (Rn.use b0))) (by rw [hb0, hz1]; simp [Rn.use])
    have e5 := tx_bin E b0 _ _ [43] _ _ _ _ e3 e4 (by rw [hf, hb0, hz1]; simp [Rn.use])
    rw [R2] at e5
    unfold mTwo
    rw [show (301 : Nat) = 300 + 1 from rfl, Rn.tstmt, if_neg (by rw [hf, hz1]; simp), e1]
    simp only
    rw [← hb0, e5, hz2, hb0, hz1]
    unfold Rn.putS Rn.put
    simp [hkq, Rn.find, Rn.use, List.findIdx_cons, hne]
  have s3 : Rn.tstmt E 300 mEnd z2 = (0, ⟨0, 0, 0, 0, 0, [((p : Int), true, h - a), ((q : Int), true, h + a)], 15, true, h + a⟩) := by
    have e2 := A1 (Rn.use (Rn.use z2)) (by rw [hz2]; simp [Rn.use])
    have g : Rn.get E (Rn.use (Rn.use (Rn.use z2))) (q : Int) = (h + a, true, 0) := by
      rw [hz2]
      unfold Rn.get
      simp [Rn.use, Rn.find, List.findIdx_cons, hne]
    have e3 := tx_at E (Rn.use z2) _ _ _ _ _ e2 g (by rw [hf, hz2]; simp [Rn.use])
    unfold mEnd
    rw [show (300 : Nat) = 299 + 1 from rfl, Rn.tstmt, if_neg (by rw [hf, hz2]; simp), e3]
    unfold Rn.stopS
    rw [hz2]
    simp [Rn.use]
  show Rn.tstmts E 303 mTree _ = _
  unfold mTree
  have w1 : z1.stopped = false := by rw [hz1]
  have w2 : z2.stopped = false := by rw [hz2]
  exact (ts_cons E 302 _ _ _ _ rfl s1).trans ((ts_cons E 301 _ _ _ _ w1 s2).trans ((ts_cons E 300 _ _ _ _ w2 s3).trans (ts_nil E 299 _)))
theorem m_call (C : Jn.Con) (hok : Jn.Ok C) (n : List UInt8) (hs : srcL C.procs n = some mSrc) (p q : Nat) (hp : p ≤ 99) (hq : q ≤ 99) (hpq : p ≠ q) (h a : Int) (h0 : 0 ≤ h ∧ h ≤ 1000000) (a0 : 1 ≤ a ∧ a ≤ 1000000) (cp : C.cells.getD p none = some h) (cq : C.cells.getD q none = some h) :
    ∃ C' es, Rn.call C n [(p : Int), (q : Int), a] 100 = (C', h + a, 15, es, 0) ∧ es ≠ [] ∧ Jn.redo C es = some C' ∧ 46 ∉ es ∧ es.length ≤ 200 ∧ C'.cells.getD p none = some (h - a) ∧ C'.cells.getD q none = some (h + a) := by
  obtain ⟨f1, f2, f3, f4, fe, f0, fn, fp⟩ := Rn.call_facts C n [(p : Int), (q : Int), a] 100 hok
  have e : Rn.call C n [(p : Int), (q : Int), a] 100 = ((Rn.wcells C [((p : Int), true, h - a), ((q : Int), true, h + a)]).1, h + a, 15, (Rn.wcells C [((p : Int), true, h - a), ((q : Int), true, h + a)]).2, 0) := by
    unfold Rn.call
    rw [hs]
    simp only
    rw [m_run C hok p q hp hq hpq h a h0 a0 cp cq]
    simp
  have hw1 : Rn.WrOk ((p : Int), true, h - a) := ⟨by unfold Jn.isKey; simp; omega, by simp only; omega⟩
  have hw2 : Rn.WrOk ((q : Int), true, h + a) := ⟨by unfold Jn.isKey; simp; omega, by simp only; omega⟩
  obtain ⟨g1, g2, g3⟩ := Rn.wcells_all [((p : Int), true, h - a), ((q : Int), true, h + a)] C hok (by intro x hx; simp at hx; rcases hx with rfl | rfl; exact hw1; exact hw2) (by intro x hx; simp at hx; rcases hx with rfl | rfl <;> (intro h; cases h))
  have hl : (Rn.wcells C [((p : Int), true, h - a), ((q : Int), true, h + a)]).2.length ≤ 200 := by
    have := (f0 (by rw [e])).2.2
    rw [e] at this
    simp only at this
    omega
  have hCl := hok.len
  have c1 : (Rn.wcells C [((p : Int), true, h - a), ((q : Int), true, h + a)]).1.cells.getD p none = some (h - a) := by
    rw [g1]
    simp only [Rn.conW, List.foldl_cons, List.foldl_nil, Rn.opW, Jn.setC, Int.toNat_natCast, List.getD_eq_getElem?_getD]
    rw [List.getElem?_set_ne (by omega), List.getElem?_set_self (by omega)]
    rfl
  have c2 : (Rn.wcells C [((p : Int), true, h - a), ((q : Int), true, h + a)]).1.cells.getD q none = some (h + a) := by
    rw [g1]
    simp only [Rn.conW, List.foldl_cons, List.foldl_nil, Rn.opW, Jn.setC, Int.toNat_natCast, List.getD_eq_getElem?_getD]
    rw [List.getElem?_set_self (by rw [List.length_set]; omega)]
    rfl
  refine ⟨_, _, e, ?_, g2, g3, hl, c1, c2⟩
  intro h9
  rw [h9] at g2
  have h8 : Jn.redo C [] = some C := rfl
  rw [h8] at g2
  have h7 := Option.some.inj g2
  rw [← h7, cp] at c1
  have := Option.some.inj c1
  omega
end Kp
end Go.Proofs.YtellilpeakpbfabGreatDoor

end

section
/-
  The first acts of a list.
-/
namespace Go.Proofs.YtellilpeakpbfabGreatDoor
open Go.RowKit

theorem acts_take (l : List ActP) : ∀ j, (acts3 l).take (j * 3) = acts3 (l.take j) := by
  induction l with
  | nil => intro j; simp [acts3]
  | cons a r ih =>
    intro j
    cases j with
    | zero => simp [acts3]
    | succ j =>
      have e : acts3 (a :: r) = [.int .i64 a.1, .int .i64 a.2.1, T a.2.2] ++ acts3 r := by simp [acts3]
      have e2 : acts3 ((a :: r).take (j + 1)) = [.int .i64 a.1, .int .i64 a.2.1, T a.2.2] ++ acts3 (r.take j) := by simp [acts3]
      rw [e, e2, ← ih j, List.take_append, List.take_of_length_le (by simp; omega)]
      congr 2
      simp
      omega
/-- the first acts of a list. -/
theorem arow_take {w : World} {b n k : Nat} {o : Option Addr} {l : List ActP} (h : ARow w b (.slice o n k) l) (j : Nat) (hj : j ≤ n) : ARow w b (.slice o j k) (l.take j) := by
  obtain ⟨h1, h2⟩ := h
  have hlen : (l.take j).length = min j l.length := List.length_take
  have hl3 : ∀ m : List ActP, (acts3 m).length = m.length * 3 := fun m => by
    induction m with
    | nil => rfl
    | cons a r ih => simp only [acts3, List.flatMap_cons, List.length_append, List.length_cons, List.length_nil] at ih ⊢; omega
  rcases h2 with ⟨e, h0⟩ | ⟨g, cap, cur, e, hb, hh, hn, hm, hs, ht⟩
  · cases e
    have : l = [] := List.eq_nil_of_length_eq_zero h0
    subst this
    obtain rfl : j = 0 := by omega
    exact ⟨rfl, .inl ⟨rfl, rfl⟩⟩
  · cases e
    have hmin : min j l.length = j := by omega
    refine ⟨hl3 _, .inr ⟨g, k, cur, by rw [hlen, hmin], hb, hh, by rw [hlen, hmin]; omega, hm, hs, ?_⟩⟩
    rw [hlen, hmin, ← acts_take, ← ht, List.take_take]
    congr 1
    omega

end Go.Proofs.YtellilpeakpbfabGreatDoor

end

section
/-
  Whole.
-/
set_option linter.unusedVariables false
namespace Go.Proofs.YtellilpeakpbfabGreatDoor
open Go.RowKit

/-- behind a crash: whichever contents. -/
def CrashPost (P : Jn.Con → Prop) (L s D : Nat) (w0 : World) (e : Ending) (w1 : World) : Prop :=
  e = .returned (.tuple #[]) ∧ Calls Tryz.prog 17 #[.pointer (some ⟨s, 0, none⟩)] w1 fun e w2 => e = .returned (.bool true) ∧ ∃ C' S' B' f' d', P C' ∧ Hd L s S' B' D C' f' d' (· = C') (room C') w0 w2

theorem after_hd {P : Jn.Con → Prop} {L s D : Nat} {w0 w w' : World} {e : Ending} (h : AfterPost P L s D w e w') (hlow : Below L w0 w) (hP : PowAt w) (hWd : WordsAt w) (hpL : 1 < L) :
    e = .returned (.bool true) ∧ ∃ C' S' B' f' d', P C' ∧ Hd L s S' B' D C' f' d' (· = C') (room C') w0 w' := by
  obtain ⟨rfl, C', S', B', f', d', hC, hs, hdk, hsafe, hsz, hx⟩ := h
  have hwl : 0 < L := Nat.lt_of_le_of_lt (by decide) hpL
  exact ⟨rfl, C', S', B', f', d', hC, hs, hdk, hsafe, by rw [hsz]; exact (all_room hs.st.con.ok).1, hlow.trans hx.below, hP.below hpL hx.below, hWd.below hwl hx.below, hpL⟩

theorem site_call {L s S B D : Nat} {C C' : Jn.Con} {f : Int} {d : DS} {n : Nat} {w0 w : World} {nm : ByteArray} {v : Value} {args : List Int} {fuel val used : Int} {es : List UInt8} (h : Hd L s S B D C f d (· = C) n w0 w) (hn : n ≤ 1000000000000000000) (hv : IntsAt w v args)
    (hc : Rn.call C nm.data.toList args fuel = (C', val, used, es, 0)) (hes : es ≠ []) (hre : Jn.redo C es = some C') (hno : 46 ∉ es) (hl : es.length ≤ 900) :
    Calls Tryz.prog 23 #[.pointer (some ⟨S, 0, none⟩), .string nm, v, .int .i64 fuel] w fun e w1 => ∃ g vk, e = .returned (.tuple #[.agg #[.int .i64 val, .int .i64 used], .slice (some ⟨g, 0, none⟩) 1 vk, .int .i64 0]) ∧ 1 ≤ vk ∧ vk ≤ maxLen ∧ Below L w0 w1 ∧
      ∀ x, Below w1.heap.size w1 x → (x.cell? ⟨s, 1, none⟩ = some (.pointer (some ⟨D, 0, none⟩)) ∧ x.cell? ⟨s, 0, none⟩ = some (.pointer (some ⟨S, 0, none⟩))) ∧
      (Calls Tryz.prog 14 #[.pointer (some ⟨D, 0, none⟩), .slice (some ⟨g, 0, none⟩) 1 vk] x fun e w2 => e = .returned (.bool true) ∧ ∃ d', Hd L s S B D C' f d' (fun X => X = C ∨ X = C') (n + 2000) w0 w2) ∧
      (Calls Tryz.prog 14 #[.pointer (some ⟨D, 0, none⟩), .slice (some ⟨g, 0, none⟩) 0 vk] x fun e w2 => e = .returned (.bool true) ∧ (w2.cell? ⟨s, 1, none⟩ = some (.pointer (some ⟨D, 0, none⟩))) ∧ ∀ a b : Int, -9223372036854775808 ≤ a → a ≤ 9223372036854775807 → -9223372036854775808 ≤ b → b ≤ 9223372036854775807 →
        Calls Tryz.prog 16 #[.pointer (some ⟨D, 0, none⟩), .int .i64 a, .int .i64 b] w2 (CrashPost (· = C) L s D w0)) := by
  have hcs := callS_any L S B C f nm v args fuel w h.site.st h.words hv h.pow h.pL
  rw [hc] at hcs
  refine hcs.mono ?_
  rintro e w1 ⟨va, rfl, hst, hfr, hor⟩
  have har : ARow w1 w.heap.size va [(1, f, Jn.record es)] := by
    rcases hor with ⟨g, -⟩ | ⟨-, g⟩
    · exact absurd g hes
    · exact g
  obtain ⟨hlen, h2⟩ := har
  rcases h2 with ⟨-, h0⟩ | ⟨g, cap, cur, rfl, hb, hh, hcp, hm, hs, ht⟩
  · cases h0
  have har : ARow w1 w.heap.size (.slice (some ⟨g, 0, none⟩) 1 cap) [(1, f, Jn.record es)] := ⟨hlen, .inr ⟨g, cap, cur, rfl, hb, hh, hcp, hm, hs, ht⟩⟩
  refine ⟨g, cap, rfl, hcp, hm, h.low.trans hfr.below, fun x hx => ?_⟩
  have hLw1 : L ≤ w1.heap.size := Nat.le_trans h.site.lowL hfr.size
  have hfx : Fr L [] (some B) w x := hfr.trans (Fr.of hx hLw1)
  have hstx := hst.below hx
  have harx : ARow x w.heap.size (.slice (some ⟨g, 0, none⟩) 1 cap) [(1, f, Jn.record es)] := ownsRow_below har hx
  obtain ⟨k1, k2⟩ := h.changed rfl hn hstx hfx harx hno hre hl
  refine ⟨k1, k2.mono (fun e w2 ⟨he, d', hd', _⟩ => ⟨he, d', hd'⟩), ?_⟩
  have har0 : ARow x w.heap.size (.slice (some ⟨g, 0, none⟩) 0 cap) [] := arow_take harx 0 (Nat.zero_le _)
  obtain ⟨-, hdx⟩ := stay_site h.site hfx
  refine (allD_own L D w.heap.size d d _ [] x hdx h.site.low.2 har0 (by simp) rfl).mono ?_
  rintro e w2 ⟨rfl, hd2, g2⟩
  obtain ⟨hs2, hx2⟩ := site_change (d' := d) (w3 := w2) h.site hstx hfx hd2 g2
  refine ⟨rfl, hs2.cells.2, fun a b a0 a1 b0 b1 => ?_⟩
  have hsz := h.size
  have hP2 := h.pow.below h.pL hx2.below
  have hW2 := h.words.below (Nat.lt_of_le_of_lt (by decide) h.pL) hx2.below
  refine (site_crash a b hs2 h.safe (by omega) (by omega) hP2 hW2 h.pL a0 a1 b0 b1).mono ?_
  rintro e w3 ⟨rfl, -, hc3⟩
  refine ⟨rfl, hc3.mono ?_⟩
  intro e w4 h4
  exact after_hd h4 (h.low.trans hx2.below) hP2 hW2 h.pL

set_option maxHeartbeats 1000000 in
set_option maxRecDepth 100000 in
theorem total_any (L s S B D : Nat) (C : Jn.Con) (f : Int) (d : DS) (w : World) (p q : Nat) (x y : Int) (hp : p ≤ 99) (hq : q ≤ 99) (h : SiteAt L w s S B D C f d) (cp : C.cells.getD p none = some x) (cq : C.cells.getD q none = some y) :
    Calls Tryz.prog 24 #[.pointer (some ⟨s, 0, none⟩), .int .i64 p, .int .i64 q] w fun e w' => e = .returned (.tuple #[.int .i64 x, .int .i64 y, .bool true]) ∧ Below w.heap.size w w' := by
  have HG := hide (getS_in L S B C f p w h.st hp)
  rw [cp] at HG
  have HG2 := hide (fun z (hz : Below w.heap.size w z) => getS_in L S B C f q z (h.below hz).st hq)
  rw [cq] at HG2
  simp only [Option.getD_some, Option.isSome_some] at HG HG2
  obtain ⟨s0, s1⟩ := h.cells
  clear h cp cq
  go_enter Tryz.func24, Tryz.ntmps24
  go_wp2_with fail
  refine HG.out.mono ?_
  rintro e w1 ⟨rfl, hb⟩
  have e0 := at_old hb s0
  have HC2 := hide (HG2.out w1 hb)
  have HB := hide hb
  clear hb HG HG2
  go_wp2_with fail
  refine HC2.out.mono ?_
  rintro e w2 ⟨rfl, hb2⟩
  have HFIN := hide (below_then HB.out hb2)
  clear hb2 HC2
  go_wp2_with fail
  go_ret3
  exact ⟨rfl, HFIN.out⟩
end Go.Proofs.YtellilpeakpbfabGreatDoor

end
