import Derived.Test.YtellilpeakpbfaaGreatDoorKpPToo
import Derived.Test.YtellilpeakpbfaaGreatDoorSiteAToo
import Derived.Test.YtellilpeakpbfaaGreatDoorSiteGToo
import Derived.Test.YtellilpeakpbfaaGreatDoorSiteHToo
section
/-
  A loop that adds up numbers, in plain words; no Go text.
-/
namespace Go.Proofs.YtellilpeakpbfaaGreatDoor
open Go.RowKit
namespace Kp
open Tr (Tok Ex Sm Sms kind acc)

def sumCond : Ex := .bin [60] (.leaf [118, 48]) (.leaf [97, 48])
def sumBody : Sms := .cons (.set [118, 48] (.bin [43] (.leaf [118, 48]) (.leaf [49]))) (.cons (.set [118, 49] (.bin [43] (.leaf [118, 49]) (.leaf [118, 48]))) .nil)
def sumTree : Sms := .cons (.whl sumCond sumBody) (.cons (.put (.leaf [97, 49]) (.leaf [118, 49])) (.cons (.stop (.un [64] (.leaf [97, 49]))) .nil))
def sumSrc : List UInt8 := [119, 104, 105, 108, 101, 32, 60, 32, 118, 48, 32, 97, 48, 32, 123, 32, 115, 101, 116, 32, 118, 48, 32, 43, 32, 118, 48, 32, 49, 32, 115, 101, 116, 32, 118, 49, 32, 43, 32, 118, 49, 32, 118, 48, 32, 125, 32, 112, 117, 116, 32, 97, 49, 32, 118, 49, 32, 115, 116, 111, 112, 32, 64, 32, 97, 49]
theorem sum_toks : Ck.toks sumSrc = sumTree.flat := by decide +kernel
theorem sum_ok : sumTree.Ok := by
  have a : kind [60] = 7 := by decide
  have b : kind [118, 48] = 3 := by decide
  have c : kind [97, 48] = 2 := by decide
  have d : kind [43] = 4 := by decide
  have e : kind [49] = 1 := by decide
  have f : kind [118, 49] = 3 := by decide
  have g : kind [97, 49] = 2 := by decide
  have h : kind [64] = 9 := by decide
  exact ⟨⟨⟨⟨by omega, by omega⟩, .inr (.inr b), .inr (.inl c)⟩, ⟨b, ⟨by omega, by omega⟩, .inr (.inr b), .inl e⟩, ⟨f, ⟨by omega, by omega⟩, .inr (.inr f), .inr (.inr b)⟩, trivial⟩, ⟨.inr (.inl g), .inr (.inr f)⟩, ⟨.inl h, .inr (.inl g)⟩, trivial⟩
theorem sum_read : Ck.read sumSrc = (0, 0) := read_tree _ sumTree sum_ok sum_toks (by decide)

def tri (i : Nat) : Nat := i * (i + 1) / 2
theorem tri_succ (i : Nat) : tri i + (i + 1) = tri (i + 1) := by
  unfold tri
  have h : (i + 1) * (i + 1 + 1) = i * (i + 1) + 2 * (i + 1) := by rw [← Nat.add_mul]; simp [Nat.add_mul, Nat.mul_add]; omega
  rw [h]; omega
theorem tri_le (i : Nat) (h : i ≤ 800) : tri i ≤ 320400 := by
  unfold tri
  have : i * (i + 1) ≤ 800 * 801 := Nat.mul_le_mul h (by omega)
  omega
/-- the variables, and the units that were used. -/
def sst (i : Int) (t : Int) (u : Nat) : Rn.St := ⟨0, i, t, 0, 0, [], u, false, 0⟩
theorem use_sst (i t : Int) (u : Nat) : Rn.use (sst i t u) = sst i t (u + 1) := rfl
theorem sum_cond (E : Rn.En) (n : Nat) (hE : E.fuel = 10000) (ha : E.a0 = (n : Int)) (i : Nat) (t : Int) (u : Nat) (hu : u + 4 ≤ 10000) : Rn.texpr E sumCond (Rn.use (sst i t u)) = (Rn.oneIf (decide ((i : Int) < n)), 0, sst i t (u + 4)) := by
  have e1 := tx_var E (Rn.use (Rn.use (sst i t u))) [118, 48] 0 (by decide) (by rw [hE]; show u + 2 < 10000; omega)
  have e2 := tx_arg E (Rn.use (Rn.use (Rn.use (sst i t u)))) [97, 48] 0 (by decide) (by rw [hE]; show u + 3 < 10000; omega)
  have e3 := tx_bin E (Rn.use (sst i t u)) _ _ [60] _ _ _ _ e1 e2 (by rw [hE]; show u + 1 < 10000; omega)
  have hk : kind [60] = 7 := by decide
  unfold sumCond
  rw [e3, hk]
  have hr : ∀ a b, Rn.reckon 7 a b = (Rn.oneIf (decide (a < b)), 0) := fun a b => by unfold Rn.reckon; rw [if_pos rfl]
  rw [hr]
  show (Rn.oneIf (decide ((i : Int) < E.a0)), 0, _) = _
  rw [ha]
  rfl
theorem isVal_nat (k : Nat) (h : k ≤ 1000000) : Jn.isVal (k : Int) = true := by unfold Jn.isVal; simp; omega
theorem reck_add (a b : Nat) (h : a + b ≤ 1000000) : Rn.reckon 4 (a : Int) (b : Int) = (((a + b : Nat) : Int), 0) := by
  unfold Rn.reckon Rn.sum Rn.bounded
  rw [if_neg (by decide), if_neg (by decide), if_pos rfl]
  have e : (a : Int) + b = ((a + b : Nat) : Int) := by omega
  rw [e, if_pos (isVal_nat _ h)]
theorem sum_body (E : Rn.En) (hE : E.fuel = 10000) (i : Nat) (hi : i < 800) (u g : Nat) (hu : u + 8 ≤ 10000) : Rn.tstmts E (g + 3) sumBody (sst i (tri i) u) = (0, sst (i + 1 : Nat) (tri (i + 1)) (u + 8)) := by
  have ht := tri_le (i + 1) (by omega)
  have hs := tri_succ i
  -- the first
  have a1 := tx_var E (Rn.use (Rn.use (sst i (tri i) u))) [118, 48] 0 (by decide) (by rw [hE]; show u + 2 < 10000; omega)
  have a2 : Rn.texpr E (.leaf [49]) (Rn.use (Rn.use (Rn.use (sst i (tri i) u)))) = (((1 : Nat) : Int), 0, Rn.use (Rn.use (Rn.use (Rn.use (sst i (tri i) u))))) := by
    have := tx_num E (Rn.use (Rn.use (Rn.use (sst i (tri i) u)))) 1 (by decide) (by rw [hE]; show u + 3 < 10000; omega)
    have h1 : Lib.decDigits 1 = [49] := by rw [Lib.decDigits, dif_pos (by decide)]; rfl
    rw [h1] at this
    exact this
  have a3 := tx_bin E (Rn.use (sst i (tri i) u)) _ _ [43] _ _ _ _ a1 a2 (by rw [hE]; show u + 1 < 10000; omega)
  have hk : kind [43] = 4 := by decide
  have hv0 : Rn.var (Rn.use (Rn.use (sst i (tri i) u))) 0 = (i : Int) := rfl
  rw [hk, hv0, reck_add i 1 (by omega)] at a3
  have s1 : ∀ g, Rn.tstmt E (g + 1) (.set [118, 48] (.bin [43] (.leaf [118, 48]) (.leaf [49]))) (sst i (tri i) u) = (0, sst (i + 1 : Nat) (tri i) (u + 4)) := by
    intro g
    rw [Rn.tstmt, if_neg (by rw [hE]; show ¬ 10000 ≤ u; omega), a3]
    have hp : (Ck.tokenP [118, 48]).2 = 0 := by decide
    rw [hp]
    rfl
  -- the second
  have b1 := tx_var E (Rn.use (Rn.use (sst (i + 1 : Nat) (tri i) (u + 4)))) [118, 49] 1 (by decide) (by rw [hE]; show u + 4 + 2 < 10000; omega)
  have b2 := tx_var E (Rn.use (Rn.use (Rn.use (sst (i + 1 : Nat) (tri i) (u + 4))))) [118, 48] 0 (by decide) (by rw [hE]; show u + 4 + 3 < 10000; omega)
  have b3 := tx_bin E (Rn.use (sst (i + 1 : Nat) (tri i) (u + 4))) _ _ [43] _ _ _ _ b1 b2 (by rw [hE]; show u + 4 + 1 < 10000; omega)
  have hw0 : Rn.var (Rn.use (Rn.use (sst (i + 1 : Nat) (tri i) (u + 4)))) 1 = (tri i : Int) := rfl
  have hw1 : Rn.var (Rn.use (Rn.use (Rn.use (sst (i + 1 : Nat) (tri i) (u + 4))))) 0 = ((i + 1 : Nat) : Int) := rfl
  rw [hk, hw0, hw1, reck_add (tri i) (i + 1) (by omega), hs] at b3
  have s2 : ∀ g, Rn.tstmt E (g + 1) (.set [118, 49] (.bin [43] (.leaf [118, 49]) (.leaf [118, 48]))) (sst (i + 1 : Nat) (tri i) (u + 4)) = (0, sst (i + 1 : Nat) (tri (i + 1)) (u + 8)) := by
    intro g
    rw [Rn.tstmt, if_neg (by rw [hE]; show ¬ 10000 ≤ u + 4; omega), b3]
    have hp : (Ck.tokenP [118, 49]).2 = 1 := by decide
    rw [hp]
    rfl
  unfold sumBody
  rw [Rn.tstmts, if_neg (by simp [sst]), s1, if_neg (by simp)]
  simp only
  rw [Rn.tstmts, if_neg (by simp [sst]), s2, if_neg (by simp)]
  simp only
  rw [Rn.tstmts]
theorem sum_loop (E : Rn.En) (n : Nat) (hn : n ≤ 800) (hE : E.fuel = 10000) (ha : E.a0 = (n : Int)) : ∀ (j i u g : Nat), i + j = n → u = 12 * i → Rn.tloop E (g + 4 + j) sumCond sumBody (sst i (tri i) u) = (0, sst n (tri n) (12 * n + 4)) := by
  intro j
  induction j with
  | zero =>
    intro i u g hij hu
    have hin : i = n := by omega
    subst hin hu
    rw [show g + 4 + 0 = (g + 3) + 1 from rfl, Rn.tloop, if_neg (by simp [sst]), if_neg (by rw [hE]; show ¬ 10000 ≤ 12 * i; omega), sum_cond E i hE ha i _ _ (by omega)]
    simp [Rn.oneIf]
  | succ j ih =>
    intro i u g hij hu
    subst hu
    have hlt : decide ((i : Int) < n) = true := decide_eq_true (by omega)
    rw [show g + 4 + (j + 1) = (g + 4 + j) + 1 by omega, Rn.tloop, if_neg (by simp [sst]), if_neg (by rw [hE]; show ¬ 10000 ≤ 12 * i; omega), sum_cond E n hE ha i _ _ (by omega), hlt]
    simp only [Rn.oneIf, if_true, ne_eq, not_true, if_false]
    rw [if_neg (by decide), show g + 4 + j = (g + 1 + j) + 3 by omega, sum_body E hE i (by omega) _ _ (by omega)]
    simp only [not_true, if_false]
    have := ih (i + 1) (12 * i + 4 + 8) g (by omega) (by omega)
    rw [show (g + 1 + j) + 3 = g + 4 + j by omega]
    exact this
set_option maxRecDepth 100000 in
/-- all of it. -/
theorem sum_run (C : Jn.Con) (hok : Jn.Ok C) (n k : Nat) (hn : n ≤ 800) (hk : k ≤ 99) : Rn.run C sumSrc [(n : Int), (k : Int)] 10000 = ((tri n : Int), ((12 * n + 10 : Nat) : Int), [((k : Int), true, (tri n : Int))], 0) := by
  have hmay : Rn.may [(n : Int), (k : Int)] 10000 = true := by unfold Rn.may Rn.inb; simp; omega
  have hr : (Ck.read sumSrc).2 = 0 := by rw [sum_read]
  have htree := Rn.run_tree C sumSrc [(n : Int), (k : Int)] 10000 hok hr hmay sumTree sum_ok sum_toks
  have hrun := Rn.run_ok C sumSrc [(n : Int), (k : Int)] 10000 hr hmay
  have key : ∀ E : Rn.En, E.fuel = 10000 → E.a0 = (n : Int) → E.a1 = (k : Int) → ∀ g, Rn.tstmts E (g + 808) sumTree (sst 0 0 0) = (0, ⟨0, n, tri n, 0, 0, [((k : Int), true, (tri n : Int))], 12 * n + 10, true, (tri n : Int)⟩) := by
    intro E hE ha hb g
    have hkey : Jn.isKey (k : Int) = true := by unfold Jn.isKey; simp; omega
    have hl := sum_loop E n hn hE ha n 0 0 (g + (802 - n)) (by omega) (by omega)
    rw [show g + (802 - n) + 4 + n = g + 806 by omega] at hl
    have hl' : Rn.tstmt E (g + 807) (.whl sumCond sumBody) (sst 0 0 0) = (0, sst n (tri n) (12 * n + 4)) := by rw [show g + 807 = (g + 806) + 1 from rfl, Rn.tstmt]; exact hl
    have p1 := tx_arg E (Rn.use (sst n (tri n) (12 * n + 4))) [97, 49] 1 (by decide) (by rw [hE]; show 12 * n + 5 < 10000; omega)
    have p2 := tx_var E (Rn.use (Rn.use (sst n (tri n) (12 * n + 4)))) [118, 49] 1 (by decide) (by rw [hE]; show 12 * n + 6 < 10000; omega)
    have ha1 : Rn.arg E 1 = (k : Int) := by unfold Rn.arg; rw [if_neg (by decide), if_pos rfl, hb]
    have hs2 : Rn.tstmt E (g + 806) (.put (.leaf [97, 49]) (.leaf [118, 49])) (sst n (tri n) (12 * n + 4)) = (0, ⟨0, n, tri n, 0, 0, [((k : Int), true, (tri n : Int))], 12 * n + 7, false, 0⟩) := by
      rw [show g + 806 = (g + 805) + 1 from rfl, Rn.tstmt, if_neg (by rw [hE]; show ¬ 10000 ≤ 12 * n + 4; omega), p1]
      simp only
      rw [p2, ha1]
      unfold Rn.putS Rn.put
      simp [hkey, Rn.find, Rn.use, sst, Rn.var]
    obtain ⟨z, hz⟩ : ∃ z : Rn.St, z = ⟨0, n, tri n, 0, 0, [((k : Int), true, (tri n : Int))], 12 * n + 7, false, 0⟩ := ⟨_, rfl⟩
    rw [← hz] at hs2
    have q1 := tx_arg E (Rn.use (Rn.use z)) [97, 49] 1 (by decide) (by rw [hE, hz]; show 12 * n + 9 < 10000; omega)
    rw [ha1] at q1
    have hg : Rn.get E (Rn.use (Rn.use (Rn.use z))) (k : Int) = ((tri n : Int), true, 0) := by
      rw [hz]
      unfold Rn.get
      simp [Rn.use, Rn.find]
    have q2 := tx_at E (Rn.use z) _ _ _ _ _ q1 hg (by rw [hE, hz]; show 12 * n + 8 < 10000; omega)
    have hs3 : Rn.tstmt E (g + 805) (.stop (.un [64] (.leaf [97, 49]))) z = (0, ⟨0, n, tri n, 0, 0, [((k : Int), true, (tri n : Int))], 12 * n + 10, true, (tri n : Int)⟩) := by
      rw [show g + 805 = (g + 804) + 1 from rfl, Rn.tstmt, if_neg (by rw [hE, hz]; show ¬ 10000 ≤ 12 * n + 7; omega), q2]
      unfold Rn.stopS
      rw [hz]
      simp [Rn.use]
    unfold sumTree
    rw [show g + 808 = (g + 807) + 1 from rfl, Rn.tstmts, if_neg (by simp [sst]), hl', if_neg (by simp)]
    simp only
    rw [show g + 807 = (g + 806) + 1 from rfl, Rn.tstmts, if_neg (by simp [sst]), hs2, if_neg (by simp)]
    simp only
    rw [show g + 806 = (g + 805) + 1 from rfl, Rn.tstmts, if_neg (by rw [hz]; simp), hs3, if_neg (by simp)]
    simp only
    rw [show g + 805 = (g + 804) + 1 from rfl, Rn.tstmts]
  have h9 := key (Rn.env C sumSrc [(n : Int), (k : Int)] 10000) rfl rfl rfl 29195
  have e0 : Rn.start = sst 0 0 0 := rfl
  have eg : 3 * (10000 : Int).toNat + 3 = 29195 + 808 := by decide
  rw [hrun]
  rw [eg, e0, h9] at htree
  rw [eg, e0]
  have h1 : (Rn.stmts (Rn.env C sumSrc [(n : Int), (k : Int)] 10000) (29195 + 808) (sst 0 0 0)).1 = 0 := by
    have := congrArg Prod.fst htree
    exact this.symm
  have h2 := congrArg Prod.snd htree
  generalize Rn.stmts (Rn.env C sumSrc [(n : Int), (k : Int)] 10000) (29195 + 808) (sst 0 0 0) = q at h1 h2
  rw [if_neg (by rw [h1]; simp)]
  have h3 : Rn.N q.2 = ⟨0, n, tri n, 0, 0, [((k : Int), true, (tri n : Int))], 12 * n + 10, true, (tri n : Int)⟩ := h2.symm
  have r1 : q.2.result = (tri n : Int) := congrArg Rn.St.result h3
  have r2 : q.2.used = 12 * n + 10 := congrArg Rn.St.used h3
  have r3 : q.2.writes = [((k : Int), true, (tri n : Int))] := congrArg Rn.St.writes h3
  rw [r1, r2, r3]
/-- the call: the sum, the units, and the cell behind it. -/
theorem sum_call (C : Jn.Con) (hok : Jn.Ok C) (nm : List UInt8) (hs : srcL C.procs nm = some sumSrc) (n k : Nat) (hn : n ≤ 800) (hk : k ≤ 99) :
    (Rn.call C nm [(n : Int), (k : Int)] 10000).2.1 = (tri n : Int) ∧ (Rn.call C nm [(n : Int), (k : Int)] 10000).2.2.1 = ((12 * n + 10 : Nat) : Int) ∧ (Rn.call C nm [(n : Int), (k : Int)] 10000).2.2.2.2 = 0 ∧ (Rn.call C nm [(n : Int), (k : Int)] 10000).1.cells.getD k none = some (tri n : Int) := by
  have ht := tri_le n hn
  have e : Rn.call C nm [(n : Int), (k : Int)] 10000 = ((Rn.wcells C [((k : Int), true, (tri n : Int))]).1, (tri n : Int), ((12 * n + 10 : Nat) : Int), (Rn.wcells C [((k : Int), true, (tri n : Int))]).2, 0) := by
    unfold Rn.call
    rw [hs]
    simp only
    rw [sum_run C hok n k hn hk]
    simp
  rw [e]
  refine ⟨rfl, rfl, rfl, ?_⟩
  have hw := Rn.wcell_con hok ((k : Int), true, (tri n : Int)) ⟨by unfold Jn.isKey; simp; omega, by simp only; omega⟩ (fun h => by cases h)
  show (Rn.wcell C ((k : Int), true, (tri n : Int))).1.cells.getD k none = _
  rw [hw]
  unfold Jn.setC Rn.opW
  have hl := hok.len
  simp only [Int.toNat_natCast, List.getD_eq_getElem?_getD]
  rw [List.getElem?_set_self (by omega)]
  simp
end Kp
end Go.Proofs.YtellilpeakpbfaaGreatDoor

end

section
/-
  The procedures of Alike, in plain words; no Go text.
-/
namespace Go.Proofs.YtellilpeakpbfaaGreatDoor
open Go.RowKit
namespace Kp
open Tr (Tok Ex Sm Sms kind acc)

def aSrc : List UInt8 := [112, 117, 116, 32, 97, 48, 32, 97, 49]
def aTree : Sms := .cons (.put (.leaf [97, 48]) (.leaf [97, 49])) .nil
def bSrc : List UInt8 := [105, 102, 32, 97, 49, 32, 123, 32, 115, 116, 111, 112, 32, 64, 32, 97, 48, 32, 125, 32, 123, 32, 115, 116, 111, 112, 32, 35, 32, 97, 48, 32, 125]
def bTree : Sms := .cons (.ite (.leaf [97, 49]) (.cons (.stop (.un [64] (.leaf [97, 48]))) .nil) (.cons (.stop (.un [35] (.leaf [97, 48]))) .nil)) .nil
def cSrc : List UInt8 := [100, 101, 108, 32, 97, 48]
def cTree : Sms := .cons (.del (.leaf [97, 48])) .nil
theorem a_toks : Ck.toks aSrc = aTree.flat := by decide +kernel
theorem b_toks : Ck.toks bSrc = bTree.flat := by decide +kernel
theorem c_toks : Ck.toks cSrc = cTree.flat := by decide +kernel
theorem k_a0 : kind [97, 48] = 2 := by decide
theorem k_a1 : kind [97, 49] = 2 := by decide
theorem a_ok : aTree.Ok := ⟨⟨.inr (.inl k_a0), .inr (.inl k_a1)⟩, trivial⟩
theorem b_ok : bTree.Ok := by
  have d : kind [64] = 9 := by decide
  have e : kind [35] = 10 := by decide
  exact ⟨⟨.inr (.inl k_a1), ⟨⟨.inl d, .inr (.inl k_a0)⟩, trivial⟩, ⟨⟨.inr e, .inr (.inl k_a0)⟩, trivial⟩⟩, trivial⟩
theorem c_ok : cTree.Ok := ⟨.inr (.inl k_a0), trivial⟩
theorem a_read : Ck.read aSrc = (0, 0) := read_tree _ aTree a_ok a_toks (by decide)
theorem b_read : Ck.read bSrc = (0, 0) := read_tree _ bTree b_ok b_toks (by decide)
theorem c_read : Ck.read cSrc = (0, 0) := read_tree _ cTree c_ok c_toks (by decide)

/-- a run that ends well, by its tree. -/
theorem run_end (C : Jn.Con) (hok : Jn.Ok C) (src : List UInt8) (args : List Int) (fuel : Int) (b : Sms) (hb : b.Ok) (ht : Ck.toks src = b.flat) (hr : Ck.read src = (0, 0)) (hmay : Rn.may args fuel = true) (z : Rn.St)
    (h : Rn.tstmts (Rn.env C src args fuel) (3 * fuel.toNat + 3) b (sst 0 0 0) = (0, z)) : Rn.run C src args fuel = (z.result, (z.used : Int), z.writes, 0) := by
  have hr' : (Ck.read src).2 = 0 := by rw [hr]
  have htree := Rn.run_tree C src args fuel hok hr' hmay b hb ht
  have hrun := Rn.run_ok C src args fuel hr' hmay
  have e0 : Rn.start = sst 0 0 0 := rfl
  rw [e0, h] at htree
  rw [hrun, e0]
  have h1 : (Rn.stmts (Rn.env C src args fuel) (3 * fuel.toNat + 3) (sst 0 0 0)).1 = 0 := (congrArg Prod.fst htree).symm
  have h2 := congrArg Prod.snd htree
  generalize Rn.stmts (Rn.env C src args fuel) (3 * fuel.toNat + 3) (sst 0 0 0) = q at h1 h2
  rw [if_neg (by rw [h1]; simp)]
  have h3 : z = Rn.N q.2 := h2
  have r1 : z.result = q.2.result := by rw [h3]; rfl
  have r2 : z.used = q.2.used := by rw [h3]; rfl
  have r3 : z.writes = q.2.writes := by rw [h3]; rfl
  rw [r1, r2, r3]
theorem may_of (args : List Int) (fuel : Int) (h4 : args.length ≤ 4) (f0 : 0 ≤ fuel) (f1 : fuel ≤ 10000) (ha : ∀ a ∈ args, -1000000000 ≤ a ∧ a ≤ 1000000000) : Rn.may args fuel = true := by
  unfold Rn.may
  simp only [Bool.and_eq_true, decide_eq_true_eq, List.all_eq_true]
  refine ⟨⟨⟨h4, f0⟩, f1⟩, fun a h => ?_⟩
  unfold Rn.inb
  simpa using ha a h
theorem ts_cons (E : Rn.En) (g : Nat) (m : Sm) (r : Sms) (s z : Rn.St) (hs : s.stopped = false) (h : Rn.tstmt E g m s = (0, z)) : Rn.tstmts E (g + 1) (.cons m r) s = Rn.tstmts E g r z := by
  rw [Rn.tstmts, if_neg (by rw [hs]; simp), h, if_neg (by simp)]
theorem ts_nil (E : Rn.En) (g : Nat) (s : Rn.St) : Rn.tstmts E (g + 1) .nil s = (0, s) := by rw [Rn.tstmts]

/-- put a0 a1. -/
theorem a_run (C : Jn.Con) (hok : Jn.Ok C) (k : Nat) (v : Int) (hk : k ≤ 99) (hv : -1000000000 ≤ v ∧ v ≤ 1000000000) : Rn.run C aSrc [(k : Int), v] 3 = (0, 3, [((k : Int), true, v)], 0) := by
  have hmay := may_of [(k : Int), v] 3 (by simp) (by decide) (by decide) (by simp; omega)
  have hkey : Jn.isKey (k : Int) = true := by unfold Jn.isKey; simp; omega
  refine run_end C hok aSrc _ 3 aTree a_ok a_toks a_read hmay ⟨0, 0, 0, 0, 0, [((k : Int), true, v)], 3, false, 0⟩ ?_
  obtain ⟨E, hE⟩ : ∃ E, E = Rn.env C aSrc [(k : Int), v] 3 := ⟨_, rfl⟩
  have hf : E.fuel = 3 := by rw [hE]; rfl
  have h0 : Rn.arg E 0 = (k : Int) := by rw [hE]; rfl
  have h1 : Rn.arg E 1 = v := by rw [hE]; rfl
  rw [← hE]
  have p1 := tx_arg E (Rn.use (sst 0 0 0)) [97, 48] 0 (by decide) (by rw [hf]; decide)
  have p2 := tx_arg E (Rn.use (Rn.use (sst 0 0 0))) [97, 49] 1 (by decide) (by rw [hf]; decide)
  rw [h0] at p1
  rw [h1] at p2
  have s1 : Rn.tstmt E (9 + 1 + 1) (.put (.leaf [97, 48]) (.leaf [97, 49])) (sst 0 0 0) = (0, ⟨0, 0, 0, 0, 0, [((k : Int), true, v)], 3, false, 0⟩) := by
    rw [Rn.tstmt, if_neg (by rw [hf]; decide), p1]
    simp only
    rw [p2]
    unfold Rn.putS Rn.put
    simp [hkey, Rn.find, Rn.use, sst]
  show Rn.tstmts E (9 + 1 + 1 + 1) aTree _ = _
  unfold aTree
  rw [ts_cons E _ _ _ _ _ rfl s1, ts_nil]
/-- del a0. -/
theorem c_run (C : Jn.Con) (hok : Jn.Ok C) (k : Nat) (hk : k ≤ 99) : Rn.run C cSrc [(k : Int)] 2 = (0, 2, [((k : Int), false, 0)], 0) := by
  have hmay := may_of [(k : Int)] 2 (by simp) (by decide) (by decide) (by simp; omega)
  have hkey : Jn.isKey (k : Int) = true := by unfold Jn.isKey; simp; omega
  refine run_end C hok cSrc _ 2 cTree c_ok c_toks c_read hmay ⟨0, 0, 0, 0, 0, [((k : Int), false, 0)], 2, false, 0⟩ ?_
  obtain ⟨E, hE⟩ : ∃ E, E = Rn.env C cSrc [(k : Int)] 2 := ⟨_, rfl⟩
  have hf : E.fuel = 2 := by rw [hE]; rfl
  have h0 : Rn.arg E 0 = (k : Int) := by rw [hE]; rfl
  rw [← hE]
  have p1 := tx_arg E (Rn.use (sst 0 0 0)) [97, 48] 0 (by decide) (by rw [hf]; decide)
  rw [h0] at p1
  have s1 : Rn.tstmt E (6 + 1 + 1) (.del (.leaf [97, 48])) (sst 0 0 0) = (0, ⟨0, 0, 0, 0, 0, [((k : Int), false, 0)], 2, false, 0⟩) := by
    rw [Rn.tstmt, if_neg (by rw [hf]; decide), p1]
    unfold Rn.delS Rn.put
    simp [hkey, Rn.find, Rn.use, sst]
  show Rn.tstmts E (6 + 1 + 1 + 1) cTree _ = _
  unfold cTree
  rw [ts_cons E _ _ _ _ _ rfl s1, ts_nil]
/-- if a1 { stop @ a0 } { stop # a0 }. -/
theorem b_run (C : Jn.Con) (hok : Jn.Ok C) (k : Nat) (hk : k ≤ 99) (c : Int) (hc : c = 0 ∨ c = 1) :
    Rn.run C bSrc [(k : Int), c] 9 = (if c = 0 then Rn.oneIf (C.cells.getD k none).isSome else (C.cells.getD k none).getD 0, 5, [], 0) := by
  have hmay := may_of [(k : Int), c] 9 (by simp) (by decide) (by decide) (by simp; omega)
  have hkey : Jn.isKey (k : Int) = true := by unfold Jn.isKey; simp; omega
  refine run_end C hok bSrc _ 9 bTree b_ok b_toks b_read hmay ⟨0, 0, 0, 0, 0, [], 5, true, if c = 0 then Rn.oneIf (C.cells.getD k none).isSome else (C.cells.getD k none).getD 0⟩ ?_
  obtain ⟨E, hE⟩ : ∃ E, E = Rn.env C bSrc [(k : Int), c] 9 := ⟨_, rfl⟩
  have hf : E.fuel = 9 := by rw [hE]; rfl
  have hcon : E.con = C := by rw [hE]; rfl
  have h0 : Rn.arg E 0 = (k : Int) := by rw [hE]; rfl
  have h1 : Rn.arg E 1 = c := by rw [hE]; rfl
  rw [← hE]
  have p1 := tx_arg E (Rn.use (sst 0 0 0)) [97, 49] 1 (by decide) (by rw [hf]; decide)
  rw [h1] at p1
  obtain ⟨z1, hz1⟩ : ∃ z1, z1 = Rn.use (Rn.use (sst 0 0 0)) := ⟨_, rfl⟩
  rw [← hz1] at p1
  have p2 := tx_arg E (Rn.use (Rn.use z1)) [97, 48] 0 (by decide) (by rw [hf, hz1]; decide)
  rw [h0] at p2
  have hg := get_held E (Rn.use (Rn.use (Rn.use z1))) (k : Int) (by rw [hz1]; rfl) hkey
  rw [hcon, Int.toNat_natCast] at hg
  have q1 := tx_at E (Rn.use z1) _ _ _ _ _ p2 hg (by rw [hf, hz1]; decide)
  have q2 := tx_has E (Rn.use z1) _ _ _ _ _ p2 hg (by rw [hf, hz1]; decide)
  have s1 : Rn.tstmt E (24 + 1 + 1 + 1 + 1 + 1) (.ite (.leaf [97, 49]) (.cons (.stop (.un [64] (.leaf [97, 48]))) .nil) (.cons (.stop (.un [35] (.leaf [97, 48]))) .nil)) (sst 0 0 0) = (0, ⟨0, 0, 0, 0, 0, [], 5, true, if c = 0 then Rn.oneIf (C.cells.getD k none).isSome else (C.cells.getD k none).getD 0⟩) := by
    rw [Rn.tstmt, if_neg (by rw [hf]; decide), p1]
    simp only [ne_eq, not_true, if_false]
    rcases hc with rfl | rfl
    · rw [if_pos rfl, if_pos rfl]
      have t1 : Rn.tstmt E (24 + 1 + 1 + 1) (.stop (.un [35] (.leaf [97, 48]))) z1 = (0, ⟨0, 0, 0, 0, 0, [], 5, true, Rn.oneIf (C.cells.getD k none).isSome⟩) := by
        rw [Rn.tstmt, if_neg (by rw [hf, hz1]; decide), q2]
        unfold Rn.stopS
        rw [hz1]
        simp [Rn.use, sst]
      rw [ts_cons E _ _ _ _ _ (by rw [hz1]; rfl) t1, ts_nil]
    · rw [if_neg (by decide), if_neg (by decide)]
      have t1 : Rn.tstmt E (24 + 1 + 1 + 1) (.stop (.un [64] (.leaf [97, 48]))) z1 = (0, ⟨0, 0, 0, 0, 0, [], 5, true, (C.cells.getD k none).getD 0⟩) := by
        rw [Rn.tstmt, if_neg (by rw [hf, hz1]; decide), q1]
        unfold Rn.stopS
        rw [hz1]
        simp [Rn.use, sst]
      rw [ts_cons E _ _ _ _ _ (by rw [hz1]; rfl) t1, ts_nil]
  show Rn.tstmts E (24 + 1 + 1 + 1 + 1 + 1 + 1) bTree _ = _
  unfold bTree
  rw [ts_cons E _ _ _ _ _ rfl s1, ts_nil]
end Kp
end Go.Proofs.YtellilpeakpbfaaGreatDoor

end

section
/-
  Two sites, apart.
-/
set_option linter.unusedVariables false
namespace Go.Proofs.YtellilpeakpbfaaGreatDoor
open Go.RowKit

/-- two sites of which none has a block of the other's. -/
def Apt (s S B D t S2 B2 D2 : Nat) : Prop := s ≠ t ∧ S ≠ S2 ∧ B ≠ B2 ∧ D ≠ D2
theorem SiteAt.other {L : Nat} {w w' : World} {s S B D t S2 B2 D2 : Nat} {C C2 : Jn.Con} {f f2 : Int} {d d2 : DS} (h : SiteAt L w s S B D C f d) (h2 : SiteAt L w t S2 B2 D2 C2 f2 d2) (hn : Apt s S B D t S2 B2 D2) (g : FrX L [s, S, B, D] w w') : SiteAt L w' t S2 B2 D2 C2 f2 d2 := by
  obtain ⟨n1, n2, n3, n4⟩ := hn
  obtain ⟨cb, vb, hB, -⟩ := h.st.con.mem
  obtain ⟨cb2, vb2, hB2, -⟩ := h2.st.con.mem
  have hD : w.heap[D]? = _ := h.disk
  have hD2 : w.heap[D2]? = _ := h2.disk
  have ne : ∀ {x y : Nat} {c c' : Array Value} {t t' : TypeId}, w.heap[x]? = some (.cells c t (0, 0)) → w.heap[y]? = some (.cells c' t' (0, 0)) → t ≠ t' → x ≠ y := by
    intro x y c c' t t' hx hy ht e
    subst e
    rw [hx] at hy
    cases hy
    exact ht rfl
  refine h2.frx g h.types ⟨?_, ?_, ?_, ?_⟩
  · simp only [List.mem_cons, List.not_mem_nil, or_false, not_or]
    exact ⟨Ne.symm n1, ne h2.mem h.st.mem (by decide), ne h2.mem hB (by decide), ne h2.mem hD (by decide)⟩
  · simp only [List.mem_cons, List.not_mem_nil, or_false, not_or]
    exact ⟨ne h2.st.mem h.mem (by decide), Ne.symm n2, ne h2.st.mem hB (by decide), ne h2.st.mem hD (by decide)⟩
  · simp only [List.mem_cons, List.not_mem_nil, or_false, not_or]
    exact ⟨ne hB2 h.mem (by decide), ne hB2 h.st.mem (by decide), Ne.symm n3, ne hB2 hD (by decide)⟩
  · simp only [List.mem_cons, List.not_mem_nil, or_false, not_or]
    exact ⟨ne hD2 h.mem (by decide), ne hD2 h.st.mem (by decide), ne hD2 hB (by decide), Ne.symm n4⟩
theorem Apt.symm {s S B D t S2 B2 D2 : Nat} (h : Apt s S B D t S2 B2 D2) : Apt t S2 B2 D2 s S B D := ⟨Ne.symm h.1, Ne.symm h.2.1, Ne.symm h.2.2.1, Ne.symm h.2.2.2⟩
theorem SiteAt.lts {L : Nat} {w : World} {s S B D : Nat} {C : Jn.Con} {f : Int} {d : DS} (h : SiteAt L w s S B D C f d) : s < w.heap.size ∧ S < w.heap.size ∧ B < w.heap.size ∧ D < w.heap.size :=
  ⟨h.lt, h.st.lt, h.st.con.lt, h.disk.lt⟩
/-- behind a step of the first. -/
theorem Apt.step {L : Nat} {w : World} {s S B D t S2 B2 D2 S' B' : Nat} {C2 : Jn.Con} {f2 : Int} {d2 : DS} (h : Apt s S B D t S2 B2 D2) (h2 : SiteAt L w t S2 B2 D2 C2 f2 d2) (hS : S' = S ∨ w.heap.size ≤ S') (hB : B' = B ∨ w.heap.size ≤ B') : Apt s S' B' D t S2 B2 D2 := by
  obtain ⟨l1, l2, l3, l4⟩ := h2.lts
  obtain ⟨n1, n2, n3, n4⟩ := h
  refine ⟨n1, ?_, ?_, n4⟩
  · rcases hS with rfl | hS
    · exact n2
    · omega
  · rcases hB with rfl | hB
    · exact n3
    · omega

end Go.Proofs.YtellilpeakpbfaaGreatDoor

end

section
/-
  The walk of holds; a store's change alone; two numbers as a list.
-/
set_option linter.unusedVariables false
namespace Go.Proofs.YtellilpeakpbfaaGreatDoor
open Go.RowKit

set_option maxHeartbeats 1000000 in
set_option maxRecDepth 100000 in
theorem holds_any (L s S B D : Nat) (C : Jn.Con) (f : Int) (d : DS) (w : World) (k : Nat) (v : Int) (hk : k ≤ 99) (h : SiteAt L w s S B D C f d) (hc : C.cells.getD k none = some v) :
    Calls Tryz.prog 37 #[.pointer (some ⟨s, 0, none⟩), .int .i64 k, .int .i64 v] w fun e w' => e = .returned (.bool true) ∧ Below w.heap.size w w' := by
  have HG := hide (getS_in L S B C f k w h.st hk)
  rw [hc] at HG
  simp only [Option.getD_some, Option.isSome_some] at HG
  obtain ⟨s0, s1⟩ := h.cells
  have tt : (v == v) = true := by simp
  clear h hc
  go_enter Tryz.func37, Tryz.ntmps37
  go_wp2_with fail
  refine HG.out.mono ?_
  rintro e w1 ⟨rfl, hb⟩
  have HB := hide hb
  clear hb HG
  go_wp2_with fail
  go_ret
  exact ⟨rfl, HB.out⟩

/-- the store has changed, the files have not. -/
theorem site_store {L s S B D : Nat} {C C' : Jn.Con} {f : Int} {d : DS} {w w' : World} (h : SiteAt L w s S B D C f d) (hst : StAt L w' S B C' f) (g : Fr L [] (some B) w w') : SiteAt L w' s S B D C' f d := by
  obtain ⟨cb, vb, hB, -⟩ := h.st.con.mem
  have hm := h.mem
  have hD : w.heap[D]? = _ := h.disk
  exact ⟨g.block s _ _ _ hm (by simp) (by intro e; cases e; rw [hB] at hm; cases hm), hst, g.block D _ _ _ hD (by simp) (by intro e; cases e; rw [hB] at hD; cases hD), h.low⟩
theorem ints_two (w : World) (a b : Int) : IntsAt (w.alloc (.cells #[.int .i64 a, .int .i64 b] 3)) (.slice (some ⟨w.heap.size, 0, none⟩) 2 2) [a, b] :=
  ⟨_, _, rfl, fun _ => ⟨_, 0, rfl, fun i x hx => by
    have hh := heap_alloc_new w (.cells #[.int .i64 a, .int .i64 b] 3)
    match i, hx with
    | 0, hx => simp at hx; subst hx; exact (cell_of_row _ _ 0 _ _ _ hh).trans rfl
    | 1, hx => simp at hx; subst hx; exact (cell_of_row _ _ 1 _ _ _ hh).trans rfl
    | k + 2, hx => simp at hx⟩⟩

end Go.Proofs.YtellilpeakpbfaaGreatDoor

end
