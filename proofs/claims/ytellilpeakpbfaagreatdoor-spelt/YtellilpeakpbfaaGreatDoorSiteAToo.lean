import Derived.Test.YtellilpeakpbfaaGreatDoorDnUToo
import Derived.Test.YtellilpeakpbfaaGreatDoorKpPToo
import Derived.Test.YtellilpeakpbfaaGreatDoorRnToo
section
/-
  Call, the store's and the document's: the same contents; no Go text.
-/
namespace Go.Proofs.YtellilpeakpbfaaGreatDoor
open Go.RowKit
open Tr (Ex Sm Sms Tok kind)
namespace Rn

def Nt (ws : List (Int × Bool × Int)) : Prop := ∀ p ∈ ws, p.2.1 = false → p.2.2 = 0
theorem Nt.put {s : St} (h : Nt s.writes) (p : Int × Bool × Int) (hp : p.2.1 = false → p.2.2 = 0) : Nt (put s p).2.writes := by
  unfold Rn.put
  split
  · exact h
  · split
    · intro q hq
      rcases List.mem_or_eq_of_mem_set hq with h1 | h1
      · exact h q h1
      · rw [h1]; exact hp
    · split
      · exact h
      · intro q hq
        rcases List.mem_append.1 hq with h1 | h1
        · exact h q h1
        · simp at h1; rw [h1]; exact hp
theorem setV_writes (s : St) (k x : Int) : (setV s k x).writes = s.writes := by
  unfold setV
  repeat' split
  all_goals rfl
theorem Nt.texpr {E : En} {s : St} (h : Nt s.writes) (hf : Fit E s) (e : Ex) : Nt (texpr E e s).2.2.writes := by
  rw [(texpr_fit E e s hf).2.1.writes]; exact h
theorem tr_nt (E : En) (n : Nat) : (∀ b s, Fit E s → Nt s.writes → Nt (tstmts E n b s).2.writes) ∧ (∀ m s, Fit E s → Nt s.writes → Nt (tstmt E n m s).2.writes) ∧ (∀ e b s, Fit E s → Nt s.writes → Nt (tloop E n e b s).2.writes) := by
  induction n with
  | zero =>
    refine ⟨fun b s _ h => ?_, fun m s _ h => ?_, fun e b s _ h => ?_⟩
    · rw [tstmts]; exact h
    · rw [tstmt]; exact h
    · rw [tloop]; exact h
  | succ n ih =>
    obtain ⟨i1, i2, i3⟩ := ih
    refine ⟨fun b s hf h => ?_, fun m s hf h => ?_, fun e b s hf h => ?_⟩
    · cases b with
      | nil => rw [tstmts]; exact h
      | cons m r =>
        rw [tstmts]
        split
        · exact h
        · have h1 := i2 m s hf h
          split
          · exact h1
          · exact i1 r _ ((tr_up E n).2.1 m s hf).1.1 h1
    · cases m with
      | whl e b => rw [tstmt]; exact i3 e b s hf h
      | set v e =>
        rw [tstmt]
        split
        · exact h
        · rename_i hu
          have h1 := Nt.texpr (s := use s) h (hf.use (by omega)) e
          unfold setS
          split
          · exact h1
          · simp only [setV_writes]; exact h1
      | put a b =>
        rw [tstmt]
        split
        · exact h
        · rename_i hu
          have f1 := hf.use (show s.used < E.fuel by omega)
          have h1 := Nt.texpr (s := use s) h f1 a
          have h2 := Nt.texpr h1 (texpr_fit E a _ f1).1 b
          unfold putS
          split
          · exact h1
          · split
            · exact h2
            · exact Nt.put h2 _ (by simp)
      | del a =>
        rw [tstmt]
        split
        · exact h
        · rename_i hu
          have h1 := Nt.texpr (s := use s) h (hf.use (by omega)) a
          unfold delS
          split
          · exact h1
          · exact Nt.put h1 _ (by simp)
      | stop a =>
        rw [tstmt]
        split
        · exact h
        · rename_i hu
          have h1 := Nt.texpr (s := use s) h (hf.use (by omega)) a
          unfold stopS
          split
          · exact h1
          · exact h1
      | fail =>
        rw [tstmt]
        split
        · exact h
        · exact h
      | ite e a b =>
        rw [tstmt]
        split
        · exact h
        · rename_i hu
          have f1 := hf.use (show s.used < E.fuel by omega)
          have h1 := Nt.texpr (s := use s) h f1 e
          have f2 := (texpr_fit E e _ f1).1
          split
          · exact h1
          · split
            · exact i1 _ _ f2 h1
            · exact i1 _ _ f2 h1
    · rw [tloop]
      split
      · exact h
      · split
        · exact h
        · rename_i hu
          have f1 := hf.use (show s.used < E.fuel by omega)
          have h1 := Nt.texpr (s := use s) h f1 e
          have f2 := (texpr_fit E e _ f1).1
          split
          · exact h1
          · split
            · exact h1
            · have h2 := i1 b _ f2 h1
              split
              · exact h2
              · exact i3 e b _ ((tr_up E n).1 b _ f2).1 h2
theorem run_nt (C : Jn.Con) (src : List UInt8) (args : List Int) (fuel : Int) (hok : Jn.Ok C) (hr : (Ck.read src).2 = 0) : Nt (run C src args fuel).2.2.1 := by
  cases hm : may args fuel with
  | false => unfold run; rw [if_pos hm]; intro p hp; cases hp
  | true =>
    obtain ⟨b, hb, ht, hrun⟩ := run_by C src args fuel hok hr hm
    obtain ⟨-, f0, f1, fb⟩ := may_facts hm
    have hf := fit_start C src args fuel hok hr ⟨f0, f1⟩ fb
    have h := (tr_nt (env C src args fuel) (3 * fuel.toNat + 3)).1 b start hf (fun p hp => by cases hp)
    have hh := hrun _ rfl
    by_cases h0 : (tstmts (env C src args fuel) (3 * fuel.toNat + 3) b start).1 = 0
    · rw [hh.2 h0]; exact h
    · rw [hh.1 h0]; intro p hp; cases hp

/-- a write, as the contents take it. -/
theorem wcell_con {C : Jn.Con} (hok : Jn.Ok C) (p : Int × Bool × Int) (hp : WrOk p) (_hz : p.2.1 = false → p.2.2 = 0) : (wcell C p).1 = Jn.setC C p.1 (opW p) := by
  obtain ⟨k1, k2⟩ := key_nat hp.1
  have hv : Jn.isVal p.2.2 = true := by unfold Jn.isVal; simp; exact hp.2
  unfold wcell
  split
  · rename_i h
    obtain ⟨h1, h2⟩ := h
    unfold held at h1 h2
    rw [if_pos hp.1] at h1 h2
    simp only at h1 h2
    have ho : C.cells.getD p.1.toNat none = opW p := by
      unfold opW
      cases hc : C.cells.getD p.1.toNat none with
      | none =>
        rw [hc] at h1
        have h3 : p.2.1 = false := h1.symm
        rw [if_neg (by rw [h3]; simp)]
      | some x =>
        rw [hc] at h1 h2
        have h3 : p.2.1 = true := h1.symm
        have h4 : x = p.2.2 := h2
        rw [if_pos h3, h4]
    rw [← ho]
    unfold Jn.setC
    have hl : p.1.toNat < C.cells.length := by rw [hok.len]; omega
    rw [List.getD_eq_getElem?_getD, List.getElem?_eq_getElem hl]
    simp
  · unfold opW
    split
    · rename_i hb
      show (Jn.put C p.1 p.2.2).1 = _
      unfold Jn.put
      rw [if_neg (by rw [hp.1]; simp), if_neg (by rw [hv]; simp)]
    · rename_i hb
      show (Jn.del C p.1).1 = _
      unfold Jn.del
      rw [if_neg (by rw [hp.1]; simp)]
theorem redo_ent {C D : Jn.Con} {b rest : List UInt8} (h : 59 ∉ b) (hr : Jn.redoEntry C b = some D) : Jn.redo C ((b ++ [59]) ++ rest) = Jn.redo D rest := by
  rw [show (b ++ [59]) ++ rest = b ++ 59 :: rest by simp, redo_cut (Jn.cut_mk 59 b rest h), hr]
theorem wcell_redo {C : Jn.Con} (hok : Jn.Ok C) (p : Int × Bool × Int) (hp : WrOk p) (hz : p.2.1 = false → p.2.2 = 0) (rest : List UInt8) : Jn.redo C ((wcell C p).2 ++ rest) = Jn.redo (wcell C p).1 rest ∧ 46 ∉ (wcell C p).2 := by
  have hc := wcell_con hok p hp hz
  rw [hc]
  have hv : Jn.isVal p.2.2 = true := by unfold Jn.isVal; simp; exact hp.2
  unfold wcell at hc ⊢
  split
  · rename_i h
    rw [if_pos h] at hc
    refine ⟨?_, by simp⟩
    have hc' : C = Jn.setC C p.1 (opW p) := hc
    rw [← hc']; rfl
  · split
    · rename_i hb
      show Jn.redo C (Jn.putE p.1 p.2.2 ++ rest) = _ ∧ 46 ∉ Jn.putE p.1 p.2.2
      rw [Jn.putE_B]
      refine ⟨?_, ?_⟩
      · rw [redo_ent (Jn.putB_no _ _ 59 (.inr rfl)) (Jn.redo_putB C _ _ hp.1 hv)]
        unfold opW; rw [if_pos hb]
      · have := Jn.putB_no p.1 p.2.2 46 (.inl rfl)
        simp [this]
    · rename_i hb
      show Jn.redo C (Jn.delE p.1 ++ rest) = _ ∧ 46 ∉ Jn.delE p.1
      rw [Jn.delE_B]
      refine ⟨?_, ?_⟩
      · rw [redo_ent (Jn.delB_no _ 59 (.inr rfl)) (Jn.redo_delB C _ hp.1)]
        unfold opW; rw [if_neg hb]
      · have := Jn.delB_no p.1 46 (.inl rfl)
        simp [this]
theorem wcells_all (ws : List (Int × Bool × Int)) : ∀ C, Jn.Ok C → (∀ p ∈ ws, WrOk p) → Nt ws → (wcells C ws).1 = conW C ws ∧ Jn.redo C (wcells C ws).2 = some (wcells C ws).1 ∧ 46 ∉ (wcells C ws).2 := by
  induction ws with
  | nil => intro C _ _ _; exact ⟨rfl, rfl, by simp [wcells]⟩
  | cons p r ih =>
    intro C hok hw hn
    have hp := hw p (by simp)
    have hz := hn p (by simp)
    have h1 := wcell_con hok p hp hz
    have hok' := wcell_ok hok p
    obtain ⟨a1, a2, a3⟩ := ih (wcell C p).1 hok' (fun q hq => hw q (by simp [hq])) (fun q hq => hn q (by simp [hq]))
    obtain ⟨b1, b2⟩ := wcell_redo hok p hp hz (wcells (wcell C p).1 r).2
    refine ⟨?_, ?_, ?_⟩
    · show (wcells (wcell C p).1 r).1 = conW (Jn.setC C p.1 (opW p)) r
      rw [a1, h1]
    · show Jn.redo C ((wcell C p).2 ++ (wcells (wcell C p).1 r).2) = some (wcells (wcell C p).1 r).1
      rw [b1]; exact a2
    · show 46 ∉ (wcell C p).2 ++ (wcells (wcell C p).1 r).2
      intro h
      rcases List.mem_append.1 h with h | h
      · exact b2 h
      · exact a3 h

/-- the store's Call is the document's. -/
theorem call_facts (C : Jn.Con) (n : List UInt8) (args : List Int) (fuel : Int) (hok : Jn.Ok C) : (call C n args fuel).1 = (dcall C n args fuel).1 ∧ (call C n args fuel).2.1 = (dcall C n args fuel).2.1 ∧ (call C n args fuel).2.2.1 = (dcall C n args fuel).2.2.1 ∧ (call C n args fuel).2.2.2.2 = (dcall C n args fuel).2.2.2.2 ∧
    ((call C n args fuel).2.2.2.2 ≠ 0 → (call C n args fuel).1 = C ∧ (call C n args fuel).2.2.2.1 = []) ∧
    ((call C n args fuel).2.2.2.2 = 0 → Jn.redo C (call C n args fuel).2.2.2.1 = some (call C n args fuel).1 ∧ 46 ∉ (call C n args fuel).2.2.2.1 ∧ (call C n args fuel).2.2.2.1.length ≤ 25 * (dcall C n args fuel).2.2.2.1) ∧
    (dcall C n args fuel).2.2.2.1 ≤ 8 ∧ (call C n args fuel).1.procs = C.procs := by
  unfold call dcall
  cases hs : srcL C.procs n with
  | none => simp
  | some src =>
    have hr : (Ck.read src).2 = 0 := (hok.prc _ (src_mem _ _ _ hs)).2
    obtain ⟨l8, hws⟩ := run_fit C src args fuel hok
    have hnt := run_nt C src args fuel hok hr
    obtain ⟨a1, a2, a3⟩ := wcells_all _ C hok hws hnt
    have hlen := wcells_len _ C hws
    simp only
    by_cases h0 : (run C src args fuel).2.2.2 = 0
    · have nz : ¬ ((run C src args fuel).2.2.2 ≠ 0) := by simpa using h0
      rw [if_neg nz, if_neg nz]
      exact ⟨a1, rfl, rfl, rfl, fun h => absurd rfl h, fun _ => ⟨a2, a3, hlen⟩, l8, by simp only [a1]; exact conW_procs _ C⟩
    · rw [if_pos h0, if_pos h0]
      exact ⟨rfl, rfl, rfl, rfl, fun _ => ⟨rfl, rfl⟩, fun h => absurd h h0, by simp, rfl⟩
end Rn
end Go.Proofs.YtellilpeakpbfaaGreatDoor

end

section
/-
  A store and its files: what holds of them, and what a call leaves alone; the walk of reopen.
-/
namespace Go.Proofs.YtellilpeakpbfaaGreatDoor
open Go.RowKit

/-- all blocks but some stay. -/
structure FrX (L : Nat) (xs : List Nat) (w w' : World) : Prop where
  below : Below L w w'
  block : ∀ k cur t z, w.heap[k]? = some (.cells cur t z) → k ∉ xs → w'.heap[k]? = some (.cells cur t z)
theorem FrX.size {L : Nat} {xs : List Nat} {a b : World} (h : FrX L xs a b) : a.heap.size ≤ b.heap.size := h.below.size
theorem FrX.refl (L : Nat) (xs : List Nat) (w : World) : FrX L xs w w := ⟨Below.refl _ _, fun _ _ _ _ h _ => h⟩
theorem FrX.mono {L : Nat} {xs ys : List Nat} {a b : World} (h : FrX L xs a b) (hs : ∀ x ∈ xs, x ∈ ys ∨ a.heap.size ≤ x) : FrX L ys a b :=
  ⟨h.below, fun k cur t z hk hn => h.block k cur t z hk (fun g => (hs k g).elim hn (fun e => by have := (Array.getElem?_eq_some_iff.1 hk).1; omega))⟩
theorem FrX.trans {L : Nat} {xs ys : List Nat} {a b c : World} (h : FrX L xs a b) (g : FrX L ys b c) : FrX L (xs ++ ys) a c :=
  ⟨h.below.trans g.below, fun k cur t z hk hn => g.block k cur t z (h.block k cur t z hk (fun e => hn (List.mem_append_left _ e))) (fun e => hn (List.mem_append_right _ e))⟩
theorem FrX.one {L B : Nat} {a b : World} (h : Fr L [] (some B) a b) : FrX L [B] a b :=
  ⟨h.below, fun k cur t z hk hn => h.block k cur t z hk (by simp) (fun e => by cases e; exact hn (by simp))⟩
theorem FrX.old {L : Nat} {a b : World} (h : Below a.heap.size a b) (hL : L ≤ a.heap.size) : FrX L [] a b :=
  ⟨h.mono hL, fun k _ _ _ hk _ => (h.block k (Array.getElem?_eq_some_iff.1 hk).1).trans hk⟩
theorem FrX.typed {L : Nat} {xs : List Nat} {a b : World} (h : FrX L xs a b) (T : List TypeId) (ht : ∀ x ∈ xs, ∀ cur t z, a.heap[x]? = some (.cells cur t z) → t ∈ T) : Fr L T none a b :=
  ⟨h.below, fun k cur t z hk hT _ => h.block k cur t z hk (fun g => hT (ht k g cur t z hk))⟩

theorem StAt.lower {L L' : Nat} {w : World} {S B : Nat} {C : Jn.Con} {f : Int} (h : StAt L w S B C f) (hL : L' ≤ L) : StAt L' w S B C f :=
  ⟨Nat.le_trans hL h.low, h.file, h.mem, ⟨Nat.le_trans hL h.con.low, h.con.ok, h.con.mem⟩⟩

/-- A store, its contents, and the two files, of which block s holds the pointers. -/
structure SiteAt (L : Nat) (w : World) (s S B D : Nat) (C : Jn.Con) (f : Int) (d : DS) : Prop where
  mem : w.heap[s]? = some (.cells #[.pointer (some ⟨S, 0, none⟩), .pointer (some ⟨D, 0, none⟩)] 39 (0, 0))
  st : StAt L w S B C f
  disk : DsAt w D d
  low : L ≤ s ∧ L ≤ D
theorem SiteAt.lt {L : Nat} {w : World} {s S B D : Nat} {C : Jn.Con} {f : Int} {d : DS} (h : SiteAt L w s S B D C f d) : s < w.heap.size := (Array.getElem?_eq_some_iff.1 h.mem).1
theorem SiteAt.lowL {L : Nat} {w : World} {s S B D : Nat} {C : Jn.Con} {f : Int} {d : DS} (h : SiteAt L w s S B D C f d) : L ≤ w.heap.size := Nat.le_trans h.low.1 (Nat.le_of_lt h.lt)
theorem SiteAt.cells {L : Nat} {w : World} {s S B D : Nat} {C : Jn.Con} {f : Int} {d : DS} (h : SiteAt L w s S B D C f d) : w.cell? ⟨s, 0, none⟩ = some (.pointer (some ⟨S, 0, none⟩)) ∧ w.cell? ⟨s, 1, none⟩ = some (.pointer (some ⟨D, 0, none⟩)) :=
  ⟨(cell_of_row w s 0 _ _ _ h.mem).trans rfl, (cell_of_row w s 1 _ _ _ h.mem).trans rfl⟩
/-- the types of a site's blocks. -/
def siteT : List TypeId := [39, 105, 145, 97]
theorem SiteAt.types {L : Nat} {w : World} {s S B D : Nat} {C : Jn.Con} {f : Int} {d : DS} (h : SiteAt L w s S B D C f d) : ∀ x ∈ [s, S, B, D], ∀ cur t z, w.heap[x]? = some (.cells cur t z) → t ∈ siteT := by
  obtain ⟨c0, v0, hB, -⟩ := h.st.con.mem
  intro x hx cur t z hh
  simp only [List.mem_cons, List.not_mem_nil, or_false] at hx
  rcases hx with rfl | rfl | rfl | rfl
  · rw [h.mem] at hh; cases hh; decide
  · rw [h.st.mem] at hh; cases hh; decide
  · rw [hB] at hh; cases hh; decide
  · have hD : w.heap[x]? = _ := h.disk
    rw [hD] at hh; cases hh; decide
theorem SiteAt.frx {L : Nat} {w w' : World} {s S B D : Nat} {C : Jn.Con} {f : Int} {d : DS} {xs : List Nat} (h : SiteAt L w s S B D C f d) (g : FrX L xs w w') (ht : ∀ x ∈ xs, ∀ cur t z, w.heap[x]? = some (.cells cur t z) → t ∈ siteT)
    (hn : s ∉ xs ∧ S ∉ xs ∧ B ∉ xs ∧ D ∉ xs) : SiteAt L w' s S B D C f d := by
  obtain ⟨n1, n2, n3, n4⟩ := hn
  have gT := g.typed siteT ht
  obtain ⟨cur, v, hh, hs, hc, hv, hp⟩ := h.st.con.mem
  exact ⟨g.block s _ _ _ h.mem n1, ⟨h.st.low, h.st.file, g.block S _ _ _ h.st.mem n2, ⟨h.st.con.low, h.st.con.ok, cur, v, g.block B _ _ _ hh n3, hs, hc, hv, own_fr hp gT (by decide) (.inl rfl)⟩⟩, g.block D _ _ _ h.disk n4, h.low⟩
theorem SiteAt.below {L : Nat} {w w' : World} {s S B D : Nat} {C : Jn.Con} {f : Int} {d : DS} (h : SiteAt L w s S B D C f d) (hb : Below w.heap.size w w') : SiteAt L w' s S B D C f d :=
  h.frx (FrX.old hb h.lowL) (by simp) (by simp)

set_option maxHeartbeats 4000000 in
set_option maxRecDepth 100000 in
theorem reopen_any (L s D : Nat) (vx : Value) (w : World) (d : DS) (C : Jn.Con) (f : Int) (hm : w.heap[s]? = some (.cells #[vx, .pointer (some ⟨D, 0, none⟩)] 39 (0, 0))) (hd : DsAt w D d) (hL : L ≤ s ∧ L ≤ D) (hvx : ∃ p, vx = .pointer p)
    (hr : Jn.readTwo d.1.data.toList d.2.1.data.toList = some (C, f)) (hW : WordsAt w) (hP : PowAt w) (h1 : d.1.size ≤ 1152921504606846976) (h2 : d.2.1.size ≤ 1152921504606846976) :
    Calls Tryz.prog 41 #[.pointer (some ⟨s, 0, none⟩)] w fun e w' => e = .returned (.bool true) ∧ ∃ S' B' d', SiteAt L w' s S' B' D C (1 - f) d' ∧ playL d (moveActs C f) = some d' ∧ DiskOk d' (1 - f) C ∧ d'.1.size + d'.2.1.size = (Jn.all C).length ∧ FrX L [s, D] w w' ∧ w.heap.size ≤ S' ∧ w.heap.size ≤ B' := by
  obtain ⟨a, b, la, lb⟩ := d
  simp only at hr h1 h2
  have HO := hide (fun x (hx : Below w.heap.size w x) => open_any a b x (hW.below hW.1 hx) (hP.below hP.1 hx) h1 h2)
  obtain ⟨d0, d1, -, -⟩ := DAt.cell (show DAt w D a b la lb from hd)
  have c0 : w.cell? ⟨s, 0, none⟩ = some vx := (cell_of_row w s 0 _ _ _ hm).trans rfl
  have c1 : w.cell? ⟨s, 1, none⟩ = some (.pointer (some ⟨D, 0, none⟩)) := (cell_of_row w s 1 _ _ _ hm).trans rfl
  obtain ⟨p, rfl⟩ := hvx
  have HM := hide hm
  have HD := hide hd
  have HR := hide hr
  have hLs := hL.1
  have hLD := hL.2
  have hLw : L ≤ w.heap.size := Nat.le_trans hL.1 (Nat.le_of_lt (Array.getElem?_eq_some_iff.1 hm).1)
  have hsD : s ≠ D := by
    intro e
    subst e
    rw [show w.heap[s]? = _ from hd] at hm
    cases hm
  clear hm hd hr hW hP hL
  go_enter Tryz.func41, Tryz.ntmps41
  go_upto_region 1 with fail
  go_region_held3 (fun w' => w'.cell? ⟨s, 1, none⟩ = some (.pointer (some ⟨D, 0, none⟩)) ∧ w'.cell? ⟨D, 0, none⟩ = some (.string a) ∧ w'.cell? ⟨D, 1, none⟩ = some (.string b))
    (first | (refine ⟨at_old hb1 c1, at_old hb1 d0, at_old hb1 d1⟩) | go_keep)
    (first | (go_at_call 76; refine (HO.out _ (by first | exact Below.refl _ _ | exact Below.drew (Below.refl _ _))).mono ?_; rintro e w1 ⟨hb0, hor⟩; have hb1 : Below w.heap.size w w1 := below_undrew hb0; obtain ⟨S', B', v, hst, har, rfl⟩ : ∃ S' B' v, StAt w.heap.size w1 S' B' C (1 - f) ∧ ARow w1 w.heap.size v (moveActs C f) ∧ e = .returned (.tuple #[.pointer (some ⟨S', 0, none⟩), v, .int .i64 0]) := (by rcases hor with ⟨C2, f2, S', B', v, h, g1, g2, g3⟩ | ⟨h, -⟩ <;> rw [HR.out] at h <;> cases h; exact ⟨S', B', v, g1, g2, g3⟩)))
  have hok : Jn.Ok C := hst.con.ok
  obtain ⟨d', hpd, hdk, hsz⟩ := DiskOk.move (d := (a, b, la, lb)) (C := C) (f := f) (readTwo_file HR.out) hok (ok_plain hok) (Nat.le_trans (all_room hok).1 (Nat.le_trans (all_room hok).2 (by omega)))
  have hm1 : w1.heap[s]? = _ := (hb1.block s (Array.getElem?_eq_some_iff.1 HM.out).1).trans HM.out
  have hd1 : DsAt w1 D (a, b, la, lb) := (hb1.block D (Array.getElem?_eq_some_iff.1 HD.out).1).trans HD.out
  obtain ⟨w2, hw2⟩ : ∃ w2, w2 = w1.setCell ⟨s, 0, none⟩ (.pointer (some ⟨S', 0, none⟩)) := ⟨_, rfl⟩
  have f2 : Fr L [] (some s) w1 w2 := by rw [hw2]; exact fr_setCell w1 s 0 _ hLs
  have hm2 : w2.heap[s]? = some (.cells #[.pointer (some ⟨S', 0, none⟩), .pointer (some ⟨D, 0, none⟩)] 39 (0, 0)) := by rw [hw2, heap_setCell_same w1 s 0 _ _ _ hm1]; simp
  have hd2 : DsAt w2 D (a, b, la, lb) := f2.block D _ _ _ hd1 (by simp) (by simpa using hsD)
  have hS'w : w.heap.size ≤ S' := hst.low
  have hB'w : w.heap.size ≤ B' := hst.con.low
  have fT : Fr L [39] none w1 w2 := (f2.wide (by simp)).typed (fun k hk => by cases hk; exact ⟨_, _, _, hm1, by simp⟩) none
  have hst2 : StAt L w2 S' B' C (1 - f) := (hst.lower hLw).fr fT (by decide) (by decide) (by decide) (by simp)
  have har2 : ARow w2 w.heap.size v (moveActs C f) := own_fr har fT (by decide) (.inl rfl)
  have HA := hide (allD_own L D w.heap.size (a, b, la, lb) d' v (moveActs C f) w2 hd2 hLD har2 (by simp [moveActs]) hpd)
  have e0 : w1.cell? ⟨s, 0, none⟩ = some (.pointer p) := at_old hb1 c0
  have e1 : w1.frozen? ⟨s, 0, none⟩ = false := frozen_of_row w1 s 0 _ _ hm1
  have g1 : w2.cell? ⟨s, 1, none⟩ = some (.pointer (some ⟨D, 0, none⟩)) := (cell_of_row w2 s 1 _ _ _ hm2).trans rfl
  have HF : Hid (∀ w3, DsAt w3 D d' → Fr L [] (some D) w2 w3 → SiteAt L w3 s S' B' D C (1 - f) d' ∧ FrX L [s, D] w w3) := by
    intro w3 hd3 f3
    have fx3 : FrX L [D] w2 w3 := FrX.one f3
    have fD : Fr L [97] none w2 w3 := (f3.wide (by simp)).typed (fun k hk => by cases hk; exact ⟨_, _, _, hd2, by simp⟩) none
    refine ⟨⟨fx3.block s _ _ _ hm2 (by simpa using hsD), hst2.fr fD (by decide) (by decide) (by decide) (by simp), hd3, hLs, hLD⟩, ?_⟩
    exact (((FrX.old hb1 hLw).trans (FrX.one f2)).trans fx3).mono (by simp)
  have HDK := hide hdk
  have HSZ := hide hsz
  have HPD := hide hpd
  have hvs : ∃ vo vn vk, v = .slice vo vn vk := by obtain ⟨x, y, e, -⟩ := har.shape; exact ⟨x, _, y, e⟩
  obtain ⟨vo, vn, vk, rfl⟩ := hvs
  clear hb1 hst har hdk hsz hpd hm1 hd1 f2 hm2 hd2 fT hst2 har2 hok HO HR c0 c1 d0 d1
  go_wp2_with fail
  rw [← hw2]
  have HW2 := hide hw2
  clear hw2
  go_wp2_with fail
  refine HA.out.mono ?_
  rintro e w3 ⟨rfl, hd3, f3⟩
  obtain ⟨hsite, hfx⟩ := HF.out w3 hd3 f3
  have H1 := hide hsite
  have H2 := hide hfx
  clear hsite hfx hd3 f3 HA HF
  go_wp2_with fail
  go_ret
  exact ⟨rfl, S', B', d', H1.out, HPD.out, HDK.out, HSZ.out, H2.out, hS'w, hB'w⟩
end Go.Proofs.YtellilpeakpbfaaGreatDoor

end
