import Derived.Test.YtellilpeakpbfabGreatDoorDnGToo
import Derived.Test.YtellilpeakpbfabGreatDoorStoreDToo
import Derived.Laws.CopyOwn
import Derived.BigQuiet
import Derived.Test.YtellilpeakpbfabGreatDoorProcDToo
section
/-
  Call, the store's and the document's: the same contents; no Go text.
-/
namespace Go.Proofs.YtellilpeakpbfabGreatDoor
open Go.RowKit
open Tr (Ex Sm Sms Tok kind)
namespace Rn

def Nt (ws : List (Int × Bool × Int)) : Prop := ∀ p ∈ ws, p.2.1 = false → p.2.2 = 0
theorem Nt.put {s : St} (h : Nt s.writes) (p : Int × Bool × Int) (hp : p.2.1 = false → p.2.2 = 0) : Nt (put s p).2.writes := by
  unfold Rn.put
  split
  · exact h
  · split
    · intro q hq
      rcases List.mem_or_eq_of_mem_set hq with h1 | h1
      · exact h q h1
      · rw [h1]; exact hp
    · split
      · exact h
      · intro q hq
        rcases List.mem_append.1 hq with h1 | h1
        · exact h q h1
        · simp at h1; rw [h1]; exact hp
theorem setV_writes (s : St) (k x : Int) : (setV s k x).writes = s.writes := by
  unfold setV
  repeat' split
  all_goals rfl
theorem Nt.texpr {E : En} {s : St} (h : Nt s.writes) (hf : Fit E s) (e : Ex) : Nt (texpr E e s).2.2.writes := by
  rw [(texpr_fit E e s hf).2.1.writes]; exact h
theorem tr_nt (E : En) (n : Nat) : (∀ b s, Fit E s → Nt s.writes → Nt (tstmts E n b s).2.writes) ∧ (∀ m s, Fit E s → Nt s.writes → Nt (tstmt E n m s).2.writes) ∧ (∀ e b s, Fit E s → Nt s.writes → Nt (tloop E n e b s).2.writes) := by
  induction n with
  | zero =>
    refine ⟨fun b s _ h => ?_, fun m s _ h => ?_, fun e b s _ h => ?_⟩
    · rw [tstmts]; exact h
    · rw [tstmt]; exact h
    · rw [tloop]; exact h
  | succ n ih =>
    obtain ⟨i1, i2, i3⟩ := ih
    refine ⟨fun b s hf h => ?_, fun m s hf h => ?_, fun e b s hf h => ?_⟩
    · cases b with
      | nil => rw [tstmts]; exact h
      | cons m r =>
        rw [tstmts]
        split
        · exact h
        · have h1 := i2 m s hf h
          split
          · exact h1
          · exact i1 r _ ((tr_up E n).2.1 m s hf).1.1 h1
    · cases m with
      | whl e b => rw [tstmt]; exact i3 e b s hf h
      | set v e =>
        rw [tstmt]
        split
        · exact h
        · rename_i hu
          have h1 := Nt.texpr (s := use s) h (hf.use (by omega)) e
          unfold setS
          split
          · exact h1
          · simp only [setV_writes]; exact h1
      | put a b =>
        rw [tstmt]
        split
        · exact h
        · rename_i hu
          have f1 := hf.use (show s.used < E.fuel by omega)
          have h1 := Nt.texpr (s := use s) h f1 a
          have h2 := Nt.texpr h1 (texpr_fit E a _ f1).1 b
          unfold putS
          split
          · exact h1
          · split
            · exact h2
            · exact Nt.put h2 _ (by simp)
      | del a =>
        rw [tstmt]
        split
        · exact h
        · rename_i hu
          have h1 := Nt.texpr (s := use s) h (hf.use (by omega)) a
          unfold delS
          split
          · exact h1
          · exact Nt.put h1 _ (by simp)
      | stop a =>
        rw [tstmt]
        split
        · exact h
        · rename_i hu
          have h1 := Nt.texpr (s := use s) h (hf.use (by omega)) a
          unfold stopS
          split
          · exact h1
          · exact h1
      | fail =>
        rw [tstmt]
        split
        · exact h
        · exact h
      | ite e a b =>
        rw [tstmt]
        split
        · exact h
        · rename_i hu
          have f1 := hf.use (show s.used < E.fuel by omega)
          have h1 := Nt.texpr (s := use s) h f1 e
          have f2 := (texpr_fit E e _ f1).1
          split
          · exact h1
          · split
            · exact i1 _ _ f2 h1
            · exact i1 _ _ f2 h1
    · rw [tloop]
      split
      · exact h
      · split
        · exact h
        · rename_i hu
          have f1 := hf.use (show s.used < E.fuel by omega)
          have h1 := Nt.texpr (s := use s) h f1 e
          have f2 := (texpr_fit E e _ f1).1
          split
          · exact h1
          · split
            · exact h1
            · have h2 := i1 b _ f2 h1
              split
              · exact h2
              · exact i3 e b _ ((tr_up E n).1 b _ f2).1 h2
theorem run_nt (C : Jn.Con) (src : List UInt8) (args : List Int) (fuel : Int) (hok : Jn.Ok C) (hr : (Ck.read src).2 = 0) : Nt (run C src args fuel).2.2.1 := by
  cases hm : may args fuel with
  | false => unfold run; rw [if_pos hm]; intro p hp; cases hp
  | true =>
    obtain ⟨b, hb, ht, hrun⟩ := run_by C src args fuel hok hr hm
    obtain ⟨-, f0, f1, fb⟩ := may_facts hm
    have hf := fit_start C src args fuel hok hr ⟨f0, f1⟩ fb
    have h := (tr_nt (env C src args fuel) (3 * fuel.toNat + 3)).1 b start hf (fun p hp => by cases hp)
    have hh := hrun _ rfl
    by_cases h0 : (tstmts (env C src args fuel) (3 * fuel.toNat + 3) b start).1 = 0
    · rw [hh.2 h0]; exact h
    · rw [hh.1 h0]; intro p hp; cases hp

/-- a write, as the contents take it. -/
theorem wcell_con {C : Jn.Con} (hok : Jn.Ok C) (p : Int × Bool × Int) (hp : WrOk p) (_hz : p.2.1 = false → p.2.2 = 0) : (wcell C p).1 = Jn.setC C p.1 (opW p) := by
  obtain ⟨k1, k2⟩ := key_nat hp.1
  have hv : Jn.isVal p.2.2 = true := by unfold Jn.isVal; simp; exact hp.2
  unfold wcell
  split
  · rename_i h
    obtain ⟨h1, h2⟩ := h
    unfold held at h1 h2
    rw [if_pos hp.1] at h1 h2
    simp only at h1 h2
    have ho : C.cells.getD p.1.toNat none = opW p := by
      unfold opW
      cases hc : C.cells.getD p.1.toNat none with
      | none =>
        rw [hc] at h1
        have h3 : p.2.1 = false := h1.symm
        rw [if_neg (by rw [h3]; simp)]
      | some x =>
        rw [hc] at h1 h2
        have h3 : p.2.1 = true := h1.symm
        have h4 : x = p.2.2 := h2
        rw [if_pos h3, h4]
    rw [← ho]
    unfold Jn.setC
    have hl : p.1.toNat < C.cells.length := by rw [hok.len]; omega
    rw [List.getD_eq_getElem?_getD, List.getElem?_eq_getElem hl]
    simp
  · unfold opW
    split
    · rename_i hb
      show (Jn.put C p.1 p.2.2).1 = _
      unfold Jn.put
      rw [if_neg (by rw [hp.1]; simp), if_neg (by rw [hv]; simp)]
    · rename_i hb
      show (Jn.del C p.1).1 = _
      unfold Jn.del
      rw [if_neg (by rw [hp.1]; simp)]
theorem redo_ent {C D : Jn.Con} {b rest : List UInt8} (h : 59 ∉ b) (hr : Jn.redoEntry C b = some D) : Jn.redo C ((b ++ [59]) ++ rest) = Jn.redo D rest := by
  rw [show (b ++ [59]) ++ rest = b ++ 59 :: rest by simp, redo_cut (Jn.cut_mk 59 b rest h), hr]
theorem wcell_redo {C : Jn.Con} (hok : Jn.Ok C) (p : Int × Bool × Int) (hp : WrOk p) (hz : p.2.1 = false → p.2.2 = 0) (rest : List UInt8) : Jn.redo C ((wcell C p).2 ++ rest) = Jn.redo (wcell C p).1 rest ∧ 46 ∉ (wcell C p).2 := by
  have hc := wcell_con hok p hp hz
  rw [hc]
  have hv : Jn.isVal p.2.2 = true := by unfold Jn.isVal; simp; exact hp.2
  unfold wcell at hc ⊢
  split
  · rename_i h
    rw [if_pos h] at hc
    refine ⟨?_, by simp⟩
    have hc' : C = Jn.setC C p.1 (opW p) := hc
    rw [← hc']; rfl
  · split
    · rename_i hb
      show Jn.redo C (Jn.putE p.1 p.2.2 ++ rest) = _ ∧ 46 ∉ Jn.putE p.1 p.2.2
      rw [Jn.putE_B]
      refine ⟨?_, ?_⟩
      · rw [redo_ent (Jn.putB_no _ _ 59 (.inr rfl)) (Jn.redo_putB C _ _ hp.1 hv)]
        unfold opW; rw [if_pos hb]
      · have := Jn.putB_no p.1 p.2.2 46 (.inl rfl)
        simp [this]
    · rename_i hb
      show Jn.redo C (Jn.delE p.1 ++ rest) = _ ∧ 46 ∉ Jn.delE p.1
      rw [Jn.delE_B]
      refine ⟨?_, ?_⟩
      · rw [redo_ent (Jn.delB_no _ 59 (.inr rfl)) (Jn.redo_delB C _ hp.1)]
        unfold opW; rw [if_neg hb]
      · have := Jn.delB_no p.1 46 (.inl rfl)
        simp [this]
theorem wcells_all (ws : List (Int × Bool × Int)) : ∀ C, Jn.Ok C → (∀ p ∈ ws, WrOk p) → Nt ws → (wcells C ws).1 = conW C ws ∧ Jn.redo C (wcells C ws).2 = some (wcells C ws).1 ∧ 46 ∉ (wcells C ws).2 := by
  induction ws with
  | nil => intro C _ _ _; exact ⟨rfl, rfl, by simp [wcells]⟩
  | cons p r ih =>
    intro C hok hw hn
    have hp := hw p (by simp)
    have hz := hn p (by simp)
    have h1 := wcell_con hok p hp hz
    have hok' := wcell_ok hok p
    obtain ⟨a1, a2, a3⟩ := ih (wcell C p).1 hok' (fun q hq => hw q (by simp [hq])) (fun q hq => hn q (by simp [hq]))
    obtain ⟨b1, b2⟩ := wcell_redo hok p hp hz (wcells (wcell C p).1 r).2
    refine ⟨?_, ?_, ?_⟩
    · show (wcells (wcell C p).1 r).1 = conW (Jn.setC C p.1 (opW p)) r
      rw [a1, h1]
    · show Jn.redo C ((wcell C p).2 ++ (wcells (wcell C p).1 r).2) = some (wcells (wcell C p).1 r).1
      rw [b1]; exact a2
    · show 46 ∉ (wcell C p).2 ++ (wcells (wcell C p).1 r).2
      intro h
      rcases List.mem_append.1 h with h | h
      · exact b2 h
      · exact a3 h

/-- the store's Call is the document's. -/
theorem call_facts (C : Jn.Con) (n : List UInt8) (args : List Int) (fuel : Int) (hok : Jn.Ok C) : (call C n args fuel).1 = (dcall C n args fuel).1 ∧ (call C n args fuel).2.1 = (dcall C n args fuel).2.1 ∧ (call C n args fuel).2.2.1 = (dcall C n args fuel).2.2.1 ∧ (call C n args fuel).2.2.2.2 = (dcall C n args fuel).2.2.2.2 ∧
    ((call C n args fuel).2.2.2.2 ≠ 0 → (call C n args fuel).1 = C ∧ (call C n args fuel).2.2.2.1 = []) ∧
    ((call C n args fuel).2.2.2.2 = 0 → Jn.redo C (call C n args fuel).2.2.2.1 = some (call C n args fuel).1 ∧ 46 ∉ (call C n args fuel).2.2.2.1 ∧ (call C n args fuel).2.2.2.1.length ≤ 25 * (dcall C n args fuel).2.2.2.1) ∧
    (dcall C n args fuel).2.2.2.1 ≤ 8 ∧ (call C n args fuel).1.procs = C.procs := by
  unfold call dcall
  cases hs : srcL C.procs n with
  | none => simp
  | some src =>
    have hr : (Ck.read src).2 = 0 := (hok.prc _ (src_mem _ _ _ hs)).2
    obtain ⟨l8, hws⟩ := run_fit C src args fuel hok
    have hnt := run_nt C src args fuel hok hr
    obtain ⟨a1, a2, a3⟩ := wcells_all _ C hok hws hnt
    have hlen := wcells_len _ C hws
    simp only
    by_cases h0 : (run C src args fuel).2.2.2 = 0
    · have nz : ¬ ((run C src args fuel).2.2.2 ≠ 0) := by simpa using h0
      rw [if_neg nz, if_neg nz]
      exact ⟨a1, rfl, rfl, rfl, fun h => absurd rfl h, fun _ => ⟨a2, a3, hlen⟩, l8, by simp only [a1]; exact conW_procs _ C⟩
    · rw [if_pos h0, if_pos h0]
      exact ⟨rfl, rfl, rfl, rfl, fun _ => ⟨rfl, rfl⟩, fun h => absurd h h0, by simp, rfl⟩
end Rn
end Go.Proofs.YtellilpeakpbfabGreatDoor

end

section
/-
  The walks of lent and kept.
-/
namespace Go.Proofs.YtellilpeakpbfabGreatDoor
open Go.RowKit

/-- a list that was lent, with its spare room. -/
def LentAt (w : World) (g : Nat) (l : List Int) : Prop := ∃ cur : Array Value, w.heap[g]? = some (.cells cur 3 (0, 0)) ∧ cur.size = l.length + 2 ∧ (∀ (i : Nat) (a : Int), l[i]? = some a → cur[i]? = some (Value.int .i64 a)) ∧ cur[l.length]? = some (Value.int .i64 77) ∧ cur[l.length + 1]? = some (Value.int .i64 77)
theorem LentAt.ints {w : World} {g : Nat} {l : List Int} (h : LentAt w g l) : IntsAt w (.slice (some ⟨g, 0, none⟩) l.length (l.length + 2)) l := by
  obtain ⟨cur, hh, -, hc, -, -⟩ := h
  exact ⟨_, _, rfl, fun _ => ⟨g, 0, rfl, fun i a ha => by rw [Nat.zero_add]; exact (cell_of_row w g i _ _ _ hh).trans (hc i a ha)⟩⟩

set_option maxHeartbeats 4000000 in
set_option maxRecDepth 100000 in
theorem lent_any (l : List Int) (v : Value) (w : World) (hv : IntsAt w v l) (hl : l.length ≤ 18000000000000) :
    Calls Tryz.prog 121 #[v] w fun e w' => ∃ G, e = .returned (.slice (some ⟨G, 0, none⟩) l.length (l.length + 2)) ∧ w.heap.size ≤ G ∧ LentAt w' G l ∧ Below w.heap.size w w' := by
  obtain ⟨ao, cap, rfl, hvc⟩ := hv
  have HVC := hide hvc
  obtain ⟨i0, hi, hy0, hy1, hy2⟩ := info_parts Tryz.infoNum
  clear hvc
  go_enter Tryz.func121, Tryz.ntmps121
  go_wp2_with (refine wpList_make_full w rfl (.tmp 6) (.tmp 6) 48 rfl w.heap.size 3 i0 (.int .i64 0) 1 Tryz.underlying48 hi hy0 hy1 _ _ _ _ (l.length + 2) rfl rfl ?c1 ?c2 ?c3 ?c4 (Nat.le_refl _) ?_)
  case c1 => simp
  case c2 => simp
  case c3 => rw [hy2]; omega
  case c4 => unfold maxLen; omega
  intro w1 hrow hg1
  have hb1 : Below w.heap.size w w1 := ⟨hg1.os, hg1.tape, hg1.output, hg1.size, fun k hk => hg1.block k hk (by simp)⟩
  have hcells : ∃ cur : List Value, w1.heap[w.heap.size]? = some (.cells cur.toArray 3 (0, 0)) ∧ cur.length = l.length + 2 := by
    rcases hrow.2 with ⟨hx, -⟩ | ⟨g, cap', cur, hx, hgb, hh, hcap, hm, hsz, htake⟩
    · cases hx
    · injection hx with h1 h2 h3
      injection h1 with h1
      injection h1 with h1
      subst h1
      exact ⟨cur.toList, by simpa using hh, by simp; omega⟩
  obtain ⟨cur, hcur, hcl⟩ := hcells
  obtain ⟨G, hG⟩ : ∃ G, G = w.heap.size := ⟨_, rfl⟩
  rw [← hG] at hcur ⊢
  have HB1 := hide hb1
  have hGw : w.heap.size ≤ G := Nat.le_of_eq hG.symm
  clear hrow hg1 hG
  have hnum : (Tryz.prog.info? 3).map (·.size) = some 1 := by rw [hi]; simp [hy1]
  go_wp2_with (refine wpList_copy_splice rfl (.tmp 8) (.tmp 9) 48 48 rfl 3 Tryz.underlying48 hnum _ _ _ _ _ _ rfl rfl G 0 cur 3 hcur (l.map fun a => Value.int .i64 a) ?d1 ?d2 ?d3 ?d4 w.heap.size w HB1.out hGw ?_)

  case d1 => simp
  case d2 =>
    intro hp
    have hp' : 0 < l.length := by simpa using hp
    obtain ⟨g, z, rfl, hcs⟩ := HVC.out hp'
    refine ⟨_, rfl, fun j u hu => ?_⟩
    simp only [Addr.add_lit]
    exact at_old HB1.out (hcs j u hu)
  case d3 => simp; omega
  case d4 => intro u hu; simp at hu; obtain ⟨a, -, rfl⟩ := hu; rfl
  intro w2 HG2 hb2
  obtain ⟨cs2, hcs2⟩ : ∃ cs2, cs2 = splice cur 0 (l.map fun a => Value.int .i64 a) := ⟨_, rfl⟩
  have hl2 : cs2.length = l.length + 2 := by rw [hcs2, length_splice _ _ _ (by simp; omega), hcl]
  have hat : ∀ (i : Nat) (a : Int), l[i]? = some a → cs2[i]? = some (Value.int .i64 a) := by
    intro i a ha
    rw [hcs2]
    unfold splice
    have hil : i < l.length := (List.getElem?_eq_some_iff.1 ha).1
    rw [List.take_zero, List.nil_append, List.getElem?_append_left (by simpa using hil)]
    simp [ha]
  have h2 := HG2.out
  rw [← hcs2] at h2
  clear HG2 hcs2 HB1 hb1 hcur HVC hcl
  obtain ⟨o1, ho1⟩ : ∃ o1, cs2[l.length]? = some o1 := ⟨_, List.getElem?_eq_getElem (by omega)⟩
  obtain ⟨o2, ho2⟩ : ∃ o2, cs2[l.length + 1]? = some o2 := ⟨_, List.getElem?_eq_getElem (by omega)⟩
  have e1 : w2.cell? ⟨G, l.length, none⟩ = some o1 := (cell_of_row w2 G l.length _ _ _ h2).trans (by simpa using ho1)
  have e2 : w2.cell? ⟨G, l.length + 1, none⟩ = some o2 := (cell_of_row w2 G (l.length + 1) _ _ _ h2).trans (by simpa using ho2)
  have f1 : w2.frozen? ⟨G, l.length, none⟩ = false := frozen_of_row w2 G _ _ _ h2
  have f2 : w2.frozen? ⟨G, l.length + 1, none⟩ = false := frozen_of_row w2 G _ _ _ h2
  have HFIN : Hid (LentAt ((w2.setCell ⟨G, l.length, none⟩ (.int .i64 77)).setCell ⟨G, l.length + 1, none⟩ (.int .i64 77)) G l ∧ Below w.heap.size w ((w2.setCell ⟨G, l.length, none⟩ (.int .i64 77)).setCell ⟨G, l.length + 1, none⟩ (.int .i64 77))) := by
    have h3 := heap_setCell_same w2 G l.length _ _ (.int .i64 77) h2
    have h4 := heap_setCell_same _ G (l.length + 1) _ _ (.int .i64 77) h3
    refine ⟨⟨_, h4, by simp [hl2], fun i a ha => ?_, ?_, ?_⟩, (hb2.setCell (p := ⟨G, l.length, none⟩) hGw _).setCell (p := ⟨G, l.length + 1, none⟩) hGw _⟩
    · have hil : i < l.length := (List.getElem?_eq_some_iff.1 ha).1
      have := hat i a ha
      simp only [Array.getElem?_setIfInBounds]
      rw [if_neg (by omega), if_neg (by omega)]
      simpa using this
    · simp only [Array.getElem?_setIfInBounds]
      rw [if_neg (by omega), if_pos trivial, if_pos (by simp; omega)]
    · simp only [Array.getElem?_setIfInBounds]
      rw [if_pos trivial, if_pos (by simp; omega)]
  clear h2 hb2 hat ho1 ho2 hl2
  go_wp2
  go_ret
  exact ⟨G, rfl, hGw, HFIN.out⟩

def KtRel (l : List Int) (i : Value) : Prop := ∃ k : Nat, k ≤ l.length ∧ i = .int .i64 k
set_option maxHeartbeats 4000000 in
set_option maxRecDepth 100000 in
theorem kept_any (l : List Int) (v : Value) (G : Nat) (w : World) (hv : IntsAt w v l) (hg : LentAt w G l) (hl : l.length ≤ 18000000000000) :
    Calls Tryz.prog 122 #[.slice (some ⟨G, 0, none⟩) l.length (l.length + 2), v] w fun e w' => e = .returned (.bool true) ∧ Below w.heap.size w w' := by
  obtain ⟨ao, cap, rfl, hvc⟩ := hv
  obtain ⟨cur, hh, hsz, hat, e1, e2⟩ := hg
  have HVC := hide hvc
  have HAT := hide (fun i a ha => (cell_of_row w G i _ _ _ hh).trans (hat i a ha))
  have c1 : w.cell? ⟨G, l.length, none⟩ = some (.int .i64 77) := (cell_of_row w G l.length _ _ _ hh).trans e1
  have c2 : w.cell? ⟨G, l.length + 1, none⟩ = some (.int .i64 77) := (cell_of_row w G (l.length + 1) _ _ _ hh).trans e2
  clear hvc hh hsz hat e1 e2
  go_enter Tryz.func122, Tryz.ntmps122
  go_wp2
  go_loopw [6] (fun i wr => KtRel l i ∧ Below w.heap.size w wr) (fun i _ => l.length - (intOf i).toNat)
  case atStart => exact ⟨⟨0, Nat.zero_le _, rfl⟩, Below.refl _ _⟩
  case round =>
    obtain ⟨⟨k, hk, rfl⟩, hb⟩ := hrel
    have HB := hide hb
    by_cases hlt : k < l.length
    · have tk : decide ((k : Int) < (l.length : Int)) = true := by simp; omega
      obtain ⟨g, z, rfl, hcs⟩ := HVC.out (by omega)
      obtain ⟨a, ha⟩ : ∃ a, l[k]? = some a := ⟨l[k], by simp [hlt]⟩
      have d1 : wr.cell? ⟨g, z + k, none⟩ = some (.int .i64 a) := at_old hb (hcs k a ha)
      have d2 : wr.cell? ⟨G, k, none⟩ = some (.int .i64 a) := at_old hb (HAT.out k a ha)
      have ta : (a != a) = false := by simp
      have i1 : (k : Int) < (l.length : Int) := by omega
      have i2 : (k : Int) < (l.length : Int) + 2 := by omega
      clear hcs ha hb
      go_wp2
      go_quiet (fail)
      go_wp2
      go_roundw
      case rel => exact ⟨⟨k + 1, by omega, by go_num⟩, below_drewN HB.out nq⟩
      case measure => simp [intOf]; omega
    · have tk : decide ((k : Int) < (l.length : Int)) = false := by simp; omega
      have d1 : wr.cell? ⟨G, l.length, none⟩ = some (.int .i64 77) := at_old hb c1
      have d2 : wr.cell? ⟨G, l.length + 1, none⟩ = some (.int .i64 77) := at_old hb c2
      clear hb
      go_wp2
      go_ret
      exact ⟨rfl, HB.out⟩
end Go.Proofs.YtellilpeakpbfabGreatDoor

end

section
/-
  World.call: what its drawn regions leave, whichever order was drawn.
-/
namespace Go.Proofs.YtellilpeakpbfabGreatDoor
open Go.RowKit

/-- the arguments of a call as the script holds them: below a border. -/
def ArgsAt (L : Nat) (w : World) (v : Value) (l : List Int) : Prop := IntsAt w v l ∧ InLow v l L ∧ l.length ≤ 18000000000000 ∧ ∀ a ∈ l, -9223372036854775808 ≤ a ∧ a ≤ 9223372036854775807
theorem ArgsAt.below {L : Nat} {w w' : World} {v : Value} {l : List Int} (h : ArgsAt L w v l) (hb : Below L w w') : ArgsAt L w' v l := ⟨h.1.low h.2.1 hb, h.2⟩
theorem ArgsAt.up {L L' : Nat} {w : World} {v : Value} {l : List Int} (h : ArgsAt L w v l) (hL : L ≤ L') : ArgsAt L' w v l := ⟨h.1, fun hp g hg => Nat.lt_of_lt_of_le (h.2.1 hp g hg) hL, h.2.2⟩

/-- two variables are made and written, whenever. -/
structure Kw (w1 y x : World) (cb ob : Option (Nat × Array Value)) : Prop where
  old : Below w1.heap.size w1 x
  fr : Fr 0 [146, 45] none y x
  con : ∀ b cur, cb = some (b, cur) → w1.heap.size ≤ b ∧ x.heap[b]? = some (.cells cur 146 (0, 0))
  out : ∀ b cur, ob = some (b, cur) → w1.heap.size ≤ b ∧ x.heap[b]? = some (.cells cur 45 (0, 0))
theorem Kw.base (w1 : World) : Kw w1 w1 w1 none none := ⟨Below.refl _ _, Fr.refl _ _ _ _, fun _ _ h => (by cases h), fun _ _ h => (by cases h)⟩
theorem Kw.drew {w1 y x : World} {cb ob : Option (Nat × Array Value)} (h : Kw w1 y x cb ob) : Kw w1 y x.drew cb ob := ⟨h.old.drew, ⟨h.fr.below.drew, h.fr.block⟩, h.con, h.out⟩
theorem Kw.call {w1 y x z : World} {cb ob : Option (Nat × Array Value)} (h : Kw w1 y x cb ob) (hb : Below x.heap.size x z) : Kw w1 z z cb ob := by
  refine ⟨below_then h.old hb, Fr.refl _ _ _ _, fun b cur e => ?_, fun b cur e => ?_⟩
  · obtain ⟨h1, h2⟩ := h.con b cur e
    exact ⟨h1, (hb.block b (Array.getElem?_eq_some_iff.1 h2).1).trans h2⟩
  · obtain ⟨h1, h2⟩ := h.out b cur e
    exact ⟨h1, (hb.block b (Array.getElem?_eq_some_iff.1 h2).1).trans h2⟩
theorem Kw.new {w1 y x : World} {cb ob : Option (Nat × Array Value)} (h : Kw w1 y x cb ob) (o : Obj) : Kw w1 y (x.alloc o) cb ob := by
  have hb : Below x.heap.size x (x.alloc o) := (Below.refl _ _).alloc (Nat.le_refl _) _
  refine ⟨below_then h.old hb, h.fr.trans (Fr.of hb (Nat.zero_le _)), fun b cur e => ?_, fun b cur e => ?_⟩
  · obtain ⟨h1, h2⟩ := h.con b cur e
    exact ⟨h1, (hb.block b (Array.getElem?_eq_some_iff.1 h2).1).trans h2⟩
  · obtain ⟨h1, h2⟩ := h.out b cur e
    exact ⟨h1, (hb.block b (Array.getElem?_eq_some_iff.1 h2).1).trans h2⟩
theorem Kw.newC {w1 y x : World} {ob : Option (Nat × Array Value)} {cur : Array Value} (h : Kw w1 y x none ob) : Kw w1 y (x.alloc (.cells cur 146)) (some (x.heap.size, cur)) ob :=
  ⟨(h.new _).old, (h.new _).fr, fun b cur' e => (by cases e; exact ⟨h.old.size, heap_alloc_new x _⟩), (h.new _).out⟩
theorem Kw.newO {w1 y x : World} {cb : Option (Nat × Array Value)} {cur : Array Value} (h : Kw w1 y x cb none) : Kw w1 y (x.alloc (.cells cur 45)) cb (some (x.heap.size, cur)) :=
  ⟨(h.new _).old, (h.new _).fr, (h.new _).con, fun b cur' e => (by cases e; exact ⟨h.old.size, heap_alloc_new x _⟩)⟩
theorem Kw.newC' {w1 y x : World} {b : Nat} {ob : Option (Nat × Array Value)} {cur : Array Value} (h : Kw w1 y x none ob) (hb : b = x.heap.size) : Kw w1 y (x.alloc (.cells cur 146)) (some (b, cur)) ob := hb ▸ h.newC
theorem Kw.newO' {w1 y x : World} {b : Nat} {cb : Option (Nat × Array Value)} {cur : Array Value} (h : Kw w1 y x cb none) (hb : b = x.heap.size) : Kw w1 y (x.alloc (.cells cur 45)) cb (some (b, cur)) := hb ▸ h.newO
theorem Kw.setC {w1 y x : World} {b : Nat} {cur : Array Value} {ob : Option (Nat × Array Value)} {j : Nat} {v : Value} (h : Kw w1 y x (some (b, cur)) ob) : Kw w1 y (x.setCell ⟨b, j, none⟩ v) (some (b, cur.setIfInBounds j v)) ob := by
  obtain ⟨h1, h2⟩ := h.con b cur rfl
  have f1 : Fr 0 [146] none x (x.setCell ⟨b, j, none⟩ v) := (fr_setCell x b j v (Nat.zero_le _)).typed (fun k hk => by cases hk; exact ⟨_, _, _, h2, by simp⟩) none
  refine ⟨belowS h.old h1 v, h.fr.trans (f1.wide (by simp)), fun b' cur' e => ?_, fun b' cur' e => ?_⟩
  · cases e
    exact ⟨h1, heap_setCell_same x b j _ _ v h2⟩
  · obtain ⟨g1, g2⟩ := h.out b' cur' e
    exact ⟨g1, f1.block b' _ _ _ g2 (by decide) (by simp)⟩
theorem Kw.setO {w1 y x : World} {b : Nat} {cur : Array Value} {cb : Option (Nat × Array Value)} {j : Nat} {v : Value} (h : Kw w1 y x cb (some (b, cur))) : Kw w1 y (x.setCell ⟨b, j, none⟩ v) cb (some (b, cur.setIfInBounds j v)) := by
  obtain ⟨h1, h2⟩ := h.out b cur rfl
  have f1 : Fr 0 [45] none x (x.setCell ⟨b, j, none⟩ v) := (fr_setCell x b j v (Nat.zero_le _)).typed (fun k hk => by cases hk; exact ⟨_, _, _, h2, by simp⟩) none
  refine ⟨belowS h.old h1 v, h.fr.trans (f1.wide (by simp)), fun b' cur' e => ?_, fun b' cur' e => ?_⟩
  · obtain ⟨g1, g2⟩ := h.con b' cur' e
    exact ⟨g1, f1.block b' _ _ _ g2 (by decide) (by simp)⟩
  · cases e
    exact ⟨h1, heap_setCell_same x b j _ _ v h2⟩

theorem Kw.setC' {w1 y x : World} {b : Nat} {cur cur' : Array Value} {ob : Option (Nat × Array Value)} {j : Nat} {v : Value} (h : Kw w1 y x (some (b, cur)) ob) (hc : cur' = cur.setIfInBounds j v) : Kw w1 y (x.setCell ⟨b, j, none⟩ v) (some (b, cur')) ob := hc ▸ h.setC
theorem Kw.setO' {w1 y x : World} {b : Nat} {cur cur' : Array Value} {cb : Option (Nat × Array Value)} {j : Nat} {v : Value} (h : Kw w1 y x cb (some (b, cur))) (hc : cur' = cur.setIfInBounds j v) : Kw w1 y (x.setCell ⟨b, j, none⟩ v) cb (some (b, cur')) := hc ▸ h.setO
/-- .. whatever was ahead. -/
def Kx (w1 x : World) (cb ob : Option (Nat × Array Value)) : Prop := ∃ y, Kw w1 y x cb ob
theorem Kx.base (w1 : World) : Kx w1 w1 none none := ⟨_, Kw.base w1⟩
theorem Kx.drew {w1 x : World} {cb ob : Option (Nat × Array Value)} (h : Kx w1 x cb ob) : Kx w1 x.drew cb ob := by obtain ⟨y, h⟩ := h; exact ⟨y, h.drew⟩
theorem Kx.call {w1 x z : World} {cb ob : Option (Nat × Array Value)} (h : Kx w1 x cb ob) (hb : Below x.heap.size x z) : Kx w1 z cb ob := by obtain ⟨y, h⟩ := h; exact ⟨_, h.call hb⟩
theorem Kx.newC {w1 x : World} {ob : Option (Nat × Array Value)} {cur : Array Value} (h : Kx w1 x none ob) : Kx w1 (x.alloc (.cells cur 146)) (some (x.heap.size, cur)) ob := by obtain ⟨y, h⟩ := h; exact ⟨y, h.newC⟩
theorem Kx.newO {w1 x : World} {cb : Option (Nat × Array Value)} {cur : Array Value} (h : Kx w1 x cb none) : Kx w1 (x.alloc (.cells cur 45)) cb (some (x.heap.size, cur)) := by obtain ⟨y, h⟩ := h; exact ⟨y, h.newO⟩
theorem Kw.ofx {w1 x z : World} {cb ob : Option (Nat × Array Value)} (h : Kx w1 x cb ob) (hb : Below x.heap.size x z) : Kw w1 z z cb ob := by obtain ⟨y, h⟩ := h; exact h.call hb
theorem Kw.apart {w1 y x : World} {b b' : Nat} {cur cur' : Array Value} (h : Kw w1 y x (some (b, cur)) (some (b', cur'))) : b ≠ b' := by
  intro e
  subst e
  have h1 := (h.con _ _ rfl).2
  rw [(h.out _ _ rfl).2] at h1
  cases h1

/-- the two variables, behind the document's answer. -/
def CutK (w1 : World) (C' : Jn.Con) (val used : Int) (n : Nat) (er : Int) (s7 s8 s9 s10 : Value) (wx : World) : Prop :=
  ∃ Bc Bo so sk po pk, s7 = .pointer (some ⟨Bc, 0, none⟩) ∧ s8 = .pointer (some ⟨Bo, 0, none⟩) ∧ s9 = .int .i64 n ∧ s10 = .int .i64 er ∧
    wx.heap[Bc]? = some (.cells #[.slice so C'.list.length sk, .slice po C'.procs.length pk] 146 (0, 0)) ∧ wx.heap[Bo]? = some (.cells #[.int .i64 val, .int .i64 used] 45 (0, 0)) ∧
    CRow wx 0 (.slice so C'.list.length sk) C'.list ∧ PRow wx 0 (.slice po C'.procs.length pk) C'.procs ∧ Below w1.heap.size w1 wx
theorem cutk {w1 wp wx : World} {C' : Jn.Con} {Cp : List (Jn.Bytes × Jn.Bytes)} {val used er : Int} {n Bc Bo : Nat} {so po : Option Addr} {sk pk : Nat} {c o : Array Value}
    (h : Kw w1 wp wx (some (Bc, c)) (some (Bo, o))) (h1 : CRow wp 0 (.slice so C'.list.length sk) C'.list) (hp : C'.procs = Cp) (h2 : PRow wp 0 (.slice po Cp.length pk) Cp)
    (hc : c = #[.slice so C'.list.length sk, .slice po Cp.length pk]) (ho : o = #[.int .i64 val, .int .i64 used]) :
    CutK w1 C' val used n er (.pointer (some ⟨Bc, 0, none⟩)) (.pointer (some ⟨Bo, 0, none⟩)) (.int .i64 n) (.int .i64 er) wx := by
  subst hp hc ho
  exact ⟨Bc, Bo, so, sk, po, pk, rfl, rfl, rfl, rfl, (h.con _ _ rfl).2, (h.out _ _ rfl).2, own_fr h1 h.fr (by decide) (.inl rfl), own_fr h2 h.fr (by decide) (.inl rfl), h.old⟩

/-- the third variable, behind the program's. -/
def CutG (L S B : Nat) (f : Int) (r : Jn.Con × Int × Int × List UInt8 × Int) (wc : World) (s12 s13 s14 : Value) (wx : World) : Prop :=
  ∃ Bg v, s12 = .pointer (some ⟨Bg, 0, none⟩) ∧ v = s13 ∧ s14 = .int .i64 r.2.2.2.2 ∧ wx.heap[Bg]? = some (.cells #[.int .i64 r.2.1, .int .i64 r.2.2.1] 45 (0, 0)) ∧ StAt L wx S B r.1 f ∧ Fr L [123] none wc wx ∧
    ((r.2.2.2.1 = [] ∧ v = .slice none 0 0) ∨ (r.2.2.2.1 ≠ [] ∧ ARow wx wc.heap.size v [(1, f, Jn.record r.2.2.2.1)]))
theorem cutg_last {L S B : Nat} {f : Int} {r : Jn.Con × Int × Int × List UInt8 × Int} {wc wp : World} {v : Value} (hst : StAt L wp S B r.1 f) (hfr : Fr L [123] none wc wp)
    (hor : (r.2.2.2.1 = [] ∧ v = .slice none 0 0) ∨ (r.2.2.2.1 ≠ [] ∧ ARow wp wc.heap.size v [(1, f, Jn.record r.2.2.2.1)])) :
    CutG L S B f r wc (.pointer (some ⟨wp.heap.size, 0, none⟩)) v (.int .i64 r.2.2.2.2) (wp.alloc (.cells #[.int .i64 r.2.1, .int .i64 r.2.2.1] 45)) := by
  have hba : Below wp.heap.size wp (wp.alloc (.cells #[.int .i64 r.2.1, .int .i64 r.2.2.1] 45)) := (Below.refl _ _).alloc (Nat.le_refl _) _
  have hL : L ≤ wp.heap.size := Nat.le_trans hst.low (Nat.le_of_lt hst.lt)
  exact ⟨_, _, rfl, rfl, rfl, heap_alloc_new wp _, hst.below hba, hfr.trans (Fr.of hba hL), hor.imp id fun ⟨a, b⟩ => ⟨a, ownsRow_below b hba⟩⟩
theorem cutg_set {L S B Bg : Nat} {f : Int} {r : Jn.Con × Int × Int × List UInt8 × Int} {wc wa wp : World} {v : Value} (hLc : L ≤ wc.heap.size) (hwa : Below wc.heap.size wc wa) (hBg : wc.heap.size ≤ Bg) (hst : StAt L wp S B r.1 f) (hfr : Fr L [123] none wa wp)
    (hcur : wp.heap[Bg]? = some (.cells #[.int .i64 0, .int .i64 0] 45 (0, 0)))
    (hor : (r.2.2.2.1 = [] ∧ v = .slice none 0 0) ∨ (r.2.2.2.1 ≠ [] ∧ ARow wp wa.heap.size v [(1, f, Jn.record r.2.2.2.1)])) :
    CutG L S B f r wc (.pointer (some ⟨Bg, 0, none⟩)) v (.int .i64 r.2.2.2.2) ((wp.setCell ⟨Bg, 0, none⟩ (.int .i64 r.2.1)).setCell ⟨Bg, 1, none⟩ (.int .i64 r.2.2.1)) := by
  have g1 := heap_setCell_same wp Bg 0 _ _ (.int .i64 r.2.1) hcur
  have g2 := heap_setCell_same (wp.setCell ⟨Bg, 0, none⟩ (.int .i64 r.2.1)) Bg 1 _ _ (.int .i64 r.2.2.1) g1
  have hLB : L ≤ Bg := Nat.le_trans hLc hBg
  have f0 : Fr L [] (some Bg) wp ((wp.setCell ⟨Bg, 0, none⟩ (.int .i64 r.2.1)).setCell ⟨Bg, 1, none⟩ (.int .i64 r.2.2.1)) := (fr_setCell wp Bg 0 _ hLB).trans (fr_setCell _ Bg 1 _ hLB)
  have f1 : Fr L [45] none wp ((wp.setCell ⟨Bg, 0, none⟩ (.int .i64 r.2.1)).setCell ⟨Bg, 1, none⟩ (.int .i64 r.2.2.1)) :=
    (f0.wide (T' := [45]) (by simp)).typed (fun k hk => by cases hk; exact ⟨_, _, _, hcur, by simp⟩) none
  refine ⟨Bg, v, rfl, rfl, rfl, by rw [g2]; simp, hst.fr f1 (by decide) (by decide) (by decide) (by simp), ?_, hor.imp id fun ⟨a, b⟩ => ⟨a, ?_⟩⟩
  · have h1 : Fr L [123] none wc wp := (Fr.of hwa hLc).trans hfr
    refine ⟨h1.below.trans f0.below, fun k cur t z hk ht hX => f0.block k cur t z (h1.block k cur t z hk ht hX) (by simp) ?_⟩
    have hlt := (Array.getElem?_eq_some_iff.1 hk).1
    intro e
    cases e
    omega
  · have h1 := own_fr b f1 (by decide) (.inl rfl)
    exact ownsRow_base h1 hwa.size
end Go.Proofs.YtellilpeakpbfabGreatDoor

end

section
/-
  The walk of World.call.
-/
namespace Go.Proofs.YtellilpeakpbfabGreatDoor
open Go.RowKit

end Go.Proofs.YtellilpeakpbfabGreatDoor

end
