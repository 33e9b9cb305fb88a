import Derived.Test.YtellilpeakpbfabGreatDoorTrQToo
import Derived.Test.YtellilpeakpbfabGreatDoorStoreCToo
import Derived.Test.YtellilpeakpbfabGreatDoorRefPToo
import Derived.Test.YtellilpeakpbfabGreatDoorTrEToo
section
/-
  The cells as the document keeps them, and as writes leave them; no Go text.
-/
namespace Go.Proofs.YtellilpeakpbfabGreatDoor
open Go.RowKit
namespace Rn

def opW (p : Int × Bool × Int) : Option Int := if p.2.1 = true then some p.2.2 else none
/-- the contents behind writes. -/
def conW (C : Jn.Con) (ws : List (Int × Bool × Int)) : Jn.Con := ws.foldl (fun C p => Jn.setC C p.1 (opW p)) C
theorem conW_snoc (C : Jn.Con) (ws : List (Int × Bool × Int)) (p : Int × Bool × Int) : conW C (ws ++ [p]) = Jn.setC (conW C ws) p.1 (opW p) := by simp [conW]
theorem conW_procs (ws : List (Int × Bool × Int)) : ∀ C, (conW C ws).procs = C.procs := by
  induction ws with
  | nil => intro C; rfl
  | cons p r ih => intro C; show (conW (Jn.setC C p.1 (opW p)) r).procs = _; rw [ih]; rfl
theorem conW_len (ws : List (Int × Bool × Int)) : ∀ C, (conW C ws).cells.length = C.cells.length := by
  induction ws with
  | nil => intro C; rfl
  | cons p r ih => intro C; show (conW (Jn.setC C p.1 (opW p)) r).cells.length = _; rw [ih]; simp [Jn.setC]
/-- writes that may be: each of another cell; what is not there has the value 0. -/
structure Wr (ws : List (Int × Bool × Int)) : Prop where
  ok : ∀ p ∈ ws, WrOk p
  one : ws.Pairwise (fun p q => p.1 ≠ q.1)
  nought : ∀ p ∈ ws, p.2.1 = false → p.2.2 = 0
theorem conW_ok (ws : List (Int × Bool × Int)) : ∀ C, Jn.Ok C → (∀ p ∈ ws, WrOk p) → Jn.Ok (conW C ws) := by
  induction ws with
  | nil => intro C h _; exact h
  | cons p r ih =>
    intro C h hw
    refine ih _ (h.set _ _ (fun v hv => ?_)) (fun q hq => hw q (by simp [hq]))
    have := (hw p (by simp)).2
    unfold opW at hv
    split at hv
    · cases hv; unfold Jn.isVal; simp; exact this
    · cases hv
theorem key_nat {k : Int} (h : Jn.isKey k = true) : (k.toNat : Int) = k ∧ k.toNat ≤ 99 := by unfold Jn.isKey at h; simp at h; omega
/-- a cell behind writes. -/
theorem conW_at (ws : List (Int × Bool × Int)) : ∀ (C : Jn.Con) (j : Nat), C.cells.length = 100 → Wr ws → j < 100 →
    (conW C ws).cells.getD j none = match ws.find? (fun p => p.1 == (j : Int)) with | some p => opW p | none => C.cells.getD j none := by
  induction ws with
  | nil => intro C j _ _ _; rfl
  | cons p r ih =>
    intro C j hl hw hj
    have hw' : Wr r := ⟨fun q hq => hw.ok q (by simp [hq]), (List.pairwise_cons.1 hw.one).2, fun q hq => hw.nought q (by simp [hq])⟩
    have hlen : (Jn.setC C p.1 (opW p)).cells.length = 100 := by simp [Jn.setC, hl]
    have h1 := ih (Jn.setC C p.1 (opW p)) j hlen hw' hj
    show (conW (Jn.setC C p.1 (opW p)) r).cells.getD j none = _
    rw [h1]
    obtain ⟨k1, k2⟩ := key_nat (hw.ok p (by simp)).1
    by_cases he : p.1 = (j : Int)
    · have hn : r.find? (fun p => p.1 == (j : Int)) = none := by
        rw [List.find?_eq_none]
        intro q hq
        have := (List.pairwise_cons.1 hw.one).1 q hq
        simp
        omega
      have hf : (p :: r).find? (fun p => p.1 == (j : Int)) = some p := by rw [List.find?_cons_of_pos]; simpa using he
      rw [hn, hf]
      have hj2 : p.1.toNat = j := by omega
      simp only [Jn.setC, hj2]
      rw [List.getD_eq_getElem?_getD, List.getElem?_set_self (by omega)]
      rfl
    · have hf : (p :: r).find? (fun p => p.1 == (j : Int)) = r.find? (fun p => p.1 == (j : Int)) := by rw [List.find?_cons_of_neg]; simpa using he
      rw [hf]
      have hj2 : p.1.toNat ≠ j := by omega
      have e : (Jn.setC C p.1 (opW p)).cells.getD j none = C.cells.getD j none := by
        simp only [Jn.setC]
        rw [List.getD_eq_getElem?_getD, List.getElem?_set_ne hj2, List.getD_eq_getElem?_getD]
      rw [e]
theorem find_find (ws : List (Int × Bool × Int)) (k : Int) : ws[find ws k]? = ws.find? (fun p => p.1 == k) := by
  unfold find
  induction ws with
  | nil => rfl
  | cons p r ih =>
    by_cases h : (p.1 == k) = true
    · have hf : (p :: r).find? (fun p => p.1 == k) = some p := List.find?_cons_of_pos (p := fun q : Int × Bool × Int => q.1 == k) h
      rw [List.findIdx_cons, h, hf]; rfl
    · have h' : (p.1 == k) = false := by simpa using h
      have hf : (p :: r).find? (fun p => p.1 == k) = r.find? (fun p => p.1 == k) := List.find?_cons_of_neg (p := fun q : Int × Bool × Int => q.1 == k) h
      rw [List.findIdx_cons, h', hf]
      simpa using ih
/-- what is got is what the cells behind the writes hold. -/
theorem get_view (E : En) (s : St) (k : Int) (hc : E.con.cells.length = 100) (hw : Wr s.writes) (hk : Jn.isKey k = true) :
    get E s k = (((conW E.con s.writes).cells.getD k.toNat none).getD 0, ((conW E.con s.writes).cells.getD k.toNat none).isSome, 0) := by
  obtain ⟨k1, k2⟩ := key_nat hk
  have h := conW_at s.writes E.con k.toNat hc hw (by omega)
  rw [k1] at h
  rw [h]
  unfold get
  rw [find_find]
  cases hf : s.writes.find? (fun p => p.1 == k) with
  | none =>
    simp only
    unfold held
    rw [if_pos hk]
  | some p =>
    simp only
    have hm := List.mem_of_find?_eq_some hf
    unfold opW
    cases hb : p.2.1 with
    | true => rw [if_pos rfl]; rfl
    | false => rw [if_neg (by simp), hw.nought p hm hb]; rfl
theorem list_ext (a b : List (Option Int)) (hl : a.length = b.length) (h : ∀ j, j < a.length → a.getD j none = b.getD j none) : a = b := by
  apply List.ext_getElem? 
  intro j
  by_cases hj : j < a.length
  · have := h j hj
    rw [List.getD_eq_getElem?_getD, List.getD_eq_getElem?_getD, List.getElem?_eq_getElem hj, List.getElem?_eq_getElem (by omega)] at this
    rw [List.getElem?_eq_getElem hj, List.getElem?_eq_getElem (by omega)]
    simpa using this
  · rw [List.getElem?_eq_none (by omega), List.getElem?_eq_none (by omega)]
/-- a write that takes another's place. -/
theorem Wr.put {s : St} (h : Wr s.writes) (p : Int × Bool × Int) (hp : WrOk p) (hz : p.2.1 = false → p.2.2 = 0) (h0 : (put s p).1 = 0) : Wr (put s p).2.writes ∧ ∀ C : Jn.Con, C.cells.length = 100 → conW C (put s p).2.writes = Jn.setC (conW C s.writes) p.1 (opW p) := by
  unfold Rn.put at h0 ⊢
  rw [if_neg (by rw [hp.1]; simp)] at h0 ⊢
  by_cases hlt : find s.writes p.1 < s.writes.length
  · rw [if_pos hlt]
    simp only
    obtain ⟨k1, k2⟩ := key_nat hp.1
    have hff := find_find s.writes p.1
    rw [List.getElem?_eq_getElem hlt] at hff
    have hkey : (s.writes[find s.writes p.1]).1 = p.1 := by
      have := List.find?_some hff.symm
      simpa using this
    have hwr : Wr (s.writes.set (find s.writes p.1) p) := by
      refine ⟨fun q hq => ?_, ?_, fun q hq hb => ?_⟩
      · rcases List.mem_or_eq_of_mem_set hq with h1 | h1
        · exact h.ok q h1
        · rw [h1]; exact hp
      · have e : (s.writes.set (find s.writes p.1) p).map (fun p => p.1) = s.writes.map (fun p => p.1) := by
          rw [List.map_set]
          apply List.ext_getElem?
          intro j
          rw [List.getElem?_set]
          split
          · rename_i hj
            subst hj
            simp only [List.length_map, hlt, if_true, List.getElem?_map, List.getElem?_eq_getElem hlt, Option.map_some, hkey]
          · rfl
        have h1 : (s.writes.map (fun p => p.1)).Pairwise (· ≠ ·) := List.pairwise_map.2 h.one
        rw [← e] at h1
        exact List.pairwise_map.1 h1
      · rcases List.mem_or_eq_of_mem_set hq with h1 | h1
        · exact h.nought q h1 hb
        · rw [h1] at hb ⊢; exact hz hb
    refine ⟨hwr, fun C hC => ?_⟩
    have hA : (conW C (s.writes.set (find s.writes p.1) p)).cells = (Jn.setC (conW C s.writes) p.1 (opW p)).cells := by
      apply list_ext
      · rw [conW_len]; simp [Jn.setC, conW_len]
      · intro j hj
        rw [conW_len, hC] at hj
        rw [conW_at _ C j hC hwr hj]
        by_cases he : p.1 = (j : Int)
        · have hj2 : p.1.toNat = j := by omega
          have hf : (s.writes.set (find s.writes p.1) p).find? (fun q => q.1 == (j : Int)) = some p := by
            rw [← he, ← find_find]
            have e1 : find (s.writes.set (find s.writes p.1) p) p.1 = find s.writes p.1 := by
              apply find_at
              · rw [List.length_set]; omega
              · intro q hq
                rw [List.take_set_of_le (Nat.le_refl _)] at hq
                intro hqk
                obtain ⟨i, hi, hqi⟩ := List.mem_iff_getElem.1 hq
                simp at hi
                have hlt2 : i < find s.writes p.1 := by omega
                have := List.not_of_lt_findIdx (p := fun q : Int × Bool × Int => q.1 == p.1) (xs := s.writes) hlt2
                simp at hqi
                rw [hqi] at this
                simp [hqk] at this
              · intro q hq
                rw [List.getElem?_set_self hlt] at hq
                cases hq; rfl
            rw [e1, List.getElem?_set_self hlt]
          rw [hf]
          simp only [Jn.setC, hj2]
          rw [List.getD_eq_getElem?_getD, List.getElem?_set_self (by rw [conW_len]; omega)]
          rfl
        · have hj2 : p.1.toNat ≠ j := by omega
          have e : (Jn.setC (conW C s.writes) p.1 (opW p)).cells.getD j none = (conW C s.writes).cells.getD j none := by
            simp only [Jn.setC]
            rw [List.getD_eq_getElem?_getD, List.getElem?_set_ne hj2, List.getD_eq_getElem?_getD]
          rw [e, conW_at _ C j hC h hj]
          have hf : (s.writes.set (find s.writes p.1) p).find? (fun q => q.1 == (j : Int)) = s.writes.find? (fun q => q.1 == (j : Int)) := by
            have hd : s.writes.set (find s.writes p.1) p = s.writes.take (find s.writes p.1) ++ p :: s.writes.drop (find s.writes p.1 + 1) := List.set_eq_take_append_cons_drop.trans (if_pos hlt)
            have hd2 : s.writes = s.writes.take (find s.writes p.1) ++ s.writes[find s.writes p.1] :: s.writes.drop (find s.writes p.1 + 1) := by simp
            rw [hd]
            conv => rhs; rw [hd2]
            rw [List.find?_append, List.find?_append, List.find?_cons_of_neg (by simpa using he), List.find?_cons_of_neg (by rw [hkey]; simpa using he)]
          rw [hf]
    have hB : (conW C (s.writes.set (find s.writes p.1) p)).procs = (Jn.setC (conW C s.writes) p.1 (opW p)).procs := by
      rw [conW_procs]; simp [Jn.setC, conW_procs]
    have eta : ∀ X Y : Jn.Con, X.cells = Y.cells → X.procs = Y.procs → X = Y := by
      intro X Y h1 h2
      cases X; cases Y
      simp only at h1 h2
      rw [h1, h2]
    exact eta _ _ hA hB
  · rw [if_neg hlt] at h0 ⊢
    by_cases h8 : 8 ≤ find s.writes p.1
    · rw [if_pos h8] at h0; simp at h0
    · rw [if_neg h8]
      simp only
      have he : find s.writes p.1 = s.writes.length := by have := find_le s.writes p.1; omega
      have hno : ∀ q ∈ s.writes, q.1 ≠ p.1 := by
        intro q hq hqk
        obtain ⟨i, hi, hqi⟩ := List.mem_iff_getElem.1 hq
        have := List.not_of_lt_findIdx (p := fun q : Int × Bool × Int => q.1 == p.1) (xs := s.writes) (by unfold find at he; omega : i < _)
        rw [hqi] at this
        simp [hqk] at this
      refine ⟨⟨fun q hq => ?_, ?_, fun q hq hb => ?_⟩, fun C _ => conW_snoc C _ _⟩
      · rcases List.mem_append.1 hq with h1 | h1
        · exact h.ok q h1
        · simp at h1; rw [h1]; exact hp
      · rw [List.pairwise_append]
        exact ⟨h.one, by simp, fun a ha b hb => by simp at hb; rw [hb]; exact hno a ha⟩
      · rcases List.mem_append.1 hq with h1 | h1
        · exact h.nought q h1 hb
        · simp at h1; rw [h1] at hb ⊢; exact hz hb
end Rn
end Go.Proofs.YtellilpeakpbfabGreatDoor

end

section
/-
  The document's Run in memory; the walks of unit, going, key, plain, sign.
-/
namespace Go.Proofs.YtellilpeakpbfabGreatDoor
open Go.RowKit

def dkCur (tv av cv sv : Value) (E : Rn.En) (s : Rn.St) (er : Int) : Array Value :=
  #[tv, av, .int .i64 s.v0, .int .i64 s.v1, .int .i64 s.v2, .int .i64 s.v3, cv, sv, .int .i64 E.fuel, .int .i64 s.used, .int .i64 er, .bool s.stopped, .int .i64 s.result]
/-- the tokens and the arguments are those of the source that is worked out. -/
structure DkEn (E : Rn.En) (ts : List (List UInt8)) (args : List Int) : Prop where
  tk : E.tk = ts.map Ck.tokenP
  small : ∀ t ∈ ts, t.length ≤ 400
  len : ts.length ≤ 1000
  arg : ∀ k : Nat, k < 4 → Rn.arg E k = args.getD k 0
  four : args.length ≤ 4
/-- The document's Run at block X, without an error. -/
structure DkAt (X : Nat) (w : World) (tv av : Value) (E : Rn.En) (ts : List (List UInt8)) (args : List Int) (s : Rn.St) : Prop where
  mem : ∃ cv sv, w.heap[X]? = some (.cells (dkCur tv av cv sv E s 0) 214 (0, 0)) ∧ CRow w 0 cv (Rn.conW E.con s.writes).list ∧ w.ownsRow (X + 1) 3 1 sv s.writes.length (s.writes.map fun p => .int .i64 p.1)
  toks : w.ownsRow 0 9 1 tv ts.length (ts.map T)
  args : IntsAt w av args ∧ InLow av args X
  fit : Rn.Fit E s
  wr : Rn.Wr s.writes
/-- with one: the units and the error are all that counts. -/
def DkErr (X : Nat) (w : World) (tv : Value) (ts : List (List UInt8)) (used : Nat) (er : Int) : Prop :=
  (∃ cur, w.heap[X]? = some (.cells cur 214 (0, 0)) ∧ cur.size = 13 ∧ cur[0]? = some tv ∧ cur[9]? = some (.int .i64 used) ∧ cur[10]? = some (.int .i64 er) ∧ ∃ b, cur[11]? = some (.bool b)) ∧ w.ownsRow 0 9 1 tv ts.length (ts.map T)
/-- what a call of the document's Run may turn. -/
abbrev DkFr (X : Nat) (w w' : World) : Prop := Fr X [214, 3] none w w'

theorem DkAt.lt {X : Nat} {w : World} {tv av : Value} {E : Rn.En} {ts : List (List UInt8)} {args : List Int} {s : Rn.St} (h : DkAt X w tv av E ts args s) : X < w.heap.size := by
  obtain ⟨cv, sv, hh, -⟩ := h.mem
  exact (Array.getElem?_eq_some_iff.1 hh).1
theorem DkAt.cells {X : Nat} {w : World} {tv av : Value} {E : Rn.En} {ts : List (List UInt8)} {args : List Int} {s : Rn.St} (h : DkAt X w tv av E ts args s) :
    ∃ cv sv, CRow w 0 cv (Rn.conW E.con s.writes).list ∧ w.ownsRow (X + 1) 3 1 sv s.writes.length (s.writes.map fun p => .int .i64 p.1) ∧ w.heap[X]? = some (.cells (dkCur tv av cv sv E s 0) 214 (0, 0)) ∧ (∀ j, w.cell? ⟨X, j, none⟩ = (dkCur tv av cv sv E s 0)[j]?) ∧ ∀ j, w.frozen? ⟨X, j, none⟩ = false := by
  obtain ⟨cv, sv, hh, h1, h2⟩ := h.mem
  exact ⟨cv, sv, h1, h2, hh, fun j => cell_of_row w X j _ _ _ hh, fun j => frozen_of_row w X j _ _ hh⟩
theorem IntsAt.low {X : Nat} {w w' : World} {v : Value} {l : List Int} (h : IntsAt w v l) (hX : InLow v l X) (hb : Below X w w') : IntsAt w' v l := by
  obtain ⟨ao, cap, hv, hc⟩ := h
  refine ⟨ao, cap, hv, fun hp => ?_⟩
  obtain ⟨g, z, hg, hcs⟩ := hc hp
  refine ⟨g, z, hg, fun i a ha => ?_⟩
  have hgx : g < X := hX hp g (by rw [hv, hg]; rfl)
  exact (hb.cell (p := ⟨g, z + i, none⟩) hgx).trans (hcs i a ha)
theorem DkAt.below {X : Nat} {w w' : World} {tv av : Value} {E : Rn.En} {ts : List (List UInt8)} {args : List Int} {s : Rn.St} (h : DkAt X w tv av E ts args s) (hb : Below w.heap.size w w') : DkAt X w' tv av E ts args s := by
  obtain ⟨cv, sv, hh, h1, h2⟩ := h.mem
  exact ⟨⟨cv, sv, (hb.block X h.lt).trans hh, ownsRow_below h1 hb, ownsRow_below h2 hb⟩, ownsRow_below h.toks hb, ⟨h.args.1.below hb, h.args.2⟩, h.fit, h.wr⟩
theorem DkFr.below {X : Nat} {w w' : World} (hb : Below w.heap.size w w') (h : X < w.heap.size) : DkFr X w w' := Fr.of hb (Nat.le_of_lt h)
/-- a cell of the Run is written. -/
theorem DkAt.set {X : Nat} {w : World} {tv av cv sv : Value} {E : Rn.En} {ts : List (List UInt8)} {args : List Int} {s s' : Rn.St} (h : DkAt X w tv av E ts args s) (j : Nat) (u : Value)
    (hm : w.heap[X]? = some (.cells (dkCur tv av cv sv E s 0) 214 (0, 0))) (hcr : CRow w 0 cv (Rn.conW E.con s.writes).list) (hsr : w.ownsRow (X + 1) 3 1 sv s.writes.length (s.writes.map fun p => .int .i64 p.1))
    (hc : (dkCur tv av cv sv E s 0).setIfInBounds j u = dkCur tv av cv sv E s' 0) (hw : s'.writes = s.writes) (hf : Rn.Fit E s') : DkAt X (w.setCell ⟨X, j, none⟩ u) tv av E ts args s' ∧ DkFr X w (w.setCell ⟨X, j, none⟩ u) := by
  have f0 : Fr X [] (some X) w (w.setCell ⟨X, j, none⟩ u) := fr_setCell w X j u (Nat.le_refl _)
  have f2 : Fr X [214] none w (w.setCell ⟨X, j, none⟩ u) := f0.weak hm
  have f1 : DkFr X w (w.setCell ⟨X, j, none⟩ u) := f2.wide (by simp)
  refine ⟨⟨⟨cv, sv, ?_, ?_, ?_⟩, own_fr h.toks f2 (by decide) (.inl rfl), ⟨h.args.1.low h.args.2 f0.below, h.args.2⟩, hf, by rw [hw]; exact h.wr⟩, f1⟩
  · rw [heap_setCell_same w X j _ _ u hm, hc]
  · rw [hw]; exact own_fr hcr f2 (by decide) (.inl rfl)
  · rw [hw]; exact own_fr hsr f0 (by simp) (.inr fun e => by have := own_lies hsr X e.symm; omega)
/-- with an error, all else as it was. -/
structure DkEr (X : Nat) (w : World) (tv av : Value) (E : Rn.En) (ts : List (List UInt8)) (args : List Int) (s : Rn.St) (er : Int) : Prop where
  mem : ∃ cv sv, w.heap[X]? = some (.cells (dkCur tv av cv sv E s er) 214 (0, 0))
  toks : w.ownsRow 0 9 1 tv ts.length (ts.map T)
  args : IntsAt w av args
theorem DkEr.err {X : Nat} {w : World} {tv av : Value} {E : Rn.En} {ts : List (List UInt8)} {args : List Int} {s : Rn.St} {er : Int} (h : DkEr X w tv av E ts args s er) : DkErr X w tv ts s.used er := by
  obtain ⟨cv, sv, hm⟩ := h.mem
  exact ⟨⟨_, hm, rfl, rfl, rfl, rfl, _, rfl⟩, h.toks⟩
theorem DkAt.fail {X : Nat} {w : World} {tv av : Value} {E : Rn.En} {ts : List (List UInt8)} {args : List Int} {s : Rn.St} (h : DkAt X w tv av E ts args s) (er : Int) : DkEr X (w.setCell ⟨X, 10, none⟩ (.int .i64 er)) tv av E ts args s er ∧ DkFr X w (w.setCell ⟨X, 10, none⟩ (.int .i64 er)) := by
  obtain ⟨cv, sv, -, -, hm, -, -⟩ := h.cells
  have f0 : Fr X [] (some X) w (w.setCell ⟨X, 10, none⟩ (.int .i64 er)) := fr_setCell w X 10 _ (Nat.le_refl _)
  have f2 : Fr X [214] none w (w.setCell ⟨X, 10, none⟩ (.int .i64 er)) := f0.weak hm
  exact ⟨⟨⟨cv, sv, heap_setCell_same w X 10 _ _ _ hm⟩, own_fr h.toks f2 (by decide) (.inl rfl), h.args.1.low h.args.2 f0.below⟩, f2.wide (by simp)⟩

/-- what a call of the Run leaves: a state, or an error with the units that were used. -/
def DkOut (X : Nat) (tv av : Value) (E : Rn.En) (ts : List (List UInt8)) (args : List Int) (r : Int × Rn.St) (w w' : World) : Prop :=
  ((r.1 = 0 ∧ DkAt X w' tv av E ts args r.2) ∨ (r.1 ≠ 0 ∧ DkErr X w' tv ts r.2.used r.1)) ∧ DkFr X w w'

set_option maxHeartbeats 1000000 in
set_option maxRecDepth 100000 in
theorem dunit_no (X : Nat) (w : World) (tv av : Value) (E : Rn.En) (ts : List (List UInt8)) (args : List Int) (s : Rn.St) (h : DkAt X w tv av E ts args s) (hu : E.fuel ≤ s.used) :
    Calls Tryz.prog 181 #[.pointer (some ⟨X, 0, none⟩)] w fun e w' => e = .returned (.tuple #[]) ∧ DkEr X w' tv av E ts args s 10 ∧ DkFr X w w' := by
  obtain ⟨cv, sv, hcr, hsr, hm, hc, hz⟩ := h.cells
  have c8 : w.cell? ⟨X, 8, none⟩ = some (.int .i64 E.fuel) := hc 8
  have c9 : w.cell? ⟨X, 9, none⟩ = some (.int .i64 s.used) := hc 9
  have c10 : w.cell? ⟨X, 10, none⟩ = some (.int .i64 0) := hc 10
  have f9 := hz 9
  have f10 := hz 10
  have hus := h.fit.used
  have hX := h.lt
  have HH := hide h
  have t1 : ((s.used : Int) == (E.fuel : Int)) = true := by simp; omega
  have HF := hide (fun n => DkAt.fail (w := w.drewN n) (HH.out.below (below_drewN (Below.refl _ _) n)) 10)
  clear h hc hz hm hcr hsr
  go_enter Tryz.func181, Tryz.ntmps181
  go_wp2
  go_quiet (fail)
  go_wp2
  go_end0
  exact ⟨rfl, (HF.out _).1, (DkFr.below (below_drewN (Below.refl _ _) _) hX).trans (HF.out _).2⟩
set_option maxHeartbeats 1000000 in
set_option maxRecDepth 100000 in
theorem dunit_ok (X : Nat) (w : World) (tv av : Value) (E : Rn.En) (ts : List (List UInt8)) (args : List Int) (s : Rn.St) (h : DkAt X w tv av E ts args s) (hu : s.used < E.fuel) :
    Calls Tryz.prog 181 #[.pointer (some ⟨X, 0, none⟩)] w fun e w' => e = .returned (.tuple #[]) ∧ DkAt X w' tv av E ts args (Rn.use s) ∧ DkFr X w w' := by
  obtain ⟨cv, sv, hcr, hsr, hm, hc, hz⟩ := h.cells
  have c8 : w.cell? ⟨X, 8, none⟩ = some (.int .i64 E.fuel) := hc 8
  have c9 : w.cell? ⟨X, 9, none⟩ = some (.int .i64 s.used) := hc 9
  have c10 : w.cell? ⟨X, 10, none⟩ = some (.int .i64 0) := hc 10
  have f9 := hz 9
  have f10 := hz 10
  have hfu := h.fit.fuel
  have hX := h.lt
  have t1 : ((s.used : Int) == (E.fuel : Int)) = false := by simp; omega
  have HF := hide (fun n => DkAt.set (w := w.drewN n) (s' := Rn.use s) (h.below (below_drewN (Below.refl _ _) n)) 9 (.int .i64 ((s.used : Int) + 1)) hm (own_drewN hcr n) (own_drewN hsr n) rfl rfl (h.fit.use hu))
  clear h hc hz hm hcr hsr
  go_enter Tryz.func181, Tryz.ntmps181
  go_wp2
  go_quiet (fail)
  go_wp2
  go_end0
  exact ⟨rfl, (HF.out _).1, (DkFr.below (below_drewN (Below.refl _ _) _) hX).trans (HF.out _).2⟩
end Go.Proofs.YtellilpeakpbfabGreatDoor

end

section
/-
  The walks of going, key, plain, sign.
-/
namespace Go.Proofs.YtellilpeakpbfabGreatDoor
open Go.RowKit

theorem going_ok (X : Nat) (w : World) (tv av : Value) (E : Rn.En) (ts : List (List UInt8)) (args : List Int) (s : Rn.St) (h : DkAt X w tv av E ts args s) :
    Calls Tryz.prog 168 #[.pointer (some ⟨X, 0, none⟩)] w fun e w' => e = .returned (.bool (!s.stopped)) ∧ w' = w := by
  obtain ⟨cv, sv, -, -, -, hc, -⟩ := h.cells
  have c10 : w.cell? ⟨X, 10, none⟩ = some (.int .i64 0) := hc 10
  have c11 : w.cell? ⟨X, 11, none⟩ = some (.bool s.stopped) := hc 11
  clear h hc
  cases hs : s.stopped
  all_goals
    rw [hs] at c11
    go_enter Tryz.func168, Tryz.ntmps168
    go_wp2
    go_ret
    exact ⟨rfl, rfl⟩
theorem going_no (X : Nat) (w : World) (tv : Value) (ts : List (List UInt8)) (used : Nat) (er : Int) (h : DkErr X w tv ts used er) (he : er ≠ 0) :
    Calls Tryz.prog 168 #[.pointer (some ⟨X, 0, none⟩)] w fun e w' => e = .returned (.bool false) ∧ w' = w := by
  obtain ⟨⟨cur, hh, -, -, -, h10, b, h11⟩, -⟩ := h
  have c10 : w.cell? ⟨X, 10, none⟩ = some (.int .i64 er) := (cell_of_row w X 10 _ _ _ hh).trans h10
  have c11 : w.cell? ⟨X, 11, none⟩ = some (.bool b) := (cell_of_row w X 11 _ _ _ hh).trans h11
  have t1 : (er == 0) = false := by simpa using he
  clear hh h10 h11
  go_enter Tryz.func168, Tryz.ntmps168
  go_wp2
  go_ret
  exact ⟨rfl, rfl⟩

set_option maxHeartbeats 1000000 in
theorem dkey_any (X : Nat) (w : World) (tv av : Value) (E : Rn.En) (ts : List (List UInt8)) (args : List Int) (s : Rn.St) (k : Int) (h : DkAt X w tv av E ts args s) :
    Calls Tryz.prog 195 #[.pointer (some ⟨X, 0, none⟩), .int .i64 k] w fun e w' => e = .returned (.bool (Jn.isKey k)) ∧ ((Jn.isKey k = true ∧ w' = w) ∨ (Jn.isKey k = false ∧ DkErr X w' tv ts s.used 5 ∧ DkFr X w w')) := by
  obtain ⟨cv, sv, -, -, -, hc, hz⟩ := h.cells
  have c10 : w.cell? ⟨X, 10, none⟩ = some (.int .i64 0) := hc 10
  have f10 := hz 10
  have HF := hide (And.intro (h.fail 5).1.err (h.fail 5).2)
  clear h hc hz
  by_cases h0 : k < 0
  · have t1 : decide (k < 0) = true := decide_eq_true h0
    have HE : Hid (Jn.isKey k = false) := by show _ = _; unfold Jn.isKey; simp; omega
    go_enter Tryz.func195, Tryz.ntmps195
    go_wp2
    go_ret
    exact ⟨ret_bool (by rw [HE.out]), .inr ⟨HE.out, HF.out⟩⟩
  · have t1 : decide (k < 0) = false := decide_eq_false h0
    by_cases h1 : 99 < k
    · have t2 : decide (99 < k) = true := decide_eq_true h1
      have HE : Hid (Jn.isKey k = false) := by show _ = _; unfold Jn.isKey; simp; omega
      go_enter Tryz.func195, Tryz.ntmps195
      go_wp2
      go_ret
      exact ⟨ret_bool (by rw [HE.out]), .inr ⟨HE.out, HF.out⟩⟩
    · have t2 : decide (99 < k) = false := decide_eq_false h1
      have HE : Hid (Jn.isKey k = true) := by show _ = _; unfold Jn.isKey; simp; omega
      go_enter Tryz.func195, Tryz.ntmps195
      go_wp2
      go_ret
      exact ⟨ret_bool (by rw [HE.out]), .inl ⟨HE.out, rfl⟩⟩

/-- the sign of a token of two expressions. -/
def signT (t : List UInt8) (a b : Int) : Int := if t = [43] then a + b else if t = [45] then a - b else if t = [42] then a * b else if t = [60] then Rn.oneIf (decide (a < b)) else if t = [61] then Rn.oneIf (a == b) else 0
set_option maxHeartbeats 2000000 in
theorem sign_any (s : ByteArray) (a b : Int) (w : World) (hs : s.data.toList = [43] ∨ s.data.toList = [45] ∨ s.data.toList = [42] ∨ s.data.toList = [60] ∨ s.data.toList = [61]) (a0 : -1000000000 ≤ a) (a1 : a ≤ 1000000000) (b0 : -1000000000 ≤ b) (b1 : b ≤ 1000000000) :
    Calls Tryz.prog 194 #[.string s, .int .i64 a, .int .i64 b] w fun e w' => e = .returned (.int .i64 (signT s.data.toList a b)) ∧ w' = w := by
  obtain ⟨m0, m1⟩ := mul_bd a b a0 a1 b0 b1
  have mk : ∀ l, s.data.toList = l → s = ⟨l.toArray⟩ := fun l h => by rw [← h]
  by_cases hlt : a < b
  · have t1 : decide (a < b) = true := decide_eq_true hlt
    have t2 : (a == b) = false := by simp; omega
    rcases hs with h | h | h | h | h
    all_goals
      rw [h]
      obtain rfl := mk _ h
      clear h
      go_enter Tryz.func194, Tryz.ntmps194
      go_wp2
      go_ret
      first | exact ⟨rfl, rfl⟩ | (refine ⟨?_, rfl⟩; simp [signT, Rn.oneIf, t1, t2])
  · have t1 : decide (a < b) = false := decide_eq_false hlt
    by_cases he : a = b
    · subst he
      have t2 : (a == a) = true := by simp
      rcases hs with h | h | h | h | h
      all_goals
        rw [h]
        obtain rfl := mk _ h
        clear h
        go_enter Tryz.func194, Tryz.ntmps194
        go_wp2
        go_ret
        first | exact ⟨rfl, rfl⟩ | (refine ⟨?_, rfl⟩; simp [signT, Rn.oneIf])
    · have t2 : (a == b) = false := by simpa using he
      rcases hs with h | h | h | h | h
      all_goals
        rw [h]
        obtain rfl := mk _ h
        clear h
        go_enter Tryz.func194, Tryz.ntmps194
        go_wp2
        go_ret
        first | exact ⟨rfl, rfl⟩ | (refine ⟨?_, rfl⟩; simp [signT, Rn.oneIf, t1, t2])
end Go.Proofs.YtellilpeakpbfabGreatDoor

end

section
/-
  The walks of plain and expr.
-/
namespace Go.Proofs.YtellilpeakpbfabGreatDoor
open Go.RowKit

/-- what the document's plain gives. -/
def plainV (args : List Int) (s : Rn.St) (t : List UInt8) : Int :=
  if 0 ≤ Ck.numberR t then Ck.numberR t else if 0 ≤ Ck.slot t 97 ∧ Ck.slot t 97 < args.length then args.getD (Ck.slot t 97).toNat 0 else if 0 ≤ Ck.slot t 118 then Rn.var s (Ck.slot t 118) else 0

set_option maxHeartbeats 2000000 in
set_option maxRecDepth 100000 in
theorem plain_any (X : Nat) (w : World) (tv av cv sv : Value) (E : Rn.En) (args : List Int) (s : Rn.St) (er : Int) (t : ByteArray) (hm : w.heap[X]? = some (.cells (dkCur tv av cv sv E s er) 214 (0, 0))) (ha : IntsAt w av args) (hl : args.length ≤ 4) (ht : t.size ≤ 400) :
    Calls Tryz.prog 193 #[.pointer (some ⟨X, 0, none⟩), .string t] w fun e w' => e = .returned (.int .i64 (plainV args s t.data.toList)) ∧ w' = w := by
  obtain ⟨q, hq⟩ : ∃ q, q = plainV args s t.data.toList := ⟨_, rfl⟩
  rw [← hq]
  unfold plainV at hq
  have HQ := hide hq
  obtain ⟨ao, cap, rfl, hcs⟩ := ha
  have c1 : w.cell? ⟨X, 1, none⟩ = some (.slice ao args.length cap) := (cell_of_row w X 1 _ _ _ hm).trans rfl
  have c2 : w.cell? ⟨X, 2, none⟩ = some (.int .i64 s.v0) := (cell_of_row w X 2 _ _ _ hm).trans rfl
  have c3 : w.cell? ⟨X, 3, none⟩ = some (.int .i64 s.v1) := (cell_of_row w X 3 _ _ _ hm).trans rfl
  have c4 : w.cell? ⟨X, 4, none⟩ = some (.int .i64 s.v2) := (cell_of_row w X 4 _ _ _ hm).trans rfl
  have c5 : w.cell? ⟨X, 5, none⟩ = some (.int .i64 s.v3) := (cell_of_row w X 5 _ _ _ hm).trans rfl
  have HN := hide (fun w => number_any t w ht)
  have HA := hide (fun w => slot_any t 97 w)
  have HV := hide (fun w => slot_any t 118 w)
  have b97 := fun h => Rn.slot_bd t.data.toList 97 h
  have b118 := fun h => Rn.slot_bd t.data.toList 118 h
  have HC := hide hcs
  clear hq hm hcs
  generalize Ck.numberR t.data.toList = n at *
  generalize Ck.slot t.data.toList 97 = sa at *
  generalize Ck.slot t.data.toList 118 = sv' at *
  have HB97 := hide b97
  have HB118 := hide b118
  clear b97 b118
  by_cases h1 : 0 ≤ n
  · have t1 : decide (0 ≤ n) = true := decide_eq_true h1
    have HE : Hid (q = n) := by show _ = _; rw [HQ.out, if_pos h1]
    go_enter Tryz.func193, Tryz.ntmps193
    go_wp2_with fail
    refine (HN.out _).mono ?_
    rintro e w1 ⟨rfl, rfl⟩
    go_wp2_with fail
    refine (HA.out _).mono ?_
    rintro e w1 ⟨rfl, rfl⟩
    go_wp2_with fail
    refine (HV.out _).mono ?_
    rintro e w1 ⟨rfl, rfl⟩
    go_wp2
    go_ret
    rw [HE.out]
    exact ⟨rfl, rfl⟩
  · have t1 : decide (0 ≤ n) = false := decide_eq_false h1
    by_cases h2 : 0 ≤ sa ∧ sa < args.length
    · obtain ⟨a0, a1⟩ := h2
      have t2 : decide (0 ≤ sa) = true := decide_eq_true a0
      have t3 : decide (sa < (args.length : Int)) = true := decide_eq_true a1
      have HE : Hid (q = args.getD sa.toNat 0) := by show _ = _; rw [HQ.out, if_neg h1, if_pos ⟨a0, a1⟩]
      obtain ⟨k, rfl⟩ := Int.eq_ofNat_of_zero_le a0
      obtain ⟨g, z, rfl, hcs⟩ := HC.out (by omega)
      obtain ⟨x, hx⟩ : ∃ x, args[k]? = some x := ⟨args[k]'(by omega), by simp⟩
      have d1 := hcs k x hx
      have HX : Hid (args.getD (k : Int).toNat 0 = x) := by show _ = _; rw [List.getD_eq_getElem?_getD, Int.toNat_natCast, hx]; rfl
      clear hcs hx
      go_enter Tryz.func193, Tryz.ntmps193
      go_wp2_with fail
      refine (HN.out _).mono ?_
      rintro e w1 ⟨rfl, rfl⟩
      go_wp2_with fail
      refine (HA.out _).mono ?_
      rintro e w1 ⟨rfl, rfl⟩
      go_wp2_with fail
      refine (HV.out _).mono ?_
      rintro e w1 ⟨rfl, rfl⟩
      go_wp2
      go_ret
      rw [HE.out, HX.out]
      exact ⟨rfl, rfl⟩
    · have HQ2 : Hid (q = if 0 ≤ sv' then Rn.var s sv' else 0) := by show _ = _; rw [HQ.out, if_neg h1, if_neg h2]
      have hor : decide (0 ≤ sa) = false ∨ (decide (0 ≤ sa) = true ∧ decide (sa < (args.length : Int)) = false) := by
        by_cases a0 : 0 ≤ sa
        · exact .inr ⟨decide_eq_true a0, decide_eq_false (fun h => h2 ⟨a0, h⟩)⟩
        · exact .inl (decide_eq_false a0)
      clear HQ h2
      by_cases h3 : 0 ≤ sv'
      · have hb := HB118.out h3
        have t4 : decide (0 ≤ sv') = true := decide_eq_true h3
        have HE : Hid (q = Rn.var s sv') := by show _ = _; rw [HQ2.out, if_pos h3]
        have hk : sv' = 0 ∨ sv' = 1 ∨ sv' = 2 ∨ sv' = 3 := by omega
        clear HQ2 hb
        rcases hor with t2 | ⟨t2, t3⟩
        all_goals
          rcases hk with rfl | rfl | rfl | rfl
          all_goals
            go_enter Tryz.func193, Tryz.ntmps193
            go_wp2_with fail
            refine (HN.out _).mono ?_
            rintro e w1 ⟨rfl, rfl⟩
            go_wp2_with fail
            refine (HA.out _).mono ?_
            rintro e w1 ⟨rfl, rfl⟩
            go_wp2_with fail
            refine (HV.out _).mono ?_
            rintro e w1 ⟨rfl, rfl⟩
            go_wp2
            go_ret
            rw [HE.out]
            exact ⟨rfl, rfl⟩
      · have t4 : decide (0 ≤ sv') = false := decide_eq_false h3
        have HE : Hid (q = 0) := by show _ = _; rw [HQ2.out, if_neg h3]
        clear HQ2
        rcases hor with t2 | ⟨t2, t3⟩
        all_goals
          go_enter Tryz.func193, Tryz.ntmps193
          go_wp2_with fail
          refine (HN.out _).mono ?_
          rintro e w1 ⟨rfl, rfl⟩
          go_wp2_with fail
          refine (HA.out _).mono ?_
          rintro e w1 ⟨rfl, rfl⟩
          go_wp2_with fail
          refine (HV.out _).mono ?_
          rintro e w1 ⟨rfl, rfl⟩
          go_wp2
          go_ret
          rw [HE.out]
          exact ⟨rfl, rfl⟩
end Go.Proofs.YtellilpeakpbfabGreatDoor

end

section
/-
  What the document's Call answers, and a run by its tree; no Go text.
-/
namespace Go.Proofs.YtellilpeakpbfabGreatDoor
open Go.RowKit
open Tr (Ex Sm Sms Tok kind)
namespace Rn

/-- the contents behind it, the value, the units, how many cells it changes, the error. -/
def dcall (C : Jn.Con) (n : List UInt8) (args : List Int) (fuel : Int) : Jn.Con × Int × Int × Nat × Int :=
  match srcL C.procs n with
  | none => (C, 0, 0, 0, 3)
  | some src => if (run C src args fuel).2.2.2 ≠ 0 then (C, (run C src args fuel).1, (run C src args fuel).2.1, 0, (run C src args fuel).2.2.2) else
    (conW C (run C src args fuel).2.2.1, (run C src args fuel).1, (run C src args fuel).2.1, (run C src args fuel).2.2.1.length, 0)
theorem run_tree (C : Jn.Con) (src : List UInt8) (args : List Int) (fuel : Int) (hok : Jn.Ok C) (hr : (Ck.read src).2 = 0) (hm : may args fuel = true) (b : Sms) (hb : b.Ok) (ht : Ck.toks src = b.flat) :
    tstmts (env C src args fuel) (3 * fuel.toNat + 3) b start = N2 (stmts (env C src args fuel) (3 * fuel.toNat + 3) start) := by
  obtain ⟨-, f0, f1, fb⟩ := may_facts hm
  have hf := fit_start C src args fuel hok hr ⟨f0, f1⟩ fb
  have h := ((tree_all (env C src args fuel) (3 * fuel.toNat + 3)).1 b [] 0 start hb (.inl ⟨rfl, rfl⟩) (by
    show Here (env C src args fuel) 0 (b.flat ++ [])
    unfold Here
    simp only [env, List.drop_zero, List.append_nil, ht]) hf).1
  exact h
theorem run_ok (C : Jn.Con) (src : List UInt8) (args : List Int) (fuel : Int) (hr : (Ck.read src).2 = 0) (hm : may args fuel = true) :
    run C src args fuel = if (stmts (env C src args fuel) (3 * fuel.toNat + 3) start).1 ≠ 0 then ((0 : Int), ((stmts (env C src args fuel) (3 * fuel.toNat + 3) start).2.used : Int), [], (stmts (env C src args fuel) (3 * fuel.toNat + 3) start).1) else
      ((stmts (env C src args fuel) (3 * fuel.toNat + 3) start).2.result, ((stmts (env C src args fuel) (3 * fuel.toNat + 3) start).2.used : Int), (stmts (env C src args fuel) (3 * fuel.toNat + 3) start).2.writes, (0 : Int)) := by
  unfold run
  rw [if_neg (by rw [hm]; simp), if_neg (by simpa using hr)]
/-- by the tree that the source is. -/
theorem run_by (C : Jn.Con) (src : List UInt8) (args : List Int) (fuel : Int) (hok : Jn.Ok C) (hr : (Ck.read src).2 = 0) (hm : may args fuel = true) : ∃ b : Sms, b.Ok ∧ Ck.toks src = b.flat ∧ ∀ t, t = tstmts (env C src args fuel) (3 * fuel.toNat + 3) b start →
    (t.1 ≠ 0 → run C src args fuel = ((0 : Int), (t.2.used : Int), [], t.1)) ∧ (t.1 = 0 → run C src args fuel = (t.2.result, (t.2.used : Int), t.2.writes, (0 : Int))) := by
  obtain ⟨b, hb, ht⟩ := Tr.parse src hr
  refine ⟨b, hb, ht, fun t he => ?_⟩
  rw [run_tree C src args fuel hok hr hm b hb ht] at he
  rw [run_ok C src args fuel hr hm, he]
  generalize stmts (env C src args fuel) (3 * fuel.toNat + 3) start = q
  refine ⟨fun h => ?_, fun h => ?_⟩
  · have h' : q.1 ≠ 0 := h
    rw [if_pos h']; rfl
  · have h' : q.1 = 0 := h
    rw [if_neg (by simpa using h')]; rfl
end Rn
end Go.Proofs.YtellilpeakpbfabGreatDoor

end
