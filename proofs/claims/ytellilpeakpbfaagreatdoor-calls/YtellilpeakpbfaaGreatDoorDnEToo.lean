import Derived.Test.YtellilpeakpbfaaGreatDoorDnToo
import Derived.Test.YtellilpeakpbfaaGreatDoorRefPToo
import Derived.Test.YtellilpeakpbfaaGreatDoorTrSToo
import Derived.Test.YtellilpeakpbfaaGreatDoorRefCToo
section
/-
  The document's Run in memory; the walks of unit, going, key, plain, sign.
-/
namespace Go.Proofs.YtellilpeakpbfaaGreatDoor
open Go.RowKit

def dkCur (tv av cv sv : Value) (E : Rn.En) (s : Rn.St) (er : Int) : Array Value :=
  #[tv, av, .int .i64 s.v0, .int .i64 s.v1, .int .i64 s.v2, .int .i64 s.v3, cv, sv, .int .i64 E.fuel, .int .i64 s.used, .int .i64 er, .bool s.stopped, .int .i64 s.result]
/-- the tokens and the arguments are those of the source that is worked out. -/
structure DkEn (E : Rn.En) (ts : List (List UInt8)) (args : List Int) : Prop where
  tk : E.tk = ts.map Ck.tokenP
  small : ∀ t ∈ ts, t.length ≤ 400
  len : ts.length ≤ 1000
  arg : ∀ k : Nat, k < 4 → Rn.arg E k = args.getD k 0
  four : args.length ≤ 4
/-- The document's Run at block X, without an error. -/
structure DkAt (X : Nat) (w : World) (tv av : Value) (E : Rn.En) (ts : List (List UInt8)) (args : List Int) (s : Rn.St) : Prop where
  mem : ∃ cv sv, w.heap[X]? = some (.cells (dkCur tv av cv sv E s 0) 213 (0, 0)) ∧ CRow w 0 cv (Rn.conW E.con s.writes).list ∧ w.ownsRow (X + 1) 3 1 sv s.writes.length (s.writes.map fun p => .int .i64 p.1)
  toks : w.ownsRow 0 9 1 tv ts.length (ts.map T)
  args : IntsAt w av args ∧ InLow av args X
  fit : Rn.Fit E s
  wr : Rn.Wr s.writes
/-- with one: the units and the error are all that counts. -/
def DkErr (X : Nat) (w : World) (tv : Value) (ts : List (List UInt8)) (used : Nat) (er : Int) : Prop :=
  (∃ cur, w.heap[X]? = some (.cells cur 213 (0, 0)) ∧ cur.size = 13 ∧ cur[0]? = some tv ∧ cur[9]? = some (.int .i64 used) ∧ cur[10]? = some (.int .i64 er) ∧ ∃ b, cur[11]? = some (.bool b)) ∧ w.ownsRow 0 9 1 tv ts.length (ts.map T)
/-- what a call of the document's Run may turn. -/
abbrev DkFr (X : Nat) (w w' : World) : Prop := Fr X [213, 3] none w w'

theorem DkAt.lt {X : Nat} {w : World} {tv av : Value} {E : Rn.En} {ts : List (List UInt8)} {args : List Int} {s : Rn.St} (h : DkAt X w tv av E ts args s) : X < w.heap.size := by
  obtain ⟨cv, sv, hh, -⟩ := h.mem
  exact (Array.getElem?_eq_some_iff.1 hh).1
theorem DkAt.cells {X : Nat} {w : World} {tv av : Value} {E : Rn.En} {ts : List (List UInt8)} {args : List Int} {s : Rn.St} (h : DkAt X w tv av E ts args s) :
    ∃ cv sv, CRow w 0 cv (Rn.conW E.con s.writes).list ∧ w.ownsRow (X + 1) 3 1 sv s.writes.length (s.writes.map fun p => .int .i64 p.1) ∧ w.heap[X]? = some (.cells (dkCur tv av cv sv E s 0) 213 (0, 0)) ∧ (∀ j, w.cell? ⟨X, j, none⟩ = (dkCur tv av cv sv E s 0)[j]?) ∧ ∀ j, w.frozen? ⟨X, j, none⟩ = false := by
  obtain ⟨cv, sv, hh, h1, h2⟩ := h.mem
  exact ⟨cv, sv, h1, h2, hh, fun j => cell_of_row w X j _ _ _ hh, fun j => frozen_of_row w X j _ _ hh⟩
theorem IntsAt.low {X : Nat} {w w' : World} {v : Value} {l : List Int} (h : IntsAt w v l) (hX : InLow v l X) (hb : Below X w w') : IntsAt w' v l := by
  obtain ⟨ao, cap, hv, hc⟩ := h
  refine ⟨ao, cap, hv, fun hp => ?_⟩
  obtain ⟨g, z, hg, hcs⟩ := hc hp
  refine ⟨g, z, hg, fun i a ha => ?_⟩
  have hgx : g < X := hX hp g (by rw [hv, hg]; rfl)
  exact (hb.cell (p := ⟨g, z + i, none⟩) hgx).trans (hcs i a ha)
theorem DkAt.below {X : Nat} {w w' : World} {tv av : Value} {E : Rn.En} {ts : List (List UInt8)} {args : List Int} {s : Rn.St} (h : DkAt X w tv av E ts args s) (hb : Below w.heap.size w w') : DkAt X w' tv av E ts args s := by
  obtain ⟨cv, sv, hh, h1, h2⟩ := h.mem
  exact ⟨⟨cv, sv, (hb.block X h.lt).trans hh, ownsRow_below h1 hb, ownsRow_below h2 hb⟩, ownsRow_below h.toks hb, ⟨h.args.1.below hb, h.args.2⟩, h.fit, h.wr⟩
theorem DkFr.below {X : Nat} {w w' : World} (hb : Below w.heap.size w w') (h : X < w.heap.size) : DkFr X w w' := Fr.of hb (Nat.le_of_lt h)
/-- a cell of the Run is written. -/
theorem DkAt.set {X : Nat} {w : World} {tv av cv sv : Value} {E : Rn.En} {ts : List (List UInt8)} {args : List Int} {s s' : Rn.St} (h : DkAt X w tv av E ts args s) (j : Nat) (u : Value)
    (hm : w.heap[X]? = some (.cells (dkCur tv av cv sv E s 0) 213 (0, 0))) (hcr : CRow w 0 cv (Rn.conW E.con s.writes).list) (hsr : w.ownsRow (X + 1) 3 1 sv s.writes.length (s.writes.map fun p => .int .i64 p.1))
    (hc : (dkCur tv av cv sv E s 0).setIfInBounds j u = dkCur tv av cv sv E s' 0) (hw : s'.writes = s.writes) (hf : Rn.Fit E s') : DkAt X (w.setCell ⟨X, j, none⟩ u) tv av E ts args s' ∧ DkFr X w (w.setCell ⟨X, j, none⟩ u) := by
  have f0 : Fr X [] (some X) w (w.setCell ⟨X, j, none⟩ u) := fr_setCell w X j u (Nat.le_refl _)
  have f2 : Fr X [213] none w (w.setCell ⟨X, j, none⟩ u) := f0.weak hm
  have f1 : DkFr X w (w.setCell ⟨X, j, none⟩ u) := f2.wide (by simp)
  refine ⟨⟨⟨cv, sv, ?_, ?_, ?_⟩, own_fr h.toks f2 (by decide) (.inl rfl), ⟨h.args.1.low h.args.2 f0.below, h.args.2⟩, hf, by rw [hw]; exact h.wr⟩, f1⟩
  · rw [heap_setCell_same w X j _ _ u hm, hc]
  · rw [hw]; exact own_fr hcr f2 (by decide) (.inl rfl)
  · rw [hw]; exact own_fr hsr f0 (by simp) (.inr fun e => by have := own_lies hsr X e.symm; omega)
/-- with an error, all else as it was. -/
structure DkEr (X : Nat) (w : World) (tv av : Value) (E : Rn.En) (ts : List (List UInt8)) (args : List Int) (s : Rn.St) (er : Int) : Prop where
  mem : ∃ cv sv, w.heap[X]? = some (.cells (dkCur tv av cv sv E s er) 213 (0, 0))
  toks : w.ownsRow 0 9 1 tv ts.length (ts.map T)
  args : IntsAt w av args
theorem DkEr.err {X : Nat} {w : World} {tv av : Value} {E : Rn.En} {ts : List (List UInt8)} {args : List Int} {s : Rn.St} {er : Int} (h : DkEr X w tv av E ts args s er) : DkErr X w tv ts s.used er := by
  obtain ⟨cv, sv, hm⟩ := h.mem
  exact ⟨⟨_, hm, rfl, rfl, rfl, rfl, _, rfl⟩, h.toks⟩
theorem DkAt.fail {X : Nat} {w : World} {tv av : Value} {E : Rn.En} {ts : List (List UInt8)} {args : List Int} {s : Rn.St} (h : DkAt X w tv av E ts args s) (er : Int) : DkEr X (w.setCell ⟨X, 10, none⟩ (.int .i64 er)) tv av E ts args s er ∧ DkFr X w (w.setCell ⟨X, 10, none⟩ (.int .i64 er)) := by
  obtain ⟨cv, sv, -, -, hm, -, -⟩ := h.cells
  have f0 : Fr X [] (some X) w (w.setCell ⟨X, 10, none⟩ (.int .i64 er)) := fr_setCell w X 10 _ (Nat.le_refl _)
  have f2 : Fr X [213] none w (w.setCell ⟨X, 10, none⟩ (.int .i64 er)) := f0.weak hm
  exact ⟨⟨⟨cv, sv, heap_setCell_same w X 10 _ _ _ hm⟩, own_fr h.toks f2 (by decide) (.inl rfl), h.args.1.low h.args.2 f0.below⟩, f2.wide (by simp)⟩

/-- what a call of the Run leaves: a state, or an error with the units that were used. -/
def DkOut (X : Nat) (tv av : Value) (E : Rn.En) (ts : List (List UInt8)) (args : List Int) (r : Int × Rn.St) (w w' : World) : Prop :=
  ((r.1 = 0 ∧ DkAt X w' tv av E ts args r.2) ∨ (r.1 ≠ 0 ∧ DkErr X w' tv ts r.2.used r.1)) ∧ DkFr X w w'

set_option maxHeartbeats 1000000 in
set_option maxRecDepth 100000 in
theorem dunit_no (X : Nat) (w : World) (tv av : Value) (E : Rn.En) (ts : List (List UInt8)) (args : List Int) (s : Rn.St) (h : DkAt X w tv av E ts args s) (hu : E.fuel ≤ s.used) :
    Calls Tryz.prog 176 #[.pointer (some ⟨X, 0, none⟩)] w fun e w' => e = .returned (.tuple #[]) ∧ DkEr X w' tv av E ts args s 10 ∧ DkFr X w w' := by
  obtain ⟨cv, sv, hcr, hsr, hm, hc, hz⟩ := h.cells
  have c8 : w.cell? ⟨X, 8, none⟩ = some (.int .i64 E.fuel) := hc 8
  have c9 : w.cell? ⟨X, 9, none⟩ = some (.int .i64 s.used) := hc 9
  have c10 : w.cell? ⟨X, 10, none⟩ = some (.int .i64 0) := hc 10
  have f9 := hz 9
  have f10 := hz 10
  have hus := h.fit.used
  have hX := h.lt
  have HH := hide h
  have t1 : ((s.used : Int) == (E.fuel : Int)) = true := by simp; omega
  have HF := hide (fun n => DkAt.fail (w := w.drewN n) (HH.out.below (below_drewN (Below.refl _ _) n)) 10)
  clear h hc hz hm hcr hsr
  go_enter Tryz.func176, Tryz.ntmps176
  go_wp2
  go_quiet (fail)
  go_wp2
  go_end0
  exact ⟨rfl, (HF.out _).1, (DkFr.below (below_drewN (Below.refl _ _) _) hX).trans (HF.out _).2⟩
set_option maxHeartbeats 1000000 in
set_option maxRecDepth 100000 in
theorem dunit_ok (X : Nat) (w : World) (tv av : Value) (E : Rn.En) (ts : List (List UInt8)) (args : List Int) (s : Rn.St) (h : DkAt X w tv av E ts args s) (hu : s.used < E.fuel) :
    Calls Tryz.prog 176 #[.pointer (some ⟨X, 0, none⟩)] w fun e w' => e = .returned (.tuple #[]) ∧ DkAt X w' tv av E ts args (Rn.use s) ∧ DkFr X w w' := by
  obtain ⟨cv, sv, hcr, hsr, hm, hc, hz⟩ := h.cells
  have c8 : w.cell? ⟨X, 8, none⟩ = some (.int .i64 E.fuel) := hc 8
  have c9 : w.cell? ⟨X, 9, none⟩ = some (.int .i64 s.used) := hc 9
  have c10 : w.cell? ⟨X, 10, none⟩ = some (.int .i64 0) := hc 10
  have f9 := hz 9
  have f10 := hz 10
  have hfu := h.fit.fuel
  have hX := h.lt
  have t1 : ((s.used : Int) == (E.fuel : Int)) = false := by simp; omega
  have HF := hide (fun n => DkAt.set (w := w.drewN n) (s' := Rn.use s) (h.below (below_drewN (Below.refl _ _) n)) 9 (.int .i64 ((s.used : Int) + 1)) hm (own_drewN hcr n) (own_drewN hsr n) rfl rfl (h.fit.use hu))
  clear h hc hz hm hcr hsr
  go_enter Tryz.func176, Tryz.ntmps176
  go_wp2
  go_quiet (fail)
  go_wp2
  go_end0
  exact ⟨rfl, (HF.out _).1, (DkFr.below (below_drewN (Below.refl _ _) _) hX).trans (HF.out _).2⟩
end Go.Proofs.YtellilpeakpbfaaGreatDoor

end

section
/-
  The walks of going, key, plain, sign.
-/
namespace Go.Proofs.YtellilpeakpbfaaGreatDoor
open Go.RowKit

theorem going_ok (X : Nat) (w : World) (tv av : Value) (E : Rn.En) (ts : List (List UInt8)) (args : List Int) (s : Rn.St) (h : DkAt X w tv av E ts args s) :
    Calls Tryz.prog 163 #[.pointer (some ⟨X, 0, none⟩)] w fun e w' => e = .returned (.bool (!s.stopped)) ∧ w' = w := by
  obtain ⟨cv, sv, -, -, -, hc, -⟩ := h.cells
  have c10 : w.cell? ⟨X, 10, none⟩ = some (.int .i64 0) := hc 10
  have c11 : w.cell? ⟨X, 11, none⟩ = some (.bool s.stopped) := hc 11
  clear h hc
  cases hs : s.stopped
  all_goals
    rw [hs] at c11
    go_enter Tryz.func163, Tryz.ntmps163
    go_wp2
    go_ret
    exact ⟨rfl, rfl⟩
theorem going_no (X : Nat) (w : World) (tv : Value) (ts : List (List UInt8)) (used : Nat) (er : Int) (h : DkErr X w tv ts used er) (he : er ≠ 0) :
    Calls Tryz.prog 163 #[.pointer (some ⟨X, 0, none⟩)] w fun e w' => e = .returned (.bool false) ∧ w' = w := by
  obtain ⟨⟨cur, hh, -, -, -, h10, b, h11⟩, -⟩ := h
  have c10 : w.cell? ⟨X, 10, none⟩ = some (.int .i64 er) := (cell_of_row w X 10 _ _ _ hh).trans h10
  have c11 : w.cell? ⟨X, 11, none⟩ = some (.bool b) := (cell_of_row w X 11 _ _ _ hh).trans h11
  have t1 : (er == 0) = false := by simpa using he
  clear hh h10 h11
  go_enter Tryz.func163, Tryz.ntmps163
  go_wp2
  go_ret
  exact ⟨rfl, rfl⟩

set_option maxHeartbeats 1000000 in
theorem dkey_any (X : Nat) (w : World) (tv av : Value) (E : Rn.En) (ts : List (List UInt8)) (args : List Int) (s : Rn.St) (k : Int) (h : DkAt X w tv av E ts args s) :
    Calls Tryz.prog 195 #[.pointer (some ⟨X, 0, none⟩), .int .i64 k] w fun e w' => e = .returned (.bool (Jn.isKey k)) ∧ ((Jn.isKey k = true ∧ w' = w) ∨ (Jn.isKey k = false ∧ DkErr X w' tv ts s.used 5 ∧ DkFr X w w')) := by
  obtain ⟨cv, sv, -, -, -, hc, hz⟩ := h.cells
  have c10 : w.cell? ⟨X, 10, none⟩ = some (.int .i64 0) := hc 10
  have f10 := hz 10
  have HF := hide (And.intro (h.fail 5).1.err (h.fail 5).2)
  clear h hc hz
  by_cases h0 : k < 0
  · have t1 : decide (k < 0) = true := decide_eq_true h0
    have HE : Hid (Jn.isKey k = false) := by show _ = _; unfold Jn.isKey; simp; omega
    go_enter Tryz.func195, Tryz.ntmps195
    go_wp2
    go_ret
    exact ⟨ret_bool (by rw [HE.out]), .inr ⟨HE.out, HF.out⟩⟩
  · have t1 : decide (k < 0) = false := decide_eq_false h0
    by_cases h1 : 99 < k
    · have t2 : decide (99 < k) = true := decide_eq_true h1
      have HE : Hid (Jn.isKey k = false) := by show _ = _; unfold Jn.isKey; simp; omega
      go_enter Tryz.func195, Tryz.ntmps195
      go_wp2
      go_ret
      exact ⟨ret_bool (by rw [HE.out]), .inr ⟨HE.out, HF.out⟩⟩
    · have t2 : decide (99 < k) = false := decide_eq_false h1
      have HE : Hid (Jn.isKey k = true) := by show _ = _; unfold Jn.isKey; simp; omega
      go_enter Tryz.func195, Tryz.ntmps195
      go_wp2
      go_ret
      exact ⟨ret_bool (by rw [HE.out]), .inl ⟨HE.out, rfl⟩⟩

/-- the sign of a token of two expressions. -/
def signT (t : List UInt8) (a b : Int) : Int := if t = [43] then a + b else if t = [45] then a - b else if t = [42] then a * b else if t = [60] then Rn.oneIf (decide (a < b)) else if t = [61] then Rn.oneIf (a == b) else 0
theorem tl_eq (s : ByteArray) (l : List UInt8) (h : s.data.toList = l) : (s.toList == l) = true := by rw [ByteArray.toList_eq, h]; simp
theorem tl_ne (s : ByteArray) (l : List UInt8) (h : s.data.toList ≠ l) : (s.toList == l) = false := by rw [ByteArray.toList_eq]; simpa using h
set_option maxHeartbeats 2000000 in
theorem sign_any (s : ByteArray) (a b : Int) (w : World) (hs : s.data.toList = [43] ∨ s.data.toList = [45] ∨ s.data.toList = [42] ∨ s.data.toList = [60] ∨ s.data.toList = [61]) (a0 : -1000000000 ≤ a) (a1 : a ≤ 1000000000) (b0 : -1000000000 ≤ b) (b1 : b ≤ 1000000000) :
    Calls Tryz.prog 194 #[.string s, .int .i64 a, .int .i64 b] w fun e w' => e = .returned (.int .i64 (signT s.data.toList a b)) ∧ w' = w := by
  obtain ⟨m0, m1⟩ := mul_bd a b a0 a1 b0 b1
  have mk : ∀ l, s.data.toList = l → s = ⟨l.toArray⟩ := fun l h => by rw [← h]
  by_cases hlt : a < b
  · have t1 : decide (a < b) = true := decide_eq_true hlt
    have t2 : (a == b) = false := by simp; omega
    rcases hs with h | h | h | h | h
    all_goals
      rw [h]
      obtain rfl := mk _ h
      clear h
      go_enter Tryz.func194, Tryz.ntmps194
      go_wp2
      go_ret
      first | exact ⟨rfl, rfl⟩ | (refine ⟨?_, rfl⟩; simp [signT, Rn.oneIf, t1, t2])
  · have t1 : decide (a < b) = false := decide_eq_false hlt
    by_cases he : a = b
    · subst he
      have t2 : (a == a) = true := by simp
      rcases hs with h | h | h | h | h
      all_goals
        rw [h]
        obtain rfl := mk _ h
        clear h
        go_enter Tryz.func194, Tryz.ntmps194
        go_wp2
        go_ret
        first | exact ⟨rfl, rfl⟩ | (refine ⟨?_, rfl⟩; simp [signT, Rn.oneIf])
    · have t2 : (a == b) = false := by simpa using he
      rcases hs with h | h | h | h | h
      all_goals
        rw [h]
        obtain rfl := mk _ h
        clear h
        go_enter Tryz.func194, Tryz.ntmps194
        go_wp2
        go_ret
        first | exact ⟨rfl, rfl⟩ | (refine ⟨?_, rfl⟩; simp [signT, Rn.oneIf, t1, t2])
end Go.Proofs.YtellilpeakpbfaaGreatDoor

end

section
/-
  The walks of plain and expr.
-/
namespace Go.Proofs.YtellilpeakpbfaaGreatDoor
open Go.RowKit

/-- what the document's plain gives. -/
def plainV (args : List Int) (s : Rn.St) (t : List UInt8) : Int :=
  if 0 ≤ Ck.numberR t then Ck.numberR t else if 0 ≤ Ck.slot t 97 ∧ Ck.slot t 97 < args.length then args.getD (Ck.slot t 97).toNat 0 else if 0 ≤ Ck.slot t 118 then Rn.var s (Ck.slot t 118) else 0

set_option maxHeartbeats 2000000 in
set_option maxRecDepth 100000 in
theorem plain_any (X : Nat) (w : World) (tv av cv sv : Value) (E : Rn.En) (args : List Int) (s : Rn.St) (er : Int) (t : ByteArray) (hm : w.heap[X]? = some (.cells (dkCur tv av cv sv E s er) 213 (0, 0))) (ha : IntsAt w av args) (hl : args.length ≤ 4) (ht : t.size ≤ 400) :
    Calls Tryz.prog 193 #[.pointer (some ⟨X, 0, none⟩), .string t] w fun e w' => e = .returned (.int .i64 (plainV args s t.data.toList)) ∧ w' = w := by
  obtain ⟨q, hq⟩ : ∃ q, q = plainV args s t.data.toList := ⟨_, rfl⟩
  rw [← hq]
  unfold plainV at hq
  have HQ := hide hq
  obtain ⟨ao, cap, rfl, hcs⟩ := ha
  have c1 : w.cell? ⟨X, 1, none⟩ = some (.slice ao args.length cap) := (cell_of_row w X 1 _ _ _ hm).trans rfl
  have c2 : w.cell? ⟨X, 2, none⟩ = some (.int .i64 s.v0) := (cell_of_row w X 2 _ _ _ hm).trans rfl
  have c3 : w.cell? ⟨X, 3, none⟩ = some (.int .i64 s.v1) := (cell_of_row w X 3 _ _ _ hm).trans rfl
  have c4 : w.cell? ⟨X, 4, none⟩ = some (.int .i64 s.v2) := (cell_of_row w X 4 _ _ _ hm).trans rfl
  have c5 : w.cell? ⟨X, 5, none⟩ = some (.int .i64 s.v3) := (cell_of_row w X 5 _ _ _ hm).trans rfl
  have HN := hide (fun w => number_any t w ht)
  have HA := hide (fun w => slot_any t 97 w)
  have HV := hide (fun w => slot_any t 118 w)
  have b97 := fun h => Rn.slot_bd t.data.toList 97 h
  have b118 := fun h => Rn.slot_bd t.data.toList 118 h
  have HC := hide hcs
  clear hq hm hcs
  generalize Ck.numberR t.data.toList = n at *
  generalize Ck.slot t.data.toList 97 = sa at *
  generalize Ck.slot t.data.toList 118 = sv' at *
  have HB97 := hide b97
  have HB118 := hide b118
  clear b97 b118
  by_cases h1 : 0 ≤ n
  · have t1 : decide (0 ≤ n) = true := decide_eq_true h1
    have HE : Hid (q = n) := by show _ = _; rw [HQ.out, if_pos h1]
    go_enter Tryz.func193, Tryz.ntmps193
    go_wp2_with fail
    refine (HN.out _).mono ?_
    rintro e w1 ⟨rfl, rfl⟩
    go_wp2_with fail
    refine (HA.out _).mono ?_
    rintro e w1 ⟨rfl, rfl⟩
    go_wp2_with fail
    refine (HV.out _).mono ?_
    rintro e w1 ⟨rfl, rfl⟩
    go_wp2
    go_ret
    rw [HE.out]
    exact ⟨rfl, rfl⟩
  · have t1 : decide (0 ≤ n) = false := decide_eq_false h1
    by_cases h2 : 0 ≤ sa ∧ sa < args.length
    · obtain ⟨a0, a1⟩ := h2
      have t2 : decide (0 ≤ sa) = true := decide_eq_true a0
      have t3 : decide (sa < (args.length : Int)) = true := decide_eq_true a1
      have HE : Hid (q = args.getD sa.toNat 0) := by show _ = _; rw [HQ.out, if_neg h1, if_pos ⟨a0, a1⟩]
      obtain ⟨k, rfl⟩ := Int.eq_ofNat_of_zero_le a0
      obtain ⟨g, z, rfl, hcs⟩ := HC.out (by omega)
      obtain ⟨x, hx⟩ : ∃ x, args[k]? = some x := ⟨args[k]'(by omega), by simp⟩
      have d1 := hcs k x hx
      have HX : Hid (args.getD (k : Int).toNat 0 = x) := by show _ = _; rw [List.getD_eq_getElem?_getD, Int.toNat_natCast, hx]; rfl
      clear hcs hx
      go_enter Tryz.func193, Tryz.ntmps193
      go_wp2_with fail
      refine (HN.out _).mono ?_
      rintro e w1 ⟨rfl, rfl⟩
      go_wp2_with fail
      refine (HA.out _).mono ?_
      rintro e w1 ⟨rfl, rfl⟩
      go_wp2_with fail
      refine (HV.out _).mono ?_
      rintro e w1 ⟨rfl, rfl⟩
      go_wp2
      go_ret
      rw [HE.out, HX.out]
      exact ⟨rfl, rfl⟩
    · have HQ2 : Hid (q = if 0 ≤ sv' then Rn.var s sv' else 0) := by show _ = _; rw [HQ.out, if_neg h1, if_neg h2]
      have hor : decide (0 ≤ sa) = false ∨ (decide (0 ≤ sa) = true ∧ decide (sa < (args.length : Int)) = false) := by
        by_cases a0 : 0 ≤ sa
        · exact .inr ⟨decide_eq_true a0, decide_eq_false (fun h => h2 ⟨a0, h⟩)⟩
        · exact .inl (decide_eq_false a0)
      clear HQ h2
      by_cases h3 : 0 ≤ sv'
      · have hb := HB118.out h3
        have t4 : decide (0 ≤ sv') = true := decide_eq_true h3
        have HE : Hid (q = Rn.var s sv') := by show _ = _; rw [HQ2.out, if_pos h3]
        have hk : sv' = 0 ∨ sv' = 1 ∨ sv' = 2 ∨ sv' = 3 := by omega
        clear HQ2 hb
        rcases hor with t2 | ⟨t2, t3⟩
        all_goals
          rcases hk with rfl | rfl | rfl | rfl
          all_goals
            go_enter Tryz.func193, Tryz.ntmps193
            go_wp2_with fail
            refine (HN.out _).mono ?_
            rintro e w1 ⟨rfl, rfl⟩
            go_wp2_with fail
            refine (HA.out _).mono ?_
            rintro e w1 ⟨rfl, rfl⟩
            go_wp2_with fail
            refine (HV.out _).mono ?_
            rintro e w1 ⟨rfl, rfl⟩
            go_wp2
            go_ret
            rw [HE.out]
            exact ⟨rfl, rfl⟩
      · have t4 : decide (0 ≤ sv') = false := decide_eq_false h3
        have HE : Hid (q = 0) := by show _ = _; rw [HQ2.out, if_neg h3]
        clear HQ2
        rcases hor with t2 | ⟨t2, t3⟩
        all_goals
          go_enter Tryz.func193, Tryz.ntmps193
          go_wp2_with fail
          refine (HN.out _).mono ?_
          rintro e w1 ⟨rfl, rfl⟩
          go_wp2_with fail
          refine (HA.out _).mono ?_
          rintro e w1 ⟨rfl, rfl⟩
          go_wp2_with fail
          refine (HV.out _).mono ?_
          rintro e w1 ⟨rfl, rfl⟩
          go_wp2
          go_ret
          rw [HE.out]
          exact ⟨rfl, rfl⟩
end Go.Proofs.YtellilpeakpbfaaGreatDoor

end

section
/-
  The walk of the document's expr.
-/
namespace Go.Proofs.YtellilpeakpbfaaGreatDoor
open Go.RowKit

namespace Rn
open Tr
theorem texpr_fit (E : En) (e : Ex) : ∀ s, Fit E s → Fit E (texpr E e s).2.2 ∧ Same s (texpr E e s).2.2 ∧ (-1000000000 ≤ (texpr E e s).1 ∧ (texpr E e s).1 ≤ 1000000000) := by
  induction e with
  | leaf t =>
    intro s h
    rw [texpr]
    split
    · exact ⟨h, Same.refl s, by simp⟩
    · rename_i hu
      refine ⟨h.use (by omega), Same.use s, ?_⟩
      have tb := token_bd t
      unfold leafV
      simp only
      split
      · omega
      · split
        · exact h.arg _
        · exact h.var _
  | un t e ih =>
    intro s h
    rw [texpr]
    split
    · exact ⟨h, Same.refl s, by simp⟩
    · rename_i hu
      obtain ⟨f1, m1, -⟩ := ih (use s) (h.use (by omega))
      rw [look_snd]
      exact ⟨f1, (Same.use s).trans m1, look_bd _ _ f1⟩
  | bin t a b iha ihb =>
    intro s h
    rw [texpr]
    split
    · exact ⟨h, Same.refl s, by simp⟩
    · rename_i hu
      obtain ⟨f1, m1, -⟩ := iha (use s) (h.use (by omega))
      obtain ⟨f2, m2, -⟩ := ihb _ f1
      unfold two
      split
      · exact ⟨f1, (Same.use s).trans m1, by simp⟩
      · split
        · exact ⟨f2, ((Same.use s).trans m1).trans m2, by simp⟩
        · exact ⟨f2, ((Same.use s).trans m1).trans m2, reckon_bd _ _ _⟩
end Rn
namespace Tr
theorem w_plus (t : Tok) (h : kind t = 4) : t = [43] := word_at t 0 (by decide) h
theorem w_minus (t : Tok) (h : kind t = 5) : t = [45] := word_at t 1 (by decide) h
theorem w_times (t : Tok) (h : kind t = 6) : t = [42] := word_at t 2 (by decide) h
theorem w_less (t : Tok) (h : kind t = 7) : t = [60] := word_at t 3 (by decide) h
theorem w_same (t : Tok) (h : kind t = 8) : t = [61] := word_at t 4 (by decide) h
theorem w_value (t : Tok) (h : kind t = 9) : t = [64] := word_at t 5 (by decide) h
theorem w_there (t : Tok) (h : kind t = 10) : t = [35] := word_at t 6 (by decide) h
/-- a token that is a number, an argument, a variable. -/
theorem leaf_facts (t : Tok) (h : kind t = 1 ∨ kind t = 2 ∨ kind t = 3) : Ck.wants t = some [] ∧
    (kind t = 1 → 0 ≤ Ck.numberR t ∧ Ck.numberR t = (Ck.tokenP t).2) ∧ (kind t = 2 → ¬ 0 ≤ Ck.numberR t ∧ 0 ≤ Ck.slot t 97 ∧ Ck.slot t 97 = (Ck.tokenP t).2 ∧ ¬ 0 ≤ Ck.slot t 118) ∧ (kind t = 3 → ¬ 0 ≤ Ck.numberR t ∧ ¬ 0 ≤ Ck.slot t 97 ∧ 0 ≤ Ck.slot t 118 ∧ Ck.slot t 118 = (Ck.tokenP t).2) := by
  have hni : ¬ Ck.wordsL.idxOf t < 16 := by
    intro hi
    have : kind t = 4 + (Ck.wordsL.idxOf t : Int) := by unfold kind Ck.tokenP; rw [if_pos hi]
    omega
  have hk : Ck.tokenP t = match Ck.numIn t with | some n => (1, (n : Int)) | none => Ck.named t := by unfold Ck.tokenP; rw [if_neg hni]; rfl
  have hne : t ≠ [] := by
    intro h0
    subst h0
    revert h
    decide
  have hnot : ∀ x ∈ Ck.wordsL, t ≠ x := by
    intro x hx e
    subst e
    exact hni (List.idxOf_lt_length_iff.2 hx)
  have hw : (0 ≤ Ck.numberR t ∨ 0 ≤ Ck.slot t 97 ∨ 0 ≤ Ck.slot t 118) → Ck.wants t = some [] := by
    intro hh
    unfold Ck.wants
    rw [if_neg (hnot _ (by decide)), if_neg (hnot _ (by decide)), if_neg (hnot _ (by decide)), if_neg (hnot _ (by decide)), if_neg (hnot _ (by decide)), if_neg (hnot _ (by decide)), if_neg (hnot _ (by decide)), if_pos hh]
  have hnr := Ck.numR_iff t hne
  have hs97 := Ck.slot_iff t 97
  have hs118 := Ck.slot_iff t 118
  cases hn : Ck.numIn t with
  | some n =>
    rw [hn] at hk hnr
    simp only at hk hnr
    have h1 : kind t = 1 := by unfold kind; rw [hk]
    refine ⟨hw (.inl (by rw [hnr]; omega)), fun _ => ⟨by rw [hnr]; omega, by rw [hnr, hk]⟩, fun h2 => by omega, fun h2 => by omega⟩
  | none =>
    rw [hn] at hk hnr
    simp only at hk hnr
    unfold Ck.named at hk
    by_cases a : 0 ≤ Ck.slot t 97
    · rw [if_pos a] at hk
      have h2 : kind t = 2 := by unfold kind; rw [hk]
      have hv : ¬ 0 ≤ Ck.slot t 118 := by
        intro hv
        obtain ⟨b, hb, -⟩ := hs97.1 a
        obtain ⟨c, hc, -⟩ := hs118.1 hv
        rw [hb] at hc
        injection hc with h1 _
        revert h1; decide
      exact ⟨hw (.inr (.inl a)), fun h1 => by omega, fun _ => ⟨by rw [hnr]; decide, a, by rw [hk], hv⟩, fun h3 => by omega⟩
    · rw [if_neg a] at hk
      by_cases v : 0 ≤ Ck.slot t 118
      · rw [if_pos v] at hk
        have h3 : kind t = 3 := by unfold kind; rw [hk]
        exact ⟨hw (.inr (.inr v)), fun h1 => by omega, fun h2 => by omega, fun _ => ⟨by rw [hnr]; decide, a, v, by rw [hk]⟩⟩
      · rw [if_neg v] at hk
        have h0 : kind t = 0 := by unfold kind; rw [hk]
        omega
end Tr
theorem plain_leaf {E : Rn.En} {ts : List (List UInt8)} {args : List Int} (hE : DkEn E ts args) (s : Rn.St) (t : List UInt8) (h : Tr.kind t = 1 ∨ Tr.kind t = 2 ∨ Tr.kind t = 3) : plainV args s t = Rn.leafV E s t := by
  obtain ⟨-, f1, f2, f3⟩ := Tr.leaf_facts t h
  unfold plainV Rn.leafV
  rcases h with h | h | h
  · obtain ⟨a, b⟩ := f1 h
    rw [if_pos a, if_pos h, b]
  · obtain ⟨a, b, c, d⟩ := f2 h
    rw [if_neg a, if_neg (by omega : ¬ Tr.kind t = 1), if_pos h, ← c]
    have hb := Rn.slot_bd t 97 b
    have hk : (((Ck.slot t 97).toNat : Nat) : Int) = Ck.slot t 97 := by omega
    have ha := hE.arg (Ck.slot t 97).toNat (by omega)
    rw [hk] at ha
    rw [ha]
    by_cases hl : Ck.slot t 97 < args.length
    · rw [if_pos ⟨b, hl⟩]
    · rw [if_neg (fun x => hl x.2), if_neg d, List.getD_eq_getElem?_getD, List.getElem?_eq_none (by omega)]; rfl
  · obtain ⟨a, b, c, d⟩ := f3 h
    rw [if_neg a, if_neg (fun x => b x.1), if_pos c, if_neg (by omega : ¬ Tr.kind t = 1), if_neg (by omega : ¬ Tr.kind t = 2), d]
end Go.Proofs.YtellilpeakpbfaaGreatDoor

end

section
/-
  The walk of the document's expr, by the tree.
-/
namespace Go.Proofs.YtellilpeakpbfaaGreatDoor
open Go.RowKit
open Tr (Ex Tok kind)

/-- what expr answers. -/
def DxPost (X : Nat) (tv av : Value) (E : Rn.En) (ts : List (List UInt8)) (args : List Int) (r : Int × Int × Rn.St) (j0 : Int) (w : World) (e : Ending) (w' : World) : Prop :=
  ∃ v j : Int, e = .returned (.tuple #[.int .i64 v, .int .i64 j]) ∧ ((r.2.1 = 0 ∧ DkAt X w' tv av E ts args r.2.2 ∧ v = r.1 ∧ j = j0) ∨ (r.2.1 ≠ 0 ∧ DkErr X w' tv ts r.2.2.used r.2.1)) ∧ DkFr X w w'

/-- a token in memory. -/
theorem DkAt.tok {X : Nat} {w : World} {tv av : Value} {E : Rn.En} {ts : List (List UInt8)} {args : List Int} {s : Rn.St} (h : DkAt X w tv av E ts args s) {i : Nat} {t : List UInt8} {r : List (List UInt8)} (hi : ts.drop i = t :: r) :
    ∃ g cap, tv = .slice (some ⟨g, 0, none⟩) ts.length cap ∧ w.cell? ⟨g, i, none⟩ = some (.string ⟨t.toArray⟩) ∧ i < ts.length ∧ g < w.heap.size := by
  have hl : i < ts.length := by
    rcases Nat.lt_or_ge i ts.length with h1 | h1
    · exact h1
    · rw [List.drop_eq_nil_of_le h1] at hi; cases hi
  obtain ⟨ao, cap, hv, hsh⟩ := row_shape h.toks
  obtain ⟨g, hg, -, hgl, hcs⟩ := hsh (by omega)
  refine ⟨g, cap, by rw [hv, hg], ?_, hl, hgl⟩
  rw [hcs i hl]
  rw [List.drop_eq_getElem_cons hl] at hi
  injection hi with h1 _
  rw [List.getD_eq_getElem?_getD, List.getElem?_eq_getElem hl, ← h1]; rfl
theorem drop_next {ts : List (List UInt8)} {i : Nat} {t : List UInt8} {r : List (List UInt8)} (hi : ts.drop i = t :: r) : ts.drop (i + 1) = r := by
  rw [← List.drop_drop, hi]; rfl
theorem drop_app {ts : List (List UInt8)} {i : Nat} {l r : List (List UInt8)} (hi : ts.drop i = l ++ r) : ts.drop (i + l.length) = r := by
  rw [← List.drop_drop, hi]; simp
theorem DkErr.cell {X : Nat} {w : World} {tv : Value} {ts : List (List UInt8)} {used : Nat} {er : Int} (h : DkErr X w tv ts used er) : w.cell? ⟨X, 10, none⟩ = some (.int .i64 er) := by
  obtain ⟨⟨cur, hh, -, -, -, h10, -⟩, -⟩ := h
  exact (cell_of_row w X 10 _ _ _ hh).trans h10
theorem DkAt.cell10 {X : Nat} {w : World} {tv av : Value} {E : Rn.En} {ts : List (List UInt8)} {args : List Int} {s : Rn.St} (h : DkAt X w tv av E ts args s) : w.cell? ⟨X, 10, none⟩ = some (.int .i64 0) := by
  obtain ⟨cv, sv, -, -, -, hc, -⟩ := h.cells
  exact hc 10

set_option maxHeartbeats 4000000 in
set_option maxRecDepth 100000 in
/-- there are no units. -/
theorem dexpr_out (X : Nat) (tv av : Value) (E : Rn.En) (ts : List (List UInt8)) (args : List Int) (hE : DkEn E ts args) (i : Nat) (t : List UInt8) (rest : List (List UInt8)) (s : Rn.St) (w : World) (h : DkAt X w tv av E ts args s) (hi : ts.drop i = t :: rest) (hu : E.fuel ≤ s.used) (j0 : Int) :
    Calls Tryz.prog 177 #[.pointer (some ⟨X, 0, none⟩), .int .i64 i] w (DxPost X tv av E ts args (0, 10, s) j0 w) := by
  obtain ⟨g, cap, rfl, d1, hil, -⟩ := h.tok hi
  obtain ⟨cv, sv, -, -, -, hc, -⟩ := h.cells
  have c0 : w.cell? ⟨X, 0, none⟩ = some (.slice (some ⟨g, 0, none⟩) ts.length cap) := hc 0
  have hln := hE.len
  have hmem : t ∈ ts := List.mem_of_mem_drop (i := i) (by rw [hi]; simp)
  have hts := hE.small t hmem
  obtain ⟨tb, htb⟩ : ∃ tb : ByteArray, tb = ⟨t.toArray⟩ := ⟨_, rfl⟩
  have hsz : tb.size ≤ 400 := by rw [htb]; exact hts
  rw [← htb] at d1
  have HW := hide (fun w => wants_any tb w hsz)
  have HU := hide (dunit_no X w _ av E ts args s h hu)
  have hX := h.lt
  clear hc h htb
  generalize (Ck.wants tb.data.toList).getD [] = wl at HW
  generalize (Ck.wants tb.data.toList).isSome = wb at HW
  simp only [T] at HW
  obtain ⟨ws, hws⟩ : ∃ ws : ByteArray, ws = ⟨wl.toArray⟩ := ⟨_, rfl⟩
  rw [← hws] at HW
  clear hws
  go_enter Tryz.func177, Tryz.ntmps177
  go_wp2_with fail
  refine (HW.out _).mono ?_
  rintro e w1 ⟨rfl, rfl⟩
  go_wp2_with fail
  refine HU.out.mono ?_
  rintro e w2 ⟨rfl, her, hfr⟩
  obtain ⟨cv2, sv2, hm2⟩ := her.mem
  have c10 : w2.cell? ⟨X, 10, none⟩ = some (.int .i64 10) := (cell_of_row w2 X 10 _ _ _ hm2).trans rfl
  have HPL := hide (plain_any X w2 _ av cv2 sv2 E args s 10 tb hm2 her.args hE.four hsz)
  have HER := hide her.err
  have HFR := hide hfr
  clear her hm2 hfr HU
  generalize plainV args s tb.data.toList = pv at HPL
  cases hww : (ws.toList == []) with
  | true =>
    go_wp2_with fail
    refine HPL.out.mono ?_
    rintro e w3 ⟨rfl, rfl⟩
    go_wp2
    go_ret2
    exact ⟨_, _, rfl, .inr ⟨by show (10 : Int) ≠ 0; decide, HER.out⟩, HFR.out⟩
  | false =>
    go_wp2_with fail
    refine HPL.out.mono ?_
    rintro e w3 ⟨rfl, rfl⟩
    go_wp2
    go_ret2
    exact ⟨_, _, rfl, .inr ⟨by show (10 : Int) ≠ 0; decide, HER.out⟩, HFR.out⟩
end Go.Proofs.YtellilpeakpbfaaGreatDoor

end
