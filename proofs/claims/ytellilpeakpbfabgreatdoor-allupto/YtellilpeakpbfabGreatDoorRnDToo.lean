import Derived.Test.YtellilpeakpbfabGreatDoorRnToo
import Derived.Test.YtellilpeakpbfabGreatDoorStoreToo
import Derived.Test.YtellilpeakpbfabGreatDoorSmallToo
import Derived.BigQuiet
section
/-
  A source that is worked out, in memory; the walks of unit, next, argument, variable and of what reckons.
-/
namespace Go.Proofs.YtellilpeakpbfabGreatDoor
open Go.RowKit

def wr3 (ws : List (Int × Bool × Int)) : List Value := ws.flatMap fun p => [.int .i64 p.1, .bool p.2.1, .int .i64 p.2.2]
def WRow (w : World) (b : Nat) (v : Value) (ws : List (Int × Bool × Int)) : Prop := w.ownsRow b 142 3 v ws.length (wr3 ws)
def TkRow (w : World) (b : Nat) (v : Value) (tk : List (Int × Int)) : Prop := w.ownsRow b 165 2 v tk.length (pairs (tk.map cPair))
theorem TkRow.shape {w : World} {b : Nat} {v : Value} {l : List (Int × Int)} (h : TkRow w b v l) :
    ∃ ao cap, v = .slice ao l.length cap ∧ (0 < l.length → ∃ g cur, ao = some ⟨g, 0, none⟩ ∧ b ≤ g ∧ w.heap[g]? = some (.cells cur 165 (0, 0)) ∧ ∀ j p, l[j]? = some p → w.cell? ⟨g, j * 2, none⟩ = some (.int .i64 p.1) ∧ w.cell? ⟨g, j * 2 + 1, none⟩ = some (.int .i64 p.2)) := by
  have h' : w.ownsRow b 165 2 v (l.map cPair).length (pairs (l.map cPair)) := by rw [List.length_map]; exact h
  obtain ⟨ao, cap, hv, hc⟩ := pair_shape h'
  rw [List.length_map] at hv hc
  refine ⟨ao, cap, hv, fun hp => ?_⟩
  obtain ⟨g, cur, h1, h2, h3, h4⟩ := hc hp
  exact ⟨g, cur, h1, h2, h3, fun j p hj => h4 j (cPair p) (by simp [hj])⟩

def wkCur (E : Rn.En) (tv wv : Value) (B : Nat) (s : Rn.St) : Array Value :=
  #[tv, .int .i64 s.pos, .int .i64 E.a0, .int .i64 E.a1, .int .i64 E.a2, .int .i64 E.a3, .int .i64 s.v0, .int .i64 s.v1, .int .i64 s.v2, .int .i64 s.v3, .pointer (some ⟨B, 0, none⟩), wv, .int .i64 E.fuel, .int .i64 s.used, .bool s.stopped, .int .i64 s.result]
/-- The work at block X, over the contents at block B. -/
structure WkAt (X B : Nat) (w : World) (tv : Value) (E : Rn.En) (s : Rn.St) : Prop where
  mem : ∃ wv, w.heap[X]? = some (.cells (wkCur E tv wv B s) 138 (0, 0)) ∧ WRow w (X + 1) wv s.writes
  toks : TkRow w 0 tv E.tk
  con : ConAt 0 w B E.con
  fit : Rn.Fit E s
/-- what a call of the work may turn. -/
abbrev WkFr (X : Nat) (w w' : World) : Prop := Fr X [138, 142] none w w'

theorem WkAt.lt {X B : Nat} {w : World} {tv : Value} {E : Rn.En} {s : Rn.St} (h : WkAt X B w tv E s) : X < w.heap.size := by
  obtain ⟨wv, hh, -⟩ := h.mem
  exact (Array.getElem?_eq_some_iff.1 hh).1
theorem WkAt.below {X B : Nat} {w w' : World} {tv : Value} {E : Rn.En} {s : Rn.St} (h : WkAt X B w tv E s) (hb : Below w.heap.size w w') : WkAt X B w' tv E s := by
  obtain ⟨wv, hh, hr⟩ := h.mem
  exact ⟨⟨wv, (hb.block X h.lt).trans hh, ownsRow_below hr hb⟩, ownsRow_below h.toks hb, h.con.below hb, h.fit⟩
theorem WkAt.cells {X B : Nat} {w : World} {tv : Value} {E : Rn.En} {s : Rn.St} (h : WkAt X B w tv E s) : ∃ wv, WRow w (X + 1) wv s.writes ∧ w.heap[X]? = some (.cells (wkCur E tv wv B s) 138 (0, 0)) ∧ (∀ j, w.cell? ⟨X, j, none⟩ = (wkCur E tv wv B s)[j]?) ∧ ∀ j, w.frozen? ⟨X, j, none⟩ = false := by
  obtain ⟨wv, hh, hr⟩ := h.mem
  exact ⟨wv, hr, hh, fun j => (cell_of_row w X j _ _ _ hh), fun j => frozen_of_row w X j _ _ hh⟩
theorem WkFr.below {X : Nat} {w w' : World} (hb : Below w.heap.size w w') (h : X < w.heap.size) : WkFr X w w' := Fr.of hb (Nat.le_of_lt h)

theorem WkAt.set {X B : Nat} {w : World} {tv wv : Value} {E : Rn.En} {s s' : Rn.St} (h : WkAt X B w tv E s) (j : Nat) (u : Value) (hm : w.heap[X]? = some (.cells (wkCur E tv wv B s) 138 (0, 0))) (hr : WRow w (X + 1) wv s.writes)
    (hc : (wkCur E tv wv B s).setIfInBounds j u = wkCur E tv wv B s') (hw : s'.writes = s.writes) (hf : Rn.Fit E s') : WkAt X B (w.setCell ⟨X, j, none⟩ u) tv E s' ∧ WkFr X w (w.setCell ⟨X, j, none⟩ u) := by
  have f0 : Fr X [] (some X) w (w.setCell ⟨X, j, none⟩ u) := fr_setCell w X j u (Nat.le_refl _)
  have f1 : WkFr X w (w.setCell ⟨X, j, none⟩ u) := (fr_setCell w X j u (Nat.le_refl _)).typed (fun k hk => by cases hk; exact ⟨_, _, _, hm, by simp⟩) none
  refine ⟨⟨⟨wv, ?_, ?_⟩, own_fr h.toks f1 (by decide) (.inl rfl), ?_, hf⟩, f1⟩
  · rw [heap_setCell_same w X j _ _ u hm, hc]
  · rw [hw]
    exact own_fr hr f0 (by simp) (.inr fun e => by have := own_lies hr X e.symm; omega)
  · have hc := h.con
    have f2 : Fr 0 [138, 142] none w (w.setCell ⟨X, j, none⟩ u) := f1.mono (Nat.zero_le _) (fun _ h => h)
    exact hc.fr f2 (by decide) (by decide) (by simp)

/-- all but block X is as it was, of what there was. -/
structure Off (X : Nat) (w w' : World) : Prop where
  low : Below X w w'
  oth : ∀ k, k < w.heap.size → k ≠ X → w'.heap[k]? = w.heap[k]?
theorem Off.of {X : Nat} {w w' : World} (h : Below w.heap.size w w') (hX : X < w.heap.size) : Off X w w' := ⟨h.mono (Nat.le_of_lt hX), fun k hk _ => h.block k hk⟩
theorem Off.setX {X : Nat} {w w' : World} (h : Off X w w') (j : Nat) (u : Value) : Off X w (w'.setCell ⟨X, j, none⟩ u) :=
  ⟨h.low.setCell (p := ⟨X, j, none⟩) (Nat.le_refl _) _, fun k hk hn => (heap_setCell_other _ _ _ _ (by simpa using hn)).trans (h.oth k hk hn)⟩
theorem Off.setN {X : Nat} {w w' : World} (h : Off X w w') (N j : Nat) (u : Value) (hX : X < w.heap.size) (hN : w.heap.size ≤ N) : Off X w (w'.setCell ⟨N, j, none⟩ u) :=
  ⟨h.low.setCell (p := ⟨N, j, none⟩) (Nat.le_trans (Nat.le_of_lt hX) hN) _, fun k hk hn => (heap_setCell_other _ _ _ _ (by simp; omega)).trans (h.oth k hk hn)⟩
theorem WkAt.turn {X B : Nat} {w w' : World} {tv wv : Value} {E : Rn.En} {s s' : Rn.St} (h : WkAt X B w tv E s) (ho : Off X w w') (hm0 : w.heap[X]? = some (.cells (wkCur E tv wv B s) 138 (0, 0))) (hr : WRow w (X + 1) wv s.writes)
    (hm : w'.heap[X]? = some (.cells (wkCur E tv wv B s') 138 (0, 0))) (hw : s'.writes = s.writes) (hf : Rn.Fit E s') : WkAt X B w' tv E s' ∧ WkFr X w w' := by
  have f0 : Fr 0 [] (some X) w w' := ⟨ho.low.mono (Nat.zero_le _), fun k cur t z hk _ hX => (ho.oth k (Array.getElem?_eq_some_iff.1 hk).1 (fun e => hX (by rw [e]))).trans hk⟩
  have f1 : Fr 0 [138, 142] none w w' := ⟨ho.low.mono (Nat.zero_le _), fun k cur t z hk ht _ => (ho.oth k (Array.getElem?_eq_some_iff.1 hk).1 (fun e => by subst e; rw [hm0] at hk; cases hk; simp at ht)).trans hk⟩
  refine ⟨⟨⟨wv, hm, ?_⟩, own_fr h.toks f1 (by decide) (.inl rfl), h.con.fr f1 (by decide) (by decide) (by simp), hf⟩, ⟨ho.low, f1.block⟩⟩
  rw [hw]
  exact own_fr hr f0 (by simp) (.inr fun e => by have := own_lies hr X e.symm; omega)

set_option maxHeartbeats 400000 in
theorem unit_no (X B : Nat) (w : World) (tv : Value) (E : Rn.En) (s : Rn.St) (h : WkAt X B w tv E s) (hu : E.fuel ≤ s.used) :
    Calls Tryz.prog 133 #[.pointer (some ⟨X, 0, none⟩)] w fun e w' => e = .returned (.int .i64 10) ∧ Below w.heap.size w w' := by
  obtain ⟨wv, -, -, hc, hf⟩ := h.cells
  have c12 : w.cell? ⟨X, 12, none⟩ = some (.int .i64 E.fuel) := hc 12
  have c13 : w.cell? ⟨X, 13, none⟩ = some (.int .i64 s.used) := hc 13
  have t : decide ((E.fuel : Int) ≤ (s.used : Int)) = true := by simp; omega
  clear hc hf h
  go_enter Tryz.func133, Tryz.ntmps133
  go_wp2
  go_quiet (fail)
  go_wp2
  go_ret
  exact ⟨rfl, below_drewN (Below.refl _ _) _⟩
def Rn.use (s : Rn.St) : Rn.St := { s with used := s.used + 1 }
set_option maxHeartbeats 400000 in
theorem unit_ok (X B : Nat) (w : World) (tv : Value) (E : Rn.En) (s : Rn.St) (h : WkAt X B w tv E s) (hu : s.used < E.fuel) :
    Calls Tryz.prog 133 #[.pointer (some ⟨X, 0, none⟩)] w fun e w' => e = .returned (.int .i64 0) ∧ WkAt X B w' tv E (Rn.use s) ∧ WkFr X w w' := by
  obtain ⟨wv, hr, hm, hc, hf⟩ := h.cells
  have c12 : w.cell? ⟨X, 12, none⟩ = some (.int .i64 E.fuel) := hc 12
  have c13 : w.cell? ⟨X, 13, none⟩ = some (.int .i64 s.used) := hc 13
  have f13 := hf 13
  have t : decide ((E.fuel : Int) ≤ (s.used : Int)) = false := by simp; omega
  have hfu := h.fit.fuel
  have HS := hide (fun n => WkAt.set (w := w.drewN n) (s' := Rn.use s) (h.below (below_drewN (Below.refl _ _) n)) 13 (.int .i64 ((s.used : Int) + 1)) hm (own_drewN hr n) rfl rfl ⟨h.fit.tk, h.fit.len, h.fit.arg, h.fit.con, h.fit.fuel, h.fit.pos, h.fit.var, h.fit.wrl, h.fit.wrs, by show s.used + 1 ≤ E.fuel; omega⟩)
  have HL := hide h.lt
  clear hc hf h hm hr
  go_enter Tryz.func133, Tryz.ntmps133
  go_wp2
  go_quiet (fail)
  go_wp2
  go_ret
  exact ⟨rfl, (HS.out _).1, (WkFr.below (below_drewN (Below.refl _ _) _) HL.out).trans (HS.out _).2⟩
end Go.Proofs.YtellilpeakpbfabGreatDoor

end

section
/-
  The walks of next, argument, variable and of what reckons.
-/
namespace Go.Proofs.YtellilpeakpbfabGreatDoor
open Go.RowKit

set_option maxHeartbeats 1000000 in
set_option maxRecDepth 100000 in
theorem next_no (X B : Nat) (w : World) (tv : Value) (E : Rn.En) (s : Rn.St) (h : WkAt X B w tv E s) (hp : ¬ s.pos < E.tk.length) :
    Calls Tryz.prog 95 #[.pointer (some ⟨X, 0, none⟩)] w fun e w' => e = .returned (.agg #[.int .i64 0, .int .i64 0]) ∧ Below w.heap.size w w' := by
  obtain ⟨wv, -, -, hc, hf⟩ := h.cells
  obtain ⟨ao, cap, rfl, -⟩ := h.toks.shape
  have hlt := h.lt
  have hln := h.fit.len
  have hps := h.fit.pos
  have HB : Hid (∀ o : Obj, Below w.heap.size w (w.alloc o)) := fun o => (Below.refl _ _).alloc (Nat.le_refl _) o
  have c0 : w.cell? ⟨X, 0, none⟩ = some (.slice ao E.tk.length cap) := hc 0
  have c1 : w.cell? ⟨X, 1, none⟩ = some (.int .i64 s.pos) := hc 1
  have t1 : decide ((s.pos : Int) < 0) = false := by simp
  have t2 : decide ((E.tk.length : Int) ≤ (s.pos : Int)) = true := by simp; omega
  obtain ⟨w1, hw1⟩ : ∃ w1, w1 = w.alloc (.cells #[.int .i64 0, .int .i64 0] 165) := ⟨_, rfl⟩
  have hb1 : Below w.heap.size w w1 := by rw [hw1]; exact HB.out _
  have d0 := at_old hb1 c0
  have d1 := at_old hb1 c1
  have hn : w1.heap[w.heap.size]? = some (.cells #[.int .i64 0, .int .i64 0] 165 (0, 0)) := by rw [hw1]; exact heap_alloc_new w _
  have e0 : w1.cell? ⟨w.heap.size, 0, none⟩ = some (.int .i64 0) := (cell_of_row w1 _ 0 _ _ _ hn).trans rfl
  have e1 : w1.cell? ⟨w.heap.size, 1, none⟩ = some (.int .i64 0) := (cell_of_row w1 _ 1 _ _ _ hn).trans rfl
  have g0 : w1.frozen? ⟨w.heap.size, 0, none⟩ = false := frozen_of_row w1 _ 0 _ _ hn
  have g1 : w1.frozen? ⟨w.heap.size, 1, none⟩ = false := frozen_of_row w1 _ 1 _ _ hn
  have HB1 := hide hb1
  clear hc hf h c0 c1 hb1 hn
  go_enter Tryz.func95, Tryz.ntmps95
  go_upto_region 1 with fail
  rw [← hw1]
  clear hw1
  go_quiet (fail)
  go_wp2
  have s0 := World.cell?_setCell_same (w1.drewN nq) ⟨w.heap.size, 0, none⟩ (.int .i64 0) e0
  have s1 := World.cell?_setCell_same ((w1.drewN nq).setCell ⟨w.heap.size, 0, none⟩ (.int .i64 0)) ⟨w.heap.size, 1, none⟩ (.int .i64 0) ((World.cell?_setCell_other _ _ _ _ (by simp)).trans e1)
  refine bodyPost_ret (v := .agg #[.int .i64 0, .int .i64 0]) (by simp [results, Tryz.results95, go_sem, s0, s1]) rfl ⟨rfl, ?_⟩
  exact ((below_drewN HB1.out _).setCell (p := ⟨w.heap.size, 0, none⟩) (Nat.le_refl _) _).setCell (p := ⟨w.heap.size, 1, none⟩) (Nat.le_refl _) _

set_option maxHeartbeats 2000000 in
set_option maxRecDepth 100000 in
theorem next_ok (X B : Nat) (w : World) (tv : Value) (E : Rn.En) (s : Rn.St) (h : WkAt X B w tv E s) (hp : s.pos < E.tk.length) :
    Calls Tryz.prog 95 #[.pointer (some ⟨X, 0, none⟩)] w fun e w' => e = .returned (.agg #[.int .i64 (Rn.tok E s).1, .int .i64 (Rn.tok E s).2]) ∧ WkAt X B w' tv E (Rn.adv E s) ∧ WkFr X w w' := by
  obtain ⟨wv, hr, hm, hc, hf⟩ := h.cells
  obtain ⟨ao, cap, rfl, hsh⟩ := h.toks.shape
  obtain ⟨g, cur, rfl, -, -, hcs⟩ := hsh (by omega)
  obtain ⟨p, hpp⟩ : ∃ p, E.tk[s.pos]? = some p := ⟨E.tk[s.pos], by simp [hp]⟩
  obtain ⟨k1, k2⟩ := hcs _ _ hpp
  have ht : Rn.tok E s = p := by unfold Rn.tok; rw [hpp]; rfl
  have ha : Rn.adv E s = { s with pos := s.pos + 1 } := by unfold Rn.adv; rw [if_pos hp]
  rw [ht, ha]
  have hlt := h.lt
  have hln := h.fit.len
  have hps := h.fit.pos
  have hxw : X ≠ w.heap.size := by omega
  have c0 : w.cell? ⟨X, 0, none⟩ = some (.slice (some ⟨g, 0, none⟩) E.tk.length cap) := hc 0
  have c1 : w.cell? ⟨X, 1, none⟩ = some (.int .i64 s.pos) := hc 1
  have t1 : decide ((s.pos : Int) < 0) = false := by simp
  have t2 : decide ((E.tk.length : Int) ≤ (s.pos : Int)) = false := by simp; omega
  obtain ⟨w1, hw1⟩ : ∃ w1, w1 = w.alloc (.cells #[.int .i64 0, .int .i64 0] 165) := ⟨_, rfl⟩
  have hb1 : Below w.heap.size w w1 := by rw [hw1]; exact (Below.refl _ _).alloc (Nat.le_refl _) _
  have d0 := at_old hb1 c0
  have d1 := at_old hb1 c1
  have m1 := at_old hb1 k1
  have m2 := at_old hb1 k2
  have f1 : w1.frozen? ⟨X, 1, none⟩ = false := frozen_of_row w1 X 1 _ _ ((hb1.block X hlt).trans hm)
  have hn : w1.heap[w.heap.size]? = some (.cells #[.int .i64 0, .int .i64 0] 165 (0, 0)) := by rw [hw1]; exact heap_alloc_new w _
  have e0 : w1.cell? ⟨w.heap.size, 0, none⟩ = some (.int .i64 0) := (cell_of_row w1 _ 0 _ _ _ hn).trans rfl
  have e1 : w1.cell? ⟨w.heap.size, 1, none⟩ = some (.int .i64 0) := (cell_of_row w1 _ 1 _ _ _ hn).trans rfl
  have g0 : w1.frozen? ⟨w.heap.size, 0, none⟩ = false := frozen_of_row w1 _ 0 _ _ hn
  have g1 : w1.frozen? ⟨w.heap.size, 1, none⟩ = false := frozen_of_row w1 _ 1 _ _ hn
  have HB1 := hide hb1
  have HZ1 : Hid (w1.heap.size = w.heap.size + 1) := by show _ = _; rw [hw1]; simp
  have HN := hide hn
  have HH := hide h
  have HM := hide hm
  have HR := hide hr
  obtain ⟨p1, p2⟩ := p
  clear hc hf h hb1 hn hcs hpp ht ha hsh hm hr
  go_enter Tryz.func95, Tryz.ntmps95
  go_upto_region 1 with fail
  rw [← hw1]
  clear hw1
  go_quiet (fail)
  obtain ⟨w2, hw2⟩ : ∃ w2, w2 = w1.drewN nq := ⟨_, rfl⟩
  have hb2 : Below w.heap.size w w2 := by rw [hw2]; exact below_drewN HB1.out _
  have hz2 : w2.heap.size = w.heap.size + 1 := by rw [hw2]; exact HZ1.out
  have hn2 : w2.heap[w.heap.size]? = some (.cells #[.int .i64 0, .int .i64 0] 165 (0, 0)) := by rw [hw2]; exact HN.out
  rw [← hw2]
  clear hw2 d0 d1 m1 m2 f1 e0 e1 g0 g1
  have d0 := at_old hb2 c0
  have d1 := at_old hb2 c1
  have m1 := at_old hb2 k1
  have m2 := at_old hb2 k2
  have f1 : w2.frozen? ⟨X, 1, none⟩ = false := frozen_of_row w2 X 1 _ _ ((hb2.block X hlt).trans HM.out)
  have e0 : w2.cell? ⟨w.heap.size, 0, none⟩ = some (.int .i64 0) := (cell_of_row w2 _ 0 _ _ _ hn2).trans rfl
  have e1 : w2.cell? ⟨w.heap.size, 1, none⟩ = some (.int .i64 0) := (cell_of_row w2 _ 1 _ _ _ hn2).trans rfl
  have g0 : w2.frozen? ⟨w.heap.size, 0, none⟩ = false := frozen_of_row w2 _ 0 _ _ hn2
  have g1 : w2.frozen? ⟨w.heap.size, 1, none⟩ = false := frozen_of_row w2 _ 1 _ _ hn2
  have HN2 := hide hn2
  clear hn2
  have hgl : g < w2.heap.size := World.block_lt_of_cell? w2 _ m1
  have hxl : X < w2.heap.size := World.block_lt_of_cell? w2 _ d0
  have hba : Below w2.heap.size w2 (w2.alloc (.cells #[.int .i64 0, .int .i64 0] 165)) := (Below.refl _ _).alloc (Nat.le_refl _) _
  have n1 := at_old hba m1
  have n2 := at_old hba m2
  have l0 := at_old hba d0
  have l1 := at_old hba d1
  clear hba
  have hgn : g ≠ w2.heap.size := Nat.ne_of_lt hgl
  have hxn : X ≠ w2.heap.size := Nat.ne_of_lt hxl
  have HB2 := hide hb2
  clear hb2
  go_wp2
  go_region
  obtain ⟨w3, hw3⟩ : ∃ w3, w3 = (w2.alloc (.cells #[.int .i64 p1, .int .i64 p2] 165)).drew := ⟨_, rfl⟩
  have hb3 : Below w.heap.size w w3 := by rw [hw3]; exact Below.drew (HB2.out.alloc HB2.out.size _)
  have h23 : Below w2.heap.size w2 w3 := by rw [hw3]; exact Below.drew ((Below.refl _ _).alloc (Nat.le_refl _) _)
  have hn3 : w3.heap[w.heap.size + 1]? = some (.cells #[.int .i64 p1, .int .i64 p2] 165 (0, 0)) := by rw [hw3, ← hz2]; exact heap_alloc_new w2 _
  have x1 := at_old h23 d1
  have x2 : w3.frozen? ⟨X, 1, none⟩ = false := frozen_of_row w3 X 1 _ _ ((hb3.block X hlt).trans HM.out)
  have y0 := at_old h23 e0
  have y1 := at_old h23 e1
  have z0 : w3.frozen? ⟨w.heap.size, 0, none⟩ = false := frozen_of_row w3 _ 0 _ _ ((h23.block _ (by omega)).trans HN2.out)
  have z1 : w3.frozen? ⟨w.heap.size, 1, none⟩ = false := frozen_of_row w3 _ 1 _ _ ((h23.block _ (by omega)).trans HN2.out)
  have q0 : w3.cell? ⟨w.heap.size + 1, 0, none⟩ = some (.int .i64 p1) := (cell_of_row w3 _ 0 _ _ _ hn3).trans rfl
  have q1 : w3.cell? ⟨w.heap.size + 1, 1, none⟩ = some (.int .i64 p2) := (cell_of_row w3 _ 1 _ _ _ hn3).trans rfl
  have HMX : Hid (w3.heap[X]? = some (.cells (wkCur E (.slice (some ⟨g, 0, none⟩) E.tk.length cap) wv B s) 138 (0, 0))) := (hb3.block X hlt).trans HM.out
  have HB3 := hide hb3
  rw [← hw3]
  clear hw3 hn3 h23 hb3 d0 d1 m1 m2 f1 e0 e1 g0 g1 n1 n2 l0 l1 hgl hxl hgn hxn
  have hxN : X ≠ w.heap.size + 1 := by omega
  go_wp2
  have s0 := World.cell?_setCell_same (w3.setCell ⟨X, 1, none⟩ (.int .i64 ((s.pos : Int) + 1))) ⟨w.heap.size, 0, none⟩ (.int .i64 p1) ((World.cell?_setCell_other _ _ _ _ (by simp <;> omega)).trans y0)
  have s1 := World.cell?_setCell_same ((w3.setCell ⟨X, 1, none⟩ (.int .i64 ((s.pos : Int) + 1))).setCell ⟨w.heap.size, 0, none⟩ (.int .i64 p1)) ⟨w.heap.size, 1, none⟩ (.int .i64 p2) ((World.cell?_setCell_other _ _ _ _ (by simp)).trans ((World.cell?_setCell_other _ _ _ _ (by simp <;> omega)).trans y1))
  have s2 : ((((w3.setCell ⟨X, 1, none⟩ (.int .i64 ((s.pos : Int) + 1))).setCell ⟨w.heap.size, 0, none⟩ (.int .i64 p1)).setCell ⟨w.heap.size, 1, none⟩ (.int .i64 p2)).cell? ⟨w.heap.size, 0, none⟩) = some (.int .i64 p1) := (World.cell?_setCell_other _ _ _ _ (by simp)).trans s0
  refine bodyPost_ret (v := .agg #[.int .i64 p1, .int .i64 p2]) (by simp [results, Tryz.results95, go_sem, s1, s2]) rfl ⟨rfl, ?_⟩
  have ho : Off X w (((w3.setCell ⟨X, 1, none⟩ (.int .i64 ((s.pos : Int) + 1))).setCell ⟨w.heap.size, 0, none⟩ (.int .i64 p1)).setCell ⟨w.heap.size, 1, none⟩ (.int .i64 p2)) :=
    (((Off.of HB3.out hlt).setX _ _).setN _ _ _ hlt (Nat.le_refl _)).setN _ _ _ hlt (Nat.le_refl _)
  refine HH.out.turn ho HM.out HR.out ?_ rfl ⟨HH.out.fit.tk, HH.out.fit.len, HH.out.fit.arg, HH.out.fit.con, HH.out.fit.fuel, by show s.pos + 1 ≤ _; omega, HH.out.fit.var, HH.out.fit.wrl, HH.out.fit.wrs, HH.out.fit.used⟩
  rw [heap_setCell_other _ _ _ _ (by simpa using hxw), heap_setCell_other _ _ _ _ (by simpa using hxw), heap_setCell_same w3 X 1 _ _ _ HMX.out]
  rfl

theorem next_any (X B : Nat) (w : World) (tv : Value) (E : Rn.En) (s : Rn.St) (h : WkAt X B w tv E s) :
    Calls Tryz.prog 95 #[.pointer (some ⟨X, 0, none⟩)] w fun e w' => e = .returned (.agg #[.int .i64 (Rn.tok E s).1, .int .i64 (Rn.tok E s).2]) ∧ WkAt X B w' tv E (Rn.adv E s) ∧ WkFr X w w' := by
  by_cases hp : s.pos < E.tk.length
  · exact next_ok X B w tv E s h hp
  · have ht : Rn.tok E s = (0, 0) := by unfold Rn.tok; rw [List.getElem?_eq_none (by omega)]; rfl
    have ha : Rn.adv E s = s := by unfold Rn.adv; rw [if_neg hp]
    rw [ht, ha]
    exact (next_no X B w tv E s h hp).mono fun e w' ⟨he, hb⟩ => ⟨he, h.below hb, WkFr.below hb h.lt⟩
end Go.Proofs.YtellilpeakpbfabGreatDoor

end

section
/-
  The walks of argument, variable, oneIf, bounded, reckoned; of find and get.
-/
namespace Go.Proofs.YtellilpeakpbfabGreatDoor
open Go.RowKit

set_option maxHeartbeats 1000000 in
theorem argument_any (X B : Nat) (w : World) (tv : Value) (E : Rn.En) (s : Rn.St) (k : Int) (h : WkAt X B w tv E s) :
    Calls Tryz.prog 175 #[.pointer (some ⟨X, 0, none⟩), .int .i64 k] w fun e w' => e = .returned (.int .i64 (Rn.arg E k)) ∧ w' = w := by
  obtain ⟨wv, -, -, hc, -⟩ := h.cells
  have c0 : w.cell? ⟨X, 2, none⟩ = some (.int .i64 E.a0) := hc 2
  have c1 : w.cell? ⟨X, 3, none⟩ = some (.int .i64 E.a1) := hc 3
  have c2 : w.cell? ⟨X, 4, none⟩ = some (.int .i64 E.a2) := hc 4
  have c3 : w.cell? ⟨X, 5, none⟩ = some (.int .i64 E.a3) := hc 5
  clear h hc
  by_cases hk : 0 ≤ k ∧ k ≤ 3
  · have hk' : k = 0 ∨ k = 1 ∨ k = 2 ∨ k = 3 := by omega
    rcases hk' with rfl | rfl | rfl | rfl
    all_goals
      go_enter Tryz.func175, Tryz.ntmps175
      go_wp2
      go_ret
      exact ⟨rfl, rfl⟩
  · have HE : Hid (Rn.arg E k = 0) := by
      show _ = _
      unfold Rn.arg
      rw [if_neg (by omega), if_neg (by omega), if_neg (by omega), if_neg (by omega)]
    by_cases h0 : k < 0
    · have t1 : decide (k < 0) = true := decide_eq_true h0
      go_enter Tryz.func175, Tryz.ntmps175
      go_wp2
      go_ret
      rw [HE.out]
      exact ⟨rfl, rfl⟩
    · have t1 : decide (k < 0) = false := decide_eq_false h0
      have t2 : decide (4 ≤ k) = true := decide_eq_true (by omega)
      go_enter Tryz.func175, Tryz.ntmps175
      go_wp2
      go_ret
      rw [HE.out]
      exact ⟨rfl, rfl⟩
set_option maxHeartbeats 1000000 in
theorem variable_any (X B : Nat) (w : World) (tv : Value) (E : Rn.En) (s : Rn.St) (k : Int) (h : WkAt X B w tv E s) :
    Calls Tryz.prog 176 #[.pointer (some ⟨X, 0, none⟩), .int .i64 k] w fun e w' => e = .returned (.int .i64 (Rn.var s k)) ∧ w' = w := by
  obtain ⟨wv, -, -, hc, -⟩ := h.cells
  have c0 : w.cell? ⟨X, 6, none⟩ = some (.int .i64 s.v0) := hc 6
  have c1 : w.cell? ⟨X, 7, none⟩ = some (.int .i64 s.v1) := hc 7
  have c2 : w.cell? ⟨X, 8, none⟩ = some (.int .i64 s.v2) := hc 8
  have c3 : w.cell? ⟨X, 9, none⟩ = some (.int .i64 s.v3) := hc 9
  clear h hc
  by_cases hk : 0 ≤ k ∧ k ≤ 3
  · have hk' : k = 0 ∨ k = 1 ∨ k = 2 ∨ k = 3 := by omega
    rcases hk' with rfl | rfl | rfl | rfl
    all_goals
      go_enter Tryz.func176, Tryz.ntmps176
      go_wp2
      go_ret
      exact ⟨rfl, rfl⟩
  · have HE : Hid (Rn.var s k = 0) := by
      show _ = _
      unfold Rn.var
      rw [if_neg (by omega), if_neg (by omega), if_neg (by omega), if_neg (by omega)]
    by_cases h0 : k < 0
    · have t1 : decide (k < 0) = true := decide_eq_true h0
      go_enter Tryz.func176, Tryz.ntmps176
      go_wp2
      go_ret
      rw [HE.out]
      exact ⟨rfl, rfl⟩
    · have t1 : decide (k < 0) = false := decide_eq_false h0
      have t2 : decide (4 ≤ k) = true := decide_eq_true (by omega)
      go_enter Tryz.func176, Tryz.ntmps176
      go_wp2
      go_ret
      rw [HE.out]
      exact ⟨rfl, rfl⟩

theorem oneIf_any (b : Bool) (w : World) : Calls Tryz.prog 187 #[.bool b] w fun e w' => e = .returned (.int .i64 (Rn.oneIf b)) ∧ w' = w := by
  cases b
  all_goals
    go_enter Tryz.func187, Tryz.ntmps187
    go_wp2
    go_ret
    exact ⟨rfl, rfl⟩
theorem bounded_any (n : Int) (w : World) : Calls Tryz.prog 188 #[.int .i64 n] w fun e w' => e = .returned (.tuple #[.int .i64 (Rn.bounded n).1, .int .i64 (Rn.bounded n).2]) ∧ w' = w := by
  by_cases h0 : -1000000000 ≤ n
  · have t1 : decide (n < -1000000000) = false := decide_eq_false (by omega)
    by_cases h1 : n ≤ 1000000000
    · have t2 : decide (1000000000 < n) = false := decide_eq_false (by omega)
      have HE : Hid (Rn.bounded n = (n, 0)) := by show _ = _; unfold Rn.bounded; rw [if_pos (by unfold Jn.isVal; simp; omega)]
      go_enter Tryz.func188, Tryz.ntmps188
      go_wp2
      go_ret2
      rw [HE.out]
      exact ⟨rfl, rfl⟩
    · have t2 : decide (1000000000 < n) = true := decide_eq_true (by omega)
      have HE : Hid (Rn.bounded n = (0, 7)) := by show _ = _; unfold Rn.bounded; rw [if_neg (by unfold Jn.isVal; simp; omega)]
      go_enter Tryz.func188, Tryz.ntmps188
      go_wp2
      go_ret2
      rw [HE.out]
      exact ⟨rfl, rfl⟩
  · have t1 : decide (n < -1000000000) = true := decide_eq_true (by omega)
    have HE : Hid (Rn.bounded n = (0, 7)) := by show _ = _; unfold Rn.bounded; rw [if_neg (by unfold Jn.isVal; simp; omega)]
    go_enter Tryz.func188, Tryz.ntmps188
    go_wp2
    go_ret2
    rw [HE.out]
    exact ⟨rfl, rfl⟩
theorem mul_bd (a b : Int) (a0 : -1000000000 ≤ a) (a1 : a ≤ 1000000000) (b0 : -1000000000 ≤ b) (b1 : b ≤ 1000000000) : -1000000000000000000 ≤ a * b ∧ a * b ≤ 1000000000000000000 := by
  have h : (a * b).natAbs ≤ 1000000000 * 1000000000 := by rw [Int.natAbs_mul]; exact Nat.mul_le_mul (by omega) (by omega)
  omega
theorem reckoned_any (k a b : Int) (w : World) (a0 : -1000000000 ≤ a) (a1 : a ≤ 1000000000) (b0 : -1000000000 ≤ b) (b1 : b ≤ 1000000000) :
    Calls Tryz.prog 189 #[.int .i64 k, .int .i64 a, .int .i64 b] w fun e w' => e = .returned (.int .i64 (Rn.sum k a b)) ∧ w' = w := by
  by_cases h4 : k = 4
  · subst h4
    have HE : Hid (Rn.sum 4 a b = a + b) := by show _ = _; unfold Rn.sum; rw [if_pos rfl]
    go_enter Tryz.func189, Tryz.ntmps189
    go_wp2
    go_ret
    rw [HE.out]
    exact ⟨rfl, rfl⟩
  · by_cases h5 : k = 5
    · subst h5
      have HE : Hid (Rn.sum 5 a b = a - b) := by show _ = _; unfold Rn.sum; rw [if_neg (by decide), if_pos rfl]
      go_enter Tryz.func189, Tryz.ntmps189
      go_wp2
      go_ret
      rw [HE.out]
      exact ⟨rfl, rfl⟩
    · have t4 : (k == 4) = false := by simpa using h4
      have t5 : (k == 5) = false := by simpa using h5
      have HE : Hid (Rn.sum k a b = a * b) := by show _ = _; unfold Rn.sum; rw [if_neg h4, if_neg h5]
      obtain ⟨m0, m1⟩ := mul_bd a b a0 a1 b0 b1
      go_enter Tryz.func189, Tryz.ntmps189
      go_wp2
      go_ret
      rw [HE.out]
      exact ⟨rfl, rfl⟩

theorem wr3_at (l : List (Int × Bool × Int)) : ∀ (k : Nat) (p : Int × Bool × Int), l[k]? = some p → (wr3 l)[k * 3]? = some (.int .i64 p.1) ∧ (wr3 l)[k * 3 + 1]? = some (.bool p.2.1) ∧ (wr3 l)[k * 3 + 2]? = some (.int .i64 p.2.2) := by
  induction l with
  | nil => intro k p h; simp at h
  | cons a r ih =>
    intro k p h
    cases k with
    | zero => simp at h; subst h; simp [wr3]
    | succ k =>
      obtain ⟨h1, h2, h3⟩ := ih k p (by simpa using h)
      have e : wr3 (a :: r) = .int .i64 a.1 :: .bool a.2.1 :: .int .i64 a.2.2 :: wr3 r := rfl
      rw [e, show (k + 1) * 3 = k * 3 + 1 + 1 + 1 by omega]
      simp only [List.getElem?_cons_succ]
      exact ⟨h1, h2, h3⟩
theorem WRow.shape {w : World} {b : Nat} {v : Value} {l : List (Int × Bool × Int)} (h : WRow w b v l) :
    ∃ ao cap, v = .slice ao l.length cap ∧ (0 < l.length → ∃ g, ao = some ⟨g, 0, none⟩ ∧ b ≤ g ∧ ∀ j p, l[j]? = some p → w.cell? ⟨g, j * 3, none⟩ = some (.int .i64 p.1) ∧ w.cell? ⟨g, j * 3 + 1, none⟩ = some (.bool p.2.1) ∧ w.cell? ⟨g, j * 3 + 2, none⟩ = some (.int .i64 p.2.2)) := by
  have h0 := h
  rcases h.2 with ⟨rfl, hn⟩ | ⟨g, cap, cur, rfl, hg, hh, hcap, hm, hsz, htake⟩
  · exact ⟨none, 0, by rw [hn], fun hp => by omega⟩
  · refine ⟨_, cap, rfl, fun _ => ⟨g, rfl, hg, fun j p hj => ?_⟩⟩
    obtain ⟨c1, c2, c3⟩ := wr3_at l j p hj
    have a1 := h0.cells (g := g) rfl (j * 3) _ c1
    have a2 := h0.cells (g := g) rfl (j * 3 + 1) _ c2
    have a3 := h0.cells (g := g) rfl (j * 3 + 2) _ c3
    simp only [Addr.add_lit, Nat.zero_add] at a1 a2 a3
    exact ⟨a1, a2, a3⟩

def FnRel (ws : List (Int × Bool × Int)) (k : Int) (i : Value) : Prop := ∃ j : Nat, j ≤ ws.length ∧ i = .int .i64 j ∧ ∀ p ∈ ws.take j, p.1 ≠ k
theorem find_at (ws : List (Int × Bool × Int)) (k : Int) (j : Nat) (hj : j ≤ ws.length) (h1 : ∀ p ∈ ws.take j, p.1 ≠ k) (h2 : ∀ p, ws[j]? = some p → p.1 = k) : Rn.find ws k = j := by
  unfold Rn.find
  induction ws generalizing j with
  | nil => simp at hj; simp [hj]
  | cons a r ih =>
    cases j with
    | zero => rw [List.findIdx_cons, h2 a rfl]; simp
    | succ j =>
      have ha : (a.1 == k) = false := by simpa using h1 a (by simp)
      rw [List.findIdx_cons, ha]
      simp only [cond_false]
      rw [ih j (by simpa using hj) (fun p hp => h1 p (by simp [hp])) (fun p hp => h2 p (by simpa using hp))]

set_option maxHeartbeats 1000000 in
set_option maxRecDepth 100000 in
theorem find_any (X B : Nat) (w : World) (tv : Value) (E : Rn.En) (s : Rn.St) (k : Int) (h : WkAt X B w tv E s) :
    Calls Tryz.prog 179 #[.pointer (some ⟨X, 10, none⟩), .int .i64 k] w fun e w' => e = .returned (.int .i64 (Rn.find s.writes k)) ∧ Below w.heap.size w w' := by
  obtain ⟨wv, hr, -, hc, -⟩ := h.cells
  obtain ⟨ao, cap, rfl, hsh⟩ := hr.shape
  have c11 : w.cell? ⟨X, 11, none⟩ = some (.slice ao s.writes.length cap) := hc 11
  have hwl := h.fit.wrl
  have HC := hide hsh
  clear h hc hr hsh
  generalize s.writes = ws at *
  go_enter Tryz.func179, Tryz.ntmps179
  go_wp2
  go_loop [5] (fun i => FnRel ws k i) (fun i => ws.length - (intOf i).toNat)
  case atStart => exact ⟨0, Nat.zero_le _, rfl, by simp⟩
  case round =>
    obtain ⟨j, hj, rfl, hal⟩ := hrel
    have HA := hide hal
    clear hal
    by_cases hlt : j < ws.length
    · obtain ⟨g, rfl, -, hcs⟩ := HC.out (by omega)
      obtain ⟨p, hp⟩ : ∃ p, ws[j]? = some p := ⟨ws[j], by simp [hlt]⟩
      obtain ⟨d1, -, -⟩ := hcs j p hp
      have HP := hide hp
      have tj : decide ((j : Int) < (ws.length : Int)) = true := by simp; omega
      clear hcs hp
      obtain ⟨p1, p2, p3⟩ := p
      cases ht : (p1 != k) with
      | true =>
        have HR : Hid (∀ p ∈ ws.take (j + 1), p.1 ≠ k) := by
          intro p hp
          rw [List.take_succ_eq_append_getElem hlt, List.mem_append] at hp
          rcases hp with h | h
          · exact HA.out p h
          · simp at h
            have : ws[j] = (p1, p2, p3) := (List.getElem?_eq_some_iff.1 HP.out).2
            rw [h, this]
            simpa using ht
        go_wp2
        go_round
        case rel => exact ⟨j + 1, by omega, by go_num, HR.out⟩
        case measure => simp [intOf]; omega
      | false =>
        have HR : Hid (Rn.find ws k = j) := find_at ws k j hj HA.out (fun p hp => by rw [HP.out] at hp; cases hp; simpa using ht)
        go_wp2
        go_ret
        rw [HR.out]
        exact ⟨rfl, Below.refl _ _⟩
    · have tj : decide ((j : Int) < (ws.length : Int)) = false := by simp; omega
      have HR : Hid (Rn.find ws k = j) := find_at ws k j hj HA.out (fun p hp => by have := (List.getElem?_eq_some_iff.1 hp).1; omega)
      go_wp2
      go_ret
      rw [HR.out]
      exact ⟨rfl, Below.refl _ _⟩
end Go.Proofs.YtellilpeakpbfabGreatDoor

end

section
/-
  The walks of get and write.
-/
namespace Go.Proofs.YtellilpeakpbfabGreatDoor
open Go.RowKit

theorem heldGet_any (B : Nat) (C : Jn.Con) (k : Int) (w : World) (h : ConAt 0 w B C) :
    Calls Tryz.prog 59 #[.pointer (some ⟨B, 0, none⟩), .int .i64 k] w fun e w' => e = .returned (.tuple #[.int .i64 (Rn.held C k).1, .bool (Rn.held C k).2.1, .int .i64 (Rn.held C k).2.2]) ∧ Below w.heap.size w w' := by
  unfold Rn.held
  cases hk : Jn.isKey k with
  | true =>
    rw [if_pos rfl]
    have hk' : 0 ≤ k ∧ k ≤ 99 := by unfold Jn.isKey at hk; simpa using hk
    have := get_in 0 B C k.toNat w h (by omega)
    rw [show ((k.toNat : Nat) : Int) = k by omega] at this
    exact this
  | false =>
    rw [if_neg (by simp)]
    exact (get_out B k w hk).mono fun e w' ⟨he, hw⟩ => ⟨he, by rw [hw]; exact Below.refl _ _⟩

theorem find_le (ws : List (Int × Bool × Int)) (k : Int) : Rn.find ws k ≤ ws.length := List.findIdx_le_length

set_option maxHeartbeats 1000000 in
set_option maxRecDepth 100000 in
theorem getW_any (X B : Nat) (w : World) (tv : Value) (E : Rn.En) (s : Rn.St) (k : Int) (h : WkAt X B w tv E s) :
    Calls Tryz.prog 186 #[.pointer (some ⟨X, 10, none⟩), .int .i64 k] w fun e w' => e = .returned (.tuple #[.int .i64 (Rn.get E s k).1, .bool (Rn.get E s k).2.1, .int .i64 (Rn.get E s k).2.2]) ∧ Below w.heap.size w w' := by
  have HF := hide (find_any X B w tv E s k h)
  have hle := find_le s.writes k
  have hwl := h.fit.wrl
  have HH := hide h
  by_cases hlt : Rn.find s.writes k < s.writes.length
  · obtain ⟨p, hp⟩ : ∃ p, s.writes[Rn.find s.writes k]? = some p := ⟨s.writes[Rn.find s.writes k], by simp [hlt]⟩
    have HE : Hid (Rn.get E s k = (p.2.2, p.2.1, 0)) := by show _ = _; unfold Rn.get; rw [hp]
    have HP := hide hp
    clear h hp
    obtain ⟨p1, p2, p3⟩ := p
    obtain ⟨n, hn⟩ : ∃ n, n = Rn.find s.writes k := ⟨_, rfl⟩
    rw [← hn] at HF HP hlt hle
    clear hn
    go_enter Tryz.func186, Tryz.ntmps186
    go_wp2_with fail
    refine HF.out.mono ?_
    rintro e w1 ⟨rfl, hb⟩
    obtain ⟨wv, hr, -, hc, -⟩ := (HH.out.below hb).cells
    obtain ⟨ao, cap, rfl, hsh⟩ := hr.shape
    obtain ⟨g, rfl, -, hcs⟩ := hsh (by omega)
    obtain ⟨d1, d2, d3⟩ := hcs _ _ HP.out
    simp only at d1 d2 d3
    have c11 : w1.cell? ⟨X, 11, none⟩ = some (.slice (some ⟨g, 0, none⟩) s.writes.length cap) := hc 11
    have t1 : decide ((n : Int) < (s.writes.length : Int)) = true := by simp; omega
    have HB := hide hb
    clear hb hc hr hsh hcs HP
    go_wp2
    go_quiet (fail)
    go_wp2
    go_ret3
    rw [HE.out]
    exact ⟨rfl, below_drewN HB.out _⟩
  · have HE : Hid (Rn.get E s k = Rn.held E.con k) := by show _ = _; unfold Rn.get; rw [List.getElem?_eq_none (by omega)]
    clear h
    obtain ⟨n, hn⟩ : ∃ n, n = Rn.find s.writes k := ⟨_, rfl⟩
    rw [← hn] at HF hlt hle
    clear hn
    go_enter Tryz.func186, Tryz.ntmps186
    go_wp2_with fail
    refine HF.out.mono ?_
    rintro e w1 ⟨rfl, hb⟩
    have h1 := HH.out.below hb
    obtain ⟨wv, hr, -, hc, -⟩ := h1.cells
    obtain ⟨ao, cap, rfl, -⟩ := hr.shape
    have c11 : w1.cell? ⟨X, 11, none⟩ = some (.slice ao s.writes.length cap) := hc 11
    have c10 : w1.cell? ⟨X, 10, none⟩ = some (.pointer (some ⟨B, 0, none⟩)) := hc 10
    have t1 : decide ((n : Int) < (s.writes.length : Int)) = false := by simp; omega
    have HB := hide hb
    have HG := hide (heldGet_any B E.con k w1 h1.con)
    clear hb hc hr h1
    generalize Rn.held E.con k = q at HG HE
    obtain ⟨q1, q2, q3⟩ := q
    go_wp2_with fail
    refine HG.out.mono ?_
    rintro e w2 ⟨rfl, hb2⟩
    have HB2 := hide hb2
    clear hb2
    go_wp2
    go_ret3
    rw [HE.out]
    exact ⟨rfl, HB.out.trans (HB2.out.mono HB.out.size)⟩
end Go.Proofs.YtellilpeakpbfabGreatDoor

end
