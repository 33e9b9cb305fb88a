/-
  From the script as it is read to what the walks ask.
-/
import Derived.Test.YthehkgglblohfaaGreatDoorLawK
import Derived.ProofKit
import Derived.OpenShut
import Derived.Deep.Slices
import Derived.ChangeSame
import Derived.Carry
namespace Go.Proofs.YthehkgglblohfaaGreatDoor.Scd
open Go.ChangeShapes Go.WideShapes Go.ChangeAt Go.RowKit

section
variable {H : Type} {enc : TypeId × Value → H}

theorem cellsOp : Tryz.prog.cellsOf 30 = 8 := by kernel_rfl
theorem bytesOp : Tryz.prog.bytesOf 30 = 112 := by kernel_rfl
theorem cInt : Tryz.prog.cellsOf 3 = 1 := by kernel_rfl
theorem cStr : Tryz.prog.cellsOf 9 = 1 := by kernel_rfl
theorem cInts : Tryz.prog.cellsOf 24 = 1 := by kernel_rfl

/-- a slice of numbers is some slice. -/
theorem some_slice {W : World} {fuel : Nat} {v : Value} {x : DataW H × List MemPlace} (h : DataW.trod enc Tryz.prog W 0 (fun _ => true) true fuel 24 [v] = some x) : ∃ lo ln lc, v = .slice lo ln lc := by
  rcases DataW.trod_slice Tryz.underlying24 h with ⟨e, -⟩ | ⟨a, len, cap, elems, rest, n, _, e, _⟩
  · exact ⟨none, 0, 0, by simpa using e⟩
  · exact ⟨some a, len, cap, by simpa using e⟩

set_option maxRecDepth 100000 in
theorem op_of {W : World} {fuel : Nat} {cs : List Value} {x : DataW H × List MemPlace} (h : DataW.trod enc Tryz.prog W 0 (fun _ => true) true fuel 30 cs = some x) :
    ∃ o : OpD, cs = o.cells.toList ∧ -9223372036854775808 ≤ o.m ∧ o.m ≤ 9223372036854775807 := by
  obtain ⟨xs, n, _, -, hl, hxl, hf⟩ := DataW.trod_struct Tryz.underlying30 h
  rw [cellsOp] at hl
  match cs, hl, xs, hxl with
  | [c0, c1, c2, c3, c4, c5, c6, c7], _, [y0, y1, y2, y3, y4, y5, y6, y7], _ =>
    have g0 := hf 0 _ rfl
    have g1 := hf 1 _ rfl
    have g2 := hf 2 _ rfl
    have g3 := hf 3 _ rfl
    have g4 := hf 4 _ rfl
    have g5 := hf 5 _ rfl
    have g6 := hf 6 _ rfl
    have g7 := hf 7 _ rfl
    simp [cInt, cStr, cInts] at g0 g1 g2 g3 g4 g5 g6 g7
    obtain ⟨k0, e0, -, -⟩ := DataW.trod_int Tryz.underlying3 g0
    obtain ⟨k1, e1, -, -⟩ := DataW.trod_int Tryz.underlying3 g1
    obtain ⟨k2, e2, -, w2⟩ := DataW.trod_int Tryz.underlying3 g2
    obtain ⟨s, e3, -, -⟩ := DataW.trod_string Tryz.underlying9 g3
    obtain ⟨t, e4, -, -⟩ := DataW.trod_string Tryz.underlying9 g4
    obtain ⟨lo, ln, lc, e5⟩ := some_slice g5
    obtain ⟨k6, e6, -, -⟩ := DataW.trod_int Tryz.underlying3 g6
    obtain ⟨wo, wn, wc, e7⟩ := some_slice g7
    simp only [List.cons.injEq, and_true] at e0 e1 e2 e3 e4 e6
    subst e0 e1 e2 e3 e4 e5 e6 e7
    refine ⟨⟨k0, k1, k2, s, t, lo, ln, lc, k6, wo, wn, wc⟩, rfl, ?_⟩
    have := w2
    simp [Lit.wf] at this
    exact ⟨this.1, this.2⟩

/-- The script, opened. -/
theorem scr_of {W : World} {fuel : Nat} {v : Value} {x : DataW H × List MemPlace} (h : DataW.trod enc Tryz.prog W 0 (fun _ => true) true fuel 22 [v] = some x) :
    ∃ ao cap ops, v = .slice ao (List.length ops) cap ∧ (0 < ops.length → ∃ g z, ao = some ⟨g, z, none⟩ ∧ ScrAt W g z ops) ∧ (∀ o ∈ ops, -9223372036854775808 ≤ o.m ∧ o.m ≤ 9223372036854775807) ∧
      (ops = [] ∨ ∃ el sp, x.1 = .slice el sp ∧ el.length = ops.length) := by
  rcases Deep.open_slice Tryz.underlying22 h with ⟨e, -⟩ | ⟨a, len, cap, m, n, D, Pl, e, -, hl, -, hm, hx, hi⟩
  · exact ⟨none, 0, [], by simpa using e, by simp, by simp, .inl rfl⟩
  · have hlm : len ≤ m := by rw [hm]; simpa using hl
    rw [cellsOp] at hi
    have each : ∀ i, i < len → ∃ o : OpD, (∀ j u, o.cells[j]? = some u → W.cell? (a.add (i * 8 + j)) = some u) ∧ -9223372036854775808 ≤ o.m ∧ o.m ≤ 9223372036854775807 := by
      intro i hil
      obtain ⟨cs', h1, h2⟩ := hi i (by omega)
      obtain ⟨_, hlen, hcell⟩ := World.cells?_some h1
      obtain ⟨o, rfl, hb⟩ := op_of h2
      refine ⟨o, fun j u hu => ?_, hb⟩
      have hj : j < 8 := by have := (Array.getElem?_eq_some_iff.1 hu).1; simpa [OpD.cells] using this
      have := hcell j hj
      rw [Deep.add_add] at this
      rw [this]
      simpa using hu
    have : Inhabited OpD := ⟨⟨0, 0, 0, ⟨#[]⟩, ⟨#[]⟩, none, 0, 0, 0, none, 0, 0⟩⟩
    obtain ⟨q, hq⟩ := Deep.choose_lt each
    have hops : ∀ k o, ((List.range len).map q)[k]? = some o → k < len ∧ o = q k := by
      intro k o ho
      rw [List.getElem?_map] at ho
      by_cases hk : k < len
      · rw [List.getElem?_range hk] at ho
        simp at ho
        exact ⟨hk, ho.symm⟩
      · rw [List.getElem?_eq_none (by simp; omega)] at ho
        simp at ho
    refine ⟨some a, cap, (List.range len).map q, by simpa using e, ?_, ?_, .inr ⟨_, _, by rw [hx], by simp⟩⟩
    · intro h0
      simp at h0
      obtain ⟨g, z, sp⟩ := a
      have c0 := (hq 0 h0).1 0 _ rfl
      have hspot : sp = none := by simpa [Addr.add] using World.cell?_spot c0
      subst hspot
      refine ⟨g, z, rfl, World.block_lt_of_cell? W _ c0, ?_⟩
      intro k o ho j u hu
      obtain ⟨hk, rfl⟩ := hops k o ho
      have := (hq k hk).1 j u hu
      rw [← this]
      congr 1
      unfold Addr.add
      split <;> simp_all [Nat.add_assoc]
    · intro o ho
      obtain ⟨k, hk, rfl⟩ := List.mem_map.1 ho
      exact (hq k (List.mem_range.1 hk)).2
end
end Go.Proofs.YthehkgglblohfaaGreatDoor.Scd
