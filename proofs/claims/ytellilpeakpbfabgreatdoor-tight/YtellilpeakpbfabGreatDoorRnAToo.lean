import Derived.Test.YtellilpeakpbfabGreatDoorCellPToo
import Derived.Test.YtellilpeakpbfabGreatDoorStoreToo
import Derived.BigQuiet
section
/-
  The walk of World.cells: Get.
-/
namespace Go.Proofs.YtellilpeakpbfabGreatDoor
open Go.RowKit

set_option maxRecDepth 100000 in
theorem field_rc (a b : Value) (w : World) : Sem.run Tryz.prog (Instr.field 146 (.agg #[a, b]) 0) w = .ok a w := by rfl
/-- a step that only reads. -/
theorem step_same {L W D m : Nat} {w w9 : World} {C : Jn.Con} (h : SInv L W D w C m) (b : Below w.heap.size w w9) : StepPost L W D m w (.returned (.bool true)) w9 := by
  obtain ⟨S, B, f, past, d, nc, nq, na, hlaw, hst, hlast, hpm, hnc, hnq, hna, hdk, hds, hpl⟩ := h
  exact step_err hlaw hlast hpm hnc hnq hna hdk hds hpl (Below.refl _ _) (Below.refl _ _) (Fr.refl _ _ _ _) hst b

set_option maxHeartbeats 8000000 in
set_option maxRecDepth 100000 in
theorem cells_get_any (L W D m : Nat) (w : World) (C : Jn.Con) (o : OpD) (ho : o.kind = 5) (h : SInv L W D w C m) (hm : m ≤ 1300000000000) :
    Calls Tryz.prog 76 #[.pointer (some ⟨W, 0, none⟩), .agg o.cells, .bool false] w (StepPost L W D m w) := by
  have HSI := hide h
  obtain ⟨S, B, f, past, d, nc, nq, na, hlaw, hst, hlast, hpm, hnc, hnq, hna, hdk, hds, hpl⟩ := h
  obtain ⟨kk, nn, mm, s, t, lo, ln, lc, cut, wo, wn, wc⟩ := o
  simp only at ho
  subst ho
  simp only [OpD.cells]
  obtain ⟨w1, hw1⟩ : ∃ w1, w1 = w.alloc (.cells #[.int .i64 5, .int .i64 nn, .int .i64 mm, .string s, .string t, .slice lo ln lc, .int .i64 cut, .slice wo wn wc] 106) := ⟨_, rfl⟩
  obtain ⟨B0, hB0⟩ : ∃ B0, B0 = w.heap.size := ⟨_, rfl⟩
  have hB1 : Below w.heap.size w w1 := by rw [hw1]; exact (Below.refl _ _).alloc (Nat.le_refl _) _
  have hbo : w1.heap[B0]? = some (.cells #[.int .i64 5, .int .i64 nn, .int .i64 mm, .string s, .string t, .slice lo ln lc, .int .i64 cut, .slice wo wn wc] 106 (0, 0)) := by rw [hw1, hB0]; exact heap_alloc_new w _
  have q1 : w1.cell? ⟨B0, 1, none⟩ = some (.int .i64 nn) := (cell_of_row w1 B0 1 _ _ _ hbo).trans rfl
  have hlaw1 := hlaw.below hB1
  obtain ⟨vp, vc, vq, va, lcs, lqs, lxs, hWA, hpast, -, -, -, -, -, -⟩ := hlaw1.rest
  have HNOW := hide (fun w' (hb : Below w1.heap.size w1 w') => now_any L W w' _ _ vp vc vq va past C (hWA.fr (Fr.of (L := 0) (T := []) (X := none) hb (Nat.zero_le _)) (by simp) (by simp)) (hpast.fr (Fr.of (T := []) hb (Nat.le_trans hlaw1.low (Nat.le_refl _))) (by simp) (by simp) (by simp)) hlast (by omega))
  obtain ⟨c0, -, -, -, -, -⟩ := hWA.cell
  have hok : Jn.Ok C := hst.con.ok
  have HCE := hide (fun v x hr => cellR_any 0 v C.list nn x hr (list_bound hok))
  have HGET : Hid (∀ x, Below w1.heap.size w1 x → ∃ gv gb ge, Calls Tryz.prog 40 #[.pointer (some ⟨S, 0, none⟩), .int .i64 nn] x (fun e w' => e = .returned (.tuple #[.int .i64 gv, .bool gb, .int .i64 ge]) ∧ Below x.heap.size x w') ∧
      ((0 ≤ nn ∧ nn ≤ 99 ∧ ge = 0 ∧ gv = (cellL C.list nn).getD 0 ∧ gb = (cellL C.list nn).isSome) ∨ ((nn < 0 ∨ 99 < nn) ∧ ge = 5 ∧ gv = 0 ∧ gb = false))) := by
    intro x hx
    by_cases hk : 0 ≤ nn ∧ nn ≤ 99
    · have hn : nn = (nn.toNat : Int) := by omega
      refine ⟨_, _, _, ?_, .inl ⟨hk.1, hk.2, rfl, rfl, rfl⟩⟩
      have := getS_in L S B C f nn.toNat x ((hst.below hB1).below hx) (by omega)
      rw [← cell_con hok nn.toNat (by omega), ← hn] at this
      exact this
    · exact ⟨0, false, 5, getS_out L S B C f nn x ((hst.below hB1).below hx) (by unfold Jn.isKey; simp; omega), .inr ⟨by omega, rfl, rfl, rfl⟩⟩
  have HB1 := hide hB1
  clear hB1 hbo hlaw hst hlaw1 hWA hpast hok
  generalize (cellL C.list nn).getD 0 = cv at HCE HGET
  generalize (cellL C.list nn).isSome = cb at HCE HGET
  obtain ⟨gv, gb, ge, hg, hor⟩ := HGET.out w1.drew (Below.drew (Below.refl _ _))
  have HG := hide hg
  have HK : Hid (∀ x : World, Below w1.heap.size w1 x → x.cell? ⟨W, 0, none⟩ = some (.pointer (some ⟨S, 0, none⟩)) ∧ x.cell? ⟨B0, 1, none⟩ = some (.int .i64 nn)) := fun x hx => ⟨at_old hx c0, at_old hx q1⟩
  clear hg HGET
  go_enter Tryz.func76, Tryz.ntmps76
  go_upto_region 11 with fail
  rw [← hw1, ← hB0]
  have HW1 := hide hw1
  have HB0 := hide hB0
  clear hw1 hB0
  go_region_held3 (fun w' => w'.cell? ⟨W, 0, none⟩ = some (.pointer (some ⟨S, 0, none⟩)) ∧ w'.cell? ⟨B0, 1, none⟩ = some (.int .i64 nn))
    (first | with_reducible exact HK.out _ hb2 | go_keep)
    (first | (go_at_call 40; refine HG.out.mono ?_; rintro e w2 ⟨rfl, hb20⟩; have hb2 : Below w1.heap.size w1 w2 := (Below.drew (Below.refl _ _)).trans hb20))
  obtain ⟨k0, k1⟩ := HK.out _ hb2
  have HB2 := hide hb2
  clear hb2 hb20 HG c0 q1
  have hfd := field_rc
  go_wp2_with fail
  go_region_held3 (fun w' => w'.cell? ⟨B0, 1, none⟩ = some (.int .i64 nn))
    (first | with_reducible exact (HK.out _ hb3).2 | with_reducible exact (HK.out _ (Below.drew HB2.out)).2 | go_keep)
    (first | (go_at_call 113; refine (HNOW.out _ (Below.drew HB2.out)).mono ?_; rintro e w3 ⟨sc, sp, rfl, hcr, hpr, hb30⟩; obtain ⟨so, sk, rfl⟩ := crow_slice hcr; obtain ⟨po, pk, rfl, -⟩ := hpr.shape; have hb3 : Below w1.heap.size w1 w3 := (Below.drew HB2.out).trans (hb30.mono HB2.out.size)) | (go_at_call 116; refine (HCE.out _ _ hcr).mono ?_; rintro e w4 ⟨rfl, rfl⟩))
  have g1 := (HK.out _ hb3).2
  have HFIN := hide (step_same HSI.out (HB1.out.trans (hb3.mono HB1.out.size)))
  clear hb3 hb30 hcr hpr k0 k1 HNOW HCE HK HSI
  have HNUM := hide (num_any 5)
  rcases hor with ⟨h0, h1, rfl, rfl, rfl⟩ | ⟨hx, rfl, rfl, rfl⟩
  · have t1 : decide (nn < 0) = false := by simp; omega
    have t2 : decide (99 < nn) = false := by simp; omega
    go_wp2_with fail
    go_ret
    exact HFIN.out
  · by_cases hlt : nn < 0
    · have t1 : decide (nn < 0) = true := by simp; omega
      go_wp2_with fail
      refine (HNUM.out _).mono ?_
      rintro e w4 ⟨rfl, rfl⟩
      go_wp2_with fail
      go_ret
      exact HFIN.out
    · have t1 : decide (nn < 0) = false := by simp; omega
      have t2 : decide (99 < nn) = true := by simp; omega
      go_wp2_with fail
      refine (HNUM.out _).mono ?_
      rintro e w4 ⟨rfl, rfl⟩
      go_wp2_with fail
      go_ret
      exact HFIN.out
end Go.Proofs.YtellilpeakpbfabGreatDoor

end

section
/-
  The walk of World.cells: Cells.
-/
namespace Go.Proofs.YtellilpeakpbfabGreatDoor
open Go.RowKit

/-- a row's own block lies where the row lies. -/
theorem own_lies {w : World} {b : Nat} {e : TypeId} {s : Nat} {v : Value} {n : Nat} {xs : List Value} (h : w.ownsRow b e s v n xs) : ∀ k, v.ownBlock = some k → b ≤ k := by
  intro k hk
  rcases h.2 with ⟨rfl, _⟩ | ⟨g, cap, cur, rfl, hb, _⟩
  · simp [Value.ownBlock] at hk
  · simp [Value.ownBlock] at hk
    omega

set_option maxHeartbeats 8000000 in
set_option maxRecDepth 100000 in
theorem cells_cells (L W D m : Nat) (w : World) (C : Jn.Con) (o : OpD) (ho : o.kind = 6) (h : SInv L W D w C m) (hm : m ≤ 1300000000000) :
    Calls Tryz.prog 76 #[.pointer (some ⟨W, 0, none⟩), .agg o.cells, .bool false] w (StepPost L W D m w) := by
  obtain ⟨S, B, f, past, d, nc, nq, na, hlaw, hst, hlast, hpm, hnc, hnq, hna, hdk, hds, hpl⟩ := h
  obtain ⟨kk, nn, mm, s, t, lo, ln, lc, cut, wo, wn, wc⟩ := o
  simp only at ho
  subst ho
  simp only [OpD.cells]
  obtain ⟨w1, hw1⟩ : ∃ w1, w1 = w.alloc (.cells #[.int .i64 6, .int .i64 nn, .int .i64 mm, .string s, .string t, .slice lo ln lc, .int .i64 cut, .slice wo wn wc] 106) := ⟨_, rfl⟩
  have hB1 : Below w.heap.size w w1 := by rw [hw1]; exact (Below.refl _ _).alloc (Nat.le_refl _) _
  have hlaw1 := hlaw.below hB1
  have hst1 := hst.below hB1
  obtain ⟨vp, vc, vq, va, lcs, lqs, lxs, hWA, hpast, hh1, e1, hh2, e2, hh3, e3⟩ := hlaw1.rest
  have HNOW := hide (fun w' (hb : Below w1.heap.size w1 w') => now_any L W w' _ _ vp vc vq va past C (hWA.fr (Fr.of (L := 0) (T := []) (X := none) hb (Nat.zero_le _)) (by simp) (by simp)) (hpast.fr (Fr.of (T := []) hb (Nat.le_trans hlaw1.low (Nat.le_refl _))) (by simp) (by simp) (by simp)) hlast (by omega))
  obtain ⟨c0, -, -, -, -, -⟩ := hWA.cell
  have hok : Jn.Ok C := hst.con.ok
  have HCS := hide (cellsS_any L S B C f w1 hst1)
  have HSM : Hid (∀ (va' vb : Value) (x : World), CRow x w1.heap.size va' C.list → CRow x 0 vb C.list → Calls Tryz.prog 99 #[va', vb] x (fun e w' => e = .returned (.bool true) ∧ Below x.heap.size x w')) := fun va' vb x ha hb => by
    have := sameCells_any w1.heap.size 0 va' vb C.list C.list x ha hb (list_bound hok)
    rw [decide_eq_true (rfl : C.list = C.list)] at this
    exact this
  have hLw := hlaw1.low
  have hz1 := hB1.size
  have HKC : Hid (∀ (x : World) (v : Value), Below w1.heap.size w1 x → CRow x w1.heap.size v C.list → Calls Tryz.prog 101 #[.pointer (some ⟨W, 3, none⟩), v] x (fun e w9 => e = .returned (.tuple #[]) ∧ StepPost L W D m w (.returned (.bool true)) w9)) := by
    intro x v hb hr
    have f1 : Fr L [115, 52] none w1 x := Fr.of hb hLw
    have hlawx := hlaw1.below hb
    refine (keepCells_any L w1.heap.size W x _ _ vp vc vq va lcs v _ _ (hWA.fr (Fr.of (L := 0) (T := []) (X := none) hb (Nat.zero_le _)) (by simp) (by simp)) hlaw.lw
      ((hh1.fr (X := none) (Fr.of (T := []) hb hLw) (by simp) (by simp) (by simp) (.inl rfl)).mono hz1) hr (list_bound hok) hLw hb.size (by omega)).mono ?_
    rintro e w9 ⟨v', ls', rfl, hW9, hh9, hl9, hf9⟩
    have hf : Fr L [115, 52] none w1 w9 := f1.fresh hf9 (own_lies hr)
    have hz9 := hf.size
    refine ⟨rfl, rfl, ⟨C, S, B, f, past, d, nc + 3, nq, na, ⟨hlaw.lw, hlaw.ld, hlaw1.disk.fr hf (by decide) (by simp), vp, v', vq, va, ls', lqs, lxs, hW9, hpast.fr hf (by decide) (by decide) (by decide), hh9, by omega,
      (hh2.fr hf (by decide) (by decide) (by simp) (.inl rfl)).mono (by omega), e2, (hh3.fr hf (by decide) (by decide) (by simp) (.inl rfl)).mono (by omega), e3⟩, ?_, hlast, by omega, by omega, by omega, by omega, hdk, by omega, hpl⟩, ?_⟩
    · exact hst1.fr hf (by decide) (by decide) (by decide) (by simp)
    · exact (hB1.mono hlaw.low).trans hf.below
  clear hB1 hlaw hst hlaw1 hst1 hWA hpast hh1 hh2 hh3 hok
  go_enter Tryz.func76, Tryz.ntmps76
  go_upto_region 16 with fail
  rw [← hw1]
  have HW1 := hide hw1
  clear hw1
  go_wp2_with fail
  refine HCS.out.mono ?_
  rintro e w2 ⟨v, rfl, hcv, hb2⟩
  have g0 := at_old hb2 c0
  have HCV := hide hcv
  have HB2 := hide hb2
  clear hcv hb2 c0 HCS
  have hfd := field_rc
  go_wp2_with fail
  refine (HNOW.out _ HB2.out).mono ?_
  rintro e w3 ⟨sc, sp, rfl, hcr, hpr, hb3⟩
  obtain ⟨so, sk, rfl⟩ := crow_slice hcr
  obtain ⟨po, pk, rfl, -⟩ := hpr.shape
  have HSX := hide (HSM.out v _ w3 (HCV.out.below hb3) hcr)
  have HB3 := hide (HB2.out.trans (hb3.mono HB2.out.size))
  have HCV3 := hide (HCV.out.below hb3)
  clear hcr hpr hb3 HNOW HSM HCV HB2
  go_wp2_with fail
  refine HSX.out.mono ?_
  rintro e w4 ⟨rfl, hb4⟩
  have HB4 := hide (HB3.out.trans (hb4.mono HB3.out.size))
  have HK := hide (HKC.out w4 v (HB3.out.trans (hb4.mono HB3.out.size)) (HCV3.out.below hb4))
  clear hb4 HSX HKC HCV3 HB3
  go_wp2_with fail
  refine HK.out.mono ?_
  rintro e w9 ⟨rfl, hfin⟩
  have HFIN := hide hfin
  clear hfin HK
  go_wp2_with fail
  go_ret
  exact HFIN.out
end Go.Proofs.YtellilpeakpbfabGreatDoor

end

section
/-
  A source that is worked out, in memory; the walks of unit, next, argument, variable and of what reckons.
-/
namespace Go.Proofs.YtellilpeakpbfabGreatDoor
open Go.RowKit

def wr3 (ws : List (Int × Bool × Int)) : List Value := ws.flatMap fun p => [.int .i64 p.1, .bool p.2.1, .int .i64 p.2.2]
def WRow (w : World) (b : Nat) (v : Value) (ws : List (Int × Bool × Int)) : Prop := w.ownsRow b 142 3 v ws.length (wr3 ws)
def TkRow (w : World) (b : Nat) (v : Value) (tk : List (Int × Int)) : Prop := w.ownsRow b 165 2 v tk.length (pairs (tk.map cPair))
theorem TkRow.shape {w : World} {b : Nat} {v : Value} {l : List (Int × Int)} (h : TkRow w b v l) :
    ∃ ao cap, v = .slice ao l.length cap ∧ (0 < l.length → ∃ g cur, ao = some ⟨g, 0, none⟩ ∧ b ≤ g ∧ w.heap[g]? = some (.cells cur 165 (0, 0)) ∧ ∀ j p, l[j]? = some p → w.cell? ⟨g, j * 2, none⟩ = some (.int .i64 p.1) ∧ w.cell? ⟨g, j * 2 + 1, none⟩ = some (.int .i64 p.2)) := by
  have h' : w.ownsRow b 165 2 v (l.map cPair).length (pairs (l.map cPair)) := by rw [List.length_map]; exact h
  obtain ⟨ao, cap, hv, hc⟩ := pair_shape h'
  rw [List.length_map] at hv hc
  refine ⟨ao, cap, hv, fun hp => ?_⟩
  obtain ⟨g, cur, h1, h2, h3, h4⟩ := hc hp
  exact ⟨g, cur, h1, h2, h3, fun j p hj => h4 j (cPair p) (by simp [hj])⟩

def wkCur (E : Rn.En) (tv wv : Value) (B : Nat) (s : Rn.St) : Array Value :=
  #[tv, .int .i64 s.pos, .int .i64 E.a0, .int .i64 E.a1, .int .i64 E.a2, .int .i64 E.a3, .int .i64 s.v0, .int .i64 s.v1, .int .i64 s.v2, .int .i64 s.v3, .pointer (some ⟨B, 0, none⟩), wv, .int .i64 E.fuel, .int .i64 s.used, .bool s.stopped, .int .i64 s.result]
/-- The work at block X, over the contents at block B. -/
structure WkAt (X B : Nat) (w : World) (tv : Value) (E : Rn.En) (s : Rn.St) : Prop where
  mem : ∃ wv, w.heap[X]? = some (.cells (wkCur E tv wv B s) 138 (0, 0)) ∧ WRow w (X + 1) wv s.writes
  toks : TkRow w 0 tv E.tk
  con : ConAt 0 w B E.con
  fit : Rn.Fit E s
/-- what a call of the work may turn. -/
abbrev WkFr (X : Nat) (w w' : World) : Prop := Fr X [138, 142] none w w'

theorem WkAt.lt {X B : Nat} {w : World} {tv : Value} {E : Rn.En} {s : Rn.St} (h : WkAt X B w tv E s) : X < w.heap.size := by
  obtain ⟨wv, hh, -⟩ := h.mem
  exact (Array.getElem?_eq_some_iff.1 hh).1
theorem WkAt.below {X B : Nat} {w w' : World} {tv : Value} {E : Rn.En} {s : Rn.St} (h : WkAt X B w tv E s) (hb : Below w.heap.size w w') : WkAt X B w' tv E s := by
  obtain ⟨wv, hh, hr⟩ := h.mem
  exact ⟨⟨wv, (hb.block X h.lt).trans hh, ownsRow_below hr hb⟩, ownsRow_below h.toks hb, h.con.below hb, h.fit⟩
theorem WkAt.cells {X B : Nat} {w : World} {tv : Value} {E : Rn.En} {s : Rn.St} (h : WkAt X B w tv E s) : ∃ wv, WRow w (X + 1) wv s.writes ∧ w.heap[X]? = some (.cells (wkCur E tv wv B s) 138 (0, 0)) ∧ (∀ j, w.cell? ⟨X, j, none⟩ = (wkCur E tv wv B s)[j]?) ∧ ∀ j, w.frozen? ⟨X, j, none⟩ = false := by
  obtain ⟨wv, hh, hr⟩ := h.mem
  exact ⟨wv, hr, hh, fun j => (cell_of_row w X j _ _ _ hh), fun j => frozen_of_row w X j _ _ hh⟩
theorem WkFr.below {X : Nat} {w w' : World} (hb : Below w.heap.size w w') (h : X < w.heap.size) : WkFr X w w' := Fr.of hb (Nat.le_of_lt h)

theorem WkAt.set {X B : Nat} {w : World} {tv wv : Value} {E : Rn.En} {s s' : Rn.St} (h : WkAt X B w tv E s) (j : Nat) (u : Value) (hm : w.heap[X]? = some (.cells (wkCur E tv wv B s) 138 (0, 0))) (hr : WRow w (X + 1) wv s.writes)
    (hc : (wkCur E tv wv B s).setIfInBounds j u = wkCur E tv wv B s') (hw : s'.writes = s.writes) (hf : Rn.Fit E s') : WkAt X B (w.setCell ⟨X, j, none⟩ u) tv E s' ∧ WkFr X w (w.setCell ⟨X, j, none⟩ u) := by
  have f0 : Fr X [] (some X) w (w.setCell ⟨X, j, none⟩ u) := fr_setCell w X j u (Nat.le_refl _)
  have f1 : WkFr X w (w.setCell ⟨X, j, none⟩ u) := (fr_setCell w X j u (Nat.le_refl _)).typed (fun k hk => by cases hk; exact ⟨_, _, _, hm, by simp⟩) none
  refine ⟨⟨⟨wv, ?_, ?_⟩, own_fr h.toks f1 (by decide) (.inl rfl), ?_, hf⟩, f1⟩
  · rw [heap_setCell_same w X j _ _ u hm, hc]
  · rw [hw]
    exact own_fr hr f0 (by simp) (.inr fun e => by have := own_lies hr X e.symm; omega)
  · have hc := h.con
    have f2 : Fr 0 [138, 142] none w (w.setCell ⟨X, j, none⟩ u) := f1.mono (Nat.zero_le _) (fun _ h => h)
    exact hc.fr f2 (by decide) (by decide) (by simp)

/-- all but block X is as it was, of what there was. -/
structure Off (X : Nat) (w w' : World) : Prop where
  low : Below X w w'
  oth : ∀ k, k < w.heap.size → k ≠ X → w'.heap[k]? = w.heap[k]?
theorem Off.of {X : Nat} {w w' : World} (h : Below w.heap.size w w') (hX : X < w.heap.size) : Off X w w' := ⟨h.mono (Nat.le_of_lt hX), fun k hk _ => h.block k hk⟩
theorem Off.setX {X : Nat} {w w' : World} (h : Off X w w') (j : Nat) (u : Value) : Off X w (w'.setCell ⟨X, j, none⟩ u) :=
  ⟨h.low.setCell (p := ⟨X, j, none⟩) (Nat.le_refl _) _, fun k hk hn => (heap_setCell_other _ _ _ _ (by simpa using hn)).trans (h.oth k hk hn)⟩
theorem Off.setN {X : Nat} {w w' : World} (h : Off X w w') (N j : Nat) (u : Value) (hX : X < w.heap.size) (hN : w.heap.size ≤ N) : Off X w (w'.setCell ⟨N, j, none⟩ u) :=
  ⟨h.low.setCell (p := ⟨N, j, none⟩) (Nat.le_trans (Nat.le_of_lt hX) hN) _, fun k hk hn => (heap_setCell_other _ _ _ _ (by simp; omega)).trans (h.oth k hk hn)⟩
theorem WkAt.turn {X B : Nat} {w w' : World} {tv wv : Value} {E : Rn.En} {s s' : Rn.St} (h : WkAt X B w tv E s) (ho : Off X w w') (hm0 : w.heap[X]? = some (.cells (wkCur E tv wv B s) 138 (0, 0))) (hr : WRow w (X + 1) wv s.writes)
    (hm : w'.heap[X]? = some (.cells (wkCur E tv wv B s') 138 (0, 0))) (hw : s'.writes = s.writes) (hf : Rn.Fit E s') : WkAt X B w' tv E s' ∧ WkFr X w w' := by
  have f0 : Fr 0 [] (some X) w w' := ⟨ho.low.mono (Nat.zero_le _), fun k cur t z hk _ hX => (ho.oth k (Array.getElem?_eq_some_iff.1 hk).1 (fun e => hX (by rw [e]))).trans hk⟩
  have f1 : Fr 0 [138, 142] none w w' := ⟨ho.low.mono (Nat.zero_le _), fun k cur t z hk ht _ => (ho.oth k (Array.getElem?_eq_some_iff.1 hk).1 (fun e => by subst e; rw [hm0] at hk; cases hk; simp at ht)).trans hk⟩
  refine ⟨⟨⟨wv, hm, ?_⟩, own_fr h.toks f1 (by decide) (.inl rfl), h.con.fr f1 (by decide) (by decide) (by simp), hf⟩, ⟨ho.low, f1.block⟩⟩
  rw [hw]
  exact own_fr hr f0 (by simp) (.inr fun e => by have := own_lies hr X e.symm; omega)

set_option maxHeartbeats 400000 in
theorem unit_no (X B : Nat) (w : World) (tv : Value) (E : Rn.En) (s : Rn.St) (h : WkAt X B w tv E s) (hu : E.fuel ≤ s.used) :
    Calls Tryz.prog 133 #[.pointer (some ⟨X, 0, none⟩)] w fun e w' => e = .returned (.int .i64 10) ∧ Below w.heap.size w w' := by
  obtain ⟨wv, -, -, hc, hf⟩ := h.cells
  have c12 : w.cell? ⟨X, 12, none⟩ = some (.int .i64 E.fuel) := hc 12
  have c13 : w.cell? ⟨X, 13, none⟩ = some (.int .i64 s.used) := hc 13
  have t : decide ((E.fuel : Int) ≤ (s.used : Int)) = true := by simp; omega
  clear hc hf h
  go_enter Tryz.func133, Tryz.ntmps133
  go_wp2
  go_quiet (fail)
  go_wp2
  go_ret
  exact ⟨rfl, below_drewN (Below.refl _ _) _⟩
def Rn.use (s : Rn.St) : Rn.St := { s with used := s.used + 1 }
set_option maxHeartbeats 400000 in
theorem unit_ok (X B : Nat) (w : World) (tv : Value) (E : Rn.En) (s : Rn.St) (h : WkAt X B w tv E s) (hu : s.used < E.fuel) :
    Calls Tryz.prog 133 #[.pointer (some ⟨X, 0, none⟩)] w fun e w' => e = .returned (.int .i64 0) ∧ WkAt X B w' tv E (Rn.use s) ∧ WkFr X w w' := by
  obtain ⟨wv, hr, hm, hc, hf⟩ := h.cells
  have c12 : w.cell? ⟨X, 12, none⟩ = some (.int .i64 E.fuel) := hc 12
  have c13 : w.cell? ⟨X, 13, none⟩ = some (.int .i64 s.used) := hc 13
  have f13 := hf 13
  have t : decide ((E.fuel : Int) ≤ (s.used : Int)) = false := by simp; omega
  have hfu := h.fit.fuel
  have HS := hide (fun n => WkAt.set (w := w.drewN n) (s' := Rn.use s) (h.below (below_drewN (Below.refl _ _) n)) 13 (.int .i64 ((s.used : Int) + 1)) hm (own_drewN hr n) rfl rfl ⟨h.fit.tk, h.fit.len, h.fit.arg, h.fit.con, h.fit.fuel, h.fit.pos, h.fit.var, h.fit.wrl, h.fit.wrs, by show s.used + 1 ≤ E.fuel; omega⟩)
  have HL := hide h.lt
  clear hc hf h hm hr
  go_enter Tryz.func133, Tryz.ntmps133
  go_wp2
  go_quiet (fail)
  go_wp2
  go_ret
  exact ⟨rfl, (HS.out _).1, (WkFr.below (below_drewN (Below.refl _ _) _) HL.out).trans (HS.out _).2⟩
end Go.Proofs.YtellilpeakpbfabGreatDoor

end
