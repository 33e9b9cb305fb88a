import Derived.Test.YtellilpeakpbfaaGreatDoorStoreIToo
import Derived.Test.YtellilpeakpbfaaGreatDoorCellLToo
import Derived.Test.YtellilpeakpbfaaGreatDoorTrQToo
section
/-
  The walks of the store's writeCell and write.
-/
namespace Go.Proofs.YtellilpeakpbfaaGreatDoor
open Go.RowKit

namespace Rn
/-- the contents behind one write, and its entry. -/
def wcell (C : Jn.Con) (p : Int × Bool × Int) : Jn.Con × List UInt8 :=
  if (held C p.1).2.1 = p.2.1 ∧ (held C p.1).1 = p.2.2 then (C, []) else
  if p.2.1 = true then ((Jn.put C p.1 p.2.2).1, Jn.putE p.1 p.2.2) else ((Jn.del C p.1).1, Jn.delE p.1)
def wcells (C : Jn.Con) : List (Int × Bool × Int) → Jn.Con × List UInt8
  | [] => (C, [])
  | p :: r => ((wcells (wcell C p).1 r).1, (wcell C p).2 ++ (wcells (wcell C p).1 r).2)
theorem wcells_snoc (ws : List (Int × Bool × Int)) (p : Int × Bool × Int) : ∀ C, wcells C (ws ++ [p]) = ((wcell (wcells C ws).1 p).1, (wcells C ws).2 ++ (wcell (wcells C ws).1 p).2) := by
  induction ws with
  | nil => intro C; simp [wcells]
  | cons a r ih =>
    intro C
    rw [List.cons_append, wcells, ih, wcells]
    simp
/-- a write that may be. -/
def WrOk (p : Int × Bool × Int) : Prop := Jn.isKey p.1 = true ∧ (-1000000000 ≤ p.2.2 ∧ p.2.2 ≤ 1000000000)
theorem wcell_ok {C : Jn.Con} (h : Jn.Ok C) (p : Int × Bool × Int) : Jn.Ok (wcell C p).1 := by
  unfold wcell
  split
  · exact h
  · split
    · exact h.put _ _
    · exact h.del _
theorem wcell_len (C : Jn.Con) (p : Int × Bool × Int) (h : WrOk p) : (wcell C p).2.length ≤ 25 := by
  have hk : 0 ≤ p.1 ∧ p.1 ≤ 99 := by have := h.1; unfold Jn.isKey at this; simpa using this
  have h1 := itoa_len p.1 (by omega) (by omega)
  have h2 := itoa_len p.2.2 h.2.1 h.2.2
  unfold wcell
  split
  · simp
  · split
    · simp [Jn.putE]; omega
    · simp [Jn.delE]; omega
theorem wcells_len (ws : List (Int × Bool × Int)) : ∀ C, (∀ p ∈ ws, WrOk p) → (wcells C ws).2.length ≤ 25 * ws.length := by
  induction ws with
  | nil => intro C _; simp [wcells]
  | cons p r ih =>
    intro C h
    have h1 := wcell_len C p (h p (by simp))
    have h2 := ih (wcell C p).1 (fun q hq => h q (by simp [hq]))
    simp only [wcells, List.length_append, List.length_cons]
    omega
end Rn

/-- what writeCell answers. -/
def WcPost (L S B : Nat) (f : Int) (r : Jn.Con × List UInt8) (w : World) (e : Ending) (w' : World) : Prop :=
  ∃ X : ByteArray, e = .returned (.string X) ∧ X.data.toList = r.2 ∧ StAt L w' S B r.1 f ∧ Fr L [] (some B) w w'

set_option maxHeartbeats 4000000 in
set_option maxRecDepth 100000 in
theorem writeCell_any (L S B : Nat) (C : Jn.Con) (f : Int) (p : Int × Bool × Int) (w : World) (h : StAt L w S B C f) (hp : Rn.WrOk p) (hP : PowAt w) (hpL : 1 < L) :
    Calls Tryz.prog 89 #[.pointer (some ⟨S, 0, none⟩), .agg #[.int .i64 p.1, .bool p.2.1, .int .i64 p.2.2]] w (WcPost L S B f (Rn.wcell C p) w) := by
  obtain ⟨r, hr⟩ : ∃ r, r = Rn.wcell C p := ⟨_, rfl⟩
  rw [← hr]
  unfold Rn.wcell at hr
  have HR := hide hr
  obtain ⟨p1, p2, p3⟩ := p
  obtain ⟨hk, hv0, hv1⟩ := hp
  simp only at hk hv0 hv1 HR ⊢
  have hk' : 0 ≤ p1 ∧ p1 ≤ 99 := by unfold Jn.isKey at hk; simpa using hk
  obtain ⟨w1, hw1⟩ : ∃ w1, w1 = w.alloc (.cells #[.int .i64 p1, .bool p2, .int .i64 p3] 165) := ⟨_, rfl⟩
  have hb1 : Below w.heap.size w w1 := by rw [hw1]; exact (Below.refl _ _).alloc (Nat.le_refl _) _
  have hn1 : w1.heap[w.heap.size]? = some (.cells #[.int .i64 p1, .bool p2, .int .i64 p3] 165 (0, 0)) := by rw [hw1]; exact heap_alloc_new w _
  have hLw : L ≤ w.heap.size := Nat.le_trans h.low (Nat.le_of_lt h.lt)
  have h1 := h.below hb1
  obtain ⟨c0, -, -, -⟩ := h1.cells
  obtain ⟨N, hN⟩ : ∃ N, N = w.heap.size := ⟨_, rfl⟩
  rw [← hN] at hn1
  have e0 : w1.cell? ⟨N, 0, none⟩ = some (.int .i64 p1) := (cell_of_row w1 _ 0 _ _ _ hn1).trans rfl
  have HK : Hid (∀ x : World, Below w1.heap.size w1 x → x.cell? ⟨S, 0, none⟩ = some (.pointer (some ⟨B, 0, none⟩)) ∧ x.cell? ⟨N, 0, none⟩ = some (.int .i64 p1)) := fun x hx => ⟨at_old hx c0, at_old hx e0⟩
  have HG := hide (fun x (hx : Below w1.heap.size w1 x) => heldGet_any B C p1 x (((h1.below hx).con).fr (Fr.refl L [] none _) (by simp) (by simp) (by simp) |> fun (q : ConAt L x B C) => ⟨Nat.zero_le _, q.ok, q.mem⟩))
  have HB1 := hide hb1
  have HN1 := hide hn1
  have H1 := hide h1
  have HPW := hide hP
  have HH := hide h
  clear hr hb1 hn1 h1 h hP
  generalize Rn.held C p1 = g at HR HG
  obtain ⟨g1, g2, g3⟩ := g
  simp only at HR HG
  go_enter Tryz.func89, Tryz.ntmps89
  go_upto_region 1 with fail
  rw [← hw1, ← hN]
  have HNN := hide hN
  clear hw1 hN
  go_region_held3 (fun w' => w'.cell? ⟨S, 0, none⟩ = some (.pointer (some ⟨B, 0, none⟩)) ∧ w'.cell? ⟨N, 0, none⟩ = some (.int .i64 p1)) (first | with_reducible exact HK.out _ hb2 | go_keep)
    (first | (go_at_call 60; refine (HG.out _ (Below.drew (Below.refl _ _))).mono ?_; rintro e w2 ⟨rfl, hb20⟩; have hb2 : Below w1.heap.size w1 w2 := (Below.drew (Below.refl _ _)).trans hb20))
  have hn2 := (hb2.block N (Array.getElem?_eq_some_iff.1 HN1.out).1).trans HN1.out
  have x0 : w2.cell? ⟨N, 0, none⟩ = some (.int .i64 p1) := (cell_of_row w2 _ 0 _ _ _ hn2).trans rfl
  have x1 : w2.cell? ⟨N, 1, none⟩ = some (.bool p2) := (cell_of_row w2 _ 1 _ _ _ hn2).trans rfl
  have x2 : w2.cell? ⟨N, 2, none⟩ = some (.int .i64 p3) := (cell_of_row w2 _ 2 _ _ _ hn2).trans rfl
  have hb02 : Below w.heap.size w w2 := HB1.out.trans (hb2.mono HB1.out.size)
  have H2 := hide (HH.out.below hb02)
  have y0 := (HK.out _ hb2).1
  have HB2 := hide hb02
  have HN2 := hide hn2
  have HF2 : Hid (Fr L [] (some B) w w2) := Fr.of hb02 hLw
  have hBS : B ≠ S := by obtain ⟨cur, v0, hh, -⟩ := H2.out.con.mem; intro e; subst e; have := hh.symm.trans H2.out.mem; simp at this
  have hBN : B ≠ N := by have h1 := HH.out.con.lt; have h2 := HNN.out; omega
  clear hb2 hb20 hb02 hn2 c0 e0 HG HK
  by_cases hsame : g2 = p2 ∧ g1 = p3
  · obtain ⟨rfl, rfl⟩ := hsame
    have HE : Hid (r = (C, [])) := by show _ = _; rw [HR.out, if_pos ⟨rfl, rfl⟩]
    have tt1 : (g2 == g2) = true := by simp
    have tt2 : (g1 == g1) = true := by simp
    go_wp2
    go_ret
    rw [HE.out]
    exact ⟨⟨#[]⟩, rfl, rfl, H2.out, HF2.out⟩
  · have HQ : Hid (r = if p2 = true then ((Jn.put C p1 p3).1, Jn.putE p1 p3) else ((Jn.del C p1).1, Jn.delE p1)) := by show _ = _; rw [HR.out, if_neg hsame]
    clear HR
    cases p2 with
    | true =>
      have HE : Hid (r = ((Jn.put C p1 p3).1, Jn.putE p1 p3)) := by show _ = _; rw [HQ.out, if_pos rfl]
      have HPC := hide (fun x hx => putC_own L B C p1 p3 x hx)
      have HKP := hide (fun x (hx : Fr L [] (some B) w2 x) => (⟨(cell_of_row x S 0 _ _ _ (hx.block S _ _ _ H2.out.mem (by simp) (by simpa using hBS))).trans rfl, (cell_of_row x N 0 _ _ _ (hx.block N _ _ _ HN2.out (by simp) (by simpa using hBN))).trans rfl, (cell_of_row x N 2 _ _ _ (hx.block N _ _ _ HN2.out (by simp) (by simpa using hBN))).trans rfl⟩ : x.cell? ⟨S, 0, none⟩ = some (.pointer (some ⟨B, 0, none⟩)) ∧ x.cell? ⟨N, 0, none⟩ = some (.int .i64 p1) ∧ x.cell? ⟨N, 2, none⟩ = some (.int .i64 p3)))
      clear HQ
      generalize Jn.put C p1 p3 = pc at HE HPC
      obtain ⟨pc1, pc2⟩ := pc
      simp only at HE HPC
      cases g2 with
      | true =>
        have ht2 : (g1 == p3) = false := by
          rw [beq_eq_false_iff_ne]; intro e; exact hsame ⟨rfl, e⟩
        clear hsame
        go_wp2_with fail
        go_region_held3 (fun w' => w'.cell? ⟨S, 0, none⟩ = some (.pointer (some ⟨B, 0, none⟩)) ∧ w'.cell? ⟨N, 0, none⟩ = some (.int .i64 p1) ∧ w'.cell? ⟨N, 2, none⟩ = some (.int .i64 p3)) (first | with_reducible exact HKP.out _ hf3 | go_keep)
          (first | (go_at_call 58; refine (HPC.out w2.drew (H2.out.con.below (Below.drew (Below.refl _ _)))).mono ?_; rintro e w3 ⟨rfl, hc3, hf30⟩; have hf3 : Fr L [] (some B) w2 w3 := Fr.undrew hf30))
        obtain ⟨-, z0, z2⟩ := HKP.out _ hf3
        have H3 := hide (H2.out.conB hf3 hc3)
        have HF3 := hide (HF2.out.trans hf3)
        have HPJ := hide (putJ_any p1 p3 w3 (by omega) (by omega) hv0 hv1 (HPW.out.below hpL (HF2.out.trans hf3).below))
        clear hc3 hf3 hf30 HPC HKP y0 x0 x1 x2
        go_wp2_with fail
        refine HPJ.out.mono ?_
        rintro e w4 ⟨Y, rfl, hY, -, hb4⟩
        have HFIN : Hid (WcPost L S B f r w (.returned (.string Y)) w4) := by
          rw [HE.out]
          exact ⟨Y, rfl, hY, H3.out.below hb4, HF3.out.trans (Fr.of hb4 (Nat.le_trans hLw HF3.out.size))⟩
        clear hY hb4 HPJ
        go_wp2
        go_ret
        exact HFIN.out
      | false =>
        clear hsame
        go_wp2_with fail
        go_region_held3 (fun w' => w'.cell? ⟨S, 0, none⟩ = some (.pointer (some ⟨B, 0, none⟩)) ∧ w'.cell? ⟨N, 0, none⟩ = some (.int .i64 p1) ∧ w'.cell? ⟨N, 2, none⟩ = some (.int .i64 p3)) (first | with_reducible exact HKP.out _ hf3 | go_keep)
          (first | (go_at_call 58; refine (HPC.out w2.drew (H2.out.con.below (Below.drew (Below.refl _ _)))).mono ?_; rintro e w3 ⟨rfl, hc3, hf30⟩; have hf3 : Fr L [] (some B) w2 w3 := Fr.undrew hf30))
        obtain ⟨-, z0, z2⟩ := HKP.out _ hf3
        have H3 := hide (H2.out.conB hf3 hc3)
        have HF3 := hide (HF2.out.trans hf3)
        have HPJ := hide (putJ_any p1 p3 w3 (by omega) (by omega) hv0 hv1 (HPW.out.below hpL (HF2.out.trans hf3).below))
        clear hc3 hf3 hf30 HPC HKP y0 x0 x1 x2
        go_wp2_with fail
        refine HPJ.out.mono ?_
        rintro e w4 ⟨Y, rfl, hY, -, hb4⟩
        have HFIN : Hid (WcPost L S B f r w (.returned (.string Y)) w4) := by
          rw [HE.out]
          exact ⟨Y, rfl, hY, H3.out.below hb4, HF3.out.trans (Fr.of hb4 (Nat.le_trans hLw HF3.out.size))⟩
        clear hY hb4 HPJ
        go_wp2
        go_ret
        exact HFIN.out
    | false =>
      have HE : Hid (r = ((Jn.del C p1).1, Jn.delE p1)) := by show _ = _; rw [HQ.out, if_neg (by simp)]
      have HPC := hide (fun x hx => delC_own L B C p1 x hx)
      have HKP := hide (fun x (hx : Fr L [] (some B) w2 x) => (⟨(cell_of_row x S 0 _ _ _ (hx.block S _ _ _ H2.out.mem (by simp) (by simpa using hBS))).trans rfl, (cell_of_row x N 0 _ _ _ (hx.block N _ _ _ HN2.out (by simp) (by simpa using hBN))).trans rfl⟩ : x.cell? ⟨S, 0, none⟩ = some (.pointer (some ⟨B, 0, none⟩)) ∧ x.cell? ⟨N, 0, none⟩ = some (.int .i64 p1)))
      clear HQ
      generalize Jn.del C p1 = pc at HE HPC
      obtain ⟨pc1, pc2⟩ := pc
      simp only at HE HPC
      cases g2 with
      | false =>
        have ht2 : (g1 == p3) = false := by
          rw [beq_eq_false_iff_ne]; intro e; exact hsame ⟨rfl, e⟩
        clear hsame
        go_wp2_with fail
        go_region_held3 (fun w' => w'.cell? ⟨S, 0, none⟩ = some (.pointer (some ⟨B, 0, none⟩)) ∧ w'.cell? ⟨N, 0, none⟩ = some (.int .i64 p1)) (first | with_reducible exact HKP.out _ hf3 | go_keep)
          (first | (go_at_call 61; refine (HPC.out w2.drew (H2.out.con.below (Below.drew (Below.refl _ _)))).mono ?_; rintro e w3 ⟨rfl, hc3, hf30⟩; have hf3 : Fr L [] (some B) w2 w3 := Fr.undrew hf30))
        obtain ⟨-, z0⟩ := HKP.out _ hf3
        have H3 := hide (H2.out.conB hf3 hc3)
        have HF3 := hide (HF2.out.trans hf3)
        have HPJ := hide (delJ_any p1 w3 (by omega) (by omega) (HPW.out.below hpL (HF2.out.trans hf3).below))
        clear hc3 hf3 hf30 HPC HKP y0 x0 x1 x2
        go_wp2_with fail
        refine HPJ.out.mono ?_
        rintro e w4 ⟨Y, rfl, hY, -, hb4⟩
        have HFIN : Hid (WcPost L S B f r w (.returned (.string Y)) w4) := by
          rw [HE.out]
          exact ⟨Y, rfl, hY, H3.out.below hb4, HF3.out.trans (Fr.of hb4 (Nat.le_trans hLw HF3.out.size))⟩
        clear hY hb4 HPJ
        go_wp2
        go_ret
        exact HFIN.out
      | true =>
        clear hsame
        go_wp2_with fail
        go_region_held3 (fun w' => w'.cell? ⟨S, 0, none⟩ = some (.pointer (some ⟨B, 0, none⟩)) ∧ w'.cell? ⟨N, 0, none⟩ = some (.int .i64 p1)) (first | with_reducible exact HKP.out _ hf3 | go_keep)
          (first | (go_at_call 61; refine (HPC.out w2.drew (H2.out.con.below (Below.drew (Below.refl _ _)))).mono ?_; rintro e w3 ⟨rfl, hc3, hf30⟩; have hf3 : Fr L [] (some B) w2 w3 := Fr.undrew hf30))
        obtain ⟨-, z0⟩ := HKP.out _ hf3
        have H3 := hide (H2.out.conB hf3 hc3)
        have HF3 := hide (HF2.out.trans hf3)
        have HPJ := hide (delJ_any p1 w3 (by omega) (by omega) (HPW.out.below hpL (HF2.out.trans hf3).below))
        clear hc3 hf3 hf30 HPC HKP y0 x0 x1 x2
        go_wp2_with fail
        refine HPJ.out.mono ?_
        rintro e w4 ⟨Y, rfl, hY, -, hb4⟩
        have HFIN : Hid (WcPost L S B f r w (.returned (.string Y)) w4) := by
          rw [HE.out]
          exact ⟨Y, rfl, hY, H3.out.below hb4, HF3.out.trans (Fr.of hb4 (Nat.le_trans hLw HF3.out.size))⟩
        clear hY hb4 HPJ
        go_wp2
        go_ret
        exact HFIN.out
end Go.Proofs.YtellilpeakpbfaaGreatDoor

end

section
/-
  The cells as the document keeps them, and as writes leave them; no Go text.
-/
namespace Go.Proofs.YtellilpeakpbfaaGreatDoor
open Go.RowKit
namespace Rn

def opW (p : Int × Bool × Int) : Option Int := if p.2.1 = true then some p.2.2 else none
/-- the contents behind writes. -/
def conW (C : Jn.Con) (ws : List (Int × Bool × Int)) : Jn.Con := ws.foldl (fun C p => Jn.setC C p.1 (opW p)) C
theorem conW_snoc (C : Jn.Con) (ws : List (Int × Bool × Int)) (p : Int × Bool × Int) : conW C (ws ++ [p]) = Jn.setC (conW C ws) p.1 (opW p) := by simp [conW]
theorem conW_procs (ws : List (Int × Bool × Int)) : ∀ C, (conW C ws).procs = C.procs := by
  induction ws with
  | nil => intro C; rfl
  | cons p r ih => intro C; show (conW (Jn.setC C p.1 (opW p)) r).procs = _; rw [ih]; rfl
theorem conW_len (ws : List (Int × Bool × Int)) : ∀ C, (conW C ws).cells.length = C.cells.length := by
  induction ws with
  | nil => intro C; rfl
  | cons p r ih => intro C; show (conW (Jn.setC C p.1 (opW p)) r).cells.length = _; rw [ih]; simp [Jn.setC]
/-- writes that may be: each of another cell; what is not there has the value 0. -/
structure Wr (ws : List (Int × Bool × Int)) : Prop where
  ok : ∀ p ∈ ws, WrOk p
  one : ws.Pairwise (fun p q => p.1 ≠ q.1)
  nought : ∀ p ∈ ws, p.2.1 = false → p.2.2 = 0
theorem conW_ok (ws : List (Int × Bool × Int)) : ∀ C, Jn.Ok C → (∀ p ∈ ws, WrOk p) → Jn.Ok (conW C ws) := by
  induction ws with
  | nil => intro C h _; exact h
  | cons p r ih =>
    intro C h hw
    refine ih _ (h.set _ _ (fun v hv => ?_)) (fun q hq => hw q (by simp [hq]))
    have := (hw p (by simp)).2
    unfold opW at hv
    split at hv
    · cases hv; unfold Jn.isVal; simp; exact this
    · cases hv
theorem key_nat {k : Int} (h : Jn.isKey k = true) : (k.toNat : Int) = k ∧ k.toNat ≤ 99 := by unfold Jn.isKey at h; simp at h; omega
/-- a cell behind writes. -/
theorem conW_at (ws : List (Int × Bool × Int)) : ∀ (C : Jn.Con) (j : Nat), C.cells.length = 100 → Wr ws → j < 100 →
    (conW C ws).cells.getD j none = match ws.find? (fun p => p.1 == (j : Int)) with | some p => opW p | none => C.cells.getD j none := by
  induction ws with
  | nil => intro C j _ _ _; rfl
  | cons p r ih =>
    intro C j hl hw hj
    have hw' : Wr r := ⟨fun q hq => hw.ok q (by simp [hq]), (List.pairwise_cons.1 hw.one).2, fun q hq => hw.nought q (by simp [hq])⟩
    have hlen : (Jn.setC C p.1 (opW p)).cells.length = 100 := by simp [Jn.setC, hl]
    have h1 := ih (Jn.setC C p.1 (opW p)) j hlen hw' hj
    show (conW (Jn.setC C p.1 (opW p)) r).cells.getD j none = _
    rw [h1]
    obtain ⟨k1, k2⟩ := key_nat (hw.ok p (by simp)).1
    by_cases he : p.1 = (j : Int)
    · have hn : r.find? (fun p => p.1 == (j : Int)) = none := by
        rw [List.find?_eq_none]
        intro q hq
        have := (List.pairwise_cons.1 hw.one).1 q hq
        simp
        omega
      have hf : (p :: r).find? (fun p => p.1 == (j : Int)) = some p := by rw [List.find?_cons_of_pos]; simpa using he
      rw [hn, hf]
      have hj2 : p.1.toNat = j := by omega
      simp only [Jn.setC, hj2]
      rw [List.getD_eq_getElem?_getD, List.getElem?_set_self (by omega)]
      rfl
    · have hf : (p :: r).find? (fun p => p.1 == (j : Int)) = r.find? (fun p => p.1 == (j : Int)) := by rw [List.find?_cons_of_neg]; simpa using he
      rw [hf]
      have hj2 : p.1.toNat ≠ j := by omega
      have e : (Jn.setC C p.1 (opW p)).cells.getD j none = C.cells.getD j none := by
        simp only [Jn.setC]
        rw [List.getD_eq_getElem?_getD, List.getElem?_set_ne hj2, List.getD_eq_getElem?_getD]
      rw [e]
theorem find_find (ws : List (Int × Bool × Int)) (k : Int) : ws[find ws k]? = ws.find? (fun p => p.1 == k) := by
  unfold find
  induction ws with
  | nil => rfl
  | cons p r ih =>
    by_cases h : (p.1 == k) = true
    · have hf : (p :: r).find? (fun p => p.1 == k) = some p := List.find?_cons_of_pos (p := fun q : Int × Bool × Int => q.1 == k) h
      rw [List.findIdx_cons, h, hf]; rfl
    · have h' : (p.1 == k) = false := by simpa using h
      have hf : (p :: r).find? (fun p => p.1 == k) = r.find? (fun p => p.1 == k) := List.find?_cons_of_neg (p := fun q : Int × Bool × Int => q.1 == k) h
      rw [List.findIdx_cons, h', hf]
      simpa using ih
/-- what is got is what the cells behind the writes hold. -/
theorem get_view (E : En) (s : St) (k : Int) (hc : E.con.cells.length = 100) (hw : Wr s.writes) (hk : Jn.isKey k = true) :
    get E s k = (((conW E.con s.writes).cells.getD k.toNat none).getD 0, ((conW E.con s.writes).cells.getD k.toNat none).isSome, 0) := by
  obtain ⟨k1, k2⟩ := key_nat hk
  have h := conW_at s.writes E.con k.toNat hc hw (by omega)
  rw [k1] at h
  rw [h]
  unfold get
  rw [find_find]
  cases hf : s.writes.find? (fun p => p.1 == k) with
  | none =>
    simp only
    unfold held
    rw [if_pos hk]
  | some p =>
    simp only
    have hm := List.mem_of_find?_eq_some hf
    unfold opW
    cases hb : p.2.1 with
    | true => rw [if_pos rfl]; rfl
    | false => rw [if_neg (by simp), hw.nought p hm hb]; rfl
theorem list_ext (a b : List (Option Int)) (hl : a.length = b.length) (h : ∀ j, j < a.length → a.getD j none = b.getD j none) : a = b := by
  apply List.ext_getElem? 
  intro j
  by_cases hj : j < a.length
  · have := h j hj
    rw [List.getD_eq_getElem?_getD, List.getD_eq_getElem?_getD, List.getElem?_eq_getElem hj, List.getElem?_eq_getElem (by omega)] at this
    rw [List.getElem?_eq_getElem hj, List.getElem?_eq_getElem (by omega)]
    simpa using this
  · rw [List.getElem?_eq_none (by omega), List.getElem?_eq_none (by omega)]
/-- a write that takes another's place. -/
theorem Wr.put {s : St} (h : Wr s.writes) (p : Int × Bool × Int) (hp : WrOk p) (hz : p.2.1 = false → p.2.2 = 0) (h0 : (put s p).1 = 0) : Wr (put s p).2.writes ∧ ∀ C : Jn.Con, C.cells.length = 100 → conW C (put s p).2.writes = Jn.setC (conW C s.writes) p.1 (opW p) := by
  unfold Rn.put at h0 ⊢
  rw [if_neg (by rw [hp.1]; simp)] at h0 ⊢
  by_cases hlt : find s.writes p.1 < s.writes.length
  · rw [if_pos hlt]
    simp only
    obtain ⟨k1, k2⟩ := key_nat hp.1
    have hff := find_find s.writes p.1
    rw [List.getElem?_eq_getElem hlt] at hff
    have hkey : (s.writes[find s.writes p.1]).1 = p.1 := by
      have := List.find?_some hff.symm
      simpa using this
    have hwr : Wr (s.writes.set (find s.writes p.1) p) := by
      refine ⟨fun q hq => ?_, ?_, fun q hq hb => ?_⟩
      · rcases List.mem_or_eq_of_mem_set hq with h1 | h1
        · exact h.ok q h1
        · rw [h1]; exact hp
      · have e : (s.writes.set (find s.writes p.1) p).map (fun p => p.1) = s.writes.map (fun p => p.1) := by
          rw [List.map_set]
          apply List.ext_getElem?
          intro j
          rw [List.getElem?_set]
          split
          · rename_i hj
            subst hj
            simp only [List.length_map, hlt, if_true, List.getElem?_map, List.getElem?_eq_getElem hlt, Option.map_some, hkey]
          · rfl
        have h1 : (s.writes.map (fun p => p.1)).Pairwise (· ≠ ·) := List.pairwise_map.2 h.one
        rw [← e] at h1
        exact List.pairwise_map.1 h1
      · rcases List.mem_or_eq_of_mem_set hq with h1 | h1
        · exact h.nought q h1 hb
        · rw [h1] at hb ⊢; exact hz hb
    refine ⟨hwr, fun C hC => ?_⟩
    have hA : (conW C (s.writes.set (find s.writes p.1) p)).cells = (Jn.setC (conW C s.writes) p.1 (opW p)).cells := by
      apply list_ext
      · rw [conW_len]; simp [Jn.setC, conW_len]
      · intro j hj
        rw [conW_len, hC] at hj
        rw [conW_at _ C j hC hwr hj]
        by_cases he : p.1 = (j : Int)
        · have hj2 : p.1.toNat = j := by omega
          have hf : (s.writes.set (find s.writes p.1) p).find? (fun q => q.1 == (j : Int)) = some p := by
            rw [← he, ← find_find]
            have e1 : find (s.writes.set (find s.writes p.1) p) p.1 = find s.writes p.1 := by
              apply find_at
              · rw [List.length_set]; omega
              · intro q hq
                rw [List.take_set_of_le (Nat.le_refl _)] at hq
                intro hqk
                obtain ⟨i, hi, hqi⟩ := List.mem_iff_getElem.1 hq
                simp at hi
                have hlt2 : i < find s.writes p.1 := by omega
                have := List.not_of_lt_findIdx (p := fun q : Int × Bool × Int => q.1 == p.1) (xs := s.writes) hlt2
                simp at hqi
                rw [hqi] at this
                simp [hqk] at this
              · intro q hq
                rw [List.getElem?_set_self hlt] at hq
                cases hq; rfl
            rw [e1, List.getElem?_set_self hlt]
          rw [hf]
          simp only [Jn.setC, hj2]
          rw [List.getD_eq_getElem?_getD, List.getElem?_set_self (by rw [conW_len]; omega)]
          rfl
        · have hj2 : p.1.toNat ≠ j := by omega
          have e : (Jn.setC (conW C s.writes) p.1 (opW p)).cells.getD j none = (conW C s.writes).cells.getD j none := by
            simp only [Jn.setC]
            rw [List.getD_eq_getElem?_getD, List.getElem?_set_ne hj2, List.getD_eq_getElem?_getD]
          rw [e, conW_at _ C j hC h hj]
          have hf : (s.writes.set (find s.writes p.1) p).find? (fun q => q.1 == (j : Int)) = s.writes.find? (fun q => q.1 == (j : Int)) := by
            have hd : s.writes.set (find s.writes p.1) p = s.writes.take (find s.writes p.1) ++ p :: s.writes.drop (find s.writes p.1 + 1) := List.set_eq_take_append_cons_drop.trans (if_pos hlt)
            have hd2 : s.writes = s.writes.take (find s.writes p.1) ++ s.writes[find s.writes p.1] :: s.writes.drop (find s.writes p.1 + 1) := by simp
            rw [hd]
            conv => rhs; rw [hd2]
            rw [List.find?_append, List.find?_append, List.find?_cons_of_neg (by simpa using he), List.find?_cons_of_neg (by rw [hkey]; simpa using he)]
          rw [hf]
    have hB : (conW C (s.writes.set (find s.writes p.1) p)).procs = (Jn.setC (conW C s.writes) p.1 (opW p)).procs := by
      rw [conW_procs]; simp [Jn.setC, conW_procs]
    have eta : ∀ X Y : Jn.Con, X.cells = Y.cells → X.procs = Y.procs → X = Y := by
      intro X Y h1 h2
      cases X; cases Y
      simp only at h1 h2
      rw [h1, h2]
    exact eta _ _ hA hB
  · rw [if_neg hlt] at h0 ⊢
    by_cases h8 : 8 ≤ find s.writes p.1
    · rw [if_pos h8] at h0; simp at h0
    · rw [if_neg h8]
      simp only
      have he : find s.writes p.1 = s.writes.length := by have := find_le s.writes p.1; omega
      have hno : ∀ q ∈ s.writes, q.1 ≠ p.1 := by
        intro q hq hqk
        obtain ⟨i, hi, hqi⟩ := List.mem_iff_getElem.1 hq
        have := List.not_of_lt_findIdx (p := fun q : Int × Bool × Int => q.1 == p.1) (xs := s.writes) (by unfold find at he; omega : i < _)
        rw [hqi] at this
        simp [hqk] at this
      refine ⟨⟨fun q hq => ?_, ?_, fun q hq hb => ?_⟩, fun C _ => conW_snoc C _ _⟩
      · rcases List.mem_append.1 hq with h1 | h1
        · exact h.ok q h1
        · simp at h1; rw [h1]; exact hp
      · rw [List.pairwise_append]
        exact ⟨h.one, by simp, fun a ha b hb => by simp at hb; rw [hb]; exact hno a ha⟩
      · rcases List.mem_append.1 hq with h1 | h1
        · exact h.nought q h1 hb
        · simp at h1; rw [h1] at hb ⊢; exact hz hb
end Rn
end Go.Proofs.YtellilpeakpbfaaGreatDoor

end

section
/-
  What the document's Call answers, and a run by its tree; no Go text.
-/
namespace Go.Proofs.YtellilpeakpbfaaGreatDoor
open Go.RowKit
open Tr (Ex Sm Sms Tok kind)
namespace Rn

/-- the contents behind it, the value, the units, how many cells it changes, the error. -/
def dcall (C : Jn.Con) (n : List UInt8) (args : List Int) (fuel : Int) : Jn.Con × Int × Int × Nat × Int :=
  match srcL C.procs n with
  | none => (C, 0, 0, 0, 3)
  | some src => if (run C src args fuel).2.2.2 ≠ 0 then (C, (run C src args fuel).1, (run C src args fuel).2.1, 0, (run C src args fuel).2.2.2) else
    (conW C (run C src args fuel).2.2.1, (run C src args fuel).1, (run C src args fuel).2.1, (run C src args fuel).2.2.1.length, 0)
theorem run_tree (C : Jn.Con) (src : List UInt8) (args : List Int) (fuel : Int) (hok : Jn.Ok C) (hr : (Ck.read src).2 = 0) (hm : may args fuel = true) (b : Sms) (hb : b.Ok) (ht : Ck.toks src = b.flat) :
    tstmts (env C src args fuel) (3 * fuel.toNat + 3) b start = N2 (stmts (env C src args fuel) (3 * fuel.toNat + 3) start) := by
  obtain ⟨-, f0, f1, fb⟩ := may_facts hm
  have hf := fit_start C src args fuel hok hr ⟨f0, f1⟩ fb
  have h := ((tree_all (env C src args fuel) (3 * fuel.toNat + 3)).1 b [] 0 start hb (.inl ⟨rfl, rfl⟩) (by
    show Here (env C src args fuel) 0 (b.flat ++ [])
    unfold Here
    simp only [env, List.drop_zero, List.append_nil, ht]) hf).1
  exact h
theorem run_ok (C : Jn.Con) (src : List UInt8) (args : List Int) (fuel : Int) (hr : (Ck.read src).2 = 0) (hm : may args fuel = true) :
    run C src args fuel = if (stmts (env C src args fuel) (3 * fuel.toNat + 3) start).1 ≠ 0 then ((0 : Int), ((stmts (env C src args fuel) (3 * fuel.toNat + 3) start).2.used : Int), [], (stmts (env C src args fuel) (3 * fuel.toNat + 3) start).1) else
      ((stmts (env C src args fuel) (3 * fuel.toNat + 3) start).2.result, ((stmts (env C src args fuel) (3 * fuel.toNat + 3) start).2.used : Int), (stmts (env C src args fuel) (3 * fuel.toNat + 3) start).2.writes, (0 : Int)) := by
  unfold run
  rw [if_neg (by rw [hm]; simp), if_neg (by simpa using hr)]
/-- by the tree that the source is. -/
theorem run_by (C : Jn.Con) (src : List UInt8) (args : List Int) (fuel : Int) (hok : Jn.Ok C) (hr : (Ck.read src).2 = 0) (hm : may args fuel = true) : ∃ b : Sms, b.Ok ∧ Ck.toks src = b.flat ∧ ∀ t, t = tstmts (env C src args fuel) (3 * fuel.toNat + 3) b start →
    (t.1 ≠ 0 → run C src args fuel = ((0 : Int), (t.2.used : Int), [], t.1)) ∧ (t.1 = 0 → run C src args fuel = (t.2.result, (t.2.used : Int), t.2.writes, (0 : Int))) := by
  obtain ⟨b, hb, ht⟩ := Tr.parse src hr
  refine ⟨b, hb, ht, fun t he => ?_⟩
  rw [run_tree C src args fuel hok hr hm b hb ht] at he
  rw [run_ok C src args fuel hr hm, he]
  generalize stmts (env C src args fuel) (3 * fuel.toNat + 3) start = q
  refine ⟨fun h => ?_, fun h => ?_⟩
  · have h' : q.1 ≠ 0 := h
    rw [if_pos h']; rfl
  · have h' : q.1 = 0 := h
    rw [if_neg (by simpa using h')]; rfl
end Rn
end Go.Proofs.YtellilpeakpbfaaGreatDoor

end
