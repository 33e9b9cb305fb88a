import Derived.Test.YtellilpeakpbfabGreatDoorSmallToo
import Derived.BigQuiet
import Derived.Test.YtellilpeakpbfabGreatDoorFolToo
import Derived.ProofKit
import Derived.OpenShut
import Derived.Deep.Slices
import Derived.ChangeSame
import Derived.Carry
section
/-
  The walk of settles.
-/
namespace Go.Proofs.YtellilpeakpbfabGreatDoor
open Go.RowKit

set_option maxHeartbeats 4000000 in
set_option maxRecDepth 100000 in
theorem settles_any (L W D N M m : Nat) (w : World) (vx : Value) (past : List Jn.Con) (d d' : DS) (nc nq na : Nat) (C : Jn.Con) (v : Value) (l : List ActP)
    (hlaw : LawAt L W D N M w vx past d nc nq na) (hLM : L ≤ M) (hN : N ≤ w.heap.size) (hM : M ≤ w.heap.size) (hr : ARow w M v l) (hl : l.length ≤ 8) (hp : playL d l = some d') (hC : past[m]? = some C) (hok : Jn.Ok C)
    (hs : d'.1.size + d'.2.1.size ≤ room C) (hna : na ≤ 4000000000000) (hb : past.length ≤ 9000000000000) :
    Calls Tryz.prog 73 #[.pointer (some ⟨W, 0, none⟩), v, .int .i64 m] w fun e w' => e = .returned (.bool true) ∧
      LawAt L W D w'.heap.size w'.heap.size w' vx [C] d' nc nq (na + 3) ∧ Fr L [67, 115, 27, 84] none w w' := by
  obtain ⟨vp, vc, vq, va, lcs, lqs, lxs, hW, hpast, hh1, e1, hh2, e2, hh3, e3⟩ := hlaw.rest
  obtain ⟨-, c1, -, -, -, -⟩ := hW.cell
  have HAL := hide (allD_any L D M d d' v l w hlaw.disk hlaw.ld hr (by omega) hp)
  obtain ⟨ao, cap, hv, -⟩ := hr.shape
  subst hv
  have hLw := hlaw.low
  have hml : m < past.length := (List.getElem?_eq_some_iff.1 hC).1
  have HL := hide hlaw
  have HR := hide hr
  have HW := hide hW
  have HPA := hide hpast
  have HC := hide hC
  have HH1 := hide hh1
  have HH2 := hide hh2
  have HH3 := hide hh3
  have HE : Hid (lcs.length = nc ∧ lqs.length = nq ∧ lxs.length = na) := ⟨e1, e2, e3⟩
  clear hlaw hr hW hpast hC hh1 hh2 hh3 e1 e2 e3
  go_enter Tryz.func73, Tryz.ntmps73
  go_wp2_with fail
  refine HAL.out.mono ?_
  rintro e w1 ⟨rfl, hd1, hf1⟩
  have W1 := HW.out.fr hf1 (by decide) (by simp)
  have H31 := HH3.out.fr hf1 (by decide) (by decide) (by simp) (.inl rfl)
  have hAR1 : ARow w1 M (.slice ao l.length cap) l := HR.out.fr hf1 (by decide) (.inl rfl)
  have HK := hide (keepActs_any L M W w1 vx _ vp vc vq va lxs _ l.length _ W1 HL.out.lw H31 hAR1 (by omega) hLM (Nat.le_trans hM hf1.size) (by rw [HE.out.2.2]; omega))
  have HF1 := hide hf1
  have HD1 := hide hd1
  have HAR1 := hide hAR1
  clear hd1 hf1 W1 H31 hAR1 HAL
  go_wp2_with fail
  refine HK.out.mono ?_
  rintro e w2 ⟨va2, lx2, rfl, hW2, hh2', hl2, hf2⟩
  have F2 : Fr L [67, 115, 27, 84] none w w2 := by
    refine (HF1.out.wide (by simp)).trans ((hf2.wide (T' := [67, 115, 27, 84]) (by simp)).typed (fun k hk => ?_) none)
    rcases HAR1.out.2 with ⟨h0, _⟩ | ⟨g, cap', cur, h0, hb, hh, _⟩
    · rw [h0] at hk; simp [Value.ownBlock] at hk
    · rw [h0] at hk
      simp [Value.ownBlock] at hk
      subst hk
      exact ⟨cur, _, _, hh, by simp⟩
  have hD2 : DsAt w2 D d' := HD1.out.fr hf2 (by decide) (own_neB HAR1.out HD1.out (by decide))
  have hP2 := HPA.out.fr F2 (by decide) (by decide) (by decide)
  obtain ⟨ss, hrow, hsl, hss⟩ := hP2
  obtain ⟨s, hs'⟩ : ∃ s, ss[m]? = some s := ⟨ss[m]'(by omega), by simp [show m < ss.length by omega]⟩
  obtain ⟨hsc, hsp, -⟩ := hss m s C hs' HC.out
  have hrow' : w2.ownsRow L 146 2 vp ss.length (pairs ss) := by rw [hsl]; exact hrow
  obtain ⟨po, pcap, hvp, hsh⟩ := pair_shape hrow'
  obtain ⟨pg, pcur, rfl, -, hpg, hpc⟩ := hsh (by omega)
  obtain ⟨p0, p1⟩ := hpc m s hs'
  obtain ⟨s1, s2⟩ := s
  obtain ⟨so, sk, hs1⟩ := crow_slice hsc
  obtain ⟨qo, qk, hs2, -⟩ := hsp.shape
  simp only at hs1 hs2 p0 p1 hsc hsp
  subst hs1 hs2
  obtain ⟨-, b1, b2, -, -, -⟩ := hW2.cell
  rw [hvp, hsl] at b2
  have hmi : (m : Int) < (past.length : Int) := by omega
  obtain ⟨W3, W4, P4, F4⟩ := past_new (L := L) hW2 HL.out.lw (Nat.le_trans hLw F2.size) hsc hsp hok
  obtain ⟨-, -, b3, -, -, -⟩ := W3.cell
  rw [hvp, hsl] at b3
  have z3 := W3.fz 2
  obtain ⟨w4, hw4⟩ : ∃ w4, (w2.alloc (.cells #[.slice so C.list.length sk, .slice qo C.procs.length qk] 146)).setCell ⟨W, 2, none⟩ (.slice (some ⟨w2.heap.size, 0, none⟩) 1 1) = w4 := ⟨_, rfl⟩
  rw [hw4] at W4 P4 F4
  obtain ⟨-, x1, x2, -, -, -⟩ := W4.cell
  have hbc : w4.heap[w2.heap.size]? = some (.cells #[.slice so C.list.length sk, .slice qo C.procs.length qk] 146 (0, 0)) := by
    rw [← hw4, heap_setCell_other _ _ _ _ (by simp; have := hW2.lt; omega)]
    exact heap_alloc_new w2 _
  have y0 : w4.cell? ⟨w2.heap.size, 0, none⟩ = some (.slice so C.list.length sk) := (cell_of_row w4 _ 0 _ _ _ hbc).trans rfl
  have y1 : w4.cell? ⟨w2.heap.size, 1, none⟩ = some (.slice qo C.procs.length qk) := (cell_of_row w4 _ 1 _ _ _ hbc).trans rfl
  have hD4 : DsAt w4 D d' := hD2.fr F4 (by decide) (by simp)
  have HSM := hide (small_any W D w4 _ _ _ _ _ _ _ d'.1 d'.2.1 d'.2.2.1 d'.2.2.2 C W4 hD4 (own_fr hsc F4 (by decide) (.inl rfl)) (own_fr hsp F4 (by decide) (.inl rfl)) hok hs)
  have HFT : Hid (Fr L [67, 115, 27, 84] none w w4) := F2.trans (F4.wide (by simp))
  have HFIN : Hid (LawAt L W D w4.heap.size w4.heap.size w4 vx [C] d' nc nq (na + 3)) := by
    refine ⟨HL.out.lw, HL.out.ld, hD4, _, vc, vq, va2, lcs, lqs, lx2, W4, P4, ?_, HE.out.1, ?_, HE.out.2.1, ?_, by rw [hl2, HE.out.2.2]⟩
    · exact (HH1.out.fr HFT.out (by decide) (by decide) (by simp) (.inl rfl)).mono (Nat.le_trans hN HFT.out.size)
    · exact (HH2.out.fr HFT.out (by decide) (by decide) (by simp) (.inl rfl)).mono (Nat.le_trans hN HFT.out.size)
    · exact (hh2'.fr F4 (by decide) (by decide) (by simp) (.inl rfl)).mono F4.size
  have HE4 := hide hw4
  clear F2 hD2 hrow hss hsh hpc hs' hsc hsp hrow' hpg W3 W4 P4 F4 hbc hD4 hW2 hh2' hl2 hf2 HK hw4 hvp hsl
  go_upto_region 4 with fail
  rw [HE4.out]
  go_wp2_with fail
  refine HSM.out.mono ?_
  rintro e w5 ⟨rfl, hb5⟩
  have HL5 : Hid (LawAt L W D w5.heap.size w5.heap.size w5 vx [C] d' nc nq (na + 3)) := (HFIN.out.below hb5).mono hb5.size hb5.size
  have HF5 : Hid (Fr L [67, 115, 27, 84] none w w5) := HFT.out.trans (Fr.of hb5 (Nat.le_trans hLw HFT.out.size))
  clear hb5 HSM
  go_wp2
  go_ret
  exact ⟨rfl, HL5.out, HF5.out⟩
end Go.Proofs.YtellilpeakpbfabGreatDoor

end

section
/-
  The walk of Sync.
-/
namespace Go.Proofs.YtellilpeakpbfabGreatDoor
open Go.RowKit

set_option maxHeartbeats 400000 in
set_option maxRecDepth 100000 in
theorem sync_any (L S B : Nat) (C : Jn.Con) (f : Int) (w : World) (h : StAt L w S B C f) : Calls Tryz.prog 15 #[.pointer (some ⟨S, 0, none⟩)] w fun e w' => ∃ v, e = .returned v ∧ ARow w' w.heap.size v [(2, f, [])] ∧ Below w.heap.size w w' := by
  obtain ⟨-, c1, -, -⟩ := h.cells
  clear h
  go_enter Tryz.func15, Tryz.ntmps15
  go_wp2
  go_ret
  refine ⟨_, rfl, arow_new w w.heap.size (Nat.le_refl _) [(2, f, [])] 1 rfl _ ?_ (by decide), (Below.refl w.heap.size w).alloc (Nat.le_refl _) _⟩
  simp only [acts3, List.flatMap_cons, List.flatMap_nil]
  rfl

/-- the file that tells is made lasting. -/
theorem DiskOk.sync {d : DS} {f : Int} {C : Jn.Con} (h : DiskOk d f C) : ∃ d', playL d [(2, f, [])] = some d' ∧ DiskOk d' f C ∧ d'.1 = d.1 ∧ d'.2.1 = d.2.1 := by
  obtain ⟨a, b, la, lb⟩ := d
  rcases h with ⟨rfl, h1, h2⟩ | ⟨rfl, h1, h2⟩
  · exact ⟨(a, b, (a.size : Int), lb), rfl, .inl ⟨rfl, h1, h2⟩, rfl, rfl⟩
  · exact ⟨(a, b, la, (b.size : Int)), rfl, .inr ⟨rfl, h1, h2⟩, rfl, rfl⟩

end Go.Proofs.YtellilpeakpbfabGreatDoor

end

section
/-
  The walk of World.lasts: Sync, Open.
-/
namespace Go.Proofs.YtellilpeakpbfabGreatDoor
open Go.RowKit

end Go.Proofs.YtellilpeakpbfabGreatDoor

end

section
/-
  The walk of World.cells: Del (without a crash).
-/
namespace Go.Proofs.YtellilpeakpbfabGreatDoor
open Go.RowKit

end Go.Proofs.YtellilpeakpbfabGreatDoor

end

section
/-
  The walk of World.step: the kinds of Keeps.
-/
set_option linter.unusedVariables false
namespace Go.Proofs.YtellilpeakpbfabGreatDoor
open Go.RowKit

theorem SInv.below {L W D m : Nat} {w w' : World} {C : Jn.Con} (h : SInv L W D w C m) (hb : Below w.heap.size w w') : SInv L W D w' C m := by
  obtain ⟨S, B, f, past, d, nc, nq, na, hlaw, hst, rest⟩ := h
  exact ⟨S, B, f, past, d, nc, nq, na, (hlaw.below hb).mono hb.size hb.size, hst.below hb, rest⟩
theorem SInv.low {L W D m : Nat} {w : World} {C : Jn.Con} (h : SInv L W D w C m) : L ≤ w.heap.size := by
  obtain ⟨S, B, f, past, d, nc, nq, na, hlaw, hst, rest⟩ := h
  exact hlaw.low
theorem StepPost.back {L W D m : Nat} {w w1 w9 : World} {e : Ending} (hL : L ≤ w.heap.size) (hb : Below w.heap.size w w1) (h : StepPost L W D m w1 e w9) : StepPost L W D m w e w9 := ⟨h.1, h.2.1, (hb.mono hL).trans h.2.2⟩

end Go.Proofs.YtellilpeakpbfabGreatDoor

end

section
/-
  The walk of begin: the store of two empty files.
-/
namespace Go.Proofs.YtellilpeakpbfabGreatDoor
open Go.RowKit

/-- the world that begin makes. -/
def beg1 (w : World) : World := w.alloc (.cells #[.string ⟨#[]⟩, .string ⟨#[]⟩, .int .i64 0, .int .i64 0] 67)
def beg2 (w : World) : World := (beg1 w).alloc (.cells #[.slice none 0 0, .slice none 0 0] 146)
def begW (w : World) : World := (beg2 w).alloc (.cells #[.pointer none, .pointer (some ⟨w.heap.size, 0, none⟩), .slice (some ⟨w.heap.size + 1, 0, none⟩) 1 1, .slice none 0 0, .slice none 0 0, .slice none 0 0] 115)

theorem beg_empty : Jn.readTwo [] [] = some (Jn.none0, 1) := rfl

theorem beg_law (w : World) : Below w.heap.size w (begW w) ∧ LawAt w.heap.size (w.heap.size + 2) w.heap.size (begW w).heap.size (begW w).heap.size (begW w) (.pointer none) [Jn.none0] (⟨#[]⟩, ⟨#[]⟩, 0, 0) 0 0 0 := by
  have s1 : (beg1 w).heap.size = w.heap.size + 1 := World.size_alloc ..
  have s2 : (beg2 w).heap.size = w.heap.size + 2 := by unfold beg2; rw [World.size_alloc, s1]
  have b1 : Below w.heap.size w (beg1 w) := (Below.refl _ _).alloc (Nat.le_refl _) _
  have b2 : Below (beg1 w).heap.size (beg1 w) (beg2 w) := (Below.refl _ _).alloc (Nat.le_refl _) _
  have b3 : Below (beg2 w).heap.size (beg2 w) (begW w) := (Below.refl _ _).alloc (Nat.le_refl _) _
  have hD : (begW w).heap[w.heap.size]? = some (.cells #[.string ⟨#[]⟩, .string ⟨#[]⟩, .int .i64 0, .int .i64 0] 67 (0, 0)) :=
    (b3.block _ (by omega)).trans ((b2.block _ (by omega)).trans (heap_alloc_new w _))
  have hR : (begW w).heap[w.heap.size + 1]? = some (.cells #[.slice none 0 0, .slice none 0 0] 146 (0, 0)) := by
    have := heap_alloc_new (beg1 w) (.cells #[.slice none 0 0, .slice none 0 0] 146)
    rw [s1] at this
    exact (b3.block _ (by omega)).trans this
  have hW : WAt (begW w) (w.heap.size + 2) (.pointer none) (.pointer (some ⟨w.heap.size, 0, none⟩)) (.slice (some ⟨w.heap.size + 1, 0, none⟩) 1 1) (.slice none 0 0) (.slice none 0 0) (.slice none 0 0) := by
    have := heap_alloc_new (beg2 w) (.cells #[.pointer none, .pointer (some ⟨w.heap.size, 0, none⟩), .slice (some ⟨w.heap.size + 1, 0, none⟩) 1 1, .slice none 0 0, .slice none 0 0, .slice none 0 0] 115)
    rw [s2] at this
    exact this
  refine ⟨(b1.trans (b2.mono b1.size)).trans (b3.mono (by omega)), by omega, Nat.le_refl _, hD, _, _, _, _, [], [], [], hW, ⟨[(.slice none 0 0, .slice none 0 0)], ?_, rfl, ?_⟩, ?_, rfl, ?_, rfl, ?_, rfl⟩
  · exact ⟨rfl, .inr ⟨w.heap.size + 1, 1, #[.slice none 0 0, .slice none 0 0], rfl, by omega, hR, Nat.le_refl _, by decide, rfl, rfl⟩⟩
  · intro i s C' hs hC'
    match i, hs, hC' with
    | 0, hs, hC' =>
      simp at hs hC'
      subst hs hC'
      exact ⟨World.ownsRow_nil _ _ _ _, World.ownsRow_nil _ _ _ _, Jn.ok_none⟩
    | i + 1, hs, hC' => simp at hs
  · exact ⟨World.ownsRow_nil _ _ _ _, rfl, fun i u hu => by simp at hu⟩
  · exact ⟨World.ownsRow_nil _ _ _ _, rfl, fun i u hu => by simp at hu⟩
  · exact ⟨World.ownsRow_nil _ _ _ _, rfl, fun i u hu => by simp at hu⟩

end Go.Proofs.YtellilpeakpbfabGreatDoor

end

section
/-
  The walk of plays.
-/
set_option linter.unusedVariables false
namespace Go.Proofs.YtellilpeakpbfabGreatDoor
open Go.RowKit

theorem SInv.up {L W D m : Nat} {w : World} {C : Jn.Con} (h : SInv L W D w C m) : SInv L W D w C (m + 1) := by
  obtain ⟨S, B, f, past, d, nc, nq, na, hlaw, hst, hlast, hpm, hnc, hnq, hna, hdk, hds, hpl⟩ := h
  exact ⟨S, B, f, past, d, nc, nq, na, hlaw, hst, hlast, by omega, by omega, by omega, by omega, hdk, by omega, hpl⟩
theorem still_inv {L W D m : Nat} {w : World} {C : Jn.Con} (h : SInv L W D w C m) (hm : m ≤ 1300000000001) :
    Calls Tryz.prog 52 #[.pointer (some ⟨W, 3, none⟩)] w fun e w' => e = .returned (.bool true) ∧ Below w.heap.size w w' := by
  obtain ⟨S, B, f, past, d, nc, nq, na, hlaw, hst, hlast, hpm, hnc, hnq, hna, hdk, hds, hpl⟩ := h
  obtain ⟨vp, vc, vq, va, lcs, lqs, lxs, hWA, hpast, hh1, e1, hh2, e2, hh3, e3⟩ := hlaw.rest
  exact still_any L w.heap.size W w _ _ vp vc vq va lcs lqs lxs hWA hh1 hh2 hh3 (by omega) (by omega) (by omega)

/-- The script in memory: eight cells a step. -/
def ScrAt (w : World) (g z : Nat) (ops : List OpD) : Prop := g < w.heap.size ∧ ∀ k o, ops[k]? = some o → ∀ j u, o.cells[j]? = some u → w.cell? ⟨g, z + k * 8 + j, none⟩ = some u
def KnAt (w : World) (g : Nat) (ks : List Int) : Prop := g < w.heap.size ∧ ∀ k x, ks[k]? = some x → w.cell? ⟨g, k, none⟩ = some (.int .i64 x)
theorem ScrAt.below {w w' : World} {g z : Nat} {ops : List OpD} (h : ScrAt w g z ops) (hb : Below w.heap.size w w') : ScrAt w' g z ops := ⟨Nat.lt_of_lt_of_le h.1 hb.size, fun k o ho j u hu => at_old hb (h.2 k o ho j u hu)⟩
theorem KnAt.below {w w' : World} {g : Nat} {ks : List Int} (h : KnAt w g ks) (hb : Below w.heap.size w w') : KnAt w' g ks := ⟨Nat.lt_of_lt_of_le h.1 hb.size, fun k x hx => at_old hb (h.2 k x hx)⟩

def PlRel (L W D n : Nat) (w : World) (ok i : Value) (wr : World) : Prop := ∃ k : Nat, k ≤ n ∧ i = .int .i64 k ∧ ok = .bool true ∧ (∃ C, SInv L W D wr C (k + 1)) ∧ Below L w wr
def InRel (ks : List Int) (q : Int) (w : World) (b i : Value) (wr : World) : Prop := ∃ j : Nat, j ≤ ks.length ∧ i = .int .i64 j ∧ b = .bool (decide (q ∈ ks.take j)) ∧ Below w.heap.size w wr

theorem take_in (ks : List Int) (q x : Int) (j : Nat) (h : ks[j]? = some x) : decide (q ∈ ks.take (j + 1)) = (decide (q ∈ ks.take j) || decide (x = q)) := by
  have e : ks.take (j + 1) = ks.take j ++ [x] := by rw [List.take_add_one, h]; rfl
  rw [e]
  simp only [List.mem_append, List.mem_singleton, Bool.decide_or]
  congr 1
  exact decide_eq_decide.2 ⟨Eq.symm, Eq.symm⟩

end Go.Proofs.YtellilpeakpbfabGreatDoor

end

section
/-
  A number is one cell.
-/
namespace Go.Proofs.YtellilpeakpbfabGreatDoor.Scd
open Go.ChangeShapes Go.WideShapes Go.ChangeAt Go.RowKit
theorem cInt : Tryz.prog.cellsOf 3 = 1 := by kernel_rfl
end Go.Proofs.YtellilpeakpbfabGreatDoor.Scd

end

section
/-
  From the script as it is read to what the walks ask.
-/
namespace Go.Proofs.YtellilpeakpbfabGreatDoor.Scd
open Go.ChangeShapes Go.WideShapes Go.ChangeAt Go.RowKit

section
variable {H : Type} {enc : TypeId × Value → H}

theorem cellsOp : Tryz.prog.cellsOf 106 = 8 := by kernel_rfl
theorem cStr : Tryz.prog.cellsOf 9 = 1 := by kernel_rfl
theorem cInts : Tryz.prog.cellsOf 48 = 1 := by kernel_rfl

end
end Go.Proofs.YtellilpeakpbfabGreatDoor.Scd

end

section
/-
  Plain mathematics for Install and Drop: a source that reads is plain; what their entries do when read back.
-/
namespace Go.Proofs.YtellilpeakpbfabGreatDoor
open Go.RowKit
namespace Ck

theorem take_nought (st : List Int) : (take st 0).1 = false := by
  unfold take
  repeat' split
  all_goals first | rfl | (exfalso; omega)
theorem rd_known (ts : List (List UInt8)) : ∀ (i : Nat) (st : List Int), (rdGo i st ts).2 = 0 → ∀ t ∈ ts, (tokenP t).1 ≠ 0 := by
  induction ts with
  | nil => intro _ _ _ t ht; cases ht
  | cons a r ih =>
    intro i st h t ht
    unfold rdGo at h
    split at h
    · rename_i hk
      rcases List.mem_cons.1 ht with rfl | ht
      · intro h0; rw [h0, take_nought] at hk; cases hk
      · exact ih _ _ h t ht
    · simp at h
theorem idx_mem (l : List UInt8) (h : wordsL.idxOf l < 16) : l ∈ wordsL := List.idxOf_lt_length_iff.1 h
theorem word_plain : ∀ x ∈ wordsL, ∀ c ∈ x, c ≠ 46 ∧ c ≠ 59 := by decide
theorem dig_plain (c : UInt8) (h : isDig c = true) : c ≠ 46 ∧ c ≠ 59 := by
  rw [isDig_iff] at h
  refine ⟨fun e => ?_, fun e => ?_⟩ <;> (subst e; revert h; decide)
theorem slot_plain (t : List UInt8) (c : UInt8) (hc : c ≠ 46 ∧ c ≠ 59) (h : 0 ≤ slot t c) : ∀ x ∈ t, x ≠ 46 ∧ x ≠ 59 := by
  obtain ⟨b, rfl, h1, h2⟩ := (slot_iff t c).1 h
  intro x hx
  simp only [List.mem_cons, List.not_mem_nil, or_false] at hx
  rcases hx with rfl | rfl
  · exact hc
  · exact dig_plain x ((isDig_iff x).2 ⟨h1, by omega⟩)
theorem tok_plain (t : List UInt8) (h : (tokenP t).1 ≠ 0) : ∀ c ∈ t, c ≠ 46 ∧ c ≠ 59 := by
  unfold tokenP at h
  split at h
  · rename_i hi
    exact word_plain t (idx_mem t hi)
  · cases hn : numIn t with
    | some n =>
      unfold numIn at hn
      split at hn
      · rename_i hg
        intro c hc
        exact dig_plain c (hg.2.2 c hc)
      · cases hn
    | none =>
      rw [hn] at h
      have h' : (named t).1 ≠ 0 := h
      unfold named at h'
      by_cases h1 : 0 ≤ slot t 97
      · exact slot_plain t 97 (by decide) h1
      · rw [if_neg h1] at h'
        by_cases h2 : 0 ≤ slot t 118
        · exact slot_plain t 118 (by decide) h2
        · rw [if_neg h2] at h'; simp at h'
theorem scan_has (l : List UInt8) : ∀ c ∈ l, isSp c = true ∨ (∃ t ∈ (scan l).1, c ∈ t) ∨ c ∈ (scan l).2 := by
  induction l using snoc_ind with
  | h0 => intro c hc; cases hc
  | h1 l a ih =>
    intro c hc
    rcases List.mem_append.1 hc with h | h
    · rcases ih c h with h | ⟨t, ht, hct⟩ | h
      · exact .inl h
      · refine .inr (.inl ⟨t, ?_, hct⟩)
        by_cases ha : isSp a = true
        · by_cases hn : (scan l).2 = []
          · rw [scan_gap l a ha hn]; exact ht
          · rw [scan_done l a ha hn]; simp [ht]
        · rw [scan_more l a (by simpa using ha)]; exact ht
      · by_cases ha : isSp a = true
        · by_cases hn : (scan l).2 = []
          · rw [hn] at h; cases h
          · rw [scan_done l a ha hn]
            exact .inr (.inl ⟨(scan l).2, by simp, h⟩)
        · rw [scan_more l a (by simpa using ha)]
          exact .inr (.inr (by simp [h]))
    · simp only [List.mem_cons, List.not_mem_nil, or_false] at h
      subst h
      by_cases ha : isSp c = true
      · exact .inl ha
      · rw [scan_more l c (by simpa using ha)]
        exact .inr (.inr (by simp))
theorem toks_has (l : List UInt8) (c : UInt8) (hc : c ∈ l) : isSp c = true ∨ ∃ t ∈ toks l, c ∈ t := by
  rcases scan_has l c hc with h | ⟨t, ht, h⟩ | h
  · exact .inl h
  · refine .inr ⟨t, ?_, h⟩
    by_cases hn : (scan l).2 = []
    · rw [toks_gap l hn]; exact ht
    · rw [toks_end l hn]; simp [ht]
  · refine .inr ⟨(scan l).2, ?_, h⟩
    have hn : (scan l).2 ≠ [] := fun e => by rw [e] at h; cases h
    rw [toks_end l hn]; simp
theorem read_plain (s : List UInt8) (h : (read s).2 = 0) : Jn.Plain s := by
  unfold read at h
  split at h
  · simp at h
  · have hk := rd_known (toks s) 0 [1] h
    have hb : ∀ c ∈ s, c ≠ 46 ∧ c ≠ 59 := by
      intro c hc
      rcases toks_has s c hc with hs | ⟨t, ht, hct⟩
      · unfold isSp at hs
        simp at hs
        rcases hs with rfl | rfl <;> decide
      · exact tok_plain t (hk t ht) c hct
    exact ⟨fun hm => (hb 46 hm).1 rfl, fun hm => (hb 59 hm).2 rfl⟩
end Ck

/-- the source of a procedure in a list. -/
def srcL : List (Jn.Bytes × Jn.Bytes) → Jn.Bytes → Option Jn.Bytes
  | [], _ => none
  | p :: r, n => if p.1 = n then some p.2 else srcL r n
theorem src_mem (l : List (Jn.Bytes × Jn.Bytes)) (n s : Jn.Bytes) (h : srcL l n = some s) : (n, s) ∈ l := by
  induction l with
  | nil => cases h
  | cons p r ih =>
    unfold srcL at h
    split at h
    · rename_i hp
      cases h
      subst hp
      simp
    · exact List.mem_cons_of_mem _ (ih h)
theorem src_none (l : List (Jn.Bytes × Jn.Bytes)) (n : Jn.Bytes) (h : srcL l n = none) : Jn.others l n = l := by
  induction l with
  | nil => rfl
  | cons p r ih =>
    unfold srcL at h
    split at h
    · cases h
    · rename_i hp
      have := ih h
      unfold Jn.others at this ⊢
      rw [List.filter_cons, if_pos (by simpa using hp), this]
theorem src_some (l : List (Jn.Bytes × Jn.Bytes)) (n : Jn.Bytes) (h : (srcL l n).isSome = true) : (Jn.others l n).length ≠ l.length := by
  cases hs : srcL l n with
  | none => rw [hs] at h; cases h
  | some s =>
    have hm := src_mem l n s hs
    intro hl
    unfold Jn.others at hl
    rw [List.length_filter_eq_length_iff] at hl
    have := hl _ hm
    simp at this
theorem drop_doc (C : Jn.Con) (n : Jn.Bytes) : Jn.drop C n = if (srcL C.procs n).isSome = true then (⟨C.cells, Jn.others C.procs n⟩, 0) else (C, 3) := by
  unfold Jn.drop
  by_cases h : (srcL C.procs n).isSome = true
  · rw [if_pos h, if_neg (src_some _ _ h)]
  · rw [if_neg h, if_pos]
    rw [src_none C.procs n (by simpa using h)]
theorem drop_same (C : Jn.Con) (n : Jn.Bytes) (h : (Jn.drop C n).2 ≠ 0) : (Jn.drop C n).1 = C := by
  unfold Jn.drop at h ⊢
  split
  · rfl
  · rename_i h1; rw [if_neg h1] at h; simp at h
theorem install_same (C : Jn.Con) (n s : Jn.Bytes) (h : (Jn.install C n s).2.2 ≠ 0) : (Jn.install C n s).1 = C := by
  unfold Jn.install at h ⊢
  split
  · rfl
  · split
    · rfl
    · split
      · rfl
      · rename_i h1 h2 h3; rw [if_neg h1, if_neg h2, if_neg h3] at h; simp at h
theorem install_facts (C : Jn.Con) (n s : Jn.Bytes) (h : (Jn.install C n s).2.2 = 0) : Jn.isName n = true ∧ (Ck.read s).2 = 0 ∧ (Jn.install C n s).2.1 = 0 := by
  unfold Jn.install at h ⊢
  split at h
  · simp at h
  · rename_i h1
    rw [if_neg h1]
    split at h
    · rename_i h2; exact absurd h h2
    · rename_i h2
      rw [if_neg h2]
      split at h
      · simp at h
      · rename_i h3
        rw [if_neg h3]
        exact ⟨by simpa using h1, by simpa using h2, rfl⟩
theorem install_redo (C : Jn.Con) (n s : Jn.Bytes) (h : (Jn.install C n s).2.2 = 0) : Jn.redo C (Jn.installE n s) = some (Jn.install C n s).1 ∧ 46 ∉ Jn.installE n s ∧ (Jn.installE n s).length = n.length + s.length + 3 := by
  obtain ⟨hn, hs, -⟩ := install_facts C n s h
  obtain ⟨p1, p2⟩ := Ck.read_plain s hs
  rw [Jn.installE_B]
  refine ⟨by rw [Jn.redo_one C _ (Jn.installB_no n s 59 (.inr rfl) hn p2), Jn.redo_installB C n s hn, if_pos h], ?_, ?_⟩
  · simp only [List.mem_append, not_or]
    exact ⟨Jn.installB_no n s 46 (.inl rfl) hn p1, by simp⟩
  · simp [Jn.installB]; omega
theorem drop_redo {C : Jn.Con} (hok : Jn.Ok C) (n : Jn.Bytes) (h : (Jn.drop C n).2 = 0) : Jn.redo C (Jn.dropE n) = some (Jn.drop C n).1 ∧ 46 ∉ Jn.dropE n ∧ (Jn.dropE n).length ≤ 10 := by
  have hn : Jn.isName n = true := by
    rw [drop_doc] at h
    split at h
    · rename_i hs
      cases ht : srcL C.procs n with
      | none => rw [ht] at hs; cases hs
      | some t => exact (hok.prc _ (src_mem _ _ _ ht)).1
    · simp at h
  have hno : ∀ m : UInt8, (m = 46 ∨ m = 59) → m ∉ Jn.dropB n := by
    intro m hm
    unfold Jn.dropB
    simp only [List.mem_cons, not_or]
    exact ⟨by rcases hm with rfl | rfl <;> decide, Jn.name_no n hn m (by rcases hm with rfl | rfl <;> simp)⟩
  rw [Jn.dropE_B]
  refine ⟨by rw [Jn.redo_one C _ (hno 59 (.inr rfl)), Jn.redo_dropB C n, if_pos h], ?_, ?_⟩
  · simp only [List.mem_append, not_or]
    exact ⟨hno 46 (.inl rfl), by simp⟩
  · have := name_len n hn
    simp [Jn.dropB]; omega

/-- the document's list behind an Install. -/
def procL (l : List (Jn.Bytes × Jn.Bytes)) (n s : Jn.Bytes) : List (Jn.Bytes × Jn.Bytes) := l.takeWhile (fun p => Jn.ltB p.1 n) ++ [(n, s)] ++ l.filter (fun p => Jn.ltB n p.1)
theorem ltB_asym (a b : Jn.Bytes) (h : Jn.ltB a b = true) : Jn.ltB b a = false := by
  cases hb : Jn.ltB b a with
  | false => rfl
  | true => have := Jn.ltB_trans a b a h hb; rw [Jn.ltB_irr] at this; cases this
theorem filter_up (l : List (Jn.Bytes × Jn.Bytes)) (n : Jn.Bytes) (h : ∀ p ∈ l, Jn.ltB n p.1 = true) : l.filter (fun p => Jn.ltB n p.1) = l := List.filter_eq_self.2 h
theorem procL_insert (l : List (Jn.Bytes × Jn.Bytes)) (n s : Jn.Bytes) (h : l.Pairwise (fun p q => Jn.ltB p.1 q.1 = true)) (hn : ∀ p ∈ l, p.1 ≠ n) : procL l n s = Jn.insertP l (n, s) := by
  induction l with
  | nil => rfl
  | cons p r ih =>
    rw [List.pairwise_cons] at h
    have ih' := ih h.2 (fun q hq => hn q (by simp [hq]))
    unfold procL at ih' ⊢
    unfold Jn.insertP
    by_cases hp : Jn.ltB p.1 n = true
    · rw [if_pos hp, List.takeWhile_cons, if_pos hp, List.filter_cons, if_neg (by rw [ltB_asym _ _ hp]; simp), ← ih']
      simp
    · have hp' : Jn.ltB p.1 n = false := by simpa using hp
      have hnp : Jn.ltB n p.1 = true := Jn.ltB_tot p.1 n hp' (hn p (by simp))
      rw [if_neg hp, List.takeWhile_cons, if_neg hp, filter_up (p :: r) n]
      · simp
      · intro q hq
        rcases List.mem_cons.1 hq with rfl | hq
        · exact hnp
        · exact Jn.ltB_trans _ _ _ hnp (h.1 q hq)
theorem install_doc {C : Jn.Con} (hok : Jn.Ok C) (n s : Jn.Bytes) (hn : Jn.isName n = true) (hr : (Ck.read s).2 = 0) (hf : (Jn.others C.procs n).length < 8) : Jn.install C n s = (⟨C.cells, procL (Jn.others C.procs n) n s⟩, 0, 0) := by
  unfold Jn.install
  rw [if_neg (by rw [hn]; simp), if_neg (by simpa using hr), if_neg (by omega), procL_insert (Jn.others C.procs n) n s (hok.srt.filter _) (fun p hp => (Jn.others_mem _ _ _ hp).2)]

theorem ok_plain {C : Jn.Con} (h : Jn.Ok C) : ∀ p ∈ C.procs, Jn.Plain p.2 := fun p hp => Ck.read_plain p.2 (h.prc p hp).2
end Go.Proofs.YtellilpeakpbfabGreatDoor

end

section
/-
  The plain mathematics of package run: a source that is worked out over tokens; no Go text.
-/
namespace Go.Proofs.YtellilpeakpbfabGreatDoor
open Go.RowKit
namespace Rn

/-- What stays while a source is worked out. -/
structure En where
  tk : List (Int × Int)
  a0 : Int
  a1 : Int
  a2 : Int
  a3 : Int
  fuel : Nat
  con : Jn.Con
/-- What turns. -/
structure St where
  pos : Nat
  v0 : Int
  v1 : Int
  v2 : Int
  v3 : Int
  writes : List (Int × Bool × Int)
  used : Nat
  stopped : Bool
  result : Int

def oneIf (b : Bool) : Int := if b then 1 else 0
/-- the next token, and past it. -/
def tok (E : En) (s : St) : Int × Int := (E.tk[s.pos]?).getD (0, 0)
def adv (E : En) (s : St) : St := if s.pos < E.tk.length then { s with pos := s.pos + 1 } else s
def arg (E : En) (k : Int) : Int := if k = 0 then E.a0 else if k = 1 then E.a1 else if k = 2 then E.a2 else if k = 3 then E.a3 else 0
def var (s : St) (k : Int) : Int := if k = 0 then s.v0 else if k = 1 then s.v1 else if k = 2 then s.v2 else if k = 3 then s.v3 else 0
def setV (s : St) (k x : Int) : St := if k = 0 then { s with v0 := x } else if k = 1 then { s with v1 := x } else if k = 2 then { s with v2 := x } else if k = 3 then { s with v3 := x } else s
def find (ws : List (Int × Bool × Int)) (k : Int) : Nat := ws.findIdx (fun p => p.1 == k)
def held (C : Jn.Con) (k : Int) : Int × Bool × Int := if Jn.isKey k = true then ((C.cells.getD k.toNat none).getD 0, (C.cells.getD k.toNat none).isSome, 0) else (0, false, 5)
/-- what a cell holds: the value, whether it is there, the error. -/
def get (E : En) (s : St) (k : Int) : Int × Bool × Int :=
  match s.writes[find s.writes k]? with
  | some p => (p.2.2, p.2.1, 0)
  | none => held E.con k
def put (s : St) (p : Int × Bool × Int) : Int × St :=
  if Jn.isKey p.1 = false then (5, s) else
  if find s.writes p.1 < s.writes.length then (0, { s with writes := s.writes.set (find s.writes p.1) p }) else
  if 8 ≤ find s.writes p.1 then (8, s) else (0, { s with writes := s.writes ++ [p] })
/-- what is made of two numbers. -/
def sum (k a b : Int) : Int := if k = 4 then a + b else if k = 5 then a - b else a * b
def bounded (n : Int) : Int × Int := if Jn.isVal n = true then (n, 0) else (0, 7)
def reckon (k a b : Int) : Int × Int := if k = 7 then (oneIf (decide (a < b)), 0) else if k = 8 then (oneIf (a == b), 0) else bounded (sum k a b)

/-- the value, the error, what is behind it. -/
def expr (E : En) : Nat → St → Int × Int × St
  | 0, s => (0, 10, s)
  | n + 1, s =>
    if E.fuel ≤ s.used then (0, 10, s) else
    let t := tok E s
    let s1 := adv E { s with used := s.used + 1 }
    if t.1 = 1 then (t.2, 0, s1) else if t.1 = 2 then (arg E t.2, 0, s1) else if t.1 = 3 then (var s1 t.2, 0, s1) else
    if t.1 = 9 ∨ t.1 = 10 then
      let r := expr E n s1
      if r.2.1 ≠ 0 then (0, r.2.1, r.2.2) else
      let g := get E r.2.2 r.1
      if g.2.2 ≠ 0 then (0, g.2.2, r.2.2) else (if t.1 = 10 then oneIf g.2.1 else g.1, 0, r.2.2)
    else
      let a := expr E n s1
      if a.2.1 ≠ 0 then (0, a.2.1, a.2.2) else
      let b := expr E n a.2.2
      if b.2.1 ≠ 0 then (0, b.2.1, b.2.2) else ((reckon t.1 a.1 b.1).1, (reckon t.1 a.1 b.1).2, b.2.2)

/-- past statements in braces. -/
def skipGo (E : En) : Nat → Int → St → St
  | 0, _, s => s
  | n + 1, d, s =>
    if s.pos < E.tk.length then
      let d' := if (tok E s).1 = 18 then d + 1 else if (tok E s).1 = 19 then d - 1 else d
      if d' = 0 then adv E s else skipGo E n d' (adv E s)
    else s
def skip (E : En) (s : St) : St := skipGo E (E.tk.length + 1) 0 s

mutual
/-- the error, what is behind it. -/
def stmts (E : En) : Nat → St → Int × St
  | 0, s => (10, s)
  | n + 1, s =>
    if s.stopped = true then (0, s) else
    if (tok E s).1 = 19 ∨ (tok E s).1 = 0 then (0, adv E s) else
    let r := stmt E n (tok E s).1 (adv E s)
    if r.1 ≠ 0 then r else stmts E n r.2
def stmt (E : En) : Nat → Int → St → Int × St
  | 0, _, s => (10, s)
  | n + 1, k, s =>
    if k = 15 then loop E n s.pos s else
    if E.fuel ≤ s.used then (10, s) else
    let s1 := { s with used := s.used + 1 }
    if k = 11 then
      let r := expr E E.fuel (adv E s1)
      if r.2.1 ≠ 0 then (r.2.1, r.2.2) else (0, setV r.2.2 (tok E s1).2 r.1)
    else if k = 12 then
      let a := expr E E.fuel s1
      if a.2.1 ≠ 0 then (a.2.1, a.2.2) else
      let b := expr E E.fuel a.2.2
      if b.2.1 ≠ 0 then (b.2.1, b.2.2) else put b.2.2 (a.1, true, b.1)
    else if k = 13 then
      let a := expr E E.fuel s1
      if a.2.1 ≠ 0 then (a.2.1, a.2.2) else put a.2.2 (a.1, false, 0)
    else if k = 14 then
      let a := expr E E.fuel s1
      if a.2.1 ≠ 0 then (a.2.1, a.2.2) else
      if a.1 = 0 then stmts E n (adv E (skip E a.2.2)) else
      let r := stmts E n (adv E a.2.2)
      (r.1, skip E r.2)
    else if k = 16 then
      let a := expr E E.fuel s1
      if a.2.1 ≠ 0 then (a.2.1, a.2.2) else (0, { a.2.2 with result := a.1, stopped := true })
    else (9, s1)
def loop (E : En) : Nat → Nat → St → Int × St
  | 0, _, s => (10, s)
  | n + 1, p, s =>
    if s.stopped = true then (0, s) else
    if E.fuel ≤ s.used then (10, { s with pos := p }) else
    let a := expr E E.fuel { s with pos := p, used := s.used + 1 }
    if a.2.1 ≠ 0 then (a.2.1, a.2.2) else
    if a.1 = 0 then (0, skip E a.2.2) else
    let r := stmts E n (adv E a.2.2)
    if r.1 ≠ 0 then r else loop E n p r.2
end

/-- what may be: numbers within their bounds, at most eight cells written. -/
structure Fit (E : En) (s : St) : Prop where
  tk : ∀ t ∈ E.tk, (0 ≤ t.1 ∧ t.1 ≤ 19) ∧ 0 ≤ t.2 ∧ t.2 ≤ 999999
  len : E.tk.length ≤ 1000
  arg : ∀ k, -1000000000 ≤ arg E k ∧ arg E k ≤ 1000000000
  con : Jn.Ok E.con
  fuel : E.fuel ≤ 10000
  pos : s.pos ≤ E.tk.length
  var : ∀ k, -1000000000 ≤ var s k ∧ var s k ≤ 1000000000
  wrl : s.writes.length ≤ 8
  wrs : ∀ p ∈ s.writes, Jn.isKey p.1 = true ∧ (-1000000000 ≤ p.2.2 ∧ p.2.2 ≤ 1000000000)
  used : s.used ≤ E.fuel
end Rn
end Go.Proofs.YtellilpeakpbfabGreatDoor

end
