import Derived.Test.YtellilpeakpbfabGreatDoorRefIToo
import Derived.Test.YtellilpeakpbfabGreatDoorStoreToo
import Derived.Test.YtellilpeakpbfabGreatDoorRnToo
import Derived.Test.YtellilpeakpbfabGreatDoorMarkToo
import Derived.Test.YtellilpeakpbfabGreatDoorSmallToo
import Derived.BigQuiet
import Derived.Test.YtellilpeakpbfabGreatDoorStCToo
section
/-
  The walks of the document's Drop, and of procBytes.
-/
namespace Go.Proofs.YtellilpeakpbfabGreatDoor
open Go.RowKit

/-- what the document's Drop answers. -/
def DrpRef (sc : Value) (ps : List (Jn.Bytes × Jn.Bytes)) (er : Int) (w : World) (e : Ending) (w' : World) : Prop :=
  ∃ po pk, e = .returned (.tuple #[.agg #[sc, .slice po ps.length pk], .int .i64 er]) ∧ PRow w' 0 (.slice po ps.length pk) ps ∧ Below w.heap.size w w'

set_option maxHeartbeats 1000000 in
set_option maxRecDepth 100000 in
theorem refDrop_any (C : Jn.Con) (sc sp : Value) (n : ByteArray) (w : World) (h : CRow w 0 sc C.list) (hp : PRow w 0 sp C.procs) (hok : Jn.Ok C) :
    Calls Tryz.prog 119 #[.agg #[sc, sp], .string n] w (DrpRef sc (Jn.drop C n.data.toList).1.procs (Jn.drop C n.data.toList).2 w) := by
  obtain ⟨so, sk, rfl⟩ := crow_slice h
  obtain ⟨po, pk, rfl, -⟩ := hp.shape
  have hcnt := hok.cnt
  have HPR := hide (fun w h => proc_any 0 (.slice po C.procs.length pk) C.procs n w h (by omega))
  have HOT := hide (fun w h => othersR_any 0 (.slice po C.procs.length pk) C.procs n w h (by omega))
  have hb0 : ∀ o1 o2 : Obj, Below w.heap.size w ((w.alloc o1).alloc o2) := fun o1 o2 => ((Below.refl _ _).alloc (Nat.le_refl _) o1).alloc (by simp) o2
  have HB0 := hide hb0
  have HP := hide hp
  rw [drop_doc]
  clear hb0 hp h hok
  generalize C.list.length = sn
  obtain ⟨cs, ps⟩ := C
  simp only at *
  cases hs : (srcL ps n.data.toList).isSome with
  | false =>
    rw [hs] at HPR
    rw [if_neg (by simp)]
    clear hs
    generalize (srcL ps n.data.toList).getD [] = x at HPR
    go_enter Tryz.func119, Tryz.ntmps119
    go_wp2_with fail
    refine (HPR.out _ (HP.out.below (HB0.out _ _))).mono ?_
    rintro e w2 ⟨rfl, rfl⟩
    have HFIN := hide (PRow.below HP.out (HB0.out (.cells #[.slice so sn sk, .slice po ps.length pk] 146) (.cells #[.slice so sn sk, .slice po ps.length pk] 146)))
    go_wp2
    refine bodyPost_ret (v := .tuple #[.agg #[.slice so sn sk, .slice po ps.length pk], .int .i64 3]) (by simp [results, Tryz.results119, go_sem]) rfl ⟨po, pk, rfl, ?_, HB0.out _ _⟩
    exact PRow.below HP.out (HB0.out _ _)
  | true =>
    rw [hs] at HPR
    rw [if_pos rfl]
    clear hs
    generalize (srcL ps n.data.toList).getD [] = x at HPR
    generalize Jn.others ps n.data.toList = l at *
    go_enter Tryz.func119, Tryz.ntmps119
    go_wp2_with fail
    refine (HPR.out _ (HP.out.below (HB0.out _ _))).mono ?_
    rintro e w2 ⟨rfl, rfl⟩
    go_wp2_with fail
    refine (HOT.out _ (HP.out.below (HB0.out _ _))).mono ?_
    rintro e w3 ⟨v3, rfl, hrow, hb3⟩
    obtain ⟨so', sk', rfl, -⟩ := hrow.shape
    obtain ⟨h3, h4⟩ := blk_two hb3
    have q0 : w3.cell? ⟨w.heap.size, 0, none⟩ = some (.slice so sn sk) := (cell_of_row w3 w.heap.size 0 _ _ _ h3).trans rfl
    have r0 : w3.cell? ⟨w.heap.size + 1, 0, none⟩ = some (.slice none 0 0) := (cell_of_row w3 (w.heap.size + 1) 0 _ _ _ h4).trans rfl
    have r1 : w3.cell? ⟨w.heap.size + 1, 1, none⟩ = some (.slice none 0 0) := (cell_of_row w3 (w.heap.size + 1) 1 _ _ _ h4).trans rfl
    have f0 : w3.frozen? ⟨w.heap.size + 1, 0, none⟩ = false := frozen_of_row w3 (w.heap.size + 1) 0 _ _ h4
    have f1 : w3.frozen? ⟨w.heap.size + 1, 1, none⟩ = false := frozen_of_row w3 (w.heap.size + 1) 1 _ _ h4
    have hz := hb3.size
    simp only [World.size_alloc] at hz hrow
    have HR := hide hrow
    have HB3 := hide ((HB0.out _ _).trans (hb3.mono (B' := w.heap.size) (by simp; omega)))
    clear hb3 hrow h3 h4 HOT HPR
    go_wp2
    have s0 := World.cell?_setCell_same w3 ⟨w.heap.size + 1, 0, none⟩ (.slice so sn sk) r0
    have s1 := World.cell?_setCell_same (w3.setCell ⟨w.heap.size + 1, 0, none⟩ (.slice so sn sk)) ⟨w.heap.size + 1, 1, none⟩ (.slice so' l.length sk') ((World.cell?_setCell_other _ _ _ _ (by simp)).trans r1)
    refine bodyPost_ret (v := .tuple #[.agg #[.slice so sn sk, .slice so' l.length sk'], .int .i64 0]) (by simp [results, Tryz.results119, go_sem, s0, s1]) rfl ⟨so', sk', rfl, ?_, ?_⟩
    · have h1 := ownsRow_setCell_below HR.out (a := ⟨w.heap.size + 1, 0, none⟩) (by show w.heap.size + 1 < w.heap.size + 1 + 1; omega) (.slice so sn sk)
      have h2 := ownsRow_setCell_below h1 (a := ⟨w.heap.size + 1, 1, none⟩) (by show w.heap.size + 1 < w.heap.size + 1 + 1; omega) (.slice so' l.length sk')
      exact ownsRow_base h2 (Nat.zero_le _)
    · exact (HB3.out.setCell (p := ⟨w.heap.size + 1, 0, none⟩) (by show w.heap.size ≤ w.heap.size + 1; omega) _).setCell (p := ⟨w.heap.size + 1, 1, none⟩) (by show w.heap.size ≤ w.heap.size + 1; omega) _

/-- what a procedure counts. -/
def countL (ps : List (Jn.Bytes × Jn.Bytes)) (n : Jn.Bytes) : Int := match srcL ps n with | some s => 2 * ((s.length : Int) + n.length) | none => 0
theorem count_bd {C : Jn.Con} (h : Jn.Ok C) (n : Jn.Bytes) : 0 ≤ countL C.procs n ∧ countL C.procs n ≤ 2000 := by
  unfold countL
  cases hs : srcL C.procs n with
  | none => exact ⟨by simp, by simp⟩
  | some s =>
    have hm := src_mem _ _ _ hs
    have h1 := name_len _ (h.prc _ hm).1
    have h2 := read_len _ (h.prc _ hm).2
    simp only at h1 h2 ⊢
    omega

set_option maxHeartbeats 1000000 in
theorem procBytes_any (b : Nat) (v : Value) (C : Jn.Con) (n : ByteArray) (w : World) (h : PRow w b v C.procs) (hok : Jn.Ok C) :
    Calls Tryz.prog 118 #[v, .string n] w fun e w' => e = .returned (.int .i64 (countL C.procs n.data.toList)) ∧ w' = w := by
  obtain ⟨po, pk, rfl, -⟩ := h.shape
  have hcnt := hok.cnt
  have hpr := proc_any b (.slice po C.procs.length pk) C.procs n w h (by omega)
  have hl : n.data.toList.length = n.size := by simp
  cases hs : srcL C.procs n.data.toList with
  | none =>
    rw [hs] at hpr
    simp only [Option.getD_none, Option.isSome_none, T] at hpr
    have HPR := hide hpr
    have HE : Hid (countL C.procs n.data.toList = 0) := by show _ = _; unfold countL; rw [hs]
    clear hpr h hok hs
    go_enter Tryz.func118, Tryz.ntmps118
    go_wp2_with fail
    refine HPR.out.mono ?_
    rintro e w2 ⟨rfl, rfl⟩
    go_wp2
    go_ret
    rw [HE.out]
    exact ⟨rfl, rfl⟩
  | some s =>
    rw [hs] at hpr
    simp only [Option.getD_some, Option.isSome_some, T] at hpr
    have hm := src_mem _ _ _ hs
    have h1 := name_len _ (hok.prc _ hm).1
    have h2 := read_len _ (hok.prc _ hm).2
    simp only at h1 h2
    rw [hl] at h1
    obtain ⟨q, hq⟩ : ∃ q : ByteArray, q = ⟨s.toArray⟩ := ⟨_, rfl⟩
    have hqs : q.size = s.length := by rw [hq]; rfl
    rw [← hq] at hpr
    have HPR := hide hpr
    have HE : Hid (countL C.procs n.data.toList = 2 * ((q.size : Int) + n.size)) := by show _ = _; unfold countL; rw [hs, hqs, hl]
    rw [← hqs] at h2
    clear hpr h hok hs hq hqs hm hl
    go_enter Tryz.func118, Tryz.ntmps118
    go_wp2_with fail
    refine HPR.out.mono ?_
    rintro e w2 ⟨rfl, rfl⟩
    go_wp2
    go_ret
    rw [HE.out]
    exact ⟨rfl, rfl⟩
end Go.Proofs.YtellilpeakpbfabGreatDoor

end

section
/-
  The walks of the store's calls: Install, Drop.
-/
namespace Go.Proofs.YtellilpeakpbfabGreatDoor
open Go.RowKit

set_option maxHeartbeats 400000 in
theorem dropJ_any (n : ByteArray) (w : World) (hn : n.size ≤ 1000) :
    Calls Tryz.prog 62 #[.string n] w fun e w' => ∃ X : ByteArray, e = .returned (.string X) ∧ X.data.toList = Jn.dropE n.data.toList ∧ X.size ≤ 2000 ∧ w' = w := by
  go_enter Tryz.func62, Tryz.ntmps62
  go_wp2
  go_ret
  refine ⟨_, rfl, ?_, ?_, rfl⟩
  · simp only [app_list]; rfl
  · simp only [ByteArray.size_append, one_size]; omega

/-- what Install answers: the contents behind it, the place, the error, what is told. -/
def InsOwn (L S B : Nat) (C' : Jn.Con) (f at' er : Int) (es : List UInt8) (w : World) (e : Ending) (w' : World) : Prop :=
  ∃ v, e = .returned (.tuple #[.int .i64 at', v, .int .i64 er]) ∧ StAt L w' S B C' f ∧ Fr L [] (some B) w w' ∧ ((er ≠ 0 ∧ v = .slice none 0 0) ∨ (er = 0 ∧ ARow w' w.heap.size v [(1, f, Jn.record es)]))

set_option maxHeartbeats 1000000 in
set_option maxRecDepth 100000 in
theorem installS_own (L S B : Nat) (C : Jn.Con) (f : Int) (n s : ByteArray) (w : World) (h : StAt L w S B C f) (hW : WordsAt w) :
    Calls Tryz.prog 43 #[.pointer (some ⟨S, 0, none⟩), .string n, .string s] w (InsOwn L S B (Jn.install C n.data.toList s.data.toList).1 f (Jn.install C n.data.toList s.data.toList).2.1 (Jn.install C n.data.toList s.data.toList).2.2 (Jn.installE n.data.toList s.data.toList) w) := by
  obtain ⟨c0, -, -, -⟩ := h.cells
  have hp := installC_own L B C n s w h.con hW
  have hval : (Jn.install C n.data.toList s.data.toList).2.2 = 0 → n.size ≤ 8 ∧ s.size ≤ 400 ∧ (Jn.install C n.data.toList s.data.toList).2.1 = 0 := by
    intro h0
    obtain ⟨h1, h2, h3⟩ := install_facts _ _ _ h0
    exact ⟨by rw [size_list]; exact name_len _ h1, by rw [size_list]; exact read_len _ h2, h3⟩
  generalize Jn.install C n.data.toList s.data.toList = q at *
  obtain ⟨q1, q2, q3⟩ := q
  have HP := hide hp
  have HH := hide h
  have HV := hide hval
  clear hp h hval hW
  go_enter Tryz.func43, Tryz.ntmps43
  go_wp2_with fail
  refine HP.out.mono ?_
  rintro e w1 ⟨rfl, hc1, hf1⟩
  have HS1 := hide (HH.out.conB hf1 hc1)
  have HF1 := hide hf1
  clear hc1 hf1 HP
  cases ht : (q3 != (0 : Int)) with
  | true =>
    have HNE : Hid (q3 ≠ 0) := by show _ ≠ _; simpa using ht
    go_wp2
    go_ret3
    exact ⟨_, rfl, HS1.out, HF1.out, .inl ⟨HNE.out, rfl⟩⟩
  | false =>
    have h0 : q3 = 0 := by simpa using ht
    obtain ⟨k0, k1, hz⟩ := HV.out h0
    have HE0 := hide h0
    have HEZ := hide hz
    have HPJ := hide (installJ_any n s w1 (by omega) (by omega))
    clear h0 hz
    go_wp2_with fail
    refine HPJ.out.mono ?_
    rintro e w2 ⟨X, rfl, hX, hXs, rfl⟩
    have HX := hide hX
    have HTL := hide (tell_any L S B q1 f X w2 HS1.out (by omega))
    clear hX HPJ
    go_wp2_with fail
    refine HTL.out.mono ?_
    rintro e w3 ⟨v, rfl, hr, hb3⟩
    obtain ⟨ao, cap, rfl, hnn, -⟩ := own_slice hr
    have HFIN : Hid (InsOwn L S B q1 f 0 0 (Jn.installE n.data.toList s.data.toList) w (.returned (.tuple #[.int .i64 0, .slice ao 1 cap, .int .i64 0])) w3) := by
      have hL1 : L ≤ w2.heap.size := Nat.le_trans HS1.out.low (Nat.le_of_lt HS1.out.lt)
      refine ⟨_, rfl, HS1.out.below hb3, HF1.out.trans (Fr.of hb3 hL1), .inr ⟨rfl, ?_⟩⟩
      rw [HX.out] at hr
      exact ownsRow_base hr HF1.out.size
    clear hr hb3 HTL
    go_wp2
    go_ret3
    rw [HE0.out, HEZ.out]
    exact HFIN.out

set_option maxHeartbeats 1000000 in
set_option maxRecDepth 100000 in
theorem dropS_own (L S B : Nat) (C : Jn.Con) (f : Int) (n : ByteArray) (w : World) (h : StAt L w S B C f) :
    Calls Tryz.prog 42 #[.pointer (some ⟨S, 0, none⟩), .string n] w (ChgOwn L S B (Jn.drop C n.data.toList).1 f (Jn.drop C n.data.toList).2 (Jn.dropE n.data.toList) w) := by
  obtain ⟨c0, -, -, -⟩ := h.cells
  have hp := dropC_own L B C n w h.con
  have hval : (Jn.drop C n.data.toList).2 = 0 → n.size ≤ 10 := by
    intro h0
    obtain ⟨-, -, h3⟩ := drop_redo h.con.ok _ h0
    rw [size_list]
    simp [Jn.dropE] at h3
    simp
    omega
  generalize Jn.drop C n.data.toList = q at *
  obtain ⟨q1, q2⟩ := q
  have HP := hide hp
  have HH := hide h
  have HV := hide hval
  clear hp h hval
  go_enter Tryz.func42, Tryz.ntmps42
  go_wp2_with fail
  refine HP.out.mono ?_
  rintro e w1 ⟨rfl, hc1, hf1⟩
  have HS1 := hide (HH.out.conB hf1 hc1)
  have HF1 := hide hf1
  clear hc1 hf1 HP
  cases ht : (q2 != (0 : Int)) with
  | true =>
    have HNE : Hid (q2 ≠ 0) := by show _ ≠ _; simpa using ht
    go_wp2
    go_ret2
    exact ⟨_, rfl, HS1.out, HF1.out, .inl ⟨HNE.out, rfl⟩⟩
  | false =>
    have h0 : q2 = 0 := by simpa using ht
    have k0 := HV.out h0
    have HE0 := hide h0
    have HPJ := hide (dropJ_any n w1 (by omega))
    clear h0
    go_wp2_with fail
    refine HPJ.out.mono ?_
    rintro e w2 ⟨X, rfl, hX, hXs, rfl⟩
    have HX := hide hX
    have HTL := hide (tell_any L S B q1 f X w2 HS1.out (by omega))
    clear hX HPJ
    go_wp2_with fail
    refine HTL.out.mono ?_
    rintro e w3 ⟨v, rfl, hr, hb3⟩
    obtain ⟨ao, cap, rfl, hnn, -⟩ := own_slice hr
    have HFIN : Hid (ChgOwn L S B q1 f 0 (Jn.dropE n.data.toList) w (.returned (.tuple #[.slice ao 1 cap, .int .i64 0])) w3) := by
      have hL1 : L ≤ w2.heap.size := Nat.le_trans HS1.out.low (Nat.le_of_lt HS1.out.lt)
      refine ⟨_, rfl, HS1.out.below hb3, HF1.out.trans (Fr.of hb3 hL1), .inr ⟨rfl, ?_⟩⟩
      rw [HX.out] at hr
      exact ownsRow_base hr HF1.out.size
    clear hr hb3 HTL
    go_wp2
    go_ret2
    rw [HE0.out]
    exact HFIN.out
/-- what Install answers, its contents by their type. -/
def InsPost (L S B : Nat) (C' : Jn.Con) (f at' er : Int) (es : List UInt8) (w : World) (e : Ending) (w' : World) : Prop :=
  ∃ v, e = .returned (.tuple #[.int .i64 at', v, .int .i64 er]) ∧ StAt L w' S B C' f ∧ Fr L [123] none w w' ∧ ((er ≠ 0 ∧ v = .slice none 0 0) ∨ (er = 0 ∧ ARow w' w.heap.size v [(1, f, Jn.record es)]))
theorem installS_any (L S B : Nat) (C : Jn.Con) (f : Int) (n s : ByteArray) (w : World) (h : StAt L w S B C f) (hW : WordsAt w) :
    Calls Tryz.prog 43 #[.pointer (some ⟨S, 0, none⟩), .string n, .string s] w (InsPost L S B (Jn.install C n.data.toList s.data.toList).1 f (Jn.install C n.data.toList s.data.toList).2.1 (Jn.install C n.data.toList s.data.toList).2.2 (Jn.installE n.data.toList s.data.toList) w) :=
  (installS_own L S B C f n s w h hW).mono fun _ _ ⟨v, h1, h2, h3, h4⟩ => ⟨v, h1, h2, h.weakB h3, h4⟩
theorem dropS_any (L S B : Nat) (C : Jn.Con) (f : Int) (n : ByteArray) (w : World) (h : StAt L w S B C f) :
    Calls Tryz.prog 42 #[.pointer (some ⟨S, 0, none⟩), .string n] w (ChgPost L S B (Jn.drop C n.data.toList).1 f (Jn.drop C n.data.toList).2 (Jn.dropE n.data.toList) w) := (dropS_own L S B C f n w h).mono fun _ _ g => g.weak h
end Go.Proofs.YtellilpeakpbfabGreatDoor

end

section
/-
  Small facts on worlds.
-/
namespace Go.Proofs.YtellilpeakpbfabGreatDoor
open Go.RowKit

theorem below_undrew {n : Nat} {w w' : World} (h : Below n w.drew w') : Below n w w' := ⟨h.os, h.tape, h.output, h.size, h.block⟩
theorem below_then {w x y : World} (h : Below w.heap.size w x) (g : Below x.heap.size x y) : Below w.heap.size w y := h.trans (g.mono h.size)
theorem belowA {w x : World} (h : Below w.heap.size w x) (o : Obj) : Below w.heap.size w (x.alloc o) := h.alloc h.size o
theorem belowS {w x : World} {b j : Nat} (h : Below w.heap.size w x) (hb : w.heap.size ≤ b) (v : Value) : Below w.heap.size w (x.setCell ⟨b, j, none⟩ v) := h.setCell (p := ⟨b, j, none⟩) hb v
theorem leA {n : Nat} {x : World} (h : n ≤ x.heap.size) (o : Obj) : n ≤ (x.alloc o).heap.size := by rw [World.size_alloc]; omega
theorem leD {n : Nat} {x : World} (h : n ≤ x.heap.size) : n ≤ x.drew.heap.size := h

theorem frA {L : Nat} {T : List TypeId} {w x : World} (h : Fr L T none w x) (hL : L ≤ w.heap.size) (o : Obj) : Fr L T none w (x.alloc o) := h.trans (Fr.of ((Below.refl _ _).alloc (Nat.le_refl _) _) (Nat.le_trans hL h.size))
theorem frS {L : Nat} {T : List TypeId} {w x : World} {b j : Nat} (h : Fr L T none w x) (hL : L ≤ w.heap.size) (hb : w.heap.size ≤ b) (v : Value) : Fr L T none w (x.setCell ⟨b, j, none⟩ v) := by
  have f0 : Fr L [] (some b) x (x.setCell ⟨b, j, none⟩ v) := fr_setCell x b j v (Nat.le_trans hL hb)
  refine ⟨h.below.trans f0.below, fun k cur t z hk ht hX => f0.block k cur t z (h.block k cur t z hk ht hX) (by simp) ?_⟩
  have hlt := (Array.getElem?_eq_some_iff.1 hk).1
  intro e
  cases e
  omega
end Go.Proofs.YtellilpeakpbfabGreatDoor

end

section
/-
  The walk of World.procs: Install.
-/
namespace Go.Proofs.YtellilpeakpbfabGreatDoor
open Go.RowKit

end Go.Proofs.YtellilpeakpbfabGreatDoor

end

section
/-
  The walk of World.procs where crashes may come: Install.
-/
set_option linter.unusedVariables false
namespace Go.Proofs.YtellilpeakpbfabGreatDoor
open Go.RowKit

set_option maxHeartbeats 8000000 in
set_option maxRecDepth 100000 in
theorem procs_installC (L W D m : Nat) (w : World) (C : Jn.Con) (o : OpD) (ho : o.kind = 7) (h : SInvC L W D w C m) (hm : m ≤ 1200000000000) (hWd : WordsAt w) (hP : PowAt w) (hpL : 1 < L) (lW : List Int) (hcb : B64' o.cut) (hrw : ∀ x, Below L w x → Raws x (.slice o.wo o.wn o.wc) lW) :
    Calls Tryz.prog 77 #[.pointer (some ⟨W, 0, none⟩), .agg o.cells, .bool true] w (StepPostC L W D m w) := by
  have HCE := hide (fun W w s1 s2 f most a1 a2 b1 b2 c1 c2 h1 h2 hf => change_errC W w s1 s2 f most a1 a2 b1 b2 c1 c2 h1 h2 o hf)
  obtain ⟨S, B, f, past, d, nc, nq, na, hlaw, hst, hlast, hpm, hnc, hnq, hna, hdk, hds, hpl, hsf⟩ := h
  have HCO := hide (fun N wp C' d' s1 s2 v l most hlaw hLN hN h1 h2 hst hr hl8 hmost hel her hpd hdk' hpre (hbx : Below L w wp) => chg_step (L := L) (W := W) (D := D) (N := N) (S := S) (B := B) (m := m) (wp := wp) (past := past) (C' := C') (d := d) (d' := d') (f := f) (nc := nc) (nq := nq) (na := na) (s1 := s1) (s2 := s2) (v := v) (l := l) (most := most) (o := o) (lW := lW) hlaw hLN hN h1 h2 hst hr hl8 hmost hel her hpm hnc hnq hna hds hpd hdk' hpre hm (hP.below hpL hbx) (hWd.below (Nat.lt_of_le_of_lt (by decide) hpL) hbx) hpL hcb (fun y hy => hrw y (hbx.trans hy)))
  obtain ⟨kk, nn, mm, s, t, lo, ln, lc, cut, wo, wn, wc⟩ := o
  simp only at ho
  subst ho
  simp only [OpD.cells] at HCE HCO ⊢
  obtain ⟨w1, hw1⟩ : ∃ w1, w1 = w.alloc (.cells #[.int .i64 7, .int .i64 nn, .int .i64 mm, .string s, .string t, .slice lo ln lc, .int .i64 cut, .slice wo wn wc] 106) := ⟨_, rfl⟩
  obtain ⟨B0, hB0⟩ : ∃ B0, B0 = w.heap.size := ⟨_, rfl⟩
  have hB1 : Below w.heap.size w w1 := by rw [hw1]; exact (Below.refl _ _).alloc (Nat.le_refl _) _
  have hbo : w1.heap[B0]? = some (.cells #[.int .i64 7, .int .i64 nn, .int .i64 mm, .string s, .string t, .slice lo ln lc, .int .i64 cut, .slice wo wn wc] 106 (0, 0)) := by rw [hw1, hB0]; exact heap_alloc_new w _
  have hlaw1 := hlaw.below hB1
  obtain ⟨vp, vc, vq, va, lcs, lqs, lxs, hWA, hpast, -, -, -, -, -, -⟩ := hlaw1.rest
  have HNOW := hide (now_any L W w1 _ _ vp vc vq va past C hWA hpast hlast (by omega))
  have hok : Jn.Ok C := hst.con.ok
  have HIS := hide (fun x (hx : Below w1.heap.size w1 x) => installS_any L S B C f s t x ((hst.below hB1).below hx) ((hWd.below hWd.1 hB1).below (Nat.lt_of_lt_of_le hWd.1 hB1.size) hx))
  have HRI := hide (fun sc sp w h1 h2 => refInstall_any C sc sp s t w h1 h2 hok)
  have HPB := hide (fun b v w h => procBytes_any b v C s w h hok)
  have hcb := count_bd hok s.data.toList
  have HB1 := hide hB1
  have HWA := hide hWA
  have HBO := hide hbo
  have HLAW := hide hlaw
  have HST := hide hst
  have HIF := hide (fun h => install_facts C s.data.toList t.data.toList h)
  have HIR := hide (fun h => install_redo C s.data.toList t.data.toList h)
  have HIM := hide (fun h => install_same C s.data.toList t.data.toList h)
  have hIL : (Jn.install C s.data.toList t.data.toList).1.cells = C.cells := by
    unfold Jn.install
    repeat' split
    all_goals rfl
  clear hB1 hbo hlaw hst hlaw1 hWA hpast hWd
  obtain ⟨C', hC'⟩ : ∃ C', C' = (Jn.install C s.data.toList t.data.toList).1 := ⟨_, rfl⟩
  obtain ⟨pl, hpl'⟩ : ∃ pl, pl = (Jn.install C s.data.toList t.data.toList).2.1 := ⟨_, rfl⟩
  obtain ⟨er, her⟩ : ∃ er, er = (Jn.install C s.data.toList t.data.toList).2.2 := ⟨_, rfl⟩
  rw [← hC', ← hpl', ← her] at HRI HIS
  rw [← her] at HIF HIR HIM
  rw [← hC'] at HIR HIM hIL
  rw [← hpl'] at HIF
  have hcl : C'.list = C.list := by unfold Jn.Con.list; rw [hIL]
  clear hC' hpl' her hIL
  obtain ⟨cb, hcb0⟩ : ∃ cb, cb = countL C.procs s.data.toList := ⟨_, rfl⟩
  rw [← hcb0] at HPB hcb
  clear hcb0
  go_enter Tryz.func77, Tryz.ntmps77
  go_upto_region 1 with fail
  rw [← hw1, ← hB0]
  have HW1 := hide hw1
  have HB0 := hide hB0
  clear hw1 hB0
  go_wp2_with fail
  refine HNOW.out.mono ?_
  rintro e wn ⟨sc, sp, rfl, hcr, hpr, hbn⟩
  obtain ⟨so, sk, rfl⟩ := crow_slice hcr
  obtain ⟨po, pk, rfl, -⟩ := hpr.shape
  obtain ⟨wv, hwv⟩ : ∃ wv, wv = wn.alloc (.cells #[.slice so C.list.length sk, .slice po C.procs.length pk] 146) := ⟨_, rfl⟩
  obtain ⟨Bv, hBv⟩ : ∃ Bv, Bv = wn.heap.size := ⟨_, rfl⟩
  have hba : Below wn.heap.size wn wv := by rw [hwv]; exact (Below.refl _ _).alloc (Nat.le_refl _) _
  have hbv : Below w1.heap.size w1 wv := hbn.trans (hba.mono hbn.size)
  have hon := (hbv.block B0 (Array.getElem?_eq_some_iff.1 HBO.out).1).trans HBO.out
  have hvn : wv.heap[Bv]? = some (.cells #[.slice so C.list.length sk, .slice po C.procs.length pk] 146 (0, 0)) := by rw [hwv, hBv]; exact heap_alloc_new wn _
  have p0 : wv.cell? ⟨B0, 0, none⟩ = some (.int .i64 7) := (cell_of_row wv B0 0 _ _ _ hon).trans rfl
  have p3 : wv.cell? ⟨B0, 3, none⟩ = some (.string s) := (cell_of_row wv B0 3 _ _ _ hon).trans rfl
  have p4 : wv.cell? ⟨B0, 4, none⟩ = some (.string t) := (cell_of_row wv B0 4 _ _ _ hon).trans rfl
  have v0 : wv.cell? ⟨Bv, 0, none⟩ = some (.slice so C.list.length sk) := (cell_of_row wv Bv 0 _ _ _ hvn).trans rfl
  have v1 : wv.cell? ⟨Bv, 1, none⟩ = some (.slice po C.procs.length pk) := (cell_of_row wv Bv 1 _ _ _ hvn).trans rfl
  have HON := hide hon
  have HVN := hide hvn
  have HCR := hide (hcr.below hba)
  have HPR := hide (hpr.below hba)
  have HBV := hide hbv
  clear hcr hpr hbn hon HNOW hba hbv hvn
  go_upto_region 2 with fail
  rw [← hwv, ← hBv]
  have HWV := hide hwv
  have HBVV := hide hBv
  clear hwv hBv
  go_wp2_with fail
  refine (HRI.out _ _ _ HCR.out HPR.out).mono ?_
  rintro e wi ⟨po', pk', rfl, hpi, hbi⟩
  obtain ⟨wd, hwd⟩ : ∃ wd, wd = wi.alloc (.cells #[.slice so C.list.length sk, .slice po' C'.procs.length pk'] 146) := ⟨_, rfl⟩
  obtain ⟨Bd, hBd⟩ : ∃ Bd, Bd = wi.heap.size := ⟨_, rfl⟩
  have hba : Below wi.heap.size wi wd := by rw [hwd]; exact (Below.refl _ _).alloc (Nat.le_refl _) _
  have hbvd : Below wv.heap.size wv wd := hbi.trans (hba.mono hbi.size)
  have hbd : Below w1.heap.size w1 wd := HBV.out.trans (hbvd.mono HBV.out.size)
  have hdn : wd.heap[Bd]? = some (.cells #[.slice so C.list.length sk, .slice po' C'.procs.length pk'] 146 (0, 0)) := by rw [hwd, hBd]; exact heap_alloc_new wi _
  have hon := (hbvd.block B0 (Array.getElem?_eq_some_iff.1 HON.out).1).trans HON.out
  have hvn := (hbvd.block Bv (Array.getElem?_eq_some_iff.1 HVN.out).1).trans HVN.out
  have hwa : WAt wd W _ _ _ _ _ _ := HWA.out.fr (Fr.of (L := 0) (T := []) (X := none) hbd (Nat.zero_le _)) (by simp) (by simp)
  have HFR := hide (fun x (hx : Fr L [123] none wd x) => And.intro (hx.block B0 _ _ _ hon (by decide) (by simp)) (And.intro (hx.block Bd _ _ _ hdn (by decide) (by simp)) (And.intro (hx.block Bv _ _ _ hvn (by decide) (by simp)) (hwa.fr hx (by decide) (by simp)))))
  have HKP := hide (fun x (hx : Fr L [123] none wd x) => (⟨(HFR.out x hx).2.2.2.cell.1, (cell_of_row x B0 3 _ _ _ (HFR.out x hx).1).trans rfl, (cell_of_row x B0 4 _ _ _ (HFR.out x hx).1).trans rfl⟩ : x.cell? ⟨W, 0, none⟩ = some (.pointer (some ⟨S, 0, none⟩)) ∧ x.cell? ⟨B0, 3, none⟩ = some (.string s) ∧ x.cell? ⟨B0, 4, none⟩ = some (.string t)))
  obtain ⟨k0, k3, k4⟩ := HKP.out wd (Fr.refl _ _ _ _)
  have HCR2 := hide (HCR.out.below hbvd)
  have HPO := hide (HPR.out.below hbvd)
  have HPI := hide (hpi.below hba)
  have HBD := hide hbd
  clear hpi hbi hba hbvd hbd hdn hon hvn hwa p0 p3 p4 v0 v1 HRI HCR HPR HON HVN
  go_upto_region 5 with fail
  rw [← hwd, ← hBd]
  have HWD := hide hwd
  have HBDD := hide hBd
  clear hwd hBd
  go_region_held3 (fun w' => w'.cell? ⟨W, 0, none⟩ = some (.pointer (some ⟨S, 0, none⟩)) ∧ w'.cell? ⟨B0, 3, none⟩ = some (.string s) ∧ w'.cell? ⟨B0, 4, none⟩ = some (.string t))
    (first | with_reducible exact HKP.out _ hfr | go_keep)
    (first | (go_at_call 43; refine (HIS.out _ (Below.drew HBD.out)).mono ?_; rintro e wp ⟨v, rfl, hst', hfr0, hor⟩; have hfr : Fr L [123] none wd wp := Fr.undrew hfr0))
  obtain ⟨hob, hbd, hbv, -⟩ := HFR.out wp hfr
  have p0 : wp.cell? ⟨B0, 0, none⟩ = some (.int .i64 7) := (cell_of_row wp B0 0 _ _ _ hob).trans rfl
  have p1 : wp.cell? ⟨B0, 1, none⟩ = some (.int .i64 nn) := (cell_of_row wp B0 1 _ _ _ hob).trans rfl
  have p2 : wp.cell? ⟨B0, 2, none⟩ = some (.int .i64 mm) := (cell_of_row wp B0 2 _ _ _ hob).trans rfl
  have p3 : wp.cell? ⟨B0, 3, none⟩ = some (.string s) := (cell_of_row wp B0 3 _ _ _ hob).trans rfl
  have p4 : wp.cell? ⟨B0, 4, none⟩ = some (.string t) := (cell_of_row wp B0 4 _ _ _ hob).trans rfl
  have p5 : wp.cell? ⟨B0, 5, none⟩ = some (.slice lo ln lc) := (cell_of_row wp B0 5 _ _ _ hob).trans rfl
  have p6 : wp.cell? ⟨B0, 6, none⟩ = some (.int .i64 cut) := (cell_of_row wp B0 6 _ _ _ hob).trans rfl
  have p7 := (cell_of_row wp B0 7 _ _ _ hob).trans rfl
  have r0 : wp.cell? ⟨Bd, 0, none⟩ = some (.slice so C.list.length sk) := (cell_of_row wp Bd 0 _ _ _ hbd).trans rfl
  have r1 : wp.cell? ⟨Bd, 1, none⟩ = some (.slice po' C'.procs.length pk') := (cell_of_row wp Bd 1 _ _ _ hbd).trans rfl
  have v1 : wp.cell? ⟨Bv, 1, none⟩ = some (.slice po C.procs.length pk) := (cell_of_row wp Bv 1 _ _ _ hbv).trans rfl
  have HF := hide hfr
  have HS := hide hst'
  have HPP := hide (own_fr HPO.out hfr (by decide) (.inl rfl))
  clear hfr hst' hob hbd hbv hfr0 HIS HKP HFR k0 k3 k4
  rcases hor with ⟨hne, rfl⟩ | ⟨h0, har⟩
  · have hsame : C' = C := HIM.out hne
    have HSM := hide hsame
    have HC1 := hide (fun most => HCE.out W wp.drew (.slice so C.list.length sk) (.slice po' C'.procs.length pk') er most so po' C.list.length C'.procs.length sk pk' rfl rfl hne)
    clear hne hsame HCO HCE
    go_wp2_with fail
    go_region_held3 (fun w' => w'.cell? ⟨B0, 3, none⟩ = some (.string s) ∧ w'.cell? ⟨B0, 4, none⟩ = some (.string t) ∧ w'.cell? ⟨Bv, 1, none⟩ = some (.slice po C.procs.length pk)) (go_keep)
      (first | (go_at_call 118; refine (HPB.out 0 _ wp.drew (show PRow wp.drew 0 _ C.procs from HPP.out)).mono ?_; rintro e wq ⟨rfl, rfl⟩))
    go_wp2_with fail
    refine (HC1.out _).mono ?_
    rintro e w9 ⟨rfl, hb9⟩
    have HFIN := hide (step_errC hsf HLAW.out hlast hpm hnc hnq hna hdk hds hpl HB1.out HBD.out HF.out (HSM.out ▸ HS.out) (below_undrew hb9))
    clear hb9 HC1
    have tt : (pl == pl) = true := by simp
    go_wp2_with fail
    go_ret
    exact HFIN.out
  · obtain ⟨hre, hno, hlen⟩ := HIR.out h0
    obtain ⟨hf1, hf2, hp0⟩ := HIF.out h0
    have hs8 : s.size ≤ 8 := by rw [size_list]; exact name_len _ hf1
    have ht4 : t.size ≤ 400 := by rw [size_list]; exact read_len _ hf2
    rw [← size_list, ← size_list] at hlen
    obtain ⟨d', hpd, hdk', hpre⟩ := pre_one (m := m) hdk hlast hsf hre hno (by omega) hds hm
    have hLd : L ≤ wd.heap.size := Nat.le_trans (Nat.le_trans HLAW.out.low HB1.out.size) HBD.out.size
    have hlens : lens [((1 : Int), f, Jn.record (Jn.installE s.data.toList t.data.toList))] = s.size + t.size + 4 := by simp [lens, Jn.record]; omega
    have hbx : Below L w wp.drew := Below.drew (below3 HLAW.out.low HB1.out HBD.out HF.out)
    have HC2 := hide (HCO.out wd.heap.size wp.drew C' d' (.slice so C.list.length sk) (.slice po' C'.procs.length pk') v _ (64 + 2 * ((s.size : Int) + t.size) + cb) (((((HLAW.out.below HB1.out).below HBD.out).fr HF.out (by simp)).mono (Nat.le_trans HB1.out.size HBD.out.size) (Nat.le_trans HB1.out.size HBD.out.size)).below (Below.drew (Below.refl _ _))) hLd HF.out.size
      (by rw [hcl]; have h := own_fr HCR2.out HF.out (by decide) (.inl rfl); exact h) (by have h := own_fr HPI.out HF.out (by decide) (.inl rfl); exact h) (HS.out.below (Below.drew (Below.refl _ _))) har (by simp) (by rw [hlens]; omega) (by rw [hlens]; omega) (by simp) hpd hdk' hpre hbx)
    have HBX := hide hbx
    subst h0
    clear har hre hno hlen hpd hdk' hpre hLd hbx HCO HCE hlens hf1 hf2
    go_wp2_with fail
    go_region_held3 (fun w' => w'.cell? ⟨B0, 3, none⟩ = some (.string s) ∧ w'.cell? ⟨B0, 4, none⟩ = some (.string t) ∧ w'.cell? ⟨Bv, 1, none⟩ = some (.slice po C.procs.length pk)) (go_keep)
      (first | (go_at_call 118; refine (HPB.out 0 _ wp.drew (show PRow wp.drew 0 _ C.procs from HPP.out)).mono ?_; rintro e wq ⟨rfl, rfl⟩))
    go_wp2_with fail
    refine HC2.out.mono ?_
    rintro e w9 ⟨rfl, hi9, hf9⟩
    have HFIN : Hid (StepPostC L W D m w (.returned (.bool true)) w9) := ⟨rfl, hi9, HBX.out.trans hf9.below⟩
    clear hi9 hf9 HC2
    have tt : (pl == pl) = true := by simp
    go_wp2_with fail
    go_ret
    exact HFIN.out
end Go.Proofs.YtellilpeakpbfabGreatDoor

end

section
/-
  The walk of World.procs: Drop.
-/
namespace Go.Proofs.YtellilpeakpbfabGreatDoor
open Go.RowKit

end Go.Proofs.YtellilpeakpbfabGreatDoor

end
