import Derived.Test.YtellilpeakpbfabGreatDoorMarkToo
import Derived.Test.YtellilpeakpbfabGreatDoorKeepPToo
section
/-
  The walk of Hold.keepActs.
-/
namespace Go.Proofs.YtellilpeakpbfabGreatDoor
open Go.RowKit

theorem Tryz.infoAct : (Tryz.prog.info? 84).map (fun i => (i.zero, i.size, i.bytes)) = some (some (.agg #[.int .i64 0, .int .i64 0, .string ⟨#[]⟩]), 3, 32) := by kernel_rfl
theorem Tryz.infoSA : (Tryz.prog.info? 27).map (fun i => (i.zero, i.size, i.bytes)) = some (some (.slice none 0 0), 1, 24) := by kernel_rfl

/-- one list more is kept: the World's field is laid anew. -/
theorem Ka_push (L W : Nat) (w w9 : World) (vx vd vp vc vq va : Value) (hW : WAt w W vx vd vp vc vq va) (hLW : L ≤ W) (o : Obj) (n : Nat) (ls ls' : List Value) (v' : Value)
    (hrow : w.ownsRow L 27 1 va n ls) (hL : L ≤ w.heap.size) (hown : w9.ownsRow L 27 1 v' (n + 1) ls') (hg : (w.alloc o).grownBy w9 va.ownBlock) :
    WAt w9 W vx vd vp vc vq va ∧ WAt (w9.setCell ⟨W, 5, none⟩ v') W vx vd vp vc vq v' ∧ (w9.setCell ⟨W, 5, none⟩ v').ownsRow L 27 1 v' (n + 1) ls' ∧ Fr L [115, 27] none w (w9.setCell ⟨W, 5, none⟩ v') := by
  have hneW : some W ≠ va.ownBlock := by
    intro e
    rcases hrow.2 with ⟨rfl, _⟩ | ⟨g, cap, cur, rfl, hb, hh, _⟩
    · simp [Value.ownBlock] at e
    · simp [Value.ownBlock] at e
      subst e
      rw [show w.heap[W]? = _ from hW] at hh
      simp at hh
  have f1 : Fr L [115, 27] none w (w.alloc o) := Fr.of ((Below.refl _ _).alloc (Nat.le_refl _) _) hL
  have f2 : Fr L [115, 27] none (w.alloc o) w9 := by
    refine (fr_grown hg (by simp; omega) (fun k hk => (hrow.lt k hk).1)).typed (fun k hk => ?_) none
    rcases hrow.2 with ⟨rfl, _⟩ | ⟨g, cap, cur, rfl, hb, hh, _⟩
    · simp [Value.ownBlock] at hk
    · simp [Value.ownBlock] at hk
      subst hk
      exact ⟨cur, _, _, (Below.heap_alloc _ _ _ (Array.getElem?_eq_some_iff.1 hh).1).trans hh, by simp⟩
  have hW9 : WAt w9 W vx vd vp vc vq va := by
    show w9.heap[W]? = _
    rw [hg.block W (by simp; exact Nat.lt_succ_of_lt hW.lt) hneW, Below.heap_alloc _ _ _ hW.lt]
    exact hW
  have f3 : Fr L [115, 27] none w9 (w9.setCell ⟨W, 5, none⟩ v') :=
    (fr_setCell w9 W 5 v' hLW).typed (fun k hk => by cases hk; exact ⟨_, _, _, hW9, by simp⟩) none
  refine ⟨hW9, wat_set hW9 5 v', ?_, (f1.trans f2).trans f3⟩
  refine own_fr hown (fr_setCell (T := []) w9 W 5 v' hLW) (by simp) (.inr ?_)
  intro e
  rcases hown.2 with ⟨rfl, h0⟩ | ⟨g, cap, cur, rfl, hb, hh, _⟩
  · omega
  · simp [Value.ownBlock] at e
    subst e
    rw [show w9.heap[W]? = _ from hW9] at hh
    simp at hh

def KaRel (L N : Nat) (m : List Value) (v : Value) (n : Nat) (w1 : World) (i : Value) (wr : World) : Prop :=
  ∃ (k : Nat) (xs : List Value), k ≤ n ∧ i = .int .i64 k ∧ wr.ownsRow N 84 3 v n xs ∧ (∀ j, j < k * 3 → xs[j]? = m[j % 3]?) ∧ Fr L [] v.ownBlock w1 wr

set_option maxHeartbeats 4000000 in
set_option maxRecDepth 100000 in
theorem keepActs_any (L N W : Nat) (w : World) (vx vd vp vc vq va : Value) (ls : List Value) (v : Value) (n : Nat) (xs : List Value)
    (hW : WAt w W vx vd vp vc vq va) (hLW : L ≤ W) (hh : HoldRow L N w 84 27 mkA va ls) (hrow : w.ownsRow N 84 3 v n xs) (hn : n ≤ 1000) (hLN : L ≤ N) (hN : N ≤ w.heap.size)
    (hb : (ls.length + 3) * 24 ≤ 140737488355328) :
    Calls Tryz.prog 105 #[.pointer (some ⟨W, 3, none⟩), v] w fun e w' => ∃ v' ls', e = .returned (.tuple #[]) ∧ WAt w' W vx vd vp vc vq v' ∧ HoldRow L w'.heap.size w' 84 27 mkA v' ls' ∧ ls'.length = ls.length + 3 ∧ Fr L [115, 27] v.ownBlock w w' := by
  obtain ⟨ao, cap, rfl, hnm, hg⟩ := own_slice hrow
  obtain ⟨sao, scap, hvs, -, -⟩ := own_slice hh.row
  have c3 := hW.cell
  have z3 := hW.fz 5
  have hlt := hW.lt
  have hsm : ls.length / 3 + 1 ≤ 9000000000000 := by omega
  obtain ⟨q, hq⟩ : ∃ q : Nat, q = ls.length / 3 + 1 := ⟨_, rfl⟩
  have hqz : ((ls.length : Int) / 3 + 1) = (q : Int) := by rw [hq]; omega
  obtain ⟨i0, hi, hz0, hz1, hz2⟩ := info_parts Tryz.infoAct
  obtain ⟨j0, hj, hy0, hy1, hy2⟩ := info_parts Tryz.infoSA
  subst hvs
  have c3 : w.cell? ⟨W, 5, none⟩ = some (.slice sao ls.length scap) := hW.cell.2.2.2.2.2
  have HW := hide hW
  have HH := hide hh
  have HR := hide hrow
  have HG := hide hg
  have HQ := hide hq

  clear hW hh hrow hg hq
  obtain ⟨B0, hB0⟩ : ∃ B0, B0 = w.heap.size := ⟨_, rfl⟩
  obtain ⟨w1, hw1⟩ : ∃ w1, w1 = w.alloc (.cells #[.int .i64 (q : Int), .int .i64 0, .string ⟨#[]⟩] 84) := ⟨_, rfl⟩
  have HB1 : Hid (Below w.heap.size w w1) := by show Below _ _ _; rw [hw1]; exact (Below.refl _ _).alloc (Nat.le_refl _) _
  have hsz1 : w1.heap.size = B0 + 1 := by rw [hw1, hB0]; simp
  have hmb : w1.heap[B0]? = some (.cells #[.int .i64 (q : Int), .int .i64 0, .string ⟨#[]⟩] 84 (0, 0)) := by rw [hw1, hB0]; exact heap_alloc_new w _
  go_enter Tryz.func105, Tryz.ntmps105
  go_wp2
  rw [← hw1, ← hB0]
  have HW1 := hide hw1
  have HMB := hide hmb
  have HB0 := hide hB0
  clear hw1 hmb hB0
  have m0 : w1.cell? ⟨B0, 0, none⟩ = some (.int .i64 (q : Int)) := (cell_of_row w1 B0 0 _ _ _ HMB.out).trans rfl
  have m1 : w1.cell? ⟨B0, 1, none⟩ = some (.int .i64 0) := (cell_of_row w1 B0 1 _ _ _ HMB.out).trans rfl
  have m2 : w1.cell? ⟨B0, 2, none⟩ = some (.string ⟨#[]⟩) := (cell_of_row w1 B0 2 _ _ _ HMB.out).trans rfl
  have HBW : Hid (Below w.heap.size w w1) := HB1.out
  have hBw : w.heap.size ≤ B0 := Nat.le_of_eq HB0.out.symm
  go_loopw [5] (fun i wr => KaRel L N (mkA q) (.slice ao n cap) n w1 i wr) (fun i _ => n - (intOf i).toNat)
  case atStart => exact ⟨0, xs, Nat.zero_le _, rfl, ownsRow_below HR.out HBW.out, fun j hj => by omega, Fr.refl _ _ _ _⟩
  case round =>
    obtain ⟨k, ys, hk, rfl, hown, hmk, hfr⟩ := hrel
    have HO := hide hown
    have HM := hide hmk
    have HF := hide hfr
    clear hown hmk hfr
    by_cases hlk : k < n
    · obtain ⟨g, rfl, hgN⟩ := HG.out (by omega)
      obtain ⟨u0, d0, e0⟩ := own_cell HO.out (k * 3) (by omega)
      obtain ⟨u1, d1, e1⟩ := own_cell HO.out (k * 3 + 1) (by omega)
      obtain ⟨u2, d2, e2⟩ := own_cell HO.out (k * 3 + 2) (by omega)
      have hgl : g < w.heap.size := (HR.out.lt g rfl).2
      have hmb := HF.out.block B0 _ _ _ HMB.out (by simp) (by simp [Value.ownBlock]; omega)
      have n0 : wr.cell? ⟨B0, 0, none⟩ = some (.int .i64 (q : Int)) := (cell_of_row wr B0 0 _ _ _ hmb).trans rfl
      have n1 : wr.cell? ⟨B0, 1, none⟩ = some (.int .i64 0) := (cell_of_row wr B0 1 _ _ _ hmb).trans rfl
      have n2 : wr.cell? ⟨B0, 2, none⟩ = some (.string ⟨#[]⟩) := (cell_of_row wr B0 2 _ _ _ hmb).trans rfl
      have hyl : ys.length = n * 3 := HO.out.1
      have HR2 : Hid (KaRel L N (mkA q) (.slice (some ⟨g, 0, none⟩) n cap) n w1 (.int .i64 ((k : Int) + 1)) ((((((wr).setCell ⟨g, k * 3, none⟩ (.int .i64 (q : Int)))).setCell ⟨g, k * 3 + 1, none⟩ (.int .i64 0))).setCell ⟨g, k * 3 + 2, none⟩ (.string ⟨#[]⟩))) := by
        refine ⟨k + 1, _, by omega, by go_num, (own_set (own_set (own_set HO.out (k * 3) _) (k * 3 + 1) _) (k * 3 + 2) _), set3_at (by omega) HM.out, ?_⟩
        exact (((HF.out.trans (fr_setCell _ g (k * 3) _ (by omega))).trans (fr_setCell _ g (k * 3 + 1) _ (by omega))).trans (fr_setCell _ g (k * 3 + 2) _ (by omega)))
      clear hmb hyl
      go_wp2
      go_roundw
      case rel => exact HR2.out
      case measure => simp [intOf]; omega
    · have hke : k = n := by omega
      subst hke
      have hfull : Full wr N 84 (mkA q) (.slice ao k cap) k := by
        have := rep_of (m := mkA q) (n := k) HO.out.1 HM.out
        unfold Full
        rw [← this]
        exact HO.out
      have hXB : (Value.slice ao k cap).ownBlock ≠ some B0 := fun e => by
        have := (HR.out.lt B0 e).2; omega
      have hXN : ∀ j, (Value.slice ao k cap).ownBlock = some j → N ≤ j ∧ j < w.heap.size := fun j hj => HR.out.lt j hj
      have hmb := HF.out.block B0 _ _ _ HMB.out (by simp) hXB
      have n0 : wr.cell? ⟨B0, 0, none⟩ = some (.int .i64 (q : Int)) := (cell_of_row wr B0 0 _ _ _ hmb).trans rfl
      have n1 : wr.cell? ⟨B0, 1, none⟩ = some (.int .i64 0) := (cell_of_row wr B0 1 _ _ _ hmb).trans rfl
      have n2 : wr.cell? ⟨B0, 2, none⟩ = some (.string ⟨#[]⟩) := (cell_of_row wr B0 2 _ _ _ hmb).trans rfl
      have hzr := HF.out.size
      have HFU := hide hfull
      have HMB2 := hide hmb
      have HXB := hide hXB
      have HXN := hide hXN
      clear hfull hmb hXB hXN HO HM
      go_wp2_with (at_builtin; refine wpList_append_marks _ rfl (.tmp 26) (.tmp 28) 27 rfl N 84 i0 (.agg #[.int .i64 0, .int .i64 0, .string ⟨#[]⟩]) 32 (mkA q) Tryz.underlying27 hi hz0 hz1 hz2 rfl _ k rfl (World.ownsRow.alloc HFU.out _) ⟨_, 0, none⟩ 1 1 (by omega) rfl ?c1 ?c2 ?c3 ?c4 ?c5 ?_)
      case c1 => exact fun j u h => cells_new _ #[.int .i64 (q : Int), .int .i64 0, .string ⟨#[]⟩] _ j u h
      case c2 => intro u hu; simp [mkA] at hu; rcases hu with rfl | rfl | rfl <;> rfl
      case c3 => unfold maxLen; omega
      case c4 => omega
      case c5 => simp; omega
      intro f w7 hf7 hg7 hk7 hb7
      have F7 : Fr L [] (Value.slice ao k cap).ownBlock w1 w7 := (HF.out.trans (Fr.of ((Below.refl _ _).alloc (Nat.le_refl _) _) (by omega))).trans (fr_grown hg7 (by simp; omega) (fun j hj => Nat.le_trans hLN (HXN.out j hj).1))
      have hmb := F7.block B0 _ _ _ HMB.out (by simp) HXB.out
      have o0 : w7.cell? ⟨B0, 0, none⟩ = some (.int .i64 (q : Int)) := (cell_of_row w7 B0 0 _ _ _ hmb).trans rfl
      have o1 : w7.cell? ⟨B0, 1, none⟩ = some (.int .i64 0) := (cell_of_row w7 B0 1 _ _ _ hmb).trans rfl
      have o2 : w7.cell? ⟨B0, 2, none⟩ = some (.string ⟨#[]⟩) := (cell_of_row w7 B0 2 _ _ _ hmb).trans rfl
      have L7 := hk7 N _ k (World.ownsRow.alloc HFU.out _)
      have hz7 := F7.size
      have hb7' : ∀ j, f.ownBlock = some j → (Value.slice ao k cap).ownBlock = some j ∨ w1.heap.size ≤ j := fun j hj => by
        rcases hb7 j hj with h | h
        · exact .inl h
        · first | (simp at h; exact .inr (by omega)) | exact .inr (by omega)
      have HF7 := hide F7
      have HL7 := hide L7
      have HFF7 := hide hf7
      have HB7 := hide hb7'
      clear F7 L7 hf7 hg7 hk7 hb7 hb7' HF HFU HMB2 n0 n1 n2 hmb
      go_wp2_with (at_builtin; refine wpList_append_marks _ rfl (.tmp 30) (.tmp 34) 27 rfl N 84 i0 (.agg #[.int .i64 0, .int .i64 0, .string ⟨#[]⟩]) 32 (mkA q) Tryz.underlying27 hi hz0 hz1 hz2 rfl _ k rfl (World.ownsRow.alloc HL7.out _) ⟨_, 0, none⟩ 3 3 (by omega) rfl ?c1 ?c2 ?c3 ?c4 ?c5 ?_)
      case c1 => exact fun j u h => cells_new _ #[.int .i64 (q : Int), .int .i64 0, .string ⟨#[]⟩, .int .i64 (q : Int), .int .i64 0, .string ⟨#[]⟩, .int .i64 (q : Int), .int .i64 0, .string ⟨#[]⟩] _ j u h
      case c2 => intro u hu; simp [mkA] at hu; rcases hu with rfl | rfl | rfl <;> rfl
      case c3 => unfold maxLen; omega
      case c4 => omega
      case c5 => simp; omega
      intro gg w8 hf8 hg8 hk8 hb8
      have F8 : Fr L [] (Value.slice ao k cap).ownBlock w1 w8 := (HF7.out.trans (Fr.of ((Below.refl _ _).alloc (Nat.le_refl _) _) (by omega))).trans (fr_grown hg8 (by simp; omega) (fun j hj => Nat.le_trans hLN (HXN.out j hj).1))
      have hz8 := F8.size
      have l8 := hk8 N _ k (World.ownsRow.alloc HL7.out _)
      have f8 := hk8 N _ (k + 1) (World.ownsRow.alloc HFF7.out _)
      have FW8 : Fr L [] (Value.slice ao k cap).ownBlock w w8 := (Fr.of HBW.out (by omega)).trans F8
      have W8 := HW.out.fr FW8 (by simp) (own_neB HR.out HW.out (by decide))
      have H8 := HH.out.fr FW8 (by simp) (by simp) (fun j hj => (HXN.out j hj).1) (own_ne HR.out HH.out.row (by decide))
      obtain ⟨fao, fcap, rfl, -, -⟩ := own_slice f8
      obtain ⟨gao, gcap, rfl, -, -⟩ := own_slice hf8
      have c8 : w8.cell? ⟨W, 5, none⟩ = some (.slice sao ls.length scap) := W8.cell.2.2.2.2.2
      have own8 := H8.row
      have HW8 := hide W8
      have HH8 := hide H8
      have HO8 := hide own8
      have HFW8 := hide FW8
      have HL8 := hide l8
      have HF8 := hide f8
      have HG8 := hide hf8
      clear W8 H8 own8 F8 FW8 l8 f8 hf8 hg8 hk8 hb8 HF7 HL7 HFF7 HB7 o0 o1 o2 m0 m1 m2 c3 z3
      have hLz : L ≤ w8.heap.size := by omega
      go_wp2_with (at_builtin; refine wpList_append_own _ rfl (.tmp 40) (.tmp 42) 111 rfl L 27 j0 (.slice none 0 0) 1 24 Tryz.underlying111 hj hy0 hy1 hy2 rfl (by decide) _ _ _ rfl (HO8.out.alloc _) ⟨_, 0, none⟩ 1 1 [.slice ao k cap] rfl rfl ?c1 ?c2 ?c3 ?c4 ?c5 ?_)
      case c1 => exact fun j u h => cells_new _ #[.slice ao k cap] _ j u h
      case c2 => intro u hu; simp at hu; subst hu; rfl
      case c3 => exact (bd3 hb).2.2.2.1
      case c4 => exact (bd3 hb).1
      case c5 => rw [World.size_alloc]; exact up1 hLz (Nat.le_refl _)
      intro v9 w9 hown9 hg9 _
      obtain ⟨W9, X9, own9, F9⟩ := Ka_push L W w8 w9 _ _ _ _ _ _ HW8.out hLW _ _ _ _ v9 HO8.out (by omega) hown9 hg9
      obtain ⟨ao9, cap9, rfl, -, -⟩ := own_slice hown9
      have c9 : w9.cell? ⟨W, 5, none⟩ = some (.slice sao ls.length scap) := W9.cell.2.2.2.2.2
      have z9 := W9.fz 5
      have HX9 := hide X9
      have HO9 := hide own9
      have HF9 := hide F9
      have hz9 : w8.heap.size ≤ w9.heap.size := by have := F9.size; simpa using this
      clear W9 X9 own9 F9 hown9 hg9
      go_wp2_with (at_builtin; refine wpList_append_own _ rfl (.tmp 50) (.tmp 52) 111 rfl L 27 j0 (.slice none 0 0) 1 24 Tryz.underlying111 hj hy0 hy1 hy2 rfl (by decide) _ _ _ rfl (HO9.out.alloc _) ⟨_, 0, none⟩ 1 1 [.slice fao (k + 1) fcap] rfl rfl ?c1 ?c2 ?c3 ?c4 ?c5 ?_)
      case c1 => exact fun j u h => cells_newN (by simp) #[.slice fao (k + 1) fcap] _ j u h
      case c2 => intro u hu; simp at hu; subst hu; rfl
      case c3 => exact (bd3 hb).2.2.2.2.1
      case c4 => exact (bd3 hb).2.1
      case c5 => rw [World.size_alloc, World.size_setCell]; exact up1 hLz hz9
      intro v11 w11 hown11 hg11 _
      obtain ⟨W11, X11, own11, F11⟩ := Ka_push L W _ w11 _ _ _ _ _ _ HX9.out hLW _ _ _ _ v11 HO9.out (by rw [World.size_setCell]; exact Nat.le_trans hLz hz9) hown11 hg11
      obtain ⟨ao11, cap11, rfl, -, -⟩ := own_slice hown11
      have c11 : w11.cell? ⟨W, 5, none⟩ = some (.slice ao9 (ls.length + 1) cap9) := W11.cell.2.2.2.2.2
      have z11 := W11.fz 5
      have HX11 := hide X11
      have HO11 := hide own11
      have HF11 := hide F11
      have hz11 : w9.heap.size ≤ w11.heap.size := by have := F11.size; simpa using this
      clear W11 X11 own11 F11 hown11 hg11
      go_wp2_with (at_builtin; refine wpList_append_own _ rfl (.tmp 60) (.tmp 62) 111 rfl L 27 j0 (.slice none 0 0) 1 24 Tryz.underlying111 hj hy0 hy1 hy2 rfl (by decide) _ _ _ rfl (HO11.out.alloc _) ⟨_, 0, none⟩ 1 1 [.slice gao (k + 3) gcap] rfl rfl ?c1 ?c2 ?c3 ?c4 ?c5 ?_)
      case c1 => exact fun j u h => cells_newN (by simp) #[.slice gao (k + 3) gcap] _ j u h
      case c2 => intro u hu; simp at hu; subst hu; rfl
      case c3 => exact (bd3 hb).2.2.2.2.2
      case c4 => exact (bd3 hb).2.2.1
      case c5 => rw [World.size_alloc, World.size_setCell]; exact up1 hLz (Nat.le_trans hz9 hz11)
      intro v13 w13 hown13 hg13 _
      obtain ⟨W13, X13, own13, F13⟩ := Ka_push L W _ w13 _ _ _ _ _ _ HX11.out hLW _ _ _ _ v13 HO11.out (by rw [World.size_setCell]; exact Nat.le_trans hLz (Nat.le_trans hz9 hz11)) hown13 hg13
      obtain ⟨ao13, cap13, rfl, -, -⟩ := own_slice hown13
      have c13 : w13.cell? ⟨W, 5, none⟩ = some (.slice ao11 (ls.length + 2) cap11) := W13.cell.2.2.2.2.2
      have z13 := W13.fz 5
      have HX13 := hide X13
      have HO13 := hide own13
      have HF13 := hide F13
      have hz13 : w11.heap.size ≤ w13.heap.size := by have := F13.size; simpa using this
      clear W13 X13 own13 F13 hown13 hg13
      go_wp2
      go_end0
      have Ft : Fr L [115, 27] none w8 (w13.setCell ⟨W, 5, none⟩ (.slice ao13 (ls.length + 3) cap13)) := (HF9.out.trans HF11.out).trans HF13.out
      refine ⟨_, ls ++ [.slice ao k cap, .slice fao (k + 1) fcap, .slice gao (k + 3) gcap], rfl, HX13.out, ⟨?_, ?_, ?_⟩, by simp, (HFW8.out.wide (by simp)).trans Ft.any⟩
      · have e : (ls ++ [Value.slice ao k cap, Value.slice fao (k + 1) fcap, Value.slice gao (k + 3) gcap]).length = ls.length + 3 := by simp
        rw [e]
        exact HO13.out
      · have := HH.out.three
        simp; omega
      · intro i u hu
        have h3 := HH.out.three
        have hq := HQ.out
        have hsz : w8.heap.size ≤ w13.heap.size := Nat.le_trans (Nat.le_trans hz9 hz11) hz13
        have hnew : ∀ y ny, Full w8 N 84 (mkA q) y ny → i / 3 + 1 = q → ∃ n, Full (w13.setCell ⟨W, 5, none⟩ (.slice ao13 (ls.length + 3) cap13)) 0 84 (mkA (i / 3 + 1)) y n ∧ (∀ j, y.ownBlock = some j → j < (w13.setCell ⟨W, 5, none⟩ (.slice ao13 (ls.length + 3) cap13)).heap.size) := by
          intro y ny hy hiq
          rw [hiq]
          
          refine ⟨ny, ownsRow_base (own_fr hy Ft (by decide) (.inl rfl)) (Nat.zero_le _), fun j hj => by rw [World.size_setCell]; exact Nat.lt_of_lt_of_le (hy.lt j hj).2 hsz⟩
        by_cases hil : i < ls.length
        · rw [List.getElem?_append_left hil] at hu
          obtain ⟨n1, g1, g2⟩ := HH8.out.full i u hu
          exact ⟨n1, own_fr g1 Ft (by decide) (.inl rfl), fun j hj => by rw [World.size_setCell]; have := g2 j hj; omega⟩
        · rw [List.getElem?_append_right (by omega)] at hu
          obtain ⟨r, hr⟩ : ∃ r, r = i - ls.length := ⟨_, rfl⟩
          rw [← hr] at hu
          match r, hr, hu with
          | 0, hr, hu => simp at hu; subst hu; exact hnew _ _ HL8.out (by omega)
          | 1, hr, hu => simp at hu; subst hu; exact hnew _ _ HF8.out (by omega)
          | 2, hr, hu => simp at hu; subst hu; exact hnew _ _ HG8.out (by omega)
          | r + 3, hr, hu => simp at hu
end Go.Proofs.YtellilpeakpbfabGreatDoor

end

section
/-
  The walk of Hold.still.
-/
namespace Go.Proofs.YtellilpeakpbfabGreatDoor
open Go.RowKit

theorem hold_shape {L N : Nat} {w : World} {e sl : TypeId} {mk : Nat → List Value} {vs : Value} {ls : List Value} {s : Nat} (h : HoldRow L N w e sl mk vs ls) (hs : ∀ i, (mk i).length = s) :
    ∃ ao cap, vs = .slice ao ls.length cap ∧ (0 < ls.length → ∃ g0, ao = some ⟨g0, 0, none⟩ ∧ g0 < w.heap.size ∧ ∀ i, i < ls.length → ∃ uo n ucap, w.cell? ⟨g0, i, none⟩ = some (.slice uo n ucap) ∧ n ≤ maxLen ∧
      (0 < n → ∃ g, uo = some ⟨g, 0, none⟩ ∧ g < w.heap.size ∧ ∀ j, j < n * s → w.cell? ⟨g, j, none⟩ = (mk (i / 3 + 1))[j % s]?)) := by
  obtain ⟨ao, cap, hv, -, hg⟩ := own_slice h.row
  refine ⟨ao, cap, hv, fun hp => ?_⟩
  obtain ⟨g0, hao, -⟩ := hg hp
  subst hao
  refine ⟨g0, rfl, (h.row.lt g0 (by rw [hv]; rfl)).2, fun i hi => ?_⟩
  obtain ⟨n, hf, -⟩ := h.full i ls[i] (by simp [hi])
  obtain ⟨uo, ucap, hu, hm, hgu⟩ := own_slice hf
  refine ⟨uo, n, ucap, ?_, hm, fun hn => ?_⟩
  · have := h.row.cells (g := g0) (by rw [hv]; rfl) i ls[i] (by simp [hi])
    simp only [Addr.add_lit, Nat.zero_add] at this
    rw [this, hu]
  · obtain ⟨g, hgo, -⟩ := hgu hn
    subst hgo
    refine ⟨g, rfl, (hf.lt g (by rw [hu]; rfl)).2, fun j hj => ?_⟩
    have hr := rep_at (mk (i / 3 + 1)) n j (by rw [hs]; exact hj)
    rw [hs] at hr
    have hjl : j < (rep (mk (i / 3 + 1)) n).length := by rw [rep_len, hs]; exact hj
    have := hf.cells (g := g) (by rw [hu]; rfl) j _ (List.getElem?_eq_getElem hjl)
    simp only [Addr.add_lit, Nat.zero_add] at this
    rw [this, ← hr, List.getElem?_eq_getElem hjl]

def StlRel (n : Nat) (w : World) (i : Value) (wr : World) : Prop := ∃ k : Nat, k ≤ n ∧ i = .int .i64 k ∧ Below w.heap.size w wr

set_option maxHeartbeats 8000000 in
set_option maxRecDepth 100000 in
theorem still_any (L N W : Nat) (w : World) (vx vd vp vc vq va : Value) (lc lq la : List Value)
    (hW : WAt w W vx vd vp vc vq va) (hc : HoldRow L N w 99 52 mkC vc lc) (hq : HoldRow L N w 89 54 mkP vq lq) (ha : HoldRow L N w 84 27 mkA va la)
    (bc : lc.length ≤ 9000000000000) (bq : lq.length ≤ 9000000000000) (ba : la.length ≤ 9000000000000) :
    Calls Tryz.prog 52 #[.pointer (some ⟨W, 3, none⟩)] w fun e w' => e = .returned (.bool true) ∧ Below w.heap.size w w' := by
  obtain ⟨co, ccap, rfl, hC⟩ := hold_shape (s := 2) hc (fun _ => rfl)
  obtain ⟨qo, qcap, rfl, hQ⟩ := hold_shape (s := 2) hq (fun _ => rfl)
  obtain ⟨aao, acap, rfl, hA⟩ := hold_shape (s := 3) ha (fun _ => rfl)
  obtain ⟨-, -, -, c3, c4, c5⟩ := hW.cell
  have hlt := hW.lt
  have HC := hide hC
  have HQ := hide hQ
  have HA := hide hA
  clear hC hQ hA hc hq ha hW
  go_enter Tryz.func52, Tryz.ntmps52
  go_wp2
  go_loop [3] (fun i => ∃ k : Nat, k ≤ lc.length ∧ i = .int .i64 k) (fun i => lc.length - (intOf i).toNat)
  case atStart => exact ⟨0, Nat.zero_le _, rfl⟩
  case round =>
    obtain ⟨i, hi, rfl⟩ := hrel
    by_cases hil : i < lc.length
    · obtain ⟨g0, rfl, hg0, hrow⟩ := HC.out (by omega)
      obtain ⟨uo, n, ucap, hcell, hnm, hin⟩ := hrow i hil
      obtain ⟨q, hq⟩ : ∃ q : Nat, q = i / 3 + 1 := ⟨_, rfl⟩
      have hqz : ((i : Int) / 3 + 1) = (q : Int) := by rw [hq]; omega
      rw [← hq] at hin
      have HI := hide hin
      unfold maxLen at hnm
      clear hrow hin hq
      go_wp2
      go_loop [4] (fun i => ∃ k : Nat, k ≤ n ∧ i = .int .i64 k) (fun i => n - (intOf i).toNat)
      case atStart => exact ⟨0, Nat.zero_le _, rfl⟩
      case round =>
        obtain ⟨k, hk, rfl⟩ := hrel
        by_cases hkl : k < n
        · obtain ⟨g, rfl, hg, hcs⟩ := HI.out (by omega)
          have d0 : w.cell? ⟨g, k * 2, none⟩ = some (.int .i64 (q : Int)) := by rw [hcs (k * 2) (by omega), show k * 2 % 2 = 0 by omega]; rfl
          have d1 : w.cell? ⟨g, k * 2 + 1, none⟩ = some (.int .i64 0) := by rw [hcs (k * 2 + 1) (by omega), show (k * 2 + 1) % 2 = 1 by omega]; rfl
          clear hcs
          go_wp2
          go_round
          case rel => exact ⟨k + 1, by omega, by go_num⟩
          case measure => simp [intOf]; omega
        · go_wp2
          go_round
          case rel => exact ⟨i + 1, by omega, by go_num⟩
          case measure => simp [intOf]; omega
    · clear HC
      go_wp2
      go_loopw [5] (fun i wr => StlRel lq.length w i wr) (fun i _ => lq.length - (intOf i).toNat)
      case atStart => exact ⟨0, Nat.zero_le _, rfl, Below.refl _ _⟩
      case round =>
        obtain ⟨i2, hi2, rfl, hbel⟩ := hrel
        have e3 := at_old hbel c3
        have e4 := at_old hbel c4
        have e5 := at_old hbel c5
        have HB := hide hbel
        have hz := hbel.size
        clear hbel
        by_cases hil2 : i2 < lq.length
        · obtain ⟨g0, rfl, hg0, hrow⟩ := HQ.out (by omega)
          obtain ⟨uo, n, ucap, hcell, hnm, hin⟩ := hrow i2 hil2
          obtain ⟨q, hq⟩ : ∃ q : Nat, q = i2 / 3 + 1 := ⟨_, rfl⟩
          have hqz : ((i2 : Int) / 3 + 1) = (q : Int) := by rw [hq]; omega
          have hq9 : q ≤ 9000000000000 := by omega
          rw [← hq] at hin
          have HI := hide hin
          have HMK := hide (fun w => mark_any q hq9 w)
          have hcw := at_old HB.out hcell
          unfold maxLen at hnm
          clear hrow hin hq hcell
          go_wp2_with fail
          refine (HMK.out _).mono ?_
          rintro e w1 ⟨X, rfl, hX, hXs, hb1⟩
          obtain ⟨w2, hw2⟩ : ∃ w2, w2 = w1.alloc (.cells #[.string X, .string ⟨#[]⟩] 89) := ⟨_, rfl⟩
          obtain ⟨B0, hB0⟩ : ∃ B0, B0 = w1.heap.size := ⟨_, rfl⟩
          have HB2 : Hid (Below w.heap.size w w2) := by
            show Below _ _ _
            rw [hw2]
            exact (HB.out.trans (hb1.mono HB.out.size)).alloc (by have := hb1.size; omega) _
          have k3 := at_old HB2.out c3
          have k4 := at_old HB2.out c4
          have k5 := at_old HB2.out c5
          have n0 : w2.cell? ⟨B0, 0, none⟩ = some (.string X) := by rw [hw2, hB0]; simp
          have n1 : w2.cell? ⟨B0, 1, none⟩ = some (.string ⟨#[]⟩) := by rw [hw2, hB0]; simp
          have hcw2 : w2.cell? ⟨g0, i2, none⟩ = some (.slice uo n ucap) := by
            rw [hw2]
            exact at_old ((Below.refl _ _).alloc (Nat.le_refl _) _) (at_old hb1 hcw)
          have HX := hide hX
          clear hX hb1 hcw e3 e4 e5
          go_wp2
          rw [← hw2, ← hB0]
          have HW2 := hide hw2
          have HB0 := hide hB0
          clear hw2 hB0
          go_loopw [7] (fun i wr => StlRel n w2 i wr) (fun i _ => n - (intOf i).toNat)
          case atStart => exact ⟨0, Nat.zero_le _, rfl, Below.refl _ _⟩
          case round =>
            obtain ⟨k, hk, rfl, hbel3⟩ := hrel
            have l3 := at_old hbel3 k3
            have l4 := at_old hbel3 k4
            have l5 := at_old hbel3 k5
            have p0 := at_old hbel3 n0
            have p1 := at_old hbel3 n1
            have hcw3 := at_old hbel3 hcw2
            have HB3 := hide hbel3
            clear hbel3
            by_cases hkl : k < n
            · obtain ⟨g, rfl, hg, hcs⟩ := HI.out (by omega)
              have d0 : w.cell? ⟨g, k * 2, none⟩ = some (.string X) := by rw [hcs (k * 2) (by omega), show k * 2 % 2 = 0 by omega, ← mkP_of HX.out]; rfl
              have d1 : w.cell? ⟨g, k * 2 + 1, none⟩ = some (.string ⟨#[]⟩) := by rw [hcs (k * 2 + 1) (by omega), show (k * 2 + 1) % 2 = 1 by omega, ← mkP_of HX.out]; rfl
              have d0' := at_old HB3.out (at_old HB2.out d0)
              have d1' := at_old HB3.out (at_old HB2.out d1)
              clear hcs d0 d1
              go_wp2
              go_quiet (fail)
              go_wp2
              go_roundw
              case rel => exact ⟨k + 1, by omega, by go_num, below_drewN HB3.out _⟩
              case measure => simp [intOf]; omega
            · have HB4 : Hid (Below w.heap.size w wr) := HB2.out.trans (HB3.out.mono HB2.out.size)
              go_wp2
              go_roundw
              case rel => exact ⟨i2 + 1, by omega, by go_num, HB4.out⟩
              case measure => simp [intOf]; omega
        · clear HQ c3 c4 c5
          go_wp2
          go_loop [8] (fun i => ∃ k : Nat, k ≤ la.length ∧ i = .int .i64 k) (fun i => la.length - (intOf i).toNat)
          case atStart => exact ⟨0, Nat.zero_le _, rfl⟩
          case round =>
            obtain ⟨i3, hi3, rfl⟩ := hrel
            by_cases hil3 : i3 < la.length
            · obtain ⟨g0, rfl, hg0, hrow⟩ := HA.out (by omega)
              obtain ⟨uo, n, ucap, hcell, hnm, hin⟩ := hrow i3 hil3
              obtain ⟨q, hq⟩ : ∃ q : Nat, q = i3 / 3 + 1 := ⟨_, rfl⟩
              have hqz : ((i3 : Int) / 3 + 1) = (q : Int) := by rw [hq]; omega
              rw [← hq] at hin
              have HI := hide hin
              have hcw := at_old HB.out hcell
              unfold maxLen at hnm
              clear hrow hin hq hcell
              go_wp2
              go_loop [9] (fun i => ∃ k : Nat, k ≤ n ∧ i = .int .i64 k) (fun i => n - (intOf i).toNat)
              case atStart => exact ⟨0, Nat.zero_le _, rfl⟩
              case round =>
                obtain ⟨k, hk, rfl⟩ := hrel
                by_cases hkl : k < n
                · obtain ⟨g, rfl, hg, hcs⟩ := HI.out (by omega)
                  have d0 : w.cell? ⟨g, k * 3, none⟩ = some (.int .i64 (q : Int)) := by rw [hcs (k * 3) (by omega), show k * 3 % 3 = 0 by omega]; rfl
                  have d1 : w.cell? ⟨g, k * 3 + 1, none⟩ = some (.int .i64 0) := by rw [hcs (k * 3 + 1) (by omega), show (k * 3 + 1) % 3 = 1 by omega]; rfl
                  have d2 : w.cell? ⟨g, k * 3 + 2, none⟩ = some (.string ⟨#[]⟩) := by rw [hcs (k * 3 + 2) (by omega), show (k * 3 + 2) % 3 = 2 by omega]; rfl
                  have f0 := at_old HB.out d0
                  have f1 := at_old HB.out d1
                  have f2 := at_old HB.out d2
                  clear hcs d0 d1 d2
                  go_wp2
                  go_round
                  case rel => exact ⟨k + 1, by omega, by go_num⟩
                  case measure => simp [intOf]; omega
                · go_wp2
                  go_round
                  case rel => exact ⟨i3 + 1, by omega, by go_num⟩
                  case measure => simp [intOf]; omega
            · go_wp2
              go_ret
              exact ⟨rfl, HB.out⟩
end Go.Proofs.YtellilpeakpbfabGreatDoor

end
