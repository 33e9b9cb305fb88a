import Derived.Test.YtellilpeakpbfabGreatDoorMarkToo
/-
  The walk of Hold.keepProcs.
-/
namespace Go.Proofs.YtellilpeakpbfabGreatDoor
open Go.RowKit

theorem Tryz.infoSP : (Tryz.prog.info? 54).map (fun i => (i.zero, i.size, i.bytes)) = some (some (.slice none 0 0), 1, 24) := by kernel_rfl

/-- one list more is kept: the World's field is laid anew. -/
theorem Kp_push (L W : Nat) (w w9 : World) (vx vd vp vc vq va : Value) (hW : WAt w W vx vd vp vc vq va) (hLW : L ≤ W) (o : Obj) (n : Nat) (ls ls' : List Value) (v' : Value)
    (hrow : w.ownsRow L 54 1 vq n ls) (hL : L ≤ w.heap.size) (hown : w9.ownsRow L 54 1 v' (n + 1) ls') (hg : (w.alloc o).grownBy w9 vq.ownBlock) :
    WAt w9 W vx vd vp vc vq va ∧ WAt (w9.setCell ⟨W, 4, none⟩ v') W vx vd vp vc v' va ∧ (w9.setCell ⟨W, 4, none⟩ v').ownsRow L 54 1 v' (n + 1) ls' ∧ Fr L [115, 54] none w (w9.setCell ⟨W, 4, none⟩ v') := by
  have hneW : some W ≠ vq.ownBlock := by
    intro e
    rcases hrow.2 with ⟨rfl, _⟩ | ⟨g, cap, cur, rfl, hb, hh, _⟩
    · simp [Value.ownBlock] at e
    · simp [Value.ownBlock] at e
      subst e
      rw [show w.heap[W]? = _ from hW] at hh
      simp at hh
  have f1 : Fr L [115, 54] none w (w.alloc o) := Fr.of ((Below.refl _ _).alloc (Nat.le_refl _) _) hL
  have f2 : Fr L [115, 54] none (w.alloc o) w9 := by
    refine (fr_grown hg (by simp; omega) (fun k hk => (hrow.lt k hk).1)).typed (fun k hk => ?_) none
    rcases hrow.2 with ⟨rfl, _⟩ | ⟨g, cap, cur, rfl, hb, hh, _⟩
    · simp [Value.ownBlock] at hk
    · simp [Value.ownBlock] at hk
      subst hk
      exact ⟨cur, _, _, (Below.heap_alloc _ _ _ (Array.getElem?_eq_some_iff.1 hh).1).trans hh, by simp⟩
  have hW9 : WAt w9 W vx vd vp vc vq va := by
    show w9.heap[W]? = _
    rw [hg.block W (by simp; exact Nat.lt_succ_of_lt hW.lt) hneW, Below.heap_alloc _ _ _ hW.lt]
    exact hW
  have f3 : Fr L [115, 54] none w9 (w9.setCell ⟨W, 4, none⟩ v') :=
    (fr_setCell w9 W 4 v' hLW).typed (fun k hk => by cases hk; exact ⟨_, _, _, hW9, by simp⟩) none
  refine ⟨hW9, wat_set hW9 4 v', ?_, (f1.trans f2).trans f3⟩
  refine own_fr hown (fr_setCell (T := []) w9 W 4 v' hLW) (by simp) (.inr ?_)
  intro e
  rcases hown.2 with ⟨rfl, h0⟩ | ⟨g, cap, cur, rfl, hb, hh, _⟩
  · omega
  · simp [Value.ownBlock] at e
    subst e
    rw [show w9.heap[W]? = _ from hW9] at hh
    simp at hh

def KpRel (L N : Nat) (m : List Value) (v : Value) (n : Nat) (w1 : World) (i : Value) (wr : World) : Prop :=
  ∃ (k : Nat) (xs : List Value), k ≤ n ∧ i = .int .i64 k ∧ wr.ownsRow N 89 2 v n xs ∧ (∀ j, j < k * 2 → xs[j]? = m[j % 2]?) ∧ Fr L [] v.ownBlock w1 wr

set_option maxHeartbeats 4000000 in
set_option maxRecDepth 100000 in
theorem keepProcs_any (L N W : Nat) (w : World) (vx vd vp vc vq va : Value) (ls : List Value) (v : Value) (n : Nat) (xs : List Value)
    (hW : WAt w W vx vd vp vc vq va) (hLW : L ≤ W) (hh : HoldRow L N w 89 54 mkP vq ls) (hrow : w.ownsRow N 89 2 v n xs) (hn : n ≤ 1000) (hLN : L ≤ N) (hN : N ≤ w.heap.size)
    (hb : (ls.length + 3) * 24 ≤ 140737488355328) :
    Calls Tryz.prog 102 #[.pointer (some ⟨W, 3, none⟩), v] w fun e w' => ∃ v' ls', e = .returned (.tuple #[]) ∧ WAt w' W vx vd vp vc v' va ∧ HoldRow L w'.heap.size w' 89 54 mkP v' ls' ∧ ls'.length = ls.length + 3 ∧ Fr L [115, 54] v.ownBlock w w' := by
  obtain ⟨ao, cap, rfl, hnm, hg⟩ := own_slice hrow
  obtain ⟨sao, scap, hvs, -, -⟩ := own_slice hh.row
  have c3 := hW.cell
  have z3 := hW.fz 4
  have hlt := hW.lt
  have hsm : ls.length / 3 + 1 ≤ 9000000000000 := by omega
  obtain ⟨q, hq⟩ : ∃ q : Nat, q = ls.length / 3 + 1 := ⟨_, rfl⟩
  have hqz : ((ls.length : Int) / 3 + 1) = (q : Int) := by rw [hq]; omega
  obtain ⟨i0, hi, hz0, hz1, hz2⟩ := info_parts Tryz.infoProc
  obtain ⟨j0, hj, hy0, hy1, hy2⟩ := info_parts Tryz.infoSP
  subst hvs
  have c3 : w.cell? ⟨W, 4, none⟩ = some (.slice sao ls.length scap) := hW.cell.2.2.2.2.1
  have HW := hide hW
  have HH := hide hh
  have HR := hide hrow
  have HG := hide hg
  have HQ := hide hq
  have HMK := hide (fun w => mark_any q (by omega) w)
  clear hW hh hrow hg hq
  go_enter Tryz.func102, Tryz.ntmps102
  go_wp2_with fail
  refine (HMK.out _).mono ?_
  rintro e w0 ⟨X, rfl, hX, hXs, hb0⟩
  have HX := hide hX
  have HB00 := hide hb0
  have hz0' := hb0.size
  clear hX hb0
  obtain ⟨B0, hB0⟩ : ∃ B0, B0 = w0.heap.size := ⟨_, rfl⟩
  obtain ⟨w1, hw1⟩ : ∃ w1, w1 = w0.alloc (.cells #[.string X, .string ⟨#[]⟩] 89) := ⟨_, rfl⟩
  have HB1 : Hid (Below w0.heap.size w0 w1) := by show Below _ _ _; rw [hw1]; exact (Below.refl _ _).alloc (Nat.le_refl _) _
  have hsz1 : w1.heap.size = B0 + 1 := by rw [hw1, hB0]; simp
  have hmb : w1.heap[B0]? = some (.cells #[.string X, .string ⟨#[]⟩] 89 (0, 0)) := by rw [hw1, hB0]; exact heap_alloc_new w0 _
  go_wp2
  rw [← hw1, ← hB0]
  have HW1 := hide hw1
  have HMB := hide hmb
  have HB0 := hide hB0
  clear hw1 hmb hB0
  have m0 : w1.cell? ⟨B0, 0, none⟩ = some (.string X) := (cell_of_row w1 B0 0 _ _ _ HMB.out).trans rfl
  have m1 : w1.cell? ⟨B0, 1, none⟩ = some (.string ⟨#[]⟩) := (cell_of_row w1 B0 1 _ _ _ HMB.out).trans rfl
  have HBW : Hid (Below w.heap.size w w1) := HB00.out.trans (HB1.out.mono HB00.out.size)
  have hBw : w.heap.size ≤ B0 := by rw [HB0.out]; exact hz0'
  go_loopw [5] (fun i wr => KpRel L N ([.string X, .string ⟨#[]⟩]) (.slice ao n cap) n w1 i wr) (fun i _ => n - (intOf i).toNat)
  case atStart => exact ⟨0, xs, Nat.zero_le _, rfl, ownsRow_below HR.out HBW.out, fun j hj => by omega, Fr.refl _ _ _ _⟩
  case round =>
    obtain ⟨k, ys, hk, rfl, hown, hmk, hfr⟩ := hrel
    have HO := hide hown
    have HM := hide hmk
    have HF := hide hfr
    clear hown hmk hfr
    by_cases hlk : k < n
    · obtain ⟨g, rfl, hgN⟩ := HG.out (by omega)
      obtain ⟨u0, d0, e0⟩ := own_cell HO.out (k * 2) (by omega)
      obtain ⟨u1, d1, e1⟩ := own_cell HO.out (k * 2 + 1) (by omega)
      have hgl : g < w.heap.size := (HR.out.lt g rfl).2
      have hmb := HF.out.block B0 _ _ _ HMB.out (by simp) (by simp [Value.ownBlock]; omega)
      have n0 : wr.cell? ⟨B0, 0, none⟩ = some (.string X) := (cell_of_row wr B0 0 _ _ _ hmb).trans rfl
      have n1 : wr.cell? ⟨B0, 1, none⟩ = some (.string ⟨#[]⟩) := (cell_of_row wr B0 1 _ _ _ hmb).trans rfl
      have hyl : ys.length = n * 2 := HO.out.1
      have HR2 : Hid (KpRel L N ([.string X, .string ⟨#[]⟩]) (.slice (some ⟨g, 0, none⟩) n cap) n w1 (.int .i64 ((k : Int) + 1)) ((((wr).setCell ⟨g, k * 2, none⟩ (.string X))).setCell ⟨g, k * 2 + 1, none⟩ (.string ⟨#[]⟩))) := by
        refine ⟨k + 1, _, by omega, by go_num, (own_set (own_set HO.out (k * 2) _) (k * 2 + 1) _), set2_at (by omega) HM.out, ?_⟩
        exact ((HF.out.trans (fr_setCell _ g (k * 2) _ (by omega))).trans (fr_setCell _ g (k * 2 + 1) _ (by omega)))
      clear hmb hyl
      go_wp2
      go_roundw
      case rel => exact HR2.out
      case measure => simp [intOf]; omega
    · have hke : k = n := by omega
      subst hke
      have hfull : Full wr N 89 ([.string X, .string ⟨#[]⟩]) (.slice ao k cap) k := by
        have := rep_of (m := [.string X, .string ⟨#[]⟩]) (n := k) HO.out.1 HM.out
        unfold Full
        rw [← this]
        exact HO.out
      have hXB : (Value.slice ao k cap).ownBlock ≠ some B0 := fun e => by
        have := (HR.out.lt B0 e).2; omega
      have hXN : ∀ j, (Value.slice ao k cap).ownBlock = some j → N ≤ j ∧ j < w.heap.size := fun j hj => HR.out.lt j hj
      have hmb := HF.out.block B0 _ _ _ HMB.out (by simp) hXB
      have n0 : wr.cell? ⟨B0, 0, none⟩ = some (.string X) := (cell_of_row wr B0 0 _ _ _ hmb).trans rfl
      have n1 : wr.cell? ⟨B0, 1, none⟩ = some (.string ⟨#[]⟩) := (cell_of_row wr B0 1 _ _ _ hmb).trans rfl
      have hzr := HF.out.size
      have HFU := hide hfull
      have HMB2 := hide hmb
      have HXB := hide hXB
      have HXN := hide hXN
      clear hfull hmb hXB hXN HO HM
      go_wp2_with (at_builtin; refine wpList_append_marks _ rfl (.tmp 27) (.tmp 29) 54 rfl N 89 i0 (.agg #[.string ⟨#[]⟩, .string ⟨#[]⟩]) 32 ([.string X, .string ⟨#[]⟩]) Tryz.underlying54 hi hz0 hz1 hz2 rfl _ k rfl (World.ownsRow.alloc HFU.out _) ⟨_, 0, none⟩ 1 1 (by omega) rfl ?c1 ?c2 ?c3 ?c4 ?c5 ?_)
      case c1 => exact fun j u h => cells_new _ #[.string X, .string ⟨#[]⟩] _ j u h
      case c2 => intro u hu; simp [List.mem_cons] at hu; rcases hu with rfl | rfl <;> rfl
      case c3 => unfold maxLen; omega
      case c4 => omega
      case c5 => simp; omega
      intro f w7 hf7 hg7 hk7 hb7
      have F7 : Fr L [] (Value.slice ao k cap).ownBlock w1 w7 := (HF.out.trans (Fr.of ((Below.refl _ _).alloc (Nat.le_refl _) _) (by omega))).trans (fr_grown hg7 (by simp; omega) (fun j hj => Nat.le_trans hLN (HXN.out j hj).1))
      have hmb := F7.block B0 _ _ _ HMB.out (by simp) HXB.out
      have o0 : w7.cell? ⟨B0, 0, none⟩ = some (.string X) := (cell_of_row w7 B0 0 _ _ _ hmb).trans rfl
      have o1 : w7.cell? ⟨B0, 1, none⟩ = some (.string ⟨#[]⟩) := (cell_of_row w7 B0 1 _ _ _ hmb).trans rfl
      have L7 := hk7 N _ k (World.ownsRow.alloc HFU.out _)
      have hz7 := F7.size
      have hb7' : ∀ j, f.ownBlock = some j → (Value.slice ao k cap).ownBlock = some j ∨ w1.heap.size ≤ j := fun j hj => by
        rcases hb7 j hj with h | h
        · exact .inl h
        · first | (simp at h; exact .inr (by omega)) | exact .inr (by omega)
      have HF7 := hide F7
      have HL7 := hide L7
      have HFF7 := hide hf7
      have HB7 := hide hb7'
      clear F7 L7 hf7 hg7 hk7 hb7 hb7' HF HFU HMB2 n0 n1 hmb
      go_wp2_with (at_builtin; refine wpList_append_marks _ rfl (.tmp 31) (.tmp 35) 54 rfl N 89 i0 (.agg #[.string ⟨#[]⟩, .string ⟨#[]⟩]) 32 ([.string X, .string ⟨#[]⟩]) Tryz.underlying54 hi hz0 hz1 hz2 rfl _ k rfl (World.ownsRow.alloc HL7.out _) ⟨_, 0, none⟩ 3 3 (by omega) rfl ?c1 ?c2 ?c3 ?c4 ?c5 ?_)
      case c1 => exact fun j u h => cells_new _ #[.string X, .string ⟨#[]⟩, .string X, .string ⟨#[]⟩, .string X, .string ⟨#[]⟩] _ j u h
      case c2 => intro u hu; simp [List.mem_cons] at hu; rcases hu with rfl | rfl <;> rfl
      case c3 => unfold maxLen; omega
      case c4 => omega
      case c5 => simp; omega
      intro gg w8 hf8 hg8 hk8 hb8
      have F8 : Fr L [] (Value.slice ao k cap).ownBlock w1 w8 := (HF7.out.trans (Fr.of ((Below.refl _ _).alloc (Nat.le_refl _) _) (by omega))).trans (fr_grown hg8 (by simp; omega) (fun j hj => Nat.le_trans hLN (HXN.out j hj).1))
      have hz8 := F8.size
      have l8 := hk8 N _ k (World.ownsRow.alloc HL7.out _)
      have f8 := hk8 N _ (k + 1) (World.ownsRow.alloc HFF7.out _)
      have FW8 : Fr L [] (Value.slice ao k cap).ownBlock w w8 := (Fr.of HBW.out (by omega)).trans F8
      have W8 := HW.out.fr FW8 (by simp) (own_neB HR.out HW.out (by decide))
      have H8 := HH.out.fr FW8 (by simp) (by simp) (fun j hj => (HXN.out j hj).1) (own_ne HR.out HH.out.row (by decide))
      obtain ⟨fao, fcap, rfl, -, -⟩ := own_slice f8
      obtain ⟨gao, gcap, rfl, -, -⟩ := own_slice hf8
      have c8 : w8.cell? ⟨W, 4, none⟩ = some (.slice sao ls.length scap) := W8.cell.2.2.2.2.1
      have own8 := H8.row
      have HW8 := hide W8
      have HH8 := hide H8
      have HO8 := hide own8
      have HFW8 := hide FW8
      have HL8 := hide l8
      have HF8 := hide f8
      have HG8 := hide hf8
      clear W8 H8 own8 F8 FW8 l8 f8 hf8 hg8 hk8 hb8 HF7 HL7 HFF7 HB7 o0 o1 m0 m1 c3 z3
      have hLz : L ≤ w8.heap.size := by omega
      go_wp2_with (at_builtin; refine wpList_append_own _ rfl (.tmp 41) (.tmp 43) 110 rfl L 54 j0 (.slice none 0 0) 1 24 Tryz.underlying110 hj hy0 hy1 hy2 rfl (by decide) _ _ _ rfl (HO8.out.alloc _) ⟨_, 0, none⟩ 1 1 [.slice ao k cap] rfl rfl ?c1 ?c2 ?c3 ?c4 ?c5 ?_)
      case c1 => exact fun j u h => cells_new _ #[.slice ao k cap] _ j u h
      case c2 => intro u hu; simp at hu; subst hu; rfl
      case c3 => exact (bd3 hb).2.2.2.1
      case c4 => exact (bd3 hb).1
      case c5 => rw [World.size_alloc]; exact up1 hLz (Nat.le_refl _)
      intro v9 w9 hown9 hg9 _
      obtain ⟨W9, X9, own9, F9⟩ := Kp_push L W w8 w9 _ _ _ _ _ _ HW8.out hLW _ _ _ _ v9 HO8.out (by omega) hown9 hg9
      obtain ⟨ao9, cap9, rfl, -, -⟩ := own_slice hown9
      have c9 : w9.cell? ⟨W, 4, none⟩ = some (.slice sao ls.length scap) := W9.cell.2.2.2.2.1
      have z9 := W9.fz 4
      have HX9 := hide X9
      have HO9 := hide own9
      have HF9 := hide F9
      have hz9 : w8.heap.size ≤ w9.heap.size := by have := F9.size; simpa using this
      clear W9 X9 own9 F9 hown9 hg9
      go_wp2_with (at_builtin; refine wpList_append_own _ rfl (.tmp 51) (.tmp 53) 110 rfl L 54 j0 (.slice none 0 0) 1 24 Tryz.underlying110 hj hy0 hy1 hy2 rfl (by decide) _ _ _ rfl (HO9.out.alloc _) ⟨_, 0, none⟩ 1 1 [.slice fao (k + 1) fcap] rfl rfl ?c1 ?c2 ?c3 ?c4 ?c5 ?_)
      case c1 => exact fun j u h => cells_newN (by simp) #[.slice fao (k + 1) fcap] _ j u h
      case c2 => intro u hu; simp at hu; subst hu; rfl
      case c3 => exact (bd3 hb).2.2.2.2.1
      case c4 => exact (bd3 hb).2.1
      case c5 => rw [World.size_alloc, World.size_setCell]; exact up1 hLz hz9
      intro v11 w11 hown11 hg11 _
      obtain ⟨W11, X11, own11, F11⟩ := Kp_push L W _ w11 _ _ _ _ _ _ HX9.out hLW _ _ _ _ v11 HO9.out (by rw [World.size_setCell]; exact Nat.le_trans hLz hz9) hown11 hg11
      obtain ⟨ao11, cap11, rfl, -, -⟩ := own_slice hown11
      have c11 : w11.cell? ⟨W, 4, none⟩ = some (.slice ao9 (ls.length + 1) cap9) := W11.cell.2.2.2.2.1
      have z11 := W11.fz 4
      have HX11 := hide X11
      have HO11 := hide own11
      have HF11 := hide F11
      have hz11 : w9.heap.size ≤ w11.heap.size := by have := F11.size; simpa using this
      clear W11 X11 own11 F11 hown11 hg11
      go_wp2_with (at_builtin; refine wpList_append_own _ rfl (.tmp 61) (.tmp 63) 110 rfl L 54 j0 (.slice none 0 0) 1 24 Tryz.underlying110 hj hy0 hy1 hy2 rfl (by decide) _ _ _ rfl (HO11.out.alloc _) ⟨_, 0, none⟩ 1 1 [.slice gao (k + 3) gcap] rfl rfl ?c1 ?c2 ?c3 ?c4 ?c5 ?_)
      case c1 => exact fun j u h => cells_newN (by simp) #[.slice gao (k + 3) gcap] _ j u h
      case c2 => intro u hu; simp at hu; subst hu; rfl
      case c3 => exact (bd3 hb).2.2.2.2.2
      case c4 => exact (bd3 hb).2.2.1
      case c5 => rw [World.size_alloc, World.size_setCell]; exact up1 hLz (Nat.le_trans hz9 hz11)
      intro v13 w13 hown13 hg13 _
      obtain ⟨W13, X13, own13, F13⟩ := Kp_push L W _ w13 _ _ _ _ _ _ HX11.out hLW _ _ _ _ v13 HO11.out (by rw [World.size_setCell]; exact Nat.le_trans hLz (Nat.le_trans hz9 hz11)) hown13 hg13
      obtain ⟨ao13, cap13, rfl, -, -⟩ := own_slice hown13
      have c13 : w13.cell? ⟨W, 4, none⟩ = some (.slice ao11 (ls.length + 2) cap11) := W13.cell.2.2.2.2.1
      have z13 := W13.fz 4
      have HX13 := hide X13
      have HO13 := hide own13
      have HF13 := hide F13
      have hz13 : w11.heap.size ≤ w13.heap.size := by have := F13.size; simpa using this
      clear W13 X13 own13 F13 hown13 hg13
      go_wp2
      go_end0
      have Ft : Fr L [115, 54] none w8 (w13.setCell ⟨W, 4, none⟩ (.slice ao13 (ls.length + 3) cap13)) := (HF9.out.trans HF11.out).trans HF13.out
      refine ⟨_, ls ++ [.slice ao k cap, .slice fao (k + 1) fcap, .slice gao (k + 3) gcap], rfl, HX13.out, ⟨?_, ?_, ?_⟩, by simp, (HFW8.out.wide (by simp)).trans Ft.any⟩
      · have e : (ls ++ [Value.slice ao k cap, Value.slice fao (k + 1) fcap, Value.slice gao (k + 3) gcap]).length = ls.length + 3 := by simp
        rw [e]
        exact HO13.out
      · have := HH.out.three
        simp; omega
      · intro i u hu
        have h3 := HH.out.three
        have hq := HQ.out
        have hsz : w8.heap.size ≤ w13.heap.size := Nat.le_trans (Nat.le_trans hz9 hz11) hz13
        have hnew : ∀ y ny, Full w8 N 89 ([.string X, .string ⟨#[]⟩]) y ny → i / 3 + 1 = q → ∃ n, Full (w13.setCell ⟨W, 4, none⟩ (.slice ao13 (ls.length + 3) cap13)) 0 89 (mkP (i / 3 + 1)) y n ∧ (∀ j, y.ownBlock = some j → j < (w13.setCell ⟨W, 4, none⟩ (.slice ao13 (ls.length + 3) cap13)).heap.size) := by
          intro y ny hy hiq
          rw [hiq]
          rw [show mkP q = [.string X, .string ⟨#[]⟩] from (mkP_of HX.out).symm]
          refine ⟨ny, ownsRow_base (own_fr hy Ft (by decide) (.inl rfl)) (Nat.zero_le _), fun j hj => by rw [World.size_setCell]; exact Nat.lt_of_lt_of_le (hy.lt j hj).2 hsz⟩
        by_cases hil : i < ls.length
        · rw [List.getElem?_append_left hil] at hu
          obtain ⟨n1, g1, g2⟩ := HH8.out.full i u hu
          exact ⟨n1, own_fr g1 Ft (by decide) (.inl rfl), fun j hj => by rw [World.size_setCell]; have := g2 j hj; omega⟩
        · rw [List.getElem?_append_right (by omega)] at hu
          obtain ⟨r, hr⟩ : ∃ r, r = i - ls.length := ⟨_, rfl⟩
          rw [← hr] at hu
          match r, hr, hu with
          | 0, hr, hu => simp at hu; subst hu; exact hnew _ _ HL8.out (by omega)
          | 1, hr, hu => simp at hu; subst hu; exact hnew _ _ HF8.out (by omega)
          | 2, hr, hu => simp at hu; subst hu; exact hnew _ _ HG8.out (by omega)
          | r + 3, hr, hu => simp at hu
end Go.Proofs.YtellilpeakpbfabGreatDoor
