/-
  The walks of the two files: Play, All, Size.
-/
import Derived.Test.YthehkgglblohfaaGreatDoorHoldP
namespace Go.Proofs.YthehkgglblohfaaGreatDoor
open Go.RowKit

/-- The two files at block D: what they hold, how much is lasting. -/
def DAt (w : World) (D : Nat) (a b : ByteArray) (la lb : Int) : Prop := w.heap[D]? = some (.cells #[.string a, .string b, .int .i64 la, .int .i64 lb] 46 (0, 0))
theorem DAt.lt {w : World} {D : Nat} {a b : ByteArray} {la lb : Int} (h : DAt w D a b la lb) : D < w.heap.size := (Array.getElem?_eq_some_iff.1 h).1
theorem DAt.cell {w : World} {D : Nat} {a b : ByteArray} {la lb : Int} (h : DAt w D a b la lb) : w.cell? ⟨D, 0, none⟩ = some (.string a) ∧ w.cell? ⟨D, 1, none⟩ = some (.string b) ∧ w.cell? ⟨D, 2, none⟩ = some (.int .i64 la) ∧ w.cell? ⟨D, 3, none⟩ = some (.int .i64 lb) :=
  ⟨(cell_of_row w D 0 _ _ _ h).trans rfl, (cell_of_row w D 1 _ _ _ h).trans rfl, (cell_of_row w D 2 _ _ _ h).trans rfl, (cell_of_row w D 3 _ _ _ h).trans rfl⟩
theorem DAt.fz {w : World} {D : Nat} {a b : ByteArray} {la lb : Int} (h : DAt w D a b la lb) (j : Nat) : w.frozen? ⟨D, j, none⟩ = false := frozen_of_row w D j _ _ h
theorem DAt.fr {L : Nat} {T : List TypeId} {X : Option Nat} {w w' : World} {D : Nat} {a b : ByteArray} {la lb : Int} (h : DAt w D a b la lb) (f : Fr L T X w w') (ht : 46 ∉ T) (hX : X ≠ some D) : DAt w' D a b la lb := f.block D _ _ _ h ht hX
theorem DAt.set {L : Nat} {w w1 : World} {D : Nat} {a b : ByteArray} {la lb : Int} (h : DAt w D a b la lb) (hL : L ≤ D) (h1 : w1.heap = w.heap) (hos : w1.os = w.os) (htp : w1.tape = w.tape) (hou : w1.output = w.output) (j : Nat) (u : Value) :
    (w1.setCell ⟨D, j, none⟩ u).heap[D]? = some (.cells (#[.string a, .string b, .int .i64 la, .int .i64 lb].setIfInBounds j u) 46 (0, 0)) ∧ Fr L [46] none w (w1.setCell ⟨D, j, none⟩ u) := by
  have h' : w1.heap[D]? = some (.cells #[.string a, .string b, .int .i64 la, .int .i64 lb] 46 (0, 0)) := by rw [h1]; exact h
  refine ⟨heap_setCell_same w1 D j _ _ u h', ?_⟩
  have f1 : Fr L [46] none w w1 := ⟨⟨hos, htp, hou, by rw [h1]; exact Nat.le_refl _, fun k _ => by rw [h1]⟩, fun k cur t z hk _ _ => by rw [h1]; exact hk⟩
  exact f1.trans ((fr_setCell w1 D j u hL).typed (fun k hk => by cases hk; exact ⟨_, _, _, h', by simp⟩) none)

set_option maxHeartbeats 2000000 in
set_option maxRecDepth 100000 in
theorem play_app0 (L D : Nat) (w : World) (a b s : ByteArray) (la lb : Int) (h : DAt w D a b la lb) (hL : L ≤ D) (hs : a.size + s.size ≤ 1152921504606846976) :
    Calls Tryz.prog 63 #[.pointer (some ⟨D, 0, none⟩), .agg #[.int .i64 1, .int .i64 0, .string s]] w fun e w' => e = .returned (.bool true) ∧ DAt w' D (a ++ s) b la lb ∧ Fr L [46] none w w' := by
  obtain ⟨c0, c1, c2, c3⟩ := h.cell
  have z0 := h.fz 0
  have z1 := h.fz 1
  have z2 := h.fz 2
  have z3 := h.fz 3
  have hlt := h.lt
  have HD := hide h
  clear h
  go_enter Tryz.func63, Tryz.ntmps63
  go_wp2
  go_region
  all_goals go_wp2
  all_goals go_ret
  all_goals
    have hs := HD.out.set (L := L) (w1 := w) hL rfl rfl rfl rfl 0 (.string (a ++ s))
    have hb := Below.drew ((Below.refl (w.setCell ⟨D, 0, none⟩ (.string (a ++ s))).heap.size (w.setCell ⟨D, 0, none⟩ (.string (a ++ s)))).alloc (Nat.le_refl _) (.cells #[.int .i64 1, .int .i64 0, .string s] 64))
    have hd : DAt (w.setCell ⟨D, 0, none⟩ (.string (a ++ s))) D (a ++ s) b la lb := hs.1
    exact ⟨rfl, hd.fr (Fr.of (L := 0) (T := []) (X := none) hb (Nat.zero_le _)) (by simp) (by simp), hs.2.trans (Fr.of hb (by rw [World.size_setCell]; omega))⟩

set_option maxHeartbeats 2000000 in
set_option maxRecDepth 100000 in
theorem play_app1 (L D : Nat) (w : World) (a b s : ByteArray) (la lb : Int) (h : DAt w D a b la lb) (hL : L ≤ D) (hs : b.size + s.size ≤ 1152921504606846976) :
    Calls Tryz.prog 63 #[.pointer (some ⟨D, 0, none⟩), .agg #[.int .i64 1, .int .i64 1, .string s]] w fun e w' => e = .returned (.bool true) ∧ DAt w' D a (b ++ s) la lb ∧ Fr L [46] none w w' := by
  obtain ⟨c0, c1, c2, c3⟩ := h.cell
  have z0 := h.fz 0
  have z1 := h.fz 1
  have z2 := h.fz 2
  have z3 := h.fz 3
  have hlt := h.lt
  have HD := hide h
  clear h
  go_enter Tryz.func63, Tryz.ntmps63
  go_wp2
  go_region
  all_goals go_wp2
  all_goals go_ret
  all_goals
    have hs := HD.out.set (L := L) (w1 := w) hL rfl rfl rfl rfl 1 (.string (b ++ s))
    have hb := Below.drew ((Below.refl (w.setCell ⟨D, 1, none⟩ (.string (b ++ s))).heap.size (w.setCell ⟨D, 1, none⟩ (.string (b ++ s)))).alloc (Nat.le_refl _) (.cells #[.int .i64 1, .int .i64 1, .string s] 64))
    have hd : DAt (w.setCell ⟨D, 1, none⟩ (.string (b ++ s))) D a (b ++ s) la lb := hs.1
    exact ⟨rfl, hd.fr (Fr.of (L := 0) (T := []) (X := none) hb (Nat.zero_le _)) (by simp) (by simp), hs.2.trans (Fr.of hb (by rw [World.size_setCell]; omega))⟩

set_option maxHeartbeats 2000000 in
set_option maxRecDepth 100000 in
theorem play_syn0 (L D : Nat) (w : World) (a b : ByteArray) (la lb : Int) (h : DAt w D a b la lb) (hL : L ≤ D) :
    Calls Tryz.prog 63 #[.pointer (some ⟨D, 0, none⟩), .agg #[.int .i64 2, .int .i64 0, .string ⟨#[]⟩]] w fun e w' => e = .returned (.bool true) ∧ DAt w' D a b a.size lb ∧ Fr L [46] none w w' := by
  obtain ⟨c0, c1, c2, c3⟩ := h.cell
  have z0 := h.fz 0
  have z1 := h.fz 1
  have z2 := h.fz 2
  have z3 := h.fz 3
  have hlt := h.lt
  have HD := hide h
  clear h
  go_enter Tryz.func63, Tryz.ntmps63
  go_wp2
  go_region
  all_goals go_wp2
  all_goals go_ret
  all_goals
    have hs := HD.out.set (L := L) (w1 := w) hL rfl rfl rfl rfl 2 (.int .i64 a.size)
    have hb := Below.drew ((Below.refl (w.setCell ⟨D, 2, none⟩ (.int .i64 a.size)).heap.size (w.setCell ⟨D, 2, none⟩ (.int .i64 a.size))).alloc (Nat.le_refl _) (.cells #[.int .i64 2, .int .i64 0, .string ⟨#[]⟩] 64))
    have hd : DAt (w.setCell ⟨D, 2, none⟩ (.int .i64 a.size)) D a b a.size lb := hs.1
    exact ⟨rfl, hd.fr (Fr.of (L := 0) (T := []) (X := none) hb (Nat.zero_le _)) (by simp) (by simp), hs.2.trans (Fr.of hb (by rw [World.size_setCell]; omega))⟩

set_option maxHeartbeats 2000000 in
set_option maxRecDepth 100000 in
theorem play_syn1 (L D : Nat) (w : World) (a b : ByteArray) (la lb : Int) (h : DAt w D a b la lb) (hL : L ≤ D) :
    Calls Tryz.prog 63 #[.pointer (some ⟨D, 0, none⟩), .agg #[.int .i64 2, .int .i64 1, .string ⟨#[]⟩]] w fun e w' => e = .returned (.bool true) ∧ DAt w' D a b la b.size ∧ Fr L [46] none w w' := by
  obtain ⟨c0, c1, c2, c3⟩ := h.cell
  have z0 := h.fz 0
  have z1 := h.fz 1
  have z2 := h.fz 2
  have z3 := h.fz 3
  have hlt := h.lt
  have HD := hide h
  clear h
  go_enter Tryz.func63, Tryz.ntmps63
  go_wp2
  go_region
  all_goals go_wp2
  all_goals go_ret
  all_goals
    have hs := HD.out.set (L := L) (w1 := w) hL rfl rfl rfl rfl 3 (.int .i64 b.size)
    have hb := Below.drew ((Below.refl (w.setCell ⟨D, 3, none⟩ (.int .i64 b.size)).heap.size (w.setCell ⟨D, 3, none⟩ (.int .i64 b.size))).alloc (Nat.le_refl _) (.cells #[.int .i64 2, .int .i64 1, .string ⟨#[]⟩] 64))
    have hd : DAt (w.setCell ⟨D, 3, none⟩ (.int .i64 b.size)) D a b la b.size := hs.1
    exact ⟨rfl, hd.fr (Fr.of (L := 0) (T := []) (X := none) hb (Nat.zero_le _)) (by simp) (by simp), hs.2.trans (Fr.of hb (by rw [World.size_setCell]; omega))⟩

set_option maxHeartbeats 2000000 in
set_option maxRecDepth 100000 in
theorem play_era0 (L D : Nat) (w : World) (a b : ByteArray) (la lb : Int) (h : DAt w D a b la lb) (hL : L ≤ D) :
    Calls Tryz.prog 63 #[.pointer (some ⟨D, 0, none⟩), .agg #[.int .i64 3, .int .i64 0, .string ⟨#[]⟩]] w fun e w' => e = .returned (.bool true) ∧ DAt w' D ⟨#[]⟩ b 0 lb ∧ Fr L [46] none w w' := by
  obtain ⟨c0, c1, c2, c3⟩ := h.cell
  have z0 := h.fz 0
  have z1 := h.fz 1
  have z2 := h.fz 2
  have z3 := h.fz 3
  have hlt := h.lt
  have HD := hide h
  clear h
  go_enter Tryz.func63, Tryz.ntmps63
  go_wp2
  go_region
  all_goals go_wp2
  all_goals go_region
  all_goals go_wp2
  all_goals go_ret
  all_goals
    have hs := HD.out.set (L := L) (w1 := w) hL rfl rfl rfl rfl 0 (.string ⟨#[]⟩)
    have hd : DAt (w.setCell ⟨D, 0, none⟩ (.string ⟨#[]⟩)) D ⟨#[]⟩ b la lb := hs.1
    have hs2 := hd.set (L := L) (w1 := (w.setCell ⟨D, 0, none⟩ (.string ⟨#[]⟩))) hL rfl rfl rfl rfl 2 (.int .i64 0)
    have hd2 : DAt ((w.setCell ⟨D, 0, none⟩ (.string ⟨#[]⟩)).setCell ⟨D, 2, none⟩ (.int .i64 0)) D ⟨#[]⟩ b 0 lb := hs2.1
    have hb := Below.drew (Below.drew ((Below.refl ((w.setCell ⟨D, 0, none⟩ (.string ⟨#[]⟩)).setCell ⟨D, 2, none⟩ (.int .i64 0)).heap.size ((w.setCell ⟨D, 0, none⟩ (.string ⟨#[]⟩)).setCell ⟨D, 2, none⟩ (.int .i64 0))).alloc (Nat.le_refl _) (.cells #[.int .i64 3, .int .i64 0, .string ⟨#[]⟩] 64)))
    exact ⟨rfl, hd2.fr (Fr.of (L := 0) (T := []) (X := none) hb (Nat.zero_le _)) (by simp) (by simp), (hs.2.trans hs2.2).trans (Fr.of hb (by rw [World.size_setCell, World.size_setCell]; omega))⟩

set_option maxHeartbeats 2000000 in
set_option maxRecDepth 100000 in
theorem play_era1 (L D : Nat) (w : World) (a b : ByteArray) (la lb : Int) (h : DAt w D a b la lb) (hL : L ≤ D) :
    Calls Tryz.prog 63 #[.pointer (some ⟨D, 0, none⟩), .agg #[.int .i64 3, .int .i64 1, .string ⟨#[]⟩]] w fun e w' => e = .returned (.bool true) ∧ DAt w' D a ⟨#[]⟩ la 0 ∧ Fr L [46] none w w' := by
  obtain ⟨c0, c1, c2, c3⟩ := h.cell
  have z0 := h.fz 0
  have z1 := h.fz 1
  have z2 := h.fz 2
  have z3 := h.fz 3
  have hlt := h.lt
  have HD := hide h
  clear h
  go_enter Tryz.func63, Tryz.ntmps63
  go_wp2
  go_region
  all_goals go_wp2
  all_goals go_region
  all_goals go_wp2
  all_goals go_ret
  all_goals
    have hs := HD.out.set (L := L) (w1 := w) hL rfl rfl rfl rfl 1 (.string ⟨#[]⟩)
    have hd : DAt (w.setCell ⟨D, 1, none⟩ (.string ⟨#[]⟩)) D a ⟨#[]⟩ la lb := hs.1
    have hs2 := hd.set (L := L) (w1 := (w.setCell ⟨D, 1, none⟩ (.string ⟨#[]⟩))) hL rfl rfl rfl rfl 3 (.int .i64 0)
    have hd2 : DAt ((w.setCell ⟨D, 1, none⟩ (.string ⟨#[]⟩)).setCell ⟨D, 3, none⟩ (.int .i64 0)) D a ⟨#[]⟩ la 0 := hs2.1
    have hb := Below.drew (Below.drew ((Below.refl ((w.setCell ⟨D, 1, none⟩ (.string ⟨#[]⟩)).setCell ⟨D, 3, none⟩ (.int .i64 0)).heap.size ((w.setCell ⟨D, 1, none⟩ (.string ⟨#[]⟩)).setCell ⟨D, 3, none⟩ (.int .i64 0))).alloc (Nat.le_refl _) (.cells #[.int .i64 3, .int .i64 1, .string ⟨#[]⟩] 64)))
    exact ⟨rfl, hd2.fr (Fr.of (L := 0) (T := []) (X := none) hb (Nat.zero_le _)) (by simp) (by simp), (hs.2.trans hs2.2).trans (Fr.of hb (by rw [World.size_setCell, World.size_setCell]; omega))⟩
end Go.Proofs.YthehkgglblohfaaGreatDoor
