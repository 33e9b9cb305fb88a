import Derived.Test.YtellilpeakpbfaaDoorJWrite
/-
  The walks of Store.move and Open.
-/
namespace Go.Proofs.YtellilpeakpbfaaDoor
open Go.RowKit

/-- A store at block S, its contents at block B; the file that tells it. -/
structure StAt (L : Nat) (w : World) (S B : Nat) (C : Jn.Con) (f : Int) : Prop where
  low : L ≤ S
  file : f = 0 ∨ f = 1
  mem : w.heap[S]? = some (.cells #[.pointer (some ⟨B, 0, none⟩), .int .i64 f] 46 (0, 0))
  con : ConAt L w B C

abbrev ActP := Int × Int × List UInt8
def acts3 (l : List ActP) : List Value := l.flatMap fun a => [.int .i64 a.1, .int .i64 a.2.1, T a.2.2]
/-- A list of acts, from block b on. -/
def ARow (w : World) (b : Nat) (v : Value) (l : List ActP) : Prop := w.ownsRow b 67 3 v l.length (acts3 l)
def moveActs (C : Jn.Con) (f : Int) : List ActP := [(2, f, []), (3, 1 - f, []), (1, 1 - f, Jn.all C), (2, 1 - f, []), (3, f, [])]

theorem StAt.cells {L : Nat} {w : World} {S B : Nat} {C : Jn.Con} {f : Int} (h : StAt L w S B C f) :
    w.cell? ⟨S, 0, none⟩ = some (.pointer (some ⟨B, 0, none⟩)) ∧ w.cell? ⟨S, 1, none⟩ = some (.int .i64 f) ∧ w.frozen? ⟨S, 0, none⟩ = false ∧ w.frozen? ⟨S, 1, none⟩ = false :=
  ⟨(cell_of_row w S 0 _ _ _ h.mem).trans rfl, (cell_of_row w S 1 _ _ _ h.mem).trans rfl, frozen_of_row w S 0 _ _ h.mem, frozen_of_row w S 1 _ _ h.mem⟩
theorem StAt.lt {L : Nat} {w : World} {S B : Nat} {C : Jn.Con} {f : Int} (h : StAt L w S B C f) : S < w.heap.size := (Array.getElem?_eq_some_iff.1 h.mem).1
theorem StAt.fr {L : Nat} {T : List TypeId} {X : Option Nat} {w w' : World} {S B : Nat} {C : Jn.Con} {f : Int} (h : StAt L w S B C f) (g : Fr L T X w w') (h0 : 46 ∉ T) (h1 : 84 ∉ T) (h2 : 99 ∉ T)
    (hX : ∀ k, X = some k → ∀ cur t z, w.heap[k]? = some (.cells cur t z) → t ≠ 46 ∧ t ≠ 84 ∧ t ≠ 99) : StAt L w' S B C f :=
  ⟨h.low, h.file, g.block S _ _ _ h.mem h0 (fun e => (hX S e _ _ _ h.mem).1 rfl), h.con.fr g h1 h2 (fun k hk cur t z hh => (hX k hk cur t z hh).2)⟩
theorem StAt.below {L : Nat} {w w' : World} {S B : Nat} {C : Jn.Con} {f : Int} (h : StAt L w S B C f) (g : Below w.heap.size w w') : StAt L w' S B C f :=
  h.fr (Fr.of (T := []) (X := none) g (Nat.le_trans h.low (Nat.le_of_lt h.lt))) (by simp) (by simp) (by simp) (by simp)

/-- the file is another one. -/
theorem st_setF {L : Nat} {w : World} {S B : Nat} {C : Jn.Con} {f : Int} (h : StAt L w S B C f) (f' : Int) (hf : f' = 0 ∨ f' = 1) :
    StAt L (w.setCell ⟨S, 1, none⟩ (.int .i64 f')) S B C f' ∧ Fr L [46] none w (w.setCell ⟨S, 1, none⟩ (.int .i64 f')) := by
  have h1 := heap_setCell_same w S 1 _ _ (.int .i64 f') h.mem
  have hfr : Fr L [46] none w (w.setCell ⟨S, 1, none⟩ (.int .i64 f')) := by
    refine ⟨(Below.refl L w).setCell (p := ⟨S, 1, none⟩) h.low _, ?_⟩
    intro k cur' t z hk ht _
    rw [heap_setCell_other _ _ _ _ (fun e => ?_)]
    · exact hk
    · simp at e; subst e; rw [h.mem] at hk; cases hk; simp at ht
  exact ⟨⟨h.low, hf, h1, h.con.fr hfr (by decide) (by decide) (by simp)⟩, hfr⟩

theorem arow_new (w : World) (b : Nat) (hb : b ≤ w.heap.size) (l : List ActP) (n : Nat) (hn : n = l.length) (cur : Array Value) (hc : cur.toList = acts3 l) (hm : n ≤ maxLen) :
    ARow (w.alloc (.cells cur 67)) b (.slice (some ⟨w.heap.size, 0, none⟩) n n) l := by
  subst hn
  have hl : (acts3 l).length = l.length * 3 := by
    clear hc hm
    induction l with
    | nil => rfl
    | cons a r ih => simp only [acts3, List.flatMap_cons, List.length_append, List.length_cons, List.length_nil] at ih ⊢; omega
  refine ⟨hl, .inr ⟨_, _, cur, rfl, hb, heap_alloc_new w _, Nat.le_refl _, hm, ?_, ?_⟩⟩
  · rw [← hl, ← hc]; simp
  · rw [hc, ← hl, List.take_length]

set_option maxHeartbeats 1000000 in
set_option maxRecDepth 100000 in
theorem move_any (L S B : Nat) (C : Jn.Con) (f : Int) (w : World) (h : StAt L w S B C f) (hP : PowAt w) (hgL : 1 < L) :
    Calls Tryd.prog 17 #[.pointer (some ⟨S, 0, none⟩)] w fun e w' => ∃ v, e = .returned v ∧ ARow w' w.heap.size v (moveActs C f) ∧ StAt L w' S B C (1 - f) ∧ Fr L [46] none w w' := by
  obtain ⟨c0, c1, f0, f1⟩ := h.cells
  have hf := h.file
  have hset := st_setF h (1 - f) (by omega)
  have hlt := h.lt
  have hf0 : 0 ≤ f ∧ f ≤ 1 := by omega
  obtain ⟨g0, g1⟩ := hf0
  obtain ⟨w1, hw1⟩ : ∃ w1, w1 = w.setCell ⟨S, 1, none⟩ (.int .i64 (1 - f)) := ⟨_, rfl⟩
  rw [← hw1] at hset
  have hz : w1.heap.size = w.heap.size := by rw [hw1]; simp
  have hc := all_any L B C w1 hset.1.con (hP.below hgL hset.2.below)
  have d0 := hset.1.cells.1
  have HC := hide hc
  have HS := hide hset
  clear hc hset h hf hP
  go_enter Tryd.func17, Tryd.ntmps17
  go_wp2_with fail
  rw [← hw1]
  have HW := hide hw1
  clear hw1
  refine HC.out.mono ?_
  rintro e w2 ⟨X, rfl, hX, hb⟩
  have HX := hide hX
  have HB := hide hb
  have hz2 := hb.size
  clear hX hb HC
  go_wp2
  go_ret
  have hL : L ≤ w1.heap.size := Nat.le_trans HS.out.1.low (Nat.le_of_lt HS.out.1.lt)
  refine ⟨_, rfl, ?_, (HS.out.1.below HB.out).below ((Below.refl _ _).alloc (Nat.le_refl _) _), ?_⟩
  · refine arow_new w2 w.heap.size (by omega) (moveActs C f) 5 rfl _ ?_ (by decide)
    simp only [moveActs, acts3, List.flatMap_cons, List.flatMap_nil, ← HX.out]
    rfl
  · exact HS.out.2.trans ((Fr.of HB.out hL).trans (Fr.of ((Below.refl _ _).alloc (Nat.le_refl _) _) (by omega)))

/-- what Open answers. -/
def OpenPost (o : Option (Jn.Con × Int)) (w : World) (e : Ending) (w' : World) : Prop :=
  Below w.heap.size w w' ∧ ((∃ C f S B v, o = some (C, f) ∧ StAt w.heap.size w' S B C (1 - f) ∧ ARow w' w.heap.size v (moveActs C f) ∧ e = .returned (.tuple #[.pointer (some ⟨S, 0, none⟩), v, .int .i64 0])) ∨
    (o = none ∧ e = .returned (.tuple #[.pointer none, .slice none 0 0, .int .i64 11])))

theorem readTwo_file {a b : List UInt8} {C : Jn.Con} {f : Int} (h : Jn.readTwo a b = some (C, f)) : f = 0 ∨ f = 1 := by
  unfold Jn.readTwo at h
  split at h
  · split at h
    · cases h; exact .inl rfl
    · split at h
      · cases h
      · cases h; exact .inr rfl
  · cases h

set_option maxHeartbeats 1000000 in
set_option maxRecDepth 100000 in
theorem open_any (a b : ByteArray) (w : World) (hW : WordsAt w) (hP : PowAt w) (ha : a.size ≤ 1152921504606846976) (hb : b.size ≤ 1152921504606846976) :
    Calls Tryd.prog 10 #[.string a, .string b] w (OpenPost (Jn.readTwo a.data.toList b.data.toList) w) := by
  have hr := readJ_any a b w hW ha hb
  have hfile : ∀ C f, Jn.readTwo a.data.toList b.data.toList = some (C, f) → f = 0 ∨ f = 1 := fun C f h => readTwo_file h
  generalize Jn.readTwo a.data.toList b.data.toList = o at *
  have HR := hide hr
  have HP := hide hP
  have HFI := hide hfile
  clear hr hW hP hfile
  go_enter Tryd.func10, Tryd.ntmps10
  go_wp2_with fail
  refine HR.out.mono ?_
  rintro e w1 ⟨hb1, (⟨C, f, B, ho, hc, rfl⟩ | ⟨ho, rfl⟩)⟩
  · have hf := HFI.out C f ho
    have HB1 := hide hb1
    have HO := hide ho
    have HCN := hide hc
    have hst : StAt w.heap.size (w1.alloc (.cells #[.pointer (some ⟨B, 0, none⟩), .int .i64 f] 46)) w1.heap.size B C f :=
      ⟨hb1.size, hf, heap_alloc_new w1 _, hc.below ((Below.refl _ _).alloc (Nat.le_refl _) _)⟩
    have hb2 : Below w.heap.size w (w1.alloc (.cells #[.pointer (some ⟨B, 0, none⟩), .int .i64 f] 46)) := hb1.alloc hb1.size _
    have HMV := hide (move_any w.heap.size w1.heap.size B C f _ hst (HP.out.below HP.out.1 hb2) HP.out.1)
    have HB2 := hide hb2
    have hz1 := hb1.size
    clear hb1 ho hc hst hb2 HR
    go_wp2_with fail
    refine HMV.out.mono ?_
    rintro e w3 ⟨v, rfl, hrow, hst3, hfr⟩
    have HP3 : Hid (OpenPost o w (.returned (.tuple #[.pointer (some ⟨w1.heap.size, 0, none⟩), v, .int .i64 0])) w3) :=
      ⟨HB2.out.trans hfr.below, .inl ⟨C, f, w1.heap.size, B, v, HO.out, hst3, ownsRow_base hrow (by simp; omega), rfl⟩⟩
    clear hrow hst3 hfr HMV
    go_wp2
    go_ret3
    exact HP3.out
  · have HB1 := hide hb1
    have HO := hide ho
    clear hb1 ho HR
    go_wp2
    go_ret3
    exact ⟨HB1.out, .inr ⟨HO.out, rfl⟩⟩
end Go.Proofs.YtellilpeakpbfaaDoor
