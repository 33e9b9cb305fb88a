import Derived.Test.YtellilpeakpbfaaGreatDoorJWriteToo
import Derived.Test.YtellilpeakpbfaaGreatDoorContToo
section
/-
  The walks of Store.move and Open.
-/
namespace Go.Proofs.YtellilpeakpbfaaGreatDoor
open Go.RowKit

/-- A store at block S, its contents at block B; the file that tells it. -/
structure StAt (L : Nat) (w : World) (S B : Nat) (C : Jn.Con) (f : Int) : Prop where
  low : L ≤ S
  file : f = 0 ∨ f = 1
  mem : w.heap[S]? = some (.cells #[.pointer (some ⟨B, 0, none⟩), .int .i64 f] 105 (0, 0))
  con : ConAt L w B C

abbrev ActP := Int × Int × List UInt8
def acts3 (l : List ActP) : List Value := l.flatMap fun a => [.int .i64 a.1, .int .i64 a.2.1, T a.2.2]
/-- A list of acts, from block b on. -/
def ARow (w : World) (b : Nat) (v : Value) (l : List ActP) : Prop := w.ownsRow b 136 3 v l.length (acts3 l)
def moveActs (C : Jn.Con) (f : Int) : List ActP := [(2, f, []), (3, 1 - f, []), (1, 1 - f, Jn.all C), (2, 1 - f, []), (3, f, [])]

theorem StAt.cells {L : Nat} {w : World} {S B : Nat} {C : Jn.Con} {f : Int} (h : StAt L w S B C f) :
    w.cell? ⟨S, 0, none⟩ = some (.pointer (some ⟨B, 0, none⟩)) ∧ w.cell? ⟨S, 1, none⟩ = some (.int .i64 f) ∧ w.frozen? ⟨S, 0, none⟩ = false ∧ w.frozen? ⟨S, 1, none⟩ = false :=
  ⟨(cell_of_row w S 0 _ _ _ h.mem).trans rfl, (cell_of_row w S 1 _ _ _ h.mem).trans rfl, frozen_of_row w S 0 _ _ h.mem, frozen_of_row w S 1 _ _ h.mem⟩
theorem StAt.lt {L : Nat} {w : World} {S B : Nat} {C : Jn.Con} {f : Int} (h : StAt L w S B C f) : S < w.heap.size := (Array.getElem?_eq_some_iff.1 h.mem).1
theorem StAt.fr {L : Nat} {T : List TypeId} {X : Option Nat} {w w' : World} {S B : Nat} {C : Jn.Con} {f : Int} (h : StAt L w S B C f) (g : Fr L T X w w') (h0 : 105 ∉ T) (h1 : 145 ∉ T) (h2 : 62 ∉ T)
    (hX : ∀ k, X = some k → ∀ cur t z, w.heap[k]? = some (.cells cur t z) → t ≠ 105 ∧ t ≠ 145 ∧ t ≠ 62) : StAt L w' S B C f :=
  ⟨h.low, h.file, g.block S _ _ _ h.mem h0 (fun e => (hX S e _ _ _ h.mem).1 rfl), h.con.fr g h1 h2 (fun k hk cur t z hh => (hX k hk cur t z hh).2)⟩
theorem StAt.below {L : Nat} {w w' : World} {S B : Nat} {C : Jn.Con} {f : Int} (h : StAt L w S B C f) (g : Below w.heap.size w w') : StAt L w' S B C f :=
  h.fr (Fr.of (T := []) (X := none) g (Nat.le_trans h.low (Nat.le_of_lt h.lt))) (by simp) (by simp) (by simp) (by simp)

/-- the file is another one. -/
theorem st_setF {L : Nat} {w : World} {S B : Nat} {C : Jn.Con} {f : Int} (h : StAt L w S B C f) (f' : Int) (hf : f' = 0 ∨ f' = 1) :
    StAt L (w.setCell ⟨S, 1, none⟩ (.int .i64 f')) S B C f' ∧ Fr L [105] none w (w.setCell ⟨S, 1, none⟩ (.int .i64 f')) := by
  have h1 := heap_setCell_same w S 1 _ _ (.int .i64 f') h.mem
  have hfr : Fr L [105] none w (w.setCell ⟨S, 1, none⟩ (.int .i64 f')) := by
    refine ⟨(Below.refl L w).setCell (p := ⟨S, 1, none⟩) h.low _, ?_⟩
    intro k cur' t z hk ht _
    rw [heap_setCell_other _ _ _ _ (fun e => ?_)]
    · exact hk
    · simp at e; subst e; rw [h.mem] at hk; cases hk; simp at ht
  exact ⟨⟨h.low, hf, h1, h.con.fr hfr (by decide) (by decide) (by simp)⟩, hfr⟩

theorem arow_new (w : World) (b : Nat) (hb : b ≤ w.heap.size) (l : List ActP) (n : Nat) (hn : n = l.length) (cur : Array Value) (hc : cur.toList = acts3 l) (hm : n ≤ maxLen) :
    ARow (w.alloc (.cells cur 136)) b (.slice (some ⟨w.heap.size, 0, none⟩) n n) l := by
  subst hn
  have hl : (acts3 l).length = l.length * 3 := by
    clear hc hm
    induction l with
    | nil => rfl
    | cons a r ih => simp only [acts3, List.flatMap_cons, List.length_append, List.length_cons, List.length_nil] at ih ⊢; omega
  refine ⟨hl, .inr ⟨_, _, cur, rfl, hb, heap_alloc_new w _, Nat.le_refl _, hm, ?_, ?_⟩⟩
  · rw [← hl, ← hc]; simp
  · rw [hc, ← hl, List.take_length]

set_option maxHeartbeats 1000000 in
set_option maxRecDepth 100000 in
theorem move_any (L S B : Nat) (C : Jn.Con) (f : Int) (w : World) (h : StAt L w S B C f) (hP : PowAt w) (hgL : 1 < L) :
    Calls Tryz.prog 78 #[.pointer (some ⟨S, 0, none⟩)] w fun e w' => ∃ v, e = .returned v ∧ ARow w' w.heap.size v (moveActs C f) ∧ StAt L w' S B C (1 - f) ∧ Fr L [105] none w w' := by
  obtain ⟨c0, c1, f0, f1⟩ := h.cells
  have hf := h.file
  have hset := st_setF h (1 - f) (by omega)
  have hlt := h.lt
  have hf0 : 0 ≤ f ∧ f ≤ 1 := by omega
  obtain ⟨g0, g1⟩ := hf0
  obtain ⟨w1, hw1⟩ : ∃ w1, w1 = w.setCell ⟨S, 1, none⟩ (.int .i64 (1 - f)) := ⟨_, rfl⟩
  rw [← hw1] at hset
  have hz : w1.heap.size = w.heap.size := by rw [hw1]; simp
  have hc := all_any L B C w1 hset.1.con (hP.below hgL hset.2.below)
  have d0 := hset.1.cells.1
  have HC := hide hc
  have HS := hide hset
  clear hc hset h hf hP
  go_enter Tryz.func78, Tryz.ntmps78
  go_wp2_with fail
  rw [← hw1]
  have HW := hide hw1
  clear hw1
  refine HC.out.mono ?_
  rintro e w2 ⟨X, rfl, hX, hb⟩
  have HX := hide hX
  have HB := hide hb
  have hz2 := hb.size
  clear hX hb HC
  go_wp2
  go_ret
  have hL : L ≤ w1.heap.size := Nat.le_trans HS.out.1.low (Nat.le_of_lt HS.out.1.lt)
  refine ⟨_, rfl, ?_, (HS.out.1.below HB.out).below ((Below.refl _ _).alloc (Nat.le_refl _) _), ?_⟩
  · refine arow_new w2 w.heap.size (by omega) (moveActs C f) 5 rfl _ ?_ (by decide)
    simp only [moveActs, acts3, List.flatMap_cons, List.flatMap_nil, ← HX.out]
    rfl
  · exact HS.out.2.trans ((Fr.of HB.out hL).trans (Fr.of ((Below.refl _ _).alloc (Nat.le_refl _) _) (by omega)))

/-- what Open answers. -/
def OpenPost (o : Option (Jn.Con × Int)) (w : World) (e : Ending) (w' : World) : Prop :=
  Below w.heap.size w w' ∧ ((∃ C f S B v, o = some (C, f) ∧ StAt w.heap.size w' S B C (1 - f) ∧ ARow w' w.heap.size v (moveActs C f) ∧ e = .returned (.tuple #[.pointer (some ⟨S, 0, none⟩), v, .int .i64 0])) ∨
    (o = none ∧ e = .returned (.tuple #[.pointer none, .slice none 0 0, .int .i64 11])))

theorem readTwo_file {a b : List UInt8} {C : Jn.Con} {f : Int} (h : Jn.readTwo a b = some (C, f)) : f = 0 ∨ f = 1 := by
  unfold Jn.readTwo at h
  split at h
  · split at h
    · cases h; exact .inl rfl
    · split at h
      · cases h
      · cases h; exact .inr rfl
  · cases h

set_option maxHeartbeats 1000000 in
set_option maxRecDepth 100000 in
theorem open_any (a b : ByteArray) (w : World) (hW : WordsAt w) (hP : PowAt w) (ha : a.size ≤ 1152921504606846976) (hb : b.size ≤ 1152921504606846976) :
    Calls Tryz.prog 76 #[.string a, .string b] w (OpenPost (Jn.readTwo a.data.toList b.data.toList) w) := by
  have hr := readJ_any a b w hW ha hb
  have hfile : ∀ C f, Jn.readTwo a.data.toList b.data.toList = some (C, f) → f = 0 ∨ f = 1 := fun C f h => readTwo_file h
  generalize Jn.readTwo a.data.toList b.data.toList = o at *
  have HR := hide hr
  have HP := hide hP
  have HFI := hide hfile
  clear hr hW hP hfile
  go_enter Tryz.func76, Tryz.ntmps76
  go_wp2_with fail
  refine HR.out.mono ?_
  rintro e w1 ⟨hb1, (⟨C, f, B, ho, hc, rfl⟩ | ⟨ho, rfl⟩)⟩
  · have hf := HFI.out C f ho
    have HB1 := hide hb1
    have HO := hide ho
    have HCN := hide hc
    have hst : StAt w.heap.size (w1.alloc (.cells #[.pointer (some ⟨B, 0, none⟩), .int .i64 f] 105)) w1.heap.size B C f :=
      ⟨hb1.size, hf, heap_alloc_new w1 _, hc.below ((Below.refl _ _).alloc (Nat.le_refl _) _)⟩
    have hb2 : Below w.heap.size w (w1.alloc (.cells #[.pointer (some ⟨B, 0, none⟩), .int .i64 f] 105)) := hb1.alloc hb1.size _
    have HMV := hide (move_any w.heap.size w1.heap.size B C f _ hst (HP.out.below HP.out.1 hb2) HP.out.1)
    have HB2 := hide hb2
    have hz1 := hb1.size
    clear hb1 ho hc hst hb2 HR
    go_wp2_with fail
    refine HMV.out.mono ?_
    rintro e w3 ⟨v, rfl, hrow, hst3, hfr⟩
    have HP3 : Hid (OpenPost o w (.returned (.tuple #[.pointer (some ⟨w1.heap.size, 0, none⟩), v, .int .i64 0])) w3) :=
      ⟨HB2.out.trans hfr.below, .inl ⟨C, f, w1.heap.size, B, v, HO.out, hst3, ownsRow_base hrow (by simp; omega), rfl⟩⟩
    clear hrow hst3 hfr HMV
    go_wp2
    go_ret3
    exact HP3.out
  · have HB1 := hide hb1
    have HO := hide ho
    clear hb1 ho HR
    go_wp2
    go_ret3
    exact ⟨HB1.out, .inr ⟨HO.out, rfl⟩⟩
end Go.Proofs.YtellilpeakpbfaaGreatDoor

end

section
/-
  What the law's Hold keeps: lists full of marks; the World's block.
-/
namespace Go.Proofs.YtellilpeakpbfaaGreatDoor
open Go.RowKit

theorem rep_of {m xs : List Value} {n : Nat} (hl : xs.length = n * m.length) (h : ∀ j, j < n * m.length → xs[j]? = m[j % m.length]?) : xs = rep m n := by
  apply List.ext_getElem?
  intro j
  by_cases hj : j < n * m.length
  · rw [h j hj, rep_at m n j hj]
  · rw [List.getElem?_eq_none (by omega), List.getElem?_eq_none (by rw [rep_len]; omega)]
theorem set2_at {a b : Value} {xs : List Value} {k : Nat} (hl : k * 2 + 2 ≤ xs.length) (h : ∀ j, j < k * 2 → xs[j]? = [a, b][j % 2]?) : ∀ j, j < (k + 1) * 2 → ((xs.set (k * 2) a).set (k * 2 + 1) b)[j]? = [a, b][j % 2]? := by
  intro j hj
  rw [List.getElem?_set, List.getElem?_set]
  by_cases h1 : k * 2 + 1 = j
  · rw [if_pos h1, if_pos (by simp; omega)]
    rw [show j % 2 = 1 by omega]; rfl
  · rw [if_neg h1]
    by_cases h2 : k * 2 = j
    · rw [if_pos h2, if_pos (by omega), show j % 2 = 0 by omega]; rfl
    · rw [if_neg h2]; exact h j (by omega)
theorem set3_at {a b c : Value} {xs : List Value} {k : Nat} (hl : k * 3 + 3 ≤ xs.length) (h : ∀ j, j < k * 3 → xs[j]? = [a, b, c][j % 3]?) : ∀ j, j < (k + 1) * 3 → (((xs.set (k * 3) a).set (k * 3 + 1) b).set (k * 3 + 2) c)[j]? = [a, b, c][j % 3]? := by
  intro j hj
  rw [List.getElem?_set, List.getElem?_set, List.getElem?_set]
  by_cases h0 : k * 3 + 2 = j
  · rw [if_pos h0, if_pos (by simp; omega)]
    rw [show j % 3 = 2 by omega]; rfl
  · rw [if_neg h0]
    by_cases h1 : k * 3 + 1 = j
    · rw [if_pos h1, if_pos (by simp; omega)]
      rw [show j % 3 = 1 by omega]; rfl
    · rw [if_neg h1]
      by_cases h2 : k * 3 = j
      · rw [if_pos h2, if_pos (by omega), show j % 3 = 0 by omega]; rfl
      · rw [if_neg h2]; exact h j (by omega)
theorem own_set {w : World} {b : Nat} {e : TypeId} {size : Nat} {g n cap : Nat} {xs : List Value} (h : w.ownsRow b e size (.slice (some ⟨g, 0, none⟩) n cap) n xs) (j : Nat) (u : Value) : (w.setCell ⟨g, j, none⟩ u).ownsRow b e size (.slice (some ⟨g, 0, none⟩) n cap) n (xs.set j u) := by
  refine ⟨by rw [List.length_set]; exact h.1, .inr ?_⟩
  rcases h.2 with ⟨hv, _⟩ | ⟨g', cap', cur, hv, hb, hh, h1, h2, h3, h4⟩
  · cases hv
  · cases hv
    refine ⟨g, cap, _, rfl, hb, heap_setCell_same w g j cur _ u hh, h1, h2, by simp [h3], ?_⟩
    rw [Array.toList_setIfInBounds, List.take_set, h4]
theorem fr_setCell {L : Nat} {T : List TypeId} (w : World) (g j : Nat) (u : Value) (hL : L ≤ g) : Fr L T (some g) w (w.setCell ⟨g, j, none⟩ u) := by
  refine ⟨(Below.refl L w).setCell (p := ⟨g, j, none⟩) hL _, ?_⟩
  intro k cur t z hk _ hX
  rw [heap_setCell_other _ _ _ _ (fun e => hX (by simp at e; rw [e]))]
  exact hk
theorem own_cell {w : World} {b : Nat} {e : TypeId} {size : Nat} {g n cap : Nat} {xs : List Value} (h : w.ownsRow b e size (.slice (some ⟨g, 0, none⟩) n cap) n xs) (j : Nat) (hj : j < n * size) : ∃ u, w.cell? ⟨g, j, none⟩ = some u ∧ w.frozen? ⟨g, j, none⟩ = false := by
  rcases h.2 with ⟨hv, _⟩ | ⟨g', cap', cur, hv, hb, hh, h1, h2, h3, h4⟩
  · cases hv
  · cases hv
    have : j < cur.size := by rw [h3]; exact Nat.lt_of_lt_of_le hj (Nat.mul_le_mul_right _ h1)
    exact ⟨cur[j], (cell_of_row w g j cur e (0, 0) hh).trans (Array.getElem?_eq_getElem this), frozen_of_row w g j cur e hh⟩
theorem own_slice {w : World} {b : Nat} {e : TypeId} {size : Nat} {v : Value} {n : Nat} {xs : List Value} (h : w.ownsRow b e size v n xs) : ∃ ao cap, v = .slice ao n cap ∧ n ≤ maxLen ∧ (0 < n → ∃ g, ao = some ⟨g, 0, none⟩ ∧ b ≤ g) := by
  rcases h.2 with ⟨rfl, hn⟩ | ⟨g, cap, cur, rfl, hb, hh, h1, h2, h3, h4⟩
  · exact ⟨none, 0, by rw [hn], by omega, fun h => by omega⟩
  · exact ⟨_, _, rfl, Nat.le_trans h1 h2, fun _ => ⟨g, rfl, hb⟩⟩
/-- behind an append that may have turned the row X. -/
theorem fr_grown {L : Nat} {T : List TypeId} {w w' : World} {row : Option Nat} (h : w.grownBy w' row) (hL : L ≤ w.heap.size) (hr : ∀ k, row = some k → L ≤ k) : Fr L T row w w' := by
  refine ⟨⟨h.os, h.tape, h.output, h.size, fun k hk => h.block k (by omega) (fun e => by have := hr k e.symm; omega)⟩, ?_⟩
  intro k cur t z hk _ hX
  rw [h.block k (Array.getElem?_eq_some_iff.1 hk).1 (fun e => hX e.symm)]
  exact hk
theorem Fr.any {L : Nat} {T : List TypeId} {X : Option Nat} {w w' : World} (h : Fr L T none w w') : Fr L T X w w' := ⟨h.below, fun k cur t z hk ht _ => h.block k cur t z hk ht (by simp)⟩
/-- the row that was turned is of a type that is named. -/
theorem Fr.typed {L : Nat} {T : List TypeId} {X : Option Nat} {w w' : World} (h : Fr L T X w w') (hX : ∀ k, X = some k → ∃ cur t z, w.heap[k]? = some (.cells cur t z) ∧ t ∈ T) (Y : Option Nat) : Fr L T Y w w' := by
  refine ⟨h.below, fun k cur t z hk ht _ => h.block k cur t z hk ht (fun e => ?_)⟩
  obtain ⟨cur', t', z', h1, h2⟩ := hX k e
  rw [hk] at h1
  cases h1
  exact ht h2

/-- The lists that are kept, of one kind: the i-th is full of the mark i / 3 + 1; they lie below block N. -/
structure HoldRow (L N : Nat) (w : World) (e sl : TypeId) (mk : Nat → List Value) (vs : Value) (ls : List Value) : Prop where
  row : w.ownsRow L sl 1 vs ls.length ls
  three : ls.length % 3 = 0
  full : ∀ i u, ls[i]? = some u → ∃ n, Full w 0 e (mk (i / 3 + 1)) u n ∧ (∀ k, u.ownBlock = some k → k < N)
theorem HoldRow.mono {L N N' : Nat} {w : World} {e sl : TypeId} {mk : Nat → List Value} {vs : Value} {ls : List Value} (h : HoldRow L N w e sl mk vs ls) (hN : N ≤ N') : HoldRow L N' w e sl mk vs ls :=
  ⟨h.row, h.three, fun i u hu => by obtain ⟨n, h1, h2⟩ := h.full i u hu; exact ⟨n, h1, fun k hk => Nat.lt_of_lt_of_le (h2 k hk) hN⟩⟩
theorem HoldRow.fr {L N : Nat} {T : List TypeId} {X : Option Nat} {w w' : World} {e sl : TypeId} {mk : Nat → List Value} {vs : Value} {ls : List Value} (h : HoldRow L N w e sl mk vs ls) (f : Fr L T X w w') (hs : sl ∉ T) (he : e ∉ T) (hX : ∀ k, X = some k → N ≤ k) (hXs : X = none ∨ X ≠ vs.ownBlock) : HoldRow L N w' e sl mk vs ls := by
  refine ⟨own_fr h.row f hs hXs, h.three, fun i u hu => ?_⟩
  obtain ⟨n, h1, h2⟩ := h.full i u hu
  refine ⟨n, own_fr h1 f he ?_, h2⟩
  cases hx : X with
  | none => exact .inl rfl
  | some k =>
    right
    intro e
    have := h2 k e.symm
    have := hX k hx
    omega

theorem cells_new (w : World) (xs : Array Value) (t : TypeId) : ∀ j u, xs.toList[j]? = some u → (w.alloc (.cells xs t)).cell? ((⟨w.heap.size, 0, none⟩ : Addr).add j) = some u := by
  intro j u h
  have e : (⟨w.heap.size, 0, none⟩ : Addr).add j = ⟨w.heap.size, j, none⟩ := by unfold Addr.add; split <;> simp_all
  rw [e, cell_of_row _ w.heap.size j xs t (0, 0) (heap_alloc_new w _)]
  simpa using h
theorem cells_newN {w : World} {N : Nat} (hN : N = w.heap.size) (xs : Array Value) (t : TypeId) : ∀ j u, xs.toList[j]? = some u → (w.alloc (.cells xs t)).cell? ((⟨N, 0, none⟩ : Addr).add j) = some u := by
  subst hN; exact cells_new w xs t
theorem bd3 {n : Nat} (h : (n + 3) * 24 ≤ 140737488355328) : (n + 1) * 24 ≤ 140737488355328 ∧ (n + 1 + 1) * 24 ≤ 140737488355328 ∧ (n + 2 + 1) * 24 ≤ 140737488355328 ∧ n + 1 ≤ maxLen ∧ n + 1 + 1 ≤ maxLen ∧ n + 2 + 1 ≤ maxLen := by unfold maxLen; omega
theorem up1 {L a b : Nat} (h : L ≤ a) (g : a ≤ b) : L ≤ b + 1 := by omega
/-- rows of two types lie in two blocks. -/
theorem own_ne {w : World} {b b' : Nat} {e e' : TypeId} {s s' : Nat} {v v' : Value} {n n' : Nat} {xs xs' : List Value} (h : w.ownsRow b e s v n xs) (h' : w.ownsRow b' e' s' v' n' xs') (he : e ≠ e') : v.ownBlock = none ∨ v.ownBlock ≠ v'.ownBlock := by
  rcases h.2 with ⟨rfl, _⟩ | ⟨g, cap, cur, rfl, hb, hh, _⟩
  · exact .inl rfl
  · right
    intro eq
    rcases h'.2 with ⟨rfl, _⟩ | ⟨g', cap', cur', rfl, hb', hh', _⟩
    · simp [Value.ownBlock] at eq
    · simp [Value.ownBlock] at eq
      subst eq
      rw [hh] at hh'
      simp at hh'
      exact he hh'.2
/-- a row lies in no block of another type. -/
theorem own_neB {w : World} {b : Nat} {e t : TypeId} {s : Nat} {v : Value} {n : Nat} {xs : List Value} {cur : Array Value} {z : Nat × Nat} {W : Nat} (h : w.ownsRow b e s v n xs) (h' : w.heap[W]? = some (.cells cur t z)) (he : e ≠ t) : v.ownBlock ≠ some W := by
  intro eq
  rcases h.2 with ⟨rfl, _⟩ | ⟨g, cap, cur, rfl, hb, hh, _⟩
  · simp [Value.ownBlock] at eq
  · simp [Value.ownBlock] at eq
    subst eq
    rw [hh] at h'
    simp at h'
    exact he h'.2.1
def mkC (i : Nat) : List Value := [.int .i64 i, .int .i64 0]
def mkA (i : Nat) : List Value := [.int .i64 i, .int .i64 0, T []]

/-- The World at block W. -/
def WAt (w : World) (W : Nat) (vx vd vp vc vq va : Value) : Prop := w.heap[W]? = some (.cells #[vx, vd, vp, vc, vq, va] 92 (0, 0))
theorem WAt.cell {w : World} {W : Nat} {vx vd vp vc vq va : Value} (h : WAt w W vx vd vp vc vq va) :
    w.cell? ⟨W, 0, none⟩ = some vx ∧ w.cell? ⟨W, 1, none⟩ = some vd ∧ w.cell? ⟨W, 2, none⟩ = some vp ∧ w.cell? ⟨W, 3, none⟩ = some vc ∧ w.cell? ⟨W, 4, none⟩ = some vq ∧ w.cell? ⟨W, 5, none⟩ = some va :=
  ⟨(cell_of_row w W 0 _ _ _ h).trans rfl, (cell_of_row w W 1 _ _ _ h).trans rfl, (cell_of_row w W 2 _ _ _ h).trans rfl, (cell_of_row w W 3 _ _ _ h).trans rfl, (cell_of_row w W 4 _ _ _ h).trans rfl, (cell_of_row w W 5 _ _ _ h).trans rfl⟩
theorem WAt.fz {w : World} {W : Nat} {vx vd vp vc vq va : Value} (h : WAt w W vx vd vp vc vq va) (j : Nat) : w.frozen? ⟨W, j, none⟩ = false := frozen_of_row w W j _ _ h
theorem WAt.fr {L : Nat} {T : List TypeId} {X : Option Nat} {w w' : World} {W : Nat} {vx vd vp vc vq va : Value} (h : WAt w W vx vd vp vc vq va) (f : Fr L T X w w') (ht : 92 ∉ T) (hX : X ≠ some W) : WAt w' W vx vd vp vc vq va := f.block W _ _ _ h ht hX
theorem WAt.lt {w : World} {W : Nat} {vx vd vp vc vq va : Value} (h : WAt w W vx vd vp vc vq va) : W < w.heap.size := (Array.getElem?_eq_some_iff.1 h).1
theorem wat_set {w : World} {W : Nat} {vx vd vp vc vq va : Value} (h : WAt w W vx vd vp vc vq va) (j : Nat) (u : Value) : (w.setCell ⟨W, j, none⟩ u).heap[W]? = some (.cells (#[vx, vd, vp, vc, vq, va].setIfInBounds j u) 92 (0, 0)) := heap_setCell_same w W j _ _ u h
end Go.Proofs.YtellilpeakpbfaaGreatDoor

end
