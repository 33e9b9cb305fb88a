import Derived.Test.YtellilpeakpbfabGreatDoorRnDToo
import Derived.Deep.RegionLaw
section
/-
  The walk of write.
-/
namespace Go.Proofs.YtellilpeakpbfabGreatDoor
open Go.RowKit

theorem Tryz.infoWr : (Tryz.prog.info? 142).map (fun i => (i.zero, i.size, i.bytes)) = some (some (.agg #[.int .i64 0, .bool false, .int .i64 0]), 3, 24) := by kernel_rfl

theorem WkAt.make {X B : Nat} {w w' : World} {tv wv' : Value} {E : Rn.En} {s s' : Rn.St} (h : WkAt X B w tv E s) (hf : WkFr X w w') (hm : w'.heap[X]? = some (.cells (wkCur E tv wv' B s') 138 (0, 0))) (hr : WRow w' (X + 1) wv' s'.writes) (ht : Rn.Fit E s') : WkAt X B w' tv E s' := by
  have f1 : Fr 0 [138, 142] none w w' := hf.mono (Nat.zero_le _) (fun _ h => h)
  exact ⟨⟨wv', hm, hr⟩, own_fr h.toks f1 (by decide) (.inl rfl), h.con.fr f1 (by decide) (by decide) (by simp), ht⟩
theorem wr3_set (ws : List (Int × Bool × Int)) : ∀ (n : Nat) (p : Int × Bool × Int), n < ws.length → (((wr3 ws).set (n * 3) (.int .i64 p.1)).set (n * 3 + 1) (.bool p.2.1)).set (n * 3 + 2) (.int .i64 p.2.2) = wr3 (ws.set n p) := by
  induction ws with
  | nil => intro n p h; simp at h
  | cons a r ih =>
    intro n p h
    have e : ∀ (x : Int × Bool × Int) (l : List (Int × Bool × Int)), wr3 (x :: l) = .int .i64 x.1 :: .bool x.2.1 :: .int .i64 x.2.2 :: wr3 l := fun _ _ => rfl
    cases n with
    | zero => simp [e]
    | succ n =>
      have e2 : (a :: r).set (n + 1) p = a :: r.set n p := rfl
      rw [e2, e, e, show (n + 1) * 3 = n * 3 + 1 + 1 + 1 by omega]
      simp only [List.set_cons_succ]
      rw [ih n p (by simpa using h)]
theorem wr3_snoc (ws : List (Int × Bool × Int)) (p : Int × Bool × Int) : wr3 (ws ++ [p]) = wr3 ws ++ [.int .i64 p.1, .bool p.2.1, .int .i64 p.2.2] := by simp [wr3]

/-- what write answers. -/
def WrPost (X B : Nat) (tv : Value) (E : Rn.En) (r : Int × Rn.St) (w : World) (e : Ending) (w' : World) : Prop := e = .returned (.int .i64 r.1) ∧ WkAt X B w' tv E r.2 ∧ WkFr X w w'

set_option maxHeartbeats 2000000 in
set_option maxRecDepth 100000 in
theorem write_key (X B : Nat) (w : World) (tv : Value) (E : Rn.En) (s : Rn.St) (p : Int × Bool × Int) (h : WkAt X B w tv E s) (hk : Jn.isKey p.1 = false) :
    Calls Tryz.prog 160 #[.pointer (some ⟨X, 10, none⟩), .agg #[.int .i64 p.1, .bool p.2.1, .int .i64 p.2.2]] w fun e w' => e = .returned (.int .i64 5) ∧ Below w.heap.size w w' := by
  obtain ⟨p1, p2, p3⟩ := p
  simp only at hk ⊢
  have hg : ∀ x, Below w.heap.size w x → Calls Tryz.prog 59 #[.pointer (some ⟨B, 0, none⟩), .int .i64 p1] x fun e w' => e = .returned (.tuple #[.int .i64 0, .bool false, .int .i64 5]) ∧ Below x.heap.size x w' := fun x hx => by
    have := heldGet_any B E.con p1 x (h.below hx).con
    unfold Rn.held at this
    rw [if_neg (by rw [hk]; simp)] at this
    exact this
  have HG := hide hg
  obtain ⟨w1, hw1⟩ : ∃ w1, w1 = w.alloc (.cells #[.int .i64 p1, .bool p2, .int .i64 p3] 142) := ⟨_, rfl⟩
  have hb1 : Below w.heap.size w w1 := by rw [hw1]; exact (Below.refl _ _).alloc (Nat.le_refl _) _
  have hn1 : w1.heap[w.heap.size]? = some (.cells #[.int .i64 p1, .bool p2, .int .i64 p3] 142 (0, 0)) := by rw [hw1]; exact heap_alloc_new w _
  have h1 := h.below hb1
  obtain ⟨wv, -, -, hc, -⟩ := h1.cells
  have c10 : w1.cell? ⟨X, 10, none⟩ = some (.pointer (some ⟨B, 0, none⟩)) := hc 10
  have e0 : w1.cell? ⟨w.heap.size, 0, none⟩ = some (.int .i64 p1) := (cell_of_row w1 _ 0 _ _ _ hn1).trans rfl
  have HB1 := hide hb1
  have HK : Hid (∀ x : World, Below w1.heap.size w1 x → x.cell? ⟨X, 10, none⟩ = some (.pointer (some ⟨B, 0, none⟩)) ∧ x.cell? ⟨w.heap.size, 0, none⟩ = some (.int .i64 p1)) := fun x hx => ⟨at_old hx c10, at_old hx e0⟩
  clear hg h h1 hc hn1 hb1 hk
  go_enter Tryz.func160, Tryz.ntmps160
  go_upto_region 1 with fail
  rw [← hw1]
  clear hw1
  go_region_held3 (fun w' => w'.cell? ⟨X, 10, none⟩ = some (.pointer (some ⟨B, 0, none⟩)) ∧ w'.cell? ⟨w.heap.size, 0, none⟩ = some (.int .i64 p1)) (first | with_reducible exact HK.out _ hb2 | go_keep)
    (first | (go_at_call 59; refine (HG.out _ (Below.drew HB1.out)).mono ?_; rintro e w2 ⟨rfl, hb20⟩; have hb2 : Below w1.heap.size w1 w2 := (Below.drew (Below.refl _ _)).trans hb20))
  have HB2 := hide (HB1.out.trans (hb2.mono HB1.out.size))
  clear hb2 hb20 c10 e0 HG HK
  go_wp2
  go_ret
  exact ⟨rfl, HB2.out⟩

theorem Fit.writes {E : Rn.En} {s : Rn.St} (h : Rn.Fit E s) (ws : List (Int × Bool × Int)) (h1 : ws.length ≤ 8) (h2 : ∀ p ∈ ws, Jn.isKey p.1 = true ∧ (-1000000000 ≤ p.2.2 ∧ p.2.2 ≤ 1000000000)) : Rn.Fit E { s with writes := ws } :=
  ⟨h.tk, h.len, h.arg, h.con, h.fuel, h.pos, h.var, h1, h2, h.used⟩

/-- the cell i is written anew. -/
theorem WkAt.put3 {X B : Nat} {w : World} {tv : Value} {E : Rn.En} {s : Rn.St} {g n cap : Nat} (h : WkAt X B w tv E s) (p : Int × Bool × Int) (hr : WRow w (X + 1) (.slice (some ⟨g, 0, none⟩) s.writes.length cap) s.writes) (hm : w.heap[X]? = some (.cells (wkCur E tv (.slice (some ⟨g, 0, none⟩) s.writes.length cap) B s) 138 (0, 0)))
    (hn : n < s.writes.length) (hk : Jn.isKey p.1 = true) (hv : -1000000000 ≤ p.2.2 ∧ p.2.2 ≤ 1000000000) :
    WkAt X B (((w.setCell ⟨g, n * 3, none⟩ (.int .i64 p.1)).setCell ⟨g, n * 3 + 1, none⟩ (.bool p.2.1)).setCell ⟨g, n * 3 + 2, none⟩ (.int .i64 p.2.2)) tv E { s with writes := s.writes.set n p } ∧
      WkFr X w (((w.setCell ⟨g, n * 3, none⟩ (.int .i64 p.1)).setCell ⟨g, n * 3 + 1, none⟩ (.bool p.2.1)).setCell ⟨g, n * 3 + 2, none⟩ (.int .i64 p.2.2)) := by
  have hXg : X + 1 ≤ g := own_lies hr g rfl
  have r1 := own_set hr (n * 3) (.int .i64 p.1)
  have r2 := own_set r1 (n * 3 + 1) (.bool p.2.1)
  have r3 := own_set r2 (n * 3 + 2) (.int .i64 p.2.2)
  rw [wr3_set s.writes n p hn] at r3
  have ty : ∀ {x : World} {xs : List Value}, x.ownsRow (X + 1) 142 3 (.slice (some ⟨g, 0, none⟩) s.writes.length cap) s.writes.length xs → ∀ k, some g = some k → ∃ cur t z, x.heap[k]? = some (.cells cur t z) ∧ t ∈ [138, 142] := by
    intro x xs hx k hk
    cases hk
    rcases hx.2 with ⟨hv, _⟩ | ⟨g', cap', cur, hv, _, hh, _⟩
    · cases hv
    · cases hv; exact ⟨cur, _, _, hh, by simp⟩
  have f1 : WkFr X w _ := (fr_setCell w g (n * 3) (.int .i64 p.1) (by omega)).typed (ty hr) none
  have f2 : WkFr X _ _ := (fr_setCell (w.setCell ⟨g, n * 3, none⟩ (.int .i64 p.1)) g (n * 3 + 1) (.bool p.2.1) (by omega)).typed (ty r1) none
  have f3 : WkFr X _ _ := (fr_setCell ((w.setCell ⟨g, n * 3, none⟩ (.int .i64 p.1)).setCell ⟨g, n * 3 + 1, none⟩ (.bool p.2.1)) g (n * 3 + 2) (.int .i64 p.2.2) (by omega)).typed (ty r2) none
  have f := (f1.trans f2).trans f3
  refine ⟨h.make (wv' := .slice (some ⟨g, 0, none⟩) s.writes.length cap) f ?_ ?_ (Fit.writes h.fit _ (by rw [List.length_set]; exact h.fit.wrl) ?_), f⟩
  · have ne : X ≠ g := by omega
    rw [heap_setCell_other _ _ _ _ (by simpa using ne), heap_setCell_other _ _ _ _ (by simpa using ne), heap_setCell_other _ _ _ _ (by simpa using ne), hm]
    rfl
  · show World.ownsRow _ _ _ _ _ (s.writes.set n p).length (wr3 (s.writes.set n p))
    rw [List.length_set]
    exact r3
  · intro q hq
    rcases List.mem_or_eq_of_mem_set hq with h1 | h1
    · exact h.fit.wrs q h1
    · rw [h1]; exact ⟨hk, hv⟩

set_option maxHeartbeats 2000000 in
set_option maxRecDepth 100000 in
theorem write_old (X B : Nat) (w : World) (tv : Value) (E : Rn.En) (s : Rn.St) (p : Int × Bool × Int) (h : WkAt X B w tv E s) (hk : Jn.isKey p.1 = true) (hv : -1000000000 ≤ p.2.2 ∧ p.2.2 ≤ 1000000000) (hlt : Rn.find s.writes p.1 < s.writes.length) :
    Calls Tryz.prog 160 #[.pointer (some ⟨X, 10, none⟩), .agg #[.int .i64 p.1, .bool p.2.1, .int .i64 p.2.2]] w (WrPost X B tv E (0, { s with writes := s.writes.set (Rn.find s.writes p.1) p }) w) := by
  obtain ⟨p1, p2, p3⟩ := p
  simp only at hk hv hlt ⊢
  have hg : ∀ x, Below w.heap.size w x → Calls Tryz.prog 59 #[.pointer (some ⟨B, 0, none⟩), .int .i64 p1] x fun e w' => ∃ gv gb, e = .returned (.tuple #[.int .i64 gv, .bool gb, .int .i64 0]) ∧ Below x.heap.size x w' := fun x hx => by
    have := heldGet_any B E.con p1 x (h.below hx).con
    unfold Rn.held at this
    rw [if_pos hk] at this
    exact this.mono fun e w' ⟨he, hb⟩ => ⟨_, _, he, hb⟩
  have HG := hide hg
  have HF := hide (fun x (hx : Below w.heap.size w x) => find_any X B x tv E s p1 (h.below hx))
  obtain ⟨n, hn⟩ : ∃ n, n = Rn.find s.writes p1 := ⟨_, rfl⟩
  rw [← hn] at HF hlt ⊢
  clear hn
  obtain ⟨w1, hw1⟩ : ∃ w1, w1 = w.alloc (.cells #[.int .i64 p1, .bool p2, .int .i64 p3] 142) := ⟨_, rfl⟩
  have hb1 : Below w.heap.size w w1 := by rw [hw1]; exact (Below.refl _ _).alloc (Nat.le_refl _) _
  have hn1 : w1.heap[w.heap.size]? = some (.cells #[.int .i64 p1, .bool p2, .int .i64 p3] 142 (0, 0)) := by rw [hw1]; exact heap_alloc_new w _
  have h1 := h.below hb1
  obtain ⟨wv, hr, hm, hc, -⟩ := h.cells
  obtain ⟨ao, cap, rfl, hsh⟩ := hr.shape
  obtain ⟨g, rfl, hXg, hcs⟩ := hsh (by omega)
  have hwl := h.fit.wrl
  have HK : Hid (∀ x : World, Below w1.heap.size w1 x → x.cell? ⟨X, 10, none⟩ = some (.pointer (some ⟨B, 0, none⟩)) ∧ x.cell? ⟨w.heap.size, 0, none⟩ = some (.int .i64 p1)) := fun x hx => ⟨at_old (hb1.trans (hx.mono hb1.size)) (hc 10), at_old hx ((cell_of_row w1 _ 0 _ _ _ hn1).trans rfl)⟩
  obtain ⟨c10, e0⟩ := HK.out w1 (Below.refl _ _)
  have HB1 := hide hb1
  have HH := hide h
  have HN1 := hide hn1
  have HR := hide hr
  have HM := hide hm
  clear hg h h1 hc hn1 hb1 hr hm hcs hsh
  go_enter Tryz.func160, Tryz.ntmps160
  go_upto_region 1 with fail
  rw [← hw1]
  clear hw1
  go_region_held3 (fun w' => w'.cell? ⟨X, 10, none⟩ = some (.pointer (some ⟨B, 0, none⟩)) ∧ w'.cell? ⟨w.heap.size, 0, none⟩ = some (.int .i64 p1)) (first | with_reducible exact HK.out _ hb2 | go_keep)
    (first | (go_at_call 59; refine (HG.out _ (Below.drew HB1.out)).mono ?_; rintro e w2 ⟨gv, gb, rfl, hb20⟩; have hb2 : Below w1.heap.size w1 w2 := (Below.drew (Below.refl _ _)).trans hb20))
  have k0 := (HK.out _ hb2).2
  have HB2 := hide hb2
  clear hb2 hb20 c10 e0 HG HK
  go_wp2_with fail
  refine (HF.out _ (HB1.out.trans (HB2.out.mono HB1.out.size))).mono ?_
  rintro e w3 ⟨rfl, hb3⟩
  have hb13 : Below w1.heap.size w1 w3 := HB2.out.trans (hb3.mono HB2.out.size)
  have hb03 : Below w.heap.size w w3 := HB1.out.trans (hb13.mono HB1.out.size)
  have hn3 := (hb13.block w.heap.size (Array.getElem?_eq_some_iff.1 HN1.out).1).trans HN1.out
  have e0 : w3.cell? ⟨w.heap.size, 0, none⟩ = some (.int .i64 p1) := (cell_of_row w3 _ 0 _ _ _ hn3).trans rfl
  have e1 : w3.cell? ⟨w.heap.size, 1, none⟩ = some (.bool p2) := (cell_of_row w3 _ 1 _ _ _ hn3).trans rfl
  have e2 : w3.cell? ⟨w.heap.size, 2, none⟩ = some (.int .i64 p3) := (cell_of_row w3 _ 2 _ _ _ hn3).trans rfl
  have h3 := HH.out.below hb03
  have hm3 := (hb03.block X HH.out.lt).trans HM.out
  have hr3 : WRow w3 (X + 1) (.slice (some ⟨g, 0, none⟩) s.writes.length cap) s.writes := ownsRow_below HR.out hb03
  have c11 : w3.cell? ⟨X, 11, none⟩ = some (.slice (some ⟨g, 0, none⟩) s.writes.length cap) := (cell_of_row w3 X 11 _ _ _ hm3).trans rfl
  obtain ⟨u0, d0, z0⟩ := own_cell hr3 (n * 3) (by omega)
  obtain ⟨u1, d1, z1⟩ := own_cell hr3 (n * 3 + 1) (by omega)
  obtain ⟨u2, d2, z2⟩ := own_cell hr3 (n * 3 + 2) (by omega)
  have t1 : decide ((n : Int) < (s.writes.length : Int)) = true := by simp; omega
  have HPUT := hide (WkAt.put3 (w := w3.drew) (n := n) (h3.below (Below.drew (Below.refl _ _))) (p1, p2, p3) hr3 hm3 hlt hk hv)
  have HB3 := hide hb03
  have hlX := HH.out.lt
  clear hb3 hb13 hb03 hn3 h3 hm3 hr3 k0 HF
  go_wp2
  go_region
  go_wp2
  go_ret
  obtain ⟨ha, hb⟩ := HPUT.out
  exact ⟨rfl, ha, (WkFr.below (Below.drew HB3.out) hlX).trans hb⟩
end Go.Proofs.YtellilpeakpbfabGreatDoor

end

section
/-
  The walk of write: a cell more.
-/
namespace Go.Proofs.YtellilpeakpbfabGreatDoor
open Go.RowKit

/-- one write more. -/
theorem wk_push (X B : Nat) (w w9 : World) (tv wv v' : Value) (E : Rn.En) (s : Rn.St) (p : Int × Bool × Int) (o : Obj) (h : WkAt X B w tv E s) (hm : w.heap[X]? = some (.cells (wkCur E tv wv B s) 138 (0, 0))) (hr : WRow w (X + 1) wv s.writes)
    (hl : s.writes.length < 8) (hk : Jn.isKey p.1 = true) (hv : -1000000000 ≤ p.2.2 ∧ p.2.2 ≤ 1000000000)
    (hown : w9.ownsRow (X + 1) 142 3 v' (s.writes.length + 1) (wr3 s.writes ++ [.int .i64 p.1, .bool p.2.1, .int .i64 p.2.2])) (hg : (w.alloc o).grownBy w9 wv.ownBlock) :
    w9.heap[X]? = some (.cells (wkCur E tv wv B s) 138 (0, 0)) ∧ WkAt X B (w9.setCell ⟨X, 11, none⟩ v') tv E { s with writes := s.writes ++ [p] } ∧ WkFr X w (w9.setCell ⟨X, 11, none⟩ v') := by
  have hX := h.lt
  have hne : some X ≠ wv.ownBlock := fun e => by have := own_lies hr X e.symm; omega
  have f1 : WkFr X w (w.alloc o) := Fr.of ((Below.refl _ _).alloc (Nat.le_refl _) _) (Nat.le_of_lt hX)
  have f2 : WkFr X (w.alloc o) w9 := by
    refine (fr_grown hg (by simp; omega) (fun k hk => by have := (hr.lt k hk).1; omega)).typed (fun k hk => ?_) none
    rcases hr.2 with ⟨rfl, _⟩ | ⟨g, cap, cur, rfl, hb, hh, _⟩
    · simp [Value.ownBlock] at hk
    · simp [Value.ownBlock] at hk
      subst hk
      exact ⟨cur, _, _, (Below.heap_alloc _ _ _ (Array.getElem?_eq_some_iff.1 hh).1).trans hh, by simp⟩
  have hm9 : w9.heap[X]? = some (.cells (wkCur E tv wv B s) 138 (0, 0)) := by
    rw [hg.block X (by simp; exact Nat.lt_succ_of_lt hX) hne, Below.heap_alloc _ _ _ hX]
    exact hm
  have f3 : WkFr X w9 (w9.setCell ⟨X, 11, none⟩ v') := (fr_setCell w9 X 11 v' (Nat.le_refl _)).typed (fun k hk => by cases hk; exact ⟨_, _, _, hm9, by simp⟩) none
  have f := (f1.trans f2).trans f3
  refine ⟨hm9, h.make (wv' := v') f ?_ ?_ (Fit.writes h.fit _ (by simp; omega) ?_), f⟩
  · rw [heap_setCell_same w9 X 11 _ _ v' hm9]; rfl
  · show World.ownsRow _ _ _ _ _ (s.writes ++ [p]).length (wr3 (s.writes ++ [p]))
    rw [wr3_snoc, List.length_append]
    exact own_fr hown (fr_setCell (L := X) (T := []) w9 X 11 v' (Nat.le_refl _)) (by simp) (.inr (fun e => by have := own_lies hown X e.symm; omega))
  · intro q hq
    rcases List.mem_append.1 hq with h1 | h1
    · exact h.fit.wrs q h1
    · simp at h1; rw [h1]; exact ⟨hk, hv⟩

set_option maxHeartbeats 2000000 in
set_option maxRecDepth 100000 in
theorem write_new (X B : Nat) (w : World) (tv : Value) (E : Rn.En) (s : Rn.St) (p : Int × Bool × Int) (h : WkAt X B w tv E s) (hk : Jn.isKey p.1 = true) (hv : -1000000000 ≤ p.2.2 ∧ p.2.2 ≤ 1000000000) (hlt : Rn.find s.writes p.1 = s.writes.length) :
    Calls Tryz.prog 160 #[.pointer (some ⟨X, 10, none⟩), .agg #[.int .i64 p.1, .bool p.2.1, .int .i64 p.2.2]] w (WrPost X B tv E (if 8 ≤ s.writes.length then (8, s) else (0, { s with writes := s.writes ++ [p] })) w) := by
  obtain ⟨r, hrr⟩ : ∃ r, r = (if 8 ≤ s.writes.length then ((8 : Int), s) else (0, { s with writes := s.writes ++ [p] })) := ⟨_, rfl⟩
  rw [← hrr]
  obtain ⟨p1, p2, p3⟩ := p
  have HRR := hide hrr
  clear hrr
  simp only at hk hv hlt ⊢
  have hg : ∀ x, Below w.heap.size w x → Calls Tryz.prog 59 #[.pointer (some ⟨B, 0, none⟩), .int .i64 p1] x fun e w' => ∃ gv gb, e = .returned (.tuple #[.int .i64 gv, .bool gb, .int .i64 0]) ∧ Below x.heap.size x w' := fun x hx => by
    have := heldGet_any B E.con p1 x (h.below hx).con
    unfold Rn.held at this
    rw [if_pos hk] at this
    exact this.mono fun e w' ⟨he, hb⟩ => ⟨_, _, he, hb⟩
  have HG := hide hg
  have hff := fun x (hx : Below w.heap.size w x) => find_any X B x tv E s p1 (h.below hx)
  rw [hlt] at hff
  have HF := hide hff
  obtain ⟨w1, hw1⟩ : ∃ w1, w1 = w.alloc (.cells #[.int .i64 p1, .bool p2, .int .i64 p3] 142) := ⟨_, rfl⟩
  have hb1 : Below w.heap.size w w1 := by rw [hw1]; exact (Below.refl _ _).alloc (Nat.le_refl _) _
  have hn1 : w1.heap[w.heap.size]? = some (.cells #[.int .i64 p1, .bool p2, .int .i64 p3] 142 (0, 0)) := by rw [hw1]; exact heap_alloc_new w _
  obtain ⟨wv, hr, hm, hc, -⟩ := h.cells
  obtain ⟨ao, cap, rfl, -⟩ := hr.shape
  have hwl := h.fit.wrl
  have HK : Hid (∀ x : World, Below w1.heap.size w1 x → x.cell? ⟨X, 10, none⟩ = some (.pointer (some ⟨B, 0, none⟩)) ∧ x.cell? ⟨w.heap.size, 0, none⟩ = some (.int .i64 p1)) := fun x hx => ⟨at_old (hb1.trans (hx.mono hb1.size)) (hc 10), at_old hx ((cell_of_row w1 _ 0 _ _ _ hn1).trans rfl)⟩
  obtain ⟨c10, e0⟩ := HK.out w1 (Below.refl _ _)
  have HB1 := hide hb1
  have HH := hide h
  have HN1 := hide hn1
  have HR := hide hr
  have HM := hide hm
  obtain ⟨i0, hi, hy0, hy1, hy2⟩ := info_parts Tryz.infoWr
  clear hg h hc hn1 hb1 hr hm hff hlt
  go_enter Tryz.func160, Tryz.ntmps160
  go_upto_region 1 with fail
  rw [← hw1]
  clear hw1
  go_region_held3 (fun w' => w'.cell? ⟨X, 10, none⟩ = some (.pointer (some ⟨B, 0, none⟩)) ∧ w'.cell? ⟨w.heap.size, 0, none⟩ = some (.int .i64 p1)) (first | with_reducible exact HK.out _ hb2 | go_keep)
    (first | (go_at_call 59; refine (HG.out _ (Below.drew HB1.out)).mono ?_; rintro e w2 ⟨gv, gb, rfl, hb20⟩; have hb2 : Below w1.heap.size w1 w2 := (Below.drew (Below.refl _ _)).trans hb20))
  have k0 := (HK.out _ hb2).2
  have HB2 := hide hb2
  clear hb2 hb20 c10 e0 HG HK
  go_wp2_with fail
  refine (HF.out _ (HB1.out.trans (HB2.out.mono HB1.out.size))).mono ?_
  rintro e w3 ⟨rfl, hb3⟩
  have hb13 : Below w1.heap.size w1 w3 := HB2.out.trans (hb3.mono HB2.out.size)
  have hb03 : Below w.heap.size w w3 := HB1.out.trans (hb13.mono HB1.out.size)
  have hn3 := (hb13.block w.heap.size (Array.getElem?_eq_some_iff.1 HN1.out).1).trans HN1.out
  have e0 : w3.cell? ⟨w.heap.size, 0, none⟩ = some (.int .i64 p1) := (cell_of_row w3 _ 0 _ _ _ hn3).trans rfl
  have e1 : w3.cell? ⟨w.heap.size, 1, none⟩ = some (.bool p2) := (cell_of_row w3 _ 1 _ _ _ hn3).trans rfl
  have e2 : w3.cell? ⟨w.heap.size, 2, none⟩ = some (.int .i64 p3) := (cell_of_row w3 _ 2 _ _ _ hn3).trans rfl
  have h3 := HH.out.below hb03
  have hm3 := (hb03.block X HH.out.lt).trans HM.out
  have hr3 : WRow w3 (X + 1) (.slice ao s.writes.length cap) s.writes := ownsRow_below HR.out hb03
  have c11 : w3.cell? ⟨X, 11, none⟩ = some (.slice ao s.writes.length cap) := (cell_of_row w3 X 11 _ _ _ hm3).trans rfl
  have z11 : w3.frozen? ⟨X, 11, none⟩ = false := frozen_of_row w3 X 11 _ _ hm3
  have hlX := HH.out.lt
  have hXw3 : X + 1 ≤ w3.heap.size := by have := hb03.size; omega
  have HB3 := hide hb03
  have HR3 := hide hr3
  have HM3 := hide hm3
  have H3 := hide h3
  clear hb3 hb13 hb03 hn3 h3 hm3 hr3 k0 HF
  by_cases h8 : 8 ≤ s.writes.length
  · have t2 : decide (8 ≤ (s.writes.length : Int)) = true := by simp; omega
    have HE : Hid (r = (8, s)) := by show _ = _; rw [HRR.out, if_pos h8]
    clear HRR
    go_wp2
    go_ret
    rw [HE.out]
    exact ⟨rfl, HH.out.below HB3.out, WkFr.below HB3.out hlX⟩
  · have t2 : decide (8 ≤ (s.writes.length : Int)) = false := by simp; omega
    have HE : Hid (r = (0, { s with writes := s.writes ++ [(p1, p2, p3)] })) := by show _ = _; rw [HRR.out, if_neg h8]
    have l11 : (w3.alloc (.cells #[.int .i64 p1, .bool p2, .int .i64 p3] 142)).cell? ⟨X, 11, none⟩ = some (.slice ao s.writes.length cap) := at_old (w := w3) ((Below.refl _ _).alloc (Nat.le_refl _) _) c11
    clear HRR
    go_wp2
    go_region_law (refine step_append_own rfl (.tmp 47) (.tmp 49) 94 rfl (X + 1) 142 i0 (.agg #[.int .i64 0, .bool false, .int .i64 0]) 3 24 Tryz.underlying94 hi hy0 hy1 hy2 rfl (by decide) (.slice ao s.writes.length cap) s.writes.length (wr3 s.writes) (by simp [Act.eval]) (World.ownsRow.alloc (w := w3.drew) HR3.out _) ⟨w3.heap.size, 0, none⟩ 1 1 [.int .i64 p1, .bool p2, .int .i64 p3] (by simp [Act.eval]) rfl (cells_new w3.drew #[.int .i64 p1, .bool p2, .int .i64 p3] _) (by intro u hu; simp at hu; rcases hu with rfl | rfl | rfl <;> rfl) (by unfold maxLen; omega) (by omega) (by simp; omega) ?_; intro v9 w9 hown9 hg9; obtain ⟨M9, W10, F10⟩ := wk_push X B w3.drew w9 tv _ v9 E s (p1, p2, p3) _ (H3.out.below (Below.drew (Below.refl _ _))) HM3.out HR3.out (by omega) hk hv hown9 hg9; obtain ⟨ao9, cap9, rfl, -, -⟩ := own_slice hown9; have c9 : w9.cell? ⟨X, 11, none⟩ = some (.slice ao s.writes.length cap) := (cell_of_row w9 X 11 _ _ _ M9).trans rfl; have z9 : w9.frozen? ⟨X, 11, none⟩ = false := frozen_of_row w9 X 11 _ _ M9; have HW10 := hide W10; have HF10 := hide F10; clear M9 W10 F10 hown9 hg9)
    all_goals
      go_wp2
      go_ret
      rw [HE.out]
      exact ⟨rfl, HW10.out, (WkFr.below HB3.out hlX).trans HF10.out.undrew⟩

theorem write_any (X B : Nat) (w : World) (tv : Value) (E : Rn.En) (s : Rn.St) (p : Int × Bool × Int) (h : WkAt X B w tv E s) (hv : -1000000000 ≤ p.2.2 ∧ p.2.2 ≤ 1000000000) :
    Calls Tryz.prog 160 #[.pointer (some ⟨X, 10, none⟩), .agg #[.int .i64 p.1, .bool p.2.1, .int .i64 p.2.2]] w (WrPost X B tv E (Rn.put s p) w) := by
  unfold Rn.put
  cases hk : Jn.isKey p.1 with
  | false =>
    rw [if_pos rfl]
    exact (write_key X B w tv E s p h hk).mono fun e w' ⟨he, hb⟩ => ⟨he, h.below hb, WkFr.below hb h.lt⟩
  | true =>
    rw [if_neg (by simp)]
    by_cases hlt : Rn.find s.writes p.1 < s.writes.length
    · rw [if_pos hlt]
      exact write_old X B w tv E s p h hk hv hlt
    · have he : Rn.find s.writes p.1 = s.writes.length := by have := find_le s.writes p.1; omega
      rw [if_neg hlt, he]
      exact write_new X B w tv E s p h hk hv he
end Go.Proofs.YtellilpeakpbfabGreatDoor

end
