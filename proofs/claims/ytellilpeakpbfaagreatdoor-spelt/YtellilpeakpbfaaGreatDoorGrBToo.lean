import Derived.Test.YtellilpeakpbfaaGreatDoorFuQToo
import Derived.Test.YtellilpeakpbfaaGreatDoorDnUToo
import Derived.Test.YtellilpeakpbfaaGreatDoorKpPToo
import Derived.Laws.AppendOwnNone
import Derived.BigQuiet
section
/-
  The grower: its block, next; rows of texts.
-/
set_option linter.unusedVariables false
namespace Go.Proofs.YtellilpeakpbfaaGreatDoor
open Go.RowKit

/-- a list of texts. -/
def SRow (w : World) (b : Nat) (v : Value) (ts : List (List UInt8)) : Prop := w.ownsRow b 9 1 v ts.length (ts.map T)
theorem SRow.below {w w' : World} {b : Nat} {v : Value} {ts : List (List UInt8)} (h : SRow w b v ts) (hb : Below w.heap.size w w') : SRow w' b v ts := ownsRow_below h hb
theorem SRow.down {w : World} {b b' : Nat} {v : Value} {ts : List (List UInt8)} (h : SRow w b v ts) (hb : b' ≤ b) : SRow w b' v ts := by
  refine ⟨h.1, ?_⟩
  rcases h.2 with hn | ⟨g, cap, cur, rfl, hg, rest⟩
  · exact .inl hn
  · exact .inr ⟨g, cap, cur, rfl, by omega, rest⟩
theorem SRow.shape {w : World} {b : Nat} {v : Value} {ts : List (List UInt8)} (h : SRow w b v ts) : ∃ ao cap, v = .slice ao ts.length cap ∧ (0 < ts.length → ∃ g, ao = some ⟨g, 0, none⟩ ∧ b ≤ g ∧ ∀ j t, ts[j]? = some t → w.cell? ⟨g, j, none⟩ = some (T t)) := by
  have h0 := h
  rcases h.2 with ⟨rfl, hn⟩ | ⟨g, cap, cur, rfl, hg, hh, rest⟩
  · exact ⟨none, 0, by rw [hn], fun hp => by omega⟩
  · refine ⟨_, cap, rfl, fun _ => ⟨g, rfl, hg, fun j t hj => ?_⟩⟩
    have := World.ownsRow.cells h0 (g := g) rfl j (T t) (by rw [List.getElem?_map, hj]; rfl)
    simpa only [Addr.add_lit, Nat.zero_add] using this
theorem srow_one (w : World) (b : Nat) (hb : b ≤ w.heap.size) (X : ByteArray) (t : List UInt8) (hX : X.data.toList = t) : SRow (w.alloc (.cells #[.string X] 9)) b (.slice (some ⟨w.heap.size, 0, none⟩) 1 1) [t] := by
  refine ⟨rfl, .inr ⟨w.heap.size, 1, #[.string X], rfl, hb, heap_alloc_new w _, Nat.le_refl _, by unfold maxLen; decide, rfl, ?_⟩⟩
  simp [T_of hX]
theorem srow_two (w : World) (b : Nat) (hb : b ≤ w.heap.size) (X Y : ByteArray) (t u : List UInt8) (hX : X.data.toList = t) (hY : Y.data.toList = u) : SRow (w.alloc (.cells #[.string X, .string Y] 9)) b (.slice (some ⟨w.heap.size, 0, none⟩) 2 2) [t, u] := by
  refine ⟨rfl, .inr ⟨w.heap.size, 2, #[.string X, .string Y], rfl, hb, heap_alloc_new w _, Nat.le_refl _, by unfold maxLen; decide, rfl, ?_⟩⟩
  simp [T_of hX, T_of hY]
theorem grown_below {w0 w w' : World} {v : Value} {n size : Nat} {e : TypeId} {xs : List Value} (hb : Below w0.heap.size w0 w) (hown : w.ownsRow w0.heap.size e size v n xs) (hg : w.grownBy w' v.ownBlock) : Below w0.heap.size w0 w' := by
  refine ⟨hg.os.trans hb.os, hg.tape.trans hb.tape, hg.output.trans hb.output, Nat.le_trans hb.size hg.size, fun k hk => ?_⟩
  rw [hg.block k (Nat.lt_of_lt_of_le hk hb.size) ?_]
  · exact hb.block k hk
  · intro e
    rcases hown.2 with ⟨rfl, _⟩ | ⟨g, cap, cur, rfl, hgb, _⟩
    · simp [Value.ownBlock] at e
    · simp [Value.ownBlock] at e
      omega
/-- append of a list of texts onto one of the call's own. -/
theorem append_rows0 {ops : Array Oper} {rest : List Oper} {o : Oper} {a : Act} {Q : Exit → Act → World → Prop} (base : Nat) (w : World) (hgd : o.guard = none) (s x : Operand)
    (ho : o.op = .call { callee := .builtin .append, args := #[s, x], argTypes := #[45, 45] }) (b2 : Nat) (v v2 : Value) (ts us : List (List UInt8)) (hs : a.eval s = v) (hx : a.eval x = v2)
    (h1 : SRow w base v ts) (h2 : SRow w b2 v2 us) (hb : base ≤ w.heap.size) (hl : ts.length + us.length ≤ 1000000)
    (h : ∀ v' w', SRow w' base v' (ts ++ us) → w.grownBy w' v.ownBlock → wpList Tryz.prog ops Q rest (a.put o.dst v') w') : wpList Tryz.prog ops Q (o :: rest) a w := by
  obtain ⟨i0, hi, hy0, hy1, hy2⟩ := info_parts Tryz.infoStr
  rcases h2.2 with ⟨rfl, hn⟩ | ⟨g, cap, cur, rfl, hg, hh, hrest⟩
  · have e : us = [] := List.eq_nil_of_length_eq_zero hn
    subst e
    exact wpList_append_own_none hgd s x 45 ho base 9 i0 1 Tryz.underlying45 hi v _ _ hs h1 hx (h v w (by simpa using h1) ⟨rfl, rfl, rfl, Nat.le_refl _, fun _ _ _ => rfl⟩)
  · have hc := World.ownsRow.cells h2 (g := g) rfl
    refine wpList_append_own w hgd s x 45 ho base 9 i0 (.string ⟨#[]⟩) 1 16 Tryz.underlying45 hi hy0 hy1 hy2 rfl (by decide) v ts.length (ts.map T) hs h1 ⟨g, 0, none⟩ us.length cap (us.map T) hx (by simp) hc ?_ (by unfold maxLen; omega) (by omega) hb ?_
    · intro u hu
      obtain ⟨t, -, rfl⟩ := List.mem_map.1 hu
      rfl
    · intro v' w' hrow hgr _
      refine h v' w' ?_ hgr
      show w'.ownsRow _ _ _ _ _ _
      rw [List.length_append, List.map_append]
      exact hrow
theorem append_rows {ops : Array Oper} {rest : List Oper} {o : Oper} {a : Act} {Q : Exit → Act → World → Prop} (w0 w : World) (hgd : o.guard = none) (s x : Operand)
    (ho : o.op = .call { callee := .builtin .append, args := #[s, x], argTypes := #[45, 45] }) (b2 : Nat) (v v2 : Value) (ts us : List (List UInt8)) (hs : a.eval s = v) (hx : a.eval x = v2)
    (h1 : SRow w w0.heap.size v ts) (h2 : SRow w b2 v2 us) (hb : Below w0.heap.size w0 w) (hl : ts.length + us.length ≤ 1000000)
    (h : ∀ v' w', SRow w' w0.heap.size v' (ts ++ us) → Below w0.heap.size w0 w' → wpList Tryz.prog ops Q rest (a.put o.dst v') w') : wpList Tryz.prog ops Q (o :: rest) a w :=
  append_rows0 w0.heap.size w hgd s x ho b2 v v2 ts us hs hx h1 h2 hb.size hl fun v' w' hr hg => h v' w' hr (grown_below hb h1 hg)

/-- The grower at block G; the raw numbers lie below L. -/
structure Gro (L G : Nat) (v : Value) (l : List Int) (room : Int) (w : World) : Prop where
  low : L ≤ G
  ints : IntsAt w v l
  inlow : InLow v l L
  len : l.length ≤ 18000000000000
  nums : ∀ a ∈ l, -9223372036854775808 ≤ a ∧ a ≤ 9223372036854775807
  mem : ∃ k : Nat, k ≤ l.length ∧ w.heap[G]? = some (.cells #[v, .int .i64 k, .int .i64 room] 108 (0, 0))
theorem ints_low {X : Nat} {w w' : World} {v : Value} {l : List Int} (h : IntsAt w v l) (hX : InLow v l X) (hb : Below X w w') : IntsAt w' v l := by
  obtain ⟨ao, cap, hv, hc⟩ := h
  refine ⟨ao, cap, hv, fun hp => ?_⟩
  obtain ⟨g, z, hg, hcs⟩ := hc hp
  refine ⟨g, z, hg, fun i a ha => ?_⟩
  have hgx : g < X := hX hp g (by rw [hv, hg]; rfl)
  exact (hb.cell (p := ⟨g, z + i, none⟩) hgx).trans (hcs i a ha)
theorem Gro.lt {L G : Nat} {v : Value} {l : List Int} {room : Int} {w : World} (h : Gro L G v l room w) : G < w.heap.size := by
  obtain ⟨k, -, hk⟩ := h.mem
  exact (Array.getElem?_eq_some_iff.1 hk).1
theorem Gro.lowL {L G : Nat} {v : Value} {l : List Int} {room : Int} {w : World} (h : Gro L G v l room w) : L ≤ w.heap.size := Nat.le_trans h.low (Nat.le_of_lt h.lt)
theorem Gro.below {L G : Nat} {v : Value} {l : List Int} {room : Int} {w w' : World} (h : Gro L G v l room w) (hb : Below w.heap.size w w') : Gro L G v l room w' := by
  obtain ⟨k, hk, hm⟩ := h.mem
  exact ⟨h.low, h.ints.below hb, h.inlow, h.len, h.nums, k, hk, (hb.block G h.lt).trans hm⟩
theorem Gro.cell {L G : Nat} {v : Value} {l : List Int} {room : Int} {w : World} (h : Gro L G v l room w) : w.cell? ⟨G, 2, none⟩ = some (.int .i64 room) ∧ w.frozen? ⟨G, 2, none⟩ = false := by
  obtain ⟨k, hk, hm⟩ := h.mem
  exact ⟨(cell_of_row w G 2 _ _ _ hm).trans rfl, frozen_of_row w G 2 _ _ hm⟩
theorem Gro.setRoom {L G : Nat} {v : Value} {l : List Int} {room : Int} {w : World} (h : Gro L G v l room w) (r : Int) : Gro L G v l r (w.setCell ⟨G, 2, none⟩ (.int .i64 r)) ∧ Fr L [] (some G) w (w.setCell ⟨G, 2, none⟩ (.int .i64 r)) := by
  have hf : Fr L [] (some G) w (w.setCell ⟨G, 2, none⟩ (.int .i64 r)) := fr_setCell w G 2 _ h.low
  obtain ⟨k, hk, hm⟩ := h.mem
  exact ⟨⟨h.low, ints_low h.ints h.inlow hf.below, h.inlow, h.len, h.nums, k, hk, heap_setCell_same w G 2 _ _ _ hm⟩, hf⟩
theorem Gro.drew {L G : Nat} {v : Value} {l : List Int} {room : Int} {w : World} (h : Gro L G v l room w) (n : Nat) : Gro L G v l room (w.drewN n) ∧ Fr L [] (some G) w (w.drewN n) :=
  ⟨h.below (below_drewN (Below.refl _ _) n), Fr.of (below_drewN (Below.refl _ _) n) h.lowL⟩
theorem Gro.step {L G : Nat} {v : Value} {l : List Int} {room : Int} {w : World} (h : Gro L G v l room w) (n j : Nat) (x : Int) (hx : x = (j : Int)) (hj : j ≤ l.length) : Gro L G v l room ((w.drewN n).setCell ⟨G, 1, none⟩ (.int .i64 x)) ∧ Fr L [] (some G) w ((w.drewN n).setCell ⟨G, 1, none⟩ (.int .i64 x)) := by
  obtain ⟨h1, f1⟩ := h.drew n
  have hf : Fr L [] (some G) (w.drewN n) ((w.drewN n).setCell ⟨G, 1, none⟩ (.int .i64 x)) := fr_setCell _ G 1 _ h.low
  obtain ⟨k, hk, hm⟩ := h1.mem
  subst hx
  exact ⟨⟨h.low, ints_low h1.ints h.inlow hf.below, h.inlow, h.len, h.nums, j, hj, heap_setCell_same _ G 1 _ _ _ hm⟩, f1.trans hf⟩
/-- append in the grower's own loop. -/
theorem append_fr {ops : Array Oper} {rest : List Oper} {o : Oper} {a : Act} {Q : Exit → Act → World → Prop} (w0 w : World) (hgd : o.guard = none) (s x : Operand)
    (ho : o.op = .call { callee := .builtin .append, args := #[s, x], argTypes := #[45, 45] }) (b2 : Nat) (v v2 : Value) (ts us : List (List UInt8)) (hs : a.eval s = v) (hx : a.eval x = v2) {L G : Nat} {vg : Value} {l : List Int} {r : Int}
    (h1 : SRow w w0.heap.size v ts) (h2 : SRow w b2 v2 us) (hg : Gro L G vg l r w) (hf : Fr L [] (some G) w0 w) (hL0 : L ≤ w0.heap.size) (hl : ts.length + us.length ≤ 1000000)
    (h : ∀ v' w', SRow w' w0.heap.size v' (ts ++ us) → Gro L G vg l r w' → Fr L [] (some G) w0 w' → wpList Tryz.prog ops Q rest (a.put o.dst v') w') : wpList Tryz.prog ops Q (o :: rest) a w := by
  refine append_rows0 w0.heap.size w hgd s x ho b2 v v2 ts us hs hx h1 h2 hf.size hl fun v' w' hr hgr => ?_
  have hX : ∀ k, v.ownBlock = some k → w0.heap.size ≤ k := by
    intro k hk
    rcases h1.2 with ⟨rfl, _⟩ | ⟨g, cap, cur, rfl, hgb, _⟩
    · simp [Value.ownBlock] at hk
    · simp [Value.ownBlock] at hk
      omega
  have hfr : Fr L [] v.ownBlock w w' := fr_grown hgr hg.lowL (fun k hk => Nat.le_trans hL0 (hX k hk))
  obtain ⟨k, hk, hm⟩ := hg.mem
  have hne : v.ownBlock ≠ some G := own_neB h1 hm (by decide)
  refine h v' w' hr ⟨hg.low, ints_low hg.ints hg.inlow hfr.below, hg.inlow, hg.len, hg.nums, k, hk, hfr.block G _ _ _ hm (by simp) hne⟩ ?_
  refine ⟨hf.below.trans hfr.below, fun q cur t z hq ht hx => hfr.block q cur t z (hf.block q cur t z hq ht hx) ht (fun e => ?_)⟩
  have := hX q e
  have := (Array.getElem?_eq_some_iff.1 hq).1
  omega
/-- what next answers. -/
def NxPost (L G : Nat) (v : Value) (l : List Int) (room : Int) (n : Nat) (w : World) (e : Ending) (w' : World) : Prop :=
  ∃ c : Nat, c < n ∧ e = .returned (.int .i64 (c : Int)) ∧ Gro L G v l room w' ∧ Fr L [] (some G) w w'

set_option maxHeartbeats 4000000 in
set_option maxRecDepth 100000 in
theorem gnext_any (L G : Nat) (v : Value) (l : List Int) (room : Int) (n : Nat) (n0 : 0 < n) (n1 : n ≤ 1000) (w : World) (h : Gro L G v l room w) :
    Calls Tryz.prog 79 #[.pointer (some ⟨G, 0, none⟩), .int .i64 (n : Int)] w (NxPost L G v l room n w) := by
  have HG := hide h
  obtain ⟨k, hk, hm⟩ := h.mem
  obtain ⟨ao, cap, rfl, hc⟩ := h.ints
  have hlen := h.len
  have c0 := (cell_of_row w G 0 _ _ _ hm).trans rfl
  have c1 := (cell_of_row w G 1 _ _ _ hm).trans rfl
  have f1 := frozen_of_row w G 1 _ _ hm
  have HM := hide hm
  clear hm h
  by_cases hkl : k < l.length
  · obtain ⟨g, z, rfl, hcs⟩ := hc (by omega)
    have hx : l[k]? = some l[k] := List.getElem?_eq_getElem hkl
    obtain ⟨x, hxe⟩ : ∃ x, x = l[k] := ⟨_, rfl⟩
    rw [← hxe] at hx
    have cx := hcs k x hx
    have hxb := HG.out.nums x (List.mem_of_getElem? hx)
    have hp := Kp.pick_bd x n (by omega)
    obtain ⟨c, hce⟩ : ∃ c : Nat, Kp.pick x n = (c : Int) := ⟨(Kp.pick x n).toNat, by omega⟩
    have hcn : c < n := by omega
    have HPK : Hid (∀ y, Calls Tryz.prog 36 #[.int .i64 x, .int .i64 (n : Int)] y fun e w' => e = .returned (.int .i64 (c : Int)) ∧ w' = y) := fun y => by rw [← hce]; exact kpick_any x n n0 (by omega) hxb.1 hxb.2 y
    have t1 : decide (l.length ≤ k) = false := decide_eq_false (by omega)
    have t1' : decide ((l.length : Int) ≤ (k : Int)) = false := decide_eq_false (by omega)
    have HCX := hide cx
    clear hc hcs hx hxe hp hce hxb cx
    go_enter Tryz.func79, Tryz.ntmps79
    go_upto_region 1 with fail
    go_quiet (fail)
    go_upto_region 3 with fail
    have cx : w.cell? ⟨g, z + k, none⟩ = some (.int .i64 x) := HCX.out
    go_quiet (fail)
    go_upto_region 5 with fail
    go_wp2_with fail
    refine (HPK.out _).mono ?_
    rintro e w9 ⟨rfl, rfl⟩
    go_wp2_with fail
    go_ret
    obtain ⟨q1, q2⟩ := HG.out.step _ (k + 1) ((k : Int) + 1) (by omega) (by omega)
    exact ⟨c, hcn, rfl, q1, q2⟩
  · have t1 : decide (l.length ≤ k) = true := decide_eq_true (by omega)
    have t1' : decide ((l.length : Int) ≤ (k : Int)) = true := decide_eq_true (by omega)
    clear hc
    go_enter Tryz.func79, Tryz.ntmps79
    go_upto_region 1 with fail
    go_quiet (fail)
    go_wp2_with fail
    go_ret
    obtain ⟨q1, q2⟩ := HG.out.drew _
    exact ⟨0, n0, rfl, q1, q2⟩
end Go.Proofs.YtellilpeakpbfaaGreatDoor

end

section
/-
  The grower's expressions.
-/
set_option linter.unusedVariables false
namespace Go.Proofs.YtellilpeakpbfaaGreatDoor
open Go.RowKit

/-- what expr and its kin answer: a list of tokens, so much room left. -/
def XPost (L G : Nat) (v : Value) (l : List Int) (room : Int) (lo : Int → Prop) (hi : Int) (R : List (List UInt8) → Int → Prop) (w : World) (e : Ending) (w' : World) : Prop :=
  ∃ vr ts r, e = .returned vr ∧ SRow w' w.heap.size vr ts ∧ R ts (room - r) ∧ lo r ∧ r ≤ hi ∧ ts.length ≤ 1000 ∧ Gro L G v l r w' ∧ Fr L [] (some G) w w'
def ExprAt (L G : Nat) (v : Value) (l : List Int) (dp : Int) : Prop := ∀ (w : World) (room : Int), Gro L G v l room w → -4 ≤ room → room ≤ 16 →
  Calls Tryz.prog 124 #[.pointer (some ⟨G, 0, none⟩), .int .i64 dp] w (XPost L G v l room (fun r => room - 1 ≤ r ∨ -(dp + 1) ≤ r) (room - 1) Kp.ExT w)
theorem wt_len (ts : List (List UInt8)) : 4 * ts.length ≤ Kp.wt ts := by
  induction ts with
  | nil => simp
  | cons t r ih => rw [Kp.wt_cons, List.length_cons]; omega
theorem ExT_len {ts : List (List UInt8)} {n : Int} (h : Kp.ExT ts n) (hn : n ≤ 100) : ts.length ≤ 1000 := by
  obtain ⟨e, -, -, -, h4⟩ := h
  have := wt_len ts
  omega
/-- a leaf's end. -/
theorem leaf_post {L G : Nat} {v : Value} {l : List Int} {room : Int} {lo : Int → Prop} {w w3 w4 : World} {X : ByteArray} {t : List UInt8} (hX : X.data.toList = t) (ht : Kp.ExT [t] 1) (hlo : lo (room - 1))
    (hg : Gro L G v l (room - 1) w3) (hf : Fr L [] (some G) w w3) (hb : Below w3.heap.size w3 w4) :
    XPost L G v l room lo (room - 1) Kp.ExT w (.returned (.slice (some ⟨w4.heap.size, 0, none⟩) 1 1)) (w4.alloc (.cells #[.string X] 9)) := by
  have hz := hf.size
  have hz2 := hb.size
  have hb5 : Below w3.heap.size w3 (w4.alloc (.cells #[.string X] 9)) := hb.alloc hb.size _
  refine ⟨_, [t], room - 1, rfl, srow_one w4 _ (by omega) X t hX, ?_, hlo, Int.le_refl _, by simp, hg.below hb5, hf.trans (Fr.of hb5 hg.lowL)⟩
  rw [show room - (room - 1) = 1 by omega]
  exact ht

set_option maxHeartbeats 16000000 in
set_option maxRecDepth 100000 in
theorem expr_step (L G : Nat) (v : Value) (l : List Int) (dp : Int) (d0 : 0 ≤ dp) (d2 : dp ≤ 2) (ih : 1 ≤ dp → ExprAt L G v l (dp - 1)) : ExprAt L G v l dp := by
  intro w room hg r0 r1
  have HNX := hide (fun (y : World) (n : Nat) (n0 : 0 < n) (n1 : n ≤ 1000) (hy : Gro L G v l (room - 1) y) => gnext_any L G v l (room - 1) n n0 n1 y hy)
  obtain ⟨c2, f2⟩ := hg.cell
  obtain ⟨w1, hw1⟩ : ∃ w1, w1 = w.setCell ⟨G, 2, none⟩ (.int .i64 (room - 1)) := ⟨_, rfl⟩
  obtain ⟨hg1, hf1⟩ := hg.setRoom (room - 1)
  rw [← hw1] at hg1 hf1
  have HN9 := hide (HNX.out w1 9 (by decide) (by decide) hg1)
  have HF1 := hide hf1
  have HIH := hide ih
  clear hg hg1 hf1 ih
  go_enter Tryz.func124, Tryz.ntmps124
  go_upto_region 2 with fail
  rw [← hw1]
  have HW1 := hide hw1
  clear hw1 c2 f2
  go_wp2_with fail
  refine HN9.out.mono ?_
  rintro e w2 ⟨c, hc9, rfl, hg2, hf2⟩
  obtain ⟨c2, -⟩ := hg2.cell
  have HG2 := hide hg2
  have HF2 := hide (HF1.out.trans hf2)
  clear hg2 hf2 HN9 HF1 HW1
  have HN4 := hide (HNX.out w2 4 (by decide) (by decide) HG2.out)
  have HN130 := hide (HNX.out w2 130 (by decide) (by decide) HG2.out)
  have HN5 := hide (HNX.out w2 5 (by decide) (by decide) HG2.out)
  have HDC := hide (fun (i : Nat) (hi : i ≤ 999999) (y : World) => kdecimal_any i hi y)
  clear HNX
  by_cases hleaf : dp = 0 ∨ room - 1 < 0 ∨ c < 4
  · clear HIH HN5
    have hcond : ((dp == 0) = true) ∨ ((dp == 0) = false ∧ decide (room - 1 < 0) = true) ∨ ((dp == 0) = false ∧ decide (room - 1 < 0) = false ∧ decide ((c : Int) < 4) = true) := by
      by_cases a1 : dp = 0
      · exact .inl (by simpa using a1)
      · by_cases a2 : room - 1 < 0
        · exact .inr (.inl ⟨by simpa using a1, decide_eq_true a2⟩)
        · exact .inr (.inr ⟨by simpa using a1, decide_eq_false a2, decide_eq_true (by omega)⟩)
    have hlo : room - 1 ≤ room - 1 ∨ -(dp + 1) ≤ room - 1 := .inl (Int.le_refl _)
    have hk : c = 1 ∨ (c = 2 ∨ c = 3) ∨ (((c : Int) == 1) = false ∧ ((c : Int) == 2) = false ∧ ((c : Int) == 3) = false) := by
      by_cases b1 : c = 1
      · exact .inl b1
      · by_cases b2 : c = 2 ∨ c = 3
        · exact .inr (.inl b2)
        · exact .inr (.inr ⟨by simp; omega, by simp; omega, by simp; omega⟩)
    clear hleaf
    rcases hk with rfl | hk | hk
    · clear HN130
      rcases hcond with t1 | ⟨t1, t2⟩ | ⟨t1, t2, t3⟩
      all_goals go_wp2_with fail
      all_goals refine HN4.out.mono ?_
      all_goals rintro e w3 ⟨i, hi, rfl, hg3, hf3⟩
      all_goals have HG3 := hide hg3
      all_goals have HF3 := hide (HF2.out.trans hf3)
      all_goals clear hg3 hf3
      all_goals go_wp2_with fail
      all_goals refine (HDC.out i (by omega) w3).mono ?_
      all_goals rintro e w4 ⟨X, rfl, hX, hXs, hb4⟩
      all_goals have HX : Hid (((⟨#[97]⟩ : ByteArray) ++ X).data.toList = 97 :: Lib.decDigits i) := by (show _ = _; rw [app_list, hX]; rfl)
      all_goals have HB4 := hide hb4
      all_goals clear hX hb4
      all_goals have hs1 : (⟨#[97]⟩ : ByteArray).size = 1 := rfl
      all_goals go_wp2_with fail
      all_goals go_ret
      all_goals exact leaf_post HX.out (Kp.ExT.arg i hi) hlo HG3.out HF3.out HB4.out
    · clear HN130
      have hk2 : (((c : Int) == 1) = false ∧ ((c : Int) == 2) = true) ∨ (((c : Int) == 1) = false ∧ ((c : Int) == 2) = false ∧ ((c : Int) == 3) = true) := by
        rcases hk with rfl | rfl
        · exact .inl ⟨rfl, rfl⟩
        · exact .inr ⟨rfl, rfl, rfl⟩
      clear hk
      rcases hk2 with ⟨k1, k2⟩ | ⟨k1, k2, k3⟩
      all_goals (rcases hcond with t1 | ⟨t1, t2⟩ | ⟨t1, t2, t3⟩)
      all_goals go_wp2_with fail
      all_goals refine HN4.out.mono ?_
      all_goals rintro e w3 ⟨i, hi, rfl, hg3, hf3⟩
      all_goals have HG3 := hide hg3
      all_goals have HF3 := hide (HF2.out.trans hf3)
      all_goals clear hg3 hf3
      all_goals go_wp2_with fail
      all_goals refine (HDC.out i (by omega) w3).mono ?_
      all_goals rintro e w4 ⟨X, rfl, hX, hXs, hb4⟩
      all_goals have HX : Hid (((⟨#[118]⟩ : ByteArray) ++ X).data.toList = 118 :: Lib.decDigits i) := by (show _ = _; rw [app_list, hX]; rfl)
      all_goals have HB4 := hide hb4
      all_goals clear hX hb4
      all_goals have hs1 : (⟨#[118]⟩ : ByteArray).size = 1 := rfl
      all_goals go_wp2_with fail
      all_goals go_ret
      all_goals exact leaf_post HX.out (Kp.ExT.var i hi) hlo HG3.out HF3.out HB4.out
    · clear HN4
      obtain ⟨k1, k2, k3⟩ := hk
      rcases hcond with t1 | ⟨t1, t2⟩ | ⟨t1, t2, t3⟩
      all_goals go_wp2_with fail
      all_goals refine HN130.out.mono ?_
      all_goals rintro e w3 ⟨i, hi, rfl, hg3, hf3⟩
      all_goals have HG3 := hide hg3
      all_goals have HF3 := hide (HF2.out.trans hf3)
      all_goals clear hg3 hf3
      all_goals go_wp2_with fail
      all_goals refine (HDC.out i (by omega) w3).mono ?_
      all_goals rintro e w4 ⟨X, rfl, hX, hXs, hb4⟩
      all_goals have HX := hide hX
      all_goals have HB4 := hide hb4
      all_goals clear hX hb4
      all_goals go_wp2_with fail
      all_goals go_ret
      all_goals exact leaf_post HX.out (Kp.ExT.num i (by omega)) hlo HG3.out HF3.out HB4.out
  · clear HN4 HN130 HDC
    have hd1 : 1 ≤ dp := by omega
    have hr1 : 0 ≤ room - 1 := by omega
    have hc4 : 4 ≤ c := by omega
    have t1 : (dp == 0) = false := by simp; omega
    have t2 : decide (room - 1 < 0) = false := decide_eq_false (by omega)
    have t3 : decide ((c : Int) < 4) = false := decide_eq_false (by omega)
    have HE := hide (HIH.out hd1)
    clear HIH hleaf
    have HE2 := hide (HE.out w2 (room - 1) HG2.out (by omega) (by omega))
    by_cases h4 : c = 4 ∨ c = 5
    · clear HN5
      rcases h4 with rfl | rfl
      · go_wp2_with fail
        refine HE2.out.mono ?_
        rintro e w3 ⟨vr, ts, r, rfl, hrow, hT, hlo, hhi, hln, hg3, hf3⟩
        have HROW := hide hrow
        have HT := hide hT
        have HG3 := hide hg3
        have HF3 := hide (HF2.out.trans hf3)
        have HX1 : Hid (SRow (w3.alloc (.cells #[.string ⟨#[64]⟩] 9)) w3.heap.size (.slice (some ⟨w3.heap.size, 0, none⟩) 1 1) [[64]]) := srow_one w3 _ (Nat.le_refl _) ⟨#[64]⟩ [64] rfl
        have HX2 : Hid (SRow (w3.alloc (.cells #[.string ⟨#[64]⟩] 9)) w2.heap.size vr ts) := hrow.below ((Below.refl _ _).alloc (Nat.le_refl _) _)
        have HX3 : Hid (Below w3.heap.size w3 (w3.alloc (.cells #[.string ⟨#[64]⟩] 9))) := (Below.refl _ _).alloc (Nat.le_refl _) _
        clear hrow hT hg3 hf3 HE HE2
        go_wp2_with (at_builtin; refine append_rows w3 _ rfl (.tmp 59) (.tmp 60) rfl w2.heap.size _ _ [[64]] ts rfl rfl HX1.out HX2.out HX3.out (by simp; omega) ?_)
        intro v' w5 hrow5 hb5
        have HR5 := hide hrow5
        have HB5 := hide hb5
        clear hrow5 hb5
        go_wp2_with fail
        go_ret
        have hfin := Kp.ExT.un [64] (.inl rfl) HT.out
        rw [show room - 1 - r + 1 = room - r by omega] at hfin
        exact ⟨_, _, r, rfl, HR5.out.down (by have := HF3.out.size; exact this), hfin, by omega, by omega, ExT_len hfin (by omega), HG3.out.below HB5.out, HF3.out.trans (Fr.of HB5.out HG3.out.lowL)⟩
      · go_wp2_with fail
        refine HE2.out.mono ?_
        rintro e w3 ⟨vr, ts, r, rfl, hrow, hT, hlo, hhi, hln, hg3, hf3⟩
        have HROW := hide hrow
        have HT := hide hT
        have HG3 := hide hg3
        have HF3 := hide (HF2.out.trans hf3)
        have HX1 : Hid (SRow (w3.alloc (.cells #[.string ⟨#[35]⟩] 9)) w3.heap.size (.slice (some ⟨w3.heap.size, 0, none⟩) 1 1) [[35]]) := srow_one w3 _ (Nat.le_refl _) ⟨#[35]⟩ [35] rfl
        have HX2 : Hid (SRow (w3.alloc (.cells #[.string ⟨#[35]⟩] 9)) w2.heap.size vr ts) := hrow.below ((Below.refl _ _).alloc (Nat.le_refl _) _)
        have HX3 : Hid (Below w3.heap.size w3 (w3.alloc (.cells #[.string ⟨#[35]⟩] 9))) := (Below.refl _ _).alloc (Nat.le_refl _) _
        clear hrow hT hg3 hf3 HE HE2
        go_wp2_with (at_builtin; refine append_rows w3 _ rfl (.tmp 68) (.tmp 69) rfl w2.heap.size _ _ [[35]] ts rfl rfl HX1.out HX2.out HX3.out (by simp; omega) ?_)
        intro v' w5 hrow5 hb5
        have HR5 := hide hrow5
        have HB5 := hide hb5
        clear hrow5 hb5
        go_wp2_with fail
        go_ret
        have hfin := Kp.ExT.un [35] (.inr rfl) HT.out
        rw [show room - 1 - r + 1 = room - r by omega] at hfin
        exact ⟨_, _, r, rfl, HR5.out.down (by have := HF3.out.size; exact this), hfin, by omega, by omega, ExT_len hfin (by omega), HG3.out.below HB5.out, HF3.out.trans (Fr.of HB5.out HG3.out.lowL)⟩
    · have u4 : ((c : Int) == 4) = false := by simp; omega
      have u5 : ((c : Int) == 5) = false := by simp; omega
      clear h4 HE2
      go_wp2_with fail
      refine HN5.out.mono ?_
      rintro e w3 ⟨i, hi, rfl, hg3, hf3⟩
      have HG3 := hide hg3
      have HF3 := hide (HF2.out.trans hf3)
      have HE2 := hide (HE.out w3 (room - 1) hg3 (by omega) (by omega))
      clear hg3 hf3 HN5 HF2 HG2
      go_wp2_with fail
      refine HE2.out.mono ?_
      rintro e w4 ⟨va, xa, ra, rfl, hrowa, hTa, hloa, hhia, hlna, hg4, hf4⟩
      have HRA := hide hrowa
      have HTA := hide hTa
      have HF4 := hide (HF3.out.trans hf4)
      have HE3 := hide (HE.out w4 ra hg4 (by omega) (by omega))
      obtain ⟨kg, -, hmg⟩ := hg4.mem
      have HNE := hide (own_neB hrowa hmg (by decide))
      clear hrowa hTa hg4 hf4 hmg HE2 HE HF3 HG3
      go_wp2_with fail
      refine HE3.out.mono ?_
      rintro e w5 ⟨vb, bs, rb, rfl, hrowb, hTb, hlob, hhib, hlnb, hg5, hf5⟩
      have hrowa5 : SRow w5 w3.heap.size va xa := own_fr HRA.out hf5 (by simp) (.inr (fun e => HNE.out e.symm))
      have HTB := hide hTb
      have HG5 := hide hg5
      have HF5 := hide (HF4.out.trans hf5)
      obtain ⟨op, hop⟩ : ∃ op : UInt8, op = [43, 45, 42, 60, 61].getD i 0 := ⟨_, rfl⟩
      have hopk : ([op] : List UInt8) = [43] ∨ [op] = [45] ∨ [op] = [42] ∨ [op] = [60] ∨ [op] = [61] := by
        rw [hop]
        match i, hi with
        | 0, _ => simp
        | 1, _ => simp
        | 2, _ => simp
        | 3, _ => simp
        | 4, _ => simp
      have hex : ((⟨#[43, 45, 42, 60, 61]⟩ : ByteArray).extract i (i + 1)).data.toList = [op] := by
        rw [hop]
        match i, hi with
        | 0, _ => rfl
        | 1, _ => rfl
        | 2, _ => rfl
        | 3, _ => rfl
        | 4, _ => rfl
      obtain ⟨X, hXe⟩ : ∃ X, X = (⟨#[43, 45, 42, 60, 61]⟩ : ByteArray).extract i (i + 1) := ⟨_, rfl⟩
      rw [← hXe] at hex
      have HX1 : Hid (SRow (w5.alloc (.cells #[.string X] 9)) w5.heap.size (.slice (some ⟨w5.heap.size, 0, none⟩) 1 1) [[op]]) := srow_one w5 _ (Nat.le_refl _) X [op] hex
      have HX2 : Hid (SRow (w5.alloc (.cells #[.string X] 9)) w3.heap.size va xa) := hrowa5.below ((Below.refl _ _).alloc (Nat.le_refl _) _)
      have HX3 : Hid (Below w5.heap.size w5 (w5.alloc (.cells #[.string X] 9))) := (Below.refl _ _).alloc (Nat.le_refl _) _
      have HRB := hide hrowb
      have HOP := hide hopk
      have HXE := hide hXe
      have hsz5 : (⟨#[43, 45, 42, 60, 61]⟩ : ByteArray).size = 5 := rfl
      clear hrowb hrowa5 hTb hg5 hf5 hex hop hopk hXe HE3 HRA HNE HF4
      go_wp2_with (at_builtin; rw [← HXE.out]; refine append_rows w5 _ rfl (.tmp 85) (.tmp 86) rfl w3.heap.size _ _ [[op]] xa rfl rfl HX1.out HX2.out HX3.out (by simp; omega) ?_)
      intro v6 w6 hrow6 hb6
      have HR6 := hide hrow6
      have HB6 := hide hb6
      have HX4 : Hid (SRow w6 w4.heap.size vb bs) := HRB.out.below hb6
      clear hrow6 hb6 HX1 HX2 HX3 HRB
      go_wp2_with (at_builtin; refine append_rows w5 _ rfl (.tmp 87) (.tmp 88) rfl w4.heap.size _ _ ([[op]] ++ xa) bs rfl rfl HR6.out HX4.out HB6.out (by simp; omega) ?_)
      intro v7 w7 hrow7 hb7
      have HR7 := hide hrow7
      have HB7 := hide hb7
      clear hrow7 hb7 HR6 HB6 HX4
      go_wp2_with fail
      go_ret
      have hfin := Kp.ExT.bin [op] HOP.out HTA.out HTB.out
      rw [show room - 1 - ra + (ra - rb) + 1 = room - rb by omega] at hfin
      refine ⟨_, _, rb, rfl, HR7.out.down HF5.out.size, by simpa using hfin, by omega, by omega, ?_, HG5.out.below HB7.out, HF5.out.trans (Fr.of HB7.out HG5.out.lowL)⟩
      have := ExT_len hfin (by omega)
      simpa using this
theorem expr_0 (L G : Nat) (v : Value) (l : List Int) : ExprAt L G v l 0 := expr_step L G v l 0 (by omega) (by omega) (fun h => by omega)
theorem expr_1 (L G : Nat) (v : Value) (l : List Int) : ExprAt L G v l 1 := expr_step L G v l 1 (by omega) (by omega) (fun _ => expr_0 L G v l)
theorem expr_2 (L G : Nat) (v : Value) (l : List Int) : ExprAt L G v l 2 := expr_step L G v l 2 (by omega) (by omega) (fun _ => expr_1 L G v l)
end Go.Proofs.YtellilpeakpbfaaGreatDoor

end
