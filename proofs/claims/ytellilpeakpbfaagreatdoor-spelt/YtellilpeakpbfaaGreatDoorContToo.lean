import Derived.Test.YtellilpeakpbfaaGreatDoorFramToo
section
/-
  Lists that are full of one mark: append onto one leaves every such list full.
-/
namespace Go.Proofs.YtellilpeakpbfaaGreatDoor
open Go.RowKit

/-- n times the cells of a mark. -/
def rep (m : List Value) (n : Nat) : List Value := (List.replicate n m).flatten
theorem rep_zero (m : List Value) : rep m 0 = [] := rfl
theorem rep_succ (m : List Value) (n : Nat) : rep m (n + 1) = m ++ rep m n := by simp [rep, List.replicate_succ]
theorem rep_len (m : List Value) (n : Nat) : (rep m n).length = n * m.length := by
  induction n with
  | zero => simp [rep]
  | succ n ih => rw [rep_succ, List.length_append, ih, Nat.succ_mul]; omega
theorem rep_add (m : List Value) (a b : Nat) : rep m (a + b) = rep m a ++ rep m b := by
  induction a with
  | zero => simp [rep]
  | succ a ih => rw [show a + 1 + b = (a + b) + 1 by omega, rep_succ, rep_succ, ih, List.append_assoc]
theorem rep_snoc (m : List Value) (n : Nat) : rep m (n + 1) = rep m n ++ m := by
  rw [rep_add]; simp [rep]
theorem rep_at (m : List Value) (n : Nat) : ∀ j, j < n * m.length → (rep m n)[j]? = m[j % m.length]? := by
  induction n with
  | zero => intro j h; simp at h
  | succ n ih =>
    intro j h
    rw [rep_succ]
    by_cases hj : j < m.length
    · rw [List.getElem?_append_left hj, Nat.mod_eq_of_lt hj]
    · rw [List.getElem?_append_right (by omega), ih (j - m.length) (by rw [Nat.succ_mul] at h; omega)]
      congr 1
      rw [Nat.mod_eq_sub_mod (show j ≥ m.length by omega)]

/-- A list of n elements that are all the mark. -/
def Full (w : World) (b : Nat) (e : TypeId) (m : List Value) (v : Value) (n : Nat) : Prop := w.ownsRow b e m.length v n (rep m n)

theorem full_row {cur : List Value} {m : List Value} {n n' k : Nat} (hn' : cur.take (n' * m.length) = rep m n') (hfit : n * m.length + k * m.length ≤ cur.length) :
    (cur.take (n * m.length) ++ rep m k ++ cur.drop (n * m.length + k * m.length)).take (n' * m.length) = rep m n' := by
  apply List.ext_getElem?
  intro j
  by_cases hj : j < n' * m.length
  · rw [List.getElem?_take, if_pos hj, rep_at m n' j hj]
    have hcur : cur[j]? = m[j % m.length]? := by
      have := congrArg (·[j]?) hn'
      simp only [List.getElem?_take, if_pos hj, rep_at m n' j hj] at this
      exact this
    have hl1 : (cur.take (n * m.length)).length = n * m.length := by simp; omega
    by_cases h1 : j < n * m.length
    · rw [List.append_assoc, List.getElem?_append_left (by omega), List.getElem?_take, if_pos h1]
      exact hcur
    · rw [List.append_assoc, List.getElem?_append_right (by omega), hl1]
      by_cases h2 : j - n * m.length < k * m.length
      · rw [List.getElem?_append_left (by rw [rep_len]; exact h2), rep_at m k _ h2]
        congr 1
        rw [show n * m.length = m.length * n from Nat.mul_comm _ _]
        conv => rhs; rw [show j = (j - m.length * n) + m.length * n by rw [Nat.mul_comm m.length n]; omega]
        rw [Nat.add_mul_mod_self_left]
      · rw [List.getElem?_append_right (by rw [rep_len]; omega), rep_len, List.getElem?_drop]
        rw [show n * m.length + k * m.length + (j - n * m.length - k * m.length) = j by omega]
        exact hcur
  · rw [List.getElem?_take, if_neg hj, List.getElem?_eq_none (by rw [rep_len]; omega)]

section
variable {P : Program} (w : World)
theorem run_append_marks (base : Nat) (t ty e : TypeId) (i : TypeInfo) (z : Value) (bytes : Nat) (m : List Value) (ht : P.underlying t = some (.slice e)) (hi : P.info? e = some i) (hz : i.zero = some z)
    (hsize : i.size = m.length) (hby : i.bytes = bytes) (hzs : z.cells.size = m.length)
    (v : Value) (n : Nat) (hown : Full w base e m v n)
    (a : Addr) (k c : Nat) (hk : 0 < k) (hnews : ∀ j u, (rep m k)[j]? = some u → w.cell? (a.add j) = some u) (h1 : ∀ u ∈ m, u.oneCell' = true)
    (h63 : n + k ≤ maxLen) (hbytes : (n + k) * bytes ≤ 140737488355328) (hbase : base ≤ w.heap.size) :
    ∃ v' w', (Builtin.append_ #[t, t] ty #[v, .slice (some a) k c]).run P w = .ok v' w' ∧ Full w' base e m v' (n + k) ∧ w.grownBy w' v.ownBlock ∧
      (∀ b u n', Full w b e m u n' → Full w' b e m u n') ∧ (∀ j, v'.ownBlock = some j → v.ownBlock = some j ∨ w.heap.size ≤ j) := by
  have h1' : ∀ u ∈ rep m k, u.oneCell' = true := by
    intro u hu
    unfold rep at hu
    obtain ⟨l, hl, hu⟩ := List.mem_flatten.1 hu
    rw [List.mem_replicate] at hl
    rw [hl.2] at hu
    exact h1 u hu
  have hl : (rep m k).length = k * i.size := by rw [rep_len, hsize]
  have hown' : w.ownsRow base e i.size v n (rep m n) := by rw [hsize]; exact hown
  subst hby
  have hlen : (rep m n ++ rep m k).length = (n + k) * m.length := by rw [List.length_append, rep_len, rep_len, Nat.add_mul]
  have grown : ∀ (old : Nat), old < n + k → ∀ (row : Option Nat),
      Full (w.drew.alloc (.cells ((rep m n).toArray ++ (rep m k).toArray ++ Builtin.zeroCells z.cells (grownCap w (n + k) old e - (n + k))) e)) base e m
        (.slice (some ⟨w.heap.size, 0, none⟩) (n + k) (grownCap w (n + k) old e)) (n + k) ∧
      w.grownBy (w.drew.alloc (.cells ((rep m n).toArray ++ (rep m k).toArray ++ Builtin.zeroCells z.cells (grownCap w (n + k) old e - (n + k))) e)) row ∧
      (∀ b u n', Full w b e m u n' → Full (w.drew.alloc (.cells ((rep m n).toArray ++ (rep m k).toArray ++ Builtin.zeroCells z.cells (grownCap w (n + k) old e - (n + k))) e)) b e m u n') := by
    intro old ho row
    have hge := grownCap_ge w (n + k) old e
    have hcm : grownCap w (n + k) old e ≤ maxLen := grownCap_le_maxLen w (n + k) old e h63
    refine ⟨?_, ⟨rfl, rfl, rfl, by simp, fun q hq _ => Below.heap_alloc w.drew _ q hq⟩, fun b u n' hu => ?_⟩
    · unfold Full
      rw [rep_add]
      refine ⟨hlen, .inr ⟨w.heap.size, _, _, rfl, hbase, heap_alloc_new w.drew _, hge, hcm, ?_, ?_⟩⟩
      · simp only [Array.size_append, List.size_toArray, size_zeroCells, hzs, rep_len, ← Nat.add_mul]
        congr 1
        omega
      · simp only [Array.toList_append, List.append_assoc]
        rw [← List.append_assoc, ← hlen]
        exact List.take_left
    · exact World.ownsRow.kept hu ⟨rfl, rfl, rfl, by simp, fun q hq _ => Below.heap_alloc w.drew _ q hq⟩ (row := none) (by cases u.ownBlock <;> simp)
  rcases hown'.2 with ⟨rfl, rfl⟩ | ⟨g, cap, cur, rfl, hbg, hg, hnc, hcm, hcs, htake⟩
  · have hr := run_append_nil (P := P) w t ty e i z ht hi hz a k c (rep m k) hl hnews (by omega) (by simp only [maxLen] at h63; omega) (by have hb := hbytes; simp only [Nat.zero_add] at hb; omega)
    have hgr := grown 0 (by omega) (Value.ownBlock (.slice none 0 0))
    simp only [Nat.zero_add, rep_zero, Array.empty_append] at hgr ⊢
    refine ⟨_, _, hr, hgr.1, hgr.2.1, hgr.2.2, ?_⟩
    intro j hj
    simp [Value.ownBlock] at hj
    exact .inr (by omega)
  · by_cases hroom : n + k ≤ cap
    · have hfit : n * i.size + (rep m k).length ≤ cur.size := by rw [hl, hcs, ← Nat.add_mul]; exact Nat.mul_le_mul_right _ hroom
      have hr := run_append_room (P := P) w t ty e i ht hi g n cap cur hg a k c (rep m k) hl hnews h1' hroom hfit
      rw [hsize] at hr hfit htake hcs
      rw [rep_len] at hr hfit
      have hcl : cur.toList.length = cur.size := by simp
      refine ⟨_, _, hr, ?_, ⟨rfl, rfl, rfl, by simp, fun q _ hq => setRow_other w g q _ (fun e => hq (by simp [Value.ownBlock, e]))⟩, ?_, fun j hj => .inl hj⟩
      · unfold Full
        rw [rep_add]
        refine ⟨hlen, .inr ⟨g, cap, _, rfl, hbg, setRow_heap w g cur _ e _ hg, hroom, hcm, ?_, ?_⟩⟩
        · simp only [List.size_toArray, List.length_append, List.length_take, List.length_drop, hcl, rep_len]
          omega
        · show List.take _ (cur.toList.take (n * m.length) ++ rep m k ++ _) = _
          rw [htake, ← hlen]
          exact List.take_left
      · intro b u n' hu
        refine ⟨hu.1, ?_⟩
        rcases hu.2 with hn | ⟨g', cap', cur', rfl, hb', hh', hn1, hn2, hn3, hn4⟩
        · exact .inl hn
        · by_cases hgg : g' = g
          · subst hgg
            rw [hg] at hh'
            cases hh'
            refine .inr ⟨g', cap', _, rfl, hb', setRow_heap w g' cur _ e _ hg, hn1, hn2, ?_, ?_⟩
            · simp only [List.size_toArray, List.length_append, List.length_take, List.length_drop, hcl, rep_len]
              omega
            · exact full_row hn4 (by rw [hcl]; exact hfit)
          · exact .inr ⟨g', cap', cur', rfl, hb', (setRow_other w g g' _ (fun e => hgg e)).trans hh', hn1, hn2, hn3, hn4⟩
    · have holds : ∀ j u, (rep m n)[j]? = some u → w.cell? ((⟨g, 0, none⟩ : Addr).add j) = some u := hown'.cells (g := g) rfl
      have hr := run_append_grow (P := P) w t ty e i z ht hi hz ⟨g, 0, none⟩ n cap (rep m n) hown'.1 holds a k c (rep m k) hl hnews (by omega) (by simp only [maxLen] at h63; omega) (growslice_fits (by omega) hbytes)
      have hgr := grown cap (by omega) (Value.ownBlock (.slice (some ⟨g, 0, none⟩) n cap))
      refine ⟨_, _, hr, hgr.1, hgr.2.1, hgr.2.2, ?_⟩
      intro j hj
      simp [Value.ownBlock] at hj
      exact .inr (by omega)

theorem wpList_append_marks {ops : Array Oper} {rest : List Oper} {o : Oper} {a : Act} {Q : Exit → Act → World → Prop} (hgd : o.guard = none) (s x : Operand) (t : TypeId)
    (ho : o.op = .call { callee := .builtin .append, args := #[s, x], argTypes := #[t, t] })
    (base : Nat) (e : TypeId) (i : TypeInfo) (z : Value) (bytes : Nat) (m : List Value) (ht : P.underlying t = some (.slice e)) (hi : P.info? e = some i) (hz : i.zero = some z)
    (hsize : i.size = m.length) (hby : i.bytes = bytes) (hzs : z.cells.size = m.length)
    (v : Value) (n : Nat) (hs : a.eval s = v) (hown : Full w base e m v n)
    (ad : Addr) (k c : Nat) (hk : 0 < k) (hx : a.eval x = .slice (some ad) k c) (hnews : ∀ j u, (rep m k)[j]? = some u → w.cell? (ad.add j) = some u) (h1 : ∀ u ∈ m, u.oneCell' = true)
    (h63 : n + k ≤ maxLen) (hbytes : (n + k) * bytes ≤ 140737488355328) (hbase : base ≤ w.heap.size)
    (h : ∀ v' w', Full w' base e m v' (n + k) → w.grownBy w' v.ownBlock → (∀ b u n', Full w b e m u n' → Full w' b e m u n') → (∀ j, v'.ownBlock = some j → v.ownBlock = some j ∨ w.heap.size ≤ j) → wpList P ops Q rest (a.put o.dst v') w') : wpList P ops Q (o :: rest) a w :=
  wpList_plain hgd fun K hK => by
    obtain ⟨v', w', hr, h2, h3, h4, h5⟩ := run_append_marks (P := P) w base t o.type e i z bytes m ht hi hz hsize hby hzs v n hown ad k c hk hnews h1 h63 hbytes hbase
    unfold Oper.wp execOp
    simp only [ho, resolve, invoke, builtin, Sem.run_bind, Sem.run_pure, Result.andThen_ok, List.map_toArray, List.map_cons, List.map_nil, hs, hx, hr]
    exact hK _ _ (h v' w' h2 h3 h4 h5)
end
end Go.Proofs.YtellilpeakpbfaaGreatDoor

end

section
/-
  The walks of package contents: isKey, Put, Del.
-/
namespace Go.Proofs.YtellilpeakpbfaaGreatDoor
open Go.RowKit

set_option maxHeartbeats 400000 in
theorem isKey_any (k : Int) (w : World) :
    Calls Tryz.prog 95 #[.int .i64 k] w fun e w' => e = .returned (.bool (Jn.isKey k)) ∧ w' = w := by
  go_enter Tryz.func95, Tryz.ntmps95
  go_wp2
  all_goals go_ret
  all_goals exact ⟨ret_bool (by unfold Jn.isKey; rw [Bool.eq_iff_iff]; simp; try omega), rfl⟩

theorem con_cell {L : Nat} {w : World} {B : Nat} {C : Jn.Con} (h : ConAt L w B C) (n : Nat) (hn : n < 100) :
    w.cell? ⟨B, n * 2, none⟩ = some (.bool (C.cells.getD n none).isSome) ∧ w.cell? ⟨B, n * 2 + 1, none⟩ = some (.int .i64 ((C.cells.getD n none).getD 0)) ∧ w.frozen? ⟨B, n * 2, none⟩ = false ∧ w.frozen? ⟨B, n * 2 + 1, none⟩ = false := by
  obtain ⟨cur, v, hh, hs, hc, hv, hp⟩ := h.mem
  have hg : C.cells[n]? = some (C.cells.getD n none) := by
    have hl := h.ok.len
    simp [List.getD, show n < C.cells.length by omega]
  obtain ⟨c1, c2⟩ := hc n _ hg
  exact ⟨(cell_of_row w B _ cur _ _ hh).trans c1, (cell_of_row w B _ cur _ _ hh).trans c2, frozen_of_row w B _ cur _ hh, frozen_of_row w B _ cur _ hh⟩
/-- a place is written. -/
theorem con_set {L : Nat} {w : World} {B : Nat} {C : Jn.Con} (h : ConAt L w B C) (n : Nat) (hn : n < 100) (o : Option Int) (ho : ∀ v, o = some v → Jn.isVal v = true) :
    ConAt L ((w.setCell ⟨B, n * 2, none⟩ (.bool o.isSome)).setCell ⟨B, n * 2 + 1, none⟩ (.int .i64 (o.getD 0))) B (Jn.setC C n o) ∧
    Fr L [] (some B) w ((w.setCell ⟨B, n * 2, none⟩ (.bool o.isSome)).setCell ⟨B, n * 2 + 1, none⟩ (.int .i64 (o.getD 0))) := by
  obtain ⟨cur, v, hh, hs, hc, hv, hp⟩ := h.mem
  have h1 := heap_setCell_same w B (n * 2) cur _ (.bool o.isSome) hh
  have h2 := heap_setCell_same (w.setCell ⟨B, n * 2, none⟩ (.bool o.isSome)) B (n * 2 + 1) _ _ (.int .i64 (o.getD 0)) h1
  have hoth : ∀ k, k ≠ B → ((w.setCell ⟨B, n * 2, none⟩ (.bool o.isSome)).setCell ⟨B, n * 2 + 1, none⟩ (.int .i64 (o.getD 0))).heap[k]? = w.heap[k]? := by
    intro k hk
    rw [heap_setCell_other _ _ _ _ (by simpa using hk), heap_setCell_other _ _ _ _ (by simpa using hk)]
  have hfr : Fr L [145] none w ((w.setCell ⟨B, n * 2, none⟩ (.bool o.isSome)).setCell ⟨B, n * 2 + 1, none⟩ (.int .i64 (o.getD 0))) := by
    refine ⟨((Below.refl L w).setCell (p := ⟨B, n * 2, none⟩) h.low _).setCell (p := ⟨B, n * 2 + 1, none⟩) h.low _, ?_⟩
    intro k cur' t z hk ht _
    rw [hoth k (fun e => ?_)]
    · exact hk
    · subst e; rw [hh] at hk; cases hk; simp at ht
  have hfs : Fr L [] (some B) w ((w.setCell ⟨B, n * 2, none⟩ (.bool o.isSome)).setCell ⟨B, n * 2 + 1, none⟩ (.int .i64 (o.getD 0))) :=
    ⟨hfr.below, fun k cur' t z hk _ hX => (hoth k (fun e => hX (by rw [e]))).trans hk⟩
  refine ⟨⟨h.low, ?_, _, v, h2, by simp [hs], ?_, ?_, ?_⟩, hfs⟩
  · exact h.ok.set _ _ ho
  · intro k p hk
    simp only [Jn.setC, Int.toNat_natCast, List.getElem?_set] at hk
    by_cases hkn : n = k
    · subst hkn
      rw [if_pos rfl, h.ok.len, if_pos hn] at hk
      cases hk
      constructor
      · rw [Array.getElem?_setIfInBounds, if_neg (by omega), Array.getElem?_setIfInBounds, if_pos rfl, if_pos (by omega)]
      · rw [Array.getElem?_setIfInBounds, if_pos rfl, if_pos (by simp; omega)]
    · rw [if_neg hkn] at hk
      obtain ⟨c1, c2⟩ := hc k p hk
      constructor
      · rw [Array.getElem?_setIfInBounds, if_neg (by omega), Array.getElem?_setIfInBounds, if_neg (by omega)]; exact c1
      · rw [Array.getElem?_setIfInBounds, if_neg (by omega), Array.getElem?_setIfInBounds, if_neg (by omega)]; exact c2
  · rw [Array.getElem?_setIfInBounds, if_neg (by omega), Array.getElem?_setIfInBounds, if_neg (by omega)]; exact hv
  · exact own_fr hp hfr (by decide) (.inl rfl)

set_option maxHeartbeats 400000 in
theorem putC_key (B : Nat) (k v : Int) (w : World) (hk : Jn.isKey k = false) :
    Calls Tryz.prog 58 #[.pointer (some ⟨B, 0, none⟩), .int .i64 k, .int .i64 v] w fun e w' => e = .returned (.int .i64 5) ∧ w' = w := by
  have hc := isKey_any k
  rw [hk] at hc
  have HC := hide hc
  clear hc hk
  go_enter Tryz.func58, Tryz.ntmps58
  go_wp2_with fail
  refine (HC.out _).mono ?_
  rintro e w1 ⟨rfl, rfl⟩
  go_wp2
  go_ret
  exact ⟨rfl, rfl⟩
set_option maxHeartbeats 400000 in
theorem putC_val (B : Nat) (k v : Int) (w : World) (hk : Jn.isKey k = true) (hv : Jn.isVal v = false) :
    Calls Tryz.prog 58 #[.pointer (some ⟨B, 0, none⟩), .int .i64 k, .int .i64 v] w fun e w' => e = .returned (.int .i64 6) ∧ w' = w := by
  have hc := isKey_any k
  rw [hk] at hc
  have HC := hide hc
  clear hc hk
  have hv' : ¬ (-1000000000 ≤ v ∧ v ≤ 1000000000) := by
    intro h; unfold Jn.isVal at hv; simp at hv; omega
  have HV := hide hv'
  clear hv hv'
  go_enter Tryz.func58, Tryz.ntmps58
  go_wp2_with fail
  refine (HC.out _).mono ?_
  rintro e w1 ⟨rfl, rfl⟩
  by_cases h1 : v < -1000000000
  · have d1 : decide (v < -1000000000) = true := by simpa using h1
    go_wp2
    go_ret
    exact ⟨rfl, rfl⟩
  · have d1 : decide (v < -1000000000) = false := by simpa using h1
    have d2 : decide (1000000000 < v) = true := by have := HV.out; simp; omega
    go_wp2
    go_ret
    exact ⟨rfl, rfl⟩
set_option maxHeartbeats 400000 in
theorem putC_ok (L B : Nat) (C : Jn.Con) (n : Nat) (v : Int) (w : World) (h : ConAt L w B C) (hn : n ≤ 99) (hv : Jn.isVal v = true) :
    Calls Tryz.prog 58 #[.pointer (some ⟨B, 0, none⟩), .int .i64 n, .int .i64 v] w fun e w' => e = .returned (.int .i64 0) ∧ ConAt L w' B (Jn.setC C n (some v)) ∧ Fr L [] (some B) w w' := by
  obtain ⟨c0, c1, f0, f1⟩ := con_cell h n (by omega)
  have hk : Jn.isKey n = true := by unfold Jn.isKey; simp; omega
  have hc := isKey_any n
  rw [hk] at hc
  have HC := hide hc
  have hset := con_set h n (by omega) (some v) (fun u hu => by cases hu; exact hv)
  have HS := hide hset
  have hv' : -1000000000 ≤ v ∧ v ≤ 1000000000 := by unfold Jn.isVal at hv; simpa using hv
  obtain ⟨v1, v2⟩ := hv'
  clear hc hk h hset hv
  generalize (C.cells.getD n none).isSome = b at *
  generalize (C.cells.getD n none).getD 0 = x at *
  go_enter Tryz.func58, Tryz.ntmps58
  go_wp2_with fail
  refine (HC.out _).mono ?_
  rintro e w1 ⟨rfl, rfl⟩
  go_wp2
  go_ret
  exact ⟨rfl, HS.out⟩
theorem putC_own (L B : Nat) (C : Jn.Con) (k v : Int) (w : World) (h : ConAt L w B C) :
    Calls Tryz.prog 58 #[.pointer (some ⟨B, 0, none⟩), .int .i64 k, .int .i64 v] w fun e w' => e = .returned (.int .i64 (Jn.put C k v).2) ∧ ConAt L w' B (Jn.put C k v).1 ∧ Fr L [] (some B) w w' := by
  unfold Jn.put
  cases hk : Jn.isKey k with
  | false =>
    refine (putC_key B k v w hk).mono fun e w' ⟨he, hw⟩ => ?_
    subst hw
    exact ⟨he, h, Fr.refl _ _ _ _⟩
  | true =>
    rw [if_neg (by simp)]
    cases hv : Jn.isVal v with
    | false =>
      refine (putC_val B k v w hk hv).mono fun e w' ⟨he, hw⟩ => ?_
      subst hw
      exact ⟨he, h, Fr.refl _ _ _ _⟩
    | true =>
      have h1 : 0 ≤ k ∧ k ≤ 99 := by unfold Jn.isKey at hk; simpa using hk
      obtain ⟨n, rfl⟩ := Int.eq_ofNat_of_zero_le h1.1
      exact putC_ok L B C n v w h (by omega) hv

set_option maxHeartbeats 400000 in
theorem delC_key (B : Nat) (k : Int) (w : World) (hk : Jn.isKey k = false) :
    Calls Tryz.prog 61 #[.pointer (some ⟨B, 0, none⟩), .int .i64 k] w fun e w' => e = .returned (.int .i64 5) ∧ w' = w := by
  have hc := isKey_any k
  rw [hk] at hc
  have HC := hide hc
  clear hc hk
  go_enter Tryz.func61, Tryz.ntmps61
  go_wp2_with fail
  refine (HC.out _).mono ?_
  rintro e w1 ⟨rfl, rfl⟩
  go_wp2
  go_ret
  exact ⟨rfl, rfl⟩
set_option maxHeartbeats 400000 in
theorem delC_ok (L B : Nat) (C : Jn.Con) (n : Nat) (w : World) (h : ConAt L w B C) (hn : n ≤ 99) :
    Calls Tryz.prog 61 #[.pointer (some ⟨B, 0, none⟩), .int .i64 n] w fun e w' => e = .returned (.int .i64 0) ∧ ConAt L w' B (Jn.setC C n none) ∧ Fr L [] (some B) w w' := by
  obtain ⟨c0, c1, f0, f1⟩ := con_cell h n (by omega)
  have hk : Jn.isKey n = true := by unfold Jn.isKey; simp; omega
  have hc := isKey_any n
  rw [hk] at hc
  have HC := hide hc
  have hset := con_set h n (by omega) none (fun u hu => by cases hu)
  have HS := hide hset
  clear hc hk h hset
  generalize (C.cells.getD n none).isSome = b at *
  generalize (C.cells.getD n none).getD 0 = x at *
  go_enter Tryz.func61, Tryz.ntmps61
  go_wp2_with fail
  refine (HC.out _).mono ?_
  rintro e w1 ⟨rfl, rfl⟩
  go_wp2
  go_ret
  exact ⟨rfl, HS.out⟩
theorem delC_own (L B : Nat) (C : Jn.Con) (k : Int) (w : World) (h : ConAt L w B C) :
    Calls Tryz.prog 61 #[.pointer (some ⟨B, 0, none⟩), .int .i64 k] w fun e w' => e = .returned (.int .i64 (Jn.del C k).2) ∧ ConAt L w' B (Jn.del C k).1 ∧ Fr L [] (some B) w w' := by
  unfold Jn.del
  cases hk : Jn.isKey k with
  | false =>
    refine (delC_key B k w hk).mono fun e w' ⟨he, hw⟩ => ?_
    subst hw
    exact ⟨he, h, Fr.refl _ _ _ _⟩
  | true =>
    have h1 : 0 ≤ k ∧ k ≤ 99 := by unfold Jn.isKey at hk; simpa using hk
    obtain ⟨n, rfl⟩ := Int.eq_ofNat_of_zero_le h1.1
    exact delC_ok L B C n w h (by omega)
theorem putC_any (L B : Nat) (C : Jn.Con) (k v : Int) (w : World) (h : ConAt L w B C) :
    Calls Tryz.prog 58 #[.pointer (some ⟨B, 0, none⟩), .int .i64 k, .int .i64 v] w fun e w' => e = .returned (.int .i64 (Jn.put C k v).2) ∧ ConAt L w' B (Jn.put C k v).1 ∧ Fr L [145] none w w' := by
  obtain ⟨cur, v0, hh, -⟩ := h.mem
  exact (putC_own L B C k v w h).mono fun e w' ⟨h1, h2, h3⟩ => ⟨h1, h2, h3.weak hh⟩
theorem delC_any (L B : Nat) (C : Jn.Con) (k : Int) (w : World) (h : ConAt L w B C) :
    Calls Tryz.prog 61 #[.pointer (some ⟨B, 0, none⟩), .int .i64 k] w fun e w' => e = .returned (.int .i64 (Jn.del C k).2) ∧ ConAt L w' B (Jn.del C k).1 ∧ Fr L [145] none w w' := by
  obtain ⟨cur, v0, hh, -⟩ := h.mem
  exact (delC_own L B C k w h).mono fun e w' ⟨h1, h2, h3⟩ => ⟨h1, h2, h3.weak hh⟩
end Go.Proofs.YtellilpeakpbfaaGreatDoor

end
