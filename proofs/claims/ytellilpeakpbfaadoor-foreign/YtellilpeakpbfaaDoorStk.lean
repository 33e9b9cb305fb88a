import Derived.Test.YtellilpeakpbfaaDoorLeaf
/-
  What must still come, as package source keeps it: a struct with a list of numbers; push, pop, mayEnd.
-/
namespace Go.Proofs.YtellilpeakpbfaaDoor
open Go.RowKit

theorem Tryd.infoInt : (Tryd.prog.info? 3).map (fun i => (i.zero, i.size, i.bytes)) = some (some (.int .i64 0), 1, 8) := by kernel_rfl

/-- The list in the struct at block B, which is the call's own: its head is what comes next. The row of its numbers lies from block C on. -/
def St (B : Nat) (wr : World) (st : List Int) : Prop :=
  ∃ v, wr.cell? ⟨B, 0, none⟩ = some v ∧ wr.frozen? ⟨B, 0, none⟩ = false ∧ wr.ownsRow (B + 1) 3 1 v st.length (st.reverse.map (Value.int .i64))

/-- Every block but B that is no row of numbers is as it was. -/
def Oth (B : Nat) (w w' : World) : Prop := ∀ k, k < w.heap.size → k ≠ B → (∀ cur z, w.heap[k]? ≠ some (.cells cur 3 z)) → w'.heap[k]? = w.heap[k]?
theorem Oth.refl (B : Nat) (w : World) : Oth B w w := fun _ _ _ _ => rfl
theorem Oth.trans {B : Nat} {a b c : World} (h : Oth B a b) (hs : a.heap.size ≤ b.heap.size) (g : Oth B b c) : Oth B a c := by
  intro k hk hB hn
  have e := h k hk hB hn
  rw [g k (by omega) hB (fun cur z => by rw [e]; exact hn cur z), e]

theorem St.cell {B : Nat} {w : World} {st : List Int} (h : St B w st) : ∃ ao cap, w.cell? ⟨B, 0, none⟩ = some (.slice ao st.length cap) := by
  obtain ⟨v, hv, _, _, hcase⟩ := h
  rcases hcase with ⟨rfl, h0⟩ | ⟨g, cap, _, rfl, _⟩
  · exact ⟨none, 0, by rw [hv, h0]⟩
  · exact ⟨_, _, hv⟩

set_option maxRecDepth 100000 in
set_option maxHeartbeats 400000 in
theorem push_any (B : Nat) (x : Int) (st : List Int) (wr : World) (h : St B wr st) (hb : (st.length + 1) * 8 ≤ 140737488355328) (hB : B < wr.heap.size) :
    Calls Tryd.prog 19 #[.pointer (some ⟨B, 0, none⟩), .int .i64 x] wr fun e w' => e = .returned (.tuple #[]) ∧ St B w' (x :: st) ∧ Below B wr w' ∧ Oth B wr w' := by
  obtain ⟨v, hv, hfz, hown⟩ := h
  obtain ⟨i, hi, hz0, hz1, hz2⟩ := info_parts Tryd.infoInt
  go_enter Tryd.func19, Tryd.ntmps19
  go_wp2_with (at_builtin; refine wpList_append_own _ rfl (.tmp 8) (.tmp 10) 50 rfl (B + 1) 3 i (.int .i64 0) 1 8 Tryd.underlying50 hi hz0 hz1 hz2 rfl (by decide) v st.length _ rfl (hown.alloc _) ⟨wr.heap.size, 0, none⟩ 1 1 [.int .i64 x] rfl rfl ?c1 ?c2 (by unfold maxLen; omega) hb (by simp; omega) ?_)
  case c1 =>
    intro j u hj
    match j, hj with
    | 0, hj => simp at hj; subst hj; simp [Addr.add]
  case c2 => intro u hu; simp at hu; subst hu; rfl
  intro v' w1 hown' hgrow _
  have hex : ∃ g' cap', v' = .slice (some ⟨g', 0, none⟩) (st.length + 1) cap' := by
    obtain ⟨_, hcase⟩ := hown'
    rcases hcase with ⟨_, h0⟩ | ⟨g', cap', cur', h, _⟩
    · omega
    · exact ⟨g', cap', h⟩
  obtain ⟨g', cap', hv'⟩ := hex
  rw [hv']
  have hne : some B ≠ v.ownBlock := fun h => by have := hown.lt B h.symm; omega
  have hv1 : w1.cell? ⟨B, 0, none⟩ = some v := hgrow.cell (a := ⟨B, 0, none⟩) ((World.cell?_alloc_past _ _ _ hB).trans hv) hne
  have hf1 : w1.frozen? ⟨B, 0, none⟩ = false := by
    rw [World.frozen?_of_block (w := wr.alloc (.cells #[.int .i64 x] 3)) (hgrow.block B (by simp; omega) hne)]
    exact (World.frozen?_alloc_past _ _ _ hB).trans hfz
  go_wp2
  go_end0
  refine ⟨rfl, ⟨_, World.cell?_setCell_same _ _ _ hv1, (World.frozen?_setCell _ _ _ _).trans hf1, ?_⟩, ?_, ?_⟩
  · have := ownsRow_setCell_below hown' (a := ⟨B, 0, none⟩) (by show B < B + 1; omega) v'
    rw [hv'] at this
    simpa using this
  · exact ((((Below.refl B wr).alloc (by omega) _).grown hgrow (by simp; omega) (fun k hk => by have := (hown.lt k hk).1; omega))).setCell (Nat.le_refl B) _
  · intro k hk hkB hn
    rw [Below.heap_setCell _ _ _ _ (by show k ≠ B; omega), hgrow.block k (by simp; omega) ?_, Below.heap_alloc _ _ _ hk]
    intro he
    rcases hown.2 with ⟨rfl, _⟩ | ⟨g, cap, cur, rfl, _, hh, _⟩
    · simp [Value.ownBlock] at he
    · simp [Value.ownBlock] at he
      subst he
      exact hn _ _ hh

set_option maxRecDepth 100000 in
set_option maxHeartbeats 400000 in
theorem pop_none (B : Nat) (wr : World) (h : St B wr []) :
    Calls Tryd.prog 33 #[.pointer (some ⟨B, 0, none⟩)] wr fun e w' => e = .returned (.int .i64 0) ∧ w' = wr := by
  obtain ⟨v, hv, _, hown⟩ := h
  obtain ⟨_, hcase⟩ := hown
  rcases hcase with ⟨rfl, _⟩ | ⟨g, cap, cur, rfl, _⟩
  all_goals
    go_enter Tryd.func33, Tryd.ntmps33
    go_wp2
    go_ret
    exact ⟨rfl, rfl⟩

theorem st_pop {B : Nat} {x : Int} {st : List Int} {wr w2 : World} {g cap : Nat} {cur : Array Value} {u : Value}
    (hheap : w2.heap = wr.heap) (hos : w2.os = wr.os) (htape : w2.tape = wr.tape) (hout : w2.output = wr.output)
    (hv : wr.cell? ⟨B, 0, none⟩ = some u) (hfz : wr.frozen? ⟨B, 0, none⟩ = false)
    (hg : B + 1 ≤ g) (hh : wr.heap[g]? = some (.cells cur 3)) (hn : st.length + 1 ≤ cap) (hcap : cap ≤ maxLen) (hsz : cur.size = cap * 1)
    (htake : List.take ((x :: st).length * 1) cur.toList = List.map (Value.int .i64) (x :: st).reverse) :
    St B (w2.setCell ⟨B, 0, none⟩ (.slice (some ⟨g, 0, none⟩) st.length cap)) st ∧ Below B wr (w2.setCell ⟨B, 0, none⟩ (.slice (some ⟨g, 0, none⟩) st.length cap)) ∧ Oth B wr (w2.setCell ⟨B, 0, none⟩ (.slice (some ⟨g, 0, none⟩) st.length cap)) := by
  have hv2 : w2.cell? ⟨B, 0, none⟩ = some u := (World.cell?_of_block (w := wr) (by rw [hheap])).trans hv
  have hf2 : w2.frozen? ⟨B, 0, none⟩ = false := (World.frozen?_of_block (w := wr) (by rw [hheap])).trans hfz
  refine ⟨⟨_, World.cell?_setCell_same _ _ _ hv2, (World.frozen?_setCell _ _ _ _).trans hf2, by simp, Or.inr ⟨g, cap, cur, rfl, hg, ?_, by omega, hcap, hsz, ?_⟩⟩, ⟨hos, htape, hout, ?_, fun k hk => ?_⟩, fun k hk hkB _ => ?_⟩
  · rw [Below.heap_setCell _ _ _ _ (by show g ≠ B; omega), hheap]; exact hh
  · have h2 := congrArg (List.take st.length) htake
    simp only [List.length_cons, Nat.mul_one, List.take_take, List.reverse_cons, List.map_append] at h2
    rw [Nat.min_eq_left (by omega)] at h2
    rw [Nat.mul_one, h2]
    simp
  · simp [World.setCell, hheap]
  · rw [Below.heap_setCell _ _ _ _ (by show k ≠ B; omega), hheap]
  · rw [Below.heap_setCell _ _ _ _ (by show k ≠ B; omega), hheap]

set_option maxHeartbeats 1600000 in
set_option maxRecDepth 100000 in
theorem pop_some (B : Nat) (x : Int) (st : List Int) (wr : World) (h : St B wr (x :: st)) :
    Calls Tryd.prog 33 #[.pointer (some ⟨B, 0, none⟩)] wr fun e w' => e = .returned (.int .i64 x) ∧ St B w' st ∧ Below B wr w' ∧ Oth B wr w' := by
  obtain ⟨v, hv, hfz, hown⟩ := h
  have hown0 := hown
  obtain ⟨hlen, hcase⟩ := hown
  rcases hcase with ⟨_, h0⟩ | ⟨g, cap, cur, rfl, hg, hh, hn, hcap, hsz, htake⟩
  · simp at h0
  have hx : wr.cell? ⟨g, st.length, none⟩ = some (.int .i64 x) := by
    have := hown0.cellAt st.length (by simp)
    rw [this]; simp
  simp only [List.length_cons] at hv hn
  have hcap' := hcap
  unfold maxLen at hcap'
  have hz : ((((st.length + 1 : Nat) : Int)) == 0) = false := beq_eq_false_iff_ne.2 (by omega)
  have hle : st.length ≤ cap := by omega
  have fin := st_pop (w2 := wr) rfl rfl rfl rfl hv hfz hg hh hn hcap hsz htake
  clear htake hsz hown0 hlen hh
  go_enter Tryd.func33, Tryd.ntmps33
  go_wp2
  all_goals go_ret
  all_goals exact ⟨rfl, fin⟩

theorem pop_any (B : Nat) (st : List Int) (wr : World) (h : St B wr st) :
    Calls Tryd.prog 33 #[.pointer (some ⟨B, 0, none⟩)] wr fun e w' => e = .returned (.int .i64 (st.headD 0)) ∧ St B w' st.tail ∧ Below B wr w' ∧ Oth B wr w' := by
  cases st with
  | nil => exact (pop_none B wr h).mono fun e w' ⟨he, hw⟩ => by subst hw; exact ⟨he, h, Below.refl _ _, Oth.refl _ _⟩
  | cons x r => exact (pop_some B x r wr h).mono fun e w' ⟨he, hs, hn⟩ => ⟨he, hs, hn⟩

/-- what the caller's walk carries from call to call. -/
def Inv (B : Nat) (w wr : World) (st : List Int) : Prop := St B wr st ∧ Below B w wr ∧ B < wr.heap.size ∧ Oth B w wr
theorem Inv.start {B : Nat} {w : World} {st : List Int} (h : St B w st) (hB : B < w.heap.size) : Inv B w w st := ⟨h, Below.refl _ _, hB, Oth.refl _ _⟩
theorem push_inv (B : Nat) (x : Int) (st : List Int) (w wr : World) (h : Inv B w wr st) (hb : (st.length + 1) * 8 ≤ 140737488355328) :
    Calls Tryd.prog 19 #[.pointer (some ⟨B, 0, none⟩), .int .i64 x] wr fun e w' => e = .returned (.tuple #[]) ∧ Inv B w w' (x :: st) :=
  (push_any B x st wr h.1 hb h.2.2.1).mono fun _ _ ⟨he, hs, hn, ho⟩ => ⟨he, hs, h.2.1.trans hn, Nat.lt_of_lt_of_le h.2.2.1 hn.size, h.2.2.2.trans h.2.1.size ho⟩
theorem pop_inv (B : Nat) (st : List Int) (w wr : World) (h : Inv B w wr st) :
    Calls Tryd.prog 33 #[.pointer (some ⟨B, 0, none⟩)] wr fun e w' => e = .returned (.int .i64 (st.headD 0)) ∧ Inv B w w' st.tail :=
  (pop_any B st wr h.1).mono fun _ _ ⟨he, hs, hn, ho⟩ => ⟨he, hs, h.2.1.trans hn, Nat.lt_of_lt_of_le h.2.2.1 hn.size, h.2.2.2.trans h.2.1.size ho⟩

set_option maxHeartbeats 400000 in
set_option maxRecDepth 100000 in
theorem mayEnd_any (B : Nat) (st : List Int) (wr : World) (h : St B wr st) :
    Calls Tryd.prog 22 #[.pointer (some ⟨B, 0, none⟩)] wr fun e w' => e = .returned (.bool (st == [1])) ∧ w' = wr := by
  obtain ⟨v, hv, hfz, hown⟩ := h
  by_cases h1 : st.length = 1
  · obtain ⟨x, rfl⟩ : ∃ x, st = [x] := by
      match st, h1 with
      | [x], _ => exact ⟨x, rfl⟩
    have hown0 := hown
    rcases hown.2 with ⟨_, h0⟩ | ⟨g, cap, cur, rfl, hg, hh, hn, hcap, hsz, htake⟩
    · simp at h0
    have hx : wr.cell? ⟨g, 0, none⟩ = some (.int .i64 x) := by
      have := hown0.cellAt 0 (by simp)
      rw [this]; simp
    simp only [List.length_cons, List.length_nil] at hv
    clear hown hown0 htake hh
    go_enter Tryd.func22, Tryd.ntmps22
    go_wp2
    all_goals go_ret
    all_goals exact ⟨ret_bool (by rw [Bool.eq_iff_iff]; simp), rfl⟩
  · have he : (st == [1]) = false := by
      rw [beq_eq_false_iff_ne]; intro h; rw [h] at h1; exact h1 rfl
    have HE := hide he
    clear he
    have hz : (((st.length : Nat) : Int) == 1) = false := beq_eq_false_iff_ne.2 (by omega)
    obtain ⟨ao, cap, hc⟩ := St.cell ⟨v, hv, hfz, hown⟩
    clear hv hown
    go_enter Tryd.func22, Tryd.ntmps22
    go_wp2
    all_goals go_ret
    all_goals exact ⟨ret_bool HE.out.symm, rfl⟩
end Go.Proofs.YtellilpeakpbfaaDoor
