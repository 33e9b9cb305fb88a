import Derived.Test.YtellilpeakpbfaaGreatDoorSiteEToo
section
/-
  The walk of play: Call.
-/
set_option linter.unusedVariables false
namespace Go.Proofs.YtellilpeakpbfaaGreatDoor
open Go.RowKit

namespace Kp
/-- a call of a procedure that steps keep. -/
theorem call_kind (C : Jn.Con) (hok : Jn.Ok C) (nm : List UInt8) (hkd : ∀ p ∈ C.procs, Kind p.2) (x : Int) (hx : 0 ≤ x ∧ x ≤ 999) :
    (Rn.call C nm [x] 10000).2.2.2.2 = 0 ∨ (Rn.call C nm [x] 10000).2.2.2.2 = 3 ∨ (Rn.call C nm [x] 10000).2.2.2.2 = 7 := by
  unfold Rn.call
  cases hs : srcL C.procs nm with
  | none => exact .inr (.inl rfl)
  | some sr =>
    have hm := src_mem _ _ _ hs
    rcases run_kind C hok sr (hkd _ hm) x hx with h0 | h7
    · left; simp only [h0, ne_eq, not_true, if_false]
    · right; right; simp only; rw [if_pos (by rw [h7]; decide)]; exact h7
end Kp

theorem FrX.fr1 {L B : Nat} {a b : World} (h : FrX L [B] a b) : Fr L [] (some B) a b :=
  ⟨h.below, fun k cur t z hk _ hX => h.block k cur t z hk (by simpa using fun e => hX (by rw [e]))⟩
theorem FrX.new {L : Nat} {xs : List Nat} {a b : World} (h : FrX L xs a b) (hL : L ≤ a.heap.size) (o : Obj) : FrX L xs a (b.alloc o) :=
  (h.trans (FrX.old ((Below.refl _ _).alloc (Nat.le_refl _) _) (Nat.le_trans hL h.size))).mono (by simp; exact fun x hx => .inl hx)
theorem FrX.put {L : Nat} {xs : List Nat} {a b : World} {g j : Nat} (h : FrX L xs a b) (hL : L ≤ a.heap.size) (hg : a.heap.size ≤ g) (v : Value) : FrX L xs a (b.setCell ⟨g, j, none⟩ v) :=
  (h.trans (FrX.one (fr_setCell b g j v (Nat.le_trans hL hg)))).mono (by
    intro x hx
    rcases List.mem_append.1 hx with h1 | h1
    · exact .inl h1
    · simp at h1; subst h1; exact .inr hg)
theorem ints_new {a : Int} (x : World) : IntsAt (x.alloc (.cells #[.int .i64 a] 3)) (.slice (some ⟨x.heap.size, 0, none⟩) 1 1) [a] :=
  ⟨_, _, rfl, fun _ => ⟨_, 0, rfl, fun i b hb => by
    have hi : i = 0 := by have := (List.getElem?_eq_some_iff.1 hb).1; simp at this; omega
    subst hi
    simp at hb
    subst hb
    exact (cell_of_row _ _ 0 _ _ _ (heap_alloc_new x _)).trans rfl⟩⟩
theorem ints_new2 {a : Int} (y : World) (o : Obj) : IntsAt ((y.alloc o).alloc (.cells #[.int .i64 a] 3)) (.slice (some ⟨y.heap.size + 1, 0, none⟩) 1 1) [a] := by
  have := ints_new (a := a) (y.alloc o)
  rw [World.size_alloc] at this
  exact this
theorem below_at {L B : Nat} {w x y : World} (hf : Fr L [] (some B) x y) (hb : Below w.heap.size w x) (hL : L ≤ w.heap.size) : FrX L [B] w y :=
  ((FrX.old hb hL).trans (FrX.one hf)).mono (by simp)
theorem var_first (w : World) (cur : Array Value) (t : TypeId) (o : Obj) : ((w.alloc (.cells cur t)).alloc o).heap[w.heap.size]? = some (.cells cur t (0, 0)) :=
  (((Below.refl (w.alloc (.cells cur t)).heap.size _).alloc (Nat.le_refl _) o).block _ (by rw [World.size_alloc]; omega)).trans (heap_alloc_new w _)
theorem var_second (w : World) (cur : Array Value) (t : TypeId) (o : Obj) : ((w.alloc o).alloc (.cells cur t)).heap[w.heap.size + 1]? = some (.cells cur t (0, 0)) := by
  have := heap_alloc_new (w.alloc o) (.cells cur t)
  rw [World.size_alloc] at this
  exact this

/-- behind the store's Call. -/
def CutQ (L S B : Nat) (f : Int) (r : Jn.Con × Int × Int × List UInt8 × Int) (w1 : World) (s16 s17 : Value) (wx : World) : Prop :=
  ∃ v, v = s16 ∧ s17 = .int .i64 r.2.2.2.2 ∧ StAt L wx S B r.1 f ∧ FrX L [B] w1 wx ∧ ((r.2.2.2.1 = [] ∧ v = .slice none 0 0) ∨ (r.2.2.2.1 ≠ [] ∧ ARow wx w1.heap.size v [(1, f, Jn.record r.2.2.2.1)]))

theorem cutq_last {L S B : Nat} {f : Int} {r : Jn.Con × Int × Int × List UInt8 × Int} {w1 wp : World} {v : Value} {o : Obj} (hst : StAt L wp S B r.1 f) (hL : L ≤ w1.heap.size) (hx : FrX L [B] w1 wp)
    (hor : (r.2.2.2.1 = [] ∧ v = .slice none 0 0) ∨ (r.2.2.2.1 ≠ [] ∧ ARow wp w1.heap.size v [(1, f, Jn.record r.2.2.2.1)])) : CutQ L S B f r w1 v (.int .i64 r.2.2.2.2) (wp.alloc o) := by
  have hba : Below wp.heap.size wp (wp.alloc o) := (Below.refl _ _).alloc (Nat.le_refl _) _
  exact ⟨v, rfl, rfl, hst.below hba, hx.new hL o, hor.imp id fun ⟨a, b⟩ => ⟨a, ownsRow_below b hba⟩⟩
theorem cutq_set {L S B g : Nat} {f : Int} {r : Jn.Con × Int × Int × List UInt8 × Int} {w1 wp : World} {v a b : Value} (hst : StAt L wp S B r.1 f) (hL : L ≤ w1.heap.size) (hg : w1.heap.size ≤ g) (vo : wp.heap[g]? = some (.cells #[.int .i64 0, .int .i64 0] 57 (0, 0))) (hx : FrX L [B] w1 wp)
    (hor : (r.2.2.2.1 = [] ∧ v = .slice none 0 0) ∨ (r.2.2.2.1 ≠ [] ∧ ARow wp w1.heap.size v [(1, f, Jn.record r.2.2.2.1)])) : CutQ L S B f r w1 v (.int .i64 r.2.2.2.2) ((wp.setCell ⟨g, 0, none⟩ a).setCell ⟨g, 1, none⟩ b) := by
  have g1 := heap_setCell_same wp g 0 _ _ a vo
  have f1 : Fr L [57] none wp ((wp.setCell ⟨g, 0, none⟩ a).setCell ⟨g, 1, none⟩ b) :=
    ((fr_setCell wp g 0 _ (Nat.le_trans hL hg)).typed (fun k hk => by cases hk; exact ⟨_, _, _, vo, by simp⟩) none).trans ((fr_setCell _ g 1 _ (Nat.le_trans hL hg)).typed (fun k hk => by cases hk; exact ⟨_, _, _, g1, by simp⟩) none)
  exact ⟨v, rfl, rfl, hst.fr f1 (by decide) (by decide) (by decide) (by simp), (hx.put hL hg a).put hL hg b, hor.imp id fun ⟨x, y⟩ => ⟨x, own_fr y f1 (by decide) (.inl rfl)⟩⟩

set_option maxHeartbeats 4000000 in
set_option maxRecDepth 100000 in
theorem play_call (L s S B D n : Nat) (C : Jn.Con) (f : Int) (d : DS) (w : World) (k a b : Int) (hk : Kp.pick k 8 = 5) (hkd : ∀ p ∈ C.procs, Kp.Kind p.2) (h : SiteAt L w s S B D C f d) (hd : DiskFit d f C n) (hn : n ≤ 1000000000000000000) (hP : PowAt w) (hWd : WordsAt w) (hpL : 1 < L)
    (k0 : -9223372036854775808 ≤ k) (k1 : k ≤ 9223372036854775807) (a0 : -9223372036854775808 ≤ a) (a1 : a ≤ 9223372036854775807) (b0 : -9223372036854775808 ≤ b) (b1 : b ≤ 9223372036854775807) :
    Calls Tryz.prog 14 #[.pointer (some ⟨s, 0, none⟩), .agg #[.int .i64 k, .int .i64 a, .int .i64 b]] w (PlayPost L s S B D (Rn.call C (Kp.name a) [Kp.pick b 1000] 10000).1 (n + 30000) w) := by
  obtain ⟨w1, hw1⟩ : ∃ w1, w1 = w.alloc (.cells #[.int .i64 k, .int .i64 a, .int .i64 b] 32) := ⟨_, rfl⟩
  obtain ⟨B0, hB0⟩ : ∃ B0, B0 = w.heap.size := ⟨_, rfl⟩
  have hB1 : Below w.heap.size w w1 := by rw [hw1]; exact (Below.refl _ _).alloc (Nat.le_refl _) _
  have hbo : w1.heap[B0]? = some (.cells #[.int .i64 k, .int .i64 a, .int .i64 b] 32 (0, 0)) := by rw [hw1, hB0]; exact heap_alloc_new w _
  have h1 := h.below hB1
  have p0 : w1.cell? ⟨B0, 0, none⟩ = some (.int .i64 k) := (cell_of_row w1 B0 0 _ _ _ hbo).trans rfl
  have p1 : w1.cell? ⟨B0, 1, none⟩ = some (.int .i64 a) := (cell_of_row w1 B0 1 _ _ _ hbo).trans rfl
  have p2 : w1.cell? ⟨B0, 2, none⟩ = some (.int .i64 b) := (cell_of_row w1 B0 2 _ _ _ hbo).trans rfl
  obtain ⟨s0, s1⟩ := h1.cells
  have HPK : Hid (∀ x, Calls Tryz.prog 36 #[.int .i64 k, .int .i64 8] x fun e w' => e = .returned (.int .i64 5) ∧ w' = x) := fun x => by
    have := kpick_any k 8 (by decide) (by decide) k0 k1 x
    rw [show ((8 : Nat) : Int) = 8 from rfl, hk] at this
    exact this
  have HNM := hide (fun x => kname_any a a0 a1 x)
  have hok := h.st.con.ok
  have hpb := Kp.pick_bd b 1000 (by decide)
  have HPB : Hid (∀ x, Calls Tryz.prog 36 #[.int .i64 b, .int .i64 1000] x fun e w' => e = .returned (.int .i64 (Kp.pick b 1000)) ∧ w' = x) := fun x => kpick_any b 1000 (by decide) (by decide) b0 b1 x
  have hcase := Kp.call_kind C hok (Kp.name a) hkd (Kp.pick b 1000) ⟨hpb.1, by omega⟩
  obtain ⟨f1, f2, f3, f4, fe, f0, fn, fp⟩ := Rn.call_facts C (Kp.name a) [Kp.pick b 1000] 10000 hok
  have HCS : Hid (∀ (x : World) (X : ByteArray) (v : Value), X.data.toList = Kp.name a → Below w1.heap.size w1 x → IntsAt x v [Kp.pick b 1000] → Calls Tryz.prog 27 #[.pointer (some ⟨S, 0, none⟩), .string X, v, .int .i64 10000] x
      (ClPost L S B f (Rn.call C (Kp.name a) [Kp.pick b 1000] 10000) x)) := by
    intro x X v hX hx hv
    have := callS_any L S B C f X v [Kp.pick b 1000] 10000 x (h1.below hx).st ((hWd.below hWd.1 hB1).below (Nat.lt_of_lt_of_le hWd.1 hB1.size) hx) hv ((hP.below hP.1 hB1).below (Nat.lt_of_lt_of_le hP.1 hB1.size) hx) hpL
    rw [hX] at this
    exact this
  generalize Kp.name a = nm at *
  generalize Kp.pick b 1000 = pb at *
  obtain ⟨dn, hdn⟩ : ∃ dn, dn = (Rn.dcall C nm [pb] 10000).2.2.2.1 := ⟨_, rfl⟩
  obtain ⟨r, hr⟩ : ∃ r, r = Rn.call C nm [pb] 10000 := ⟨_, rfl⟩
  rw [← hdn] at f0 fn
  rw [← hr] at fe f0 hcase HCS ⊢
  obtain ⟨C', val, used, es, er⟩ := r
  simp only at fe f0 hcase ⊢
  have HFE := hide fe
  have HF0 := hide f0
  have HFN := hide fn
  clear hr hdn f1 f2 f3 f4 fp fe f0 fn
  have HST := hide (fun x (hx : Fr L [] (some B) w1 x) => site_stay h1 hbo hx)
  have HKP := hide (fun x (hx : Fr L [] (some B) w1 x) => (⟨(cell_of_row x s 0 _ _ _ (HST.out x hx).1).trans rfl, (cell_of_row x B0 1 _ _ _ (HST.out x hx).2.1).trans rfl, (cell_of_row x B0 2 _ _ _ (HST.out x hx).2.1).trans rfl⟩ : x.cell? ⟨s, 0, none⟩ = some (.pointer (some ⟨S, 0, none⟩)) ∧ x.cell? ⟨B0, 1, none⟩ = some (.int .i64 a) ∧ x.cell? ⟨B0, 2, none⟩ = some (.int .i64 b)))
  have H1 := hide h1
  have HBO := hide hbo
  have HB1 := hide hB1
  have HH := hide h
  have hLw := h.lowL
  have HD := hide hd
  have HKB2 := hide (fun x (hx : Below w1.heap.size w1 x) => HKP.out x (Fr.of hx h1.lowL))
  have HKX := hide (fun x (hx : FrX L [B] w1 x) => HKP.out x hx.fr1)
  have hLw1 := h1.lowL
  have hnB : ∀ k, w1.heap.size ≤ k → some B ≠ some k := fun k hk e => by cases e; have := h1.st.con.lt; omega
  clear h h1 hbo hB1 hd hP hWd hk hok hkd hpb
  go_enter Tryz.func14, Tryz.ntmps14
  go_upto_region 1 with fail
  rw [← hw1, ← hB0]
  have HW1 := hide hw1
  have HB0 := hide hB0
  clear hw1 hB0
  go_wp2_with fail
  refine (HPK.out _).mono ?_
  rintro e wq ⟨rfl, hq⟩
  obtain rfl : w1 = wq := hq.symm
  clear HPK
  go_wp2_with fail
  go_cut [16, 17] (fun s16 s17 wx => CutQ L S B f (C', val, used, es, er) w1 s16 s17 wx)
  case first =>
    go_region_held3 (fun w' => w'.cell? ⟨s, 0, none⟩ = some (.pointer (some ⟨S, 0, none⟩)) ∧ w'.cell? ⟨B0, 1, none⟩ = some (.int .i64 a) ∧ w'.cell? ⟨B0, 2, none⟩ = some (.int .i64 b))
      (first | with_reducible exact HKX.out _ hx | with_reducible exact HKX.out _ (hx.new hLw1 _) | with_reducible exact HKX.out _ (hx.put hLw1 (Nat.le_refl _) _) | with_reducible exact HKX.out _ ((hx.put hLw1 (Nat.le_refl _) _).put hLw1 (Nat.le_refl _) _) | with_reducible exact HKX.out _ (hx.put hLw1 (Nat.le_succ _) _) | with_reducible exact HKX.out _ ((hx.put hLw1 (Nat.le_succ _) _).put hLw1 (Nat.le_succ _) _) | (refine HKB2.out _ ?_; (repeat' (first | with_reducible exact Below.refl _ _ | with_reducible refine Below.drew ?_ | with_reducible refine belowA ?_ _))))
      (first | (go_at_call 45; refine (HNM.out _).mono ?_; rintro e wx ⟨X, rfl, hX, hXs, rfl⟩) | (go_at_call 36; refine (HPB.out _).mono ?_; rintro e wx ⟨rfl, rfl⟩) | (go_at_call 27; refine (HCS.out _ _ _ hX (by (repeat' (first | with_reducible exact Below.refl _ _ | with_reducible refine Below.drew ?_ | with_reducible refine belowA ?_ _))) (by first | exact ints_new _ | exact ints_new2 _ _ | exact (ints_new _).below ((Below.refl _ _).alloc (Nat.le_refl _) _) | exact (ints_new _).below (Below.drew ((Below.refl _ _).alloc (Nat.le_refl _) _)))).mono ?_; rintro e wp ⟨v, rfl, hst, hfr0, hor⟩; have hx : FrX L [B] w1 wp := below_at hfr0 (by (repeat' (first | with_reducible exact Below.refl _ _ | with_reducible refine Below.drew ?_ | with_reducible refine belowA ?_ _))) hLw1; have hor1 : (es = [] ∧ v = .slice none 0 0) ∨ (es ≠ [] ∧ ARow wp w1.heap.size v [(1, f, Jn.record es)]) := hor.imp id (fun g => ⟨g.1, ownsRow_base g.2 (Below.size (w := w1) (by (repeat' (first | with_reducible exact Below.refl _ _ | with_reducible refine Below.drew ?_ | with_reducible refine belowA ?_ _))))⟩); (try (have vo := hfr0.block w1.heap.size _ _ _ (var_first w1 #[.int .i64 0, .int .i64 0] 57 _) (by simp) (hnB _ (Nat.le_refl _)); have z0 : wp.cell? ⟨_, 0, none⟩ = some (.int .i64 0) := (cell_of_row wp _ 0 _ _ _ vo).trans rfl; have z1 : wp.cell? ⟨_, 1, none⟩ = some (.int .i64 0) := (cell_of_row wp _ 1 _ _ _ vo).trans rfl; have z2 := frozen_of_row wp _ 0 _ _ vo; have z3 := frozen_of_row wp _ 1 _ _ vo)); (try (have vo := hfr0.block (w1.heap.size + 1) _ _ _ (var_second w1 #[.int .i64 0, .int .i64 0] 57 _) (by simp) (hnB _ (Nat.le_succ _)); have z0 : wp.cell? ⟨_, 0, none⟩ = some (.int .i64 0) := (cell_of_row wp _ 0 _ _ _ vo).trans rfl; have z1 : wp.cell? ⟨_, 1, none⟩ = some (.int .i64 0) := (cell_of_row wp _ 1 _ _ _ vo).trans rfl; have z2 := frozen_of_row wp _ 0 _ _ vo; have z3 := frozen_of_row wp _ 1 _ _ vo))))
    all_goals
      go_wp2_with fail
      go_meet
      first
        | with_reducible exact cutq_last hst hLw1 hx hor1
        | with_reducible exact cutq_set hst hLw1 (Nat.le_refl _) vo hx hor1
        | with_reducible exact cutq_set hst hLw1 (Nat.le_succ _) vo hx hor1
  case rest =>
    obtain ⟨wp, rfl⟩ : ∃ wp : World, wp = wc := ⟨_, rfl⟩
    obtain ⟨v, rfl, rfl, hst, hx, hor⟩ := hcut
    simp only at hst hor
    have hfr := hx.fr1
    obtain ⟨hms, -, hdp⟩ := HST.out wp hfr
    have g1 : wp.cell? ⟨s, 1, none⟩ = some (.pointer (some ⟨D, 0, none⟩)) := (cell_of_row wp s 1 _ _ _ hms).trans rfl
    have fin : Hid (∃ d' l, playL d l = some d' ∧ DiskFit d' f C' (n + 30000) ∧ ARow wp w1.heap.size v l ∧ l.length ≤ 8) := by
      rcases hor with ⟨hes, rfl⟩ | ⟨hes, har⟩
      · have hC : C' = C := by
          by_cases h0 : er = 0
          · obtain ⟨hre, -, -⟩ := HF0.out h0
            rw [hes] at hre
            have e : Jn.redo C [] = some C := rfl
            rw [e] at hre
            cases hre; rfl
          · exact (HFE.out h0).1
        subst hC
        exact ⟨d, [], rfl, ⟨HD.out.1, HD.out.2.1, Nat.le_trans HD.out.2.2 (by omega)⟩, World.ownsRow_nil _ _ _ _, by simp⟩
      · have h0 : er = 0 := Classical.byContradiction fun hne => hes (HFE.out hne).2
        obtain ⟨hre, hno, hlen⟩ := HF0.out h0
        have h8 := HFN.out
        obtain ⟨d', hpd, hfit⟩ := HD.out.change HH.out.st.con.ok hst.con.ok hno hre (by omega) hn
        exact ⟨d', _, hpd, ⟨hfit.1, hfit.2.1, Nat.le_trans hfit.2.2 (by omega)⟩, har, by simp⟩
    obtain ⟨d', l, hpd, hfit, har, hl8⟩ := fin.out
    have HA := hide (allD_own L D w1.heap.size d d' v l wp hdp HH.out.low.2 har (by omega) hpd)
    have HF := hide (fun w3 hd3 g3 => site_change (d' := d') (w3 := w3) H1.out hst hfr hd3 g3)
    have HFIT := hide hfit
    obtain ⟨vo, vn, vk, rfl⟩ : ∃ vo vn vk, v = .slice vo vn vk := by obtain ⟨x, y, e, -⟩ := har.shape; exact ⟨x, _, y, e⟩
    clear har hst hfr hx hor hpd hfit hms hdp HKP HST HCS HNM HPB HKB2 HKX HFE HF0 HFN HD s0 s1 p0 p1 p2 fin hl8
    rcases hcase with rfl | rfl | rfl
    · go_wp2_with fail
      refine HA.out.mono ?_
      rintro e w3 ⟨rfl, hd3, g3⟩
      obtain ⟨hs, hx⟩ := HF.out w3 hd3 g3
      have HFIN : Hid (PlayPost L s S B D C' (n + 30000) w (.returned (.bool true)) w3) := ⟨rfl, S, B, f, d', hs, HFIT.out, ((FrX.old HB1.out hLw).trans hx).mono (by simp), .inl rfl, .inl rfl⟩
      clear hs hx hd3 g3 HA HF
      go_wp2_with fail
      go_ret
      exact HFIN.out
    · go_wp2_with fail
      refine HA.out.mono ?_
      rintro e w3 ⟨rfl, hd3, g3⟩
      obtain ⟨hs, hx⟩ := HF.out w3 hd3 g3
      have HFIN : Hid (PlayPost L s S B D C' (n + 30000) w (.returned (.bool true)) w3) := ⟨rfl, S, B, f, d', hs, HFIT.out, ((FrX.old HB1.out hLw).trans hx).mono (by simp), .inl rfl, .inl rfl⟩
      clear hs hx hd3 g3 HA HF
      go_wp2_with fail
      go_ret
      exact HFIN.out
    · go_wp2_with fail
      refine HA.out.mono ?_
      rintro e w3 ⟨rfl, hd3, g3⟩
      obtain ⟨hs, hx⟩ := HF.out w3 hd3 g3
      have HFIN : Hid (PlayPost L s S B D C' (n + 30000) w (.returned (.bool true)) w3) := ⟨rfl, S, B, f, d', hs, HFIT.out, ((FrX.old HB1.out hLw).trans hx).mono (by simp), .inl rfl, .inl rfl⟩
      clear hs hx hd3 g3 HA HF
      go_wp2_with fail
      go_ret
      exact HFIN.out

end Go.Proofs.YtellilpeakpbfaaGreatDoor

end

section
/-
  play; fresh; live.
-/
set_option linter.unusedVariables false
namespace Go.Proofs.YtellilpeakpbfaaGreatDoor
open Go.RowKit

namespace Kp
/-- the contents behind a step. -/
def play (C : Jn.Con) (p : Int × Int × Int) : Jn.Con :=
  if pick p.1 8 = 0 then (Jn.put C (key p.2.1) (value p.2.2)).1 else if pick p.1 8 = 1 then (Jn.del C (key p.2.1)).1 else
  if pick p.1 8 = 4 then (Jn.install C (name p.2.1) (src (key p.2.2).toNat (key p.2.1).toNat)).1 else
  if pick p.1 8 = 5 then (Rn.call C (name p.2.1) [pick p.2.2 1000] 10000).1 else if pick p.1 8 = 7 then (Jn.drop C (name p.2.1)).1 else C
def KindC (C : Jn.Con) : Prop := ∀ p ∈ C.procs, Kind p.2
theorem mem_insertP (l : List (Jn.Bytes × Jn.Bytes)) (q p : Jn.Bytes × Jn.Bytes) (h : p ∈ Jn.insertP l q) : p = q ∨ p ∈ l := by
  induction l with
  | nil => unfold Jn.insertP at h; simp at h; exact .inl h
  | cons a r ih =>
    unfold Jn.insertP at h
    split at h
    · rcases List.mem_cons.1 h with h | h
      · exact .inr (by simp [h])
      · exact (ih h).imp id (fun g => by simp [g])
    · rcases List.mem_cons.1 h with h | h
      · exact .inl h
      · exact .inr h
theorem KindC.play {C : Jn.Con} (h : KindC C) (hok : Jn.Ok C) (p : Int × Int × Int) : KindC (play C p) := by
  unfold Kp.play
  repeat' split
  · intro q hq; rw [put_procs] at hq; exact h q hq
  · intro q hq; rw [del_procs] at hq; exact h q hq
  · intro q hq
    unfold Jn.install at hq
    repeat' split at hq
    · exact h q hq
    · exact h q hq
    · exact h q hq
    · rcases mem_insertP _ _ _ hq with rfl | hm
      · have h1 := key_bd p.2.1
        have h2 := key_bd p.2.2
        exact ⟨_, _, by omega, by omega, rfl⟩
      · exact h q (List.mem_filter.1 hm).1
  · intro q hq
    obtain ⟨-, -, -, -, -, -, -, fp⟩ := Rn.call_facts C (name p.2.1) [pick p.2.2 1000] 10000 hok
    rw [fp] at hq
    exact h q hq
  · intro q hq
    unfold Jn.drop at hq
    split at hq
    · exact h q hq
    · exact h q (List.mem_filter.1 hq).1
  · exact h
end Kp

/-- a step's numbers are numbers. -/
def StepB (p : Int × Int × Int) : Prop := (-9223372036854775808 ≤ p.1 ∧ p.1 ≤ 9223372036854775807) ∧ (-9223372036854775808 ≤ p.2.1 ∧ p.2.1 ≤ 9223372036854775807) ∧ (-9223372036854775808 ≤ p.2.2 ∧ p.2.2 ≤ 9223372036854775807)

theorem kplay_any (L s S B D n : Nat) (C : Jn.Con) (f : Int) (d : DS) (w : World) (p : Int × Int × Int) (hp : StepB p) (hkd : Kp.KindC C) (h : SiteAt L w s S B D C f d) (hd : DiskFit d f C n) (hn : n ≤ 1000000000000000000) (hP : PowAt w) (hWd : WordsAt w) (hpL : 1 < L) :
    Calls Tryz.prog 14 #[.pointer (some ⟨s, 0, none⟩), .agg #[.int .i64 p.1, .int .i64 p.2.1, .int .i64 p.2.2]] w (PlayPost L s S B D (Kp.play C p) (n + 30000) w) := by
  obtain ⟨k, a, b⟩ := p
  obtain ⟨⟨k0, k1⟩, ⟨a0, a1⟩, b0, b1⟩ := hp
  simp only at k0 k1 a0 a1 b0 b1 ⊢
  have hb := Kp.pick_bd k 8 (by decide)
  have hc : Kp.pick k 8 = 0 ∨ Kp.pick k 8 = 1 ∨ Kp.pick k 8 = 2 ∨ Kp.pick k 8 = 3 ∨ Kp.pick k 8 = 4 ∨ Kp.pick k 8 = 5 ∨ Kp.pick k 8 = 6 ∨ Kp.pick k 8 = 7 := by omega
  unfold Kp.play
  simp only
  rcases hc with hc | hc | hc | hc | hc | hc | hc | hc
  · rw [if_pos hc]; exact play_put L s S B D n C f d w k a b hc h hd hn hP hpL k0 k1 a0 a1 b0 b1
  · rw [if_neg (by omega), if_pos hc]; exact play_del L s S B D n C f d w k a b hc h hd hn hP hpL k0 k1 a0 a1 b0 b1
  · rw [if_neg (by omega), if_neg (by omega), if_neg (by omega), if_neg (by omega), if_neg (by omega)]; exact play_sync L s S B D n C f d w k a b hc h hd hn hP hWd hpL k0 k1 a0 a1 b0 b1
  · rw [if_neg (by omega), if_neg (by omega), if_neg (by omega), if_neg (by omega), if_neg (by omega)]; exact play_compact L s S B D n C f d w k a b hc h hd hn hP hWd hpL k0 k1 a0 a1 b0 b1
  · rw [if_neg (by omega), if_neg (by omega), if_pos hc]; exact play_install L s S B D n C f d w k a b hc h hd hn hP hWd hpL k0 k1 a0 a1 b0 b1
  · rw [if_neg (by omega), if_neg (by omega), if_neg (by omega), if_pos hc]; exact play_call L s S B D n C f d w k a b hc hkd h hd hn hP hWd hpL k0 k1 a0 a1 b0 b1
  · rw [if_neg (by omega), if_neg (by omega), if_neg (by omega), if_neg (by omega), if_neg (by omega)]; exact play_open L s S B D n C f d w k a b hc h hd hn hP hWd hpL k0 k1 a0 a1 b0 b1
  · rw [if_neg (by omega), if_neg (by omega), if_neg (by omega), if_neg (by omega), if_pos hc]; exact play_drop L s S B D n C f d w k a b hc h hd hn hP hpL k0 k1 a0 a1 b0 b1

theorem SiteAt.down {L L' : Nat} {w : World} {s S B D : Nat} {C : Jn.Con} {f : Int} {d : DS} (h : SiteAt L w s S B D C f d) (hL : L' ≤ L) : SiteAt L' w s S B D C f d :=
  ⟨h.mem, h.st.lower hL, h.disk, Nat.le_trans hL h.low.1, Nat.le_trans hL h.low.2⟩

set_option maxHeartbeats 1000000 in
set_option maxRecDepth 100000 in
theorem fresh_any (w : World) (hP : PowAt w) (hWd : WordsAt w) :
    Calls Tryz.prog 13 #[] w fun e w' => ∃ s S B D f d, e = .returned (.tuple #[.pointer (some ⟨s, 0, none⟩), .bool true]) ∧ SiteAt w.heap.size w' s S B D Jn.none0 f d ∧ DiskFit d f Jn.none0 30000 ∧ Below w.heap.size w w' := by
  obtain ⟨w1, hw1⟩ : ∃ w1, w1 = (w.alloc (.cells #[.string ⟨#[]⟩, .string ⟨#[]⟩, .int .i64 0, .int .i64 0] 97)).alloc (.cells #[.pointer none, .pointer (some ⟨w.heap.size, 0, none⟩)] 39) := ⟨_, rfl⟩
  have hB1 : Below w.heap.size w w1 := by rw [hw1]; exact belowA ((Below.refl _ _).alloc (Nat.le_refl _) _) _
  have hm : w1.heap[w.heap.size + 1]? = some (.cells #[.pointer none, .pointer (some ⟨w.heap.size, 0, none⟩)] 39 (0, 0)) := by rw [hw1]; exact var_second w _ _ _
  have hd : DsAt w1 w.heap.size (⟨#[]⟩, ⟨#[]⟩, 0, 0) := by show w1.heap[w.heap.size]? = _; rw [hw1]; exact var_first w _ _ _
  have HRO := hide (reopen_any w.heap.size (w.heap.size + 1) w.heap.size (.pointer none) w1 (⟨#[]⟩, ⟨#[]⟩, 0, 0) Jn.none0 1 hm hd ⟨Nat.le_succ _, Nat.le_refl _⟩ ⟨_, rfl⟩ rfl (hWd.below hWd.1 hB1) (hP.below hP.1 hB1) (by decide) (by decide))
  have hok := Jn.ok_none
  have hsafe : ∀ d', playL ((⟨#[]⟩, ⟨#[]⟩, 0, 0) : DS) (moveActs Jn.none0 1) = some d' → Safe d' Jn.Ok := by
    intro d' hp
    obtain ⟨dm, hpm, hs⟩ := Firm.move (d := ((⟨#[]⟩, ⟨#[]⟩, 0, 0) : DS)) (C := Jn.none0) (f := 1) ⟨rfl, rfl⟩ rfl hok (ok_plain hok) (Nat.le_trans (all_room hok).1 (Nat.le_trans (all_room hok).2 (by omega))) 5
    have e5 : (moveActs Jn.none0 1).take 5 = moveActs Jn.none0 1 := rfl
    rw [e5, hp] at hpm
    cases hpm
    exact hs.mono (fun X e => e ▸ hok)
  have hroom : (Jn.all Jn.none0).length ≤ 30000 := Nat.le_trans (all_room hok).1 (all_room hok).2
  have HSF := hide hsafe
  have HB1 := hide hB1
  clear hm hd hB1 hsafe hP hWd
  go_enter Tryz.func13, Tryz.ntmps13
  go_wp2_with fail
  rw [← hw1]
  have HW1 := hide hw1
  clear hw1
  refine HRO.out.mono ?_
  rintro e w3 ⟨rfl, S', B', d', hs, hpd, hdk, hsz, hx, hS, hB⟩
  have HFIN := hide (And.intro hs (And.intro (show DiskFit d' (1 - 1) Jn.none0 30000 from ⟨hdk, HSF.out d' hpd, by omega⟩) ((HB1.out).trans (hx.below))))
  clear hs hpd hdk hsz hx hS hB HRO
  go_wp2_with fail
  go_ret2
  exact ⟨w.heap.size + 1, S', B', w.heap.size, _, d', rfl, HFIN.out.1, HFIN.out.2.1, HFIN.out.2.2⟩

/-- Steps in memory: three cells each. -/
def StepsAt (w : World) (g z : Nat) (ps : List (Int × Int × Int)) : Prop := g < w.heap.size ∧ ∀ k p, ps[k]? = some p → w.cell? ⟨g, z + k * 3 + 0, none⟩ = some (.int .i64 p.1) ∧ w.cell? ⟨g, z + k * 3 + 1, none⟩ = some (.int .i64 p.2.1) ∧ w.cell? ⟨g, z + k * 3 + 2, none⟩ = some (.int .i64 p.2.2)
theorem StepsAt.below {X : Nat} {w w' : World} {g z : Nat} {ps : List (Int × Int × Int)} (h : StepsAt w g z ps) (hg : g < X) (hb : Below X w w') : StepsAt w' g z ps :=
  ⟨Nat.lt_of_lt_of_le h.1 hb.size, fun k p hp => ⟨(hb.cell (p := ⟨g, _, none⟩) hg).trans (h.2 k p hp).1, (hb.cell (p := ⟨g, _, none⟩) hg).trans (h.2 k p hp).2.1, (hb.cell (p := ⟨g, _, none⟩) hg).trans (h.2 k p hp).2.2⟩⟩
/-- a list of steps as an argument. -/
def StepsOf (w : World) (v : Value) (ps : List (Int × Int × Int)) : Prop := ∃ ao cap, v = .slice ao ps.length cap ∧ (0 < ps.length → ∃ g z, ao = some ⟨g, z, none⟩ ∧ StepsAt w g z ps) ∧ (∀ p ∈ ps, StepB p) ∧ ps.length ≤ 6000000000000
theorem StepsOf.below {w w' : World} {v : Value} {ps : List (Int × Int × Int)} (h : StepsOf w v ps) (hb : Below w.heap.size w w') : StepsOf w' v ps := by
  obtain ⟨ao, cap, rfl, h1, h2⟩ := h
  exact ⟨ao, cap, rfl, fun h0 => by obtain ⟨g, z, e, hs⟩ := h1 h0; exact ⟨g, z, e, hs.below hs.1 hb⟩, h2⟩

def LvRel (L s D : Nat) (w : World) (ps : List (Int × Int × Int)) (ok i : Value) (wr : World) : Prop :=
  ∃ k : Nat, k ≤ ps.length ∧ i = .int .i64 k ∧ ok = .bool true ∧ (∃ S B f d, SiteAt L wr s S B D ((ps.take k).foldl Kp.play Jn.none0) f d ∧ DiskFit d f ((ps.take k).foldl Kp.play Jn.none0) (30000 + 30000 * k)) ∧ Kp.KindC ((ps.take k).foldl Kp.play Jn.none0) ∧ Below L w wr

set_option maxHeartbeats 4000000 in
set_option maxRecDepth 100000 in
theorem live_any (w : World) (v : Value) (ps : List (Int × Int × Int)) (hv : StepsOf w v ps) (hP : PowAt w) (hWd : WordsAt w) :
    Calls Tryz.prog 15 #[v] w fun e w' => ∃ s S B D f d, e = .returned (.tuple #[.pointer (some ⟨s, 0, none⟩), .bool true]) ∧ SiteAt w.heap.size w' s S B D (ps.foldl Kp.play Jn.none0) f d ∧ DiskFit d f (ps.foldl Kp.play Jn.none0) (30000 + 30000 * ps.length) ∧ Kp.KindC (ps.foldl Kp.play Jn.none0) ∧ Below w.heap.size w w' := by
  obtain ⟨ao, cap, rfl, hst, hbd, hlen⟩ := hv
  have HFR := hide (fresh_any w hP hWd)
  have HST := hide hst
  have HBD := hide hbd
  have HPW := hide hP
  have HWD := hide hWd
  obtain ⟨L, hL⟩ : ∃ L, L = w.heap.size := ⟨_, rfl⟩
  rw [← hL] at HFR ⊢
  have HL := hide hL
  have hpL : 1 < L := by rw [hL]; exact hP.1
  clear hst hbd hP hWd hL
  go_enter Tryz.func15, Tryz.ntmps15
  go_wp2_with fail
  refine HFR.out.mono ?_
  rintro e w1 ⟨s, S, B, D, f, d, rfl, hs, hd, hb⟩
  have HR0 : Hid (LvRel L s D w ps (.bool true) (.int .i64 (0 : Int)) w1) := ⟨0, Nat.zero_le _, rfl, rfl, ⟨S, B, f, d, hs, hd⟩, (fun p hp => by cases hp), hb⟩
  clear hs hd hb HFR
  go_wp2_with fail
  go_loopw [5, 6] (fun ok i wr => LvRel L s D w ps ok i wr) (fun _ i _ => ps.length - (intOf i).toNat)
  case atStart => exact HR0.out
  case round =>
    clear HR0
    obtain ⟨k, hk, rfl, rfl, ⟨S1, B1, f1, d1, hs, hd⟩, hkd, hb⟩ := hrel
    by_cases hkl : k < ps.length
    · obtain ⟨g, z, rfl, hsc⟩ := HST.out (by omega)
      obtain ⟨p, hp⟩ : ∃ p, ps[k]? = some p := ⟨ps[k], List.getElem?_eq_getElem hkl⟩
      have hpm : p ∈ ps := List.mem_of_getElem? hp
      have hbw : Below w.heap.size w wr := HL.out ▸ hb
      obtain ⟨d0, d1', d2⟩ := (hsc.below hsc.1 hbw).2 k p hp
      simp only [Nat.add_zero] at d0
      have tk : decide ((k : Int) < (ps.length : Int)) = true := by simp; omega
      have HC := hide (kplay_any L s S1 B1 D _ _ f1 d1 wr p (HBD.out p hpm) hkd hs hd (by omega) (HPW.out.below HPW.out.1 hbw) (HWD.out.below HWD.out.1 hbw) hpL)
      have hfold : (ps.take (k + 1)).foldl Kp.play Jn.none0 = Kp.play ((ps.take k).foldl Kp.play Jn.none0) p := by
        rw [List.take_add_one, hp]
        simp
      have HFO := hide hfold
      have HKD := hide (hkd.play hs.st.con.ok p)
      have HB := hide hb
      clear hs hd hkd hb hbw hsc hp hpm hfold
      obtain ⟨p1, p2, p3⟩ := p
      simp only at d0 d1' d2 HC
      go_wp2_with fail
      refine HC.out.mono ?_
      rintro e w2 ⟨rfl, S2, B2, f2, d2', hs2, hd2, hx2, -, -⟩
      have HRR : Hid (LvRel L s D w ps (.bool true) (.int .i64 ((k : Int) + 1)) w2) := by
        refine ⟨k + 1, by omega, by go_num, rfl, ⟨S2, B2, f2, d2', ?_, ?_⟩, ?_, HB.out.trans hx2.below⟩
        · rw [HFO.out]; exact hs2
        · rw [HFO.out]; exact ⟨hd2.1, hd2.2.1, Nat.le_trans hd2.2.2 (by omega)⟩
        · rw [HFO.out]; exact HKD.out
      clear hs2 hd2 hx2 HC
      go_wp2_with fail
      go_roundw
      case rel => exact HRR.out
      case measure => simp [intOf]; omega
    · have tk : decide ((k : Int) < (ps.length : Int)) = false := by simp; omega
      have hke : ps.take k = ps := List.take_of_length_le (by omega)
      have hkn : k = ps.length := by omega
      rw [hke] at hs hd hkd
      have HF := hide (And.intro hs (And.intro (show DiskFit d1 f1 (ps.foldl Kp.play Jn.none0) (30000 + 30000 * ps.length) from hkn ▸ hd) (And.intro hkd hb)))
      clear hs hd hkd hb hke hkn
      go_wp2_with fail
      go_ret2
      exact ⟨s, S1, B1, D, f1, d1, rfl, HF.out.1, HF.out.2.1, HF.out.2.2.1, HF.out.2.2.2⟩
end Go.Proofs.YtellilpeakpbfaaGreatDoor

end
