import Derived.Test.YtellilpeakpbfaaGreatDoorSiteCToo
section
/-
  The walk of play: Sync, Compact, Open.
-/
set_option linter.unusedVariables false
namespace Go.Proofs.YtellilpeakpbfaaGreatDoor
open Go.RowKit

set_option maxHeartbeats 1000000 in
set_option maxRecDepth 100000 in
theorem move_own (L S B : Nat) (C : Jn.Con) (f : Int) (w : World) (h : StAt L w S B C f) (hP : PowAt w) (hgL : 1 < L) :
    Calls Tryz.prog 78 #[.pointer (some ⟨S, 0, none⟩)] w fun e w' => ∃ v, e = .returned v ∧ ARow w' w.heap.size v (moveActs C f) ∧ StAt L w' S B C (1 - f) ∧ Fr L [] (some S) w w' := by
  obtain ⟨c0, c1, f0, f1⟩ := h.cells
  have hf := h.file
  have hset := st_setF h (1 - f) (by omega)
  have hlt := h.lt
  have hf0 : 0 ≤ f ∧ f ≤ 1 := by omega
  obtain ⟨g0, g1⟩ := hf0
  obtain ⟨w1, hw1⟩ : ∃ w1, w1 = w.setCell ⟨S, 1, none⟩ (.int .i64 (1 - f)) := ⟨_, rfl⟩
  rw [← hw1] at hset
  have hown : Fr L [] (some S) w w1 := by rw [hw1]; exact fr_setCell w S 1 _ h.low
  have HOWN := hide hown
  have hz : w1.heap.size = w.heap.size := by rw [hw1]; simp
  have hc := all_any L B C w1 hset.1.con (hP.below hgL hset.2.below)
  have d0 := hset.1.cells.1
  have HC := hide hc
  have HS := hide hset
  clear hc hset h hf hP hown
  go_enter Tryz.func78, Tryz.ntmps78
  go_wp2_with fail
  rw [← hw1]
  have HW := hide hw1
  clear hw1
  refine HC.out.mono ?_
  rintro e w2 ⟨X, rfl, hX, hb⟩
  have HX := hide hX
  have HB := hide hb
  have hz2 := hb.size
  clear hX hb HC
  go_wp2
  go_ret
  have hL : L ≤ w1.heap.size := Nat.le_trans HS.out.1.low (Nat.le_of_lt HS.out.1.lt)
  refine ⟨_, rfl, ?_, (HS.out.1.below HB.out).below ((Below.refl _ _).alloc (Nat.le_refl _) _), ?_⟩
  · refine arow_new w2 w.heap.size (by omega) (moveActs C f) 5 rfl _ ?_ (by decide)
    simp only [moveActs, acts3, List.flatMap_cons, List.flatMap_nil, ← HX.out]
    rfl
  · exact HOWN.out.trans ((Fr.of HB.out hL).trans (Fr.of ((Below.refl _ _).alloc (Nat.le_refl _) _) (by omega)))
set_option maxHeartbeats 1000000 in
theorem compact_own (L S B : Nat) (C : Jn.Con) (f : Int) (w : World) (h : StAt L w S B C f) (hP : PowAt w) (hgL : 1 < L) :
    Calls Tryz.prog 44 #[.pointer (some ⟨S, 0, none⟩)] w fun e w' => ∃ v, e = .returned v ∧ ARow w' w.heap.size v (moveActs C f) ∧ StAt L w' S B C (1 - f) ∧ Fr L [] (some S) w w' := by
  have HM := hide (move_own L S B C f w h hP hgL)
  clear h hP
  go_enter Tryz.func44, Tryz.ntmps44
  go_wp2_with fail
  refine HM.out.mono ?_
  rintro e w1 ⟨v, rfl, h1, h2, h3⟩
  have HF := hide (And.intro h1 (And.intro h2 h3))
  obtain ⟨vo, vn, vk, rfl⟩ : ∃ vo vn vk, v = .slice vo vn vk := by obtain ⟨x, y, e, -⟩ := h1.shape; exact ⟨x, _, y, e⟩
  clear h1 h2 h3 HM
  go_wp2_with fail
  go_ret
  exact ⟨_, rfl, HF.out⟩

theorem move_stay {L s S B D : Nat} {C : Jn.Con} {f : Int} {d : DS} {w1 wp : World} (h : SiteAt L w1 s S B D C f d) (g : Fr L [] (some S) w1 wp) :
    wp.heap[s]? = some (.cells #[.pointer (some ⟨S, 0, none⟩), .pointer (some ⟨D, 0, none⟩)] 39 (0, 0)) ∧ DsAt wp D d := by
  have hB := h.st.mem
  have hm := h.mem
  have hD : w1.heap[D]? = _ := h.disk
  have nsB : s ≠ S := fun e => by rw [e, hB] at hm; cases hm
  have nDB : D ≠ S := fun e => by rw [e, hB] at hD; cases hD
  exact ⟨g.block s _ _ _ h.mem (by simp) (by simpa using Ne.symm nsB), g.block D _ _ _ hD (by simp) (by simpa using Ne.symm nDB)⟩
theorem site_move {L s S B D : Nat} {C C' : Jn.Con} {f f' : Int} {d d' : DS} {w1 wp w3 : World} (h : SiteAt L w1 s S B D C f d) (hst : StAt L wp S B C' f') (g : Fr L [] (some S) w1 wp) (hd3 : DsAt w3 D d') (g3 : Fr L [] (some D) wp w3) :
    SiteAt L w3 s S B D C' f' d' ∧ FrX L [s, S, B, D] w1 w3 := by
  obtain ⟨hsp, hDp⟩ := move_stay h g
  have nsD : s ≠ D := fun e => by rw [e, show wp.heap[D]? = _ from hDp] at hsp; cases hsp
  have gT : Fr L [97] none wp w3 := (g3.wide (by simp)).typed (fun k hk => by cases hk; exact ⟨_, _, _, hDp, by simp⟩) none
  refine ⟨⟨g3.block s _ _ _ hsp (by simp) (by simpa using Ne.symm nsD), hst.fr gT (by decide) (by decide) (by decide) (by simp), hd3, h.low⟩, ?_⟩
  exact ((FrX.one g).trans (FrX.one g3)).mono (by simp)

set_option maxHeartbeats 4000000 in
set_option maxRecDepth 100000 in
theorem play_sync (L s S B D n : Nat) (C : Jn.Con) (f : Int) (d : DS) (w : World) (k a b : Int) (hk : Kp.pick k 8 = 2) (h : SiteAt L w s S B D C f d) (hd : DiskFit d f C n) (hn : n ≤ 1000000000000000000) (hP : PowAt w) (hWd : WordsAt w) (hpL : 1 < L)
    (k0 : -9223372036854775808 ≤ k) (k1 : k ≤ 9223372036854775807) (a0 : -9223372036854775808 ≤ a) (a1 : a ≤ 9223372036854775807) (b0 : -9223372036854775808 ≤ b) (b1 : b ≤ 9223372036854775807) :
    Calls Tryz.prog 14 #[.pointer (some ⟨s, 0, none⟩), .agg #[.int .i64 k, .int .i64 a, .int .i64 b]] w (PlayPost L s S B D C (n + 30000) w) := by
  obtain ⟨w1, hw1⟩ : ∃ w1, w1 = w.alloc (.cells #[.int .i64 k, .int .i64 a, .int .i64 b] 32) := ⟨_, rfl⟩
  obtain ⟨B0, hB0⟩ : ∃ B0, B0 = w.heap.size := ⟨_, rfl⟩
  have hB1 : Below w.heap.size w w1 := by rw [hw1]; exact (Below.refl _ _).alloc (Nat.le_refl _) _
  have hbo : w1.heap[B0]? = some (.cells #[.int .i64 k, .int .i64 a, .int .i64 b] 32 (0, 0)) := by rw [hw1, hB0]; exact heap_alloc_new w _
  have h1 := h.below hB1
  have p0 : w1.cell? ⟨B0, 0, none⟩ = some (.int .i64 k) := (cell_of_row w1 B0 0 _ _ _ hbo).trans rfl
  have p1 : w1.cell? ⟨B0, 1, none⟩ = some (.int .i64 a) := (cell_of_row w1 B0 1 _ _ _ hbo).trans rfl
  have p2 : w1.cell? ⟨B0, 2, none⟩ = some (.int .i64 b) := (cell_of_row w1 B0 2 _ _ _ hbo).trans rfl
  obtain ⟨s0, s1⟩ := h1.cells
  have HPK : Hid (∀ x, Calls Tryz.prog 36 #[.int .i64 k, .int .i64 8] x fun e w' => e = .returned (.int .i64 2) ∧ w' = x) := fun x => by
    have := kpick_any k 8 (by decide) (by decide) k0 k1 x
    rw [show ((8 : Nat) : Int) = 8 from rfl, hk] at this
    exact this
  have HSY := hide (fun x (hx : Below w1.heap.size w1 x) => sync_any L S B C f x (h1.below hx).st)
  obtain ⟨d', hpd, hdk', hfirm, e1, e2⟩ := hd.2.1.sync hd.1
  have hfit : DiskFit d' f C (n + 30000) := ⟨hdk', (hfirm.safe hdk'.two).mono (fun X e => e ▸ h.st.con.ok), by rw [e1, e2]; have := hd.2.2; omega⟩
  have HFIT := hide hfit
  have HAL := hide (fun x v b hdx har => allD_own L D b d d' v [(2, f, [])] x hdx h.low.2 har (by simp) hpd)
  have HCH := hide (fun wp w3 (hb : Below w1.heap.size w1 wp) hd3 g3 => site_change (d' := d') (w3 := w3) h1 (h1.below hb).st (Fr.of hb h1.lowL) hd3 g3)
  have HDX := hide (fun x (hx : Below w1.heap.size w1 x) => (h1.below hx).disk)
  have HKP := hide (fun x (hx : Below w1.heap.size w1 x) => And.intro (h1.below hx).cells.2 (h1.below hx).cells.1)
  clear hdk' hfirm e1 e2 hfit hpd
  have H1 := hide h1
  have HB1 := hide hB1
  have HH := hide h
  have hLw := h.lowL
  have hLw1 := h1.lowL
  have HD := hide hd
  have hok := h.st.con.ok
  have HWD := hide (hWd.below hWd.1 hB1)
  have HPW := hide (hP.below hP.1 hB1)
  have HOK := hide hok
  clear h hbo hB1 hd hP hWd hk
  go_enter Tryz.func14, Tryz.ntmps14
  go_upto_region 1 with fail
  rw [← hw1, ← hB0]
  have HW1 := hide hw1
  have HB0 := hide hB0
  clear hw1 hB0
  go_wp2_with fail
  refine (HPK.out _).mono ?_
  rintro e wq ⟨rfl, hq⟩
  obtain rfl : w1 = wq := hq.symm
  clear HPK
  go_wp2_with fail
  go_region_held3 (fun w' => w'.cell? ⟨s, 1, none⟩ = some (.pointer (some ⟨D, 0, none⟩)) ∧ w'.cell? ⟨s, 0, none⟩ = some (.pointer (some ⟨S, 0, none⟩)))
    (first | with_reducible exact HKP.out _ hb | exact ⟨hs.cells.2, hs.cells.1⟩ | go_keep)
    (first | (go_at_call 43; refine (HSY.out _ (by first | exact Below.refl _ _ | exact Below.drew (Below.refl _ _))).mono ?_; rintro e wp ⟨v, rfl, har, hb0⟩; have hb : Below w1.heap.size w1 wp := below_undrew hb0; obtain ⟨vo, vn, vk, hvs⟩ : ∃ vo vn vk, v = .slice vo vn vk := (by obtain ⟨x, y, e, -⟩ := har.shape; exact ⟨x, _, y, e⟩); subst hvs) | (go_at_call 42; refine (HAL.out _ _ _ (HDX.out _ hb) har).mono ?_; rintro e w3 ⟨rfl, hd3, g3⟩; obtain ⟨hs, hx⟩ := HCH.out _ _ hb hd3 g3))
  have HFIN : Hid (PlayPost L s S B D C (n + 30000) w (.returned (.bool true)) w3) := ⟨rfl, S, B, f, d', hs, HFIT.out, ((FrX.old HB1.out hLw).trans hx).mono (by simp), .inl rfl, .inl rfl⟩
  clear hs hx hd3 g3 hb hb0 har HAL HCH HDX HKP HSY
  go_wp2_with fail
  go_ret
  exact HFIN.out

set_option maxHeartbeats 4000000 in
set_option maxRecDepth 100000 in
theorem play_compact (L s S B D n : Nat) (C : Jn.Con) (f : Int) (d : DS) (w : World) (k a b : Int) (hk : Kp.pick k 8 = 3) (h : SiteAt L w s S B D C f d) (hd : DiskFit d f C n) (hn : n ≤ 1000000000000000000) (hP : PowAt w) (hWd : WordsAt w) (hpL : 1 < L)
    (k0 : -9223372036854775808 ≤ k) (k1 : k ≤ 9223372036854775807) (a0 : -9223372036854775808 ≤ a) (a1 : a ≤ 9223372036854775807) (b0 : -9223372036854775808 ≤ b) (b1 : b ≤ 9223372036854775807) :
    Calls Tryz.prog 14 #[.pointer (some ⟨s, 0, none⟩), .agg #[.int .i64 k, .int .i64 a, .int .i64 b]] w (PlayPost L s S B D C (n + 30000) w) := by
  obtain ⟨w1, hw1⟩ : ∃ w1, w1 = w.alloc (.cells #[.int .i64 k, .int .i64 a, .int .i64 b] 32) := ⟨_, rfl⟩
  obtain ⟨B0, hB0⟩ : ∃ B0, B0 = w.heap.size := ⟨_, rfl⟩
  have hB1 : Below w.heap.size w w1 := by rw [hw1]; exact (Below.refl _ _).alloc (Nat.le_refl _) _
  have hbo : w1.heap[B0]? = some (.cells #[.int .i64 k, .int .i64 a, .int .i64 b] 32 (0, 0)) := by rw [hw1, hB0]; exact heap_alloc_new w _
  have h1 := h.below hB1
  have p0 : w1.cell? ⟨B0, 0, none⟩ = some (.int .i64 k) := (cell_of_row w1 B0 0 _ _ _ hbo).trans rfl
  have p1 : w1.cell? ⟨B0, 1, none⟩ = some (.int .i64 a) := (cell_of_row w1 B0 1 _ _ _ hbo).trans rfl
  have p2 : w1.cell? ⟨B0, 2, none⟩ = some (.int .i64 b) := (cell_of_row w1 B0 2 _ _ _ hbo).trans rfl
  obtain ⟨s0, s1⟩ := h1.cells
  have HPK : Hid (∀ x, Calls Tryz.prog 36 #[.int .i64 k, .int .i64 8] x fun e w' => e = .returned (.int .i64 3) ∧ w' = x) := fun x => by
    have := kpick_any k 8 (by decide) (by decide) k0 k1 x
    rw [show ((8 : Nat) : Int) = 8 from rfl, hk] at this
    exact this
  have HMV := hide (fun x (hx : Below w1.heap.size w1 x) => compact_own L S B C f x (h1.below hx).st ((hP.below hP.1 hB1).below (Nat.lt_of_lt_of_le hP.1 hB1.size) hx) hpL)
  obtain ⟨d', hpd, hsafe⟩ := hd.2.1.moved hd.1 h.st.con.ok (ok_plain h.st.con.ok) (Nat.le_trans (all_room h.st.con.ok).1 (Nat.le_trans (all_room h.st.con.ok).2 (by omega)))
  obtain ⟨d2, hpd2, hdk', hsz⟩ := DiskOk.move (d := d) (C := C) (f := f) h.st.file h.st.con.ok (ok_plain h.st.con.ok) (Nat.le_trans (all_room h.st.con.ok).1 (Nat.le_trans (all_room h.st.con.ok).2 (by omega)))
  obtain rfl : d2 = d' := by rw [hpd2] at hpd; cases hpd; rfl
  have hfit : DiskFit d2 (1 - f) C (n + 30000) := ⟨hdk', hsafe.mono (fun X e => e ▸ h.st.con.ok), by rw [hsz]; have := (all_room h.st.con.ok).1; have := (all_room h.st.con.ok).2; omega⟩
  have HFIT := hide hfit
  have HAL := hide (fun x v b hdx har => allD_own L D b d d2 v (moveActs C f) x hdx h.low.2 har (by simp [moveActs]) hpd)
  have HCH := hide (fun wp w3 hst g hd3 g3 => site_move (C' := C) (f' := 1 - f) (d' := d2) (wp := wp) (w3 := w3) h1 hst g hd3 g3)
  have HDX := hide (fun x hx => (move_stay (wp := x) h1 hx).2)
  have HKP := hide (fun x hx => And.intro ((cell_of_row x s 1 _ _ _ (move_stay (wp := x) h1 hx).1).trans rfl : x.cell? ⟨s, 1, none⟩ = some (.pointer (some ⟨D, 0, none⟩))) ((cell_of_row x s 0 _ _ _ (move_stay (wp := x) h1 hx).1).trans rfl : x.cell? ⟨s, 0, none⟩ = some (.pointer (some ⟨S, 0, none⟩))))
  clear hdk' hsz hfit hpd hpd2 hsafe
  have H1 := hide h1
  have HB1 := hide hB1
  have HH := hide h
  have hLw := h.lowL
  have hLw1 := h1.lowL
  have HD := hide hd
  have hok := h.st.con.ok
  have HWD := hide (hWd.below hWd.1 hB1)
  have HPW := hide (hP.below hP.1 hB1)
  have HOK := hide hok
  clear h hbo hB1 hd hP hWd hk
  go_enter Tryz.func14, Tryz.ntmps14
  go_upto_region 1 with fail
  rw [← hw1, ← hB0]
  have HW1 := hide hw1
  have HB0 := hide hB0
  clear hw1 hB0
  go_wp2_with fail
  refine (HPK.out _).mono ?_
  rintro e wq ⟨rfl, hq⟩
  obtain rfl : w1 = wq := hq.symm
  clear HPK
  go_wp2_with fail
  go_region_held3 (fun w' => w'.cell? ⟨s, 1, none⟩ = some (.pointer (some ⟨D, 0, none⟩)) ∧ w'.cell? ⟨s, 0, none⟩ = some (.pointer (some ⟨S, 0, none⟩)))
    (first | with_reducible exact HKP.out _ hfr | exact ⟨hs.cells.2, hs.cells.1⟩ | go_keep)
    (first | (go_at_call 44; refine (HMV.out _ (by first | exact Below.refl _ _ | exact Below.drew (Below.refl _ _))).mono ?_; rintro e wp ⟨v, rfl, har, hst, hfr0⟩; have hfr : Fr L [] (some S) w1 wp := Fr.undrew hfr0; obtain ⟨vo, vn, vk, hvs⟩ : ∃ vo vn vk, v = .slice vo vn vk := (by obtain ⟨x, y, e, -⟩ := har.shape; exact ⟨x, _, y, e⟩); subst hvs) | (go_at_call 42; refine (HAL.out _ _ _ (HDX.out _ hfr) har).mono ?_; rintro e w3 ⟨rfl, hd3, g3⟩; obtain ⟨hs, hx⟩ := HCH.out _ _ hst hfr hd3 g3))
  have HFIN : Hid (PlayPost L s S B D C (n + 30000) w (.returned (.bool true)) w3) := ⟨rfl, S, B, 1 - f, d2, hs, HFIT.out, ((FrX.old HB1.out hLw).trans hx).mono (by simp), .inl rfl, .inl rfl⟩
  clear hs hx hd3 g3 hfr hfr0 hst har HAL HCH HDX HKP HMV
  go_wp2_with fail
  go_ret
  exact HFIN.out

set_option maxHeartbeats 4000000 in
set_option maxRecDepth 100000 in
theorem play_open (L s S B D n : Nat) (C : Jn.Con) (f : Int) (d : DS) (w : World) (k a b : Int) (hk : Kp.pick k 8 = 6) (h : SiteAt L w s S B D C f d) (hd : DiskFit d f C n) (hn : n ≤ 1000000000000000000) (hP : PowAt w) (hWd : WordsAt w) (hpL : 1 < L)
    (k0 : -9223372036854775808 ≤ k) (k1 : k ≤ 9223372036854775807) (a0 : -9223372036854775808 ≤ a) (a1 : a ≤ 9223372036854775807) (b0 : -9223372036854775808 ≤ b) (b1 : b ≤ 9223372036854775807) :
    Calls Tryz.prog 14 #[.pointer (some ⟨s, 0, none⟩), .agg #[.int .i64 k, .int .i64 a, .int .i64 b]] w (PlayPost L s S B D C (n + 30000) w) := by
  obtain ⟨w1, hw1⟩ : ∃ w1, w1 = w.alloc (.cells #[.int .i64 k, .int .i64 a, .int .i64 b] 32) := ⟨_, rfl⟩
  obtain ⟨B0, hB0⟩ : ∃ B0, B0 = w.heap.size := ⟨_, rfl⟩
  have hB1 : Below w.heap.size w w1 := by rw [hw1]; exact (Below.refl _ _).alloc (Nat.le_refl _) _
  have hbo : w1.heap[B0]? = some (.cells #[.int .i64 k, .int .i64 a, .int .i64 b] 32 (0, 0)) := by rw [hw1, hB0]; exact heap_alloc_new w _
  have h1 := h.below hB1
  have p0 : w1.cell? ⟨B0, 0, none⟩ = some (.int .i64 k) := (cell_of_row w1 B0 0 _ _ _ hbo).trans rfl
  have p1 : w1.cell? ⟨B0, 1, none⟩ = some (.int .i64 a) := (cell_of_row w1 B0 1 _ _ _ hbo).trans rfl
  have p2 : w1.cell? ⟨B0, 2, none⟩ = some (.int .i64 b) := (cell_of_row w1 B0 2 _ _ _ hbo).trans rfl
  obtain ⟨s0, s1⟩ := h1.cells
  have HPK : Hid (∀ x, Calls Tryz.prog 36 #[.int .i64 k, .int .i64 8] x fun e w' => e = .returned (.int .i64 6) ∧ w' = x) := fun x => by
    have := kpick_any k 8 (by decide) (by decide) k0 k1 x
    rw [show ((8 : Nat) : Int) = 8 from rfl, hk] at this
    exact this
  have HRO := hide (reopen_any L s D (.pointer (some ⟨S, 0, none⟩)) w1 d C f h1.mem h1.disk h1.low ⟨_, rfl⟩ hd.1.two (hWd.below hWd.1 hB1) (hP.below hP.1 hB1) (by have := hd.2.2; omega) (by have := hd.2.2; omega))
  obtain ⟨dm, hpm, hsafe⟩ := hd.2.1.moved hd.1 h.st.con.ok (ok_plain h.st.con.ok) (Nat.le_trans (all_room h.st.con.ok).1 (Nat.le_trans (all_room h.st.con.ok).2 (by omega)))
  have hroom : (Jn.all C).length ≤ 30000 := Nat.le_trans (all_room h.st.con.ok).1 (all_room h.st.con.ok).2
  have HPM := hide hpm
  have HSF := hide hsafe
  clear hpm hsafe
  have H1 := hide h1
  have HB1 := hide hB1
  have HH := hide h
  have hLw := h.lowL
  have hLw1 := h1.lowL
  have HD := hide hd
  have hok := h.st.con.ok
  have HWD := hide (hWd.below hWd.1 hB1)
  have HPW := hide (hP.below hP.1 hB1)
  have HOK := hide hok
  clear h hbo hB1 hd hP hWd hk
  go_enter Tryz.func14, Tryz.ntmps14
  go_upto_region 1 with fail
  rw [← hw1, ← hB0]
  have HW1 := hide hw1
  have HB0 := hide hB0
  clear hw1 hB0
  go_wp2_with fail
  refine (HPK.out _).mono ?_
  rintro e wq ⟨rfl, hq⟩
  obtain rfl : w1 = wq := hq.symm
  clear HPK
  go_wp2_with fail
  refine HRO.out.mono ?_
  rintro e w3 ⟨rfl, S', B', d', hs, hpd, hdk, hsz, hx, hS, hB⟩
  have hz := HB1.out.size
  have hsf : Safe d' (· = C) := by
    have hpm := HPM.out
    rw [hpd] at hpm
    cases hpm
    exact HSF.out
  have HFIN : Hid (PlayPost L s S B D C (n + 30000) w (.returned (.bool true)) w3) := ⟨rfl, S', B', 1 - f, d', hs, ⟨hdk, hsf.mono (fun X e => e ▸ HOK.out), by omega⟩, ((FrX.old HB1.out hLw).trans hx).mono (by simp), .inr (by omega), .inr (by omega)⟩
  clear hs hx hpd hdk hsz HRO
  go_wp2_with fail
  go_ret
  exact HFIN.out

end Go.Proofs.YtellilpeakpbfaaGreatDoor

end

section
/-
  The walk of play: Install.
-/
set_option linter.unusedVariables false
namespace Go.Proofs.YtellilpeakpbfaaGreatDoor
open Go.RowKit

set_option maxHeartbeats 4000000 in
set_option maxRecDepth 100000 in
theorem play_install (L s S B D n : Nat) (C : Jn.Con) (f : Int) (d : DS) (w : World) (k a b : Int) (hk : Kp.pick k 8 = 4) (h : SiteAt L w s S B D C f d) (hd : DiskFit d f C n) (hn : n ≤ 1000000000000000000) (hP : PowAt w) (hWd : WordsAt w) (hpL : 1 < L)
    (k0 : -9223372036854775808 ≤ k) (k1 : k ≤ 9223372036854775807) (a0 : -9223372036854775808 ≤ a) (a1 : a ≤ 9223372036854775807) (b0 : -9223372036854775808 ≤ b) (b1 : b ≤ 9223372036854775807) :
    Calls Tryz.prog 14 #[.pointer (some ⟨s, 0, none⟩), .agg #[.int .i64 k, .int .i64 a, .int .i64 b]] w (PlayPost L s S B D (Jn.install C (Kp.name a) (Kp.src (Kp.key b).toNat (Kp.key a).toNat)).1 (n + 30000) w) := by
  obtain ⟨w1, hw1⟩ : ∃ w1, w1 = w.alloc (.cells #[.int .i64 k, .int .i64 a, .int .i64 b] 32) := ⟨_, rfl⟩
  obtain ⟨B0, hB0⟩ : ∃ B0, B0 = w.heap.size := ⟨_, rfl⟩
  have hB1 : Below w.heap.size w w1 := by rw [hw1]; exact (Below.refl _ _).alloc (Nat.le_refl _) _
  have hbo : w1.heap[B0]? = some (.cells #[.int .i64 k, .int .i64 a, .int .i64 b] 32 (0, 0)) := by rw [hw1, hB0]; exact heap_alloc_new w _
  have h1 := h.below hB1
  have p0 : w1.cell? ⟨B0, 0, none⟩ = some (.int .i64 k) := (cell_of_row w1 B0 0 _ _ _ hbo).trans rfl
  have p1 : w1.cell? ⟨B0, 1, none⟩ = some (.int .i64 a) := (cell_of_row w1 B0 1 _ _ _ hbo).trans rfl
  have p2 : w1.cell? ⟨B0, 2, none⟩ = some (.int .i64 b) := (cell_of_row w1 B0 2 _ _ _ hbo).trans rfl
  obtain ⟨s0, s1⟩ := h1.cells
  have HPK : Hid (∀ x, Calls Tryz.prog 36 #[.int .i64 k, .int .i64 8] x fun e w' => e = .returned (.int .i64 4) ∧ w' = x) := fun x => by
    have := kpick_any k 8 (by decide) (by decide) k0 k1 x
    rw [show ((8 : Nat) : Int) = 8 from rfl, hk] at this
    exact this
  have HNM := hide (fun x => kname_any a a0 a1 x)
  obtain ⟨ka, hka⟩ : ∃ ka : Nat, Kp.key a = (ka : Int) := ⟨(Kp.key a).toNat, by have := Kp.key_bd a; omega⟩
  obtain ⟨kb, hkb⟩ : ∃ kb : Nat, Kp.key b = (kb : Int) := ⟨(Kp.key b).toNat, by have := Kp.key_bd b; omega⟩
  have la : ka ≤ 99 := by have := Kp.key_bd a; omega
  have lb : kb ≤ 99 := by have := Kp.key_bd b; omega
  have HKA : Hid (∀ x, Calls Tryz.prog 30 #[.int .i64 a] x fun e w' => e = .returned (.int .i64 (ka : Int)) ∧ w' = x) := fun x => by rw [← hka]; exact kkey_any a a0 a1 x
  have HKB : Hid (∀ x, Calls Tryz.prog 30 #[.int .i64 b] x fun e w' => e = .returned (.int .i64 (kb : Int)) ∧ w' = x) := fun x => by rw [← hkb]; exact kkey_any b b0 b1 x
  have HDX := hide (fun q (hq : q ≤ 999999) x => kdecimal_any q hq x)
  have hes : Kp.src (Kp.key b).toNat (Kp.key a).toNat = Kp.src kb ka := by rw [hka, hkb]; rfl
  rw [hes]
  have hsl := Kp.src_len kb ka lb la
  have hok := h.st.con.ok
  have HIS : Hid (∀ (x : World) (X Y : ByteArray), X.data.toList = Kp.name a → Y.data.toList = Kp.src kb ka → Below w1.heap.size w1 x → Calls Tryz.prog 29 #[.pointer (some ⟨S, 0, none⟩), .string X, .string Y] x
      (InsOwn L S B (Jn.install C (Kp.name a) (Kp.src kb ka)).1 f (Jn.install C (Kp.name a) (Kp.src kb ka)).2.1 (Jn.install C (Kp.name a) (Kp.src kb ka)).2.2 (Jn.installE (Kp.name a) (Kp.src kb ka)) x)) := by
    intro x X Y hX hY hx
    have := installS_own L S B C f X Y x (h1.below hx).st ((hWd.below hWd.1 hB1).below (Nat.lt_of_lt_of_le hWd.1 hB1.size) hx)
    rw [hX, hY] at this
    exact this
  have hsame := install_same C (Kp.name a) (Kp.src kb ka)
  have hredo := fun e => install_redo C (Kp.name a) (Kp.src kb ka) e
  have hcase : (Jn.install C (Kp.name a) (Kp.src kb ka)).2.2 = 0 ∨ (Jn.install C (Kp.name a) (Kp.src kb ka)).2.2 = 4 := by
    have h1 := Kp.name_is a
    have h2 := Kp.src_read kb ka lb la
    unfold Jn.install
    rw [if_neg (by rw [h1]; decide), if_neg (by rw [h2]; decide)]
    split <;> simp
  have hnl : (Kp.name a).length = 1 := rfl
  have hsrc : Kp.src kb ka = [112, 117, 116, 32] ++ Lib.decDigits kb ++ [32, 43, 32, 97, 48, 32, 64, 32] ++ Lib.decDigits ka := rfl
  generalize Kp.name a = nm at *
  generalize Kp.src kb ka = sr at *
  obtain ⟨C', hC'⟩ : ∃ C', C' = (Jn.install C nm sr).1 := ⟨_, rfl⟩
  obtain ⟨at', hat⟩ : ∃ at', at' = (Jn.install C nm sr).2.1 := ⟨_, rfl⟩
  obtain ⟨er, her⟩ : ∃ er, er = (Jn.install C nm sr).2.2 := ⟨_, rfl⟩
  rw [← hC', ← hat, ← her] at HIS
  rw [← hC', ← her] at hredo
  rw [← hC', ← her] at hsame
  rw [← her] at hcase
  rw [← hC']
  have HSR := hide hsrc
  clear hat hsrc hes hka hkb
  have HST := hide (fun x (hx : Fr L [] (some B) w1 x) => site_stay h1 hbo hx)
  have HKP := hide (fun x (hx : Fr L [] (some B) w1 x) => (⟨(cell_of_row x s 0 _ _ _ (HST.out x hx).1).trans rfl, (cell_of_row x B0 1 _ _ _ (HST.out x hx).2.1).trans rfl, (cell_of_row x B0 2 _ _ _ (HST.out x hx).2.1).trans rfl⟩ : x.cell? ⟨s, 0, none⟩ = some (.pointer (some ⟨S, 0, none⟩)) ∧ x.cell? ⟨B0, 1, none⟩ = some (.int .i64 a) ∧ x.cell? ⟨B0, 2, none⟩ = some (.int .i64 b)))
  have H1 := hide h1
  have HBO := hide hbo
  have HB1 := hide hB1
  have HH := hide h
  have hLw := h.lowL
  have HD := hide hd
  have HSM := hide hsame
  have HRE := hide hredo
  have HKB2 := hide (fun x (hx : Below w1.heap.size w1 x) => HKP.out x (Fr.of hx h1.lowL))
  have hLw1 := h1.lowL
  clear h h1 hbo hB1 hd hredo hsame hP hWd hC' her hk hok
  go_enter Tryz.func14, Tryz.ntmps14
  go_upto_region 1 with fail
  rw [← hw1, ← hB0]
  have HW1 := hide hw1
  have HB0 := hide hB0
  clear hw1 hB0
  go_wp2_with fail
  refine (HPK.out _).mono ?_
  rintro e wq ⟨rfl, hq⟩
  obtain rfl : w1 = wq := hq.symm
  clear HPK
  go_wp2_with fail
  go_region_held3 (fun w' => w'.cell? ⟨s, 0, none⟩ = some (.pointer (some ⟨S, 0, none⟩)) ∧ w'.cell? ⟨B0, 1, none⟩ = some (.int .i64 a) ∧ w'.cell? ⟨B0, 2, none⟩ = some (.int .i64 b))
    (first | with_reducible exact HKP.out _ hfr | with_reducible exact HKB2.out _ hbb | with_reducible exact HKB2.out _ hba | go_keep)
    (first | (go_at_call 45; refine (HNM.out _).mono ?_; rintro e wx ⟨X, rfl, hX, hXs, rfl⟩) | (go_at_call 30; with_reducible refine (HKB.out _).mono ?_; rintro e wx ⟨rfl, rfl⟩) | (go_at_call 30; with_reducible refine (HKA.out _).mono ?_; rintro e wx ⟨rfl, rfl⟩) | (go_at_call 46; refine (HDX.out _ (by omega) _).mono ?_; first | (have hprev := hYb; rintro e ya ⟨Ya, rfl, hYa, hYas, hba0⟩; have hba : Below w1.heap.size w1 ya := below_then hbb hba0; have q6 : ¬ (9223372036854775807 < ((⟨#[112, 117, 116, 32]⟩ : ByteArray) ++ Yb ++ (⟨#[32, 43, 32, 97, 48, 32, 64, 32]⟩ : ByteArray)).size + Ya.size) := (by omega); have q7 : ¬ (9223372036854775807 < 4 + Yb.size + 8 + Ya.size) := (by omega)) | (rintro e yb ⟨Yb, rfl, hYb, hYbs, hbb0⟩; have hbb : Below w1.heap.size w1 yb := (by first | with_reducible exact hbb0 | exact below_undrew hbb0); have z1 : (⟨#[112, 117, 116, 32]⟩ : ByteArray).size = 4 := rfl; have z2 : (⟨#[32, 43, 32, 97, 48, 32, 64, 32]⟩ : ByteArray).size = 8 := rfl; have z3 : ((⟨#[112, 117, 116, 32]⟩ : ByteArray) ++ Yb).size = 4 + Yb.size := (by rw [ByteArray.size_append, z1]); have z4 : ((⟨#[112, 117, 116, 32]⟩ : ByteArray) ++ Yb ++ (⟨#[32, 43, 32, 97, 48, 32, 64, 32]⟩ : ByteArray)).size = 4 + Yb.size + 8 := (by rw [ByteArray.size_append, z3, z2]); have q1 : ¬ (9223372036854775807 < (⟨#[112, 117, 116, 32]⟩ : ByteArray).size + Yb.size) := (by omega); have q2 : ¬ (9223372036854775807 < 4 + Yb.size) := (by omega); have q3 : ¬ (9223372036854775807 < ((⟨#[112, 117, 116, 32]⟩ : ByteArray) ++ Yb).size + (⟨#[32, 43, 32, 97, 48, 32, 64, 32]⟩ : ByteArray).size) := (by omega); have q4 : ¬ (9223372036854775807 < 4 + Yb.size + 8) := (by omega); have q5 : ¬ (9223372036854775807 < ((⟨#[112, 117, 116, 32]⟩ : ByteArray) ++ Yb).size + 8) := (by omega))) | (go_at_call 29; refine (HIS.out _ _ _ hX (by rw [HSR.out]; simp only [app_list, hYa, hYb]) (by first | exact hba | exact Below.drew hba)).mono ?_; rintro e wp ⟨v, rfl, hst, hfr0, hor⟩; have hfr : Fr L [] (some B) w1 wp := (Fr.of hba hLw1).trans hfr0))
  obtain ⟨hms, -, hdp⟩ := HST.out wp hfr
  have g1 : wp.cell? ⟨s, 1, none⟩ = some (.pointer (some ⟨D, 0, none⟩)) := (cell_of_row wp s 1 _ _ _ hms).trans rfl
  have fin : Hid (∃ d' l, playL d l = some d' ∧ DiskFit d' f C' (n + 30000) ∧ ARow wp w1.heap.size v l ∧ l.length ≤ 8) := by
    rcases hor with ⟨hne, rfl⟩ | ⟨h0, har⟩
    · obtain rfl := HSM.out hne
      exact ⟨d, [], rfl, ⟨HD.out.1, HD.out.2.1, Nat.le_trans HD.out.2.2 (by omega)⟩, World.ownsRow_nil _ _ _ _, by simp⟩
    · obtain ⟨hre, hno, hlen⟩ := HRE.out h0
      obtain ⟨d', hpd, hfit⟩ := HD.out.change HH.out.st.con.ok hst.con.ok hno hre (by omega) hn
      exact ⟨d', _, hpd, ⟨hfit.1, hfit.2.1, Nat.le_trans hfit.2.2 (by omega)⟩, ownsRow_base har hba.size, by simp⟩
  obtain ⟨d', l, hpd, hfit, har, hl8⟩ := fin.out
  have HA := hide (allD_own L D w1.heap.size d d' v l wp hdp HH.out.low.2 har (by omega) hpd)
  have HF := hide (fun w3 hd3 g3 => site_change (d' := d') (w3 := w3) H1.out hst hfr hd3 g3)
  have HFIT := hide hfit
  obtain ⟨vo, vn, vk, rfl⟩ : ∃ vo vn vk, v = .slice vo vn vk := by obtain ⟨x, y, e, -⟩ := har.shape; exact ⟨x, _, y, e⟩
  clear har hst hfr hfr0 hor hpd hfit hms hdp HKP HST HIS HNM HKA HKB HDX HKB2 HRE HSM HD s0 s1 p0 p1 p2 fin hl8 hX hXs hprev hYa hYb hYas hYbs hba hba0 hbb hbb0 z1 z2 z3 z4 q1 q2 q3 q4 q5 q6 q7
  rcases hcase with rfl | rfl
  · go_wp2_with fail
    refine HA.out.mono ?_
    rintro e w3 ⟨rfl, hd3, g3⟩
    obtain ⟨hs, hx⟩ := HF.out w3 hd3 g3
    have HFIN : Hid (PlayPost L s S B D C' (n + 30000) w (.returned (.bool true)) w3) := ⟨rfl, S, B, f, d', hs, HFIT.out, ((FrX.old HB1.out hLw).trans hx).mono (by simp), .inl rfl, .inl rfl⟩
    clear hs hx hd3 g3 HA HF
    go_wp2_with fail
    go_ret
    exact HFIN.out
  · go_wp2_with fail
    refine HA.out.mono ?_
    rintro e w3 ⟨rfl, hd3, g3⟩
    obtain ⟨hs, hx⟩ := HF.out w3 hd3 g3
    have HFIN : Hid (PlayPost L s S B D C' (n + 30000) w (.returned (.bool true)) w3) := ⟨rfl, S, B, f, d', hs, HFIT.out, ((FrX.old HB1.out hLw).trans hx).mono (by simp), .inl rfl, .inl rfl⟩
    clear hs hx hd3 g3 HA HF
    go_wp2_with fail
    go_ret
    exact HFIN.out

end Go.Proofs.YtellilpeakpbfaaGreatDoor

end
