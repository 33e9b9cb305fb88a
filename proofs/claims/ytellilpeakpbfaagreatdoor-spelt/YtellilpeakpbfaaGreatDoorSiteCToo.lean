import Derived.Test.YtellilpeakpbfaaGreatDoorSiteAToo
import Derived.Test.YtellilpeakpbfaaGreatDoorCrshToo
import Derived.Test.YtellilpeakpbfaaGreatDoorStoreIToo
section
/-
  A site's change; fresh; the walk of play: Put.
-/
namespace Go.Proofs.YtellilpeakpbfaaGreatDoor
open Go.RowKit

/-- the files tell the contents, and whatever a crash leaves tells some; they are not too great. -/
def DiskFit (d : DS) (f : Int) (C : Jn.Con) (n : Nat) : Prop := DiskOk d f C ∧ Safe d Jn.Ok ∧ d.1.size + d.2.1.size ≤ n

theorem site_change {L s S B D : Nat} {C C' : Jn.Con} {f : Int} {d d' : DS} {w1 wp w3 : World} (h : SiteAt L w1 s S B D C f d) (hst : StAt L wp S B C' f) (g : Fr L [] (some B) w1 wp) (hd3 : DsAt w3 D d') (g3 : Fr L [] (some D) wp w3) :
    SiteAt L w3 s S B D C' f d' ∧ FrX L [s, S, B, D] w1 w3 := by
  obtain ⟨cb, vb, hB, -⟩ := h.st.con.mem
  have hD : w1.heap[D]? = _ := h.disk
  have hm := h.mem
  have nsB : s ≠ B := fun e => by rw [e, hB] at hm; cases hm
  have nDB : D ≠ B := fun e => by rw [e] at hD; rw [hB] at hD; cases hD
  have nsD : s ≠ D := fun e => by rw [e, hD] at hm; cases hm
  have hDp := g.block D _ _ _ hD (by simp) (by simpa using Ne.symm nDB)
  have gT : Fr L [97] none wp w3 := (g3.wide (by simp)).typed (fun k hk => by cases hk; exact ⟨_, _, _, hDp, by simp⟩) none
  refine ⟨⟨g3.block s _ _ _ (g.block s _ _ _ h.mem (by simp) (by simpa using Ne.symm nsB)) (by simp) (by simpa using Ne.symm nsD), hst.fr gT (by decide) (by decide) (by decide) (by simp), hd3, h.low⟩, ?_⟩
  exact ((FrX.one g).trans (FrX.one g3)).mono (by simp)

/-- what stays while a store changes. -/
theorem site_stay {L s S B D B0 : Nat} {C : Jn.Con} {f : Int} {d : DS} {w1 wp : World} {cur : Array Value} (h : SiteAt L w1 s S B D C f d) (hbo : w1.heap[B0]? = some (.cells cur 32 (0, 0))) (g : Fr L [] (some B) w1 wp) :
    wp.heap[s]? = some (.cells #[.pointer (some ⟨S, 0, none⟩), .pointer (some ⟨D, 0, none⟩)] 39 (0, 0)) ∧ wp.heap[B0]? = some (.cells cur 32 (0, 0)) ∧ DsAt wp D d := by
  obtain ⟨cb, vb, hB, -⟩ := h.st.con.mem
  have hm := h.mem
  have hD : w1.heap[D]? = _ := h.disk
  have nsB : s ≠ B := fun e => by rw [e, hB] at hm; cases hm
  have nDB : D ≠ B := fun e => by rw [e, hB] at hD; cases hD
  have n0B : B0 ≠ B := fun e => by rw [e, hB] at hbo; cases hbo
  exact ⟨g.block s _ _ _ h.mem (by simp) (by simpa using Ne.symm nsB), g.block B0 _ _ _ hbo (by simp) (by simpa using Ne.symm n0B), g.block D _ _ _ hD (by simp) (by simpa using Ne.symm nDB)⟩

/-- the change of one record. -/
theorem DiskFit.change {d : DS} {f : Int} {C C' : Jn.Con} {n : Nat} {es : List UInt8} (h : DiskFit d f C n) (hok : Jn.Ok C) (hok' : Jn.Ok C') (hn : 46 ∉ es) (hr : Jn.redo C es = some C') (hl : es.length ≤ 500) (hs : n ≤ 1000000000000000000) :
    ∃ d', playL d [(1, f, Jn.record es)] = some d' ∧ DiskFit d' f C' (n + 2000) := by
  obtain ⟨h1, h2, h3⟩ := h
  obtain ⟨d', hp, hd', z1, z2⟩ := h1.change hn hr (by omega)
  exact ⟨d', hp, hd', (h2.change h1 hok hn hr hp).mono (fun X hX => hX.elim id (fun e => e ▸ hok')), by omega⟩

/-- what a step leaves: the same site, other contents. -/
def PlayPost (L s S B D : Nat) (C' : Jn.Con) (n : Nat) (w : World) (e : Ending) (w' : World) : Prop :=
  e = .returned (.bool true) ∧ ∃ S' B' f' d', SiteAt L w' s S' B' D C' f' d' ∧ DiskFit d' f' C' n ∧ FrX L [s, S, B, D] w w' ∧ (S' = S ∨ w.heap.size ≤ S') ∧ (B' = B ∨ w.heap.size ≤ B')

set_option maxHeartbeats 4000000 in
set_option maxRecDepth 100000 in
theorem play_put (L s S B D n : Nat) (C : Jn.Con) (f : Int) (d : DS) (w : World) (k a b : Int) (hk : Kp.pick k 8 = 0) (h : SiteAt L w s S B D C f d) (hd : DiskFit d f C n) (hn : n ≤ 1000000000000000000) (hP : PowAt w) (hpL : 1 < L)
    (k0 : -9223372036854775808 ≤ k) (k1 : k ≤ 9223372036854775807) (a0 : -9223372036854775808 ≤ a) (a1 : a ≤ 9223372036854775807) (b0 : -9223372036854775808 ≤ b) (b1 : b ≤ 9223372036854775807) :
    Calls Tryz.prog 14 #[.pointer (some ⟨s, 0, none⟩), .agg #[.int .i64 k, .int .i64 a, .int .i64 b]] w (PlayPost L s S B D (Jn.put C (Kp.key a) (Kp.value b)).1 (n + 30000) w) := by
  obtain ⟨w1, hw1⟩ : ∃ w1, w1 = w.alloc (.cells #[.int .i64 k, .int .i64 a, .int .i64 b] 32) := ⟨_, rfl⟩
  obtain ⟨B0, hB0⟩ : ∃ B0, B0 = w.heap.size := ⟨_, rfl⟩
  have hB1 : Below w.heap.size w w1 := by rw [hw1]; exact (Below.refl _ _).alloc (Nat.le_refl _) _
  have hbo : w1.heap[B0]? = some (.cells #[.int .i64 k, .int .i64 a, .int .i64 b] 32 (0, 0)) := by rw [hw1, hB0]; exact heap_alloc_new w _
  have h1 := h.below hB1
  have p0 : w1.cell? ⟨B0, 0, none⟩ = some (.int .i64 k) := (cell_of_row w1 B0 0 _ _ _ hbo).trans rfl
  have p1 : w1.cell? ⟨B0, 1, none⟩ = some (.int .i64 a) := (cell_of_row w1 B0 1 _ _ _ hbo).trans rfl
  have p2 : w1.cell? ⟨B0, 2, none⟩ = some (.int .i64 b) := (cell_of_row w1 B0 2 _ _ _ hbo).trans rfl
  obtain ⟨s0, s1⟩ := h1.cells
  have HPK : Hid (∀ x, Calls Tryz.prog 36 #[.int .i64 k, .int .i64 8] x fun e w' => e = .returned (.int .i64 0) ∧ w' = x) := fun x => by
    have := kpick_any k 8 (by decide) (by decide) k0 k1 x
    rw [show ((8 : Nat) : Int) = 8 from rfl, hk] at this
    exact this
  have HKY := hide (fun x => kkey_any a a0 a1 x)
  have HVL := hide (fun x => kvalue_any b b0 b1 x)
  have hky := Kp.key_is a
  have hvl := Kp.value_is b
  have hpw : (Jn.put C (Kp.key a) (Kp.value b)).2 = 0 := by unfold Jn.put; simp [hky, hvl]
  have HPS := hide (fun x (hx : Below w1.heap.size w1 x) => putS_own L S B C f (Kp.key a) (Kp.value b) x (h1.below hx).st ((hP.below hP.1 hB1).below (Nat.lt_of_lt_of_le hP.1 hB1.size) hx) hpL)
  obtain ⟨hre, hno, hlen⟩ := put_redo C _ _ hpw
  rw [hpw] at HPS
  generalize Kp.key a = kk at *
  generalize Kp.value b = vv at *
  obtain ⟨C', hC'⟩ : ∃ C', C' = (Jn.put C kk vv).1 := ⟨_, rfl⟩
  rw [← hC'] at hre HPS ⊢
  have HST := hide (fun x (hx : Fr L [] (some B) w1 x) => site_stay h1 hbo hx)
  have HKP := hide (fun x (hx : Fr L [] (some B) w1 x) => (⟨(cell_of_row x s 0 _ _ _ (HST.out x hx).1).trans rfl, (cell_of_row x B0 1 _ _ _ (HST.out x hx).2.1).trans rfl, (cell_of_row x B0 2 _ _ _ (HST.out x hx).2.1).trans rfl⟩ : x.cell? ⟨s, 0, none⟩ = some (.pointer (some ⟨S, 0, none⟩)) ∧ x.cell? ⟨B0, 1, none⟩ = some (.int .i64 a) ∧ x.cell? ⟨B0, 2, none⟩ = some (.int .i64 b)))
  have H1 := hide h1
  have HBO := hide hbo
  have HB1 := hide hB1
  have HH := hide h
  have hLw := h.lowL
  have HD := hide hd
  have HRE := hide hre
  have HNO := hide hno
  clear h h1 hbo hB1 hd hre hno hP hky hvl hpw hC' hk
  go_enter Tryz.func14, Tryz.ntmps14
  go_upto_region 1 with fail
  rw [← hw1, ← hB0]
  have HW1 := hide hw1
  have HB0 := hide hB0
  clear hw1 hB0
  go_wp2_with fail
  refine (HPK.out _).mono ?_
  rintro e wq ⟨rfl, hq⟩
  obtain rfl : w1 = wq := hq.symm
  clear HPK
  go_wp2_with fail
  go_region_held3 (fun w' => w'.cell? ⟨s, 0, none⟩ = some (.pointer (some ⟨S, 0, none⟩)) ∧ w'.cell? ⟨B0, 1, none⟩ = some (.int .i64 a) ∧ w'.cell? ⟨B0, 2, none⟩ = some (.int .i64 b))
    (first | with_reducible exact HKP.out _ hfr | go_keep)
    (first | (go_at_call 30; refine (HKY.out _).mono ?_; rintro e wx ⟨rfl, rfl⟩) | (go_at_call 31; refine (HVL.out _).mono ?_; rintro e wx ⟨rfl, rfl⟩) | (go_at_call 32; refine (HPS.out _ (by first | exact Below.refl _ _ | exact Below.drew (Below.refl _ _))).mono ?_; rintro e wp ⟨v, rfl, hst, hfr0, hor⟩; have hfr : Fr L [] (some B) w1 wp := Fr.undrew hfr0))
  have har : ARow wp w1.heap.size v [(1, f, Jn.record (Jn.putE kk vv))] := by
    rcases hor with ⟨g, -⟩ | ⟨-, g⟩
    · exact absurd rfl g
    · exact g
  obtain ⟨d', hpd, hfit⟩ := HD.out.change HH.out.st.con.ok hst.con.ok HNO.out HRE.out (by omega) hn
  obtain ⟨hms, -, hdp⟩ := HST.out wp hfr
  have g1 : wp.cell? ⟨s, 1, none⟩ = some (.pointer (some ⟨D, 0, none⟩)) := (cell_of_row wp s 1 _ _ _ hms).trans rfl
  have HA := hide (allD_own L D w1.heap.size d d' v _ wp hdp HH.out.low.2 har (by simp) hpd)
  have HF := hide (fun w3 hd3 g3 => site_change (d' := d') (w3 := w3) H1.out hst hfr hd3 g3)
  have HFIT := hide hfit
  obtain ⟨vo, vn, vk, rfl⟩ : ∃ vo vn vk, v = .slice vo vn vk := by obtain ⟨x, y, e, -⟩ := har.shape; exact ⟨x, _, y, e⟩
  clear har hst hfr hfr0 hor hpd hfit hms hdp HKP HST HPS HKY HVL HRE HNO HD s0 s1 p0 p1 p2
  go_wp2_with fail
  refine HA.out.mono ?_
  rintro e w3 ⟨rfl, hd3, g3⟩
  obtain ⟨hs, hx⟩ := HF.out w3 hd3 g3
  have HFIN : Hid (PlayPost L s S B D C' (n + 30000) w (.returned (.bool true)) w3) := ⟨rfl, S, B, f, d', hs, ⟨HFIT.out.1, HFIT.out.2.1, Nat.le_trans HFIT.out.2.2 (by omega)⟩, ((FrX.old HB1.out hLw).trans hx).mono (by simp), .inl rfl, .inl rfl⟩
  clear hs hx hd3 g3 HA HF
  go_wp2_with fail
  go_ret
  exact HFIN.out
end Go.Proofs.YtellilpeakpbfaaGreatDoor

end

section
/-
  The walk of play: Del, Drop.
-/
set_option linter.unusedVariables false
namespace Go.Proofs.YtellilpeakpbfaaGreatDoor
open Go.RowKit

set_option maxHeartbeats 4000000 in
set_option maxRecDepth 100000 in
theorem play_del (L s S B D n : Nat) (C : Jn.Con) (f : Int) (d : DS) (w : World) (k a b : Int) (hk : Kp.pick k 8 = 1) (h : SiteAt L w s S B D C f d) (hd : DiskFit d f C n) (hn : n ≤ 1000000000000000000) (hP : PowAt w) (hpL : 1 < L)
    (k0 : -9223372036854775808 ≤ k) (k1 : k ≤ 9223372036854775807) (a0 : -9223372036854775808 ≤ a) (a1 : a ≤ 9223372036854775807) (b0 : -9223372036854775808 ≤ b) (b1 : b ≤ 9223372036854775807) :
    Calls Tryz.prog 14 #[.pointer (some ⟨s, 0, none⟩), .agg #[.int .i64 k, .int .i64 a, .int .i64 b]] w (PlayPost L s S B D (Jn.del C (Kp.key a)).1 (n + 30000) w) := by
  obtain ⟨w1, hw1⟩ : ∃ w1, w1 = w.alloc (.cells #[.int .i64 k, .int .i64 a, .int .i64 b] 32) := ⟨_, rfl⟩
  obtain ⟨B0, hB0⟩ : ∃ B0, B0 = w.heap.size := ⟨_, rfl⟩
  have hB1 : Below w.heap.size w w1 := by rw [hw1]; exact (Below.refl _ _).alloc (Nat.le_refl _) _
  have hbo : w1.heap[B0]? = some (.cells #[.int .i64 k, .int .i64 a, .int .i64 b] 32 (0, 0)) := by rw [hw1, hB0]; exact heap_alloc_new w _
  have h1 := h.below hB1
  have p0 : w1.cell? ⟨B0, 0, none⟩ = some (.int .i64 k) := (cell_of_row w1 B0 0 _ _ _ hbo).trans rfl
  have p1 : w1.cell? ⟨B0, 1, none⟩ = some (.int .i64 a) := (cell_of_row w1 B0 1 _ _ _ hbo).trans rfl
  have p2 : w1.cell? ⟨B0, 2, none⟩ = some (.int .i64 b) := (cell_of_row w1 B0 2 _ _ _ hbo).trans rfl
  obtain ⟨s0, s1⟩ := h1.cells
  have HPK : Hid (∀ x, Calls Tryz.prog 36 #[.int .i64 k, .int .i64 8] x fun e w' => e = .returned (.int .i64 1) ∧ w' = x) := fun x => by
    have := kpick_any k 8 (by decide) (by decide) k0 k1 x
    rw [show ((8 : Nat) : Int) = 8 from rfl, hk] at this
    exact this
  have HKY := hide (fun x => kkey_any a a0 a1 x)
  have hky := Kp.key_is a
  have hpw : (Jn.del C (Kp.key a)).2 = 0 := by unfold Jn.del; simp [hky]
  have HPS := hide (fun x (hx : Below w1.heap.size w1 x) => delS_own L S B C f (Kp.key a) x (h1.below hx).st ((hP.below hP.1 hB1).below (Nat.lt_of_lt_of_le hP.1 hB1.size) hx) hpL)
  obtain ⟨hre, hno, hlen⟩ := del_redo C _ hpw
  rw [hpw] at HPS
  generalize Kp.key a = kk at *
  obtain ⟨C', hC'⟩ : ∃ C', C' = (Jn.del C kk).1 := ⟨_, rfl⟩
  rw [← hC'] at hre HPS ⊢
  have HST := hide (fun x (hx : Fr L [] (some B) w1 x) => site_stay h1 hbo hx)
  have HKP := hide (fun x (hx : Fr L [] (some B) w1 x) => (⟨(cell_of_row x s 0 _ _ _ (HST.out x hx).1).trans rfl, (cell_of_row x B0 1 _ _ _ (HST.out x hx).2.1).trans rfl⟩ : x.cell? ⟨s, 0, none⟩ = some (.pointer (some ⟨S, 0, none⟩)) ∧ x.cell? ⟨B0, 1, none⟩ = some (.int .i64 a)))
  have H1 := hide h1
  have HBO := hide hbo
  have HB1 := hide hB1
  have HH := hide h
  have hLw := h.lowL
  have HD := hide hd
  have HRE := hide hre
  have HNO := hide hno
  clear h h1 hbo hB1 hd hre hno hP hky hpw hC' hk
  go_enter Tryz.func14, Tryz.ntmps14
  go_upto_region 1 with fail
  rw [← hw1, ← hB0]
  have HW1 := hide hw1
  have HB0 := hide hB0
  clear hw1 hB0
  go_wp2_with fail
  refine (HPK.out _).mono ?_
  rintro e wq ⟨rfl, hq⟩
  obtain rfl : w1 = wq := hq.symm
  clear HPK
  go_wp2_with fail
  go_region_held3 (fun w' => w'.cell? ⟨s, 0, none⟩ = some (.pointer (some ⟨S, 0, none⟩)) ∧ w'.cell? ⟨B0, 1, none⟩ = some (.int .i64 a))
    (first | with_reducible exact HKP.out _ hfr | go_keep)
    (first | (go_at_call 30; refine (HKY.out _).mono ?_; rintro e wx ⟨rfl, rfl⟩) | (go_at_call 34; refine (HPS.out _ (by first | exact Below.refl _ _ | exact Below.drew (Below.refl _ _))).mono ?_; rintro e wp ⟨v, rfl, hst, hfr0, hor⟩; have hfr : Fr L [] (some B) w1 wp := Fr.undrew hfr0))
  have har : ARow wp w1.heap.size v [(1, f, Jn.record (Jn.delE kk))] := by
    rcases hor with ⟨g, -⟩ | ⟨-, g⟩
    · exact absurd rfl g
    · exact g
  obtain ⟨d', hpd, hfit⟩ := HD.out.change HH.out.st.con.ok hst.con.ok HNO.out HRE.out (by omega) hn
  obtain ⟨hms, -, hdp⟩ := HST.out wp hfr
  have g1 : wp.cell? ⟨s, 1, none⟩ = some (.pointer (some ⟨D, 0, none⟩)) := (cell_of_row wp s 1 _ _ _ hms).trans rfl
  have HA := hide (allD_own L D w1.heap.size d d' v _ wp hdp HH.out.low.2 har (by simp) hpd)
  have HF := hide (fun w3 hd3 g3 => site_change (d' := d') (w3 := w3) H1.out hst hfr hd3 g3)
  have HFIT := hide hfit
  obtain ⟨vo, vn, vk, rfl⟩ : ∃ vo vn vk, v = .slice vo vn vk := by obtain ⟨x, y, e, -⟩ := har.shape; exact ⟨x, _, y, e⟩
  clear har hst hfr hfr0 hor hpd hfit hms hdp HKP HST HPS HKY HRE HNO HD s0 s1 p0 p1 p2
  go_wp2_with fail
  refine HA.out.mono ?_
  rintro e w3 ⟨rfl, hd3, g3⟩
  obtain ⟨hs, hx⟩ := HF.out w3 hd3 g3
  have HFIN : Hid (PlayPost L s S B D C' (n + 30000) w (.returned (.bool true)) w3) := ⟨rfl, S, B, f, d', hs, ⟨HFIT.out.1, HFIT.out.2.1, Nat.le_trans HFIT.out.2.2 (by omega)⟩, ((FrX.old HB1.out hLw).trans hx).mono (by simp), .inl rfl, .inl rfl⟩
  clear hs hx hd3 g3 HA HF
  go_wp2_with fail
  go_ret
  exact HFIN.out
set_option maxHeartbeats 4000000 in
set_option maxRecDepth 100000 in
theorem play_drop (L s S B D n : Nat) (C : Jn.Con) (f : Int) (d : DS) (w : World) (k a b : Int) (hk : Kp.pick k 8 = 7) (h : SiteAt L w s S B D C f d) (hd : DiskFit d f C n) (hn : n ≤ 1000000000000000000) (hP : PowAt w) (hpL : 1 < L)
    (k0 : -9223372036854775808 ≤ k) (k1 : k ≤ 9223372036854775807) (a0 : -9223372036854775808 ≤ a) (a1 : a ≤ 9223372036854775807) (b0 : -9223372036854775808 ≤ b) (b1 : b ≤ 9223372036854775807) :
    Calls Tryz.prog 14 #[.pointer (some ⟨s, 0, none⟩), .agg #[.int .i64 k, .int .i64 a, .int .i64 b]] w (PlayPost L s S B D (Jn.drop C (Kp.name a)).1 (n + 30000) w) := by
  obtain ⟨w1, hw1⟩ : ∃ w1, w1 = w.alloc (.cells #[.int .i64 k, .int .i64 a, .int .i64 b] 32) := ⟨_, rfl⟩
  obtain ⟨B0, hB0⟩ : ∃ B0, B0 = w.heap.size := ⟨_, rfl⟩
  have hB1 : Below w.heap.size w w1 := by rw [hw1]; exact (Below.refl _ _).alloc (Nat.le_refl _) _
  have hbo : w1.heap[B0]? = some (.cells #[.int .i64 k, .int .i64 a, .int .i64 b] 32 (0, 0)) := by rw [hw1, hB0]; exact heap_alloc_new w _
  have h1 := h.below hB1
  have p0 : w1.cell? ⟨B0, 0, none⟩ = some (.int .i64 k) := (cell_of_row w1 B0 0 _ _ _ hbo).trans rfl
  have p1 : w1.cell? ⟨B0, 1, none⟩ = some (.int .i64 a) := (cell_of_row w1 B0 1 _ _ _ hbo).trans rfl
  have p2 : w1.cell? ⟨B0, 2, none⟩ = some (.int .i64 b) := (cell_of_row w1 B0 2 _ _ _ hbo).trans rfl
  obtain ⟨s0, s1⟩ := h1.cells
  have HPK : Hid (∀ x, Calls Tryz.prog 36 #[.int .i64 k, .int .i64 8] x fun e w' => e = .returned (.int .i64 7) ∧ w' = x) := fun x => by
    have := kpick_any k 8 (by decide) (by decide) k0 k1 x
    rw [show ((8 : Nat) : Int) = 8 from rfl, hk] at this
    exact this
  have HNM := hide (fun x => kname_any a a0 a1 x)
  have HDR := hide (fun x X (hx : Below w1.heap.size w1 x) => dropS_own L S B C f X x (h1.below hx).st)
  have hok := h.st.con.ok
  have hsame := drop_same C (Kp.name a)
  have hredo := fun e => drop_redo hok (Kp.name a) e
  have hcase : (Jn.drop C (Kp.name a)).2 = 0 ∨ (Jn.drop C (Kp.name a)).2 = 3 := by unfold Jn.drop; split <;> simp
  generalize Kp.name a = nm at *
  obtain ⟨C', hC'⟩ : ∃ C', C' = (Jn.drop C nm).1 := ⟨_, rfl⟩
  obtain ⟨er, her⟩ : ∃ er, er = (Jn.drop C nm).2 := ⟨_, rfl⟩
  rw [← hC', ← her] at hredo
  rw [← hC', ← her] at hsame
  rw [← her] at hcase
  rw [← hC']
  have HST := hide (fun x (hx : Fr L [] (some B) w1 x) => site_stay h1 hbo hx)
  have HKP := hide (fun x (hx : Fr L [] (some B) w1 x) => (⟨(cell_of_row x s 0 _ _ _ (HST.out x hx).1).trans rfl, (cell_of_row x B0 1 _ _ _ (HST.out x hx).2.1).trans rfl⟩ : x.cell? ⟨s, 0, none⟩ = some (.pointer (some ⟨S, 0, none⟩)) ∧ x.cell? ⟨B0, 1, none⟩ = some (.int .i64 a)))
  have H1 := hide h1
  have HBO := hide hbo
  have HB1 := hide hB1
  have HH := hide h
  have hLw := h.lowL
  have HD := hide hd
  have HSM := hide hsame
  have HRE := hide hredo
  have HCE := hide (And.intro hC' her)
  clear h h1 hbo hB1 hd hredo hsame hP hC' her hk hok
  go_enter Tryz.func14, Tryz.ntmps14
  go_upto_region 1 with fail
  rw [← hw1, ← hB0]
  have HW1 := hide hw1
  have HB0 := hide hB0
  clear hw1 hB0
  go_wp2_with fail
  refine (HPK.out _).mono ?_
  rintro e wq ⟨rfl, hq⟩
  obtain rfl : w1 = wq := hq.symm
  clear HPK
  go_wp2_with fail
  go_region_held3 (fun w' => w'.cell? ⟨s, 0, none⟩ = some (.pointer (some ⟨S, 0, none⟩)) ∧ w'.cell? ⟨B0, 1, none⟩ = some (.int .i64 a))
    (first | with_reducible exact HKP.out _ hfr | go_keep)
    (first | (go_at_call 45; refine (HNM.out _).mono ?_; rintro e wx ⟨X, rfl, hX, hXs, rfl⟩) | (go_at_call 35; refine (HDR.out _ _ (by first | exact Below.refl _ _ | exact Below.drew (Below.refl _ _))).mono ?_; rintro e wp ⟨v, rfl, hst, hfr0, hor⟩; have hfr : Fr L [] (some B) w1 wp := Fr.undrew hfr0; rw [hX, ← HCE.out.1] at hst; rw [hX, ← HCE.out.2] at hor ⊢))
  obtain ⟨hms, -, hdp⟩ := HST.out wp hfr
  have g1 : wp.cell? ⟨s, 1, none⟩ = some (.pointer (some ⟨D, 0, none⟩)) := (cell_of_row wp s 1 _ _ _ hms).trans rfl
  have fin : Hid (∃ d' l, playL d l = some d' ∧ DiskFit d' f C' (n + 30000) ∧ ARow wp w1.heap.size v l ∧ l.length ≤ 8) := by
    rcases hor with ⟨hne, rfl⟩ | ⟨h0, har⟩
    · obtain rfl := HSM.out hne
      exact ⟨d, [], rfl, ⟨HD.out.1, HD.out.2.1, Nat.le_trans HD.out.2.2 (by omega)⟩, World.ownsRow_nil _ _ _ _, by simp⟩
    · obtain ⟨hre, hno, hlen⟩ := HRE.out h0
      obtain ⟨d', hpd, hfit⟩ := HD.out.change HH.out.st.con.ok hst.con.ok hno hre (by omega) hn
      exact ⟨d', _, hpd, ⟨hfit.1, hfit.2.1, Nat.le_trans hfit.2.2 (by omega)⟩, har, by simp⟩
  obtain ⟨d', l, hpd, hfit, har, hl8⟩ := fin.out
  have HA := hide (allD_own L D w1.heap.size d d' v l wp hdp HH.out.low.2 har (by omega) hpd)
  have HF := hide (fun w3 hd3 g3 => site_change (d' := d') (w3 := w3) H1.out hst hfr hd3 g3)
  have HFIT := hide hfit
  obtain ⟨vo, vn, vk, rfl⟩ : ∃ vo vn vk, v = .slice vo vn vk := by obtain ⟨x, y, e, -⟩ := har.shape; exact ⟨x, _, y, e⟩
  clear har hst hfr hfr0 hor hpd hfit hms hdp HKP HST HDR HNM HRE HSM HD s0 s1 p0 p1 p2 fin hl8 hX hXs
  rcases hcase with rfl | rfl
  · go_wp2_with fail
    refine HA.out.mono ?_
    rintro e w3 ⟨rfl, hd3, g3⟩
    obtain ⟨hs, hx⟩ := HF.out w3 hd3 g3
    have HFIN : Hid (PlayPost L s S B D C' (n + 30000) w (.returned (.bool true)) w3) := ⟨rfl, S, B, f, d', hs, HFIT.out, ((FrX.old HB1.out hLw).trans hx).mono (by simp), .inl rfl, .inl rfl⟩
    clear hs hx hd3 g3 HA HF
    go_wp2_with fail
    go_ret
    exact HFIN.out
  · go_wp2_with fail
    refine HA.out.mono ?_
    rintro e w3 ⟨rfl, hd3, g3⟩
    obtain ⟨hs, hx⟩ := HF.out w3 hd3 g3
    have HFIN : Hid (PlayPost L s S B D C' (n + 30000) w (.returned (.bool true)) w3) := ⟨rfl, S, B, f, d', hs, HFIT.out, ((FrX.old HB1.out hLw).trans hx).mono (by simp), .inl rfl, .inl rfl⟩
    clear hs hx hd3 g3 HA HF
    go_wp2_with fail
    go_ret
    exact HFIN.out

end Go.Proofs.YtellilpeakpbfaaGreatDoor

end
