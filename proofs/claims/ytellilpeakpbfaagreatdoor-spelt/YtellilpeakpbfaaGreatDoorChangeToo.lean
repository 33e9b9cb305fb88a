import Derived.Test.YtellilpeakpbfaaGreatDoorLawPToo
import Derived.Deep.RegionLaw
section
/-
  The walk of acted, without a crash.
-/
namespace Go.Proofs.YtellilpeakpbfaaGreatDoor
open Go.RowKit

/-- A step. -/
structure OpD where
  kind : Int
  n : Int
  m : Int
  s : ByteArray
  t : ByteArray
  lo : Option Addr
  ln : Nat
  lc : Nat
  cut : Int
  wo : Option Addr
  wn : Nat
  wc : Nat
def OpD.cells (o : OpD) : Array Value := #[.int .i64 o.kind, .int .i64 o.n, .int .i64 o.m, .string o.s, .string o.t, .slice o.lo o.ln o.lc, .int .i64 o.cut, .slice o.wo o.wn o.wc]

def lens (l : List ActP) : Nat := (l.map fun a => a.2.2.length).sum
theorem lens_take (l : List ActP) (k : Nat) (p : ActP) (h : l[k]? = some p) : lens (l.take (k + 1)) = lens (l.take k) + p.2.2.length := by
  have hk := (List.getElem?_eq_some_iff.1 h).1
  have e := (List.getElem?_eq_some_iff.1 h).2
  unfold lens
  rw [List.take_succ_eq_append_getElem hk, e]
  simp
theorem lens_app (a b : List ActP) : lens (a ++ b) = lens a + lens b := by simp [lens]
theorem lens_le (l : List ActP) (k : Nat) : lens (l.take k) ≤ lens l := by
  have := lens_app (l.take k) (l.drop k)
  rw [List.take_append_drop] at this
  omega

def AcRel (l : List ActP) (n i : Value) : Prop := ∃ k : Nat, k ≤ l.length ∧ i = .int .i64 k ∧ n = .int .i64 (lens (l.take k))

set_option maxHeartbeats 4000000 in
set_option maxRecDepth 100000 in
theorem acted_any (L W D N M : Nat) (w : World) (vx : Value) (past : List Jn.Con) (d d' : DS) (nc nq na : Nat) (v : Value) (l : List ActP) (most : Int) (er : Bool) (o : OpD)
    (hlaw : LawAt L W D N M w vx past d nc nq na) (hLN : L ≤ M) (hN : N ≤ w.heap.size) (hM : M ≤ w.heap.size)
    (hr : ARow w M v l) (hl : l.length ≤ 8) (hs : (lens l : Int) ≤ most) (hs2 : lens l ≤ 1000000) (her : er = true ∨ ∀ p ∈ l, p.1 ≠ 3) (hp : playL d l = some d') (hna : na ≤ 4000000000000) :
    Calls Tryz.prog 120 #[.pointer (some ⟨W, 0, none⟩), v, .int .i64 most, .bool er, .agg o.cells, .bool false] w fun e w' => e = .returned (.bool true) ∧
      LawAt L W D w'.heap.size w'.heap.size w' vx past d' nc nq (na + 3) ∧ Fr L [97, 92, 58, 136] none w w' := by
  obtain ⟨kk, nn, mm, s, t, lo, ln, lc, cut, wo, wn, wc⟩ := o
  simp only [OpD.cells]
  obtain ⟨vp, vc, vq, va, lcs, lqs, lxs, hW, -, -, -, -, -, -, -⟩ := hlaw.rest
  obtain ⟨-, c1, -, -, -, -⟩ := hW.cell
  have hwl := hW.lt
  have hLw := hlaw.low
  obtain ⟨ao, cap, hv, hcs⟩ := hr.shape
  subst hv
  have hB1 : ∀ ob : Obj, Below w.heap.size w (w.alloc ob) := fun ob => (Below.refl _ _).alloc (Nat.le_refl _) ob
  have HC := hide hcs
  have HR := hide hr
  have HL := hide hlaw
  have HB1 := hide hB1
  have HP := hide hp
  have HS := hide hs
  clear hcs hr hlaw hB1 hp hs hW
  obtain ⟨w1, hw1⟩ : ∃ w1, w1 = w.alloc (.cells #[.int .i64 kk, .int .i64 nn, .int .i64 mm, .string s, .string t, .slice lo ln lc, .int .i64 cut, .slice wo wn wc] 83) := ⟨_, rfl⟩
  have HBW : Hid (Below w.heap.size w w1) := by show Below _ _ _; rw [hw1]; exact HB1.out _
  go_enter Tryz.func120, Tryz.ntmps120
  go_wp2
  rw [← hw1]
  have HW1 := hide hw1
  clear hw1
  have e1 := at_old HBW.out c1
  go_loop [13, 14] (fun n i => AcRel l n i) (fun _ i => l.length - (intOf i).toNat)
  case atStart => exact ⟨0, Nat.zero_le _, rfl, rfl⟩
  case round =>
    obtain ⟨k, hk, rfl, rfl⟩ := hrel
    have hle := lens_le l k
    by_cases hlt : k < l.length
    · obtain ⟨g, cur, rfl, -, -, hcs⟩ := HC.out (by omega)
      obtain ⟨p, hpk⟩ : ∃ p, l[k]? = some p := ⟨l[k], by simp [hlt]⟩
      obtain ⟨q1, q2, q3⟩ := hcs k p hpk
      have d1 := at_old HBW.out q1
      have d3 := at_old HBW.out q3
      have hlt2 := lens_take l k p hpk
      have hle2 := lens_le l (k + 1)
      have HLT := hide hlt2
      have hne : er = true ∨ (p.1 == 3) = false := by
        rcases her with h | h
        · exact .inl h
        · exact .inr (beq_eq_false_iff_ne.2 (h p (List.mem_of_getElem? hpk)))
      rw [hlt2] at hle2
      clear hcs q1 q2 q3 hpk hlt2
      obtain ⟨p1, p2, p3⟩ := p
      simp only [T] at d3
      obtain ⟨x, hx⟩ : ∃ x : ByteArray, x = ⟨p3.toArray⟩ := ⟨_, rfl⟩
      have hxs : x.size = p3.length := by rw [hx]; rfl
      rw [← hx] at d3
      have HX := hide hx
      have HXS := hide hxs
      simp only at hne hle2
      rw [← hxs] at hle2
      clear hx hxs
      generalize lens (l.take k) = z at *
      rcases hne with rfl | hne
      · cases hq : (p1 == 3)
        all_goals
          go_wp2
          go_round
          case rel => exact ⟨k + 1, by omega, by go_num, by rw [HLT.out]; simp only; rw [← HXS.out]; go_num⟩
          case measure => simp [intOf]; omega
      · go_wp2
        go_round
        case rel => exact ⟨k + 1, by omega, by go_num, by rw [HLT.out]; simp only; rw [← HXS.out]; go_num⟩
        case measure => simp [intOf]; omega
    · have hkl : l.take k = l := List.take_of_length_le (by omega)
      rw [hkl] at hle ⊢
      have t1 : decide (8 < (l.length : Int)) = false := decide_eq_false (by omega)
      have t2 : decide (most < (lens l : Int)) = false := decide_eq_false (by have := HS.out; omega)
      have hd1 : DsAt w1 D d := HL.out.disk.fr (Fr.of (L := 0) (T := []) (X := none) HBW.out (Nat.zero_le _)) (by simp) (by simp)
      have hAR : ARow w1 M (.slice ao l.length cap) l := ownsRow_below HR.out HBW.out
      have HAL := hide (allD_any L D M d d' _ l w1 hd1 HL.out.ld hAR (by omega) HP.out)
      have HAR := hide hAR
      clear hkl hd1 hAR hle
      generalize lens l = z at *
      go_wp2_with fail
      refine HAL.out.mono ?_
      rintro e w2 ⟨rfl, hd2, hf2⟩
      have F2 : Fr L [97] none w w2 := (Fr.of HBW.out hLw).trans hf2
      obtain ⟨vp', vc', vq', va', lc', lq', lx', hW0, hp0, h10, e10, h20, e20, h30, e30⟩ := HL.out.rest
      have W2 := hW0.fr F2 (by decide) (by simp)
      have H32 := h30.fr F2 (by decide) (by decide) (by simp) (.inl rfl)
      have hAR2 : ARow w2 M (.slice ao l.length cap) l := HAR.out.fr hf2 (by decide) (.inl rfl)
      have hk := keepActs_any L M W w2 vx _ vp' vc' vq' va' lx' _ l.length _ W2 HL.out.lw H32 hAR2 (by omega) hLN (Nat.le_trans hM F2.size) (by rw [e30]; omega)
      obtain ⟨-, b1, -, -, -, -⟩ := W2.cell
      have HK := hide hk
      have HF2 := hide F2
      have HREST : Hid (PastAt L w vp' past ∧ HoldRow L N w 102 35 mkC vc' lc' ∧ lc'.length = nc ∧ HoldRow L N w 62 42 mkP vq' lq' ∧ lq'.length = nq) := ⟨hp0, h10, e10, h20, e20⟩
      have HE30 := hide e30
      have HD2 := hide hd2
      have HAR2 := hide hAR2
      clear hk F2 hd2 hf2 hW0 hp0 h10 e10 h20 e20 h30 e30 W2 H32 hAR2 HAL
      go_wp2_with fail
      refine HK.out.mono ?_
      rintro e w3 ⟨va3, lx3, rfl, hW3, hh3, hl3, hf3⟩
      have F3 : Fr L [97, 92, 58, 136] none w w3 := by
        refine (HF2.out.wide (by simp)).trans ((hf3.wide (T' := [97, 92, 58, 136]) (by simp)).typed (fun k hk => ?_) none)
        rcases HAR2.out.2 with ⟨h0, _⟩ | ⟨g, cap', cur, h0, hb, hh, _⟩
        · rw [h0] at hk; simp [Value.ownBlock] at hk
        · rw [h0] at hk
          simp [Value.ownBlock] at hk
          subst hk
          exact ⟨cur, _, _, hh, by simp⟩
      have HFIN : Hid (LawAt L W D w3.heap.size w3.heap.size w3 vx past d' nc nq (na + 3)) := by
        obtain ⟨hp0, h10, e10, h20, e20⟩ := HREST.out
        refine ⟨HL.out.lw, HL.out.ld, HD2.out.fr hf3 (by decide) (own_neB HAR2.out HD2.out (by decide)), vp', vc', vq', va3, lc', lq', lx3, hW3, hp0.fr F3 (by decide) (by decide) (by decide), ?_, e10, ?_, e20, hh3, by rw [hl3, HE30.out]⟩
        · exact (h10.fr F3 (by decide) (by decide) (by simp) (.inl rfl)).mono (Nat.le_trans hN F3.size)
        · exact (h20.fr F3 (by decide) (by decide) (by simp) (.inl rfl)).mono (Nat.le_trans hN F3.size)
      have HF3 := hide F3
      clear F3 hW3 hh3 hl3 hf3 HK HREST HD2
      go_wp2
      go_ret
      exact ⟨rfl, HFIN.out, HF3.out⟩
end Go.Proofs.YtellilpeakpbfaaGreatDoor

end

section
/-
  The walk of change, without a crash.
-/
namespace Go.Proofs.YtellilpeakpbfaaGreatDoor
open Go.RowKit

/-- append onto a row of the call's own, as one step of a region that draws. -/
theorem step_append_own {P : Program} {ops : Array Oper} {o : Oper} {a : Act} {w : World} {K : Act → World → Prop} {Q : Exit → Act → World → Prop} {E : Prop}
    (hg : o.guard = none) (s x : Operand) (t : TypeId) (hop : o.op = Op.call { callee := Callee.builtin Builtin.append, args := #[s, x], argTypes := #[t, t] })
    (base : Nat) (e : TypeId) (i : TypeInfo) (z : Value) (size bytes : Nat) (ht : P.underlying t = some (.slice e)) (hi : P.info? e = some i) (hz : i.zero = some z)
    (hsize : i.size = size) (hby : i.bytes = bytes) (hzs : z.cells.size = size) (hsz : 0 < size)
    (v : Value) (n : Nat) (xs : List Value) (hs : a.eval s = v) (hown : w.ownsRow base e size v n xs)
    (ad : Addr) (m c : Nat) (news : List Value) (hx : a.eval x = .slice (some ad) m c) (hl : news.length = m * size) (hnews : ∀ j u, news[j]? = some u → w.cell? (ad.add j) = some u) (h1 : ∀ u ∈ news, u.oneCell' = true)
    (h63 : n + m ≤ maxLen) (hbytes : (n + m) * bytes ≤ 140737488355328) (hbase : base ≤ w.heap.size)
    (h : ∀ v' w', w'.ownsRow base e size v' (n + m) (xs ++ news) → w.grownBy w' v.ownBlock → K (a.put o.dst v') w') :
    if Region.wanted o (yielded ops a.tmps) = true then Oper.wp P o a w K Q else E := by
  have hw : Region.wanted o (yielded ops a.tmps) = true := by simp [Region.wanted, hg]
  rw [if_pos hw]
  exact wp_append_own w s x t hop base e i z size bytes ht hi hz hsize hby hzs hsz v n xs hs hown ad m c news hx hl hnews h1 h63 hbytes hbase (fun v' w' h2 h3 _ => h v' w' h2 h3)

theorem Fr.undrew {L : Nat} {T : List TypeId} {X : Option Nat} {w w' : World} (h : Fr L T X w.drew w') : Fr L T X w w' := ⟨⟨h.below.os, h.below.tape, h.below.output, h.below.size, h.below.block⟩, h.block⟩
theorem Tryz.infoRC : (Tryz.prog.info? 128).map (fun i => (i.zero, i.size, i.bytes)) = some (some (.agg #[.slice none 0 0, .slice none 0 0]), 2, 48) := by kernel_rfl

/-- the contents behind one change more. -/
theorem past_push (L W : Nat) (w w9 : World) (vx vd vp vc vq va : Value) (hW : WAt w W vx vd vp vc vq va) (hLW : L ≤ W) (o : Obj) (n : Nat) (ls ls' : List Value) (v' : Value)
    (hrow : w.ownsRow L 128 2 vp n ls) (hL : L ≤ w.heap.size) (hown : w9.ownsRow L 128 2 v' (n + 1) ls') (hg : (w.alloc o).grownBy w9 vp.ownBlock) :
    WAt w9 W vx vd vp vc vq va ∧ WAt (w9.setCell ⟨W, 2, none⟩ v') W vx vd v' vc vq va ∧ (w9.setCell ⟨W, 2, none⟩ v').ownsRow L 128 2 v' (n + 1) ls' ∧ Fr L [92, 128] none w (w9.setCell ⟨W, 2, none⟩ v') := by
  have hneW : some W ≠ vp.ownBlock := fun e => own_neB hrow hW (by decide) e.symm
  have f1 : Fr L [92, 128] none w (w.alloc o) := Fr.of ((Below.refl _ _).alloc (Nat.le_refl _) _) hL
  have f2 : Fr L [92, 128] none (w.alloc o) w9 := by
    refine (fr_grown hg (by simp; omega) (fun k hk => (hrow.lt k hk).1)).typed (fun k hk => ?_) none
    rcases hrow.2 with ⟨rfl, _⟩ | ⟨g, cap, cur, rfl, hb, hh, _⟩
    · simp [Value.ownBlock] at hk
    · simp [Value.ownBlock] at hk
      subst hk
      exact ⟨cur, _, _, (Below.heap_alloc _ _ _ (Array.getElem?_eq_some_iff.1 hh).1).trans hh, by simp⟩
  have hW9 : WAt w9 W vx vd vp vc vq va := by
    show w9.heap[W]? = _
    rw [hg.block W (by simp; exact Nat.lt_succ_of_lt hW.lt) hneW, Below.heap_alloc _ _ _ hW.lt]
    exact hW
  have f3 : Fr L [92, 128] none w9 (w9.setCell ⟨W, 2, none⟩ v') :=
    (fr_setCell w9 W 2 v' hLW).typed (fun k hk => by cases hk; exact ⟨_, _, _, hW9, by simp⟩) none
  refine ⟨hW9, wat_set hW9 2 v', ?_, (f1.trans f2).trans f3⟩
  exact own_fr hown (fr_setCell (T := []) w9 W 2 v' hLW) (by simp) (.inr (fun e => own_neB hown hW9 (by decide) e.symm))

set_option maxHeartbeats 400000 in
theorem num_any (e : Int) (w : World) : Calls Tryz.prog 107 #[.int .i64 e] w fun r w' => r = .returned (.int .i64 e) ∧ w' = w := by
  go_enter Tryz.func107, Tryz.ntmps107
  go_wp2
  go_ret
  exact ⟨rfl, rfl⟩

set_option maxHeartbeats 1000000 in
set_option maxRecDepth 100000 in
theorem change_err (W : Nat) (w : World) (s1 s2 : Value) (f most : Int) (ao1 ao2 : Option Addr) (n1 n2 c1 c2 : Nat) (h1 : s1 = .slice ao1 n1 c1) (h2 : s2 = .slice ao2 n2 c2) (o : OpD) (hf : f ≠ 0) :
    Calls Tryz.prog 111 #[.pointer (some ⟨W, 0, none⟩), .agg #[s1, s2], .int .i64 f, .slice none 0 0, .int .i64 f, .int .i64 most, .agg o.cells, .bool false] w fun e w' => e = .returned (.bool true) ∧ Below w.heap.size w w' := by
  subst h1 h2
  obtain ⟨kk, nn, mm, s, t, lo, ln, lc, cut, wo, wn, wc⟩ := o
  simp only [OpD.cells]
  have t1 : (f != 0) = true := by simpa using hf
  have HN := hide (num_any f)
  clear hf
  have hb0 : ∀ o1 o2 : Obj, Below w.heap.size w ((w.alloc o1).alloc o2) := fun o1 o2 => ((Below.refl _ _).alloc (Nat.le_refl _) o1).alloc (by simp) o2
  have HB0 := hide hb0
  clear hb0
  go_enter Tryz.func111, Tryz.ntmps111
  go_wp2_with fail
  refine (HN.out _).mono ?_
  rintro e w1 ⟨rfl, rfl⟩
  go_wp2
  go_ret
  exact ⟨rfl, HB0.out _ _⟩

set_option maxHeartbeats 4000000 in
set_option maxRecDepth 100000 in
theorem change_ok (L W D N M : Nat) (w : World) (vx : Value) (past : List Jn.Con) (C : Jn.Con) (d d' : DS) (nc nq na : Nat) (s1 s2 v : Value) (l : List ActP) (most : Int) (o : OpD)
    (hlaw : LawAt L W D N M w vx past d nc nq na) (hLN : L ≤ M) (hN : N ≤ w.heap.size) (hM : M ≤ w.heap.size)
    (h1 : CRow w 0 s1 C.list) (h2 : PRow w 0 s2 C.procs) (hok : Jn.Ok C)
    (hr : ARow w M v l) (hl : l.length ≤ 8) (hs : (lens l : Int) ≤ most) (hs2 : lens l ≤ 1000000) (her : ∀ p ∈ l, p.1 ≠ 3) (hp : playL d l = some d') (hna : na ≤ 4000000000000) (hpb : past.length ≤ 2000000000000) :
    Calls Tryz.prog 111 #[.pointer (some ⟨W, 0, none⟩), .agg #[s1, s2], .int .i64 0, v, .int .i64 0, .int .i64 most, .agg o.cells, .bool false] w fun e w' => e = .returned (.bool true) ∧
      LawAt L W D w'.heap.size w'.heap.size w' vx (past ++ [C]) d' nc nq (na + 3) ∧ Fr L [97, 92, 58, 136, 128] none w w' := by
  have HACT := hide (fun w v h hN hM hr => acted_any L W D N M w vx (past ++ [C]) d d' nc nq na v l most false o h hLN hN hM hr hl hs hs2 (.inr her) hp hna)
  obtain ⟨kk, nn, mm, s, t, lo, ln, lc, cut, wo, wn, wc⟩ := o
  simp only [OpD.cells] at HACT ⊢
  obtain ⟨ao1, k1, rfl⟩ := crow_slice h1
  obtain ⟨ao2, k2, rfl, -⟩ := h2.shape
  obtain ⟨aov, kv, rfl, -⟩ := hr.shape
  obtain ⟨w2, hw2⟩ : ∃ w2, w2 = (w.alloc (.cells #[.slice ao1 C.list.length k1, .slice ao2 C.procs.length k2] 128)).alloc (.cells #[.int .i64 kk, .int .i64 nn, .int .i64 mm, .string s, .string t, .slice lo ln lc, .int .i64 cut, .slice wo wn wc] 83) := ⟨_, rfl⟩
  have hB : Below w.heap.size w w2 := by rw [hw2]; exact ((Below.refl _ _).alloc (Nat.le_refl _) _).alloc (by simp) _
  have hlaw2 := hlaw.below hB
  obtain ⟨vp, vc, vq, va, lcs, lqs, lxs, hW, hpast, hh1, e1, hh2, e2, hh3, e3⟩ := hlaw2.rest
  obtain ⟨ss, hrow, hsl, hss⟩ := hpast
  obtain ⟨vo, vk, hvp, -, -⟩ := own_slice hrow
  obtain ⟨-, -, c2, -, -, -⟩ := hW.cell
  have z2 := hW.fz 2
  have hwl := hW.lt
  have hz2 := hB.size
  have hLw := hlaw.low
  have hbw : w2.heap.size = w.heap.size + 2 := by rw [hw2]; simp
  have b0 : w2.heap[w.heap.size]? = some (.cells #[.slice ao1 C.list.length k1, .slice ao2 C.procs.length k2] 128 (0, 0)) := by rw [hw2]; exact blk1 w _ _
  have b1 : w2.heap[w.heap.size + 1]? = some (.cells #[.int .i64 kk, .int .i64 nn, .int .i64 mm, .string s, .string t, .slice lo ln lc, .int .i64 cut, .slice wo wn wc] 83 (0, 0)) := by rw [hw2]; exact blk2 w _ _
  obtain ⟨i0, hi, hy0, hy1, hy2⟩ := info_parts Tryz.infoRC
  have HN := hide (num_any 0)
  subst hvp
  have q0 : w2.cell? ⟨w.heap.size, 0, none⟩ = some (.slice ao1 C.list.length k1) := (cell_of_row w2 w.heap.size 0 _ _ _ b0).trans rfl
  have q1 : w2.cell? ⟨w.heap.size, 1, none⟩ = some (.slice ao2 C.procs.length k2) := (cell_of_row w2 w.heap.size 1 _ _ _ b0).trans rfl
  have HB := hide hB
  have HL := hide hlaw
  have HROW := hide hrow
  have HW := hide hW
  have HBO := hide b1
  have HR := hide hr
  have H1 := hide h1
  have H2 := hide h2
  have HBW := hide hbw
  have HSS := hide hss
  have HSL := hide hsl
  have HHH : Hid (HoldRow L N w2 102 35 mkC vc lcs ∧ lcs.length = nc ∧ HoldRow L N w2 62 42 mkP vq lqs ∧ lqs.length = nq ∧ HoldRow L M w2 136 58 mkA va lxs ∧ lxs.length = na) := ⟨hh1, e1, hh2, e2, hh3, e3⟩
  have HD2 := hide hlaw2.disk
  clear hB hlaw hlaw2 hrow hW b0 b1 hr h1 h2 hbw hss hsl hh1 e1 hh2 e2 hh3 e3
  go_enter Tryz.func111, Tryz.ntmps111
  go_wp2_with fail
  refine (HN.out _).mono ?_
  rintro e wz ⟨rfl, rfl⟩
  rw [← hw2]
  have HW2 := hide hw2
  clear hw2
  go_wp2
  go_region_law (refine step_append_own rfl (.tmp 30) (.tmp 32) 85 rfl L 128 i0 (.agg #[.slice none 0 0, .slice none 0 0]) 2 48 Tryz.underlying85 hi hy0 hy1 hy2 rfl (by decide) (.slice vo past.length vk) past.length (pairs ss) (by simp [Act.eval]) (World.ownsRow.alloc (w := w2.drew) HROW.out _) ⟨w2.heap.size, 0, none⟩ 1 1 [.slice ao1 C.list.length k1, .slice ao2 C.procs.length k2] (by simp [Act.eval]) rfl (cells_new w2.drew #[.slice ao1 C.list.length k1, .slice ao2 C.procs.length k2] _) (by intro u hu; simp at hu; rcases hu with rfl | rfl <;> rfl) (by unfold maxLen; omega) (by omega) (by simp; omega) ?_; intro v9 w9 hown9 hg9; obtain ⟨W9, W10, own10, F10⟩ := past_push L W w2.drew w9 _ _ _ _ _ _ HW.out HL.out.lw _ _ _ _ v9 HROW.out (Nat.le_trans hLw hz2) hown9 hg9; obtain ⟨ao9, cap9, rfl, -, -⟩ := own_slice hown9; have c9 := W9.cell.2.2.1; have z9 := W9.fz 2; have HW10 := hide W10; have HO10 := hide own10; have HF10 := hide F10; clear W9 W10 own10 F10 hown9 hg9)
  all_goals
    have hz10 : w2.heap.size ≤ w9.heap.size := by have := HF10.out.size; simpa using this
    have F10w : Fr L [92, 128] none w (w9.setCell ⟨W, 2, none⟩ (.slice ao9 (past.length + 1) cap9)) := (Fr.of HB.out hLw).trans HF10.out.undrew
    have F10z : Fr L [92, 128] none w2 (w9.setCell ⟨W, 2, none⟩ (.slice ao9 (past.length + 1) cap9)) := HF10.out.undrew
    have bo := F10z.block _ _ _ _ HBO.out (by decide) (by simp)
    have x0 := (cell_of_row (w9.setCell ⟨W, 2, none⟩ (.slice ao9 (past.length + 1) cap9)) (w.heap.size + 1) 0 _ _ _ bo).trans rfl
    have x1 := (cell_of_row (w9.setCell ⟨W, 2, none⟩ (.slice ao9 (past.length + 1) cap9)) (w.heap.size + 1) 1 _ _ _ bo).trans rfl
    have x2 := (cell_of_row (w9.setCell ⟨W, 2, none⟩ (.slice ao9 (past.length + 1) cap9)) (w.heap.size + 1) 2 _ _ _ bo).trans rfl
    have x3 := (cell_of_row (w9.setCell ⟨W, 2, none⟩ (.slice ao9 (past.length + 1) cap9)) (w.heap.size + 1) 3 _ _ _ bo).trans rfl
    have x4 := (cell_of_row (w9.setCell ⟨W, 2, none⟩ (.slice ao9 (past.length + 1) cap9)) (w.heap.size + 1) 4 _ _ _ bo).trans rfl
    have x5 := (cell_of_row (w9.setCell ⟨W, 2, none⟩ (.slice ao9 (past.length + 1) cap9)) (w.heap.size + 1) 5 _ _ _ bo).trans rfl
    have x6 := (cell_of_row (w9.setCell ⟨W, 2, none⟩ (.slice ao9 (past.length + 1) cap9)) (w.heap.size + 1) 6 _ _ _ bo).trans rfl
    have x7 := (cell_of_row (w9.setCell ⟨W, 2, none⟩ (.slice ao9 (past.length + 1) cap9)) (w.heap.size + 1) 7 _ _ _ bo).trans rfl
    have hl10 : LawAt L W D N M (w9.setCell ⟨W, 2, none⟩ (.slice ao9 (past.length + 1) cap9)) vx (past ++ [C]) d nc nq na := by
      obtain ⟨hh1, e1, hh2, e2, hh3, e3⟩ := HHH.out
      refine ⟨HL.out.lw, HL.out.ld, HD2.out.fr F10z (by decide) (by simp), _, vc, vq, va, lcs, lqs, lxs, HW10.out, ⟨ss ++ [(.slice ao1 C.list.length k1, .slice ao2 C.procs.length k2)], ?_, ?_, ?_⟩, ?_, e1, ?_, e2, ?_, e3⟩
      · rw [pairs_snoc, List.length_append]; exact HO10.out
      · rw [List.length_append, List.length_append, HSL.out]; rfl
      · intro i s' C' hs' hC'
        by_cases hil : i < past.length
        · rw [List.getElem?_append_left (by rw [HSL.out]; exact hil)] at hs'
          rw [List.getElem?_append_left hil] at hC'
          obtain ⟨g1, g2, g3⟩ := HSS.out i s' C' hs' hC'
          exact ⟨own_fr g1 F10z (by decide) (.inl rfl), own_fr g2 F10z (by decide) (.inl rfl), g3⟩
        · rw [List.getElem?_append_right (by rw [HSL.out]; omega)] at hs'
          rw [List.getElem?_append_right (by omega)] at hC'
          rw [HSL.out] at hs'
          have h0 : i - past.length = 0 := by
            have := (List.getElem?_eq_some_iff.1 hC').1
            simp at this; omega
          rw [h0] at hs' hC'
          simp at hs' hC'
          subst hs' hC'
          exact ⟨own_fr H1.out F10w (by decide) (.inl rfl), own_fr H2.out F10w (by decide) (.inl rfl), hok⟩
      · exact hh1.fr F10z (by decide) (by decide) (by simp) (.inl rfl)
      · exact hh2.fr F10z (by decide) (by decide) (by simp) (.inl rfl)
      · exact hh3.fr F10z (by decide) (by decide) (by simp) (.inl rfl)
    have HAC := hide (HACT.out _ _ hl10 (by rw [World.size_setCell]; exact Nat.le_trans hN (Nat.le_trans hz2 hz10)) (by rw [World.size_setCell]; exact Nat.le_trans hM (Nat.le_trans hz2 hz10)) (own_fr HR.out F10w (by decide) (.inl rfl)))
    have HFW := hide F10w
    clear F10w F10z bo hl10
    go_wp2_with fail
    refine HAC.out.mono ?_
    rintro e w3 ⟨rfl, hlaw3, hfr3⟩
    have HL3 := hide hlaw3
    have HF3 := hide ((HFW.out.wide (T' := [97, 92, 58, 136, 128]) (by simp)).trans (hfr3.wide (by simp)))
    clear hlaw3 hfr3 HAC
    go_wp2
    go_ret
    exact ⟨rfl, HL3.out, HF3.out⟩
end Go.Proofs.YtellilpeakpbfaaGreatDoor

end
