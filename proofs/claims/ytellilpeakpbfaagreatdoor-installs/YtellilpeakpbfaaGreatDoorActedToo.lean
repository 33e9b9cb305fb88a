import Derived.Test.YtellilpeakpbfaaGreatDoorSameToo
import Derived.Test.YtellilpeakpbfaaGreatDoorRefCToo
import Derived.Test.YtellilpeakpbfaaGreatDoorRefPToo
import Derived.Test.YtellilpeakpbfaaGreatDoorJBackToo
section
/-
  What a script's world holds, and the walks of now and of Size.
-/
namespace Go.Proofs.YtellilpeakpbfaaGreatDoor
open Go.RowKit

/-- The contents behind each change: two lists each. -/
def PastAt (L : Nat) (w : World) (vp : Value) (past : List Jn.Con) : Prop :=
  ∃ ss : List (Value × Value), w.ownsRow L 128 2 vp past.length (pairs ss) ∧ ss.length = past.length ∧
    ∀ (i : Nat) (s : Value × Value) (C : Jn.Con), ss[i]? = some s → past[i]? = some C → CRow w 0 s.1 C.list ∧ PRow w 0 s.2 C.procs ∧ Jn.Ok C
theorem PastAt.fr {L : Nat} {T : List TypeId} {w w' : World} {vp : Value} {past : List Jn.Con} (h : PastAt L w vp past) (f : Fr L T none w w') (h1 : 128 ∉ T) (h2 : 102 ∉ T) (h3 : 62 ∉ T) : PastAt L w' vp past := by
  obtain ⟨ss, hr, hl, hc⟩ := h
  exact ⟨ss, own_fr hr f h1 (.inl rfl), hl, fun i s C hs hC => ⟨own_fr (hc i s C hs hC).1 f h2 (.inl rfl), own_fr (hc i s C hs hC).2.1 f h3 (.inl rfl), (hc i s C hs hC).2.2⟩⟩

/-- The script's world: all but the store; the lists that are kept lie below block N. -/
structure LawAt (L W D N M : Nat) (w : World) (vx : Value) (past : List Jn.Con) (d : ByteArray × ByteArray × Int × Int) (nc nq na : Nat) : Prop where
  lw : L ≤ W
  ld : L ≤ D
  disk : DAt w D d.1 d.2.1 d.2.2.1 d.2.2.2
  rest : ∃ vp vc vq va lc lq lx, WAt w W vx (.pointer (some ⟨D, 0, none⟩)) vp vc vq va ∧ PastAt L w vp past ∧
    HoldRow L N w 102 35 mkC vc lc ∧ lc.length = nc ∧
    HoldRow L N w 62 42 mkP vq lq ∧ lq.length = nq ∧
    HoldRow L M w 136 58 mkA va lx ∧ lx.length = na
theorem LawAt.fr {L W D N M : Nat} {w w' : World} {vx : Value} {past : List Jn.Con} {d : ByteArray × ByteArray × Int × Int} {nc nq na : Nat} {T : List TypeId} (h : LawAt L W D N M w vx past d nc nq na) (f : Fr L T none w w')
    (hT : ∀ t, t ∈ T → t = 105 ∨ t = 145) : LawAt L W D N M w' vx past d nc nq na := by
  obtain ⟨vp, vc, vq, va, lc, lq, lx, hW, hp, h1, e1, h2, e2, h3, e3⟩ := h.rest
  have no : ∀ t, t ≠ 105 → t ≠ 145 → t ∉ T := fun t x y hm => (hT t hm).elim x y
  refine ⟨h.lw, h.ld, h.disk.fr f (no _ (by decide) (by decide)) (by simp), vp, vc, vq, va, lc, lq, lx, hW.fr f (no _ (by decide) (by decide)) (by simp), hp.fr f (no _ (by decide) (by decide)) (no _ (by decide) (by decide)) (no _ (by decide) (by decide)), ?_, e1, ?_, e2, ?_, e3⟩
  · exact h1.fr f (no _ (by decide) (by decide)) (no _ (by decide) (by decide)) (by simp) (.inl rfl)
  · exact h2.fr f (no _ (by decide) (by decide)) (no _ (by decide) (by decide)) (by simp) (.inl rfl)
  · exact h3.fr f (no _ (by decide) (by decide)) (no _ (by decide) (by decide)) (by simp) (.inl rfl)
theorem LawAt.mono {L W D N N' M M' : Nat} {w : World} {vx : Value} {past : List Jn.Con} {d : ByteArray × ByteArray × Int × Int} {nc nq na : Nat} (h : LawAt L W D N M w vx past d nc nq na) (hN : N ≤ N') (hM : M ≤ M') : LawAt L W D N' M' w vx past d nc nq na := by
  obtain ⟨vp, vc, vq, va, lc, lq, lx, hW, hp, h1, e1, h2, e2, h3, e3⟩ := h.rest
  exact ⟨h.lw, h.ld, h.disk, vp, vc, vq, va, lc, lq, lx, hW, hp, h1.mono hN, e1, h2.mono hN, e2, h3.mono hM, e3⟩
theorem LawAt.low {L W D N M : Nat} {w : World} {vx : Value} {past : List Jn.Con} {d : ByteArray × ByteArray × Int × Int} {nc nq na : Nat} (h : LawAt L W D N M w vx past d nc nq na) : L ≤ w.heap.size := Nat.le_trans h.ld (Nat.le_of_lt h.disk.lt)
theorem LawAt.below {L W D N M : Nat} {w w' : World} {vx : Value} {past : List Jn.Con} {d : ByteArray × ByteArray × Int × Int} {nc nq na : Nat} (h : LawAt L W D N M w vx past d nc nq na) (f : Below w.heap.size w w') : LawAt L W D N M w' vx past d nc nq na :=
  h.fr (T := []) (Fr.of f h.low) (by simp)

set_option maxHeartbeats 2000000 in
set_option maxRecDepth 100000 in
theorem now_any (L W : Nat) (w : World) (vx vd vp vc vq va : Value) (past : List Jn.Con) (C : Jn.Con) (hW : WAt w W vx vd vp vc vq va) (hp : PastAt L w vp past) (hC : past[past.length - 1]? = some C) (hb : past.length ≤ 9000000000000) :
    Calls Tryz.prog 110 #[.pointer (some ⟨W, 0, none⟩)] w fun e w' => ∃ sc sp, e = .returned (.agg #[sc, sp]) ∧ CRow w' 0 sc C.list ∧ PRow w' 0 sp C.procs ∧ Below w.heap.size w w' := by
  obtain ⟨ss, hr, hl, hcc⟩ := hp
  have hn : 0 < past.length := by
    cases past with
    | nil => simp at hC
    | cons x r => simp
  obtain ⟨s, hs⟩ : ∃ s, ss[past.length - 1]? = some s := ⟨ss[past.length - 1]'(by omega), by simp [show past.length - 1 < ss.length by omega]⟩
  obtain ⟨hcr, hpr, -⟩ := hcc _ _ _ hs hC
  have hr' : w.ownsRow L 128 2 vp ss.length (pairs ss) := by rw [hl]; exact hr
  obtain ⟨ao, cap, hv, hsh⟩ := pair_shape hr'
  obtain ⟨g, cur, rfl, -, hg, hcs⟩ := hsh (by omega)
  obtain ⟨d0, d1⟩ := hcs _ _ hs
  obtain ⟨-, -, c2, -, -, -⟩ := hW.cell
  rw [hv, hl] at c2
  have hlt := hW.lt
  have hgl := (Array.getElem?_eq_some_iff.1 hg).1
  obtain ⟨s1, s2⟩ := s
  obtain ⟨so, sk, hs1⟩ := crow_slice hcr
  obtain ⟨po, pk, hs2, -⟩ := hpr.shape
  simp only at hs1 hs2
  subst hs1 hs2
  obtain ⟨n, hn1⟩ : ∃ n, past.length = n + 1 := ⟨past.length - 1, by omega⟩
  rw [hn1] at c2 d0 d1 hb
  simp only [Nat.add_sub_cancel] at d0 d1
  have HC := hide hcr
  have HP := hide hpr
  clear hcc hr hr' hsh hcs hs hC hcr hpr hn hg
  go_enter Tryz.func110, Tryz.ntmps110
  go_wp2
  go_region
  all_goals go_wp2
  all_goals
    have hbb := Below.drew ((Below.refl w.heap.size w).alloc (Nat.le_refl _) (.cells #[.slice so C.list.length sk, .slice po C.procs.length pk] 128))
    exact bodyPost_ret (v := .agg #[.slice so C.list.length sk, .slice po C.procs.length pk]) (by simp [results, Tryz.results110, go_sem]) rfl ⟨_, _, rfl, HC.out.below hbb, HP.out.below hbb, hbb⟩

set_option maxHeartbeats 1000000 in
theorem size_any (D : Nat) (a b : ByteArray) (la lb : Int) (w : World) (h : DAt w D a b la lb) (ha : a.size ≤ 1152921504606846976) (hb : b.size ≤ 1152921504606846976) :
    Calls Tryz.prog 136 #[.pointer (some ⟨D, 0, none⟩)] w fun e w' => e = .returned (.int .i64 ((a.size : Int) + (b.size : Int))) ∧ Below w.heap.size w w' := by
  obtain ⟨c0, c1, -, -⟩ := h.cell
  clear h
  go_enter Tryz.func136, Tryz.ntmps136
  go_wp2
  go_quiet (fail)
  go_wp2
  go_ret
  exact ⟨rfl, below_drewN (Below.refl _ _) _⟩

/-- the files behind an act. -/
abbrev DS := ByteArray × ByteArray × Int × Int
def playA (d : DS) (x : ActP) : Option DS :=
  if x.1 = 1 ∧ x.2.1 = 0 then (if d.1.size + x.2.2.length ≤ 1152921504606846976 then some (d.1 ++ ⟨x.2.2.toArray⟩, d.2.1, d.2.2.1, d.2.2.2) else none)
  else if x.1 = 1 ∧ x.2.1 = 1 then (if d.2.1.size + x.2.2.length ≤ 1152921504606846976 then some (d.1, d.2.1 ++ ⟨x.2.2.toArray⟩, d.2.2.1, d.2.2.2) else none)
  else if x = (2, 0, []) then some (d.1, d.2.1, d.1.size, d.2.2.2)
  else if x = (2, 1, []) then some (d.1, d.2.1, d.2.2.1, d.2.1.size)
  else if x = (3, 0, []) then some (⟨#[]⟩, d.2.1, 0, d.2.2.2)
  else if x = (3, 1, []) then some (d.1, ⟨#[]⟩, d.2.2.1, 0)
  else none
def playL (d : DS) : List ActP → Option DS
  | [] => some d
  | x :: r => match playA d x with | some e => playL e r | none => none
abbrev DsAt (w : World) (D : Nat) (d : DS) : Prop := DAt w D d.1 d.2.1 d.2.2.1 d.2.2.2

theorem play_any (L D : Nat) (d d' : DS) (x : ActP) (w : World) (h : DsAt w D d) (hL : L ≤ D) (hp : playA d x = some d') :
    Calls Tryz.prog 77 #[.pointer (some ⟨D, 0, none⟩), .agg #[.int .i64 x.1, .int .i64 x.2.1, T x.2.2]] w fun e w' => e = .returned (.bool true) ∧ DsAt w' D d' ∧ Fr L [] (some D) w w' := by
  obtain ⟨a, b, la, lb⟩ := d
  obtain ⟨k, f, s⟩ := x
  unfold playA at hp
  simp only at hp
  split at hp
  · rename_i hkf
    obtain ⟨rfl, rfl⟩ := hkf
    split at hp
    · rename_i hs
      cases hp
      exact play_app0 L D w a b ⟨s.toArray⟩ la lb h hL hs
    · cases hp
  · split at hp
    · rename_i hkf
      obtain ⟨rfl, rfl⟩ := hkf
      split at hp
      · rename_i hs
        cases hp
        exact play_app1 L D w a b ⟨s.toArray⟩ la lb h hL hs
      · cases hp
    · split at hp
      · rename_i hx
        cases hx; cases hp
        exact play_syn0 L D w a b la lb h hL
      · split at hp
        · rename_i hx
          cases hx; cases hp
          exact play_syn1 L D w a b la lb h hL
        · split at hp
          · rename_i hx
            cases hx; cases hp
            exact play_era0 L D w a b la lb h hL
          · split at hp
            · rename_i hx
              cases hx; cases hp
              exact play_era1 L D w a b la lb h hL
            · cases hp

theorem acts3_at (l : List ActP) : ∀ (k : Nat) (p : ActP), l[k]? = some p → (acts3 l)[k * 3]? = some (.int .i64 p.1) ∧ (acts3 l)[k * 3 + 1]? = some (.int .i64 p.2.1) ∧ (acts3 l)[k * 3 + 2]? = some (T p.2.2) := by
  induction l with
  | nil => intro k p h; simp at h
  | cons q r ih =>
    intro k p h
    cases k with
    | zero => simp at h; subst h; simp [acts3]
    | succ k =>
      have := ih k p (by simpa using h)
      have e : acts3 (q :: r) = .int .i64 q.1 :: .int .i64 q.2.1 :: T q.2.2 :: acts3 r := rfl
      rw [e]
      rw [show (k + 1) * 3 = k * 3 + 1 + 1 + 1 by omega, show k * 3 + 1 + 1 + 1 + 1 = (k * 3 + 1) + 1 + 1 + 1 by omega, show k * 3 + 1 + 1 + 1 + 2 = (k * 3 + 2) + 1 + 1 + 1 by omega]
      simpa using this
theorem ARow.shape {w : World} {b : Nat} {v : Value} {l : List ActP} (h : ARow w b v l) :
    ∃ ao cap, v = .slice ao l.length cap ∧ (0 < l.length → ∃ g cur, ao = some ⟨g, 0, none⟩ ∧ b ≤ g ∧ w.heap[g]? = some (.cells cur 136 (0, 0)) ∧ ∀ (j : Nat) (p : ActP), l[j]? = some p → w.cell? ⟨g, j * 3, none⟩ = some (.int .i64 p.1) ∧ w.cell? ⟨g, j * 3 + 1, none⟩ = some (.int .i64 p.2.1) ∧ w.cell? ⟨g, j * 3 + 2, none⟩ = some (T p.2.2)) := by
  have h0 := h
  rcases h.2 with ⟨rfl, hn⟩ | ⟨g, cap, cur, rfl, hg, hh, hcap, hm, hsz, htake⟩
  · exact ⟨none, 0, by rw [hn], fun hp => by omega⟩
  · refine ⟨_, cap, rfl, fun _ => ⟨g, cur, rfl, hg, hh, fun j p hj => ?_⟩⟩
    obtain ⟨c1, c2, c3⟩ := acts3_at l j p hj
    have a1 := World.ownsRow.cells h0 (g := g) rfl (j * 3) _ c1
    have a2 := World.ownsRow.cells h0 (g := g) rfl (j * 3 + 1) _ c2
    have a3 := World.ownsRow.cells h0 (g := g) rfl (j * 3 + 2) _ c3
    simp only [Addr.add_lit, Nat.zero_add] at a1 a2 a3
    exact ⟨a1, a2, a3⟩
theorem ARow.fr {L : Nat} {T : List TypeId} {X : Option Nat} {w w' : World} {b : Nat} {v : Value} {l : List ActP} (h : ARow w b v l) (f : Fr L T X w w') (ht : 136 ∉ T) (hX : X = none ∨ X ≠ v.ownBlock) : ARow w' b v l := own_fr h f ht hX

def AlRel (L D : Nat) (w : World) (l : List ActP) (o : Option DS) (i : Value) (wr : World) : Prop :=
  ∃ (k : Nat) (d : DS), k ≤ l.length ∧ i = .int .i64 k ∧ DsAt wr D d ∧ playL d (l.drop k) = o ∧ Fr L [] (some D) w wr

set_option maxHeartbeats 2000000 in
set_option maxRecDepth 100000 in
theorem allD_own (L D b : Nat) (d d' : DS) (v : Value) (l : List ActP) (w : World) (h : DsAt w D d) (hL : L ≤ D) (hr : ARow w b v l) (hl : l.length ≤ 1000) (hp : playL d l = some d') :
    Calls Tryz.prog 42 #[.pointer (some ⟨D, 0, none⟩), v] w fun e w' => e = .returned (.bool true) ∧ DsAt w' D d' ∧ Fr L [] (some D) w w' := by
  obtain ⟨ao, cap, rfl, hcs⟩ := hr.shape
  have HC := hide hcs
  have HD0 := hide (show w.heap[D]? = _ from h)
  have HS : Hid (AlRel L D w l (some d') (.int .i64 (0 : Int)) w) := ⟨0, d, Nat.zero_le _, rfl, h, by simpa using hp, Fr.refl _ _ _ _⟩
  clear hcs hr hp h
  go_enter Tryz.func42, Tryz.ntmps42
  go_wp2
  go_loopw [5] (fun i wr => AlRel L D w l (some d') i wr) (fun i _ => l.length - (intOf i).toNat)
  case atStart => exact HS.out
  case round =>
    obtain ⟨k, e, hk, rfl, hd, hpl, hfr⟩ := hrel
    have HD := hide hd
    have HPL := hide hpl
    have HF := hide hfr
    clear hd hpl hfr HS
    by_cases hlt : k < l.length
    · obtain ⟨g, cur, rfl, -, hg, hcs⟩ := HC.out (by omega)
      obtain ⟨p, hp⟩ : ∃ p, l[k]? = some p := ⟨l[k], by simp [hlt]⟩
      obtain ⟨c1, c2, c3⟩ := hcs k p hp
      have hgr := HF.out.block g cur _ _ hg (by simp) (fun e => by cases e; exact absurd (HD0.out.symm.trans hg) (by simp))
      have tr : ∀ j u, w.cell? ⟨g, j, none⟩ = some u → wr.cell? ⟨g, j, none⟩ = some u := fun j u h => by
        rw [cell_of_row wr g j cur _ _ hgr, ← cell_of_row w g j cur _ _ hg]; exact h
      have d1 := tr _ _ c1
      have d2 := tr _ _ c2
      have d3 := tr _ _ c3
      have hdr : l.drop k = p :: l.drop (k + 1) := by rw [List.drop_eq_getElem_cons hlt, (List.getElem?_eq_some_iff.1 hp).2]
      obtain ⟨e', he', hpl'⟩ : ∃ e', playA e p = some e' ∧ playL e' (l.drop (k + 1)) = some d' := by
        have := HPL.out
        rw [hdr, playL] at this
        cases hx : playA e p with
        | none => rw [hx] at this; cases this
        | some e' => rw [hx] at this; exact ⟨e', rfl, this⟩
      have HPY := hide (play_any L D e e' p wr HD.out hL he')
      have HPL2 := hide hpl'
      clear hcs c1 c2 c3 hp hgr tr hdr he' hpl' hg HPL
      obtain ⟨p1, p2, p3⟩ := p
      simp only [T] at d3
      go_wp2_with fail
      refine HPY.out.mono ?_
      rintro e1 w1 ⟨rfl, hd1, hf1⟩
      have HR : Hid (AlRel L D w l (some d') (.int .i64 ((k : Int) + 1)) w1) := ⟨k + 1, e', by omega, by go_num, hd1, HPL2.out, HF.out.trans hf1⟩
      clear hd1 hf1 HPY
      go_wp2
      go_roundw
      case rel => exact HR.out
      case measure => simp [intOf]; omega
    · have HE : Hid (e = d') := by
        show _ = _
        have := HPL.out
        rw [List.drop_eq_nil_of_le (by omega)] at this
        exact Option.some.inj this
      go_wp2
      go_ret
      exact ⟨rfl, by rw [← HE.out]; exact HD.out, HF.out⟩
theorem allD_any (L D b : Nat) (d d' : DS) (v : Value) (l : List ActP) (w : World) (h : DsAt w D d) (hL : L ≤ D) (hr : ARow w b v l) (hl : l.length ≤ 1000) (hp : playL d l = some d') :
    Calls Tryz.prog 42 #[.pointer (some ⟨D, 0, none⟩), v] w fun e w' => e = .returned (.bool true) ∧ DsAt w' D d' ∧ Fr L [97] none w w' :=
  (allD_own L D b d d' v l w h hL hr hl hp).mono fun _ _ ⟨h1, h2, h3⟩ => ⟨h1, h2, h3.weak h⟩
end Go.Proofs.YtellilpeakpbfaaGreatDoor

end

section
/-
  The walk of acted, without a crash.
-/
namespace Go.Proofs.YtellilpeakpbfaaGreatDoor
open Go.RowKit

/-- A step. -/
structure OpD where
  kind : Int
  n : Int
  m : Int
  s : ByteArray
  t : ByteArray
  lo : Option Addr
  ln : Nat
  lc : Nat
  cut : Int
  wo : Option Addr
  wn : Nat
  wc : Nat
def OpD.cells (o : OpD) : Array Value := #[.int .i64 o.kind, .int .i64 o.n, .int .i64 o.m, .string o.s, .string o.t, .slice o.lo o.ln o.lc, .int .i64 o.cut, .slice o.wo o.wn o.wc]

def lens (l : List ActP) : Nat := (l.map fun a => a.2.2.length).sum
theorem lens_take (l : List ActP) (k : Nat) (p : ActP) (h : l[k]? = some p) : lens (l.take (k + 1)) = lens (l.take k) + p.2.2.length := by
  have hk := (List.getElem?_eq_some_iff.1 h).1
  have e := (List.getElem?_eq_some_iff.1 h).2
  unfold lens
  rw [List.take_succ_eq_append_getElem hk, e]
  simp
theorem lens_app (a b : List ActP) : lens (a ++ b) = lens a + lens b := by simp [lens]
theorem lens_le (l : List ActP) (k : Nat) : lens (l.take k) ≤ lens l := by
  have := lens_app (l.take k) (l.drop k)
  rw [List.take_append_drop] at this
  omega

def AcRel (l : List ActP) (n i : Value) : Prop := ∃ k : Nat, k ≤ l.length ∧ i = .int .i64 k ∧ n = .int .i64 (lens (l.take k))

set_option maxHeartbeats 4000000 in
set_option maxRecDepth 100000 in
theorem acted_any (L W D N M : Nat) (w : World) (vx : Value) (past : List Jn.Con) (d d' : DS) (nc nq na : Nat) (v : Value) (l : List ActP) (most : Int) (er : Bool) (o : OpD)
    (hlaw : LawAt L W D N M w vx past d nc nq na) (hLN : L ≤ M) (hN : N ≤ w.heap.size) (hM : M ≤ w.heap.size)
    (hr : ARow w M v l) (hl : l.length ≤ 8) (hs : (lens l : Int) ≤ most) (hs2 : lens l ≤ 1000000) (her : er = true ∨ ∀ p ∈ l, p.1 ≠ 3) (hp : playL d l = some d') (hna : na ≤ 4000000000000) :
    Calls Tryz.prog 120 #[.pointer (some ⟨W, 0, none⟩), v, .int .i64 most, .bool er, .agg o.cells, .bool false] w fun e w' => e = .returned (.bool true) ∧
      LawAt L W D w'.heap.size w'.heap.size w' vx past d' nc nq (na + 3) ∧ Fr L [97, 92, 58, 136] none w w' := by
  obtain ⟨kk, nn, mm, s, t, lo, ln, lc, cut, wo, wn, wc⟩ := o
  simp only [OpD.cells]
  obtain ⟨vp, vc, vq, va, lcs, lqs, lxs, hW, -, -, -, -, -, -, -⟩ := hlaw.rest
  obtain ⟨-, c1, -, -, -, -⟩ := hW.cell
  have hwl := hW.lt
  have hLw := hlaw.low
  obtain ⟨ao, cap, hv, hcs⟩ := hr.shape
  subst hv
  have hB1 : ∀ ob : Obj, Below w.heap.size w (w.alloc ob) := fun ob => (Below.refl _ _).alloc (Nat.le_refl _) ob
  have HC := hide hcs
  have HR := hide hr
  have HL := hide hlaw
  have HB1 := hide hB1
  have HP := hide hp
  have HS := hide hs
  clear hcs hr hlaw hB1 hp hs hW
  obtain ⟨w1, hw1⟩ : ∃ w1, w1 = w.alloc (.cells #[.int .i64 kk, .int .i64 nn, .int .i64 mm, .string s, .string t, .slice lo ln lc, .int .i64 cut, .slice wo wn wc] 83) := ⟨_, rfl⟩
  have HBW : Hid (Below w.heap.size w w1) := by show Below _ _ _; rw [hw1]; exact HB1.out _
  go_enter Tryz.func120, Tryz.ntmps120
  go_wp2
  rw [← hw1]
  have HW1 := hide hw1
  clear hw1
  have e1 := at_old HBW.out c1
  go_loop [13, 14] (fun n i => AcRel l n i) (fun _ i => l.length - (intOf i).toNat)
  case atStart => exact ⟨0, Nat.zero_le _, rfl, rfl⟩
  case round =>
    obtain ⟨k, hk, rfl, rfl⟩ := hrel
    have hle := lens_le l k
    by_cases hlt : k < l.length
    · obtain ⟨g, cur, rfl, -, -, hcs⟩ := HC.out (by omega)
      obtain ⟨p, hpk⟩ : ∃ p, l[k]? = some p := ⟨l[k], by simp [hlt]⟩
      obtain ⟨q1, q2, q3⟩ := hcs k p hpk
      have d1 := at_old HBW.out q1
      have d3 := at_old HBW.out q3
      have hlt2 := lens_take l k p hpk
      have hle2 := lens_le l (k + 1)
      have HLT := hide hlt2
      have hne : er = true ∨ (p.1 == 3) = false := by
        rcases her with h | h
        · exact .inl h
        · exact .inr (beq_eq_false_iff_ne.2 (h p (List.mem_of_getElem? hpk)))
      rw [hlt2] at hle2
      clear hcs q1 q2 q3 hpk hlt2
      obtain ⟨p1, p2, p3⟩ := p
      simp only [T] at d3
      obtain ⟨x, hx⟩ : ∃ x : ByteArray, x = ⟨p3.toArray⟩ := ⟨_, rfl⟩
      have hxs : x.size = p3.length := by rw [hx]; rfl
      rw [← hx] at d3
      have HX := hide hx
      have HXS := hide hxs
      simp only at hne hle2
      rw [← hxs] at hle2
      clear hx hxs
      generalize lens (l.take k) = z at *
      rcases hne with rfl | hne
      · cases hq : (p1 == 3)
        all_goals
          go_wp2
          go_round
          case rel => exact ⟨k + 1, by omega, by go_num, by rw [HLT.out]; simp only; rw [← HXS.out]; go_num⟩
          case measure => simp [intOf]; omega
      · go_wp2
        go_round
        case rel => exact ⟨k + 1, by omega, by go_num, by rw [HLT.out]; simp only; rw [← HXS.out]; go_num⟩
        case measure => simp [intOf]; omega
    · have hkl : l.take k = l := List.take_of_length_le (by omega)
      rw [hkl] at hle ⊢
      have t1 : decide (8 < (l.length : Int)) = false := decide_eq_false (by omega)
      have t2 : decide (most < (lens l : Int)) = false := decide_eq_false (by have := HS.out; omega)
      have hd1 : DsAt w1 D d := HL.out.disk.fr (Fr.of (L := 0) (T := []) (X := none) HBW.out (Nat.zero_le _)) (by simp) (by simp)
      have hAR : ARow w1 M (.slice ao l.length cap) l := ownsRow_below HR.out HBW.out
      have HAL := hide (allD_any L D M d d' _ l w1 hd1 HL.out.ld hAR (by omega) HP.out)
      have HAR := hide hAR
      clear hkl hd1 hAR hle
      generalize lens l = z at *
      go_wp2_with fail
      refine HAL.out.mono ?_
      rintro e w2 ⟨rfl, hd2, hf2⟩
      have F2 : Fr L [97] none w w2 := (Fr.of HBW.out hLw).trans hf2
      obtain ⟨vp', vc', vq', va', lc', lq', lx', hW0, hp0, h10, e10, h20, e20, h30, e30⟩ := HL.out.rest
      have W2 := hW0.fr F2 (by decide) (by simp)
      have H32 := h30.fr F2 (by decide) (by decide) (by simp) (.inl rfl)
      have hAR2 : ARow w2 M (.slice ao l.length cap) l := HAR.out.fr hf2 (by decide) (.inl rfl)
      have hk := keepActs_any L M W w2 vx _ vp' vc' vq' va' lx' _ l.length _ W2 HL.out.lw H32 hAR2 (by omega) hLN (Nat.le_trans hM F2.size) (by rw [e30]; omega)
      obtain ⟨-, b1, -, -, -, -⟩ := W2.cell
      have HK := hide hk
      have HF2 := hide F2
      have HREST : Hid (PastAt L w vp' past ∧ HoldRow L N w 102 35 mkC vc' lc' ∧ lc'.length = nc ∧ HoldRow L N w 62 42 mkP vq' lq' ∧ lq'.length = nq) := ⟨hp0, h10, e10, h20, e20⟩
      have HE30 := hide e30
      have HD2 := hide hd2
      have HAR2 := hide hAR2
      clear hk F2 hd2 hf2 hW0 hp0 h10 e10 h20 e20 h30 e30 W2 H32 hAR2 HAL
      go_wp2_with fail
      refine HK.out.mono ?_
      rintro e w3 ⟨va3, lx3, rfl, hW3, hh3, hl3, hf3⟩
      have F3 : Fr L [97, 92, 58, 136] none w w3 := by
        refine (HF2.out.wide (by simp)).trans ((hf3.wide (T' := [97, 92, 58, 136]) (by simp)).typed (fun k hk => ?_) none)
        rcases HAR2.out.2 with ⟨h0, _⟩ | ⟨g, cap', cur, h0, hb, hh, _⟩
        · rw [h0] at hk; simp [Value.ownBlock] at hk
        · rw [h0] at hk
          simp [Value.ownBlock] at hk
          subst hk
          exact ⟨cur, _, _, hh, by simp⟩
      have HFIN : Hid (LawAt L W D w3.heap.size w3.heap.size w3 vx past d' nc nq (na + 3)) := by
        obtain ⟨hp0, h10, e10, h20, e20⟩ := HREST.out
        refine ⟨HL.out.lw, HL.out.ld, HD2.out.fr hf3 (by decide) (own_neB HAR2.out HD2.out (by decide)), vp', vc', vq', va3, lc', lq', lx3, hW3, hp0.fr F3 (by decide) (by decide) (by decide), ?_, e10, ?_, e20, hh3, by rw [hl3, HE30.out]⟩
        · exact (h10.fr F3 (by decide) (by decide) (by simp) (.inl rfl)).mono (Nat.le_trans hN F3.size)
        · exact (h20.fr F3 (by decide) (by decide) (by simp) (.inl rfl)).mono (Nat.le_trans hN F3.size)
      have HF3 := hide F3
      clear F3 hW3 hh3 hl3 hf3 HK HREST HD2
      go_wp2
      go_ret
      exact ⟨rfl, HFIN.out, HF3.out⟩
end Go.Proofs.YtellilpeakpbfaaGreatDoor

end
