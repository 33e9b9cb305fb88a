import Derived.Test.YtellilpeakpbfabGreatDoorOpSToo
import Derived.Test.YtellilpeakpbfabGreatDoorRnToo
import Derived.Deep.RegionHeld3
section
/-
  A crash of the World's files, Open behind it, its acts played in part or wholly.
-/
set_option linter.unusedVariables false
namespace Go.Proofs.YtellilpeakpbfabGreatDoor
open Go.RowKit

theorem law_keepActs (L W D N M : Nat) (w : World) (vx : Value) (past : List Jn.Con) (d : DS) (nc nq na : Nat) (v : Value) (l : List ActP) (hlaw : LawAt L W D N M w vx past d nc nq na) (hLM : L ≤ M) (hN : N ≤ w.heap.size) (hM : M ≤ w.heap.size) (hr : ARow w M v l) (hl : l.length ≤ 8) (hna : na ≤ 4000000000000) :
    Calls Tryz.prog 105 #[.pointer (some ⟨W, 3, none⟩), v] w fun e w' => e = .returned (.tuple #[]) ∧ LawAt L W D w'.heap.size w'.heap.size w' vx past d nc nq (na + 3) ∧ Fr L [115, 27, 84] none w w' := by
  obtain ⟨vp, vc, vq, va, lc, lq, lx, hW, hp, h1, e1, h2, e2, h3, e3⟩ := hlaw.rest
  refine (keepActs_any L M W w vx _ vp vc vq va lx _ l.length _ hW hlaw.lw h3 hr (by omega) hLM hM (by rw [e3]; omega)).mono ?_
  rintro e w3 ⟨va3, lx3, rfl, hW3, hh3, hl3, hf3⟩
  have F3 : Fr L [115, 27, 84] none w w3 := by
    refine (hf3.wide (T' := [115, 27, 84]) (by simp)).typed (fun k hk => ?_) none
    rcases hr.2 with ⟨h0, _⟩ | ⟨g, cap', cur, h0, hb, hh, _⟩
    · rw [h0] at hk; simp [Value.ownBlock] at hk
    · rw [h0] at hk
      simp [Value.ownBlock] at hk
      subst hk
      exact ⟨cur, _, _, hh, by simp⟩
  refine ⟨rfl, ⟨hlaw.lw, hlaw.ld, hlaw.disk.fr F3 (by decide) (by simp), vp, vc, vq, va3, lc, lq, lx3, hW3, hp.fr F3 (by decide) (by decide) (by decide), ?_, e1, ?_, e2, hh3, by rw [hl3, e3]⟩, F3⟩
  · exact (h1.fr F3 (by decide) (by decide) (by simp) (.inl rfl)).mono (Nat.le_trans hN F3.size)
  · exact (h2.fr F3 (by decide) (by decide) (by simp) (.inl rfl)).mono (Nat.le_trans hN F3.size)

/-- how files grow. -/
theorem play_size1 (d d' : DS) (x : ActP) (h : playA d x = some d') : d'.1.size + d'.2.1.size ≤ d.1.size + d.2.1.size + x.2.2.length := by
  have hz : ∀ a : ByteArray, (a ++ ⟨x.2.2.toArray⟩).size = a.size + x.2.2.length := fun a => by
    rw [ByteArray.size_append]
    rfl
  have h0 : (⟨#[]⟩ : ByteArray).size = 0 := rfl
  unfold playA at h
  split at h
  · split at h
    · cases h; simp only [hz]; omega
    · cases h
  · split at h
    · split at h
      · cases h; simp only [hz]; omega
      · cases h
    · split at h
      · cases h; simp only; omega
      · split at h
        · cases h; simp only; omega
        · split at h
          · cases h; simp only [h0]; omega
          · split at h
            · cases h; simp only [h0]; omega
            · cases h
theorem play_size (l : List ActP) : ∀ d d' : DS, playL d l = some d' → d'.1.size + d'.2.1.size ≤ d.1.size + d.2.1.size + lens l := by
  induction l with
  | nil => intro d d' h; cases h; simp [lens]
  | cons x r ih =>
    intro d d' h
    unfold playL at h
    split at h
    · rename_i e he
      have h1 := play_size1 d e x he
      have h2 := ih e d' h
      have h3 : lens (x :: r) = x.2.2.length + lens r := by simp [lens]
      omega
    · cases h

/-- the types of what a crash and Open touch. -/
def crT : List TypeId := [67, 115, 27, 84, 52, 54, 146]

/-- the World ahead of a crash: whatever it leaves is of the past. -/
structure LwC (Z L W D : Nat) (past : List Jn.Con) (d : DS) (nc nq na : Nat) (w0 w : World) : Prop where
  law : ∃ vx, LawAt L W D w.heap.size w.heap.size w vx past d nc nq na
  safe : Safe d (· ∈ past)
  size : d.1.size + d.2.1.size ≤ Z
  fr : Fr L crT none w0 w
  pow : PowAt w
  words : WordsAt w
  pL : 1 < L
/-- the World behind opened: the acts are not yet played. -/
structure Opd (Z L W D : Nat) (past : List Jn.Con) (nc nq na : Nat) (v : Value) (m : Nat) (w0 w : World) : Prop where
  is : ∃ C f d S B M, past[m]? = some C ∧ Firm d ∧ Jn.readTwo d.1.data.toList d.2.1.data.toList = some (C, f) ∧ d.1.size + d.2.1.size ≤ Z ∧ LawAt L W D w.heap.size M w (.pointer (some ⟨S, 0, none⟩)) past d nc nq na ∧ L ≤ M ∧ M ≤ w.heap.size ∧ StAt L w S B C (1 - f) ∧ ARow w M v (moveActs C f)
  fr : Fr L crT none w0 w
  pow : PowAt w
  words : WordsAt w
  pL : 1 < L
theorem LwC.low {Z L W D : Nat} {past : List Jn.Con} {d : DS} {nc nq na : Nat} {w0 w : World} (h : LwC Z L W D past d nc nq na w0 w) : Below L w0 w := h.fr.below
theorem Opd.low {Z L W D : Nat} {past : List Jn.Con} {nc nq na : Nat} {v : Value} {m : Nat} {w0 w : World} (h : Opd Z L W D past nc nq na v m w0 w) : Below L w0 w := h.fr.below
theorem LwC.below {Z L W D : Nat} {past : List Jn.Con} {d : DS} {nc nq na : Nat} {w0 w w' : World} (h : LwC Z L W D past d nc nq na w0 w) (hb : Below w.heap.size w w') : LwC Z L W D past d nc nq na w0 w' := by
  obtain ⟨vx, hl⟩ := h.law
  exact ⟨⟨vx, (hl.below hb).mono hb.size hb.size⟩, h.safe, h.size, h.fr.trans (Fr.of hb hl.low), h.pow.below h.pow.1 hb, h.words.below h.words.1 hb, h.pL⟩
theorem LwC.cell {Z L W D : Nat} {past : List Jn.Con} {d : DS} {nc nq na : Nat} {w0 w : World} (h : LwC Z L W D past d nc nq na w0 w) : w.cell? ⟨W, 1, none⟩ = some (.pointer (some ⟨D, 0, none⟩)) := by
  obtain ⟨vx, hl⟩ := h.law
  exact hl.wcell
theorem Opd.cell {Z L W D : Nat} {past : List Jn.Con} {nc nq na : Nat} {v : Value} {m : Nat} {w0 w : World} (h : Opd Z L W D past nc nq na v m w0 w) : w.cell? ⟨W, 1, none⟩ = some (.pointer (some ⟨D, 0, none⟩)) := by
  obtain ⟨C, f, d, S, B, M, -, -, -, -, hl, -⟩ := h.is
  exact hl.wcell

/-- a crash, and opened. -/
theorem crash_opened {Z L W D : Nat} {past : List Jn.Con} {d : DS} {nc nq na : Nat} {w0 w : World} (h : LwC Z L W D past d nc nq na w0 w) (x y : Int) (hx : B64' x) (hy : B64' y) (hZ : Z ≤ 1000000000000000000) (hpl : past.length ≤ 2000000000000) (bc : nc ≤ 4000000000000) (bq : nq ≤ 4000000000000) :
    Calls Tryz.prog 16 #[.pointer (some ⟨D, 0, none⟩), .int .i64 x, .int .i64 y] w fun e w1 => e = .returned (.tuple #[]) ∧ w1.cell? ⟨W, 1, none⟩ = some (.pointer (some ⟨D, 0, none⟩)) ∧
      Calls Tryz.prog 70 #[.pointer (some ⟨W, 0, none⟩), .int .i64 0] w1 fun e w2 => ∃ vo vn vk, ∃ m : Nat, m < past.length ∧ e = .returned (.tuple #[.slice vo vn vk, .int .i64 (m : Int), .bool true]) ∧ Opd Z L W D past (nc + 3) (nq + 3) na (.slice vo vn vk) m w0 w2 := by
  obtain ⟨vx, hl⟩ := h.law
  have hsz := h.size
  refine (crash_any L D w d x y hl.disk hl.ld h.safe.1 (by omega) (by omega) hx.1 hx.2 hy.1 hy.2).mono ?_
  rintro e w1 ⟨rfl, n, k, n1, n2, k1, k2, hd1, g1⟩
  obtain ⟨hfirm, C, f, hC, hrd⟩ := h.safe.crash n k n1 n2 k1 k2
  have g : Fr L [67] none w w1 := g1.weak hl.disk
  have hl1 := (hl.files hd1 g).mono g.size g.size
  have z1 : (cutDS d n k).1.size ≤ d.1.size := by show (d.1.extract 0 n).size ≤ _; rw [ext_size _ _ n2]; exact n2
  have z2 : (cutDS d n k).2.1.size ≤ d.2.1.size := by show (d.2.1.extract 0 k).size ≤ _; rw [ext_size _ _ k2]; exact k2
  have hwl : 0 < L := Nat.lt_of_le_of_lt (by decide) h.pL
  have hP1 := h.pow.below h.pL g.below
  have hW1 := h.words.below hwl g.below
  refine ⟨rfl, hl1.wcell, (opened_some L W D _ _ w1 vx past (cutDS d n k) nc nq na C f hl1 (Nat.le_refl _) (Nat.le_refl _) hC hW1 hP1 (by omega) (by omega) hrd bc bq hpl).mono ?_⟩
  rintro e w2 ⟨m, hm, ⟨S, B, v, rfl, hl2, hst, har, hb2⟩, f2⟩
  obtain ⟨vo, vk, rfl, -⟩ := har.shape
  exact ⟨vo, _, vk, m, (List.getElem?_eq_some_iff.1 hm).1, rfl, ⟨C, f, cutDS d n k, S, B, w1.heap.size, hm, hfirm, hrd, by omega, hl2, hl1.low, hb2.size, hst, har⟩, (h.fr.trans (g.wide (by simp [crT]))).trans (f2.wide (by simp [crT])), hP1.below h.pL hb2, hW1.below hwl hb2, h.pL⟩

/-- some of opened's acts, and the list is held. -/
theorem opd_part {Z L W D : Nat} {past : List Jn.Con} {nc nq na : Nat} {v : Value} {m : Nat} {w0 w : World} (h : Opd Z L W D past nc nq na v m w0 w) (c : Int) (hc : B64' c) (hna : na ≤ 4000000000000) :
    Calls Tryz.prog 71 #[.pointer (some ⟨W, 0, none⟩), v, .int .i64 c] w fun e w1 => e = .returned (.bool true) ∧
      Calls Tryz.prog 105 #[.pointer (some ⟨W, 3, none⟩), v] w1 fun e w2 => e = .returned (.tuple #[]) ∧ ∃ d', LwC (Z + 100000) L W D past d' nc nq (na + 3) w0 w2 := by
  obtain ⟨C, f, d, S, B, M, hm, hfi, hrd, hsz, hl, hLM, hM, hst, har⟩ := h.is
  have hok := hst.con.ok
  have hlen : (Jn.all C).length ≤ 100000 := Nat.le_trans (all_room hok).1 (Nat.le_trans (all_room hok).2 (by omega))
  have hmv := fun k => hfi.move hrd hok (ok_plain hok) hlen k
  refine (part_any L W D _ M w _ past d nc nq na v _ c hl har (by simp [moveActs]) (fun n => by obtain ⟨d', h1, -⟩ := hmv n; exact ⟨d', h1⟩) hc).mono ?_
  rintro e w1 ⟨rfl, n, d', hpd, hl1, g1⟩
  obtain ⟨d2, h1, hsf⟩ := hmv n
  rw [hpd] at h1
  cases h1
  have hsd : d'.1.size + d'.2.1.size ≤ Z + 100000 := by
    have := play_size _ d d' hpd
    have hls : lens ((moveActs C f).take n) ≤ (Jn.all C).length := by
      refine Nat.le_trans (lens_le _ n) ?_
      simp [lens, moveActs]
    omega
  have hwl : 0 < L := Nat.lt_of_le_of_lt (by decide) h.pL
  refine ⟨rfl, (law_keepActs L W D _ M w1 _ past d' nc nq na v _ hl1 hLM g1.size (Nat.le_trans hM g1.size) (own_fr har g1 (by decide) (.inl rfl)) (by simp [moveActs]) hna).mono ?_⟩
  rintro e w2 ⟨rfl, hl2, g2⟩
  have hb : Below L w w2 := g1.below.trans g2.below
  exact ⟨rfl, d', ⟨_, hl2⟩, hsf.mono (fun X e => e ▸ List.mem_of_getElem? hm), hsd, h.fr.trans ((g1.wide (by simp [crT])).trans (g2.wide (by simp [crT]))), h.pow.below h.pL hb, h.words.below hwl hb, h.pL⟩

/-- the World with a store whose contents last. -/
def Rest1 (L W D nc nq na : Nat) (w0 : World) (w' : World) : Prop :=
  ∃ C S B f d' nc' nq' na', nc' ≤ nc ∧ nq' ≤ nq ∧ na' ≤ na ∧ LawAt L W D w'.heap.size w'.heap.size w' (.pointer (some ⟨S, 0, none⟩)) [C] d' nc' nq' na' ∧ StAt L w' S B C f ∧ DiskOk d' f C ∧ Safe d' (· = C) ∧ d'.1.size + d'.2.1.size ≤ 30000 ∧ Fr L crT none w0 w' ∧ PowAt w' ∧ WordsAt w'
theorem opd_settles {Z L W D : Nat} {past : List Jn.Con} {nc nq na : Nat} {v : Value} {m : Nat} {w0 w : World} (h : Opd Z L W D past nc nq na v m w0 w) (hna : na ≤ 4000000000000) (hpl : past.length ≤ 2000000000000) :
    Calls Tryz.prog 73 #[.pointer (some ⟨W, 0, none⟩), v, .int .i64 (m : Int)] w fun e w' => e = .returned (.bool true) ∧ Rest1 L W D nc nq (na + 3) w0 w' := by
  obtain ⟨C, f, d, S, B, M, hm, hfi, hrd, hsz, hl, hLM, hM, hst, har⟩ := h.is
  have hok := hst.con.ok
  have hlen : (Jn.all C).length ≤ 100000 := Nat.le_trans (all_room hok).1 (Nat.le_trans (all_room hok).2 (by omega))
  obtain ⟨d', hpd, hdk, hz⟩ := DiskOk.move (d := d) (C := C) (f := f) (readTwo_file hrd) hok (ok_plain hok) hlen
  obtain ⟨d2, hp2, hsf⟩ := hfi.move hrd hok (ok_plain hok) hlen 5
  rw [show (moveActs C f).take 5 = moveActs C f from rfl, hpd] at hp2
  cases hp2
  have hr1 := (all_room hok).1
  have hr2 := (all_room hok).2
  have hwl : 0 < L := Nat.lt_of_le_of_lt (by decide) h.pL
  refine (settles_any L W D _ M m w _ past d d' nc nq na C v _ hl hLM (Nat.le_refl _) hM har (by simp [moveActs]) hpd hm hok (by omega) hna (by omega)).mono ?_
  rintro e w' ⟨rfl, hl', hf'⟩
  exact ⟨rfl, C, S, B, 1 - f, d', nc, nq, na + 3, Nat.le_refl _, Nat.le_refl _, Nat.le_refl _, hl', hst.fr hf' (by decide) (by decide) (by decide) (by simp), hdk, hsf, by omega, h.fr.trans (hf'.wide (by simp [crT])), h.pow.below h.pL hf'.below, h.words.below hwl hf'.below⟩
theorem Rest1.mono {L W D nc nq na nc' nq' na' : Nat} {w0 w' : World} (h : Rest1 L W D nc nq na w0 w') (h1 : nc ≤ nc') (h2 : nq ≤ nq') (h3 : na ≤ na') : Rest1 L W D nc' nq' na' w0 w' := by
  obtain ⟨C, S, B, f, d', a, b, c, g1, g2, g3, r⟩ := h
  exact ⟨C, S, B, f, d', a, b, c, by omega, by omega, by omega, r⟩
end Go.Proofs.YtellilpeakpbfabGreatDoor

end

section
/-
  The walk of crashes.
-/
set_option linter.unusedVariables false
namespace Go.Proofs.YtellilpeakpbfabGreatDoor
open Go.RowKit

def CsRel (Z L W D : Nat) (past : List Jn.Con) (nc nq na : Nat) (w0 : World) (va vf vok vk : Value) (wr : World) : Prop :=
  ∃ (k : Nat) (z : Int), k ≤ 2 ∧ z = (k : Int) ∧ vk = .int .i64 z ∧ vok = .bool true ∧ ∃ vo vn vc, ∃ m : Nat, va = .slice vo vn vc ∧ vf = .int .i64 (m : Int) ∧ m < past.length ∧ Opd (Z + 100000 * k) L W D past (nc + 3 * k + 3) (nq + 3 * k + 3) (na + 3 * k) (.slice vo vn vc) m w0 wr

theorem raw_lit (w : World) (v : Value) (l : List Int) (i : Nat) (z : Int) (e : z = (i : Int)) (h : Raws w v l) (hi : i ≤ 1000) :
    Calls Tryz.prog 104 #[v, .int .i64 z] w fun e w' => e = .returned (.int .i64 (rawL l i)) ∧ w' = w := by subst e; exact raw_any w v l i h hi

set_option maxHeartbeats 8000000 in
set_option maxRecDepth 100000 in
theorem crashes_any (Z L W D : Nat) (past : List Jn.Con) (d : DS) (nc nq na : Nat) (w0 w : World) (vl : Value) (l : List Int) (h : LwC Z L W D past d nc nq na w0 w) (hrs : Raws w0 vl l) (hL : L ≤ w0.heap.size) (hrl : ∀ x, Below L w0 x → Raws x vl l) (hZ : Z ≤ 900000000000000000) (hpl : past.length ≤ 2000000000000) (bc : nc ≤ 3900000000000) (bq : nq ≤ 3900000000000) (ba : na ≤ 3900000000000) :
    Calls Tryz.prog 72 #[.pointer (some ⟨W, 0, none⟩), vl] w fun e w' => e = .returned (.bool true) ∧ Rest1 L W D (nc + 9) (nq + 9) (na + 9) w0 w' := by
  have HRS := hide hrs
  have HRW := hide (fun (i : Nat) (z : Int) (e : z = (i : Int)) (hi : i ≤ 1000) x (hx : Below L w0 x) => raw_lit x vl l i z e (hrl x hx) hi)
  have hpb := Cr.pick_bd (rawL l 2) 3 (by decide)
  have hr2 := raw_b hrs 2
  have hpk := fun x => lpick_any (rawL l 2) 3 (by decide) (by decide) hr2.1 hr2.2 x
  rw [show ((3 : Nat) : Int) = 3 from rfl] at hpk
  generalize Cr.pick (rawL l 2) 3 = q at *
  have HPK := hide hpk
  obtain ⟨q0, q3⟩ := hpb
  obtain ⟨⟨ao, cap, hvl, -⟩, -, -⟩ := hrs
  subst hvl
  have k1 := h.cell
  have HRA := hide (fun x (hx : Below w.heap.size w x) => HRW.out 0 0 rfl (by omega) x (h.below hx).low)
  have HRB := hide (fun x (hx : Below w.heap.size w x) => HRW.out 1 1 rfl (by omega) x (h.below hx).low)
  have HCR := hide (fun x (hx : Below w.heap.size w x) => crash_opened (h.below hx) (rawL l 0) (rawL l 1) (raw_b HRS.out 0) (raw_b HRS.out 1) (by omega) hpl (by omega) (by omega))
  clear h hpk hr2 hrl
  go_enter Tryz.func72, Tryz.ntmps72
  go_wp2_with fail
  go_region_held3 (fun w' => w'.cell? ⟨W, 1, none⟩ = some (.pointer (some ⟨D, 0, none⟩)))
    (first | with_reducible exact k1 | with_reducible exact hkc | go_keep)
    (first | (go_at_call 104; (with_reducible refine (HRA.out _ ?hb).mono ?_); (case hb => first | exact Below.refl _ _ | exact Below.drew (Below.refl _ _)); rintro e wx ⟨rfl, rfl⟩) | (go_at_call 104; (with_reducible refine (HRB.out _ ?hb).mono ?_); (case hb => first | exact Below.refl _ _ | exact Below.drew (Below.refl _ _)); rintro e wx ⟨rfl, rfl⟩) | (go_at_call 16; refine (HCR.out _ (by first | exact Below.refl _ _ | exact Below.drew (Below.refl _ _))).mono ?_; rintro e wc ⟨rfl, hkc, hop⟩))
  have HOP := hide hop
  clear hop hkc k1 HRA HRB HCR
  go_wp2_with fail
  refine HOP.out.mono ?_
  rintro e w2 ⟨vo, vn, vk, m, hm, rfl, h2⟩
  have HR2 := hide (HRW.out 2 2 rfl (by omega) w2 h2.low)
  have HREL0 : Hid (CsRel Z L W D past nc nq na w0 (.slice vo vn vk) (.int .i64 (m : Int)) (.bool true) (.int .i64 (0 : Int)) w2) := ⟨0, 0, by omega, rfl, rfl, rfl, vo, vn, vk, m, rfl, rfl, hm, h2⟩
  clear h2 HOP
  go_wp2_with fail
  refine HR2.out.mono ?_
  rintro e wx ⟨rfl, hq⟩
  obtain rfl : w2 = wx := hq.symm
  go_wp2_with fail
  refine (HPK.out _).mono ?_
  rintro e wx ⟨rfl, hq⟩
  obtain rfl : w2 = wx := hq.symm
  clear HPK HR2
  go_wp2_with fail
  go_loopw [5, 6, 7, 9] (fun va vf vok vk wr => CsRel Z L W D past nc nq na w0 va vf vok vk wr) (fun _ _ _ k _ => 2 - (intOf k).toNat)
  case atStart => exact HREL0.out
  case round =>
    clear HREL0
    obtain ⟨k, z, hk, hz, rfl, rfl, vo, vn, vc, m, rfl, rfl, hm, hop⟩ := hrel
    have hkc : k = 0 ∨ k = 1 ∨ k = 2 := by omega
    rcases hkc with rfl | rfl | rfl
    · obtain rfl : z = 0 := by simpa using hz
      clear hz
      by_cases hq : (0 : Int) < q
      · have t1 : decide ((0 : Int) < q) = true := decide_eq_true hq
        have HPT := hide (opd_part hop (rawL l 3) (raw_b HRS.out 3) (by omega))
        have HR3 := hide (HRW.out 3 3 rfl (by omega) wr hop.low)
        obtain k0 := hop.cell
        clear hop hq
        go_wp2_with fail
        refine HR3.out.mono ?_
        rintro e wx ⟨rfl, hq⟩
        obtain rfl : wr = wx := hq.symm
        go_wp2_with fail
        refine HPT.out.mono ?_
        rintro e w3 ⟨rfl, hka⟩
        have HKA := hide hka
        clear hka HPT HR3 k0
        go_wp2_with fail
        refine HKA.out.mono ?_
        rintro e w4 ⟨rfl, d4, h4⟩
        have k1 := h4.cell
        have a1 : IntKind.i64.wrap (3 * 0) = 0 := by decide
        have a2 : IntKind.i64.wrap (4 + 0) = 4 := by decide
        have a3 : IntKind.i64.wrap (5 + 0) = 5 := by decide
        have a4 : IntKind.i64.wrap 0 = 0 := by decide
        have a5 : IntKind.i64.wrap 4 = 4 := by decide
        have a6 : IntKind.i64.wrap 5 = 5 := by decide
        have HRA := hide (fun x (hx : Below w4.heap.size w4 x) => HRW.out 4 4 rfl (by omega) x (h4.below hx).low)
        have HRB := hide (fun x (hx : Below w4.heap.size w4 x) => HRW.out 5 5 rfl (by omega) x (h4.below hx).low)
        have HCR := hide (fun x (hx : Below w4.heap.size w4 x) => crash_opened (h4.below hx) (rawL l 4) (rawL l 5) (raw_b HRS.out 4) (raw_b HRS.out 5) (by omega) hpl (by omega) (by omega))
        have HKC := hide (fun x (hx : Below w4.heap.size w4 x) => (h4.below hx).cell)
        clear h4 HKA
        go_wp2_with fail
        go_region_held3 (fun w' => w'.cell? ⟨W, 1, none⟩ = some (.pointer (some ⟨D, 0, none⟩)))
          (first | with_reducible exact k1 | with_reducible exact hkc | go_keep)
          (first | (go_at_call 104; (with_reducible refine (HRA.out _ ?hb).mono ?_); (case hb => first | exact Below.refl _ _ | exact Below.drew (Below.refl _ _)); rintro e wx ⟨rfl, rfl⟩) | (go_at_call 104; (with_reducible refine (HRB.out _ ?hb).mono ?_); (case hb => first | exact Below.refl _ _ | exact Below.drew (Below.refl _ _)); rintro e wx ⟨rfl, rfl⟩) | (go_at_call 16; refine (HCR.out _ (by first | exact Below.refl _ _ | exact Below.drew (Below.refl _ _))).mono ?_; rintro e wc ⟨rfl, hkc, hop⟩))
        have HOP := hide hop
        clear hop hkc k1 HRA HRB HCR HKC
        go_wp2_with fail
        refine HOP.out.mono ?_
        rintro e w5 ⟨vo5, vn5, vk5, m5, hm5, rfl, h5⟩
        have HREL : Hid (CsRel Z L W D past nc nq na w0 (.slice vo5 vn5 vk5) (.int .i64 (m5 : Int)) (.bool true) (.int .i64 (1 : Int)) w5) := ⟨1, 1, by omega, rfl, rfl, rfl, vo5, vn5, vk5, m5, rfl, rfl, hm5, h5⟩
        clear h5 HOP
        go_wp2_with fail
        go_roundw
        case rel => exact HREL.out
        case measure => simp [intOf]
      · have t1 : decide ((0 : Int) < q) = false := decide_eq_false hq
        have HST := hide (opd_settles hop (by omega) hpl)
        clear hop hq
        go_wp2_with fail
        refine HST.out.mono ?_
        rintro e w9 ⟨rfl, h9⟩
        have HFIN : Hid (Rest1 L W D (nc + 9) (nq + 9) (na + 9) w0 w9) := h9.mono (by omega) (by omega) (by omega)
        clear h9 HST
        go_wp2_with fail
        go_ret
        exact ⟨rfl, HFIN.out⟩
    · obtain rfl : z = 1 := by simpa using hz
      clear hz
      by_cases hq : (1 : Int) < q
      · have t1 : decide ((1 : Int) < q) = true := decide_eq_true hq
        have HPT := hide (opd_part hop (rawL l 6) (raw_b HRS.out 6) (by omega))
        have HR3 := hide (HRW.out 6 6 rfl (by omega) wr hop.low)
        obtain k0 := hop.cell
        clear hop hq
        go_wp2_with fail
        refine HR3.out.mono ?_
        rintro e wx ⟨rfl, hq⟩
        obtain rfl : wr = wx := hq.symm
        go_wp2_with fail
        refine HPT.out.mono ?_
        rintro e w3 ⟨rfl, hka⟩
        have HKA := hide hka
        clear hka HPT HR3 k0
        go_wp2_with fail
        refine HKA.out.mono ?_
        rintro e w4 ⟨rfl, d4, h4⟩
        have k1 := h4.cell
        have a1 : IntKind.i64.wrap (3 * 1) = 3 := by decide
        have a2 : IntKind.i64.wrap (4 + 3) = 7 := by decide
        have a3 : IntKind.i64.wrap (5 + 3) = 8 := by decide
        have a4 : IntKind.i64.wrap 3 = 3 := by decide
        have a5 : IntKind.i64.wrap 7 = 7 := by decide
        have a6 : IntKind.i64.wrap 8 = 8 := by decide
        have HRA := hide (fun x (hx : Below w4.heap.size w4 x) => HRW.out 7 7 rfl (by omega) x (h4.below hx).low)
        have HRB := hide (fun x (hx : Below w4.heap.size w4 x) => HRW.out 8 8 rfl (by omega) x (h4.below hx).low)
        have HCR := hide (fun x (hx : Below w4.heap.size w4 x) => crash_opened (h4.below hx) (rawL l 7) (rawL l 8) (raw_b HRS.out 7) (raw_b HRS.out 8) (by omega) hpl (by omega) (by omega))
        have HKC := hide (fun x (hx : Below w4.heap.size w4 x) => (h4.below hx).cell)
        clear h4 HKA
        go_wp2_with fail
        go_region_held3 (fun w' => w'.cell? ⟨W, 1, none⟩ = some (.pointer (some ⟨D, 0, none⟩)))
          (first | with_reducible exact k1 | with_reducible exact hkc | go_keep)
          (first | (go_at_call 104; (with_reducible refine (HRA.out _ ?hb).mono ?_); (case hb => first | exact Below.refl _ _ | exact Below.drew (Below.refl _ _)); rintro e wx ⟨rfl, rfl⟩) | (go_at_call 104; (with_reducible refine (HRB.out _ ?hb).mono ?_); (case hb => first | exact Below.refl _ _ | exact Below.drew (Below.refl _ _)); rintro e wx ⟨rfl, rfl⟩) | (go_at_call 16; refine (HCR.out _ (by first | exact Below.refl _ _ | exact Below.drew (Below.refl _ _))).mono ?_; rintro e wc ⟨rfl, hkc, hop⟩))
        have HOP := hide hop
        clear hop hkc k1 HRA HRB HCR HKC
        go_wp2_with fail
        refine HOP.out.mono ?_
        rintro e w5 ⟨vo5, vn5, vk5, m5, hm5, rfl, h5⟩
        have HREL : Hid (CsRel Z L W D past nc nq na w0 (.slice vo5 vn5 vk5) (.int .i64 (m5 : Int)) (.bool true) (.int .i64 (2 : Int)) w5) := ⟨2, 2, by omega, rfl, rfl, rfl, vo5, vn5, vk5, m5, rfl, rfl, hm5, h5⟩
        clear h5 HOP
        go_wp2_with fail
        go_roundw
        case rel => exact HREL.out
        case measure => simp [intOf]
      · have t1 : decide ((1 : Int) < q) = false := decide_eq_false hq
        have HST := hide (opd_settles hop (by omega) hpl)
        clear hop hq
        go_wp2_with fail
        refine HST.out.mono ?_
        rintro e w9 ⟨rfl, h9⟩
        have HFIN : Hid (Rest1 L W D (nc + 9) (nq + 9) (na + 9) w0 w9) := h9.mono (by omega) (by omega) (by omega)
        clear h9 HST
        go_wp2_with fail
        go_ret
        exact ⟨rfl, HFIN.out⟩
    · obtain rfl : z = 2 := by simpa using hz
      clear hz
      have t1 : decide ((2 : Int) < q) = false := decide_eq_false (by omega)
      have HST := hide (opd_settles hop (by omega) hpl)
      clear hop
      go_wp2_with fail
      refine HST.out.mono ?_
      rintro e w9 ⟨rfl, h9⟩
      have HFIN : Hid (Rest1 L W D (nc + 9) (nq + 9) (na + 9) w0 w9) := h9.mono (by omega) (by omega) (by omega)
      clear h9 HST
      go_wp2_with fail
      go_ret
      exact ⟨rfl, HFIN.out⟩
end Go.Proofs.YtellilpeakpbfabGreatDoor

end
