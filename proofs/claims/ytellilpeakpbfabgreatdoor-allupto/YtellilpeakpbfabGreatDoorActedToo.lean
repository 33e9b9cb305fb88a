import Derived.Test.YtellilpeakpbfabGreatDoorMarksToo
import Derived.Test.YtellilpeakpbfabGreatDoorStillToo
import Derived.Test.YtellilpeakpbfabGreatDoorRefCToo
import Derived.Test.YtellilpeakpbfabGreatDoorRefPToo
section
/-
  What the journal writes it reads back: numbers, entries, records; no Go text.
-/
namespace Go.Proofs.YtellilpeakpbfabGreatDoor
namespace Jn

/-- numbers. -/
theorem dec_dig (u : Nat) : ∀ c ∈ Lib.decDigits u, Ck.isDig c = true := by
  induction u using Nat.strongRecOn with
  | ind u ih =>
    intro c hc
    rw [Lib.decDigits] at hc
    split at hc
    · simp only [List.mem_singleton] at hc
      subst hc
      rw [Ck.isDig_iff]; simp; omega
    · simp only [List.mem_append, List.mem_singleton] at hc
      rcases hc with hc | hc
      · exact ih (u / 10) (by omega) c hc
      · subst hc
        rw [Ck.isDig_iff]; simp; omega
theorem dec_ne (u : Nat) : Lib.decDigits u ≠ [] := by
  rw [Lib.decDigits]; split <;> simp
theorem dv_app (l : Bytes) (c : UInt8) : digitsVal (l ++ [c]) = digitsVal l * 10 + (c.toNat - 48) := by simp [digitsVal]
theorem dec_val (u : Nat) : digitsVal (Lib.decDigits u) = u := by
  induction u using Nat.strongRecOn with
  | ind u ih =>
    rw [Lib.decDigits]
    split
    · simp [digitsVal]; omega
    · rw [dv_app, ih (u / 10) (by omega)]
      simp; omega
theorem dec_len10 (u : Nat) (h : u < 10000000000) : (Lib.decDigits u).length ≤ 10 := by
  have step : ∀ (k : Nat) (u : Nat), u < 10 ^ (k + 1) → (Lib.decDigits u).length ≤ k + 1 := by
    intro k
    induction k with
    | zero => intro u hu; rw [Lib.decDigits, dif_pos (by omega)]; simp
    | succ k ih =>
      intro u hu
      rw [Lib.decDigits]
      split
      · simp
      · have := ih (u / 10) (by rw [Nat.pow_succ] at hu; omega)
        simp; omega
  exact step 9 u (by omega)
theorem number_itoa (n : Int) (h : isVal n = true) : numberIn (Lib.itoa n) = some n := by
  have hb : -1000000000 ≤ n ∧ n ≤ 1000000000 := by unfold isVal at h; simpa using h
  unfold Lib.itoa
  by_cases hn : n < 0
  · rw [if_pos hn]
    have h1 := dec_ne n.natAbs
    have h2 := dec_len10 n.natAbs (by omega)
    have h3 := List.all_eq_true.2 (dec_dig n.natAbs)
    have h4 := dec_val n.natAbs
    generalize Lib.decDigits n.natAbs = d at *
    unfold numberIn
    simp only [List.head?_cons, decide_true, if_true, List.tail_cons]
    rw [if_neg (by rintro (e | e); exact h1 e; omega), h3]
    simp only [if_true, h4]
    congr 1; omega
  · rw [if_neg hn]
    have h1 := dec_ne n.toNat
    have h2 := dec_len10 n.toNat (by omega)
    have h3 := List.all_eq_true.2 (dec_dig n.toNat)
    have h4 := dec_val n.toNat
    have h5 : (Lib.decDigits n.toNat).head? ≠ some 45 := by
      intro e
      have := dec_dig n.toNat 45 (List.mem_of_head? e)
      rw [Ck.isDig_iff] at this
      simp at this
    generalize Lib.decDigits n.toNat = d at *
    unfold numberIn
    simp only [decide_eq_false h5, Bool.false_eq_true, if_false]
    rw [if_neg (by rintro (e | e); exact h1 e; omega), h3]
    simp only [if_true, h4]
    congr 1; omega
theorem itoa_chr (n : Int) (c : UInt8) (h : c ∈ Lib.itoa n) : c = 45 ∨ (48 ≤ c.toNat ∧ c.toNat ≤ 57) := by
  unfold Lib.itoa at h
  split at h
  · simp only [List.mem_cons] at h
    rcases h with h | h
    · exact .inl h
    · exact .inr ((Ck.isDig_iff c).1 (dec_dig _ c h))
  · exact .inr ((Ck.isDig_iff c).1 (dec_dig _ c h))
theorem itoa_no (n : Int) (m : UInt8) (h : m = 46 ∨ m = 59 ∨ m = 61) : m ∉ Lib.itoa n := by
  intro hm
  have := itoa_chr n m hm
  rcases h with rfl | rfl | rfl <;> simp at this

/-- entries. -/
def putB (k v : Int) : Bytes := 112 :: (Lib.itoa k ++ 61 :: Lib.itoa v)
def delB (k : Int) : Bytes := 100 :: Lib.itoa k
def installB (n s : Bytes) : Bytes := 105 :: (n ++ 58 :: s)
def dropB (n : Bytes) : Bytes := 114 :: n
theorem putE_B (k v : Int) : putE k v = putB k v ++ [59] := by simp [putE, putB]
theorem delE_B (k : Int) : delE k = delB k ++ [59] := by simp [delE, delB]
theorem installE_B (n s : Bytes) : installE n s = installB n s ++ [59] := by simp [installE, installB]
theorem dropE_B (n : Bytes) : dropE n = dropB n ++ [59] := by simp [dropE, dropB]
theorem putB_no (k v : Int) (m : UInt8) (h : m = 46 ∨ m = 59) : m ∉ putB k v := by
  unfold putB
  have h1 := itoa_no k m (by rcases h with h | h <;> simp [h])
  have h2 := itoa_no v m (by rcases h with h | h <;> simp [h])
  simp only [List.mem_cons, List.mem_append, not_or]
  refine ⟨?_, h1, ?_, h2⟩ <;> rcases h with rfl | rfl <;> decide
theorem delB_no (k : Int) (m : UInt8) (h : m = 46 ∨ m = 59) : m ∉ delB k := by
  unfold delB
  have h1 := itoa_no k m (by rcases h with h | h <;> simp [h])
  simp only [List.mem_cons, not_or]
  refine ⟨?_, h1⟩
  rcases h with rfl | rfl <;> decide
theorem isKey_val (k : Int) (h : isKey k = true) : isVal k = true := by
  unfold isKey at h; unfold isVal; simp at h ⊢; omega
theorem entry_cons (C : Con) (c : UInt8) (t : Bytes) : redoEntry C (c :: t) = if c = 112 then redoPut C t
    else if c = 100 then (match numberIn t with | some k => if (del C k).2 = 0 then some (del C k).1 else none | none => none)
    else if c = 105 then redoInstall C t
    else if c = 114 then (if (drop C t).2 = 0 then some (drop C t).1 else none)
    else none := rfl
theorem redo_putB (C : Con) (k v : Int) (hk : isKey k = true) (hv : isVal v = true) : redoEntry C (putB k v) = some (setC C k (some v)) := by
  unfold putB
  rw [entry_cons, if_pos rfl, redoPut, cut_mk 61 _ _ (itoa_no k 61 (by simp))]
  simp only [number_itoa k (isKey_val k hk), number_itoa v hv]
  simp [put, hk, hv]
theorem redo_delB (C : Con) (k : Int) (hk : isKey k = true) : redoEntry C (delB k) = some (setC C k none) := by
  unfold delB
  rw [entry_cons, if_neg (show ¬ (100 : UInt8) = 112 by decide), if_pos rfl, number_itoa k (isKey_val k hk)]
  simp [del, hk]
theorem name_no (n : Bytes) (h : isName n = true) (m : UInt8) (hm : m = 46 ∨ m = 59 ∨ m = 58) : m ∉ n := by
  intro hx
  unfold isName at h
  simp only [Bool.and_eq_true, List.all_eq_true] at h
  have := h.2 m hx
  rcases hm with rfl | rfl | rfl <;> simp at this
theorem redo_installB (C : Con) (n s : Bytes) (hn : isName n = true) : redoEntry C (installB n s) = if (install C n s).2.2 = 0 then some (install C n s).1 else none := by
  unfold installB
  rw [entry_cons, if_neg (show ¬ (105 : UInt8) = 112 by decide), if_neg (show ¬ (105 : UInt8) = 100 by decide), if_pos rfl, redoInstall, cut_mk 58 _ _ (name_no n hn 58 (by simp))]
theorem redo_dropB (C : Con) (n : Bytes) : redoEntry C (dropB n) = if (drop C n).2 = 0 then some (drop C n).1 else none := by
  unfold dropB
  rw [entry_cons, if_neg (show ¬ (114 : UInt8) = 112 by decide), if_neg (show ¬ (114 : UInt8) = 100 by decide), if_neg (show ¬ (114 : UInt8) = 105 by decide), if_pos rfl]

/-- one entry, one record. -/
theorem pieces_one (m : UInt8) (b : Bytes) (h : m ∉ b) : pieces m (b ++ [m]) = ([b], []) := pieces_mk m b [] h
theorem redo_one (C : Con) (b : Bytes) (h : 59 ∉ b) : redo C (b ++ [59]) = redoEntry C b := by
  unfold redo
  rw [pieces_one 59 b h]
  simp only [if_true, redoAll]
  cases redoEntry C b <;> rfl

/-- A file that is whole tells contents. -/
def Tells (f : Bytes) (C : Con) : Prop := (pieces 46 f).2 = [] ∧ (pieces 46 f).1 ≠ [] ∧ redoRecs none0 (pieces 46 f).1 = some C
theorem recs_app (a b : List Bytes) : ∀ C, redoRecs C (a ++ b) = match redoRecs C a with | some D => redoRecs D b | none => none := by
  induction a with
  | nil => intro C; rfl
  | cons e r ih =>
    intro C
    rw [List.cons_append, redoRecs, redoRecs]
    cases redo C e with
    | none => rfl
    | some D => exact ih D
theorem Tells.step {f : Bytes} {C D : Con} {es : Bytes} (h : Tells f C) (hn : 46 ∉ es) (hr : redo C es = some D) : Tells (f ++ record es) D := by
  obtain ⟨h1, h2, h3⟩ := h
  have e : pieces 46 (f ++ record es) = ((pieces 46 f).1 ++ [es], []) := by
    rw [pieces_app 46 f _ h1]
    unfold record
    rw [pieces_one 46 es hn]
  refine ⟨by rw [e], by rw [e]; simp, ?_⟩
  rw [e]
  show redoRecs none0 ((pieces 46 f).1 ++ [es]) = some D
  rw [recs_app, h3]
  simp only [redoRecs, hr]
theorem Tells.read {f : Bytes} {C : Con} (h : Tells f C) : readFile f = some (C, true) := by
  unfold readFile
  rw [h.2.2]
  simp only [Option.map_some, h.2.1, ne_eq, not_false_eq_true, decide_true]
theorem Tells.two0 {f : Bytes} {C : Con} (h : Tells f C) : readTwo f [] = some (C, 0) := by
  unfold readTwo
  rw [h.read]
  rfl
theorem Tells.two1 {f : Bytes} {C : Con} (h : Tells f C) : readTwo [] f = some (C, 1) := by
  unfold readTwo
  rw [h.read]
  rfl

/-- all that there is. -/
theorem redoAll_app (a b : List Bytes) : ∀ C, redoAll C (a ++ b) = match redoAll C a with | some D => redoAll D b | none => none := by
  induction a with
  | nil => intro C; rfl
  | cons e r ih =>
    intro C
    rw [List.cons_append, redoAll, redoAll]
    cases redoEntry C e with
    | none => rfl
    | some D => exact ih D
theorem cells_pieces (l : List (Int × Int)) (r : Bytes) : pieces 59 (cellsE l ++ r) = (l.map (fun p => putB p.1 p.2) ++ (pieces 59 r).1, (pieces 59 r).2) := by
  induction l with
  | nil => rfl
  | cons p t ih =>
    have e : cellsE (p :: t) ++ r = putB p.1 p.2 ++ 59 :: (cellsE t ++ r) := by
      simp [cellsE, putE_B]
    rw [e, pieces_mk 59 _ _ (putB_no p.1 p.2 59 (by simp)), ih]
    rfl
theorem procs_pieces (l : List (Bytes × Bytes)) (h : ∀ p ∈ l, 59 ∉ installB p.1 p.2) : pieces 59 (procsE l) = (l.map (fun p => installB p.1 p.2), []) := by
  induction l with
  | nil => rfl
  | cons p t ih =>
    have e : procsE (p :: t) = installB p.1 p.2 ++ 59 :: (procsE t) := by
      simp [procsE, installE_B]
    rw [e, pieces_mk 59 _ _ (h p (by simp)), ih (fun q hq => h q (by simp [hq]))]
    rfl
theorem redo_cells (cs : List (Option Int)) : ∀ (A Z : List (Option Int)) (ps : List (Bytes × Bytes)), A.length + cs.length ≤ 100 → (∀ o ∈ cs, ∀ v, o = some v → isVal v = true) →
    redoAll ⟨A ++ List.replicate cs.length none ++ Z, ps⟩ ((listFrom A.length cs).map fun p => putB p.1 p.2) = some ⟨A ++ cs ++ Z, ps⟩ := by
  induction cs with
  | nil => intro A Z ps _ _; simp [listFrom, redoAll]
  | cons o r ih =>
    intro A Z ps hl hv
    have hl' : A.length + 1 + r.length ≤ 100 := by simp at hl; omega
    have ih' := fun x => ih (A ++ [x]) Z ps (by simp; omega) (fun q hq => hv q (by simp [hq]))
    have ea : ∀ x : Option Int, (A ++ [x]).length = A.length + 1 := fun x => by simp
    cases o with
    | none =>
      have := ih' none
      rw [ea] at this
      simp only [listFrom, List.length_cons, List.replicate_succ]
      simpa using this
    | some v =>
      have := ih' (some v)
      rw [ea] at this
      have hk : isKey (A.length : Int) = true := by unfold isKey; simp at hl ⊢; omega
      simp only [listFrom, List.map_cons, redoAll]
      rw [redo_putB _ _ v hk (hv _ (by simp) v rfl)]
      have e : setC ⟨A ++ List.replicate (some v :: r).length none ++ Z, ps⟩ (A.length : Int) (some v) = ⟨A ++ [some v] ++ List.replicate r.length none ++ Z, ps⟩ := by
        simp only [setC, Int.toNat_natCast, List.length_cons, List.replicate_succ]
        congr 1
        simp
      simp only [e]
      simpa using this
theorem others_self (ps : List (Bytes × Bytes)) (n : Bytes) (h : ∀ p ∈ ps, ltB p.1 n = true) : others ps n = ps := by
  unfold others
  rw [List.filter_eq_self]
  intro p hp
  have := h p hp
  simp only [bne_iff_ne, ne_eq]
  intro e
  rw [e, ltB_irr] at this; cases this
theorem insert_end (ps : List (Bytes × Bytes)) (q : Bytes × Bytes) (h : ∀ p ∈ ps, ltB p.1 q.1 = true) : insertP ps q = ps ++ [q] := by
  induction ps with
  | nil => rfl
  | cons a r ih =>
    unfold insertP
    rw [if_pos (h a (by simp)), ih (fun p hp => h p (by simp [hp]))]
    rfl
theorem redo_procs (cells : List (Option Int)) (ps : List (Bytes × Bytes)) : ∀ (A : List (Bytes × Bytes)), A.length + ps.length ≤ 8 → (A ++ ps).Pairwise (fun p q => ltB p.1 q.1 = true) → (∀ p ∈ ps, isName p.1 = true ∧ (Ck.read p.2).2 = 0) →
    redoAll ⟨cells, A⟩ (ps.map fun p => installB p.1 p.2) = some ⟨cells, A ++ ps⟩ := by
  induction ps with
  | nil => intro A _ _ _; simp [redoAll]
  | cons q r ih =>
    intro A hl hs hp
    have hA : ∀ p ∈ A, ltB p.1 q.1 = true := fun p hpA => (List.pairwise_append.1 hs).2.2 p hpA q (by simp)
    have h1 := hp q (by simp)
    simp only [List.map_cons, redoAll]
    rw [redo_installB _ _ _ h1.1]
    have e : install ⟨cells, A⟩ q.1 q.2 = (⟨cells, A ++ [q]⟩, 0, 0) := by
      unfold install
      simp only [others_self A q.1 hA]
      rw [if_neg (by rw [h1.1]; simp), if_neg (by simpa using h1.2), if_neg (by simp at hl; omega), insert_end A (q.1, q.2) hA]
    rw [e]
    simp only [if_true]
    have := ih (A ++ [q]) (by simp at hl ⊢; omega) (by simpa using hs) (fun p hpr => hp p (by simp [hpr]))
    simpa using this
/-- a source holds neither of the marks. -/
def Plain (s : Bytes) : Prop := 46 ∉ s ∧ 59 ∉ s
theorem installB_no (n s : Bytes) (m : UInt8) (hm : m = 46 ∨ m = 59) (hn : isName n = true) (hs : m ∉ s) : m ∉ installB n s := by
  unfold installB
  simp only [List.mem_cons, List.mem_append, not_or]
  refine ⟨?_, name_no n hn m (by rcases hm with h | h <;> simp [h]), ?_, hs⟩ <;> rcases hm with rfl | rfl <;> decide
theorem mem_cellsE (l : List (Int × Int)) (m : UInt8) (hm : m = 46) : m ∉ cellsE l := by
  unfold cellsE
  intro h
  obtain ⟨p, _, h⟩ := List.mem_flatMap.1 h
  rw [putE_B] at h
  rcases List.mem_append.1 h with h | h
  · exact putB_no p.1 p.2 m (.inl hm) h
  · subst hm; simp at h
theorem mem_procsE (l : List (Bytes × Bytes)) (h : ∀ p ∈ l, 46 ∉ installB p.1 p.2) : 46 ∉ procsE l := by
  unfold procsE
  intro g
  obtain ⟨p, hp, g⟩ := List.mem_flatMap.1 g
  rw [installE_B] at g
  rcases List.mem_append.1 g with g | g
  · exact h p hp g
  · simp at g
theorem tells_all (C : Con) (h : Ok C) (hp : ∀ p ∈ C.procs, Plain p.2) : Tells (all C) C := by
  have hB : ∀ p ∈ C.procs, ∀ m, (m = 46 ∨ m = 59) → m ∉ installB p.1 p.2 := by
    intro p hpm m hm
    refine installB_no _ _ m hm (h.prc p hpm).1 ?_
    rcases hm with rfl | rfl
    · exact (hp p hpm).1
    · exact (hp p hpm).2
  have hno : 46 ∉ cellsE C.list ++ procsE C.procs := by
    simp only [List.mem_append, not_or]
    exact ⟨mem_cellsE _ 46 rfl, mem_procsE _ (fun p hpm => hB p hpm 46 (.inl rfl))⟩
  have e : pieces 46 (all C) = ([cellsE C.list ++ procsE C.procs], []) := pieces_one 46 _ hno
  refine ⟨by rw [e], by rw [e]; simp, ?_⟩
  rw [e]
  have hr : redo none0 (cellsE C.list ++ procsE C.procs) = some C := by
    unfold redo
    rw [cells_pieces, procs_pieces C.procs (fun p hpm => hB p hpm 59 (.inr rfl))]
    simp only [if_true]
    rw [redoAll_app]
    have h1 := redo_cells C.cells [] [] [] (by simp [h.len]) h.val
    simp only [List.nil_append, List.append_nil, List.length_nil, h.len] at h1
    have h2 : redoAll none0 (List.map (fun p => putB p.fst p.snd) C.list) = some ⟨C.cells, []⟩ := h1
    rw [h2]
    have h3 := redo_procs C.cells C.procs [] (by simpa using h.cnt) (by simpa using h.srt) h.prc
    simpa using h3
  simp only [redoRecs, hr]
end Jn
end Go.Proofs.YtellilpeakpbfabGreatDoor

end

section
/-
  What a script's world holds, and the walks of now and of Size.
-/
namespace Go.Proofs.YtellilpeakpbfabGreatDoor
open Go.RowKit

/-- The contents behind each change: two lists each. -/
def PastAt (L : Nat) (w : World) (vp : Value) (past : List Jn.Con) : Prop :=
  ∃ ss : List (Value × Value), w.ownsRow L 146 2 vp past.length (pairs ss) ∧ ss.length = past.length ∧
    ∀ (i : Nat) (s : Value × Value) (C : Jn.Con), ss[i]? = some s → past[i]? = some C → CRow w 0 s.1 C.list ∧ PRow w 0 s.2 C.procs ∧ Jn.Ok C
theorem PastAt.fr {L : Nat} {T : List TypeId} {w w' : World} {vp : Value} {past : List Jn.Con} (h : PastAt L w vp past) (f : Fr L T none w w') (h1 : 146 ∉ T) (h2 : 99 ∉ T) (h3 : 89 ∉ T) : PastAt L w' vp past := by
  obtain ⟨ss, hr, hl, hc⟩ := h
  exact ⟨ss, own_fr hr f h1 (.inl rfl), hl, fun i s C hs hC => ⟨own_fr (hc i s C hs hC).1 f h2 (.inl rfl), own_fr (hc i s C hs hC).2.1 f h3 (.inl rfl), (hc i s C hs hC).2.2⟩⟩

/-- The script's world: all but the store; the lists that are kept lie below block N. -/
structure LawAt (L W D N M : Nat) (w : World) (vx : Value) (past : List Jn.Con) (d : ByteArray × ByteArray × Int × Int) (nc nq na : Nat) : Prop where
  lw : L ≤ W
  ld : L ≤ D
  disk : DAt w D d.1 d.2.1 d.2.2.1 d.2.2.2
  rest : ∃ vp vc vq va lc lq lx, WAt w W vx (.pointer (some ⟨D, 0, none⟩)) vp vc vq va ∧ PastAt L w vp past ∧
    HoldRow L N w 99 52 mkC vc lc ∧ lc.length = nc ∧
    HoldRow L N w 89 54 mkP vq lq ∧ lq.length = nq ∧
    HoldRow L M w 84 27 mkA va lx ∧ lx.length = na
theorem LawAt.fr {L W D N M : Nat} {w w' : World} {vx : Value} {past : List Jn.Con} {d : ByteArray × ByteArray × Int × Int} {nc nq na : Nat} {T : List TypeId} (h : LawAt L W D N M w vx past d nc nq na) (f : Fr L T none w w')
    (hT : ∀ t, t ∈ T → t = 78 ∨ t = 123) : LawAt L W D N M w' vx past d nc nq na := by
  obtain ⟨vp, vc, vq, va, lc, lq, lx, hW, hp, h1, e1, h2, e2, h3, e3⟩ := h.rest
  have no : ∀ t, t ≠ 78 → t ≠ 123 → t ∉ T := fun t x y hm => (hT t hm).elim x y
  refine ⟨h.lw, h.ld, h.disk.fr f (no _ (by decide) (by decide)) (by simp), vp, vc, vq, va, lc, lq, lx, hW.fr f (no _ (by decide) (by decide)) (by simp), hp.fr f (no _ (by decide) (by decide)) (no _ (by decide) (by decide)) (no _ (by decide) (by decide)), ?_, e1, ?_, e2, ?_, e3⟩
  · exact h1.fr f (no _ (by decide) (by decide)) (no _ (by decide) (by decide)) (by simp) (.inl rfl)
  · exact h2.fr f (no _ (by decide) (by decide)) (no _ (by decide) (by decide)) (by simp) (.inl rfl)
  · exact h3.fr f (no _ (by decide) (by decide)) (no _ (by decide) (by decide)) (by simp) (.inl rfl)
theorem LawAt.mono {L W D N N' M M' : Nat} {w : World} {vx : Value} {past : List Jn.Con} {d : ByteArray × ByteArray × Int × Int} {nc nq na : Nat} (h : LawAt L W D N M w vx past d nc nq na) (hN : N ≤ N') (hM : M ≤ M') : LawAt L W D N' M' w vx past d nc nq na := by
  obtain ⟨vp, vc, vq, va, lc, lq, lx, hW, hp, h1, e1, h2, e2, h3, e3⟩ := h.rest
  exact ⟨h.lw, h.ld, h.disk, vp, vc, vq, va, lc, lq, lx, hW, hp, h1.mono hN, e1, h2.mono hN, e2, h3.mono hM, e3⟩
theorem LawAt.low {L W D N M : Nat} {w : World} {vx : Value} {past : List Jn.Con} {d : ByteArray × ByteArray × Int × Int} {nc nq na : Nat} (h : LawAt L W D N M w vx past d nc nq na) : L ≤ w.heap.size := Nat.le_trans h.ld (Nat.le_of_lt h.disk.lt)
theorem LawAt.below {L W D N M : Nat} {w w' : World} {vx : Value} {past : List Jn.Con} {d : ByteArray × ByteArray × Int × Int} {nc nq na : Nat} (h : LawAt L W D N M w vx past d nc nq na) (f : Below w.heap.size w w') : LawAt L W D N M w' vx past d nc nq na :=
  h.fr (T := []) (Fr.of f h.low) (by simp)

set_option maxHeartbeats 2000000 in
set_option maxRecDepth 100000 in
theorem now_any (L W : Nat) (w : World) (vx vd vp vc vq va : Value) (past : List Jn.Con) (C : Jn.Con) (hW : WAt w W vx vd vp vc vq va) (hp : PastAt L w vp past) (hC : past[past.length - 1]? = some C) (hb : past.length ≤ 9000000000000) :
    Calls Tryz.prog 113 #[.pointer (some ⟨W, 0, none⟩)] w fun e w' => ∃ sc sp, e = .returned (.agg #[sc, sp]) ∧ CRow w' 0 sc C.list ∧ PRow w' 0 sp C.procs ∧ Below w.heap.size w w' := by
  obtain ⟨ss, hr, hl, hcc⟩ := hp
  have hn : 0 < past.length := by
    cases past with
    | nil => simp at hC
    | cons x r => simp
  obtain ⟨s, hs⟩ : ∃ s, ss[past.length - 1]? = some s := ⟨ss[past.length - 1]'(by omega), by simp [show past.length - 1 < ss.length by omega]⟩
  obtain ⟨hcr, hpr, -⟩ := hcc _ _ _ hs hC
  have hr' : w.ownsRow L 146 2 vp ss.length (pairs ss) := by rw [hl]; exact hr
  obtain ⟨ao, cap, hv, hsh⟩ := pair_shape hr'
  obtain ⟨g, cur, rfl, -, hg, hcs⟩ := hsh (by omega)
  obtain ⟨d0, d1⟩ := hcs _ _ hs
  obtain ⟨-, -, c2, -, -, -⟩ := hW.cell
  rw [hv, hl] at c2
  have hlt := hW.lt
  have hgl := (Array.getElem?_eq_some_iff.1 hg).1
  obtain ⟨s1, s2⟩ := s
  obtain ⟨so, sk, hs1⟩ := crow_slice hcr
  obtain ⟨po, pk, hs2, -⟩ := hpr.shape
  simp only at hs1 hs2
  subst hs1 hs2
  obtain ⟨n, hn1⟩ : ∃ n, past.length = n + 1 := ⟨past.length - 1, by omega⟩
  rw [hn1] at c2 d0 d1 hb
  simp only [Nat.add_sub_cancel] at d0 d1
  have HC := hide hcr
  have HP := hide hpr
  clear hcc hr hr' hsh hcs hs hC hcr hpr hn hg
  go_enter Tryz.func113, Tryz.ntmps113
  go_wp2
  go_region
  all_goals go_wp2
  all_goals
    have hbb := Below.drew ((Below.refl w.heap.size w).alloc (Nat.le_refl _) (.cells #[.slice so C.list.length sk, .slice po C.procs.length pk] 146))
    exact bodyPost_ret (v := .agg #[.slice so C.list.length sk, .slice po C.procs.length pk]) (by simp [results, Tryz.results113, go_sem]) rfl ⟨_, _, rfl, HC.out.below hbb, HP.out.below hbb, hbb⟩

set_option maxHeartbeats 1000000 in
theorem size_any (D : Nat) (a b : ByteArray) (la lb : Int) (w : World) (h : DAt w D a b la lb) (ha : a.size ≤ 1152921504606846976) (hb : b.size ≤ 1152921504606846976) :
    Calls Tryz.prog 27 #[.pointer (some ⟨D, 0, none⟩)] w fun e w' => e = .returned (.int .i64 ((a.size : Int) + (b.size : Int))) ∧ Below w.heap.size w w' := by
  obtain ⟨c0, c1, -, -⟩ := h.cell
  clear h
  go_enter Tryz.func27, Tryz.ntmps27
  go_wp2
  go_quiet (fail)
  go_wp2
  go_ret
  exact ⟨rfl, below_drewN (Below.refl _ _) _⟩

/-- the files behind an act. -/
abbrev DS := ByteArray × ByteArray × Int × Int
def playA (d : DS) (x : ActP) : Option DS :=
  if x.1 = 1 ∧ x.2.1 = 0 then (if d.1.size + x.2.2.length ≤ 1152921504606846976 then some (d.1 ++ ⟨x.2.2.toArray⟩, d.2.1, d.2.2.1, d.2.2.2) else none)
  else if x.1 = 1 ∧ x.2.1 = 1 then (if d.2.1.size + x.2.2.length ≤ 1152921504606846976 then some (d.1, d.2.1 ++ ⟨x.2.2.toArray⟩, d.2.2.1, d.2.2.2) else none)
  else if x = (2, 0, []) then some (d.1, d.2.1, d.1.size, d.2.2.2)
  else if x = (2, 1, []) then some (d.1, d.2.1, d.2.2.1, d.2.1.size)
  else if x = (3, 0, []) then some (⟨#[]⟩, d.2.1, 0, d.2.2.2)
  else if x = (3, 1, []) then some (d.1, ⟨#[]⟩, d.2.2.1, 0)
  else none
def playL (d : DS) : List ActP → Option DS
  | [] => some d
  | x :: r => match playA d x with | some e => playL e r | none => none
abbrev DsAt (w : World) (D : Nat) (d : DS) : Prop := DAt w D d.1 d.2.1 d.2.2.1 d.2.2.2

theorem play_any (L D : Nat) (d d' : DS) (x : ActP) (w : World) (h : DsAt w D d) (hL : L ≤ D) (hp : playA d x = some d') :
    Calls Tryz.prog 38 #[.pointer (some ⟨D, 0, none⟩), .agg #[.int .i64 x.1, .int .i64 x.2.1, T x.2.2]] w fun e w' => e = .returned (.bool true) ∧ DsAt w' D d' ∧ Fr L [] (some D) w w' := by
  obtain ⟨a, b, la, lb⟩ := d
  obtain ⟨k, f, s⟩ := x
  unfold playA at hp
  simp only at hp
  split at hp
  · rename_i hkf
    obtain ⟨rfl, rfl⟩ := hkf
    split at hp
    · rename_i hs
      cases hp
      exact play_app0 L D w a b ⟨s.toArray⟩ la lb h hL hs
    · cases hp
  · split at hp
    · rename_i hkf
      obtain ⟨rfl, rfl⟩ := hkf
      split at hp
      · rename_i hs
        cases hp
        exact play_app1 L D w a b ⟨s.toArray⟩ la lb h hL hs
      · cases hp
    · split at hp
      · rename_i hx
        cases hx; cases hp
        exact play_syn0 L D w a b la lb h hL
      · split at hp
        · rename_i hx
          cases hx; cases hp
          exact play_syn1 L D w a b la lb h hL
        · split at hp
          · rename_i hx
            cases hx; cases hp
            exact play_era0 L D w a b la lb h hL
          · split at hp
            · rename_i hx
              cases hx; cases hp
              exact play_era1 L D w a b la lb h hL
            · cases hp

theorem acts3_at (l : List ActP) : ∀ (k : Nat) (p : ActP), l[k]? = some p → (acts3 l)[k * 3]? = some (.int .i64 p.1) ∧ (acts3 l)[k * 3 + 1]? = some (.int .i64 p.2.1) ∧ (acts3 l)[k * 3 + 2]? = some (T p.2.2) := by
  induction l with
  | nil => intro k p h; simp at h
  | cons q r ih =>
    intro k p h
    cases k with
    | zero => simp at h; subst h; simp [acts3]
    | succ k =>
      have := ih k p (by simpa using h)
      have e : acts3 (q :: r) = .int .i64 q.1 :: .int .i64 q.2.1 :: T q.2.2 :: acts3 r := rfl
      rw [e]
      rw [show (k + 1) * 3 = k * 3 + 1 + 1 + 1 by omega, show k * 3 + 1 + 1 + 1 + 1 = (k * 3 + 1) + 1 + 1 + 1 by omega, show k * 3 + 1 + 1 + 1 + 2 = (k * 3 + 2) + 1 + 1 + 1 by omega]
      simpa using this
theorem ARow.shape {w : World} {b : Nat} {v : Value} {l : List ActP} (h : ARow w b v l) :
    ∃ ao cap, v = .slice ao l.length cap ∧ (0 < l.length → ∃ g cur, ao = some ⟨g, 0, none⟩ ∧ b ≤ g ∧ w.heap[g]? = some (.cells cur 84 (0, 0)) ∧ ∀ (j : Nat) (p : ActP), l[j]? = some p → w.cell? ⟨g, j * 3, none⟩ = some (.int .i64 p.1) ∧ w.cell? ⟨g, j * 3 + 1, none⟩ = some (.int .i64 p.2.1) ∧ w.cell? ⟨g, j * 3 + 2, none⟩ = some (T p.2.2)) := by
  have h0 := h
  rcases h.2 with ⟨rfl, hn⟩ | ⟨g, cap, cur, rfl, hg, hh, hcap, hm, hsz, htake⟩
  · exact ⟨none, 0, by rw [hn], fun hp => by omega⟩
  · refine ⟨_, cap, rfl, fun _ => ⟨g, cur, rfl, hg, hh, fun j p hj => ?_⟩⟩
    obtain ⟨c1, c2, c3⟩ := acts3_at l j p hj
    have a1 := World.ownsRow.cells h0 (g := g) rfl (j * 3) _ c1
    have a2 := World.ownsRow.cells h0 (g := g) rfl (j * 3 + 1) _ c2
    have a3 := World.ownsRow.cells h0 (g := g) rfl (j * 3 + 2) _ c3
    simp only [Addr.add_lit, Nat.zero_add] at a1 a2 a3
    exact ⟨a1, a2, a3⟩
theorem ARow.fr {L : Nat} {T : List TypeId} {X : Option Nat} {w w' : World} {b : Nat} {v : Value} {l : List ActP} (h : ARow w b v l) (f : Fr L T X w w') (ht : 84 ∉ T) (hX : X = none ∨ X ≠ v.ownBlock) : ARow w' b v l := own_fr h f ht hX

def AlRel (L D : Nat) (w : World) (l : List ActP) (o : Option DS) (i : Value) (wr : World) : Prop :=
  ∃ (k : Nat) (d : DS), k ≤ l.length ∧ i = .int .i64 k ∧ DsAt wr D d ∧ playL d (l.drop k) = o ∧ Fr L [] (some D) w wr

set_option maxHeartbeats 2000000 in
set_option maxRecDepth 100000 in
theorem allD_own (L D b : Nat) (d d' : DS) (v : Value) (l : List ActP) (w : World) (h : DsAt w D d) (hL : L ≤ D) (hr : ARow w b v l) (hl : l.length ≤ 1000) (hp : playL d l = some d') :
    Calls Tryz.prog 14 #[.pointer (some ⟨D, 0, none⟩), v] w fun e w' => e = .returned (.bool true) ∧ DsAt w' D d' ∧ Fr L [] (some D) w w' := by
  obtain ⟨ao, cap, rfl, hcs⟩ := hr.shape
  have HC := hide hcs
  have HD0 := hide (show w.heap[D]? = _ from h)
  have HS : Hid (AlRel L D w l (some d') (.int .i64 (0 : Int)) w) := ⟨0, d, Nat.zero_le _, rfl, h, by simpa using hp, Fr.refl _ _ _ _⟩
  clear hcs hr hp h
  go_enter Tryz.func14, Tryz.ntmps14
  go_wp2
  go_loopw [5] (fun i wr => AlRel L D w l (some d') i wr) (fun i _ => l.length - (intOf i).toNat)
  case atStart => exact HS.out
  case round =>
    obtain ⟨k, e, hk, rfl, hd, hpl, hfr⟩ := hrel
    have HD := hide hd
    have HPL := hide hpl
    have HF := hide hfr
    clear hd hpl hfr HS
    by_cases hlt : k < l.length
    · obtain ⟨g, cur, rfl, -, hg, hcs⟩ := HC.out (by omega)
      obtain ⟨p, hp⟩ : ∃ p, l[k]? = some p := ⟨l[k], by simp [hlt]⟩
      obtain ⟨c1, c2, c3⟩ := hcs k p hp
      have hgr := HF.out.block g cur _ _ hg (by simp) (fun e => by cases e; exact absurd (HD0.out.symm.trans hg) (by simp))
      have tr : ∀ j u, w.cell? ⟨g, j, none⟩ = some u → wr.cell? ⟨g, j, none⟩ = some u := fun j u h => by
        rw [cell_of_row wr g j cur _ _ hgr, ← cell_of_row w g j cur _ _ hg]; exact h
      have d1 := tr _ _ c1
      have d2 := tr _ _ c2
      have d3 := tr _ _ c3
      have hdr : l.drop k = p :: l.drop (k + 1) := by rw [List.drop_eq_getElem_cons hlt, (List.getElem?_eq_some_iff.1 hp).2]
      obtain ⟨e', he', hpl'⟩ : ∃ e', playA e p = some e' ∧ playL e' (l.drop (k + 1)) = some d' := by
        have := HPL.out
        rw [hdr, playL] at this
        cases hx : playA e p with
        | none => rw [hx] at this; cases this
        | some e' => rw [hx] at this; exact ⟨e', rfl, this⟩
      have HPY := hide (play_any L D e e' p wr HD.out hL he')
      have HPL2 := hide hpl'
      clear hcs c1 c2 c3 hp hgr tr hdr he' hpl' hg HPL
      obtain ⟨p1, p2, p3⟩ := p
      simp only [T] at d3
      go_wp2_with fail
      refine HPY.out.mono ?_
      rintro e1 w1 ⟨rfl, hd1, hf1⟩
      have HR : Hid (AlRel L D w l (some d') (.int .i64 ((k : Int) + 1)) w1) := ⟨k + 1, e', by omega, by go_num, hd1, HPL2.out, HF.out.trans hf1⟩
      clear hd1 hf1 HPY
      go_wp2
      go_roundw
      case rel => exact HR.out
      case measure => simp [intOf]; omega
    · have HE : Hid (e = d') := by
        show _ = _
        have := HPL.out
        rw [List.drop_eq_nil_of_le (by omega)] at this
        exact Option.some.inj this
      go_wp2
      go_ret
      exact ⟨rfl, by rw [← HE.out]; exact HD.out, HF.out⟩
theorem allD_any (L D b : Nat) (d d' : DS) (v : Value) (l : List ActP) (w : World) (h : DsAt w D d) (hL : L ≤ D) (hr : ARow w b v l) (hl : l.length ≤ 1000) (hp : playL d l = some d') :
    Calls Tryz.prog 14 #[.pointer (some ⟨D, 0, none⟩), v] w fun e w' => e = .returned (.bool true) ∧ DsAt w' D d' ∧ Fr L [67] none w w' :=
  (allD_own L D b d d' v l w h hL hr hl hp).mono fun _ _ ⟨h1, h2, h3⟩ => ⟨h1, h2, h3.weak h⟩
end Go.Proofs.YtellilpeakpbfabGreatDoor

end

section
/-
  The walk of acted, without a crash.
-/
namespace Go.Proofs.YtellilpeakpbfabGreatDoor
open Go.RowKit

/-- A step. -/
structure OpD where
  kind : Int
  n : Int
  m : Int
  s : ByteArray
  t : ByteArray
  lo : Option Addr
  ln : Nat
  lc : Nat
  cut : Int
  wo : Option Addr
  wn : Nat
  wc : Nat
def OpD.cells (o : OpD) : Array Value := #[.int .i64 o.kind, .int .i64 o.n, .int .i64 o.m, .string o.s, .string o.t, .slice o.lo o.ln o.lc, .int .i64 o.cut, .slice o.wo o.wn o.wc]

def lens (l : List ActP) : Nat := (l.map fun a => a.2.2.length).sum
theorem lens_take (l : List ActP) (k : Nat) (p : ActP) (h : l[k]? = some p) : lens (l.take (k + 1)) = lens (l.take k) + p.2.2.length := by
  have hk := (List.getElem?_eq_some_iff.1 h).1
  have e := (List.getElem?_eq_some_iff.1 h).2
  unfold lens
  rw [List.take_succ_eq_append_getElem hk, e]
  simp
theorem lens_app (a b : List ActP) : lens (a ++ b) = lens a + lens b := by simp [lens]
theorem lens_le (l : List ActP) (k : Nat) : lens (l.take k) ≤ lens l := by
  have := lens_app (l.take k) (l.drop k)
  rw [List.take_append_drop] at this
  omega

def AcRel (l : List ActP) (n i : Value) : Prop := ∃ k : Nat, k ≤ l.length ∧ i = .int .i64 k ∧ n = .int .i64 (lens (l.take k))

end Go.Proofs.YtellilpeakpbfabGreatDoor

end
