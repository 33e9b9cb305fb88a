import Derived.Test.YtellilpeakpbfaaGreatDoorFramToo
/-
  What the journal writes it reads back: numbers, entries, records; no Go text.
-/
namespace Go.Proofs.YtellilpeakpbfaaGreatDoor
namespace Jn

/-- numbers. -/
theorem dec_dig (u : Nat) : ∀ c ∈ Lib.decDigits u, Ck.isDig c = true := by
  induction u using Nat.strongRecOn with
  | ind u ih =>
    intro c hc
    rw [Lib.decDigits] at hc
    split at hc
    · simp only [List.mem_singleton] at hc
      subst hc
      rw [Ck.isDig_iff]; simp; omega
    · simp only [List.mem_append, List.mem_singleton] at hc
      rcases hc with hc | hc
      · exact ih (u / 10) (by omega) c hc
      · subst hc
        rw [Ck.isDig_iff]; simp; omega
theorem dec_ne (u : Nat) : Lib.decDigits u ≠ [] := by
  rw [Lib.decDigits]; split <;> simp
theorem dv_app (l : Bytes) (c : UInt8) : digitsVal (l ++ [c]) = digitsVal l * 10 + (c.toNat - 48) := by simp [digitsVal]
theorem dec_val (u : Nat) : digitsVal (Lib.decDigits u) = u := by
  induction u using Nat.strongRecOn with
  | ind u ih =>
    rw [Lib.decDigits]
    split
    · simp [digitsVal]; omega
    · rw [dv_app, ih (u / 10) (by omega)]
      simp; omega
theorem dec_len10 (u : Nat) (h : u < 10000000000) : (Lib.decDigits u).length ≤ 10 := by
  have step : ∀ (k : Nat) (u : Nat), u < 10 ^ (k + 1) → (Lib.decDigits u).length ≤ k + 1 := by
    intro k
    induction k with
    | zero => intro u hu; rw [Lib.decDigits, dif_pos (by omega)]; simp
    | succ k ih =>
      intro u hu
      rw [Lib.decDigits]
      split
      · simp
      · have := ih (u / 10) (by rw [Nat.pow_succ] at hu; omega)
        simp; omega
  exact step 9 u (by omega)
theorem number_itoa (n : Int) (h : isVal n = true) : numberIn (Lib.itoa n) = some n := by
  have hb : -1000000000 ≤ n ∧ n ≤ 1000000000 := by unfold isVal at h; simpa using h
  unfold Lib.itoa
  by_cases hn : n < 0
  · rw [if_pos hn]
    have h1 := dec_ne n.natAbs
    have h2 := dec_len10 n.natAbs (by omega)
    have h3 := List.all_eq_true.2 (dec_dig n.natAbs)
    have h4 := dec_val n.natAbs
    generalize Lib.decDigits n.natAbs = d at *
    unfold numberIn
    simp only [List.head?_cons, decide_true, if_true, List.tail_cons]
    rw [if_neg (by rintro (e | e); exact h1 e; omega), h3]
    simp only [if_true, h4]
    congr 1; omega
  · rw [if_neg hn]
    have h1 := dec_ne n.toNat
    have h2 := dec_len10 n.toNat (by omega)
    have h3 := List.all_eq_true.2 (dec_dig n.toNat)
    have h4 := dec_val n.toNat
    have h5 : (Lib.decDigits n.toNat).head? ≠ some 45 := by
      intro e
      have := dec_dig n.toNat 45 (List.mem_of_head? e)
      rw [Ck.isDig_iff] at this
      simp at this
    generalize Lib.decDigits n.toNat = d at *
    unfold numberIn
    simp only [decide_eq_false h5, Bool.false_eq_true, if_false]
    rw [if_neg (by rintro (e | e); exact h1 e; omega), h3]
    simp only [if_true, h4]
    congr 1; omega
theorem itoa_chr (n : Int) (c : UInt8) (h : c ∈ Lib.itoa n) : c = 45 ∨ (48 ≤ c.toNat ∧ c.toNat ≤ 57) := by
  unfold Lib.itoa at h
  split at h
  · simp only [List.mem_cons] at h
    rcases h with h | h
    · exact .inl h
    · exact .inr ((Ck.isDig_iff c).1 (dec_dig _ c h))
  · exact .inr ((Ck.isDig_iff c).1 (dec_dig _ c h))
theorem itoa_no (n : Int) (m : UInt8) (h : m = 46 ∨ m = 59 ∨ m = 61) : m ∉ Lib.itoa n := by
  intro hm
  have := itoa_chr n m hm
  rcases h with rfl | rfl | rfl <;> simp at this

/-- entries. -/
def putB (k v : Int) : Bytes := 112 :: (Lib.itoa k ++ 61 :: Lib.itoa v)
def delB (k : Int) : Bytes := 100 :: Lib.itoa k
def installB (n s : Bytes) : Bytes := 105 :: (n ++ 58 :: s)
def dropB (n : Bytes) : Bytes := 114 :: n
theorem putE_B (k v : Int) : putE k v = putB k v ++ [59] := by simp [putE, putB]
theorem delE_B (k : Int) : delE k = delB k ++ [59] := by simp [delE, delB]
theorem installE_B (n s : Bytes) : installE n s = installB n s ++ [59] := by simp [installE, installB]
theorem dropE_B (n : Bytes) : dropE n = dropB n ++ [59] := by simp [dropE, dropB]
theorem putB_no (k v : Int) (m : UInt8) (h : m = 46 ∨ m = 59) : m ∉ putB k v := by
  unfold putB
  have h1 := itoa_no k m (by rcases h with h | h <;> simp [h])
  have h2 := itoa_no v m (by rcases h with h | h <;> simp [h])
  simp only [List.mem_cons, List.mem_append, not_or]
  refine ⟨?_, h1, ?_, h2⟩ <;> rcases h with rfl | rfl <;> decide
theorem delB_no (k : Int) (m : UInt8) (h : m = 46 ∨ m = 59) : m ∉ delB k := by
  unfold delB
  have h1 := itoa_no k m (by rcases h with h | h <;> simp [h])
  simp only [List.mem_cons, not_or]
  refine ⟨?_, h1⟩
  rcases h with rfl | rfl <;> decide
theorem isKey_val (k : Int) (h : isKey k = true) : isVal k = true := by
  unfold isKey at h; unfold isVal; simp at h ⊢; omega
theorem entry_cons (C : Con) (c : UInt8) (t : Bytes) : redoEntry C (c :: t) = if c = 112 then redoPut C t
    else if c = 100 then (match numberIn t with | some k => if (del C k).2 = 0 then some (del C k).1 else none | none => none)
    else if c = 105 then redoInstall C t
    else if c = 114 then (if (drop C t).2 = 0 then some (drop C t).1 else none)
    else none := rfl
theorem redo_putB (C : Con) (k v : Int) (hk : isKey k = true) (hv : isVal v = true) : redoEntry C (putB k v) = some (setC C k (some v)) := by
  unfold putB
  rw [entry_cons, if_pos rfl, redoPut, cut_mk 61 _ _ (itoa_no k 61 (by simp))]
  simp only [number_itoa k (isKey_val k hk), number_itoa v hv]
  simp [put, hk, hv]
theorem redo_delB (C : Con) (k : Int) (hk : isKey k = true) : redoEntry C (delB k) = some (setC C k none) := by
  unfold delB
  rw [entry_cons, if_neg (show ¬ (100 : UInt8) = 112 by decide), if_pos rfl, number_itoa k (isKey_val k hk)]
  simp [del, hk]
theorem name_no (n : Bytes) (h : isName n = true) (m : UInt8) (hm : m = 46 ∨ m = 59 ∨ m = 58) : m ∉ n := by
  intro hx
  unfold isName at h
  simp only [Bool.and_eq_true, List.all_eq_true] at h
  have := h.2 m hx
  rcases hm with rfl | rfl | rfl <;> simp at this
theorem redo_installB (C : Con) (n s : Bytes) (hn : isName n = true) : redoEntry C (installB n s) = if (install C n s).2.2 = 0 then some (install C n s).1 else none := by
  unfold installB
  rw [entry_cons, if_neg (show ¬ (105 : UInt8) = 112 by decide), if_neg (show ¬ (105 : UInt8) = 100 by decide), if_pos rfl, redoInstall, cut_mk 58 _ _ (name_no n hn 58 (by simp))]
theorem redo_dropB (C : Con) (n : Bytes) : redoEntry C (dropB n) = if (drop C n).2 = 0 then some (drop C n).1 else none := by
  unfold dropB
  rw [entry_cons, if_neg (show ¬ (114 : UInt8) = 112 by decide), if_neg (show ¬ (114 : UInt8) = 100 by decide), if_neg (show ¬ (114 : UInt8) = 105 by decide), if_pos rfl]

/-- one entry, one record. -/
theorem pieces_one (m : UInt8) (b : Bytes) (h : m ∉ b) : pieces m (b ++ [m]) = ([b], []) := pieces_mk m b [] h
theorem redo_one (C : Con) (b : Bytes) (h : 59 ∉ b) : redo C (b ++ [59]) = redoEntry C b := by
  unfold redo
  rw [pieces_one 59 b h]
  simp only [if_true, redoAll]
  cases redoEntry C b <;> rfl

/-- A file that is whole tells contents. -/
def Tells (f : Bytes) (C : Con) : Prop := (pieces 46 f).2 = [] ∧ (pieces 46 f).1 ≠ [] ∧ redoRecs none0 (pieces 46 f).1 = some C
theorem recs_app (a b : List Bytes) : ∀ C, redoRecs C (a ++ b) = match redoRecs C a with | some D => redoRecs D b | none => none := by
  induction a with
  | nil => intro C; rfl
  | cons e r ih =>
    intro C
    rw [List.cons_append, redoRecs, redoRecs]
    cases redo C e with
    | none => rfl
    | some D => exact ih D
theorem Tells.step {f : Bytes} {C D : Con} {es : Bytes} (h : Tells f C) (hn : 46 ∉ es) (hr : redo C es = some D) : Tells (f ++ record es) D := by
  obtain ⟨h1, h2, h3⟩ := h
  have e : pieces 46 (f ++ record es) = ((pieces 46 f).1 ++ [es], []) := by
    rw [pieces_app 46 f _ h1]
    unfold record
    rw [pieces_one 46 es hn]
  refine ⟨by rw [e], by rw [e]; simp, ?_⟩
  rw [e]
  show redoRecs none0 ((pieces 46 f).1 ++ [es]) = some D
  rw [recs_app, h3]
  simp only [redoRecs, hr]
theorem Tells.read {f : Bytes} {C : Con} (h : Tells f C) : readFile f = some (C, true) := by
  unfold readFile
  rw [h.2.2]
  simp only [Option.map_some, h.2.1, ne_eq, not_false_eq_true, decide_true]
theorem Tells.two0 {f : Bytes} {C : Con} (h : Tells f C) : readTwo f [] = some (C, 0) := by
  unfold readTwo
  rw [h.read]
  rfl
theorem Tells.two1 {f : Bytes} {C : Con} (h : Tells f C) : readTwo [] f = some (C, 1) := by
  unfold readTwo
  rw [h.read]
  rfl

/-- all that there is. -/
theorem redoAll_app (a b : List Bytes) : ∀ C, redoAll C (a ++ b) = match redoAll C a with | some D => redoAll D b | none => none := by
  induction a with
  | nil => intro C; rfl
  | cons e r ih =>
    intro C
    rw [List.cons_append, redoAll, redoAll]
    cases redoEntry C e with
    | none => rfl
    | some D => exact ih D
theorem cells_pieces (l : List (Int × Int)) (r : Bytes) : pieces 59 (cellsE l ++ r) = (l.map (fun p => putB p.1 p.2) ++ (pieces 59 r).1, (pieces 59 r).2) := by
  induction l with
  | nil => rfl
  | cons p t ih =>
    have e : cellsE (p :: t) ++ r = putB p.1 p.2 ++ 59 :: (cellsE t ++ r) := by
      simp [cellsE, putE_B]
    rw [e, pieces_mk 59 _ _ (putB_no p.1 p.2 59 (by simp)), ih]
    rfl
theorem procs_pieces (l : List (Bytes × Bytes)) (h : ∀ p ∈ l, 59 ∉ installB p.1 p.2) : pieces 59 (procsE l) = (l.map (fun p => installB p.1 p.2), []) := by
  induction l with
  | nil => rfl
  | cons p t ih =>
    have e : procsE (p :: t) = installB p.1 p.2 ++ 59 :: (procsE t) := by
      simp [procsE, installE_B]
    rw [e, pieces_mk 59 _ _ (h p (by simp)), ih (fun q hq => h q (by simp [hq]))]
    rfl
theorem redo_cells (cs : List (Option Int)) : ∀ (A Z : List (Option Int)) (ps : List (Bytes × Bytes)), A.length + cs.length ≤ 100 → (∀ o ∈ cs, ∀ v, o = some v → isVal v = true) →
    redoAll ⟨A ++ List.replicate cs.length none ++ Z, ps⟩ ((listFrom A.length cs).map fun p => putB p.1 p.2) = some ⟨A ++ cs ++ Z, ps⟩ := by
  induction cs with
  | nil => intro A Z ps _ _; simp [listFrom, redoAll]
  | cons o r ih =>
    intro A Z ps hl hv
    have hl' : A.length + 1 + r.length ≤ 100 := by simp at hl; omega
    have ih' := fun x => ih (A ++ [x]) Z ps (by simp; omega) (fun q hq => hv q (by simp [hq]))
    have ea : ∀ x : Option Int, (A ++ [x]).length = A.length + 1 := fun x => by simp
    cases o with
    | none =>
      have := ih' none
      rw [ea] at this
      simp only [listFrom, List.length_cons, List.replicate_succ]
      simpa using this
    | some v =>
      have := ih' (some v)
      rw [ea] at this
      have hk : isKey (A.length : Int) = true := by unfold isKey; simp at hl ⊢; omega
      simp only [listFrom, List.map_cons, redoAll]
      rw [redo_putB _ _ v hk (hv _ (by simp) v rfl)]
      have e : setC ⟨A ++ List.replicate (some v :: r).length none ++ Z, ps⟩ (A.length : Int) (some v) = ⟨A ++ [some v] ++ List.replicate r.length none ++ Z, ps⟩ := by
        simp only [setC, Int.toNat_natCast, List.length_cons, List.replicate_succ]
        congr 1
        simp
      simp only [e]
      simpa using this
theorem others_self (ps : List (Bytes × Bytes)) (n : Bytes) (h : ∀ p ∈ ps, ltB p.1 n = true) : others ps n = ps := by
  unfold others
  rw [List.filter_eq_self]
  intro p hp
  have := h p hp
  simp only [bne_iff_ne, ne_eq]
  intro e
  rw [e, ltB_irr] at this; cases this
theorem insert_end (ps : List (Bytes × Bytes)) (q : Bytes × Bytes) (h : ∀ p ∈ ps, ltB p.1 q.1 = true) : insertP ps q = ps ++ [q] := by
  induction ps with
  | nil => rfl
  | cons a r ih =>
    unfold insertP
    rw [if_pos (h a (by simp)), ih (fun p hp => h p (by simp [hp]))]
    rfl
theorem redo_procs (cells : List (Option Int)) (ps : List (Bytes × Bytes)) : ∀ (A : List (Bytes × Bytes)), A.length + ps.length ≤ 8 → (A ++ ps).Pairwise (fun p q => ltB p.1 q.1 = true) → (∀ p ∈ ps, isName p.1 = true ∧ (Ck.read p.2).2 = 0) →
    redoAll ⟨cells, A⟩ (ps.map fun p => installB p.1 p.2) = some ⟨cells, A ++ ps⟩ := by
  induction ps with
  | nil => intro A _ _ _; simp [redoAll]
  | cons q r ih =>
    intro A hl hs hp
    have hA : ∀ p ∈ A, ltB p.1 q.1 = true := fun p hpA => (List.pairwise_append.1 hs).2.2 p hpA q (by simp)
    have h1 := hp q (by simp)
    simp only [List.map_cons, redoAll]
    rw [redo_installB _ _ _ h1.1]
    have e : install ⟨cells, A⟩ q.1 q.2 = (⟨cells, A ++ [q]⟩, 0, 0) := by
      unfold install
      simp only [others_self A q.1 hA]
      rw [if_neg (by rw [h1.1]; simp), if_neg (by simpa using h1.2), if_neg (by simp at hl; omega), insert_end A (q.1, q.2) hA]
    rw [e]
    simp only [if_true]
    have := ih (A ++ [q]) (by simp at hl ⊢; omega) (by simpa using hs) (fun p hpr => hp p (by simp [hpr]))
    simpa using this
/-- a source holds neither of the marks. -/
def Plain (s : Bytes) : Prop := 46 ∉ s ∧ 59 ∉ s
theorem installB_no (n s : Bytes) (m : UInt8) (hm : m = 46 ∨ m = 59) (hn : isName n = true) (hs : m ∉ s) : m ∉ installB n s := by
  unfold installB
  simp only [List.mem_cons, List.mem_append, not_or]
  refine ⟨?_, name_no n hn m (by rcases hm with h | h <;> simp [h]), ?_, hs⟩ <;> rcases hm with rfl | rfl <;> decide
theorem mem_cellsE (l : List (Int × Int)) (m : UInt8) (hm : m = 46) : m ∉ cellsE l := by
  unfold cellsE
  intro h
  obtain ⟨p, _, h⟩ := List.mem_flatMap.1 h
  rw [putE_B] at h
  rcases List.mem_append.1 h with h | h
  · exact putB_no p.1 p.2 m (.inl hm) h
  · subst hm; simp at h
theorem mem_procsE (l : List (Bytes × Bytes)) (h : ∀ p ∈ l, 46 ∉ installB p.1 p.2) : 46 ∉ procsE l := by
  unfold procsE
  intro g
  obtain ⟨p, hp, g⟩ := List.mem_flatMap.1 g
  rw [installE_B] at g
  rcases List.mem_append.1 g with g | g
  · exact h p hp g
  · simp at g
theorem tells_all (C : Con) (h : Ok C) (hp : ∀ p ∈ C.procs, Plain p.2) : Tells (all C) C := by
  have hB : ∀ p ∈ C.procs, ∀ m, (m = 46 ∨ m = 59) → m ∉ installB p.1 p.2 := by
    intro p hpm m hm
    refine installB_no _ _ m hm (h.prc p hpm).1 ?_
    rcases hm with rfl | rfl
    · exact (hp p hpm).1
    · exact (hp p hpm).2
  have hno : 46 ∉ cellsE C.list ++ procsE C.procs := by
    simp only [List.mem_append, not_or]
    exact ⟨mem_cellsE _ 46 rfl, mem_procsE _ (fun p hpm => hB p hpm 46 (.inl rfl))⟩
  have e : pieces 46 (all C) = ([cellsE C.list ++ procsE C.procs], []) := pieces_one 46 _ hno
  refine ⟨by rw [e], by rw [e]; simp, ?_⟩
  rw [e]
  have hr : redo none0 (cellsE C.list ++ procsE C.procs) = some C := by
    unfold redo
    rw [cells_pieces, procs_pieces C.procs (fun p hpm => hB p hpm 59 (.inr rfl))]
    simp only [if_true]
    rw [redoAll_app]
    have h1 := redo_cells C.cells [] [] [] (by simp [h.len]) h.val
    simp only [List.nil_append, List.append_nil, List.length_nil, h.len] at h1
    have h2 : redoAll none0 (List.map (fun p => putB p.fst p.snd) C.list) = some ⟨C.cells, []⟩ := h1
    rw [h2]
    have h3 := redo_procs C.cells C.procs [] (by simpa using h.cnt) (by simpa using h.srt) h.prc
    simpa using h3
  simp only [redoRecs, hr]
end Jn
end Go.Proofs.YtellilpeakpbfaaGreatDoor
