import Derived.Test.YtellilpeakpbfabGreatDoorSmallToo
import Derived.BigQuiet
import Derived.Deep.RegionHeld3
section
/-
  What a crash leaves tells some of the contents: the files as texts; no Go text.
-/
namespace Go.Proofs.YtellilpeakpbfabGreatDoor
open Go.RowKit
namespace Jn

theorem all_no (C : Con) (h : Ok C) (hp : ∀ p ∈ C.procs, Plain p.2) : 46 ∉ cellsE C.list ++ procsE C.procs := by
  have hB : ∀ p ∈ C.procs, ∀ m, (m = 46 ∨ m = 59) → m ∉ installB p.1 p.2 := by
    intro p hpm m hm
    refine installB_no _ _ m hm (h.prc p hpm).1 ?_
    rcases hm with rfl | rfl
    · exact (hp p hpm).1
    · exact (hp p hpm).2
  simp only [List.mem_append, not_or]
  exact ⟨mem_cellsE _ 46 rfl, mem_procsE _ (fun p hpm => hB p hpm 46 (.inl rfl))⟩

/-- no whole record. -/
theorem read_torn (f : Bytes) (h : 46 ∉ f) : readFile f = some (none0, false) := by
  unfold readFile
  rw [cut_none 46 f (cut_none_of 46 f h)]
  simp [redoRecs]
/-- whole records, and a torn one. -/
theorem Tells.torn {f : Bytes} {C : Con} (h : Tells f C) (t : Bytes) (ht : 46 ∉ t) : readFile (f ++ t) = some (C, true) := by
  obtain ⟨h1, h2, h3⟩ := h
  unfold readFile
  rw [pieces_app 46 f t h1, cut_none 46 t (cut_none_of 46 t ht)]
  simp only [List.append_nil, h3, Option.map_some, h2, ne_eq, not_false_eq_true, decide_true]
theorem two_first {a b : Bytes} {C : Con} (h : readFile a = some (C, true)) (hb : ∃ p, readFile b = some p) : readTwo a b = some (C, 0) := by
  obtain ⟨⟨B, ib⟩, hb⟩ := hb
  unfold readTwo
  rw [h, hb]
  rfl
theorem two_second {a b : Bytes} {A C : Con} (ha : readFile a = some (A, false)) (hb : readFile b = some (C, true)) : readTwo a b = some (C, 1) := by
  unfold readTwo
  rw [ha, hb]
  simp
/-- what is behind an answer of two files. -/
theorem two_cases {a b : Bytes} {C : Con} {f : Int} (h : readTwo a b = some (C, f)) :
    (f = 0 ∧ readFile a = some (C, true) ∧ ∃ p, readFile b = some p) ∨ (f = 1 ∧ (∃ A, readFile a = some (A, false)) ∧ readFile b = some (C, true)) ∨ (f = 1 ∧ a = [] ∧ b = [] ∧ C = none0) := by
  unfold readTwo at h
  cases ha : readFile a with
  | none => rw [ha] at h; cases h
  | some p =>
    obtain ⟨A, ia⟩ := p
    cases hb : readFile b with
    | none => rw [ha, hb] at h; cases h
    | some q =>
      obtain ⟨B, ib⟩ := q
      rw [ha, hb] at h
      simp only at h
      cases ia with
      | true =>
        rw [if_pos rfl] at h
        simp only [Option.some.injEq, Prod.mk.injEq] at h
        obtain ⟨rfl, rfl⟩ := h
        exact .inl ⟨rfl, rfl, _, rfl⟩
      | false =>
        rw [if_neg (by simp)] at h
        split at h
        · cases h
        · rename_i hn
          simp only [Option.some.injEq, Prod.mk.injEq] at h
          obtain ⟨rfl, rfl⟩ := h
          cases ib with
          | true => exact .inr (.inl ⟨rfl, ⟨A, rfl⟩, rfl⟩)
          | false =>
            have hz : a.length + b.length = 0 := by
              apply Classical.byContradiction
              intro hne
              exact hn ⟨rfl, by omega⟩
            have ea : a = [] := List.eq_nil_of_length_eq_zero (by omega)
            have eb : b = [] := List.eq_nil_of_length_eq_zero (by omega)
            subst ea eb
            have hr : readFile ([] : Bytes) = some (none0, false) := rfl
            rw [hr] at hb
            simp only [Option.some.injEq, Prod.mk.injEq] at hb
            exact .inr (.inr ⟨rfl, rfl, rfl, hb.1.symm⟩)
/-- the first bytes of a record that is laid behind. -/
theorem Tells.part {f : Bytes} {C D : Con} {es : Bytes} (h : Tells f C) (hn : 46 ∉ es) (hr : redo C es = some D) (n : Nat) (h1 : f.length ≤ n) (h2 : n ≤ (f ++ record es).length) :
    readFile ((f ++ record es).take n) = some (C, true) ∨ readFile ((f ++ record es).take n) = some (D, true) := by
  have hl : (f ++ record es).length = f.length + (es.length + 1) := by simp [record]
  by_cases hN : n = (f ++ record es).length
  · right
    rw [hN, List.take_length]
    exact (h.step hn hr).read
  · left
    have e : (f ++ record es).take n = f ++ es.take (n - f.length) := by
      rw [List.take_append, List.take_of_length_le (by omega)]
      congr 1
      unfold record
      rw [List.take_append, show n - f.length - es.length = 0 by omega]
      simp
    rw [e]
    exact h.torn _ (fun g => hn (List.mem_of_mem_take g))
/-- the first bytes of all. -/
theorem all_part (C : Con) (h : Ok C) (hp : ∀ p ∈ C.procs, Plain p.2) (n : Nat) (hn : n ≤ (all C).length) : readFile ((all C).take n) = some (C, true) ∨ readFile ((all C).take n) = some (none0, false) := by
  have hl : (all C).length = (cellsE C.list ++ procsE C.procs).length + 1 := by simp [all, record]; omega
  by_cases hN : n = (all C).length
  · left
    rw [hN, List.take_length]
    exact (tells_all C h hp).read
  · right
    refine read_torn _ fun g => all_no C h hp ?_
    have e : (all C).take n = (cellsE C.list ++ procsE C.procs).take n := by
      unfold all record
      rw [List.take_append_of_le_length (by omega)]
    rw [e] at g
    exact List.mem_of_mem_take g
end Jn

/-- the lasting bytes are some of the bytes. -/
def LastOk (d : DS) : Prop := 0 ≤ d.2.2.1 ∧ d.2.2.1 ≤ d.1.size ∧ 0 ≤ d.2.2.2 ∧ d.2.2.2 ≤ d.2.1.size
/-- whatever a crash leaves tells one of some contents. -/
def Safe (d : DS) (P : Jn.Con → Prop) : Prop :=
  LastOk d ∧ ∀ n m : Nat, d.2.2.1 ≤ n → n ≤ d.1.size → d.2.2.2 ≤ m → m ≤ d.2.1.size → ∃ C f, P C ∧ Jn.readTwo (d.1.data.toList.take n) (d.2.1.data.toList.take m) = some (C, f)
/-- every byte lasts. -/
def Firm (d : DS) : Prop := d.2.2.1 = d.1.size ∧ d.2.2.2 = d.2.1.size
theorem Safe.mono {d : DS} {P Q : Jn.Con → Prop} (h : Safe d P) (hq : ∀ C, P C → Q C) : Safe d Q :=
  ⟨h.1, fun n m a b c e => by obtain ⟨C, f, hp, hr⟩ := h.2 n m a b c e; exact ⟨C, f, hq C hp, hr⟩⟩
theorem take_size (a : ByteArray) : a.data.toList.take a.size = a.data.toList := List.take_of_length_le (by rw [size_list]; exact Nat.le_refl _)
theorem Firm.safe {d : DS} {C : Jn.Con} {f : Int} (h : Firm d) (hr : Jn.readTwo d.1.data.toList d.2.1.data.toList = some (C, f)) : Safe d (· = C) := by
  obtain ⟨a, b, la, lb⟩ := d
  obtain ⟨h1, h2⟩ := h
  simp only at h1 h2 hr
  refine ⟨⟨by simp only; omega, by simp only; omega, by simp only; omega, by simp only; omega⟩, fun n m a1 a2 b1 b2 => ⟨C, f, rfl, ?_⟩⟩
  simp only at a1 a2 b1 b2 ⊢
  obtain rfl : n = a.size := by omega
  obtain rfl : m = b.size := by omega
  rw [take_size, take_size, hr]

/-- so many bytes are left. -/
def cutDS (d : DS) (n m : Nat) : DS := (d.1.extract 0 n, d.2.1.extract 0 m, (n : Int), (m : Int))
theorem ext_list (a : ByteArray) (n : Nat) : (a.extract 0 n).data.toList = a.data.toList.take n := by
  simp [ByteArray.data_extract]
theorem ext_size (a : ByteArray) (n : Nat) (h : n ≤ a.size) : (a.extract 0 n).size = n := by
  rw [ByteArray.size_extract]; omega
theorem Safe.crash {d : DS} {P : Jn.Con → Prop} (h : Safe d P) (n m : Nat) (h1 : d.2.2.1 ≤ n) (h2 : n ≤ d.1.size) (h3 : d.2.2.2 ≤ m) (h4 : m ≤ d.2.1.size) :
    Firm (cutDS d n m) ∧ ∃ C f, P C ∧ Jn.readTwo (cutDS d n m).1.data.toList (cutDS d n m).2.1.data.toList = some (C, f) := by
  refine ⟨⟨?_, ?_⟩, ?_⟩
  · show (n : Int) = (d.1.extract 0 n).size
    rw [ext_size _ _ h2]
  · show (m : Int) = (d.2.1.extract 0 m).size
    rw [ext_size _ _ h4]
  · obtain ⟨C, f, hp, hr⟩ := h.2 n m h1 h2 h3 h4
    refine ⟨C, f, hp, ?_⟩
    show Jn.readTwo (d.1.extract 0 n).data.toList (d.2.1.extract 0 m).data.toList = _
    rw [ext_list, ext_list, hr]

/-- a change: what a crash leaves is as before, or behind it. -/
theorem Safe.change {d d' : DS} {P : Jn.Con → Prop} {f : Int} {C C' : Jn.Con} {es : List UInt8} (h : Safe d P) (hd : DiskOk d f C) (hC : P C) (hn : 46 ∉ es) (hr : Jn.redo C es = some C')
    (hp : playL d [(1, f, Jn.record es)] = some d') : Safe d' (fun X => P X ∨ X = C') := by
  obtain ⟨a, b, la, lb⟩ := d
  have hz : ∀ a : ByteArray, (a ++ ⟨(Jn.record es).toArray⟩).size = a.size + (es.length + 1) := fun a => by
    rw [ByteArray.size_append]
    show a.size + (Jn.record es).length = _
    simp [Jn.record]
  have hal : ∀ a : ByteArray, (a ++ ⟨(Jn.record es).toArray⟩).data.toList = a.data.toList ++ Jn.record es := fun a => by rw [app_list]
  obtain ⟨⟨l1, l2, l3, l4⟩, hs⟩ := h
  simp only at l1 l2 l3 l4 hs
  rcases hd with ⟨rfl, ht, hb⟩ | ⟨rfl, ht, ha⟩
  · simp only at ht hb
    subst hb
    unfold playL playA at hp
    rw [if_pos ⟨rfl, rfl⟩] at hp
    split at hp
    · rename_i e he
      split at he
      · simp only [Option.some.injEq] at he
        subst he
        simp only [playL, Option.some.injEq] at hp
        subst hp
        refine ⟨⟨l1, by show la ≤ (a ++ _).size; rw [hz]; omega, l3, l4⟩, fun n m n1 n2 m1 m2 => ?_⟩
        simp only at n1 n2 m1 m2 ⊢
        obtain rfl : m = 0 := by have : (⟨#[]⟩ : ByteArray).size = 0 := rfl; omega
        rw [hal]
        by_cases hN : n ≤ a.size
        · have := hs n 0 n1 hN m1 m2
          obtain ⟨X, g, hX, hx⟩ := this
          refine ⟨X, g, .inl hX, ?_⟩
          rw [List.take_append_of_le_length (by rw [← size_list]; exact hN)]
          exact hx
        · have hn2 : n ≤ (a.data.toList ++ Jn.record es).length := by
            rw [List.length_append, ← size_list]; rw [hz] at n2; simp only [Jn.record, List.length_append, List.length_singleton]; omega
          rcases ht.part hn hr n (by rw [← size_list]; omega) hn2 with h1 | h1
          · exact ⟨C, 0, .inl hC, Jn.two_first h1 ⟨_, rfl⟩⟩
          · exact ⟨C', 0, .inr rfl, Jn.two_first h1 ⟨_, rfl⟩⟩
      · cases he
    · cases hp
  · simp only at ht ha
    subst ha
    unfold playL playA at hp
    rw [if_neg (by simp), if_pos ⟨rfl, rfl⟩] at hp
    split at hp
    · rename_i e he
      split at he
      · simp only [Option.some.injEq] at he
        subst he
        simp only [playL, Option.some.injEq] at hp
        subst hp
        refine ⟨⟨l1, l2, l3, by show lb ≤ (b ++ _).size; rw [hz]; omega⟩, fun n m n1 n2 m1 m2 => ?_⟩
        simp only at n1 n2 m1 m2 ⊢
        obtain rfl : n = 0 := by have : (⟨#[]⟩ : ByteArray).size = 0 := rfl; omega
        rw [hal]
        by_cases hN : m ≤ b.size
        · have := hs 0 m n1 n2 m1 hN
          obtain ⟨X, g, hX, hx⟩ := this
          refine ⟨X, g, .inl hX, ?_⟩
          rw [List.take_append_of_le_length (by rw [← size_list]; exact hN)]
          exact hx
        · have hn2 : m ≤ (b.data.toList ++ Jn.record es).length := by
            rw [List.length_append, ← size_list]; rw [hz] at m2; simp only [Jn.record, List.length_append, List.length_singleton]; omega
          rcases ht.part hn hr m (by rw [← size_list]; omega) hn2 with h1 | h1
          · exact ⟨C, 1, .inl hC, Jn.two_second (A := Jn.none0) rfl h1⟩
          · exact ⟨C', 1, .inr rfl, Jn.two_second (A := Jn.none0) rfl h1⟩
      · cases he
    · cases hp

/-- the file that tells is made lasting. -/
theorem Safe.sync {d : DS} {P : Jn.Con → Prop} {f : Int} {C : Jn.Con} (h : Safe d P) (hd : DiskOk d f C) : ∃ d', playL d [(2, f, [])] = some d' ∧ DiskOk d' f C ∧ Firm d' ∧ d'.1 = d.1 ∧ d'.2.1 = d.2.1 := by
  obtain ⟨a, b, la, lb⟩ := d
  obtain ⟨⟨l1, l2, l3, l4⟩, hs⟩ := h
  simp only at l1 l2 l3 l4
  rcases hd with ⟨rfl, ht, hb⟩ | ⟨rfl, ht, ha⟩
  · simp only at hb
    subst hb
    have hz : (⟨#[]⟩ : ByteArray).size = 0 := rfl
    exact ⟨(a, ⟨#[]⟩, (a.size : Int), lb), rfl, .inl ⟨rfl, ht, rfl⟩, ⟨rfl, by show lb = _; simp only; omega⟩, rfl, rfl⟩
  · simp only at ha
    subst ha
    have hz : (⟨#[]⟩ : ByteArray).size = 0 := rfl
    exact ⟨(⟨#[]⟩, b, la, (b.size : Int)), rfl, .inr ⟨rfl, ht, rfl⟩, ⟨by show la = _; simp only; omega, rfl⟩, rfl, rfl⟩

/-- going over to the other file, from files that last: wherever it ends, the same is told. -/
theorem Firm.move {d : DS} {f : Int} {C : Jn.Con} (h : Firm d) (hr : Jn.readTwo d.1.data.toList d.2.1.data.toList = some (C, f)) (hok : Jn.Ok C) (hpl : ∀ p ∈ C.procs, Jn.Plain p.2) (hl : (Jn.all C).length ≤ 100000) (k : Nat) :
    ∃ d', playL d ((moveActs C f).take k) = some d' ∧ Safe d' (· = C) := by
  obtain ⟨a, b, la, lb⟩ := d
  obtain ⟨h1, h2⟩ := h
  simp only at h1 h2 hr
  subst h1 h2
  have h0 : (⟨#[]⟩ : ByteArray).size = 0 := rfl
  have hAl : ((⟨#[]⟩ : ByteArray) ++ ⟨(Jn.all C).toArray⟩).data.toList = Jn.all C := by rw [app_list]; rfl
  obtain ⟨A, hA⟩ : ∃ A, A = (⟨#[]⟩ : ByteArray) ++ ⟨(Jn.all C).toArray⟩ := ⟨_, rfl⟩
  rw [← hA] at hAl
  have hz : A.size = (Jn.all C).length := by rw [size_list, hAl]
  have hread : Jn.readFile A.data.toList = some (C, true) := by rw [hAl]; exact (Jn.tells_all C hok hpl).read
  have hpart : ∀ n, n ≤ A.size → Jn.readFile (A.data.toList.take n) = some (C, true) ∨ Jn.readFile (A.data.toList.take n) = some (Jn.none0, false) := fun n hn => by rw [hAl]; exact Jn.all_part C hok hpl n (by omega)
  have hnil : Jn.readFile (⟨#[]⟩ : ByteArray).data.toList = some (Jn.none0, false) := rfl
  -- an erased file beside
  rcases Jn.two_cases hr with ⟨rfl, hra, hrb⟩ | ⟨rfl, ⟨A0, hra⟩, hrb⟩ | ⟨rfl, ea, eb, rfl⟩
  · have e1 : playA (a, b, (a.size : Int), (b.size : Int)) (2, 0, []) = some ((a, b, (a.size : Int), (b.size : Int)) : DS) := rfl
    have e2 : playA (a, b, (a.size : Int), (b.size : Int)) (3, 1, []) = some ((a, (⟨#[]⟩ : ByteArray), (a.size : Int), (0 : Int)) : DS) := rfl
    have e3 : playA (a, ⟨#[]⟩, (a.size : Int), 0) (1, 1, Jn.all C) = some ((a, A, (a.size : Int), (0 : Int)) : DS) := by
      unfold playA
      rw [if_neg (by simp), if_pos ⟨rfl, rfl⟩, if_pos (by show (⟨#[]⟩ : ByteArray).size + (Jn.all C).length ≤ _; rw [h0]; omega), hA]
    have e4 : playA (a, A, (a.size : Int), 0) (2, 1, []) = some ((a, A, (a.size : Int), (A.size : Int)) : DS) := rfl
    have e5 : playA (a, A, (a.size : Int), (A.size : Int)) (3, 0, []) = some (((⟨#[]⟩ : ByteArray), A, (0 : Int), (A.size : Int)) : DS) := rfl
    have s1 : Safe (a, b, (a.size : Int), (b.size : Int)) (· = C) := Firm.safe ⟨rfl, rfl⟩ hr
    have s2 : Safe (a, ⟨#[]⟩, (a.size : Int), 0) (· = C) := Firm.safe ⟨rfl, rfl⟩ (Jn.two_first hra ⟨_, hnil⟩)
    have s3 : Safe (a, A, (a.size : Int), 0) (· = C) := by
      refine ⟨⟨by simp only; omega, by simp only; omega, by simp only; omega, by simp only; omega⟩, fun n m n1 n2 m1 m2 => ⟨C, 0, rfl, ?_⟩⟩
      simp only at n1 n2 m1 m2 ⊢
      obtain rfl : n = a.size := by omega
      rw [take_size]
      exact Jn.two_first hra (by rcases hpart m m2 with h | h <;> exact ⟨_, h⟩)
    have s4 : Safe (a, A, (a.size : Int), (A.size : Int)) (· = C) := Firm.safe ⟨rfl, rfl⟩ (Jn.two_first hra ⟨_, hread⟩)
    have s5 : Safe ((⟨#[]⟩ : ByteArray), A, (0 : Int), (A.size : Int)) (· = C) := Firm.safe ⟨rfl, rfl⟩ (Jn.two_second hnil hread)
    show ∃ d', playL _ (List.take k [(2, 0, []), (3, 1, []), (1, 1, Jn.all C), (2, 1, []), (3, 0, [])]) = some d' ∧ _
    match k with
    | 0 => exact ⟨_, rfl, s1⟩
    | 1 => exact ⟨_, by simp only [List.take_succ_cons, List.take_zero, playL, e1], s1⟩
    | 2 => exact ⟨_, by simp only [List.take_succ_cons, List.take_zero, playL, e1, e2], s2⟩
    | 3 => exact ⟨_, by simp only [List.take_succ_cons, List.take_zero, playL, e1, e2, e3], s3⟩
    | 4 => exact ⟨_, by simp only [List.take_succ_cons, List.take_zero, playL, e1, e2, e3, e4], s4⟩
    | k + 5 => exact ⟨_, by simp only [List.take_succ_cons, List.take_nil, playL, e1, e2, e3, e4, e5], s5⟩
  · have e1 : playA (a, b, (a.size : Int), (b.size : Int)) (2, 1, []) = some ((a, b, (a.size : Int), (b.size : Int)) : DS) := rfl
    have e2 : playA (a, b, (a.size : Int), (b.size : Int)) (3, 0, []) = some (((⟨#[]⟩ : ByteArray), b, (0 : Int), (b.size : Int)) : DS) := rfl
    have e3 : playA (⟨#[]⟩, b, 0, (b.size : Int)) (1, 0, Jn.all C) = some ((A, b, (0 : Int), (b.size : Int)) : DS) := by
      unfold playA
      rw [if_pos ⟨rfl, rfl⟩, if_pos (by show (⟨#[]⟩ : ByteArray).size + (Jn.all C).length ≤ _; rw [h0]; omega), hA]
    have e4 : playA (A, b, 0, (b.size : Int)) (2, 0, []) = some ((A, b, (A.size : Int), (b.size : Int)) : DS) := rfl
    have e5 : playA (A, b, (A.size : Int), (b.size : Int)) (3, 1, []) = some ((A, (⟨#[]⟩ : ByteArray), (A.size : Int), (0 : Int)) : DS) := rfl
    have s1 : Safe (a, b, (a.size : Int), (b.size : Int)) (· = C) := Firm.safe ⟨rfl, rfl⟩ hr
    have s2 : Safe ((⟨#[]⟩ : ByteArray), b, (0 : Int), (b.size : Int)) (· = C) := Firm.safe ⟨rfl, rfl⟩ (Jn.two_second hnil hrb)
    have s3 : Safe (A, b, (0 : Int), (b.size : Int)) (· = C) := by
      refine ⟨⟨by simp only; omega, by simp only; omega, by simp only; omega, by simp only; omega⟩, fun n m n1 n2 m1 m2 => ?_⟩
      simp only at n1 n2 m1 m2 ⊢
      obtain rfl : m = b.size := by omega
      rw [take_size]
      rcases hpart n n2 with h | h
      · exact ⟨C, 0, rfl, Jn.two_first h ⟨_, hrb⟩⟩
      · exact ⟨C, 1, rfl, Jn.two_second h hrb⟩
    have s4 : Safe (A, b, (A.size : Int), (b.size : Int)) (· = C) := Firm.safe ⟨rfl, rfl⟩ (Jn.two_first hread ⟨_, hrb⟩)
    have s5 : Safe (A, (⟨#[]⟩ : ByteArray), (A.size : Int), (0 : Int)) (· = C) := Firm.safe ⟨rfl, rfl⟩ (Jn.two_first hread ⟨_, hnil⟩)
    show ∃ d', playL _ (List.take k [(2, 1, []), (3, 0, []), (1, 0, Jn.all C), (2, 0, []), (3, 1, [])]) = some d' ∧ _
    match k with
    | 0 => exact ⟨_, rfl, s1⟩
    | 1 => exact ⟨_, by simp only [List.take_succ_cons, List.take_zero, playL, e1], s1⟩
    | 2 => exact ⟨_, by simp only [List.take_succ_cons, List.take_zero, playL, e1, e2], s2⟩
    | 3 => exact ⟨_, by simp only [List.take_succ_cons, List.take_zero, playL, e1, e2, e3], s3⟩
    | 4 => exact ⟨_, by simp only [List.take_succ_cons, List.take_zero, playL, e1, e2, e3, e4], s4⟩
    | k + 5 => exact ⟨_, by simp only [List.take_succ_cons, List.take_nil, playL, e1, e2, e3, e4, e5], s5⟩
  · have za : a.size = 0 := by rw [size_list, ea]; rfl
    have zb : b.size = 0 := by rw [size_list, eb]; rfl
    have e1 : playA (a, b, (a.size : Int), (b.size : Int)) (2, 1, []) = some ((a, b, (a.size : Int), (b.size : Int)) : DS) := rfl
    have e2 : playA (a, b, (a.size : Int), (b.size : Int)) (3, 0, []) = some (((⟨#[]⟩ : ByteArray), b, (0 : Int), (b.size : Int)) : DS) := rfl
    have e3 : playA (⟨#[]⟩, b, 0, (b.size : Int)) (1, 0, Jn.all Jn.none0) = some ((A, b, (0 : Int), (b.size : Int)) : DS) := by
      unfold playA
      rw [if_pos ⟨rfl, rfl⟩, if_pos (by show (⟨#[]⟩ : ByteArray).size + (Jn.all Jn.none0).length ≤ _; rw [h0]; omega), hA]
    have e4 : playA (A, b, 0, (b.size : Int)) (2, 0, []) = some ((A, b, (A.size : Int), (b.size : Int)) : DS) := rfl
    have e5 : playA (A, b, (A.size : Int), (b.size : Int)) (3, 1, []) = some ((A, (⟨#[]⟩ : ByteArray), (A.size : Int), (0 : Int)) : DS) := rfl
    have rb : Jn.readFile b.data.toList = some (Jn.none0, false) := by rw [eb]; rfl
    have s1 : Safe (a, b, (a.size : Int), (b.size : Int)) (· = Jn.none0) := Firm.safe ⟨rfl, rfl⟩ hr
    have s2 : Safe ((⟨#[]⟩ : ByteArray), b, (0 : Int), (b.size : Int)) (· = Jn.none0) := Firm.safe ⟨rfl, rfl⟩ (f := 1) (by simp only; rw [eb]; rfl)
    have hz1 : A.size = 1 := by rw [hz]; decide
    have s3 : Safe (A, b, (0 : Int), (b.size : Int)) (· = Jn.none0) := by
      refine ⟨⟨by simp only; omega, by simp only; omega, by simp only; omega, by simp only; omega⟩, fun n m n1 n2 m1 m2 => ?_⟩
      simp only at n1 n2 m1 m2 ⊢
      obtain rfl : m = b.size := by omega
      rw [take_size]
      by_cases hn : n = 0
      · subst hn
        refine ⟨_, 1, rfl, ?_⟩
        rw [eb, List.take_zero]
        rfl
      · obtain rfl : n = A.size := by omega
        rw [take_size]
        exact ⟨_, 0, rfl, Jn.two_first hread ⟨_, rb⟩⟩
    have s4 : Safe (A, b, (A.size : Int), (b.size : Int)) (· = Jn.none0) := Firm.safe ⟨rfl, rfl⟩ (Jn.two_first hread ⟨_, rb⟩)
    have s5 : Safe (A, (⟨#[]⟩ : ByteArray), (A.size : Int), (0 : Int)) (· = Jn.none0) := Firm.safe ⟨rfl, rfl⟩ (Jn.two_first hread ⟨_, hnil⟩)
    show ∃ d', playL _ (List.take k [(2, 1, []), (3, 0, []), (1, 0, Jn.all Jn.none0), (2, 0, []), (3, 1, [])]) = some d' ∧ _
    match k with
    | 0 => exact ⟨_, rfl, s1⟩
    | 1 => exact ⟨_, by simp only [List.take_succ_cons, List.take_zero, playL, e1], s1⟩
    | 2 => exact ⟨_, by simp only [List.take_succ_cons, List.take_zero, playL, e1, e2], s2⟩
    | 3 => exact ⟨_, by simp only [List.take_succ_cons, List.take_zero, playL, e1, e2, e3], s3⟩
    | 4 => exact ⟨_, by simp only [List.take_succ_cons, List.take_zero, playL, e1, e2, e3, e4], s4⟩
    | k + 5 => exact ⟨_, by simp only [List.take_succ_cons, List.take_nil, playL, e1, e2, e3, e4, e5], s5⟩

/-- .. and from a live store's files: at first as before, then the contents. -/
theorem Safe.move {d : DS} {P : Jn.Con → Prop} {f : Int} {C : Jn.Con} (h : Safe d P) (hd : DiskOk d f C) (hC : P C) (hok : Jn.Ok C) (hpl : ∀ p ∈ C.procs, Jn.Plain p.2) (hl : (Jn.all C).length ≤ 100000) (k : Nat) :
    ∃ d', playL d ((moveActs C f).take k) = some d' ∧ Safe d' P := by
  cases k with
  | zero => exact ⟨d, rfl, h⟩
  | succ k =>
    obtain ⟨d1, hp1, hd1, hf1, -, -⟩ := h.sync hd
    obtain ⟨d', hp', hs'⟩ := hf1.move hd1.two hok hpl hl (k + 1)
    have hsame : playL d1 [(2, f, [])] = some d1 := by
      obtain ⟨a, b, la, lb⟩ := d1
      obtain ⟨g1, g2⟩ := hf1
      simp only at g1 g2
      subst g1 g2
      rcases hd1 with ⟨rfl, -, -⟩ | ⟨rfl, -, -⟩ <;> rfl
    refine ⟨d', ?_, hs'.mono fun X hX => hX ▸ hC⟩
    have hh : ∀ (x : DS) (r : List ActP), playL x ((2, f, []) :: r) = match playL x [(2, f, [])] with | some e => playL e r | none => none := by
      intro x r
      show (match playA x (2, f, []) with | some e => playL e r | none => none) = match (match playA x (2, f, []) with | some e => playL e [] | none => none) with | some e => playL e r | none => none
      cases playA x (2, f, []) <;> rfl
    have e : (moveActs C f).take (k + 1) = (2, f, []) :: ([(3, 1 - f, []), (1, 1 - f, Jn.all C), (2, 1 - f, []), (3, f, [])] : List ActP).take k := rfl
    rw [e, hh, hp1]
    rw [e, hh, hsame] at hp'
    exact hp'
/-- gone over wholly. -/
theorem Safe.moved {d : DS} {P : Jn.Con → Prop} {f : Int} {C : Jn.Con} (h : Safe d P) (hd : DiskOk d f C) (hok : Jn.Ok C) (hpl : ∀ p ∈ C.procs, Jn.Plain p.2) (hl : (Jn.all C).length ≤ 100000) :
    ∃ d', playL d (moveActs C f) = some d' ∧ Safe d' (· = C) := by
  obtain ⟨d1, hp1, hd1, hf1, -, -⟩ := h.sync hd
  obtain ⟨d', hp', hs'⟩ := hf1.move hd1.two hok hpl hl 5
  have hsame : playL d1 [(2, f, [])] = some d1 := by
    obtain ⟨a, b, la, lb⟩ := d1
    obtain ⟨g1, g2⟩ := hf1
    simp only at g1 g2
    subst g1 g2
    rcases hd1 with ⟨rfl, -, -⟩ | ⟨rfl, -, -⟩ <;> rfl
  refine ⟨d', ?_, hs'⟩
  have hh : ∀ (x : DS) (r : List ActP), playL x ((2, f, []) :: r) = match playL x [(2, f, [])] with | some e => playL e r | none => none := by
    intro x r
    show (match playA x (2, f, []) with | some e => playL e r | none => none) = match (match playA x (2, f, []) with | some e => playL e [] | none => none) with | some e => playL e r | none => none
    cases playA x (2, f, []) <;> rfl
  have e : moveActs C f = (2, f, []) :: ([(3, 1 - f, []), (1, 1 - f, Jn.all C), (2, 1 - f, []), (3, f, [])] : List ActP) := rfl
  have e5 : (moveActs C f).take 5 = moveActs C f := rfl
  rw [e5] at hp'
  rw [e, hh, hp1]
  rw [e, hh, hsame] at hp'
  exact hp'
end Go.Proofs.YtellilpeakpbfabGreatDoor

end

section
/-
  The walk of Crash; what a store is, that is opened behind one.
-/
set_option linter.unusedVariables false
namespace Go.Proofs.YtellilpeakpbfabGreatDoor
open Go.RowKit

namespace Cr
def raw (c : Int) : Int := if c < 0 then -(c + 1) else c
def pick (c n : Int) : Int := raw c % n
theorem pick_bd (c n : Int) (h : 0 < n) : 0 ≤ pick c n ∧ pick c n < n := ⟨Int.emod_nonneg _ (by omega), Int.emod_lt_of_pos _ h⟩
end Cr

set_option maxHeartbeats 1000000 in
set_option maxRecDepth 100000 in
theorem dpick_any (c : Int) (n : Nat) (h0 : 0 < n) (h1 : n ≤ 2305843009213693952) (c0 : -9223372036854775808 ≤ c) (c1 : c ≤ 9223372036854775807) (w : World) :
    Calls Tryz.prog 39 #[.int .i64 c, .int .i64 n] w fun e w' => e = .returned (.int .i64 (Cr.pick c n)) ∧ w' = w := by
  obtain ⟨r, hr⟩ : ∃ r, r = Cr.pick c n := ⟨_, rfl⟩
  rw [← hr]
  by_cases hc : c < 0
  · obtain ⟨k, hk⟩ : ∃ k : Nat, (k : Int) = -(c + 1) := ⟨(-(c + 1)).toNat, by omega⟩
    obtain rfl : c = -(k : Int) - 1 := by omega
    have t1 : decide (-(k : Int) - 1 < 0) = true := decide_eq_true hc
    have hr2 : r = (k : Int) % n := by rw [hr]; unfold Cr.pick Cr.raw; rw [if_pos hc]; congr 1; omega
    clear hr hk hc
    go_enter Tryz.func39, Tryz.ntmps39
    go_wp2
    go_ret
    exact ⟨by rw [hr2]; rfl, rfl⟩
  · obtain ⟨k, rfl⟩ : ∃ k : Nat, c = (k : Int) := ⟨c.toNat, by omega⟩
    have t1 : decide ((k : Int) < 0) = false := decide_eq_false hc
    have hr2 : r = (k : Int) % n := by rw [hr]; unfold Cr.pick Cr.raw; rw [if_neg hc]
    clear hr hc
    go_enter Tryz.func39, Tryz.ntmps39
    go_wp2
    go_ret
    exact ⟨by rw [hr2]; rfl, rfl⟩


def CrRel (L D : Nat) (w : World) (a b : ByteArray) (la lb : Nat) (i : Value) (wr : World) : Prop :=
  Fr L [] (some D) w wr ∧ ((i = .int .i64 0 ∧ DAt wr D a b la lb) ∨ (i = .int .i64 1 ∧ ∃ n : Nat, la ≤ n ∧ n ≤ a.size ∧ DAt wr D (a.extract 0 n) b n lb) ∨
    (i = .int .i64 2 ∧ ∃ n m : Nat, la ≤ n ∧ n ≤ a.size ∧ lb ≤ m ∧ m ≤ b.size ∧ DAt wr D (a.extract 0 n) (b.extract 0 m) n m))

theorem pick_part (x : Int) (la : Nat) (a : ByteArray) (h : la ≤ a.size) (hz : a.size ≤ 1152921504606846976) (x0 : -9223372036854775808 ≤ x) (x1 : x ≤ 9223372036854775807) :
    ∃ p : Nat, la + p ≤ a.size ∧ ∀ w, Calls Tryz.prog 39 #[.int .i64 x, .int .i64 ((a.size : Int) - (la : Int) + 1)] w fun e w' => e = .returned (.int .i64 (p : Int)) ∧ w' = w := by
  have hb := Cr.pick_bd x ((a.size - la + 1 : Nat) : Int) (by omega)
  refine ⟨(Cr.pick x ((a.size - la + 1 : Nat) : Int)).toNat, by omega, fun w => ?_⟩
  have h := dpick_any x (a.size - la + 1) (by omega) (by omega) x0 x1 w
  rw [show ((a.size - la + 1 : Nat) : Int) = (a.size : Int) - (la : Int) + 1 by omega] at h hb ⊢
  refine h.mono ?_
  rintro e w' ⟨rfl, rfl⟩
  exact ⟨by rw [Int.toNat_of_nonneg hb.1], rfl⟩

set_option maxHeartbeats 4000000 in
set_option maxRecDepth 100000 in
theorem crash_any (L D : Nat) (w : World) (d : DS) (x y : Int) (h : DsAt w D d) (hL : L ≤ D) (hk : LastOk d) (h1 : d.1.size ≤ 1152921504606846976) (h2 : d.2.1.size ≤ 1152921504606846976)
    (x0 : -9223372036854775808 ≤ x) (x1 : x ≤ 9223372036854775807) (y0 : -9223372036854775808 ≤ y) (y1 : y ≤ 9223372036854775807) :
    Calls Tryz.prog 16 #[.pointer (some ⟨D, 0, none⟩), .int .i64 x, .int .i64 y] w fun e w' => e = .returned (.tuple #[]) ∧ ∃ n m : Nat, d.2.2.1 ≤ n ∧ n ≤ d.1.size ∧ d.2.2.2 ≤ m ∧ m ≤ d.2.1.size ∧ DsAt w' D (cutDS d n m) ∧ Fr L [] (some D) w w' := by
  obtain ⟨a, b, la, lb⟩ := d
  obtain ⟨k1, k2, k3, k4⟩ := hk
  simp only at k1 k2 k3 k4 h1 h2 h
  obtain ⟨la, rfl⟩ : ∃ k : Nat, la = (k : Int) := ⟨la.toNat, by omega⟩
  obtain ⟨lb, rfl⟩ : ∃ k : Nat, lb = (k : Int) := ⟨lb.toNat, by omega⟩
  obtain ⟨p, hp1, hp2⟩ := pick_part x la a (by omega) h1 x0 x1
  obtain ⟨q, hq1, hq2⟩ := pick_part y lb b (by omega) h2 y0 y1
  have HP := hide hp2
  have HQ := hide hq2
  have hla : la ≤ a.size := by omega
  have hlb : lb ≤ b.size := by omega
  have HR0 : Hid (CrRel L D w a b la lb (.int .i64 (0 : Int)) w) := ⟨Fr.refl _ _ _ _, .inl ⟨rfl, h⟩⟩
  clear hp2 hq2 h k1 k2 k3 k4
  go_enter Tryz.func16, Tryz.ntmps16
  go_wp2_with fail
  go_loopw [6] (fun i wr => CrRel L D w a b la lb i wr) (fun i _ => 2 - (intOf i).toNat)
  case atStart => exact HR0.out
  case round =>
    clear HR0
    obtain ⟨hfr, hor⟩ := hrel
    rcases hor with ⟨rfl, hD⟩ | ⟨rfl, n, n1, n2, hD⟩ | ⟨rfl, n, m, n1, n2, m1, m2, hD⟩
    · obtain ⟨c0, c1, c2, c3⟩ := hD.cell
      have z0 := hD.fz 0
      have z2 := hD.fz 2
      have HFR := hide hfr
      have HD := hide hD
      have w1 : IntKind.i64.wrap ((a.size : Int) - (la : Int)) = (a.size : Int) - (la : Int) := by simp only [IntKind.wrap_i64]; omega
      have w2 : IntKind.i64.wrap ((a.size : Int) - (la : Int) + 1) = (a.size : Int) - (la : Int) + 1 := by simp only [IntKind.wrap_i64]; omega
      have w3 : IntKind.i64.wrap ((la : Int) + (p : Int)) = (la : Int) + (p : Int) := by simp only [IntKind.wrap_i64]; omega
      have w5 : (0 : Int) ≤ (la : Int) + (p : Int) := by omega
      have w6 : (la : Int) + (p : Int) ≤ (a.size : Int) := by omega
      clear hfr hD
      go_wp2_with fail
      go_region_held3 (fun w' => w'.cell? ⟨D, 0, none⟩ = some (.string a) ∧ w'.cell? ⟨D, 2, none⟩ = some (.int .i64 (la : Int)))
        (first | with_reducible exact ⟨c0, c2⟩ | go_keep)
        (first | (go_at_call 39; refine (HP.out _).mono ?_; rintro e wx ⟨rfl, rfl⟩))
      go_wp2_with fail
      go_region
      all_goals go_wp2
      all_goals go_roundw
      case rel =>
        have hs := HD.out.set (L := L) (w1 := wr) hL rfl rfl rfl rfl 0 (.string (a.extract 0 (la + p)))
        have hd : DAt (wr.setCell ⟨D, 0, none⟩ (.string (a.extract 0 (la + p)))) D (a.extract 0 (la + p)) b la lb := hs.1
        have hs2 := hd.set (L := L) (w1 := (wr.setCell ⟨D, 0, none⟩ (.string (a.extract 0 (la + p))))) hL rfl rfl rfl rfl 2 (.int .i64 ((la : Int) + (p : Int)))
        have hd2 : DAt ((wr.setCell ⟨D, 0, none⟩ (.string (a.extract 0 (la + p)))).setCell ⟨D, 2, none⟩ (.int .i64 ((la : Int) + (p : Int)))) D (a.extract 0 (la + p)) b ((la + p : Nat) : Int) lb := hs2.1
        have hb := Below.drew (Below.drew (Below.refl ((wr.setCell ⟨D, 0, none⟩ (.string (a.extract 0 (la + p)))).setCell ⟨D, 2, none⟩ (.int .i64 ((la : Int) + (p : Int)))).heap.size ((wr.setCell ⟨D, 0, none⟩ (.string (a.extract 0 (la + p)))).setCell ⟨D, 2, none⟩ (.int .i64 ((la : Int) + (p : Int))))))
        have hlt := HD.out.lt
        exact ⟨(HFR.out.trans (hs.2.trans hs2.2)).trans (Fr.of hb (by rw [World.size_setCell, World.size_setCell]; omega)), .inr (.inl ⟨rfl, la + p, by omega, by omega, hd2.fr (Fr.of (L := 0) (T := []) (X := none) hb (Nat.zero_le _)) (by simp) (by simp)⟩)⟩
      case measure => simp [intOf]
    · obtain ⟨c0, c1, c2, c3⟩ := hD.cell
      obtain ⟨A, hA⟩ : ∃ A, A = a.extract 0 n := ⟨_, rfl⟩
      rw [← hA] at hD
      have z0 := hD.fz 1
      have z2 := hD.fz 3
      have HFR := hide hfr
      have HD := hide hD
      have w1 : IntKind.i64.wrap ((b.size : Int) - (lb : Int)) = (b.size : Int) - (lb : Int) := by simp only [IntKind.wrap_i64]; omega
      have w2 : IntKind.i64.wrap ((b.size : Int) - (lb : Int) + 1) = (b.size : Int) - (lb : Int) + 1 := by simp only [IntKind.wrap_i64]; omega
      have w3 : IntKind.i64.wrap ((lb : Int) + (q : Int)) = (lb : Int) + (q : Int) := by simp only [IntKind.wrap_i64]; omega
      have w5 : (0 : Int) ≤ (lb : Int) + (q : Int) := by omega
      have w6 : (lb : Int) + (q : Int) ≤ (b.size : Int) := by omega
      clear hfr hD
      go_wp2_with fail
      go_region_held3 (fun w' => w'.cell? ⟨D, 1, none⟩ = some (.string b) ∧ w'.cell? ⟨D, 3, none⟩ = some (.int .i64 (lb : Int)))
        (first | with_reducible exact ⟨c1, c3⟩ | go_keep)
        (first | (go_at_call 39; refine (HQ.out _).mono ?_; rintro e wx ⟨rfl, rfl⟩))
      go_wp2_with fail
      go_region
      all_goals go_wp2
      all_goals go_roundw
      case rel =>
        have hs := HD.out.set (L := L) (w1 := wr) hL rfl rfl rfl rfl 1 (.string (b.extract 0 (lb + q)))
        have hd : DAt (wr.setCell ⟨D, 1, none⟩ (.string (b.extract 0 (lb + q)))) D A (b.extract 0 (lb + q)) n lb := hs.1
        have hs2 := hd.set (L := L) (w1 := (wr.setCell ⟨D, 1, none⟩ (.string (b.extract 0 (lb + q))))) hL rfl rfl rfl rfl 3 (.int .i64 ((lb : Int) + (q : Int)))
        have hd2 : DAt ((wr.setCell ⟨D, 1, none⟩ (.string (b.extract 0 (lb + q)))).setCell ⟨D, 3, none⟩ (.int .i64 ((lb : Int) + (q : Int)))) D A (b.extract 0 (lb + q)) n ((lb + q : Nat) : Int) := hs2.1
        have hb := Below.drew (Below.drew (Below.refl ((wr.setCell ⟨D, 1, none⟩ (.string (b.extract 0 (lb + q)))).setCell ⟨D, 3, none⟩ (.int .i64 ((lb : Int) + (q : Int)))).heap.size ((wr.setCell ⟨D, 1, none⟩ (.string (b.extract 0 (lb + q)))).setCell ⟨D, 3, none⟩ (.int .i64 ((lb : Int) + (q : Int))))))
        have hlt := HD.out.lt
        exact ⟨(HFR.out.trans (hs.2.trans hs2.2)).trans (Fr.of hb (by rw [World.size_setCell, World.size_setCell]; omega)), .inr (.inr ⟨rfl, n, lb + q, n1, n2, by omega, by omega, hA ▸ hd2.fr (Fr.of (L := 0) (T := []) (X := none) hb (Nat.zero_le _)) (by simp) (by simp)⟩)⟩
      case measure => simp [intOf]
    · have HFIN : Hid (∃ n m : Nat, (la : Int) ≤ n ∧ n ≤ a.size ∧ (lb : Int) ≤ m ∧ m ≤ b.size ∧ DsAt wr D (cutDS (a, b, (la : Int), (lb : Int)) n m) ∧ Fr L [] (some D) w wr) := ⟨n, m, by omega, n2, by omega, m2, hD, hfr⟩
      clear hD hfr
      go_wp2_with fail
      go_end0
      exact ⟨rfl, HFIN.out⟩
end Go.Proofs.YtellilpeakpbfabGreatDoor

end
