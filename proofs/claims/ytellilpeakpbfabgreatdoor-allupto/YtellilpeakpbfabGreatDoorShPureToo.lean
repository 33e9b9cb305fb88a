import Derived.Test.YtellilpeakpbfabGreatDoorStkToo
import Derived.Test.YtellilpeakpbfabGreatDoorSplitToo
import Derived.Test.YtellilpeakpbfabGreatDoorRefCkToo
import Derived.Lib.ItoaNum
section
/-
  The walk of Read: the tokens of a source, and whether they may follow one another.
-/
namespace Go.Proofs.YtellilpeakpbfabGreatDoor
open Go.RowKit

theorem Tryz.infoTok : (Tryz.prog.info? 165).map (fun i => (i.zero, i.size, i.bytes)) = some (some (.agg #[.int .i64 0, .int .i64 0]), 2, 16) := by kernel_rfl

/-- Tokens, cell by cell. -/
def cellsOf (ts : List (List UInt8)) : List Value := ts.flatMap fun t => [.int .i64 (Ck.tokenP t).1, .int .i64 (Ck.tokenP t).2]
theorem cellsOf_snoc (ts : List (List UInt8)) (t : List UInt8) : cellsOf (ts ++ [t]) = cellsOf ts ++ [.int .i64 (Ck.tokenP t).1, .int .i64 (Ck.tokenP t).2] := by simp [cellsOf]

theorem ownsRow_base {w : World} {B B' : Nat} {e : TypeId} {size : Nat} {v : Value} {n : Nat} {xs : List Value} (h : w.ownsRow B e size v n xs) (hB : B' ≤ B) : w.ownsRow B' e size v n xs := by
  refine ⟨h.1, ?_⟩
  rcases h.2 with hn | ⟨g, cap, cur, rfl, hb, rest⟩
  · exact .inl hn
  · exact .inr ⟨g, cap, cur, rfl, by omega, rest⟩
/-- What is owned stays owned where its block is as it was. -/
theorem ownsRow_block {w w' : World} {B : Nat} {e : TypeId} {size : Nat} {v : Value} {n : Nat} {xs : List Value} (h : w.ownsRow B e size v n xs) (hk : ∀ g cur, B ≤ g → g < w.heap.size → w.heap[g]? = some (.cells cur e (0, 0)) → w'.heap[g]? = w.heap[g]?) : w'.ownsRow B e size v n xs := by
  refine ⟨h.1, ?_⟩
  rcases h.2 with hn | ⟨g, cap, cur, rfl, hb, hh, rest⟩
  · exact .inl hn
  · exact .inr ⟨g, cap, cur, rfl, hb, by rw [hk g cur hb (Array.getElem?_eq_some_iff.1 hh).1 hh]; exact hh, rest⟩
theorem ownsRow_below {w w' : World} {B : Nat} {e : TypeId} {size : Nat} {v : Value} {n : Nat} {xs : List Value} (h : w.ownsRow B e size v n xs) (hb : Below w.heap.size w w') : w'.ownsRow B e size v n xs :=
  ownsRow_block h fun g _ _ hg _ => hb.block g hg
theorem ownsRow_oth {w w' : World} {B : Nat} {size : Nat} {v : Value} {n : Nat} {xs : List Value} (h : w.ownsRow (B + 1) 165 size v n xs) (ho : Oth B w w') : w'.ownsRow (B + 1) 165 size v n xs :=
  ownsRow_block h fun g cur hB hg hh => ho g hg (by omega) (fun c z => by rw [hh]; simp)
theorem St.block {B : Nat} {w w' : World} {st : List Int} (h : St B w st) (hB : w'.heap[B]? = w.heap[B]?) (hk : ∀ g cur, B + 1 ≤ g → g < w.heap.size → w.heap[g]? = some (.cells cur 3 (0, 0)) → w'.heap[g]? = w.heap[g]?) : St B w' st := by
  obtain ⟨v, hv, hf, hown⟩ := h
  exact ⟨v, (World.cell?_of_block (w := w) (a := ⟨B, 0, none⟩) hB).trans hv, (World.frozen?_of_block (w := w) (a := ⟨B, 0, none⟩) hB).trans hf, ownsRow_block hown hk⟩
theorem St.below {B : Nat} {w w' : World} {st : List Int} (h : St B w st) (hB : B < w.heap.size) (hb : Below w.heap.size w w') : St B w' st :=
  h.block (hb.block B hB) fun g _ _ hg _ => hb.block g hg

theorem st_start (w : World) : St w.heap.size (w.alloc (.cells #[.slice none 0 0] 162)) [] :=
  ⟨.slice none 0 0, by rw [World.cell?_alloc_at _ _ _ _ rfl]; rfl, World.frozen?_alloc_at _ _ _ _ rfl, World.ownsRow_nil _ _ _ _⟩

def RdRel (w1 : World) (ts : List (List UInt8)) (v i : Value) (wr : World) : Prop :=
  ∃ (k : Nat) (st : List Int), k ≤ ts.length ∧ i = .int .i64 k ∧ St w1.heap.size wr st ∧ w1.heap.size < wr.heap.size ∧ Below w1.heap.size w1 wr ∧
    wr.ownsRow (w1.heap.size + 1) 165 2 v k (cellsOf (ts.take k)) ∧ st.length ≤ 1 + 4 * k ∧ Ck.rdGo k st (ts.drop k) = Ck.rdGo 0 [1] ts

theorem own_after {B : Nat} {wr w3 w5 : World} {o : Obj} {v : Value} {n : Nat} {xs : List Value} {st' : List Int} (h : wr.ownsRow (B + 1) 165 2 v n xs) (h3 : Below wr.heap.size wr w3) (hinv : Inv B (w3.alloc o) w5 st') : w5.ownsRow (B + 1) 165 2 v n xs :=
  ownsRow_oth ((ownsRow_below h h3).alloc o) hinv.2.2.2
theorem tok_after {B : Nat} {w3 w5 : World} {pk pv : Int} {st' : List Int} (hB : B < w3.heap.size) (hinv : Inv B (w3.alloc (.cells #[.int .i64 pk, .int .i64 pv] 165)) w5 st') :
    w5.cell? ⟨w3.heap.size, 0, none⟩ = some (.int .i64 pk) ∧ w5.cell? ⟨w3.heap.size, 1, none⟩ = some (.int .i64 pv) := by
  have h := hinv.2.2.2 w3.heap.size (by simp) (by omega) (fun cur z => by rw [heap_alloc_new]; simp)
  exact ⟨(World.cell?_of_block (a := ⟨w3.heap.size, 0, none⟩) h).trans (by simp), (World.cell?_of_block (a := ⟨w3.heap.size, 1, none⟩) h).trans (by simp)⟩
theorem rd_step {w1 wr w3 w5 w7 : World} {ts : List (List UInt8)} {k : Nat} {st : List Int} {t : List UInt8} {v v' : Value} {pk pv : Int} {o o' : Obj}
    (hp : Ck.tokenP t = (pk, pv)) (hlt : k < ts.length) (hTK : ts.take (k + 1) = ts.take k ++ [t]) (hD : ts.drop k = t :: ts.drop (k + 1))
    (hgo : Ck.rdGo k st (ts.drop k) = Ck.rdGo 0 [1] ts) (hsl : st.length ≤ 1 + 4 * k) (hb : (Ck.take st pk).1 = true)
    (hBR : Below w1.heap.size w1 wr) (hsz : w1.heap.size < wr.heap.size) (hB3 : Below wr.heap.size wr w3)
    (hinv : Inv w1.heap.size (w3.alloc o) w5 (Ck.take st pk).2)
    (own5 : w5.ownsRow (w1.heap.size + 1) 165 2 v k (cellsOf (ts.take k)))
    (hgrow : (w5.alloc o').grownBy w7 v.ownBlock) (hown' : w7.ownsRow (w1.heap.size + 1) 165 2 v' (k + 1) (cellsOf (ts.take k) ++ [.int .i64 pk, .int .i64 pv])) :
    RdRel w1 ts v' (.int .i64 ((k : Int) + 1)) w7 := by
  have hr : ∀ j, v.ownBlock = some j → w1.heap.size + 1 ≤ j ∧ ∃ cur, w5.heap[j]? = some (.cells cur 165 (0, 0)) := by
    intro j hj
    rcases own5.2 with ⟨rfl, _⟩ | ⟨g, cap, cur, rfl, hB, hh, _⟩
    · simp [Value.ownBlock] at hj
    · simp [Value.ownBlock] at hj
      subst hj
      exact ⟨hB, cur, hh⟩
  have hz : w1.heap.size < w5.heap.size := hinv.2.2.1
  have hkeep : ∀ j, j < w5.heap.size → v.ownBlock ≠ some j → w7.heap[j]? = w5.heap[j]? := by
    intro j hj hne
    rw [hgrow.block j (by simp; omega) (fun e => hne e.symm), Below.heap_alloc _ _ _ hj]
  refine ⟨k + 1, (Ck.take st pk).2, by omega, by go_num, hinv.1.block ?_ ?_, ?_, ?_, ?_, ?_, ?_⟩
  · exact hkeep _ hz (fun e => by have := (hr _ e).1; omega)
  · intro g cur hg hg2 hh
    exact hkeep g hg2 (fun e => by obtain ⟨_, c, hc⟩ := hr _ e; rw [hh] at hc; simp at hc)
  · have := hgrow.size; simp at this; omega
  · have h1 : Below w1.heap.size w1 w3 := hBR.trans (hB3.mono (by omega))
    have h2 : Below w1.heap.size w1 (w3.alloc o) := h1.alloc h1.size o
    have h3 := h2.trans hinv.2.1
    exact (h3.alloc h3.size o').grown hgrow (by simp; have := h3.size; omega) (fun j hj => by have := (hr j hj).1; omega)
  · rw [hTK, cellsOf_snoc, hp]; exact hown'
  · have := Ck.take_len st pk; omega
  · rw [← hgo, hD, Ck.rdGo, hp, if_pos hb]

set_option maxHeartbeats 2000000 in
set_option maxRecDepth 100000 in
theorem read_short (s : ByteArray) (w : World) (hs : s.size ≤ 400) (hW : WordsAt w) :
    Calls Tryz.prog 66 #[.string s] w fun e w' => ∃ v, e = .returned (.tuple #[v, .int .i64 (Ck.rdGo 0 [1] (Ck.toks s.data.toList)).1, .int .i64 (Ck.rdGo 0 [1] (Ck.toks s.data.toList)).2]) ∧ Below w.heap.size w w' ∧
      ((Ck.rdGo 0 [1] (Ck.toks s.data.toList)).2 = 0 → w'.ownsRow w.heap.size 165 2 v (Ck.toks s.data.toList).length (cellsOf (Ck.toks s.data.toList))) := by
  have hl : s.data.toList.length = s.size := by simp
  have htk := Ck.toks_len s.data.toList
  have ht := split_any s
  generalize Ck.toks s.data.toList = ts at *
  have HT := hide ht
  obtain ⟨hn1, hn2, hn3⟩ := htk
  rw [hl] at hn1 hn3
  have HN := hide hn3
  have HW := hide hW
  clear ht hl hn2 hn3 hW
  have hd4 : decide (400 < (s.size : Int)) = false := by simp; omega
  obtain ⟨i0, hi, hz0, hz1, hz2⟩ := info_parts Tryz.infoTok
  go_enter Tryz.func66, Tryz.ntmps66
  go_wp2_with fail
  refine (HT.out _ hs).mono ?_
  rintro e w1 ⟨v, rfl, hown, hbel⟩
  obtain ⟨ao, cap, rfl, hrow⟩ := row_shape hown
  have HB := hide hbel
  have HRW := hide hrow
  clear hown hbel hrow HT
  go_wp2_with fail
  refine (push_any w1.heap.size 1 [] _ (st_start w1) (by simp) (by simp)).mono ?_
  rintro e w2 ⟨rfl, hst, hb2, -⟩
  have HST := hide hst
  have HB2 : Hid (Below w1.heap.size w1 w2) := ((Below.refl _ _).alloc (Nat.le_refl _) _).trans hb2
  have hsz2 : w1.heap.size < w2.heap.size := by have := hb2.size; simp at this; omega
  clear hst hb2
  go_wp2
  go_loopw [6, 8] (fun v i wr => RdRel w1 ts v i wr) (fun _ i _ => ts.length - (intOf i).toNat)
  case atStart => exact ⟨0, [1], Nat.zero_le _, rfl, HST.out, hsz2, HB2.out, World.ownsRow_nil _ _ _ _, by simp, rfl⟩
  case round =>
    obtain ⟨k, st, hk, rfl, hst, hsz, hbel, hown, hsl, hgo⟩ := hrel
    have HG := hide hgo
    have HS := hide hst
    have HBR := hide hbel
    have HO := hide hown
    clear hgo hst hbel hown HST HB2
    by_cases hlt : k < ts.length
    · obtain ⟨g, rfl, hg1, hg2, hcells⟩ := HRW.out (by omega)
      obtain ⟨t, hte⟩ : ∃ t, t = ts.getD k [] := ⟨_, rfl⟩
      have hck : wr.cell? ⟨g, k, none⟩ = some (.string ⟨t.toArray⟩) := by rw [hte]; exact (HBR.out.cell (p := ⟨g, k, none⟩) hg2).trans (hcells k hlt)
      have htl : t.length ≤ s.size := HN.out t (by rw [hte]; simp [List.getD, hlt])
      have hdr : ts.drop k = t :: ts.drop (k + 1) := by rw [List.drop_eq_getElem_cons hlt, hte]; simp [List.getD, hlt]
      have htake : ts.take (k + 1) = ts.take k ++ [t] := by rw [List.take_succ_eq_append_getElem hlt, hte]; simp [List.getD, hlt]
      have HD := hide hdr
      have HTK := hide htake
      clear hcells hdr hte htake
      have hwr : WordsAt wr := (HW.out.below HW.out.1 HB.out).below (Nat.lt_of_lt_of_le HW.out.1 HB.out.size) HBR.out
      have ha := tokenOf_any ⟨t.toArray⟩ wr (by show t.length ≤ 400; omega) hwr
      have HA := hide ha
      clear ha hwr
      go_wp2_with fail
      refine HA.out.mono ?_
      rintro e w3 ⟨rfl, hb3⟩
      have HB3 := hide hb3
      have hsz3 := hb3.size
      clear hb3
      generalize hp : Ck.tokenP t = p at *
      obtain ⟨pk, pv⟩ := p
      have HP := hide hp
      clear hp HA
      have h4 : Inv w1.heap.size (w3.alloc (.cells #[.int .i64 pk, .int .i64 pv] 165)) (w3.alloc (.cells #[.int .i64 pk, .int .i64 pv] 165)) st :=
        Inv.start ((HS.out.below hsz HB3.out).below (by omega) ((Below.refl _ _).alloc (Nat.le_refl _) _)) (by simp; omega)
      have ht4 := take_any w1.heap.size pk st _ _ h4 (by omega)
      have HT4 := hide ht4
      clear h4 ht4
      go_wp2_with fail
      refine HT4.out.mono ?_
      rintro e w5 ⟨rfl, hinv⟩
      obtain ⟨c0, c1⟩ := tok_after (by omega) hinv
      have own5 := own_after HO.out HB3.out hinv
      have HI := hide hinv
      have HO5 := hide own5
      have hz5 := hinv.2.2.1
      clear hinv own5 HT4
      cases hb : (Ck.take st pk).1 with
      | true =>
        go_wp2_with (at_builtin; refine wpList_append_own _ rfl (.tmp 34) (.tmp 36) 131 rfl (w1.heap.size + 1) 165 i0 (.agg #[.int .i64 0, .int .i64 0]) 2 16 Tryz.underlying131 hi hz0 hz1 hz2 rfl (by decide) _ _ _ rfl (HO5.out.alloc _) ⟨_, 0, none⟩ 1 1 [.int .i64 pk, .int .i64 pv] rfl rfl ?c1 ?c2 ?c3 ?c4 ?c5 ?_)
        case c1 => exact cell_two_new _ _ _ _
        case c2 => intro u hu; simp at hu; rcases hu with rfl | rfl <;> rfl
        case c3 => unfold maxLen; omega
        case c4 => omega
        case c5 => simp; omega
        intro v' w7 hown' hgrow _
        have HR := hide (rd_step HP.out hlt HTK.out HD.out HG.out hsl hb HBR.out hsz HB3.out HI.out HO5.out hgrow hown')
        clear hown' hgrow
        go_wp2
        go_roundw
        case rel => exact HR.out
        case measure => simp [intOf]; omega
      | false =>
        have HC : Hid (Ck.rdGo 0 [1] ts = ((k : Int), 2)) := by
          show _ = _
          rw [← HG.out, HD.out, Ck.rdGo, HP.out, if_neg (by rw [hb]; simp)]
        go_wp2
        go_ret3
        rw [HC.out]
        refine ⟨_, rfl, ?_, fun h => by simp at h⟩
        have h1 : Below w1.heap.size w1 w3 := HBR.out.trans (HB3.out.mono (by omega))
        have h2 := (h1.alloc h1.size (.cells #[.int .i64 pk, .int .i64 pv] 165)).trans HI.out.2.1
        exact HB.out.trans (h2.mono HB.out.size)
    · have HE : Hid (Ck.rdGo 0 [1] ts = if st = [1] then (0, 0) else ((ts.length : Int), 2)) := by
        show _ = _
        rw [← HG.out, List.drop_eq_nil_of_le (by omega), Ck.rdGo, show k = ts.length by omega]
      have hke : k = ts.length := by omega
      have HKE := hide hke
      clear HG HRW hke
      have HBB : Hid (Below w.heap.size w wr) := HB.out.trans (HBR.out.mono HB.out.size)
      cases hb : (st == [1]) with
      | true =>
        go_wp2_with (go_at_call 94; refine (mayEnd_any _ st _ HS.out).mono ?_; rintro e w' ⟨rfl, rfl⟩)
        go_ret3
        rw [HE.out, if_pos (by simpa using hb)]
        refine ⟨_, rfl, HBB.out, fun _ => ?_⟩
        have h := ownsRow_base HO.out (show w.heap.size ≤ w1.heap.size + 1 by have := HB.out.size; omega)
        rw [HKE.out, List.take_of_length_le (Nat.le_refl _)] at h
        exact h
      | false =>
        go_wp2_with (go_at_call 94; refine (mayEnd_any _ st _ HS.out).mono ?_; rintro e w' ⟨rfl, rfl⟩)
        go_ret3
        rw [HE.out, if_neg (by simpa using hb)]
        exact ⟨_, rfl, HBB.out, fun h => by simp at h⟩
end Go.Proofs.YtellilpeakpbfabGreatDoor

end

section
/-
  Both say the same of every text.
-/
namespace Go.Proofs.YtellilpeakpbfabGreatDoor
namespace Ck

/-- what a token is to both: its kind; what must come behind it as a statement, as an expression; whether it is a variable, the one brace, the other. -/
def face (t : List UInt8) : Int × Option (List UInt8) × Option (List UInt8) × Bool × Bool × Bool :=
  ((tokenP t).1, follows t, wants t, decide (0 ≤ slot t 118), t == [123], t == [125])
def faces : List (Int × Option (List UInt8) × Option (List UInt8) × Bool × Bool × Bool) :=
  [(0, none, none, false, false, false), (1, none, some [], false, false, false), (2, none, some [], false, false, false), (3, none, some [], true, false, false),
   (4, none, some [101, 101], false, false, false), (5, none, some [101, 101], false, false, false), (6, none, some [101, 101], false, false, false), (7, none, some [101, 101], false, false, false), (8, none, some [101, 101], false, false, false),
   (9, none, some [101], false, false, false), (10, none, some [101], false, false, false),
   (11, some [118, 101], none, false, false, false), (12, some [101, 101], none, false, false, false), (13, some [101], none, false, false, false),
   (14, some [101, 123, 115, 125, 123, 115, 125], none, false, false, false), (15, some [101, 123, 115, 125], none, false, false, false), (16, some [101], none, false, false, false), (17, some [], none, false, false, false),
   (18, none, none, false, true, false), (19, none, none, false, false, true)]

theorem slot_iff (t : List UInt8) (c : UInt8) : 0 ≤ slot t c ↔ ∃ b : UInt8, t = [c, b] ∧ 48 ≤ b.toNat ∧ b.toNat ≤ 51 := by
  constructor
  · intro h
    match t, h with
    | [], h => simp [slot] at h
    | [a], h => simp [slot] at h
    | [a, b], h =>
      unfold slot at h
      simp only at h
      split at h
      · rename_i g
        exact ⟨b, by rw [g.1], g.2.1, g.2.2⟩
      · simp at h
    | a :: b :: d :: r, h => simp [slot] at h
  · rintro ⟨b, rfl, h1, h2⟩
    show (0 : Int) ≤ if c = c ∧ 48 ≤ b.toNat ∧ b.toNat ≤ 51 then (b.toNat : Int) - 48 else -1
    rw [if_pos ⟨rfl, h1, h2⟩]
    omega
theorem num_slot (t : List UInt8) (n : Nat) (h : numIn t = some n) (c : UInt8) (hc : isDig c = false) : ¬ 0 ≤ slot t c := by
  intro hs
  obtain ⟨b, rfl, _⟩ := (slot_iff t c).1 hs
  unfold numIn at h
  split at h
  · rename_i g
    have := g.2.2 c (by simp)
    rw [this] at hc; cases hc
  · cases h
theorem face_other (t : List UInt8) (ht : t ≠ []) (hi : ∀ x ∈ wordsL, t ≠ x) : face t ∈ faces := by
  have hidx : ¬ wordsL.idxOf t < 16 := by
    intro c
    have hc : wordsL.idxOf t < wordsL.length := c
    have := List.getElem_idxOf hc
    exact hi _ (List.getElem_mem hc) this.symm
  have hf : follows t = none := by
    simp only [wordsL, List.mem_cons, List.not_mem_nil, or_false, forall_eq_or_imp, forall_eq] at hi
    simp [follows, hi]
  have hw : wants t = if 0 ≤ numberR t ∨ 0 ≤ slot t 97 ∨ 0 ≤ slot t 118 then some [] else none := by
    simp only [wordsL, List.mem_cons, List.not_mem_nil, or_false, forall_eq_or_imp, forall_eq] at hi
    simp [wants, hi]
  have h1 : (t == [123]) = false := beq_eq_false_iff_ne.2 (hi _ (by simp [wordsL]))
  have h2 : (t == [125]) = false := beq_eq_false_iff_ne.2 (hi _ (by simp [wordsL]))
  have hk : tokenP t = match numIn t with | some n => (1, (n : Int)) | none => named t := by rw [tokenP, if_neg hidx]; cases numIn t <;> rfl
  unfold face
  rw [hf, h1, h2, hw, hk, numR_iff t ht]
  cases hn : numIn t with
  | some n =>
    have s1 := num_slot t n hn 118 (by decide)
    simp [faces, s1]
  | none =>
    simp only [named]
    by_cases sa : 0 ≤ slot t 97
    · have sv : ¬ 0 ≤ slot t 118 := by
        intro hs
        obtain ⟨b, e1, _⟩ := (slot_iff t 97).1 sa
        obtain ⟨b', e2, _⟩ := (slot_iff t 118).1 hs
        rw [e1] at e2; simp at e2
      simp [faces, sa, sv]
    · by_cases sv : 0 ≤ slot t 118
      · simp [faces, sa, sv]
      · simp [faces, sa, sv]
theorem face_word : ∀ x ∈ wordsL, face x ∈ faces := by decide +kernel
theorem face_any (t : List UInt8) (ht : t ≠ []) : face t ∈ faces := by
  by_cases h : t ∈ wordsL
  · exact face_word t h
  · exact face_other t ht (fun x hx e => h (by rw [e]; exact hx))

def enc (x : Int) : List UInt8 := if x = 1 then [115] else if x = 2 then [115, 125] else if x = 3 then [123, 115, 125] else if x = 4 then [118] else [101]
def encS (st : List Int) : List UInt8 := st.flatMap enc
def In (x : Int) : Prop := x = 2 ∨ x = 3 ∨ x = 4 ∨ x = 5
def Valid (st : List Int) : Prop := ∃ r, st = r ++ [1] ∧ ∀ x ∈ r, In x
theorem Valid.body : Valid [1] := ⟨[], rfl, by simp⟩
theorem Valid.cons (x : Int) (r : List Int) (hx : In x) (hr : Valid r) : Valid (x :: r) := by
  obtain ⟨q, rfl, hq⟩ := hr
  refine ⟨x :: q, rfl, fun y hy => ?_⟩
  rcases List.mem_cons.1 hy with h | h
  · rw [h]; exact hx
  · exact hq y h
theorem Valid.ways {st : List Int} (h : Valid st) : st = [1] ∨ ∃ x r, st = x :: r ∧ In x ∧ Valid r := by
  obtain ⟨q, rfl, hq⟩ := h
  cases q with
  | nil => exact Or.inl rfl
  | cons x q => exact Or.inr ⟨x, q ++ [1], rfl, hq x (by simp), q, rfl, fun y hy => hq y (by simp [hy])⟩

theorem step_body (t : List UInt8) (hf : face t ∈ faces) :
    (take [1] (tokenP t).1).1 = (after (encS [1]) t).2 ∧ ((take [1] (tokenP t).1).1 = true → encS (take [1] (tokenP t).1).2 = (after (encS [1]) t).1 ∧ Valid (take [1] (tokenP t).1).2) := by
  have e : encS [1] = [115] := rfl
  rw [e]
  simp only [faces, face, List.mem_cons, List.not_mem_nil, or_false, Prod.mk.injEq] at hf
  rcases hf with ⟨h1, h2, _⟩ | ⟨h1, h2, _⟩ | ⟨h1, h2, _⟩ | ⟨h1, h2, _⟩ | ⟨h1, h2, _⟩ | ⟨h1, h2, _⟩ | ⟨h1, h2, _⟩ | ⟨h1, h2, _⟩ | ⟨h1, h2, _⟩ | ⟨h1, h2, _⟩ | ⟨h1, h2, _⟩ | ⟨h1, h2, _⟩ | ⟨h1, h2, _⟩ | ⟨h1, h2, _⟩ | ⟨h1, h2, _⟩ | ⟨h1, h2, _⟩ | ⟨h1, h2, _⟩ | ⟨h1, h2, _⟩ | ⟨h1, h2, _⟩ | ⟨h1, h2, _⟩
  all_goals rw [h1]
  all_goals first
    | (rw [after_s' _ _ h2, after_nil]; exact ⟨rfl, fun h => by simp [take_cons, stmt] at h⟩)
    | (rw [after_s _ _ _ h2]
       refine ⟨rfl, fun _ => ⟨rfl, ?_⟩⟩
       simp only [take_cons, stmt]
       repeat (first | exact Valid.body | (refine Valid.cons _ _ (by simp [In]) ?_)))
theorem encS_cons (x : Int) (r : List Int) : encS (x :: r) = enc x ++ encS r := by simp [encS]
theorem step_in (x : Int) (r : List Int) (t : List UInt8) (hx : In x) (hr : Valid r) (hf : face t ∈ faces) :
    (take (x :: r) (tokenP t).1).1 = (after (encS (x :: r)) t).2 ∧ ((take (x :: r) (tokenP t).1).1 = true → encS (take (x :: r) (tokenP t).1).2 = (after (encS (x :: r)) t).1 ∧ Valid (take (x :: r) (tokenP t).1).2) := by
  simp only [faces, face, List.mem_cons, List.not_mem_nil, or_false, Prod.mk.injEq] at hf
  rcases hx with rfl | rfl | rfl | rfl
  · have e : encS (2 :: r) = 115 :: 125 :: encS r := rfl
    rw [e]
    rcases hf with ⟨h1, h2, h3, h4, h5, h6⟩ | ⟨h1, h2, h3, h4, h5, h6⟩ | ⟨h1, h2, h3, h4, h5, h6⟩ | ⟨h1, h2, h3, h4, h5, h6⟩ | ⟨h1, h2, h3, h4, h5, h6⟩ | ⟨h1, h2, h3, h4, h5, h6⟩ | ⟨h1, h2, h3, h4, h5, h6⟩ | ⟨h1, h2, h3, h4, h5, h6⟩ | ⟨h1, h2, h3, h4, h5, h6⟩ | ⟨h1, h2, h3, h4, h5, h6⟩ | ⟨h1, h2, h3, h4, h5, h6⟩ | ⟨h1, h2, h3, h4, h5, h6⟩ | ⟨h1, h2, h3, h4, h5, h6⟩ | ⟨h1, h2, h3, h4, h5, h6⟩ | ⟨h1, h2, h3, h4, h5, h6⟩ | ⟨h1, h2, h3, h4, h5, h6⟩ | ⟨h1, h2, h3, h4, h5, h6⟩ | ⟨h1, h2, h3, h4, h5, h6⟩ | ⟨h1, h2, h3, h4, h5, h6⟩ | ⟨h1, h2, h3, h4, h5, h6⟩
    all_goals rw [h1]
    all_goals first
      | (rw [after_s' _ _ h2, after_c _ _ _ (by decide) (by decide) (by decide), h6]
         refine ⟨by simp [take_cons, stmt], fun h => ?_⟩
         first
           | (simp [take_cons, stmt] at h; done)
           | exact ⟨by simp [take_cons], by simpa [take_cons] using hr⟩)
      | (rw [after_s _ _ _ h2]
         refine ⟨by simp [take_cons, stmt], fun _ => ⟨by simp [take_cons, stmt, encS_cons, enc], ?_⟩⟩
         simp only [take_cons, stmt]
         repeat (first | exact hr | (refine Valid.cons _ _ (by simp [In]) ?_)))
  · have e : encS (3 :: r) = 123 :: 115 :: 125 :: encS r := rfl
    rw [e]
    rcases hf with ⟨h1, h2, h3, h4, h5, h6⟩ | ⟨h1, h2, h3, h4, h5, h6⟩ | ⟨h1, h2, h3, h4, h5, h6⟩ | ⟨h1, h2, h3, h4, h5, h6⟩ | ⟨h1, h2, h3, h4, h5, h6⟩ | ⟨h1, h2, h3, h4, h5, h6⟩ | ⟨h1, h2, h3, h4, h5, h6⟩ | ⟨h1, h2, h3, h4, h5, h6⟩ | ⟨h1, h2, h3, h4, h5, h6⟩ | ⟨h1, h2, h3, h4, h5, h6⟩ | ⟨h1, h2, h3, h4, h5, h6⟩ | ⟨h1, h2, h3, h4, h5, h6⟩ | ⟨h1, h2, h3, h4, h5, h6⟩ | ⟨h1, h2, h3, h4, h5, h6⟩ | ⟨h1, h2, h3, h4, h5, h6⟩ | ⟨h1, h2, h3, h4, h5, h6⟩ | ⟨h1, h2, h3, h4, h5, h6⟩ | ⟨h1, h2, h3, h4, h5, h6⟩ | ⟨h1, h2, h3, h4, h5, h6⟩ | ⟨h1, h2, h3, h4, h5, h6⟩
    all_goals rw [h1, after_c _ _ _ (by decide) (by decide) (by decide), h5]
    all_goals
      refine ⟨by simp [take_cons], fun h => ?_⟩
      first
        | (simp [take_cons] at h; done)
        | exact ⟨by simp [take_cons, encS_cons, enc], by simpa [take_cons] using Valid.cons 2 r (by simp [In]) hr⟩
  · have e : encS (4 :: r) = 118 :: encS r := rfl
    rw [e]
    rcases hf with ⟨h1, h2, h3, h4, h5, h6⟩ | ⟨h1, h2, h3, h4, h5, h6⟩ | ⟨h1, h2, h3, h4, h5, h6⟩ | ⟨h1, h2, h3, h4, h5, h6⟩ | ⟨h1, h2, h3, h4, h5, h6⟩ | ⟨h1, h2, h3, h4, h5, h6⟩ | ⟨h1, h2, h3, h4, h5, h6⟩ | ⟨h1, h2, h3, h4, h5, h6⟩ | ⟨h1, h2, h3, h4, h5, h6⟩ | ⟨h1, h2, h3, h4, h5, h6⟩ | ⟨h1, h2, h3, h4, h5, h6⟩ | ⟨h1, h2, h3, h4, h5, h6⟩ | ⟨h1, h2, h3, h4, h5, h6⟩ | ⟨h1, h2, h3, h4, h5, h6⟩ | ⟨h1, h2, h3, h4, h5, h6⟩ | ⟨h1, h2, h3, h4, h5, h6⟩ | ⟨h1, h2, h3, h4, h5, h6⟩ | ⟨h1, h2, h3, h4, h5, h6⟩ | ⟨h1, h2, h3, h4, h5, h6⟩ | ⟨h1, h2, h3, h4, h5, h6⟩
    all_goals rw [h1, after_v, h4]
    all_goals
      refine ⟨by simp [take_cons], fun h => ?_⟩
      first
        | (simp [take_cons] at h; done)
        | exact ⟨by simp [take_cons], by simpa [take_cons] using hr⟩
  · have e : encS (5 :: r) = 101 :: encS r := rfl
    rw [e]
    rcases hf with ⟨h1, h2, h3, h4, h5, h6⟩ | ⟨h1, h2, h3, h4, h5, h6⟩ | ⟨h1, h2, h3, h4, h5, h6⟩ | ⟨h1, h2, h3, h4, h5, h6⟩ | ⟨h1, h2, h3, h4, h5, h6⟩ | ⟨h1, h2, h3, h4, h5, h6⟩ | ⟨h1, h2, h3, h4, h5, h6⟩ | ⟨h1, h2, h3, h4, h5, h6⟩ | ⟨h1, h2, h3, h4, h5, h6⟩ | ⟨h1, h2, h3, h4, h5, h6⟩ | ⟨h1, h2, h3, h4, h5, h6⟩ | ⟨h1, h2, h3, h4, h5, h6⟩ | ⟨h1, h2, h3, h4, h5, h6⟩ | ⟨h1, h2, h3, h4, h5, h6⟩ | ⟨h1, h2, h3, h4, h5, h6⟩ | ⟨h1, h2, h3, h4, h5, h6⟩ | ⟨h1, h2, h3, h4, h5, h6⟩ | ⟨h1, h2, h3, h4, h5, h6⟩ | ⟨h1, h2, h3, h4, h5, h6⟩ | ⟨h1, h2, h3, h4, h5, h6⟩
    all_goals rw [h1, after_e, h3]
    all_goals
      refine ⟨by simp [take_cons, expr], fun h => ?_⟩
      first
        | (simp [take_cons, expr] at h; done)
        | (refine ⟨by simp [take_cons, expr, encS_cons, enc], ?_⟩
           simp only [take_cons, expr]
           repeat (first | exact hr | (refine Valid.cons _ _ (by simp [In]) ?_)))

theorem step_any (st : List Int) (t : List UInt8) (hv : Valid st) (ht : t ≠ []) :
    (take st (tokenP t).1).1 = (after (encS st) t).2 ∧ ((take st (tokenP t).1).1 = true → encS (take st (tokenP t).1).2 = (after (encS st) t).1 ∧ Valid (take st (tokenP t).1).2) := by
  rcases hv.ways with rfl | ⟨x, r, rfl, hx, hr⟩
  · exact step_body t (face_any t ht)
  · exact step_in x r t hx hr (face_any t ht)
theorem end_any (st : List Int) (hv : Valid st) : (∀ c ∈ encS st, c = 115) ↔ st = [1] := by
  rcases hv.ways with rfl | ⟨x, r, rfl, hx, hr⟩
  · simp [encS, enc]
  · constructor
    · intro h
      exfalso
      rw [encS_cons] at h
      rcases hx with rfl | rfl | rfl | rfl
      · have := h 125 (by simp [enc]); revert this; decide
      · have := h 123 (by simp [enc]); revert this; decide
      · have := h 118 (by simp [enc]); revert this; decide
      · have := h 101 (by simp [enc]); revert this; decide
    · intro h
      simp at h
      rcases hx with rfl | rfl | rfl | rfl <;> simp at h
theorem go_same (ts : List (List UInt8)) : ∀ (i : Nat) (st : List Int), Valid st → (∀ t ∈ ts, t ≠ []) → rdGo i st ts = chkGo i (encS st) ts := by
  induction ts with
  | nil =>
    intro i st hv _
    unfold rdGo chkGo
    by_cases h : st = [1]
    · rw [if_pos h, if_pos ((end_any st hv).2 h)]
    · rw [if_neg h, if_neg (fun g => h ((end_any st hv).1 g))]
  | cons t ts ih =>
    intro i st hv ht
    obtain ⟨h1, h2⟩ := step_any st t hv (ht t (by simp))
    unfold rdGo chkGo
    rw [← h1]
    by_cases h : (take st (tokenP t).1).1 = true
    · rw [if_pos h, if_pos h, ih _ _ (h2 h).2 (fun x hx => ht x (by simp [hx])), (h2 h).1]
    · rw [if_neg h, if_neg h]
/-- ████ -/
theorem read_same (l : List UInt8) : read l = refCheck l := by
  unfold read refCheck
  split
  · rfl
  · exact go_same (toks l) 0 [1] Valid.body (toks_len l).2.1

end Ck
end Go.Proofs.YtellilpeakpbfabGreatDoor

end

section
/-
  The plain mathematics of Show.
-/
namespace Go.Proofs.YtellilpeakpbfabGreatDoor
namespace Ck

/-- how a token is shown. -/
def showTok (t : List UInt8) : List UInt8 := match numIn t with | some n => Lib.decDigits n | none => t
/-- the first k tokens, a blank between each two. -/
def lineK (ts : List (List UInt8)) : Nat → List UInt8
  | 0 => []
  | k + 1 => lineK ts k ++ ((if 0 < k then [32] else []) ++ showTok (ts.getD k []))
def showP (l : List UInt8) : List UInt8 × Int := if (refCheck l).2 = 0 then (lineK (toks l) (toks l).length, 0) else ([], (refCheck l).2)

theorem numIn_lt (t : List UInt8) (n : Nat) (h : numIn t = some n) : n < 1000000 := by
  unfold numIn at h
  split at h
  · rename_i g
    have h1 := val_lt t g.2.2
    have h2 : 10 ^ t.length ≤ 10 ^ 6 := Nat.pow_le_pow_right (by omega) g.2.1
    cases h
    omega
  · cases h
theorem dec_len (n : Nat) (h : n < 1000000) : (Lib.decDigits n).length ≤ 6 := by
  have step : ∀ (k : Nat) (u : Nat), u < 10 ^ (k + 1) → (Lib.decDigits u).length ≤ k + 1 := by
    intro k
    induction k with
    | zero => intro u hu; rw [Lib.decDigits, dif_pos (by omega)]; simp
    | succ k ih =>
      intro u hu
      rw [Lib.decDigits]
      split
      · simp
      · have := ih (u / 10) (by rw [Nat.pow_succ] at hu; omega)
        simp; omega
  exact step 5 n (by omega)
theorem showTok_len (t : List UInt8) (h : t.length ≤ 400) : (showTok t).length ≤ 400 := by
  unfold showTok
  cases hn : numIn t with
  | none => exact h
  | some n => have := dec_len n (numIn_lt t n hn); simp only; omega
theorem lineK_len (ts : List (List UInt8)) (h : ∀ t ∈ ts, t.length ≤ 400) (k : Nat) : (lineK ts k).length ≤ 401 * k := by
  induction k with
  | zero => simp [lineK]
  | succ k ih =>
    have h1 : (showTok (ts.getD k [])).length ≤ 400 := by
      apply showTok_len
      by_cases hk : k < ts.length
      · have e : ts.getD k [] = ts[k] := by simp [List.getD, hk]
        rw [e]; exact h _ (List.getElem_mem hk)
      · simp [List.getD, hk]
    unfold lineK
    generalize showTok (ts.getD k []) = q at *
    split <;> simp <;> omega

theorem take_zero (st : List Int) : (take st 0).1 = false := by
  unfold take stmt expr
  repeat' split
  all_goals (first | rfl | simp_all)
/-- where all tokens may stand none of them is unknown. -/
theorem known (ts : List (List UInt8)) : ∀ (i : Nat) (st : List Int), (rdGo i st ts).2 = 0 → ∀ t ∈ ts, (tokenP t).1 ≠ 0 := by
  induction ts with
  | nil => simp
  | cons t ts ih =>
    intro i st h x hx
    unfold rdGo at h
    split at h
    · rename_i g
      rcases List.mem_cons.1 hx with rfl | hx'
      · intro h0
        rw [h0, take_zero] at g
        cases g
      · exact ih _ _ h x hx'
    · simp at h
theorem named_text (t : List UInt8) (h : numIn t = none) (hn : wordsL.idxOf t < 16 → False) (hk : (tokenP t).1 ≠ 0) :
    ∃ b : UInt8, 48 ≤ b.toNat ∧ b.toNat ≤ 51 ∧ ((t = [97, b] ∧ tokenP t = (2, (b.toNat : Int) - 48)) ∨ (t = [118, b] ∧ tokenP t = (3, (b.toNat : Int) - 48))) := by
  have e : tokenP t = named t := by rw [tokenP, if_neg hn, h]
  rw [e] at hk ⊢
  unfold named at hk ⊢
  by_cases sa : 0 ≤ slot t 97
  · rw [if_pos sa]
    obtain ⟨b, rfl, h1, h2⟩ := (slot_iff t 97).1 sa
    refine ⟨b, h1, h2, Or.inl ⟨rfl, ?_⟩⟩
    show (2, if (97 : UInt8) = 97 ∧ 48 ≤ b.toNat ∧ b.toNat ≤ 51 then (b.toNat : Int) - 48 else -1) = _
    rw [if_pos ⟨rfl, h1, h2⟩]
  · rw [if_neg sa] at hk ⊢
    by_cases sv : 0 ≤ slot t 118
    · rw [if_pos sv]
      obtain ⟨b, rfl, h1, h2⟩ := (slot_iff t 118).1 sv
      refine ⟨b, h1, h2, Or.inr ⟨rfl, ?_⟩⟩
      show (3, if (118 : UInt8) = 118 ∧ 48 ≤ b.toNat ∧ b.toNat ≤ 51 then (b.toNat : Int) - 48 else -1) = _
      rw [if_pos ⟨rfl, h1, h2⟩]
    · rw [if_neg sv] at hk
      exact absurd rfl hk
end Ck
end Go.Proofs.YtellilpeakpbfabGreatDoor

end
