import Derived.Test.YtellilpeakpbfabGreatDoorSplitToo
import Derived.Test.YtellilpeakpbfabGreatDoorFolToo
import Derived.Deep.QuietTactic
import Derived.BigQuiet
section
/-
  The walk of Tokens: the tokens of a source, as the document's answer cuts them.
-/
namespace Go.Proofs.YtellilpeakpbfabGreatDoor
open Go.RowKit

theorem sp_iff (c : UInt8) : Ck.isSp c = true ↔ (c.toNat : Int) = 32 ∨ (c.toNat : Int) = 10 := by
  have h1 := u8_eq c 32
  have h2 := u8_eq c 10
  simp only [Ck.isSp, Bool.or_eq_true, beq_iff_eq]
  rw [← h1, ← h2]
  rfl

/-- what stands in 'begun': -1, or where the token that is begun begins. -/
def Beg (l : List UInt8) (k : Nat) (b : Int) : Prop :=
  (b = -1 ∧ (Ck.scan (l.take k)).2 = []) ∨ ∃ j : Nat, j < k ∧ b = j ∧ (Ck.scan (l.take k)).2 = (l.take k).drop j
def TkRel (s : ByteArray) (w : World) (v a i : Value) (wr : World) : Prop :=
  ∃ (k : Nat) (b : Int), k ≤ s.size ∧ -1 ≤ b ∧ b < k ∧ i = .int .i64 k ∧ a = .int .i64 b ∧ Beg s.data.toList k b ∧
      wr.ownsRow w.heap.size 9 1 v (Ck.scan (s.data.toList.take k)).1.length ((Ck.scan (s.data.toList.take k)).1.map T) ∧ Below w.heap.size w wr

theorem beg_done {s : ByteArray} {k j : Nat} (hlt : k < s.size) (hj : j < k) (hsp : Ck.isSp s[k] = true) (h : Beg s.data.toList k j) :
    Ck.scan (s.data.toList.take (k + 1)) = ((Ck.scan (s.data.toList.take k)).1 ++ [(s.data.toList.take k).drop j], []) := by
  have hl : s.data.toList.length = s.size := by simp
  rcases h with ⟨h1, _⟩ | ⟨j', h1, h2, h3⟩
  · omega
  · have : j' = j := by omega
    subst this
    rw [take_snoc s k hlt, Ck.scan_done _ _ hsp (by rw [h3]; exact Ck.drop_ne _ _ k hj (by omega)), h3]
theorem beg_gap {s : ByteArray} {k : Nat} {b : Int} (hlt : k < s.size) (hb : b < 0) (hsp : Ck.isSp s[k] = true) (h : Beg s.data.toList k b) :
    Ck.scan (s.data.toList.take (k + 1)) = ((Ck.scan (s.data.toList.take k)).1, []) := by
  rcases h with ⟨_, h2⟩ | ⟨j', h1, h2, h3⟩
  · rw [take_snoc s k hlt, Ck.scan_gap _ _ hsp h2]
  · omega
theorem beg_first {s : ByteArray} {k : Nat} {b : Int} (hlt : k < s.size) (hb : b < 0) (hsp : Ck.isSp s[k] = false) (h : Beg s.data.toList k b) :
    Ck.scan (s.data.toList.take (k + 1)) = ((Ck.scan (s.data.toList.take k)).1, [s[k]]) ∧ Beg s.data.toList (k + 1) k := by
  have hl : s.data.toList.length = s.size := by simp
  rcases h with ⟨_, h2⟩ | ⟨j', h1, h2, h3⟩
  · have e : Ck.scan (s.data.toList.take (k + 1)) = ((Ck.scan (s.data.toList.take k)).1, [s[k]]) := by
      rw [take_snoc s k hlt, Ck.scan_more _ _ hsp, h2]; rfl
    refine ⟨e, Or.inr ⟨k, by omega, rfl, ?_⟩⟩
    rw [e, take_snoc s k hlt, List.drop_append_of_le_length (by simp; omega), Ck.drop_all]; rfl
  · omega
theorem beg_more {s : ByteArray} {k : Nat} {b : Int} (hlt : k < s.size) (hb : 0 ≤ b) (hsp : Ck.isSp s[k] = false) (h : Beg s.data.toList k b) :
    (Ck.scan (s.data.toList.take (k + 1))).1 = (Ck.scan (s.data.toList.take k)).1 ∧ Beg s.data.toList (k + 1) b := by
  have hl : s.data.toList.length = s.size := by simp
  rcases h with ⟨h1, _⟩ | ⟨j', h1, h2, h3⟩
  · omega
  · rw [take_snoc s k hlt, Ck.scan_more _ _ hsp]
    refine ⟨rfl, Or.inr ⟨j', by omega, h2, ?_⟩⟩
    rw [take_snoc s k hlt, Ck.scan_more _ _ hsp, List.drop_append_of_le_length (by simp; omega), h3]

set_option maxHeartbeats 2000000 in
set_option maxRecDepth 100000 in
theorem tokens_any (s : ByteArray) (w : World) (hs : s.size ≤ 400) :
    Calls Tryz.prog 140 #[.string s] w fun e w' => ∃ v, e = .returned v ∧ w'.ownsRow w.heap.size 9 1 v (Ck.toks s.data.toList).length ((Ck.toks s.data.toList).map T) ∧ Below w.heap.size w w' := by
  obtain ⟨i0, hi, hz0, hz1, hz2⟩ := info_parts Tryz.infoStr
  have hl : s.data.toList.length = s.size := by simp
  have HL := hide hl
  clear hl
  go_enter Tryz.func140, Tryz.ntmps140
  go_wp2
  go_loopw [3, 4, 5] (fun v a i wr => TkRel s w v a i wr) (fun _ _ i _ => s.size - (intOf i).toNat)
  case atStart => exact ⟨0, -1, Nat.zero_le _, by omega, by omega, rfl, rfl, Or.inl ⟨rfl, rfl⟩, World.ownsRow_nil _ _ _ _, Below.refl _ _⟩
  case round =>
    obtain ⟨k, b, hk, hb1, hb2, rfl, rfl, hsc, hown, hbel⟩ := hrel
    have HS := hide hsc
    have HO := hide hown
    have HB := hide hbel
    have hn : (Ck.scan (s.data.toList.take k)).1.length ≤ 400 := by
      have h1 := (Ck.scan_len (s.data.toList.take k)).1
      have h2 : (s.data.toList.take k).length ≤ k := by simp; omega
      omega
    have hsz := hbel.size
    clear hsc hown hbel
    by_cases hlt : k < s.size
    · by_cases hsp : Ck.isSp s[k] = true
      · have HSP := hide hsp
        have hc := (sp_iff _).1 hsp
        clear hsp
        by_cases hb0 : 0 ≤ b
        · obtain ⟨j, rfl⟩ := Int.eq_ofNat_of_zero_le hb0
          have fin : ∀ v' w1, w1.ownsRow w.heap.size 9 1 v' ((Ck.scan (s.data.toList.take k)).1.length + 1) ((Ck.scan (s.data.toList.take k)).1.map T ++ [.string (s.extract j k)]) → Below w.heap.size w w1 → TkRel s w v' (.int .i64 (-1)) (.int .i64 ((k : Int) + 1)) w1 := by
            intro v' w1 h1 h2
            have e := beg_done hlt (by omega) HSP.out HS.out
            refine ⟨k + 1, -1, by omega, by omega, by omega, by go_num, rfl, Or.inl ⟨rfl, by rw [e]⟩, ?_, h2⟩
            rw [e]
            rw [extract_T] at h1
            simpa using h1
          have FIN := hide fin
          clear fin
          rcases hc with hc | hc
          · have g1 : ((s[k].toNat : Int) == 32) = true := beq_iff_eq.2 hc
            clear hc
            go_wp2_with (at_builtin; refine wpList_append_own _ rfl (.tmp 28) (.tmp 33) 159 rfl w.heap.size 9 i0 (.string ⟨#[]⟩) 1 16 Tryz.underlying159 hi hz0 hz1 hz2 rfl (by decide) _ _ _ rfl (HO.out.alloc _) ⟨_, 0, none⟩ 1 1 [.string (s.extract j k)] rfl rfl ?c1 ?c2 ?c3 ?c4 ?c5 ?_)
            case c1 =>
              intro j u hj
              match j, hj with
              | 0, hj => simp at hj; subst hj; simp [Addr.add]
            case c2 => intro u hu; simp at hu; subst hu; rfl
            case c3 => unfold maxLen; omega
            case c4 => omega
            case c5 => simp; omega
            intro v' w1 hown' hgrow _
            have HO' := hide hown'
            have HG := hide hgrow
            clear hown' hgrow
            go_wp2
            go_roundw
            case rel => exact FIN.out _ _ HO'.out (below_own HB.out hsz HO.out HG.out)
            case measure => simp [intOf]; omega
          · have g1 : ((s[k].toNat : Int) == 32) = false := beq_eq_false_iff_ne.2 (by omega)
            have g2 : ((s[k].toNat : Int) == 10) = true := beq_iff_eq.2 hc
            clear hc
            go_wp2_with (at_builtin; refine wpList_append_own _ rfl (.tmp 28) (.tmp 33) 159 rfl w.heap.size 9 i0 (.string ⟨#[]⟩) 1 16 Tryz.underlying159 hi hz0 hz1 hz2 rfl (by decide) _ _ _ rfl (HO.out.alloc _) ⟨_, 0, none⟩ 1 1 [.string (s.extract j k)] rfl rfl ?e1 ?e2 ?e3 ?e4 ?e5 ?_)
            case e1 =>
              intro j u hj
              match j, hj with
              | 0, hj => simp at hj; subst hj; simp [Addr.add]
            case e2 => intro u hu; simp at hu; subst hu; rfl
            case e3 => unfold maxLen; omega
            case e4 => omega
            case e5 => simp; omega
            intro v' w1 hown' hgrow _
            have HO' := hide hown'
            have HG := hide hgrow
            clear hown' hgrow
            go_wp2
            go_roundw
            case rel => exact FIN.out _ _ HO'.out (below_own HB.out hsz HO.out HG.out)
            case measure => simp [intOf]; omega
        · have hb3 : b < 0 := by omega
          have fin : ∀ v w1, w1.ownsRow w.heap.size 9 1 v (Ck.scan (s.data.toList.take k)).1.length ((Ck.scan (s.data.toList.take k)).1.map T) → Below w.heap.size w w1 → TkRel s w v (.int .i64 b) (.int .i64 ((k : Int) + 1)) w1 := by
            intro v w1 h1 h2
            have e := beg_gap hlt (by omega) HSP.out HS.out
            refine ⟨k + 1, b, by omega, by omega, by omega, by go_num, rfl, Or.inl ⟨by omega, by rw [e]⟩, ?_, h2⟩
            rw [e]
            exact h1
          have FIN := hide fin
          clear fin hb0
          rcases hc with hc | hc
          · have g1 : ((s[k].toNat : Int) == 32) = true := beq_iff_eq.2 hc
            clear hc
            go_wp2
            go_roundw
            case rel => exact FIN.out _ _ HO.out HB.out
            case measure => simp [intOf]; omega
          · have g1 : ((s[k].toNat : Int) == 32) = false := beq_eq_false_iff_ne.2 (by omega)
            have g2 : ((s[k].toNat : Int) == 10) = true := beq_iff_eq.2 hc
            clear hc
            go_wp2
            go_roundw
            case rel => exact FIN.out _ _ HO.out HB.out
            case measure => simp [intOf]; omega
      · have hsp' : Ck.isSp s[k] = false := by simpa using hsp
        have HSP := hide hsp'
        have hc : ¬ ((s[k].toNat : Int) = 32 ∨ (s[k].toNat : Int) = 10) := fun h => hsp ((sp_iff _).2 h)
        have g1 : ((s[k].toNat : Int) == 32) = false := beq_eq_false_iff_ne.2 (by omega)
        have g2 : ((s[k].toNat : Int) == 10) = false := beq_eq_false_iff_ne.2 (by omega)
        clear hsp hsp' hc
        by_cases hb0 : 0 ≤ b
        · go_wp2
          go_roundw
          case rel =>
            have e := beg_more hlt hb0 HSP.out HS.out
            refine ⟨k + 1, b, by omega, by omega, by omega, by go_num, rfl, e.2, ?_, HB.out⟩
            rw [e.1]; exact HO.out
          case measure => simp [intOf]; omega
        · have hb3 : b < 0 := by omega
          go_wp2
          go_roundw
          case rel =>
            have e := beg_first hlt hb3 HSP.out HS.out
            refine ⟨k + 1, k, by omega, by omega, by omega, by go_num, rfl, e.2, ?_, HB.out⟩
            rw [e.1]; exact HO.out
          case measure => simp [intOf]; omega
    · have HT := hide (take_all s k hlt)
      by_cases hb0 : 0 ≤ b
      · obtain ⟨j, rfl⟩ := Int.eq_ofNat_of_zero_le hb0
        go_wp2_with (at_builtin; refine wpList_append_own _ rfl (.tmp 44) (.tmp 48) 159 rfl w.heap.size 9 i0 (.string ⟨#[]⟩) 1 16 Tryz.underlying159 hi hz0 hz1 hz2 rfl (by decide) _ _ _ rfl (HO.out.alloc _) ⟨_, 0, none⟩ 1 1 [.string (s.extract j s.size)] rfl rfl ?d1 ?d2 ?d3 ?d4 ?d5 ?_)
        case d1 =>
          intro j u hj
          match j, hj with
          | 0, hj => simp at hj; subst hj; simp [Addr.add]
        case d2 => intro u hu; simp at hu; subst hu; rfl
        case d3 => unfold maxLen; omega
        case d4 => omega
        case d5 => simp; omega
        intro v' w1 hown' hgrow _
        have HO' := hide hown'
        have HG := hide hgrow
        clear hown' hgrow
        go_wp2
        go_ret
        refine ⟨v', rfl, ?_, below_own HB.out hsz HO.out HG.out⟩
        have h := HO'.out
        rcases HS.out with ⟨h1, _⟩ | ⟨j', h1, h2, h3⟩
        · omega
        · have : j' = j := by omega
          subst this
          rw [extract_T, show s.size = k by omega, ← h3, HT.out] at h
          rw [Ck.toks_end _ (by rw [HT.out] at h3; rw [h3, ← HT.out]; exact Ck.drop_ne _ j' k (by omega) (by rw [HL.out]; omega))]
          simpa using h
      · have hb3 : b < 0 := by omega
        go_wp2
        go_ret
        refine ⟨_, rfl, ?_, HB.out⟩
        have h := HO.out
        rcases HS.out with ⟨_, h2⟩ | ⟨j', h1, h2, h3⟩
        · rw [HT.out] at h h2
          rw [Ck.toks_gap _ h2]
          exact h
        · omega
end Go.Proofs.YtellilpeakpbfabGreatDoor

end

section
/-
  More plain mathematics: what must still come as the document's answer keeps it; that both say the same.
-/
namespace Go.Proofs.YtellilpeakpbfabGreatDoor
namespace Ck

/-- what must still come behind the token t; false: it cannot stand. -/
def after : List UInt8 → List UInt8 → List UInt8 × Bool
  | [], _ => ([], false)
  | c :: r, t =>
    if c = 115 then match follows t with
      | some f => (f ++ c :: r, true)
      | none => after r t
    else if c = 101 then (((wants t).getD []) ++ r, (wants t).isSome)
    else if c = 118 then (r, decide (0 ≤ slot t 118))
    else (r, t == [c])

theorem after_nil (t : List UInt8) : after [] t = ([], false) := rfl
theorem after_s (r t f : List UInt8) (h : follows t = some f) : after (115 :: r) t = (f ++ 115 :: r, true) := by simp [after, h]
theorem after_s' (r t : List UInt8) (h : follows t = none) : after (115 :: r) t = after r t := by simp [after, h]
theorem after_e (r t : List UInt8) : after (101 :: r) t = (((wants t).getD []) ++ r, (wants t).isSome) := by simp [after]
theorem after_v (r t : List UInt8) : after (118 :: r) t = (r, decide (0 ≤ slot t 118)) := by simp [after]
theorem after_c (c : UInt8) (r t : List UInt8) (h1 : c ≠ 115) (h2 : c ≠ 101) (h3 : c ≠ 118) : after (c :: r) t = (r, t == [c]) := by simp [after, h1, h2, h3]

/-- the document's answer, from the i-th token on. -/
def chkGo (i : Nat) (still : List UInt8) : List (List UInt8) → Int × Int
  | [] => if ∀ c ∈ still, c = 115 then (0, 0) else (i, 2)
  | t :: ts => if (after still t).2 = true then chkGo (i + 1) (after still t).1 ts else (i, 2)
def refCheck (l : List UInt8) : Int × Int := if 400 < l.length then (0, 1) else chkGo 0 [115] (toks l)
/-- the program's, likewise. -/
def rdGo (i : Nat) (st : List Int) : List (List UInt8) → Int × Int
  | [] => if st = [1] then (0, 0) else (i, 2)
  | t :: ts => if (take st (tokenP t).1).1 = true then rdGo (i + 1) (take st (tokenP t).1).2 ts else (i, 2)
def read (l : List UInt8) : Int × Int := if 400 < l.length then (0, 1) else rdGo 0 [1] (toks l)
theorem after_len (s t : List UInt8) : (after s t).1.length ≤ s.length + 7 := by
  induction s with
  | nil => simp [after]
  | cons c r ih =>
    have hw : ((wants t).getD []).length ≤ 2 := by
      unfold wants; repeat' split
      all_goals simp
    by_cases h1 : c = 115
    · subst h1
      cases hf : follows t with
      | none => rw [after_s' _ _ hf]; simp; omega
      | some f =>
        rw [after_s _ _ _ hf]
        have hl : f.length ≤ 7 := by
          unfold follows at hf
          repeat' split at hf
          all_goals (first | (cases hf; done) | (cases hf; simp))
        simp; omega
    by_cases h2 : c = 101
    · subst h2; rw [after_e]; simp; omega
    by_cases h3 : c = 118
    · subst h3; rw [after_v]; simp; omega
    rw [after_c _ _ _ h1 h2 h3]; simp; omega

end Ck
end Go.Proofs.YtellilpeakpbfabGreatDoor

end

section
/-
  The walk of after: what must still come behind a token, as the document's answer says it.
-/
namespace Go.Proofs.YtellilpeakpbfabGreatDoor
open Go.RowKit

def strLen : Value → Nat | .string u => u.size | _ => 0
theorem append_T (a b : ByteArray) : Value.string (a ++ b) = T (a.data.toList ++ b.data.toList) := by
  unfold T
  congr 1
theorem head_rest (u : ByteArray) (h : 0 < u.size) : u.data.toList = u[0] :: (u.extract 1 u.size).data.toList := by
  obtain ⟨⟨l⟩⟩ := u
  match l, h with
  | c :: r, _ =>
    have e : (ByteArray.mk ⟨c :: r⟩).size = r.length + 1 := rfl
    simp [ByteArray.data_extract, e]
    rfl
theorem rest_size (u : ByteArray) : (u.extract 1 u.size).size = u.size - 1 := by simp
theorem first_list (u : ByteArray) (h : 0 < u.size) : (u.extract 0 1).data.toList = [u[0]] := by
  obtain ⟨⟨l⟩⟩ := u
  match l, h with
  | c :: r, _ =>
    simp [ByteArray.data_extract]
    rfl
theorem u8_of (c : UInt8) (n : Nat) (hn : n < 256) (h : ((c.toNat : Int) == (n : Int)) = true) : c = UInt8.ofNat n := by
  have h1 : (c.toNat : Int) = n := beq_iff_eq.1 h
  apply UInt8.toNat_inj.1
  simp
  omega
theorem u8_not (c : UInt8) (n : Nat) (hn : n < 256) (h : ((c.toNat : Int) == (n : Int)) = false) : c ≠ UInt8.ofNat n := by
  intro hc
  have h1 : ¬ (c.toNat : Int) = n := by simpa using h
  apply h1
  rw [hc]
  simp
  omega
theorem ret_T2' {x : Value} {m : List UInt8} {a b : Bool} (h : x = T m) (g : a = b) : Ending.returned (.tuple #[x, .bool a]) = .returned (.tuple #[T m, .bool b]) := by rw [h, g]

theorem follows_len {t f : List UInt8} (hf : Ck.follows t = some f) : f.length ≤ 7 := by
  unfold Ck.follows at hf
  repeat' split at hf
  all_goals (first | (cases hf; done) | (cases hf; simp))
theorem wants_len {t : List UInt8} : ((Ck.wants t).getD []).length ≤ 2 := by
  unfold Ck.wants
  repeat' split
  all_goals simp

set_option maxHeartbeats 1000000 in
set_option maxRecDepth 100000 in
theorem after_any (s t : ByteArray) (w : World) (hs : s.size ≤ 100000) (ht : t.size ≤ 400) :
    Calls Tryz.prog 141 #[.string s, .string t] w fun e w' => e = .returned (.tuple #[T (Ck.after s.data.toList t.data.toList).1, .bool (Ck.after s.data.toList t.data.toList).2]) ∧ ∃ n, w' = w.drewN n := by
  have HV := hide (slot_any t 118)
  go_enter Tryz.func141, Tryz.ntmps141
  go_wp2
  go_loop [0] (fun x => ∃ u : ByteArray, x = .string u ∧ u.size ≤ 100000 ∧ Ck.after u.data.toList t.data.toList = Ck.after s.data.toList t.data.toList) (fun x => strLen x)
  case atStart => exact ⟨s, rfl, hs, rfl⟩
  case round =>
    obtain ⟨u, rfl, hu, ha⟩ := hrel
    have HA := hide ha
    clear ha
    by_cases h0 : 0 < u.size
    · have HH := hide (head_rest u h0)
      have HR := hide (rest_size u)
      cases g1 : ((u[0].toNat : Int) == 115) with
      | true =>
        have e0 : u[0] = 115 := u8_of _ 115 (by omega) g1
        have HE := hide e0
        clear e0
        cases hf : Ck.follows t.data.toList with
        | some f =>
          have hc := follows_any t
          rw [hf] at hc
          obtain ⟨F, hF⟩ : ∃ F : ByteArray, F = ⟨f.toArray⟩ := ⟨_, rfl⟩
          have hc' : ∀ w, Calls Tryz.prog 164 #[.string t] w fun e w' => e = .returned (.tuple #[.string F, .bool true]) ∧ w' = w := by rw [hF]; exact hc
          have HC := hide hc'
          have hFs : F.size ≤ 7 := by rw [hF]; exact follows_len hf
          have HF := hide hF
          have HFO := hide hf
          clear hc hc' hF hf
          go_wp2_with fail
          refine (HC.out _).mono ?_
          rintro e w' ⟨rfl, rfl⟩
          go_wp2
          go_ret2
          refine ⟨ret_T2' ?_ ?_, 0, rfl⟩
          · rw [← HA.out, HH.out, HE.out, Ck.after_s _ _ _ HFO.out]
            show Value.string (F ++ u) = _
            rw [append_T, HH.out, HE.out, HF.out]
          · rw [← HA.out, HH.out, HE.out, Ck.after_s _ _ _ HFO.out]
        | none =>
          have hc := follows_any t
          rw [hf] at hc
          have hc' : ∀ w, Calls Tryz.prog 164 #[.string t] w fun e w' => e = .returned (.tuple #[.string ⟨#[]⟩, .bool false]) ∧ w' = w := hc
          have HC := hide hc'
          have HFO := hide hf
          clear hc hc' hf
          go_wp2_with (go_at_call 164; refine (HC.out _).mono ?_; rintro e w' ⟨rfl, rfl⟩)
          go_round
          case rel =>
            refine ⟨u.extract 1 u.size, rfl, by rw [HR.out]; omega, ?_⟩
            rw [← HA.out, HH.out, HE.out, Ck.after_s' _ _ HFO.out]
          case measure =>
            show (u.extract 1 u.size).size < u.size
            rw [HR.out]; omega
      | false =>
        have n1 : u[0] ≠ 115 := u8_not _ 115 (by omega) g1
        have HN1 := hide n1
        clear n1
        cases g2 : ((u[0].toNat : Int) == 101) with
        | true =>
          have e0 : u[0] = 101 := u8_of _ 101 (by omega) g2
          have HE := hide e0
          clear e0
          have hc := wants_any t
          obtain ⟨F, hF⟩ : ∃ F : ByteArray, F = ⟨((Ck.wants t.data.toList).getD []).toArray⟩ := ⟨_, rfl⟩
          have hc' : ∀ w, Calls Tryz.prog 165 #[.string t] w fun e w' => e = .returned (.tuple #[.string F, .bool (Ck.wants t.data.toList).isSome]) ∧ w' = w := by rw [hF]; exact fun w => hc w ht
          have HC := hide hc'
          have hFs : F.size ≤ 2 := by rw [hF]; exact wants_len
          have HF := hide hF
          clear hc hc' hF
          go_wp2_with fail
          refine (HC.out _).mono ?_
          rintro e w' ⟨rfl, rfl⟩
          go_wp2
          go_ret2
          refine ⟨ret_T2' ?_ ?_, 0, rfl⟩
          · rw [← HA.out, HH.out, HE.out, Ck.after_e]
            show Value.string (F ++ u.extract 1 u.size) = _
            rw [append_T, HF.out]
          · rw [← HA.out, HH.out, HE.out, Ck.after_e]
        | false =>
          have n1 : u[0] ≠ 101 := u8_not _ 101 (by omega) g2
          have HN2 := hide n1
          clear n1
          cases g3 : ((u[0].toNat : Int) == 118) with
          | true =>
            have e0 : u[0] = 118 := u8_of _ 118 (by omega) g3
            have HE := hide e0
            clear e0
            have HT : Hid (∀ b : Bool, b = decide (0 ≤ Ck.slot t.data.toList 118) → Ending.returned (.tuple #[.string (u.extract 1 u.size), .bool b]) = Ending.returned (.tuple #[T (Ck.after s.data.toList t.data.toList).1, .bool (Ck.after s.data.toList t.data.toList).2])) := by
              intro b hb
              refine ret_T2' ?_ ?_
              · rw [← HA.out, HH.out, HE.out, Ck.after_v]; rfl
              · rw [← HA.out, HH.out, HE.out, Ck.after_v, hb]
            generalize Ck.slot t.data.toList 118 = v at *
            go_wp2_with fail
            refine (HV.out _).mono ?_
            rintro e w' ⟨rfl, rfl⟩
            go_wp2
            go_ret2
            exact ⟨HT.out _ rfl, 0, rfl⟩
          | false =>
            have n1 : u[0] ≠ 118 := u8_not _ 118 (by omega) g3
            have HN3 := hide n1
            clear n1
            have HT : Hid (∀ b : Bool, b = (t.toList == (u.extract 0 1).toList) → Ending.returned (.tuple #[.string (u.extract 1 u.size), .bool b]) = Ending.returned (.tuple #[T (Ck.after s.data.toList t.data.toList).1, .bool (Ck.after s.data.toList t.data.toList).2])) := by
              intro b hb
              refine ret_T2' ?_ ?_
              · rw [← HA.out, HH.out, Ck.after_c _ _ _ HN1.out HN2.out HN3.out]; rfl
              · rw [← HA.out, HH.out, Ck.after_c _ _ _ HN1.out HN2.out HN3.out, hb, ByteArray.toList_eq, ByteArray.toList_eq, first_list u h0]
            clear HH HR HN1 HN2 HN3 HA HV
            go_wp2
            go_quiet (fail)
            go_wp2
            go_ret2
            exact ⟨HT.out _ rfl, nq, rfl⟩
    · go_wp2
      go_ret2
      have hE : u.data.toList = [] := by
        apply List.eq_nil_of_length_eq_zero
        have : u.data.toList.length = u.size := by simp
        omega
      refine ⟨?_, 0, rfl⟩
      rw [← HA.out, hE]
      rfl
end Go.Proofs.YtellilpeakpbfabGreatDoor

end

section
/-
  The walk of the document's Check.
-/
namespace Go.Proofs.YtellilpeakpbfabGreatDoor
open Go.RowKit

/-- A row of texts that a call has made: its value, its cells. -/
theorem row_shape {w : World} {B : Nat} {v : Value} {ts : List (List UInt8)} (h : w.ownsRow B 9 1 v ts.length (ts.map T)) :
    ∃ ao cap, v = .slice ao ts.length cap ∧ (0 < ts.length → ∃ g, ao = some ⟨g, 0, none⟩ ∧ B ≤ g ∧ g < w.heap.size ∧ ∀ j, j < ts.length → w.cell? ⟨g, j, none⟩ = some (.string ⟨(ts.getD j []).toArray⟩)) := by
  have h0 := h
  rcases h.2 with ⟨rfl, hn⟩ | ⟨g, cap, cur, rfl, hg, hh, hcap, hm, hsz, htake⟩
  · exact ⟨none, 0, by rw [hn], fun hp => by omega⟩
  · refine ⟨_, cap, rfl, fun _ => ⟨g, rfl, hg, (Array.getElem?_eq_some_iff.1 hh).1, fun j hj => ?_⟩⟩
    have := h0.cellAt j (by simpa using hj)
    rw [this]
    simp [List.getD, hj, T]

set_option maxHeartbeats 2000000 in
set_option maxRecDepth 100000 in
theorem refCheck_short (s : ByteArray) (w : World) (hs : s.size ≤ 400) :
    Calls Tryz.prog 108 #[.string s] w fun e w' => e = .returned (.tuple #[.int .i64 (Ck.refCheck s.data.toList).1, .int .i64 (Ck.refCheck s.data.toList).2]) ∧ Below w.heap.size w w' := by
  have hl : s.data.toList.length = s.size := by simp
  have hR : Ck.refCheck s.data.toList = Ck.chkGo 0 [115] (Ck.toks s.data.toList) := by rw [Ck.refCheck, if_neg (by omega)]
  rw [hR]
  have htk := Ck.toks_len s.data.toList
  have ht := tokens_any s
  generalize Ck.toks s.data.toList = ts at *
  have HT := hide ht
  obtain ⟨hn1, hn2, hn3⟩ := htk
  rw [hl] at hn1 hn3
  have HN := hide hn3
  clear ht hR hl hn2 hn3
  have hd4 : decide (400 < (s.size : Int)) = false := by simp; omega
  go_enter Tryz.func108, Tryz.ntmps108
  go_wp2_with fail
  refine (HT.out _ hs).mono ?_
  rintro e w1 ⟨v, rfl, hown, hbel⟩
  obtain ⟨ao, cap, rfl, hrow⟩ := row_shape hown
  have HB := hide hbel
  have HRW := hide hrow
  clear hown hbel hrow HT
  go_wp2
  go_loopw [5, 6] (fun x i wr => ∃ (k : Nat) (u : ByteArray), k ≤ ts.length ∧ i = .int .i64 k ∧ x = .string u ∧ u.size ≤ 1 + 7 * k ∧ Ck.chkGo k u.data.toList (ts.drop k) = Ck.chkGo 0 [115] ts ∧ ∃ m, wr = w1.drewN m)
    (fun _ i _ => ts.length - (intOf i).toNat)
  case atStart => exact ⟨0, ⟨#[115]⟩, Nat.zero_le _, rfl, rfl, by decide, rfl, 0, rfl⟩
  case round =>
    obtain ⟨k, u, hk, rfl, rfl, hu, hgo, m, rfl⟩ := hrel
    have HG := hide hgo
    clear hgo
    by_cases hlt : k < ts.length
    · obtain ⟨g, rfl, hg1, hg2, hcells⟩ := HRW.out (by omega)
      obtain ⟨t, hte⟩ : ∃ t, t = ts.getD k [] := ⟨_, rfl⟩
      have hck : w1.cell? ⟨g, k, none⟩ = some (.string ⟨t.toArray⟩) := by rw [hte]; exact hcells k hlt
      have htl : t.length ≤ s.size := HN.out t (by rw [hte]; simp [List.getD, hlt])
      have hdr : ts.drop k = t :: ts.drop (k + 1) := by rw [List.drop_eq_getElem_cons hlt, hte]; simp [List.getD, hlt]
      have HD := hide hdr
      clear hcells hdr hte
      have ha := after_any u ⟨t.toArray⟩ (w1.drewN m) (by omega) (by show t.length ≤ 400; omega)
      have HA := hide ha
      clear ha
      cases hb : (Ck.after u.data.toList t).2 with
      | true =>
        have HC : Hid (Ck.chkGo (k + 1) (Ck.after u.data.toList t).1 (ts.drop (k + 1)) = Ck.chkGo 0 [115] ts) := by
          show _ = _
          rw [← HG.out, HD.out, Ck.chkGo, if_pos hb]
        have HL := hide (Ck.after_len u.data.toList t)
        rw [hb] at HA
        clear hb HG
        go_wp2_with (go_at_call 141; refine HA.out.mono ?_; rintro e w' ⟨rfl, n, rfl⟩)
        go_roundw
        case rel =>
          refine ⟨k + 1, ⟨(Ck.after u.data.toList t).1.toArray⟩, by omega, by go_num, rfl, ?_, HC.out, m + n, ?_⟩
          · have h1 := HL.out
            have h2 : u.data.toList.length = u.size := by simp
            show (Ck.after u.data.toList t).1.length ≤ _
            omega
          · rfl
        case measure => simp [intOf]; omega
      | false =>
        have HC : Hid (Ck.chkGo 0 [115] ts = ((k : Int), 2)) := by
          show _ = _
          rw [← HG.out, HD.out, Ck.chkGo, if_neg (by rw [hb]; simp)]
        rw [hb] at HA
        clear hb HG
        go_wp2_with (go_at_call 141; refine HA.out.mono ?_; rintro e w' ⟨rfl, n, rfl⟩)
        go_ret2
        rw [HC.out]
        refine ⟨rfl, ?_⟩
        exact below_drewN HB.out _
    · have HE : Hid (Ck.chkGo 0 [115] ts = if ∀ c ∈ u.data.toList, c = 115 then (0, 0) else ((ts.length : Int), 2)) := by
        show _ = _
        rw [← HG.out, List.drop_eq_nil_of_le (by omega), Ck.chkGo, show k = ts.length by omega]
      clear HG HRW
      go_wp2
      go_loop [9] (fun i => ∃ j : Nat, j ≤ u.size ∧ i = .int .i64 j ∧ ∀ c ∈ u.data.toList.take j, c = 115) (fun i => u.size - (intOf i).toNat)
      case atStart => exact ⟨0, Nat.zero_le _, rfl, by simp⟩
      case round =>
        obtain ⟨j, hj, rfl, hall⟩ := hrel
        have HALL := hide hall
        clear hall
        by_cases hju : j < u.size
        · have HS := hide (take_snoc u j hju)
          cases g1 : ((u[j].toNat : Int) == 115) with
          | true =>
            have HE0 := hide (u8_of _ 115 (by omega) g1)
            have g2 : ((u[j].toNat : Int) != 115) = false := by simp [bne, g1]
            go_wp2
            go_round
            case rel =>
              refine ⟨j + 1, by omega, by go_num, ?_⟩
              rw [HS.out]
              intro c hc
              rcases List.mem_append.1 hc with h | h
              · exact HALL.out c h
              · simp at h; rw [h]; exact HE0.out
            case measure => simp [intOf]; omega
          | false =>
            have HE0 := hide (u8_not _ 115 (by omega) g1)
            have g2 : ((u[j].toNat : Int) != 115) = true := by simp [bne, g1]
            go_wp2
            go_ret2
            rw [HE.out, if_neg]
            · exact ⟨rfl, below_drewN HB.out _⟩
            · intro h
              exact HE0.out (h u[j] (by rw [← List.take_append_drop (j + 1) u.data.toList, HS.out]; simp))
        · have HTA := hide (take_all u j hju)
          go_wp2
          go_ret2
          rw [HE.out, if_pos (by have := HALL.out; rwa [HTA.out] at this)]
          exact ⟨rfl, below_drewN HB.out _⟩

set_option maxHeartbeats 400000 in
theorem refCheck_long (s : ByteArray) (w : World) (hs : 400 < s.size) :
    Calls Tryz.prog 108 #[.string s] w fun e w' => e = .returned (.tuple #[.int .i64 0, .int .i64 1]) ∧ w' = w := by
  have hd4 : (400 : Int) < (s.size : Int) := by omega
  go_enter Tryz.func108, Tryz.ntmps108
  go_wp2
  go_ret2
  exact ⟨rfl, rfl⟩
theorem refCheck_any (s : ByteArray) (w : World) :
    Calls Tryz.prog 108 #[.string s] w fun e w' => e = .returned (.tuple #[.int .i64 (Ck.refCheck s.data.toList).1, .int .i64 (Ck.refCheck s.data.toList).2]) ∧ Below w.heap.size w w' := by
  by_cases hs : s.size ≤ 400
  · exact refCheck_short s w hs
  · have hl : s.data.toList.length = s.size := by simp
    rw [Ck.refCheck, if_pos (by omega)]
    exact (refCheck_long s w (by omega)).mono fun e w' ⟨he, hw⟩ => ⟨he, by rw [hw]; exact Below.refl _ _⟩
end Go.Proofs.YtellilpeakpbfabGreatDoor

end
