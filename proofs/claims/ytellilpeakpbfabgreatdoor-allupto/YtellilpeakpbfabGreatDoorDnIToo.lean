import Derived.Test.YtellilpeakpbfabGreatDoorDnGToo
import Derived.Test.YtellilpeakpbfabGreatDoorTrQToo
section
/-
  The walks of the document's skip and close.
-/
namespace Go.Proofs.YtellilpeakpbfabGreatDoor
open Go.RowKit
open Tr (Ex Sm Sms Tok kind)

/-- the tokens alone. -/
def LkAt (X : Nat) (w : World) (tv : Value) (ts : List (List UInt8)) : Prop := w.cell? ⟨X, 0, none⟩ = some tv ∧ w.ownsRow 0 9 1 tv ts.length (ts.map T)
theorem DkAt.lk {X : Nat} {w : World} {tv av : Value} {E : Rn.En} {ts : List (List UInt8)} {args : List Int} {s : Rn.St} (h : DkAt X w tv av E ts args s) : LkAt X w tv ts := by
  obtain ⟨cv, sv, -, -, -, hc, -⟩ := h.cells
  exact ⟨hc 0, h.toks⟩
theorem DkErr.lk {X : Nat} {w : World} {tv : Value} {ts : List (List UInt8)} {used : Nat} {er : Int} (h : DkErr X w tv ts used er) : LkAt X w tv ts := by
  obtain ⟨⟨cur, hh, -, h0, -⟩, hr⟩ := h
  exact ⟨(cell_of_row w X 0 _ _ _ hh).trans h0, hr⟩
theorem LkAt.tok {X : Nat} {w : World} {tv : Value} {ts : List (List UInt8)} (h : LkAt X w tv ts) : ∃ ao cap, tv = .slice ao ts.length cap ∧ (0 < ts.length → ∃ g, ao = some ⟨g, 0, none⟩ ∧ ∀ j t, ts[j]? = some t → w.cell? ⟨g, j, none⟩ = some (.string ⟨t.toArray⟩)) := by
  obtain ⟨ao, cap, hv, hsh⟩ := row_shape h.2
  refine ⟨ao, cap, hv, fun hp => ?_⟩
  obtain ⟨g, hg, -, -, hcs⟩ := hsh hp
  refine ⟨g, hg, fun j t ht => ?_⟩
  have hj := (List.getElem?_eq_some_iff.1 ht).1
  rw [hcs j hj, List.getD_eq_getElem?_getD, ht]; rfl

def SkR (n : Nat) (idx : Nat → Nat) (i k : Value) : Prop := ∃ m : Nat, m ≤ n ∧ k = .int .i64 m ∧ i = .int .i64 (idx m)
set_option maxHeartbeats 2000000 in
set_option maxRecDepth 100000 in
theorem dskip_step (X : Nat) (tv : Value) (ts : List (List UInt8)) (i : Nat) (t : List UInt8) (wl : ByteArray) (idx : Nat → Nat) (w : World) (h : LkAt X w tv ts) (hi : ts[i]? = some t) (hl : ts.length ≤ 1000) (hwl : wl.size ≤ 2) (h0 : idx 0 = i + 1)
    (hww : ∀ w, ∃ b, Calls Tryz.prog 165 #[.string ⟨t.toArray⟩] w fun e w' => e = .returned (.tuple #[.string wl, .bool b]) ∧ w' = w)
    (hrec : ∀ m, m < wl.size → Calls Tryz.prog 190 #[.pointer (some ⟨X, 0, none⟩), .int .i64 (idx m)] w fun e w' => e = .returned (.int .i64 (idx (m + 1))) ∧ w' = w) :
    Calls Tryz.prog 190 #[.pointer (some ⟨X, 0, none⟩), .int .i64 i] w fun e w' => e = .returned (.int .i64 (idx wl.size)) ∧ w' = w := by
  obtain ⟨ao, cap, rfl, hsh⟩ := h.tok
  have hil := (List.getElem?_eq_some_iff.1 hi).1
  obtain ⟨g, rfl, hcs⟩ := hsh (by omega)
  have d1 := hcs i t hi
  have c0 := h.1
  obtain ⟨b, hw⟩ := hww w
  obtain ⟨tb, htb⟩ : ∃ tb : ByteArray, tb = ⟨t.toArray⟩ := ⟨_, rfl⟩
  rw [← htb] at d1 hw
  have HW := hide hw
  have HR := hide hrec
  have H0 := hide h0
  clear h hsh hcs hww hrec hw htb h0
  go_enter Tryz.func190, Tryz.ntmps190
  go_wp2_with fail
  refine HW.out.mono ?_
  rintro e w1 ⟨rfl, rfl⟩
  go_wp2_with fail
  go_loop [1, 7] (fun i k => SkR wl.size idx i k) (fun _ k => wl.size - (intOf k).toNat)
  case atStart => exact ⟨0, Nat.zero_le _, rfl, by rw [H0.out]; go_num⟩
  case round =>
    obtain ⟨m, hm, rfl, rfl⟩ := hrel
    by_cases hlt : m < wl.size
    · have tm : decide ((m : Int) < (wl.size : Int)) = true := by simp; omega
      go_wp2_with fail
      refine (HR.out m hlt).mono ?_
      rintro e w2 ⟨rfl, rfl⟩
      go_wp2
      go_round
      case rel => exact ⟨m + 1, by omega, by go_num, rfl⟩
      case measure => simp [intOf]; omega
    · have tm : decide ((m : Int) < (wl.size : Int)) = false := by simp; omega
      have hme : m = wl.size := by omega
      go_wp2
      go_ret
      exact ⟨rfl, rfl⟩

theorem at_drop {ts : List (List UInt8)} {i : Nat} {t : List UInt8} {r : List (List UInt8)} (h : ts.drop i = t :: r) : ts[i]? = some t := by
  have hl : i < ts.length := by
    rcases Nat.lt_or_ge i ts.length with h1 | h1
    · exact h1
    · rw [List.drop_eq_nil_of_le h1] at h; cases h
  rw [List.drop_eq_getElem_cons hl] at h
  injection h with h1 _
  rw [List.getElem?_eq_getElem hl, h1]
/-- past an expression. -/
theorem dskip_any (X : Nat) (tv : Value) (ts : List (List UInt8)) (hl : ts.length ≤ 1000) (hsm : ∀ t ∈ ts, t.length ≤ 400) (e : Ex) : ∀ (i : Nat) (rest : List (List UInt8)) (w : World), e.Ok → ts.drop i = e.flat ++ rest → LkAt X w tv ts →
    Calls Tryz.prog 190 #[.pointer (some ⟨X, 0, none⟩), .int .i64 i] w fun e' w' => e' = .returned (.int .i64 ((i + e.flat.length : Nat) : Int)) ∧ w' = w := by
  induction e with
  | leaf t =>
    intro i rest w hok hi h
    have hi' : ts.drop i = t :: rest := hi
    have hmem : t ∈ ts := List.mem_of_getElem? (at_drop hi')
    have hww : ∀ w, ∃ b, Calls Tryz.prog 165 #[.string ⟨t.toArray⟩] w fun e w' => e = .returned (.tuple #[.string ⟨#[]⟩, .bool b]) ∧ w' = w := by
      intro w
      have := wants_any ⟨t.toArray⟩ w (hsm t hmem)
      rw [show (⟨t.toArray⟩ : ByteArray).data.toList = t by simp, (Tr.leaf_facts t hok).1] at this
      exact ⟨_, this⟩
    exact dskip_step X tv ts i t ⟨#[]⟩ (fun _ => i + 1) w h (at_drop hi') hl (by decide) rfl hww (fun m hm => absurd hm (show ¬ m < 0 from Nat.not_lt_zero m))
  | un t e ih =>
    intro i rest w hok hi h
    have hi' : ts.drop i = t :: (e.flat ++ rest) := hi
    have ht : t = [64] ∨ t = [35] := by rcases hok.1 with h | h; · exact .inl (Tr.w_value t h)
                                        · exact .inr (Tr.w_there t h)
    have hww : ∀ w, ∃ b, Calls Tryz.prog 165 #[.string ⟨t.toArray⟩] w fun e w' => e = .returned (.tuple #[.string ⟨#[101]⟩, .bool b]) ∧ w' = w := by
      intro w
      have := wants_any ⟨t.toArray⟩ w (by rcases ht with rfl | rfl <;> decide)
      rcases ht with rfl | rfl <;> exact ⟨_, this⟩
    have hr := ih (i + 1) rest w hok.2 (drop_next hi') h
    have e1 : ((i + (Ex.un t e).flat.length : Nat) : Int) = ((if (1 : Nat) = 0 then i + 1 else i + 1 + e.flat.length : Nat) : Int) := by simp [Ex.flat]; omega
    rw [e1]
    exact dskip_step X tv ts i t ⟨#[101]⟩ (fun m => if m = 0 then i + 1 else i + 1 + e.flat.length) w h (at_drop hi') hl (by decide) rfl hww (fun m hm => by
      have hm0 : m = 0 := by have : m < 1 := hm; omega
      subst hm0
      exact hr)
  | bin t a b iha ihb =>
    intro i rest w hok hi h
    have hi' : ts.drop i = t :: (a.flat ++ (b.flat ++ rest)) := by
      have e0 : (Ex.bin t a b).flat ++ rest = t :: (a.flat ++ (b.flat ++ rest)) := by simp [Ex.flat]
      rw [e0] at hi; exact hi
    have ht : t = [43] ∨ t = [45] ∨ t = [42] ∨ t = [60] ∨ t = [61] := by
      have hk := hok.1
      have hcc : kind t = 4 ∨ kind t = 5 ∨ kind t = 6 ∨ kind t = 7 ∨ kind t = 8 := by omega
      rcases hcc with h | h | h | h | h
      · exact .inl (Tr.w_plus t h)
      · exact .inr (.inl (Tr.w_minus t h))
      · exact .inr (.inr (.inl (Tr.w_times t h)))
      · exact .inr (.inr (.inr (.inl (Tr.w_less t h))))
      · exact .inr (.inr (.inr (.inr (Tr.w_same t h))))
    have hww : ∀ w, ∃ b, Calls Tryz.prog 165 #[.string ⟨t.toArray⟩] w fun e w' => e = .returned (.tuple #[.string ⟨#[101, 101]⟩, .bool b]) ∧ w' = w := by
      intro w
      have := wants_any ⟨t.toArray⟩ w (by rcases ht with rfl | rfl | rfl | rfl | rfl <;> decide)
      rcases ht with rfl | rfl | rfl | rfl | rfl <;> exact ⟨_, this⟩
    have h1 := drop_next hi'
    have ha := iha (i + 1) (b.flat ++ rest) w hok.2.1 h1 h
    have hb := ihb (i + 1 + a.flat.length) rest w hok.2.2 (drop_app h1) h
    have e1 : ((i + (Ex.bin t a b).flat.length : Nat) : Int) = ((if (2 : Nat) = 0 then i + 1 else if (2 : Nat) = 1 then i + 1 + a.flat.length else i + 1 + a.flat.length + b.flat.length : Nat) : Int) := by simp [Ex.flat]; omega
    rw [e1]
    exact dskip_step X tv ts i t ⟨#[101, 101]⟩ (fun m => if m = 0 then i + 1 else if m = 1 then i + 1 + a.flat.length else i + 1 + a.flat.length + b.flat.length) w h (at_drop hi') hl (by decide) rfl hww (fun m hm => by
      have hm2 : m = 0 ∨ m = 1 := by have : m < 2 := hm; omega
      rcases hm2 with rfl | rfl
      · exact ha
      · exact hb)

namespace Tr
/-- how deep tokens lead. -/
def dp1 (t : Tok) : Int := if t = [123] then 1 else if t = [125] then -1 else 0
def dp (l : List Tok) : Int := (l.map dp1).sum
theorem dp_app (a b : List Tok) : dp (a ++ b) = dp a + dp b := by simp [dp]
theorem dp_cons (t : Tok) (l : List Tok) : dp (t :: l) = dp1 t + dp l := by simp [dp]
/-- tokens with every brace closed. -/
def Bal (l : List Tok) : Prop := dp l = 0 ∧ ∀ m, 0 ≤ dp (l.take m)
theorem Bal.nil : Bal [] := ⟨rfl, fun m => by simp [dp]⟩
theorem Bal.app {a b : List Tok} (ha : Bal a) (hb : Bal b) : Bal (a ++ b) := by
  refine ⟨by rw [dp_app, ha.1, hb.1]; rfl, fun m => ?_⟩
  rw [List.take_append, dp_app]
  have h1 := ha.2 m
  have h2 := hb.2 (m - a.length)
  omega
theorem Bal.cons {t : Tok} {l : List Tok} (ht : dp1 t = 0) (hl : Bal l) : Bal (t :: l) := by
  refine ⟨by rw [dp_cons, ht, hl.1]; rfl, fun m => ?_⟩
  cases m with
  | zero => simp [dp]
  | succ m => rw [List.take_succ_cons, dp_cons, ht]; have := hl.2 m; omega
theorem Bal.block {l : List Tok} (hl : Bal l) : Bal ([123] :: (l ++ [[125]])) := by
  have e1 : dp1 [123] = 1 := by decide
  have e2 : dp1 [125] = -1 := by decide
  have e3 : dp [[125]] = -1 := by decide
  refine ⟨by rw [dp_cons, dp_app, hl.1, e1, e3]; rfl, fun m => ?_⟩
  cases m with
  | zero => simp [dp]
  | succ m =>
    rw [List.take_succ_cons, dp_cons, e1, List.take_append, dp_app]
    have h1 := hl.2 m
    have h2 : -1 ≤ dp ([[125]].take (m - l.length)) := by
      cases m - l.length with
      | zero => simp [dp]
      | succ n => rw [List.take_succ_cons, dp_cons, e2]; simp [dp]
    omega
theorem dp1_kind (t : Tok) (h : kind t ≠ 18) (h2 : kind t ≠ 19) : dp1 t = 0 := by
  unfold dp1
  rw [if_neg (fun e => h (by rw [e]; decide)), if_neg (fun e => h2 (by rw [e]; decide))]
theorem Ex.bal (e : Ex) : e.Ok → Bal e.flat := by
  induction e with
  | leaf t => intro h; exact Bal.cons (dp1_kind t (by have : kind t = 1 ∨ kind t = 2 ∨ kind t = 3 := h; omega) (by have : kind t = 1 ∨ kind t = 2 ∨ kind t = 3 := h; omega)) Bal.nil
  | un t e ih => intro h; exact Bal.cons (dp1_kind t (by have := h.1; omega) (by have := h.1; omega)) (ih h.2)
  | bin t a b iha ihb => intro h; exact Bal.cons (dp1_kind t (by have := h.1; omega) (by have := h.1; omega)) (Bal.app (iha h.2.1) (ihb h.2.2))
mutual
theorem Sm.bal : (m : Sm) → m.Ok → Bal m.flat
  | .set v e, h => Bal.cons (by decide) (Bal.cons (dp1_kind v (by have := h.1; omega) (by have := h.1; omega)) (Ex.bal e h.2))
  | .put a b, h => Bal.cons (by decide) (Bal.app (Ex.bal a h.1) (Ex.bal b h.2))
  | .del a, h => Bal.cons (by decide) (Ex.bal a h)
  | .stop a, h => Bal.cons (by decide) (Ex.bal a h)
  | .fail, _ => Bal.cons (by decide) Bal.nil
  | .ite e a b, h => by
    have e1 : (Sm.ite e a b).flat = [105, 102] :: (e.flat ++ (([123] :: (a.flat ++ [[125]])) ++ ([123] :: (b.flat ++ [[125]])))) := by simp [Sm.flat]
    rw [e1]
    exact Bal.cons (by decide) (Bal.app (Ex.bal e h.1) (Bal.app (Bal.block (Sms.bal a h.2.1)) (Bal.block (Sms.bal b h.2.2))))
  | .whl e a, h => by
    have e1 : (Sm.whl e a).flat = [119, 104, 105, 108, 101] :: (e.flat ++ ([123] :: (a.flat ++ [[125]]))) := by simp [Sm.flat]
    rw [e1]
    exact Bal.cons (by decide) (Bal.app (Ex.bal e h.1) (Bal.block (Sms.bal a h.2)))
theorem Sms.bal : (b : Sms) → b.Ok → Bal b.flat
  | .nil, _ => Bal.nil
  | .cons m r, h => by
    have e1 : (Sms.cons m r).flat = m.flat ++ r.flat := by simp [Sms.flat]
    rw [e1]
    exact Bal.app (Sm.bal m h.1) (Sms.bal r h.2)
end
end Tr

def ClR (ts : List (List UInt8)) (i n : Nat) (d k : Value) : Prop := ∃ m : Nat, m ≤ n + 1 ∧ k = .int .i64 ((i + m : Nat) : Int) ∧ d = .int .i64 (Tr.dp ((ts.drop i).take m))
set_option maxHeartbeats 4000000 in
set_option maxRecDepth 100000 in
theorem dclose_any (X : Nat) (tv : Value) (ts : List (List UInt8)) (hl : ts.length ≤ 1000) (i : Nat) (l rest : List (List UInt8)) (w : World) (h : LkAt X w tv ts) (hi : ts.drop i = [123] :: (l ++ ([125] :: rest))) (hb : Tr.Bal l) :
    Calls Tryz.prog 191 #[.pointer (some ⟨X, 0, none⟩), .int .i64 i] w fun e w' => e = .returned (.int .i64 ((i + l.length + 2 : Nat) : Int)) ∧ w' = w := by
  have hlen : i + l.length + 2 ≤ ts.length := by
    have := congrArg List.length hi
    simp at this
    omega
  obtain ⟨ao, cap, rfl, hsh⟩ := h.tok
  obtain ⟨g, rfl, hcs⟩ := hsh (by omega)
  have c0 := h.1
  have HCS := hide hcs
  have HI := hide hi
  have HBAL := hide hb
  have hbound : ∀ m, m ≤ l.length + 2 → -1000 ≤ Tr.dp ((ts.drop i).take m) ∧ Tr.dp ((ts.drop i).take m) ≤ 1000 := by
    intro m hm
    have key : ∀ q : List (List UInt8), -(q.length : Int) ≤ Tr.dp q ∧ Tr.dp q ≤ q.length := by
      intro q
      induction q with
      | nil => simp [Tr.dp]
      | cons t r ih =>
        have h1 : -1 ≤ Tr.dp1 t ∧ Tr.dp1 t ≤ 1 := by unfold Tr.dp1; repeat' split
                                                     all_goals simp
        rw [Tr.dp_cons]
        simp only [List.length_cons]
        omega
    have := key ((ts.drop i).take m)
    have hl2 : ((ts.drop i).take m).length ≤ m := by simp; omega
    omega
  have HBD := hide hbound
  clear h hsh hcs hi hb hbound
  go_enter Tryz.func191, Tryz.ntmps191
  go_wp2
  go_loop [5, 6] (fun d k => ClR ts i l.length d k) (fun _ k => ts.length - (intOf k).toNat)
  case atStart => exact ⟨0, Nat.zero_le _, by simp, by simp [Tr.dp]⟩
  case round =>
    obtain ⟨m, hm, rfl, rfl⟩ := hrel
    have hmt : i + m < ts.length := by omega
    obtain ⟨t, ht⟩ : ∃ t, ts[i + m]? = some t := ⟨ts[i + m], by simp [hmt]⟩
    have d1 := HCS.out (i + m) t ht
    have hstep : Tr.dp ((ts.drop i).take (m + 1)) = Tr.dp ((ts.drop i).take m) + Tr.dp1 t := by
      have hd : (ts.drop i)[m]? = some t := by rw [List.getElem?_drop]; exact ht
      have hml : m < (ts.drop i).length := (List.getElem?_eq_some_iff.1 hd).1
      rw [List.take_succ_eq_append_getElem hml, (List.getElem?_eq_some_iff.1 hd).2, Tr.dp_app]
      simp [Tr.dp]
    have htk : (m = l.length + 1 → t = [125] ∧ Tr.dp ((ts.drop i).take m) = 1) ∧ (m ≤ l.length → 1 ≤ Tr.dp ((ts.drop i).take (m + 1))) := by
      have hd : (ts.drop i)[m]? = some t := by rw [List.getElem?_drop]; exact ht
      rw [HI.out] at hd ⊢
      constructor
      · intro he
        subst he
        refine ⟨?_, ?_⟩
        · have : ([123] :: (l ++ ([125] :: rest)))[l.length + 1]? = some [125] := by simp
          rw [this] at hd
          cases hd; rfl
        · rw [List.take_succ_cons, Tr.dp_cons, List.take_left' rfl, HBAL.out.1]; decide
      · intro he
        rw [List.take_succ_cons, Tr.dp_cons, List.take_append_of_le_length he]
        have := HBAL.out.2 m
        have e1 : Tr.dp1 [123] = 1 := by decide
        omega
    obtain ⟨htk1, htk2⟩ := htk
    have hb0 := HBD.out m (by omega)
    have HT1 := hide htk1
    have HT2 := hide htk2
    have HST := hide hstep
    generalize hD : Tr.dp ((ts.drop i).take m) = D at *
    have hDm : Hid (Tr.dp ((ts.drop i).take m) = D) := hD
    clear hD ht htk1 htk2 hstep
    obtain ⟨tb, htb⟩ : ∃ tb : ByteArray, tb = ⟨t.toArray⟩ := ⟨_, rfl⟩
    have htl : tb.toList = t := by rw [ByteArray.toList_eq, htb]
    rw [← htb] at d1
    have HTL := hide htl
    clear htb htl
    have tk : decide (((i + m : Nat) : Int) < (ts.length : Int)) = true := by simp; omega
    by_cases ho : t = [123]
    · have u1 : (tb.toList == [123]) = true := by rw [HTL.out, ho]; rfl
      have u2 : (tb.toList == [125]) = false := by rw [HTL.out, ho]; rfl
      have hml : m ≤ l.length := by
        rcases Nat.lt_or_ge l.length m with h1 | h1
        · have := (HT1.out (by omega)).1
          rw [ho] at this; cases this
        · exact h1
      have HRR : Hid (ClR ts i l.length (.int .i64 (D + 1)) (.int .i64 (((i + m : Nat) : Int) + 1))) := by
        refine ⟨m + 1, by omega, by go_num, ?_⟩
        rw [HST.out, ho]; rfl
      clear HT1 HT2
      go_wp2
      go_round
      case rel => exact HRR.out
      case measure => simp [intOf]; omega
    · have u1 : (tb.toList == [123]) = false := by rw [HTL.out]; simpa using ho
      by_cases hcl : t = [125]
      · have u2 : (tb.toList == [125]) = true := by rw [HTL.out, hcl]; rfl
        have e1 : Tr.dp1 t = -1 := by rw [hcl]; decide
        by_cases hz : D - 1 = 0
        · have u3 : (D - 1 == 0) = true := by simpa using hz
          have hme : m = l.length + 1 := by
            rcases Nat.lt_or_ge l.length m with h1 | h1
            · omega
            · have h2 := HT2.out h1
              rw [HST.out, e1] at h2
              omega
          have HME := hide hme
          clear hz hme HT1 HT2
          go_wp2
          go_ret
          refine ⟨?_, rfl⟩
          have hme := HME.out
          have e2 : (i : Int) + (m : Int) + 1 = (i : Int) + (l.length : Int) + 2 := by omega
          show Ending.returned (.int .i64 ((i : Int) + (m : Int) + 1)) = Ending.returned (.int .i64 ((i : Int) + (l.length : Int) + 2))
          rw [e2]
        · have u3 : (D - 1 == 0) = false := by simpa using hz
          have hml : m ≤ l.length := by
            rcases Nat.lt_or_ge l.length m with h1 | h1
            · have := (HT1.out (by omega)).2
              omega
            · exact h1
          have HRR : Hid (ClR ts i l.length (.int .i64 (D - 1)) (.int .i64 (((i + m : Nat) : Int) + 1))) := by
            refine ⟨m + 1, by omega, by go_num, ?_⟩
            rw [HST.out, e1]; rfl
          clear HT1 HT2
          go_wp2
          go_round
          case rel => exact HRR.out
          case measure => simp [intOf]; omega
      · have u2 : (tb.toList == [125]) = false := by rw [HTL.out]; simpa using hcl
        have e1 : Tr.dp1 t = 0 := by unfold Tr.dp1; rw [if_neg ho, if_neg hcl]
        have hml : m ≤ l.length := by
          rcases Nat.lt_or_ge l.length m with h1 | h1
          · exact absurd (HT1.out (by omega)).1 hcl
          · exact h1
        have HRR : Hid (ClR ts i l.length (.int .i64 D) (.int .i64 (((i + m : Nat) : Int) + 1))) := by
          refine ⟨m + 1, by omega, by go_num, ?_⟩
          rw [HST.out, e1]; simp
        clear HT1 HT2
        go_wp2
        go_round
        case rel => exact HRR.out
        case measure => simp [intOf]; omega
end Go.Proofs.YtellilpeakpbfabGreatDoor

end

section
/-
  The walks of the document's changes and does.
-/
namespace Go.Proofs.YtellilpeakpbfabGreatDoor
open Go.RowKit

theorem Tryz.infoNum : (Tryz.prog.info? 3).map (fun i => (i.zero, i.size, i.bytes)) = some (some (.int .i64 0), 1, 8) := by kernel_rfl

def keysOf (s : Rn.St) : List Int := s.writes.map (fun p => p.1)
/-- the Run, its list of changed cells apart. -/
structure DkSn (X : Nat) (w : World) (tv av : Value) (E : Rn.En) (ts : List (List UInt8)) (args : List Int) (s : Rn.St) (ks : List Int) : Prop where
  mem : ∃ cv sv, w.heap[X]? = some (.cells (dkCur tv av cv sv E s 0) 214 (0, 0)) ∧ CRow w 0 cv (Rn.conW E.con s.writes).list ∧ w.ownsRow (X + 1) 3 1 sv ks.length (ks.map fun k => .int .i64 k)
  toks : w.ownsRow 0 9 1 tv ts.length (ts.map T)
  args : IntsAt w av args ∧ InLow av args X
theorem DkAt.sn {X : Nat} {w : World} {tv av : Value} {E : Rn.En} {ts : List (List UInt8)} {args : List Int} {s : Rn.St} (h : DkAt X w tv av E ts args s) : DkSn X w tv av E ts args s (keysOf s) := by
  obtain ⟨cv, sv, hh, h1, h2⟩ := h.mem
  refine ⟨⟨cv, sv, hh, h1, ?_⟩, h.toks, h.args⟩
  have e1 : (keysOf s).length = s.writes.length := by simp [keysOf]
  have e2 : (keysOf s).map (fun k => Value.int .i64 k) = s.writes.map (fun p => .int .i64 p.1) := by simp [keysOf]
  rw [e1, e2]; exact h2

def ChR (ks : List Int) (k : Int) (i : Value) : Prop := ∃ j : Nat, j ≤ ks.length ∧ i = .int .i64 j ∧ ∀ q ∈ ks.take j, q ≠ k

theorem row1_at {w : World} {b : Nat} {v : Value} {ks : List Int} (h : w.ownsRow b 3 1 v ks.length (ks.map fun k => .int .i64 k)) : ∃ ao cap, v = .slice ao ks.length cap ∧ (0 < ks.length → ∃ g, ao = some ⟨g, 0, none⟩ ∧ ∀ j k, ks[j]? = some k → w.cell? ⟨g, j, none⟩ = some (.int .i64 k)) := by
  have h0 := h
  rcases h.2 with ⟨rfl, hn⟩ | ⟨g, cap, cur, rfl, hg, hh, hcap, hm, hsz, htake⟩
  · exact ⟨none, 0, by rw [hn], fun hp => by omega⟩
  · refine ⟨_, cap, rfl, fun _ => ⟨g, rfl, fun j k hj => ?_⟩⟩
    have := h0.cells (g := g) rfl j (.int .i64 k) (by simp [hj])
    simp only [Addr.add_lit, Nat.zero_add] at this
    exact this

/-- one key more. -/
theorem sn_push (X : Nat) (w w9 : World) (tv av cv sv v' : Value) (E : Rn.En) (ts : List (List UInt8)) (args : List Int) (s : Rn.St) (ks : List Int) (k : Int) (o : Obj) (h : DkSn X w tv av E ts args s ks) (hX : X < w.heap.size)
    (hm : w.heap[X]? = some (.cells (dkCur tv av cv sv E s 0) 214 (0, 0))) (hcr : CRow w 0 cv (Rn.conW E.con s.writes).list) (hr : w.ownsRow (X + 1) 3 1 sv ks.length (ks.map fun k => .int .i64 k))
    (hown : w9.ownsRow (X + 1) 3 1 v' (ks.length + 1) ((ks.map fun k => .int .i64 k) ++ [.int .i64 k])) (hg : (w.alloc o).grownBy w9 sv.ownBlock) :
    w9.heap[X]? = some (.cells (dkCur tv av cv sv E s 0) 214 (0, 0)) ∧ DkSn X (w9.setCell ⟨X, 7, none⟩ v') tv av E ts args s (ks ++ [k]) ∧ DkFr X w (w9.setCell ⟨X, 7, none⟩ v') := by
  have hne : some X ≠ sv.ownBlock := fun e => by have := own_lies hr X e.symm; omega
  have f1 : DkFr X w (w.alloc o) := Fr.of ((Below.refl _ _).alloc (Nat.le_refl _) _) (Nat.le_of_lt hX)
  have f2 : DkFr X (w.alloc o) w9 := by
    refine (fr_grown hg (by simp; omega) (fun k hk => by have := (hr.lt k hk).1; omega)).typed (fun k hk => ?_) none
    rcases hr.2 with ⟨rfl, _⟩ | ⟨g, cap, cur, rfl, hb, hh, _⟩
    · simp [Value.ownBlock] at hk
    · simp [Value.ownBlock] at hk
      subst hk
      exact ⟨cur, _, _, (Below.heap_alloc _ _ _ (Array.getElem?_eq_some_iff.1 hh).1).trans hh, by simp⟩
  have hm9 : w9.heap[X]? = some (.cells (dkCur tv av cv sv E s 0) 214 (0, 0)) := by
    rw [hg.block X (by simp; exact Nat.lt_succ_of_lt hX) hne, Below.heap_alloc _ _ _ hX]
    exact hm
  have f3 : DkFr X w9 (w9.setCell ⟨X, 7, none⟩ v') := (fr_setCell w9 X 7 v' (Nat.le_refl _)).typed (fun k hk => by cases hk; exact ⟨_, _, _, hm9, by simp⟩) none
  have f := (f1.trans f2).trans f3
  refine ⟨hm9, ⟨⟨cv, v', ?_, own_fr hcr f (by decide) (.inl rfl), ?_⟩, own_fr h.toks f (by decide) (.inl rfl), ⟨h.args.1.low h.args.2 (Fr.below f), h.args.2⟩⟩, f⟩
  · rw [heap_setCell_same w9 X 7 _ _ v' hm9]; rfl
  · rw [List.length_append, List.map_append]
    exact own_fr hown (fr_setCell (L := X) (T := []) w9 X 7 v' (Nat.le_refl _)) (by simp) (.inr (fun e => by have := own_lies hown X e.symm; omega))

set_option maxHeartbeats 4000000 in
set_option maxRecDepth 100000 in
theorem changes_any (X : Nat) (w : World) (tv av : Value) (E : Rn.En) (ts : List (List UInt8)) (args : List Int) (s : Rn.St) (k : Int) (h : DkAt X w tv av E ts args s) :
    Calls Tryz.prog 196 #[.pointer (some ⟨X, 0, none⟩), .int .i64 k] w fun e w' => e = .returned (.tuple #[]) ∧ DkFr X w w' ∧
      ((k ∈ keysOf s ∧ w' = w) ∨ (k ∉ keysOf s ∧ s.writes.length < 8 ∧ DkSn X w' tv av E ts args s (keysOf s ++ [k])) ∨ (k ∉ keysOf s ∧ ¬ s.writes.length < 8 ∧ DkErr X w' tv ts s.used 8)) := by
  have hsn := h.sn
  obtain ⟨cv, sv, hm, hcr, hr⟩ := hsn.mem
  obtain ⟨ao, cap, rfl, hsh⟩ := row1_at hr
  have c7 : w.cell? ⟨X, 7, none⟩ = some (.slice ao (keysOf s).length cap) := (cell_of_row w X 7 _ _ _ hm).trans rfl
  have f7 : w.frozen? ⟨X, 7, none⟩ = false := frozen_of_row w X 7 _ _ hm
  have hkl : (keysOf s).length = s.writes.length := by simp [keysOf]
  have hwl := h.fit.wrl
  have hX := h.lt
  have HSH := hide hsh
  have HSN := hide hsn
  have HM := hide hm
  have HCR := hide hcr
  have HR := hide hr
  obtain ⟨i0, hi, hy0, hy1, hy2⟩ := info_parts Tryz.infoNum
  obtain ⟨ks, hks⟩ : ∃ ks, ks = keysOf s := ⟨_, rfl⟩
  rw [← hks] at HSN HR HSH HM c7 hkl ⊢
  have HKL := hide hkl
  have hk8 : ks.length ≤ 8 := by omega
  clear h hsn hm hcr hr hsh hks hkl
  go_enter Tryz.func196, Tryz.ntmps196
  go_wp2
  go_loop [4] (fun i => ChR ks k i) (fun i => ks.length - (intOf i).toNat)
  case atStart => exact ⟨0, Nat.zero_le _, rfl, by simp⟩
  case round =>
    obtain ⟨j, hj, rfl, hal⟩ := hrel
    have HA := hide hal
    clear hal
    by_cases hlt : j < ks.length
    · have tj : decide ((j : Int) < (ks.length : Int)) = true := by simp; omega
      obtain ⟨g, rfl, hcs⟩ := HSH.out (by omega)
      obtain ⟨x, hx⟩ : ∃ x, ks[j]? = some x := ⟨ks[j], by simp [hlt]⟩
      have d1 := hcs j x hx
      have HX := hide hx
      clear hcs hx
      cases ht : (x == k) with
      | true =>
        have HIN : Hid (k ∈ ks) := by
          have : x = k := by simpa using ht
          rw [← this]; exact List.mem_of_getElem? HX.out
        go_wp2
        refine bodyPost_ret (results_none rfl _ _ _) rfl ?_
        exact ⟨rfl, Fr.refl _ _ _ _, .inl ⟨HIN.out, rfl⟩⟩
      | false =>
        have HN : Hid (∀ q ∈ ks.take (j + 1), q ≠ k) := by
          intro q hq
          rw [List.take_succ_eq_append_getElem hlt, List.mem_append] at hq
          rcases hq with h | h
          · exact HA.out q h
          · simp at h
            have : ks[j] = x := (List.getElem?_eq_some_iff.1 HX.out).2
            rw [h, this]
            simpa using ht
        go_wp2
        go_round
        case rel => exact ⟨j + 1, by omega, by go_num, HN.out⟩
        case measure => simp [intOf]; omega
    · have tj : decide ((j : Int) < (ks.length : Int)) = false := by simp; omega
      have HNO : Hid (k ∉ ks) := by
        intro hin
        have := HA.out
        rw [List.take_of_length_le (by omega)] at this
        exact this k hin rfl
      clear HA HSH
      go_wp2_with (at_builtin; refine wpList_append_own _ rfl (.tmp 27) (.tmp 29) 48 rfl (X + 1) 3 i0 (.int .i64 0) 1 8 Tryz.underlying48 hi hy0 hy1 hy2 rfl (by decide) _ _ _ rfl (HR.out.alloc _) ⟨_, 0, none⟩ 1 1 [.int .i64 k] rfl rfl ?c1 ?c2 ?c3 ?c4 ?c5 ?_)
      try (case c1 => intro j u hu; simp at hu; obtain ⟨rfl, rfl⟩ := hu; exact cells_new _ #[_] _ 0 _ rfl)
      case c2 => first | rfl | (intro u hu; simp at hu; rw [hu]; rfl)
      case c3 => unfold maxLen; omega
      case c4 => omega
      case c5 => omega
      intro v9 w9 hown9 hg9 _
      obtain ⟨M9, S10, F10⟩ := sn_push X w w9 tv av cv _ v9 E ts args s ks k _ HSN.out hX HM.out HCR.out HR.out hown9 hg9
      obtain ⟨ao9, cap9, rfl, -, -⟩ := own_slice hown9
      have z9 : w9.frozen? ⟨X, 7, none⟩ = false := frozen_of_row w9 X 7 _ _ M9
      have c9 : w9.cell? ⟨X, 7, none⟩ = some (.slice ao ks.length cap) := (cell_of_row w9 X 7 _ _ _ M9).trans rfl
      have m10 : (w9.setCell ⟨X, 7, none⟩ (.slice ao9 (ks.length + 1) cap9)).heap[X]? = some (.cells (dkCur tv av cv (.slice ao9 (ks.length + 1) cap9) E s 0) 214 (0, 0)) := by rw [heap_setCell_same w9 X 7 _ _ _ M9]; rfl
      have c10 : (w9.setCell ⟨X, 7, none⟩ (.slice ao9 (ks.length + 1) cap9)).cell? ⟨X, 10, none⟩ = some (.int .i64 0) := (cell_of_row _ X 10 _ _ _ m10).trans rfl
      have z10 : (w9.setCell ⟨X, 7, none⟩ (.slice ao9 (ks.length + 1) cap9)).frozen? ⟨X, 10, none⟩ = false := frozen_of_row _ X 10 _ _ m10
      have c10' : w9.cell? ⟨X, 10, none⟩ = some (.int .i64 0) := (cell_of_row w9 X 10 _ _ _ M9).trans rfl
      have z10' : w9.frozen? ⟨X, 10, none⟩ = false := frozen_of_row w9 X 10 _ _ M9
      have HM10 := hide m10
      have HS10 := hide S10
      have HF10 := hide F10
      clear M9 S10 F10 hown9 hg9 m10
      by_cases h8 : ks.length < 8
      · have t8 : decide (8 < ((ks.length : Int) + 1)) = false := by simp; omega
        have HL8 : Hid (s.writes.length < 8) := by have := HKL.out; show _ < _; omega
        go_wp2
        go_end0
        exact ⟨rfl, HF10.out, .inr (.inl ⟨HNO.out, HL8.out, HS10.out⟩)⟩
      · have t8 : decide (8 < ((ks.length : Int) + 1)) = true := by simp; omega
        have HL8 : Hid (¬ s.writes.length < 8) := by have := HKL.out; show ¬ _; omega
        have HER : Hid (DkErr X ((w9.setCell ⟨X, 7, none⟩ (.slice ao9 (ks.length + 1) cap9)).setCell ⟨X, 10, none⟩ (.int .i64 8)) tv ts s.used 8 ∧ DkFr X w ((w9.setCell ⟨X, 7, none⟩ (.slice ao9 (ks.length + 1) cap9)).setCell ⟨X, 10, none⟩ (.int .i64 8))) := by
          have f0 : Fr X [] (some X) (w9.setCell ⟨X, 7, none⟩ (.slice ao9 (ks.length + 1) cap9)) ((w9.setCell ⟨X, 7, none⟩ (.slice ao9 (ks.length + 1) cap9)).setCell ⟨X, 10, none⟩ (.int .i64 8)) := fr_setCell _ X 10 _ (Nat.le_refl _)
          have f2 := f0.weak HM10.out
          exact ⟨⟨⟨_, heap_setCell_same _ X 10 _ _ _ HM10.out, rfl, rfl, rfl, rfl, _, rfl⟩, own_fr HS10.out.toks f2 (by decide) (.inl rfl)⟩, HF10.out.trans (f2.wide (by simp))⟩
        go_wp2
        go_end0
        exact ⟨rfl, HER.out.2, .inr (.inr ⟨HNO.out, HL8.out, HER.out.1⟩)⟩

/-- what a statement at its end leaves. -/
def DoPost (X : Nat) (tv av : Value) (E : Rn.En) (ts : List (List UInt8)) (args : List Int) (r : Int × Rn.St) (w : World) (e : Ending) (w' : World) : Prop := e = .returned (.tuple #[]) ∧ DkOut X tv av E ts args r w w'

theorem key_find (s : Rn.St) (k : Int) : (k ∈ keysOf s → Rn.find s.writes k < s.writes.length) ∧ (k ∉ keysOf s → Rn.find s.writes k = s.writes.length) := by
  constructor
  · intro h
    obtain ⟨p, hp, hk⟩ := List.mem_map.1 h
    exact List.findIdx_lt_length_of_exists ⟨p, hp, by simpa using hk⟩
  · intro h
    have hle := find_le s.writes k
    rcases Nat.lt_or_ge (Rn.find s.writes k) s.writes.length with h1 | h1
    · exfalso
      have h2 := Rn.find_find s.writes k
      rw [List.getElem?_eq_getElem h1] at h2
      have h3 := List.find?_some h2.symm
      exact h (List.mem_map.2 ⟨_, List.getElem_mem h1, by simpa using h3⟩)
    · omega

set_option maxHeartbeats 2000000 in
set_option maxRecDepth 100000 in
theorem does_stop (X : Nat) (w : World) (tv av : Value) (E : Rn.En) (ts : List (List UInt8)) (args : List Int) (s : Rn.St) (a b : Int) (h : DkAt X w tv av E ts args s) :
    Calls Tryz.prog 183 #[.pointer (some ⟨X, 0, none⟩), .string ⟨#[115, 116, 111, 112]⟩, .int .i64 a, .int .i64 b] w (DoPost X tv av E ts args (0, { s with result := a, stopped := true }) w) := by
  obtain ⟨cv, sv, hcr, hsr, hm, hc, hz⟩ := h.cells
  have c11 : w.cell? ⟨X, 11, none⟩ = some (.bool s.stopped) := hc 11
  have c12 : w.cell? ⟨X, 12, none⟩ = some (.int .i64 s.result) := hc 12
  have f11 := hz 11
  have f12 := hz 12
  have g1 := DkAt.set (s' := { s with stopped := true }) h 11 (.bool true) hm hcr hsr rfl rfl ⟨h.fit.tk, h.fit.len, h.fit.arg, h.fit.con, h.fit.fuel, h.fit.pos, h.fit.var, h.fit.wrl, h.fit.wrs, h.fit.used⟩
  obtain ⟨cv2, sv2, hcr2, hsr2, hm2, -, -⟩ := g1.1.cells
  have g2 := DkAt.set (s' := { s with result := a, stopped := true }) g1.1 12 (.int .i64 a) hm2 hcr2 hsr2 rfl rfl ⟨h.fit.tk, h.fit.len, h.fit.arg, h.fit.con, h.fit.fuel, h.fit.pos, h.fit.var, h.fit.wrl, h.fit.wrs, h.fit.used⟩
  have HG1 := hide g1
  have HG2 := hide g2
  clear h hc hz hm hcr hsr hm2 hcr2 hsr2 g1 g2
  go_enter Tryz.func183, Tryz.ntmps183
  go_wp2
  refine bodyPost_ret (results_none rfl _ _ _) rfl ?_
  exact ⟨rfl, .inl ⟨rfl, HG2.out.1⟩, HG1.out.2.trans HG2.out.2⟩
end Go.Proofs.YtellilpeakpbfabGreatDoor

end
