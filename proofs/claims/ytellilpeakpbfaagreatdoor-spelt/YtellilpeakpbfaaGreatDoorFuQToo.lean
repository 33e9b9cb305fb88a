import Derived.Test.YtellilpeakpbfaaGreatDoorKpPToo
import Derived.Test.YtellilpeakpbfaaGreatDoorShPureToo
import Derived.Test.YtellilpeakpbfaaGreatDoorCardLToo
import Derived.Test.YtellilpeakpbfaaGreatDoorOpenToo
import Derived.Test.YtellilpeakpbfaaGreatDoorFuPToo
import Derived.Test.YtellilpeakpbfaaGreatDoorSiteAToo
import Derived.Test.YtellilpeakpbfaaGreatDoorKpSToo
section
/-
  Sources that are grown: their tokens; how they are joined, loosened, shown; no Go text.
-/
set_option linter.unusedVariables false
namespace Go.Proofs.YtellilpeakpbfaaGreatDoor
open Go.RowKit
namespace Kp
open Tr (Tok Ex Sm Sms kind acc)

/-- a token that stands as it is shown; noughts ahead of a number change nothing. -/
structure Tk (t : Tok) : Prop where
  wd : Wd t
  len : t.length ≤ 5
  shown : Ck.showTok t = t
  zed : Ck.isDig (t.headD 0) = true → Ck.tokenP (48 :: 48 :: t) = Ck.tokenP t ∧ Ck.showTok (48 :: 48 :: t) = t ∧ Wd (48 :: 48 :: t)
theorem num_of_dig (t : Tok) (h0 : t ≠ []) (h1 : t.length ≤ 6) (hd : ∀ c ∈ t, Ck.isDig c = true) : Ck.numIn t = some (Ck.val t) := by
  have hl : 1 ≤ t.length := by cases t <;> simp_all
  unfold Ck.numIn
  rw [if_pos ⟨hl, h1, hd⟩]
theorem val_zz (l : List UInt8) : Ck.val (48 :: 48 :: l) = Ck.val l := rfl
theorem dec_len3 (n : Nat) (h : n ≤ 999) : (Lib.decDigits n).length ≤ 3 := dec_le 2 n (by omega)
theorem tk_dec (n : Nat) (h : n ≤ 999) : Tk (Lib.decDigits n) := by
  have hl := dec_len3 n h
  have hd := Jn.dec_dig n
  have hne := Jn.dec_ne n
  have hz : ∀ c ∈ 48 :: 48 :: Lib.decDigits n, Ck.isDig c = true := by
    intro c hc
    rcases List.mem_cons.1 hc with rfl | hc
    · decide
    · rcases List.mem_cons.1 hc with rfl | hc
      · decide
      · exact hd c hc
  refine ⟨wd_dec n, by omega, ?_, fun _ => ⟨?_, ?_, by simp, fun c hc => dig_sp c (hz c hc)⟩⟩
  · unfold Ck.showTok
    rw [num_of_dig _ hne (by omega) hd, dec_valC]
  · rw [tok_num _ (by simp) (by simp; omega) hz, tok_num _ hne (by omega) hd, val_zz]
  · unfold Ck.showTok
    rw [num_of_dig _ (by simp) (by simp; omega) hz, val_zz, dec_valC]
theorem tk_plain (t : Tok) (h1 : Wd t) (h2 : t.length ≤ 5) (h3 : Ck.isDig (t.headD 0) = false) : Tk t := by
  refine ⟨h1, h2, ?_, fun h => by rw [h3] at h; cases h⟩
  unfold Ck.showTok
  have e : Ck.numIn t = none := by
    unfold Ck.numIn
    rw [if_neg]
    rintro ⟨-, -, g⟩
    cases t with
    | nil => exact h1.1 rfl
    | cons c r =>
      have := g c (by simp)
      simp only [List.headD_cons] at h3
      rw [h3] at this
      cases this
  rw [e]
theorem tk_word (t : Tok) (h : t ∈ Ck.wordsL) : Tk t := by
  simp only [Ck.wordsL, List.mem_cons, List.not_mem_nil, or_false] at h
  rcases h with rfl | rfl | rfl | rfl | rfl | rfl | rfl | rfl | rfl | rfl | rfl | rfl | rfl | rfl | rfl | rfl <;> exact tk_plain _ ⟨by decide, by decide⟩ (by decide) (by decide)
theorem dec_dig1 (n : Nat) (h : n < 10) : Lib.decDigits n = [UInt8.ofNat (48 + n)] := by rw [Lib.decDigits, dif_pos h]
theorem tk_arg (n : Nat) (h : n < 4) : Tk (97 :: Lib.decDigits n) ∧ kind (97 :: Lib.decDigits n) = 2 ∧ (97 :: Lib.decDigits n).length = 2 := by
  rw [dec_dig1 n (by omega)]
  match n, h with
  | 0, _ => exact ⟨tk_plain _ ⟨by decide, by decide⟩ (by decide) (by decide), by decide, rfl⟩
  | 1, _ => exact ⟨tk_plain _ ⟨by decide, by decide⟩ (by decide) (by decide), by decide, rfl⟩
  | 2, _ => exact ⟨tk_plain _ ⟨by decide, by decide⟩ (by decide) (by decide), by decide, rfl⟩
  | 3, _ => exact ⟨tk_plain _ ⟨by decide, by decide⟩ (by decide) (by decide), by decide, rfl⟩
theorem tk_var (n : Nat) (h : n < 4) : Tk (118 :: Lib.decDigits n) ∧ kind (118 :: Lib.decDigits n) = 3 ∧ (118 :: Lib.decDigits n).length = 2 := by
  rw [dec_dig1 n (by omega)]
  match n, h with
  | 0, _ => exact ⟨tk_plain _ ⟨by decide, by decide⟩ (by decide) (by decide), by decide, rfl⟩
  | 1, _ => exact ⟨tk_plain _ ⟨by decide, by decide⟩ (by decide) (by decide), by decide, rfl⟩
  | 2, _ => exact ⟨tk_plain _ ⟨by decide, by decide⟩ (by decide) (by decide), by decide, rfl⟩
  | 3, _ => exact ⟨tk_plain _ ⟨by decide, by decide⟩ (by decide) (by decide), by decide, rfl⟩

/-- what tokens weigh: their bytes, a gap and two noughts each. -/
def wt (ts : List Tok) : Nat := (ts.map (fun t => t.length + 4)).sum
theorem wt_nil : wt [] = 0 := rfl
theorem wt_cons (t : Tok) (r : List Tok) : wt (t :: r) = t.length + 4 + wt r := by simp [wt]
theorem wt_app (a b : List Tok) : wt (a ++ b) = wt a + wt b := by simp [wt]

/-- tokens of an expression, of statements: so many for what room went. -/
def ExT (ts : List Tok) (n : Int) : Prop := ∃ e : Ex, e.Ok ∧ ts = e.flat ∧ (∀ t ∈ ts, Tk t) ∧ (wt ts : Int) + 10 ≤ 17 * n
def SmT (ts : List Tok) (n : Int) : Prop := ∃ m : Sm, m.Ok ∧ ts = m.flat ∧ (∀ t ∈ ts, Tk t) ∧ (wt ts : Int) ≤ 17 * n
def SsT (ts : List Tok) (n : Int) : Prop := ∃ b : Sms, b.Ok ∧ ts = b.flat ∧ (∀ t ∈ ts, Tk t) ∧ (wt ts : Int) ≤ 17 * n
theorem ExT.num (n : Nat) (h : n ≤ 999) : ExT [Lib.decDigits n] 1 := by
  refine ⟨.leaf (Lib.decDigits n), .inl (by unfold kind; rw [tok_dec n (by omega)]), rfl, fun t ht => by rw [List.mem_singleton.1 ht]; exact tk_dec n h, ?_⟩
  have := dec_len3 n h
  rw [wt_cons, wt_nil]; omega
theorem ExT.arg (n : Nat) (h : n < 4) : ExT [97 :: Lib.decDigits n] 1 := by
  obtain ⟨h1, h2, h3⟩ := tk_arg n h
  refine ⟨.leaf (97 :: Lib.decDigits n), .inr (.inl h2), rfl, fun t ht => by rw [List.mem_singleton.1 ht]; exact h1, ?_⟩
  rw [wt_cons, wt_nil, h3]; omega
theorem ExT.var (n : Nat) (h : n < 4) : ExT [118 :: Lib.decDigits n] 1 := by
  obtain ⟨h1, h2, h3⟩ := tk_var n h
  refine ⟨.leaf (118 :: Lib.decDigits n), .inr (.inr h2), rfl, fun t ht => by rw [List.mem_singleton.1 ht]; exact h1, ?_⟩
  rw [wt_cons, wt_nil, h3]; omega
theorem ExT.un {ts : List Tok} {n : Int} (t : Tok) (ht : t = [64] ∨ t = [35]) (h : ExT ts n) : ExT (t :: ts) (n + 1) := by
  obtain ⟨e, h1, rfl, h3, h4⟩ := h
  have hw : t ∈ Ck.wordsL := by rcases ht with rfl | rfl <;> decide
  have hk : kind t = 9 ∨ kind t = 10 := by rcases ht with rfl | rfl <;> decide
  have hl : t.length = 1 := by rcases ht with rfl | rfl <;> rfl
  refine ⟨.un t e, ⟨hk, h1⟩, rfl, fun x hx => ?_, ?_⟩
  · rcases List.mem_cons.1 hx with rfl | hx
    · exact tk_word _ hw
    · exact h3 x hx
  · rw [wt_cons, hl]; omega
theorem ExT.bin {xa bs : List Tok} {n m : Int} (t : Tok) (ht : t = [43] ∨ t = [45] ∨ t = [42] ∨ t = [60] ∨ t = [61]) (ha : ExT xa n) (hb : ExT bs m) : ExT (t :: (xa ++ bs)) (n + m + 1) := by
  obtain ⟨a, a1, rfl, a3, a4⟩ := ha
  obtain ⟨b, b1, rfl, b3, b4⟩ := hb
  have hw : t ∈ Ck.wordsL := by rcases ht with rfl | rfl | rfl | rfl | rfl <;> decide
  have hk : 4 ≤ kind t ∧ kind t ≤ 8 := by rcases ht with rfl | rfl | rfl | rfl | rfl <;> decide
  have hl : t.length = 1 := by rcases ht with rfl | rfl | rfl | rfl | rfl <;> rfl
  refine ⟨.bin t a b, ⟨hk, a1, b1⟩, rfl, fun x hx => ?_, ?_⟩
  · rcases List.mem_cons.1 hx with rfl | hx
    · exact tk_word _ hw
    · rcases List.mem_append.1 hx with hx | hx
      · exact a3 x hx
      · exact b3 x hx
  · rw [wt_cons, wt_app, hl]; omega
theorem SmT.set {ts : List Tok} {n : Int} (i : Nat) (hi : i < 4) (h : ExT ts n) : SmT ([115, 101, 116] :: (118 :: Lib.decDigits i) :: ts) (n + 1) := by
  obtain ⟨e, h1, rfl, h3, h4⟩ := h
  obtain ⟨v1, v2, v3⟩ := tk_var i hi
  refine ⟨.set (118 :: Lib.decDigits i) e, ⟨v2, h1⟩, rfl, fun x hx => ?_, ?_⟩
  · rcases List.mem_cons.1 hx with rfl | hx
    · exact tk_word _ (by decide)
    · rcases List.mem_cons.1 hx with rfl | hx
      · exact v1
      · exact h3 x hx
  · rw [wt_cons, wt_cons, v3]; simp only [List.length_cons, List.length_nil]; omega
theorem SmT.put {xa bs : List Tok} {n m : Int} (ha : ExT xa n) (hb : ExT bs m) : SmT ([112, 117, 116] :: (xa ++ bs)) (n + m + 1) := by
  obtain ⟨a, a1, rfl, a3, a4⟩ := ha
  obtain ⟨b, b1, rfl, b3, b4⟩ := hb
  refine ⟨.put a b, ⟨a1, b1⟩, rfl, fun x hx => ?_, ?_⟩
  · rcases List.mem_cons.1 hx with rfl | hx
    · exact tk_word _ (by decide)
    · rcases List.mem_append.1 hx with hx | hx
      · exact a3 x hx
      · exact b3 x hx
  · rw [wt_cons, wt_app]; simp only [List.length_cons, List.length_nil]; omega
theorem SmT.del {xa : List Tok} {n : Int} (ha : ExT xa n) : SmT ([100, 101, 108] :: xa) (n + 1) := by
  obtain ⟨a, a1, rfl, a3, a4⟩ := ha
  refine ⟨.del a, a1, rfl, fun x hx => ?_, ?_⟩
  · rcases List.mem_cons.1 hx with rfl | hx
    · exact tk_word _ (by decide)
    · exact a3 x hx
  · rw [wt_cons]; simp only [List.length_cons, List.length_nil]; omega
theorem SmT.stop {xa : List Tok} {n : Int} (ha : ExT xa n) : SmT ([115, 116, 111, 112] :: xa) (n + 1) := by
  obtain ⟨a, a1, rfl, a3, a4⟩ := ha
  refine ⟨.stop a, a1, rfl, fun x hx => ?_, ?_⟩
  · rcases List.mem_cons.1 hx with rfl | hx
    · exact tk_word _ (by decide)
    · exact a3 x hx
  · rw [wt_cons]; simp only [List.length_cons, List.length_nil]; omega
theorem SmT.fail {xa : List Tok} {n : Int} (ha : ExT xa n) : SmT [[102, 97, 105, 108]] (n + 1) := by
  obtain ⟨a, a1, rfl, a3, a4⟩ := ha
  refine ⟨.fail, trivial, rfl, fun x hx => ?_, ?_⟩
  · rw [List.mem_singleton.1 hx]; exact tk_word _ (by decide)
  · rw [wt_cons, wt_nil]; simp only [List.length_cons, List.length_nil]; omega
theorem SmT.ite {es xa bs : List Tok} {n p q : Int} (he : ExT es n) (ha : SsT xa p) (hb : SsT bs q) : SmT ([105, 102] :: (es ++ ([123] :: (xa ++ ([125] :: [123] :: (bs ++ [[125]])))))) (n + p + q + 1) := by
  obtain ⟨e, e1, rfl, e3, e4⟩ := he
  obtain ⟨a, a1, rfl, a3, a4⟩ := ha
  obtain ⟨b, b1, rfl, b3, b4⟩ := hb
  refine ⟨.ite e a b, ⟨e1, a1, b1⟩, rfl, fun x hx => ?_, ?_⟩
  · simp only [List.mem_cons, List.mem_append, List.not_mem_nil, or_false] at hx
    rcases hx with rfl | hx | rfl | hx | rfl | rfl | hx | rfl
    · exact tk_word _ (by decide)
    · exact e3 x hx
    · exact tk_word _ (by decide)
    · exact a3 x hx
    · exact tk_word _ (by decide)
    · exact tk_word _ (by decide)
    · exact b3 x hx
    · exact tk_word _ (by decide)
  · simp only [wt_cons, wt_app, wt_nil, List.length_cons, List.length_nil]; omega
theorem SmT.whl {es xa : List Tok} {n p : Int} (he : ExT es n) (ha : SsT xa p) : SmT ([119, 104, 105, 108, 101] :: (es ++ ([123] :: (xa ++ [[125]])))) (n + p + 1) := by
  obtain ⟨e, e1, rfl, e3, e4⟩ := he
  obtain ⟨a, a1, rfl, a3, a4⟩ := ha
  refine ⟨.whl e a, ⟨e1, a1⟩, rfl, fun x hx => ?_, ?_⟩
  · simp only [List.mem_cons, List.mem_append, List.not_mem_nil, or_false] at hx
    rcases hx with rfl | hx | rfl | hx | rfl
    · exact tk_word _ (by decide)
    · exact e3 x hx
    · exact tk_word _ (by decide)
    · exact a3 x hx
    · exact tk_word _ (by decide)
  · simp only [wt_cons, wt_app, wt_nil, List.length_cons, List.length_nil]; omega
theorem SsT.nil : SsT [] 0 := ⟨.nil, trivial, rfl, by simp, by simp [wt]⟩
def snocS : Sms → Sm → Sms
  | .nil, m => .cons m .nil
  | .cons a r, m => .cons a (snocS r m)
theorem snocS_ok : ∀ (b : Sms) (m : Sm), b.Ok → m.Ok → (snocS b m).Ok
  | .nil, m, _, hm => ⟨hm, trivial⟩
  | .cons a r, m, hb, hm => ⟨hb.1, snocS_ok r m hb.2 hm⟩
theorem snocS_flat : ∀ (b : Sms) (m : Sm), (snocS b m).flat = b.flat ++ m.flat
  | .nil, m => by simp [snocS, Sms.flat]
  | .cons a r, m => by simp [snocS, Sms.flat, snocS_flat r m]
theorem SsT.snoc {xa bs : List Tok} {n m : Int} (ha : SsT xa n) (hb : SmT bs m) : SsT (xa ++ bs) (n + m) := by
  obtain ⟨a, a1, rfl, a3, a4⟩ := ha
  obtain ⟨b, b1, rfl, b3, b4⟩ := hb
  refine ⟨snocS a b, snocS_ok a b a1 b1, (snocS_flat a b).symm, fun x hx => ?_, by rw [wt_app]; omega⟩
  rcases List.mem_append.1 hx with hx | hx
  · exact a3 x hx
  · exact b3 x hx
theorem SsT.more {xa : List Tok} {n m : Int} (ha : SsT xa n) (h : n ≤ m) : SsT xa m := by
  obtain ⟨a, a1, a2, a3, a4⟩ := ha
  exact ⟨a, a1, a2, a3, by omega⟩

/-- the tokens of a whole source. -/
structure Src (ts : List Tok) : Prop where
  acc : acc [1] ts
  tk : ∀ t ∈ ts, Tk t
  wt : wt ts ≤ 340
theorem SsT.src {ts : List Tok} {n : Int} (h : SsT ts n) (hn : n ≤ 20) : Src ts := by
  obtain ⟨b, b1, rfl, b3, b4⟩ := h
  refine ⟨?_, b3, by omega⟩
  have := acc_sms b b1 1 (.inl rfl) [] [] (by unfold Tr.acc; rfl)
  simpa using this

/-- noughts ahead of a number, or none. -/
def zd (z : Bool) (t : Tok) : Tok := if z = true ∧ Ck.isDig (t.headD 0) = true then 48 :: 48 :: t else t
theorem zd_tok (z : Bool) (t : Tok) (h : Tk t) : Ck.tokenP (zd z t) = Ck.tokenP t ∧ Ck.showTok (zd z t) = t ∧ Wd (zd z t) ∧ (zd z t).length ≤ t.length + 2 := by
  unfold zd
  split
  · rename_i g
    obtain ⟨h1, h2, h3⟩ := h.zed g.2
    exact ⟨h1, h2, h3, by simp⟩
  · exact ⟨rfl, h.shown, h.wd, by omega⟩
theorem acc_zd (z : Bool) (ts : List Tok) : ∀ (st : List Int), (∀ t ∈ ts, Tk t) → acc st ts → acc st (ts.map (zd z)) := by
  induction ts with
  | nil => intro st _ h; exact h
  | cons t r ih =>
    intro st hk h
    have e : kind (zd z t) = kind t := by unfold kind; rw [(zd_tok z t (hk t (by simp))).1]
    rw [List.map_cons]
    unfold Tr.acc at h ⊢
    rw [e]
    exact ⟨h.1, ih _ (fun x hx => hk x (by simp [hx])) h.2⟩
theorem map_tok (z : Bool) (ts : List Tok) (h : ∀ t ∈ ts, Tk t) : (ts.map (zd z)).map Ck.tokenP = ts.map Ck.tokenP := by
  rw [List.map_map]
  exact List.map_congr_left fun t ht => (zd_tok z t (h t ht)).1
theorem map_show (z : Bool) (ts : List Tok) (h : ∀ t ∈ ts, Tk t) : (ts.map (zd z)).map Ck.showTok = ts := by
  rw [List.map_map]
  conv => rhs; rw [← List.map_id ts]
  exact List.map_congr_left fun t ht => (zd_tok z t (h t ht)).2.1
theorem line_join (ts : List Tok) : ∀ k, k ≤ ts.length → Ck.lineK ts k = join ((ts.take k).map Ck.showTok) := by
  intro k
  induction k with
  | zero => intro _; simp [Ck.lineK, join]
  | succ k ih =>
    intro hk
    have hk' : k < ts.length := by omega
    rw [Ck.lineK, ih (by omega), List.take_succ_eq_append_getElem hk', List.map_append, List.map_cons, List.map_nil, join_snoc]
    have e : ts.getD k [] = ts[k] := by simp [List.getD, hk']
    rw [e]
    by_cases h0 : k = 0
    · subst h0; simp [join]
    · have hne : (ts.take k).map Ck.showTok ≠ [] := by
        intro h
        have := congrArg List.length h
        rw [List.length_map, List.length_take, List.length_nil] at this
        omega
      rw [if_neg hne, if_pos (by omega)]
      simp
theorem line_all (ts : List Tok) : Ck.lineK ts ts.length = join (ts.map Ck.showTok) := by rw [line_join ts _ (Nat.le_refl _), List.take_length]
theorem len_join (ts : List Tok) : (join ts).length ≤ wt ts := by
  cases ts with
  | nil => simp [join]
  | cons t r =>
    have h : (r.flatMap (32 :: ·)).length ≤ wt r := by
      induction r with
      | nil => simp
      | cons x r ih => rw [List.flatMap_cons, List.length_append, wt_cons, List.length_cons]; omega
    rw [wt_cons, join, List.length_append]
    omega
theorem len_loose (g : List UInt8) (hg : g.length ≤ 2) (z : Bool) (ts : List Tok) (hk : ∀ t ∈ ts, Tk t) : (loose g (ts.map (zd z))).length ≤ 2 + wt ts := by
  have h : ((ts.map (zd z)).flatMap (· ++ g)).length ≤ wt ts := by
    induction ts with
    | nil => simp
    | cons x r ih =>
      have h1 := (zd_tok z x (hk x (by simp))).2.2.2
      have h2 := ih (fun t ht => hk t (by simp [ht]))
      rw [List.map_cons, List.flatMap_cons, List.length_append, wt_cons, List.length_append]
      omega
  unfold loose
  rw [List.length_append]
  omega
/-- a text of such tokens: it reads, and how it is shown. -/
theorem text_read (l : List UInt8) (us : List Tok) (ht : Ck.toks l = us) (ha : acc [1] us) (hl : l.length ≤ 400) : Ck.read l = (0, 0) := by
  unfold Ck.read
  rw [if_neg (by omega), ht]
  exact rd_acc _ _ _ ha
theorem text_show (l : List UInt8) (us : List Tok) (ht : Ck.toks l = us) (hr : Ck.read l = (0, 0)) : Ck.showP l = (join (us.map Ck.showTok), 0) := by
  rw [Ck.read_same] at hr
  unfold Ck.showP
  rw [hr, if_pos rfl, ht, line_all]
theorem Src.joined {ts : List Tok} (h : Src ts) : Ck.toks (join ts) = ts ∧ Ck.read (join ts) = (0, 0) ∧ Ck.showP (join ts) = (join ts, 0) ∧ (join ts).length ≤ 340 := by
  have hl := len_join ts
  have hw := h.wt
  have ht := toks_join ts (fun t ht => (h.tk t ht).wd)
  have hr := text_read _ _ ht h.acc (by omega)
  refine ⟨ht, hr, ?_, by omega⟩
  rw [text_show _ _ ht hr]
  have e : ts.map Ck.showTok = ts := by
    conv => rhs; rw [← List.map_id ts]
    exact List.map_congr_left fun t ht => (h.tk t ht).shown
  rw [e]
theorem Src.loosed {ts : List Tok} (h : Src ts) (g : List UInt8) (hg : Gap g) (hl : g.length ≤ 2) (z : Bool) : Ck.toks (loose g (ts.map (zd z))) = ts.map (zd z) ∧ Ck.read (loose g (ts.map (zd z))) = (0, 0) ∧ Ck.showP (loose g (ts.map (zd z))) = (join ts, 0) ∧ (loose g (ts.map (zd z))).length ≤ 342 := by
  have hl := len_loose g hl z ts h.tk
  have hw := h.wt
  have ht := toks_loose g hg (ts.map (zd z)) (fun t ht => by obtain ⟨x, hx, rfl⟩ := List.mem_map.1 ht; exact (zd_tok z x (h.tk x hx)).2.2.1)
  have hr := text_read _ _ ht (acc_zd z ts _ h.tk h.acc) (by omega)
  refine ⟨ht, hr, ?_, by omega⟩
  rw [text_show _ _ ht hr, map_show z ts h.tk]
theorem run_same (C : Jn.Con) (s1 s2 : List UInt8) (args : List Int) (fuel : Int) (h1 : Ck.read s1 = (0, 0)) (h2 : Ck.read s2 = (0, 0)) (ht : (Ck.toks s1).map Ck.tokenP = (Ck.toks s2).map Ck.tokenP) : Rn.run C s1 args fuel = Rn.run C s2 args fuel := by
  unfold Rn.run Rn.env
  rw [ht, h1, h2]
theorem Src.same {ts : List Tok} (h : Src ts) (g : List UInt8) (hg : Gap g) (hl : g.length ≤ 2) (z : Bool) (C : Jn.Con) (args : List Int) (fuel : Int) : Rn.run C (join ts) args fuel = Rn.run C (loose g (ts.map (zd z))) args fuel :=
  run_same C _ _ args fuel h.joined.2.1 (h.loosed g hg hl z).2.1 (by rw [h.joined.1, (h.loosed g hg hl z).1, map_tok z ts h.tk])
end Kp
end Go.Proofs.YtellilpeakpbfaaGreatDoor

end

section
/-
  Calls with less fuel, and of sources that are spaced otherwise; no Go text but the store's.
-/
set_option linter.unusedVariables false
namespace Go.Proofs.YtellilpeakpbfaaGreatDoor
open Go.RowKit
namespace Rn

/-- a call by its run. -/
def ofRun (C : Jn.Con) (r : Int × Int × List (Int × Bool × Int) × Int) : Jn.Con × Int × Int × List UInt8 × Int :=
  if r.2.2.2 ≠ 0 then (C, r.1, r.2.1, [], r.2.2.2) else ((wcells C r.2.2.1).1, r.1, r.2.1, (wcells C r.2.2.1).2, 0)
theorem call_run (C : Jn.Con) (nm src : List UInt8) (args : List Int) (fuel : Int) (h : srcL C.procs nm = some src) : call C nm args fuel = ofRun C (run C src args fuel) := by
  unfold call ofRun
  rw [h]
theorem conW_cells (ws : List (Int × Bool × Int)) : ∀ C1 C2 : Jn.Con, C1.cells = C2.cells → (conW C1 ws).cells = (conW C2 ws).cells := by
  induction ws with
  | nil => intro C1 C2 h; exact h
  | cons p r ih =>
    intro C1 C2 h
    exact ih (Jn.setC C1 p.1 (opW p)) (Jn.setC C2 p.1 (opW p)) (by unfold Jn.setC; rw [h])
/-- two calls of the same run. -/
theorem call_two {C1 C2 : Jn.Con} (hc : C1.cells = C2.cells) (hok1 : Jn.Ok C1) (hok2 : Jn.Ok C2) (nm s1 s2 : List UInt8) (args : List Int) (fuel : Int) (h1 : srcL C1.procs nm = some s1) (h2 : srcL C2.procs nm = some s2) (hr : run C1 s1 args fuel = run C2 s2 args fuel) :
    (call C1 nm args fuel).1.cells = (call C2 nm args fuel).1.cells ∧ (call C1 nm args fuel).2.1 = (call C2 nm args fuel).2.1 ∧ (call C1 nm args fuel).2.2.1 = (call C2 nm args fuel).2.2.1 ∧ (call C1 nm args fuel).2.2.2.2 = (call C2 nm args fuel).2.2.2.2 := by
  obtain ⟨a1, -⟩ := call_facts C1 nm args fuel hok1
  obtain ⟨b1, -⟩ := call_facts C2 nm args fuel hok2
  refine ⟨?_, ?_⟩
  · rw [a1, b1]
    unfold dcall
    rw [h1, h2]
    simp only
    rw [hr]
    split
    · exact hc
    · exact conW_cells _ _ _ hc
  · rw [call_run C1 nm s1 args fuel h1, call_run C2 nm s2 args fuel h2, hr]
    unfold ofRun
    split
    · exact ⟨rfl, rfl, rfl⟩
    · exact ⟨rfl, rfl, rfl⟩
/-- a call with less fuel. -/
theorem call_fuel (C : Jn.Con) (hok : Jn.Ok C) (nm src : List UInt8) (args : List Int) (n F : Int) (hs : srcL C.procs nm = some src) (hmn : may args n = true) (hmF : may args F = true) (h : n ≤ F) :
    (call C nm args n = call C nm args F ∧ (call C nm args F).2.2.2.2 ≠ 10 ∧ (call C nm args F).2.2.1 ≤ n) ∨ (call C nm args n = (C, 0, n, [], 10) ∧ ((call C nm args F).2.2.2.2 = 10 ∨ n < (call C nm args F).2.2.1)) := by
  have hr : (Ck.read src).2 = 0 := (hok.prc _ (src_mem _ _ _ hs)).2
  rw [call_run C nm src args n hs, call_run C nm src args F hs]
  have e1 : (ofRun C (run C src args F)).2.2.2.2 = (run C src args F).2.2.2 := by
    unfold ofRun
    split
    · rfl
    · rename_i h0; simp only; omega
  have e2 : (ofRun C (run C src args F)).2.2.1 = (run C src args F).2.1 := by
    unfold ofRun
    split <;> rfl
  rw [e1, e2]
  rcases run_fuel rfl src args n F hok hok hr hmn hmF h with ⟨h1, h2, h3⟩ | ⟨h1, h2⟩
  · exact .inl ⟨by rw [h1], h2, h3⟩
  · refine .inr ⟨?_, h2⟩
    rw [h1]
    rfl
theorem call_units (C : Jn.Con) (hok : Jn.Ok C) (nm src : List UInt8) (args : List Int) (F : Int) (hs : srcL C.procs nm = some src) (hmF : may args F = true) : 0 ≤ (call C nm args F).2.2.1 ∧ (call C nm args F).2.2.1 ≤ F := by
  have hr : (Ck.read src).2 = 0 := (hok.prc _ (src_mem _ _ _ hs)).2
  have h := run_units C src args F hok hr hmF
  rw [call_run C nm src args F hs]
  unfold ofRun
  split <;> exact h
end Rn
namespace Kp
/-- the same call of a source that is spaced otherwise. -/
theorem Src.calls {ts : List Tr.Tok} (h : Src ts) (g : List UInt8) (hg : Gap g) (hl : g.length ≤ 2) (z : Bool) (cs : List (Option Int)) (hok1 : Jn.Ok ⟨cs, [([112], join ts)]⟩) (hok2 : Jn.Ok ⟨cs, [([112], loose g (ts.map (zd z)))]⟩) (args : List Int) (fuel : Int) (hm : Rn.may args fuel = true) :
    (Rn.call ⟨cs, [([112], join ts)]⟩ [112] args fuel).1.cells = (Rn.call ⟨cs, [([112], loose g (ts.map (zd z)))]⟩ [112] args fuel).1.cells ∧ (Rn.call ⟨cs, [([112], join ts)]⟩ [112] args fuel).2.1 = (Rn.call ⟨cs, [([112], loose g (ts.map (zd z)))]⟩ [112] args fuel).2.1 ∧
    (Rn.call ⟨cs, [([112], join ts)]⟩ [112] args fuel).2.2.1 = (Rn.call ⟨cs, [([112], loose g (ts.map (zd z)))]⟩ [112] args fuel).2.2.1 ∧ (Rn.call ⟨cs, [([112], join ts)]⟩ [112] args fuel).2.2.2.2 = (Rn.call ⟨cs, [([112], loose g (ts.map (zd z)))]⟩ [112] args fuel).2.2.2.2 := by
  refine Rn.call_two (C1 := ⟨cs, [([112], join ts)]⟩) (C2 := ⟨cs, [([112], loose g (ts.map (zd z)))]⟩) rfl hok1 hok2 [112] (join ts) (loose g (ts.map (zd z))) args fuel rfl rfl ?_
  rw [h.same g hg hl z ⟨cs, [([112], join ts)]⟩ args fuel]
  exact Rn.run_con (C1 := ⟨cs, [([112], join ts)]⟩) (C2 := ⟨cs, [([112], loose g (ts.map (zd z)))]⟩) rfl _ args fuel hok1 hok2 (by rw [(h.loosed g hg hl z).2.1]) hm
end Kp
theorem pair_callE {L : Nat} {w : World} {s S B D t S2 B2 D2 : Nat} {C C2 : Jn.Con} (h : Pair L w s S B D C t S2 B2 D2 C2) (n : ByteArray) (v : Value) (args : List Int) (fuel : Int) (hW : WordsAt w) (hv : IntsAt w v args) (hP : PowAt w) (hpL : 1 < L) :
    Calls Tryz.prog 27 #[.pointer (some ⟨S, 0, none⟩), .string n, v, .int .i64 fuel] w fun e w' => ∃ vo vn vk, e = .returned (.tuple #[.agg #[.int .i64 (Rn.call C n.data.toList args fuel).2.1, .int .i64 (Rn.call C n.data.toList args fuel).2.2.1], .slice vo vn vk, .int .i64 (Rn.call C n.data.toList args fuel).2.2.2.2]) ∧
      PairPost L s S B D (Rn.call C n.data.toList args fuel).1 t S2 B2 D2 C2 w w' ∧ ((Rn.call C n.data.toList args fuel).2.2.2.1 = [] → vn = 0) := by
  obtain ⟨⟨f, d, h1⟩, ⟨f2, d2, h2⟩, h3⟩ := h
  refine (callS_any L S B C f n v args fuel w h1.st hW hv hP hpL).mono ?_
  rintro x w' ⟨va, rfl, hst, g, hor⟩
  obtain ⟨vo, vn, vk, rfl⟩ : ∃ vo vn vk, va = .slice vo vn vk := by
    rcases hor with ⟨-, h⟩ | ⟨-, h⟩
    · exact ⟨_, _, _, h⟩
    · obtain ⟨a, b, c, -⟩ := h.shape; exact ⟨a, _, b, c⟩
  refine ⟨vo, vn, vk, rfl, pair_store h1 h2 h3 hst g, fun he => ?_⟩
  rcases hor with ⟨-, h⟩ | ⟨h, -⟩
  · cases h; rfl
  · exact absurd he h
end Go.Proofs.YtellilpeakpbfaaGreatDoor

end
