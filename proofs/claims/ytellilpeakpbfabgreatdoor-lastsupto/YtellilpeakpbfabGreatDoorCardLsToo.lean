import Derived.Test.YtellilpeakpbfabGreatDoorCards
import Derived.Test.YtellilpeakpbfabGreatDoorTie
import Derived.Test.YtellilpeakpbfabGreatDoorCardRToo
import Derived.Test.YtellilpeakpbfabGreatDoorLawTToo
import Derived.ProofKit
import Derived.OpenShut
import Derived.Deep.DeepHandedRow
import Derived.Lib.LaidTab
import Derived.SizedLaws
/-
  The row of the law Lasts in its second form, and its tied card.
-/
namespace Go.Proofs.YtellilpeakpbfabGreatDoor.Lsd
open Go.ChangeShapes Go.WideShapes Go.ChangeAt Go.RowKit
open Go.ChangeMaps (open_string shut_string)
open Ckd (words_of pow_of layVar own)

theorem bulk_one {H : Type} (d : DataW H) : 1 ≤ Rows.uptoBulk d := by
  cases d with
  | lit l => cases l <;> simp [Rows.uptoBulk]
  | nil => simp [Rows.uptoBulk]
  | ptr d => simp [Rows.uptoBulk]
  | slice elems spare => simp [Rows.uptoBulk]
  | agg parts => simp [Rows.uptoBulk]
  | iface t d => simp [Rows.uptoBulk]
  | map entries => simp [Rows.uptoBulk]
  | held h => simp [Rows.uptoBulk]
theorem bulk_len {H : Type} (l : List (DataW H)) : l.length ≤ Rows.uptoBulkAll l := by
  induction l with
  | nil => simp [Rows.uptoBulkAll]
  | cons x r ih => have := bulk_one x; simp only [Rows.uptoBulkAll, List.length_cons]; omega
theorem laidOut : laidOutB Tryz.prog = true := by kernel_rfl

set_option maxRecDepth 100000 in
theorem contract (H : Type) (enc : TypeId × Value → H) (W : World) (base : Nat) (args : Array Value) (ds gs : List (DataW H)) (before : List MemPlace)
    (hval : ∀ (j : Nat) t v, Tryz.f8.params[j]? = some t → args[j]? = some v → Value.okWide Tryz.prog W .any base t v)
    (hW : DataW.Whole enc Tryz.prog Tryz.f8.params.toList Rows.lastsSpec.vars false W args.toList ds gs before) (hz : (DataW.weightsEach Tryz.prog (Tryz.f8.params.toList ++ (Rows.OpenSpec.upto Rows.lastsSpec).bare.plain.varTypes Tryz.prog) (ds ++ gs)).all (· ≤ reachBytes) = true) (hL : laidMetH Tryz.prog Rows.lastsUptoRow.laid W) (hk : Rows.uptoSmall H (ds ++ gs) = true) :
    Calls Tryz.prog 8 args W fun e W' => ∃ v, e = .returned v ∧ Rows.lastsSpec.post enc Tryz.prog Tryz.f8 false true false false W args v W' := by
  have hW' := hW
  obtain ⟨p, q, hA0, hV, rfl, hfz, hnd⟩ := hW
  have hA : DataW.TrodAll enc Tryz.prog W 0 (fun _ => true) true Tryz.f8.params.toList args.toList ds p := hA0
  rw [Tryz.params8] at hA hval hz
  obtain ⟨v0, vs0, d0, ds0, p0, q0, hargs, rfl, rfl, h0, r0⟩ := trodAll_cons hA
  obtain ⟨rfl, rfl, rfl⟩ := trodAll_nil r0
  obtain rfl : args = #[v0] := Array.toList_inj.1 (by rw [hargs])
  obtain ⟨rfl, rfl⟩ := trodVars_none hV
  obtain ⟨a0, len0, cap0, rfl⟩ := okWide_slice Tryz.underlying69 (hval 0 69 v0 rfl rfl)
  obtain ⟨fuel, h0'⟩ := h0
  obtain ⟨ao, cap, ops, hv0, hscr, hbd, hor⟩ := Scd.scr_of2 (v := .slice a0 len0 cap0) h0'
  rw [hv0] at hW' h0' ⊢
  have hn : ops.length ≤ 200000000000 := by
    rcases hor with rfl | ⟨el, sp, hd, he⟩
    · simp
    · have hd' : d0 = .slice el sp := hd
      subst hd'
      have h : Rows.uptoBulkAll ([DataW.slice el sp] ++ ([] : List (DataW H))) ≤ 1048576 := of_decide_eq_true hk
      simp only [List.append_nil, Rows.uptoBulkAll, Rows.uptoBulk] at h
      have := bulk_len el
      omega
  have hli : ∀ v l, Scd.ListOf W (d0.weights Tryz.prog 69) v l → ArgsAt W.heap.size W v l := by
    intro v l hl
    refine ⟨hl.ints, hl.low, ?_, hl.nums⟩
    rcases hl.size with rfl | ⟨n, hn, hs⟩
    · simp
    · have h9 : n ≤ reachBytes := of_decide_eq_true (List.all_eq_true.1 hz n (DataW.weights_mem_each (j := 0) (t := 69) (d := d0) rfl rfl n hn))
      simp only [reachBytes] at h9
      omega
  have hbd2 : ∀ o ∈ ops, OpOk W.heap.size W o := by
    intro o ho
    obtain ⟨-, b, c, ⟨l, hl⟩, ⟨l2, hl2⟩⟩ := hbd o ho
    exact ⟨b, c, ⟨l, hli _ _ hl⟩, ⟨l2, hli _ _ hl2⟩⟩
  clear hA0
  simp only [List.append_nil] at hW'
  have hlt : ∀ x ∈ p0, x.block < W.heap.size := fun x hx => by simpa using hW'.lt x (by simpa using hx)
  obtain ⟨ps, hl, _⟩ := hL
  obtain ⟨_, _, _, _, _, q0, _, _, _, _, hl, _⟩ := hl
  obtain ⟨_, _, _, _, _, q1, _, _, _, _, hl, _⟩ := hl
  have hP := pow_of hl
  obtain ⟨_, _, _, _, _, q2, _, _, _, _, hl, _⟩ := hl
  refine (lasts_any W ao cap ops hscr hP (words_of hl) hn hbd2).mono fun e W' ⟨he, hb⟩ => ?_
  subst he
  refine ⟨_, rfl, _, _, _, [], p0 ++ [], [], hW', ?_, ?_, rfl, hb.frame _, fun h => by cases h⟩
  · exact trodAll_cons_mk (shut_bool Tryz.underlying4 _) trodAll_mk0
  · exact trodAll_cons_mk (Below.trod laidOut (by kernel_rfl) (of_decide_eq_true (by kernel_rfl)) ⟨fuel, h0'⟩ hb hlt) trodAll_mk0

theorem laid_met (os : Os) : laidMet Tryz.prog Rows.lastsUptoRow.laid (({ World.holding Tryz.prog os ⟨#[], #[], []⟩ with heap := (World.holding Tryz.prog os ⟨#[], #[], []⟩).heap.modify 0 (layVar Rows.laid_cellar_source_words) |>.modify 1 (layVar Rows.laid_internal_strconv_uint64pow10) |>.modify 2 (layVar Rows.laid_math_bits_deBruijn32tab) |>.modify 3 (layVar Rows.laid_math_bits_deBruijn64tab) }).forCall (fun _ _ => 0) ⟨#[], #[.slice none 0 0], []⟩).memory :=
  laidMet_of_run' 8 (by kernel_rfl) (by kernel_rfl)
theorem reads (os : Os) {H : Type} (enc : TypeId × Value → H) : ∃ places, DataW.whole enc Tryz.prog (({ World.holding Tryz.prog os ⟨#[], #[], []⟩ with heap := (World.holding Tryz.prog os ⟨#[], #[], []⟩).heap.modify 0 (layVar Rows.laid_cellar_source_words) |>.modify 1 (layVar Rows.laid_internal_strconv_uint64pow10) |>.modify 2 (layVar Rows.laid_math_bits_deBruijn32tab) |>.modify 3 (layVar Rows.laid_math_bits_deBruijn64tab) }).forCall (fun _ _ => 0) ⟨#[], #[.slice none 0 0], []⟩).memory Tryz.f8.params.toList Rows.lastsSpec.vars false #[Value.slice none 0 0].toList 8 = some ([.nil], [], places) :=
  ⟨[], by kernel_rfl⟩

set_option maxRecDepth 100000 in
theorem lifted (os : Os) (started : os.Started) (H : Type) (enc : TypeId × Value → H) (F : Stop.Interp) :
    ReturnsInHanded {} Tryz.checked os 8 .any ((Rows.OpenSpec.upto Rows.lastsSpec).preRow enc Tryz.prog Tryz.f8 Rows.lastsUptoRow.domain false Rows.lastsUptoRow.laid) (((Rows.OpenSpec.upto Rows.lastsSpec).at F).post enc Tryz.prog Tryz.f8 false true false false) := by
  obtain ⟨places, hx⟩ := reads os enc
  refine returnsInHanded_of_row (C := Tryz.checked) (s := Rows.OpenSpec.upto Rows.lastsSpec) own started (by kernel_rfl) Tryz.func8
    (witness_row_at (enc := enc) (C := Tryz.checked) false ({ World.holding Tryz.prog os ⟨#[], #[], []⟩ with heap := (World.holding Tryz.prog os ⟨#[], #[], []⟩).heap.modify 0 (layVar Rows.laid_cellar_source_words) |>.modify 1 (layVar Rows.laid_internal_strconv_uint64pow10) |>.modify 2 (layVar Rows.laid_math_bits_deBruijn32tab) |>.modify 3 (layVar Rows.laid_math_bits_deBruijn64tab) }) #[.slice none 0 0] rfl (by kernel_rfl) (by kernel_rfl) (by kernel_rfl)
      (OpenSpec.preRow_of_cond 8 hx (by kernel_rfl) (fun k hk => by cases hk; kernel_rfl) (by kernel_rfl) (laid_met os))) ?_
  intro W base args ds gs before hval hW _ hcond hz hL _ _
  exact contract H enc W base args ds gs before hval hW hz hL (hcond _ rfl)

theorem said : Rows.LastsUptoSaid :=
  OpenClaim.holds_of_cond 8 Tryz.f8 rfl rfl rfl rfl rfl rfl rfl ⟨rfl, rfl, rfl, rfl, rfl⟩ rfl rfl rfl rfl rfl (by kernel_rfl) Tryz.func8 (by kernel_rfl)
    (of_decide_eq_true (by kernel_rfl)) (by unfold Func.isWrapper; first | (rw [if_pos (by decide +kernel)]; kernel_rfl) | (rw [if_neg (by decide +kernel)]; exact ⟨rfl, rfl⟩))
    (fun os started H enc _ F => by rw [OpenClaim.pre_eq_preRow]; exact lifted os started H enc F)

theorem plain (f : FuncId) (fn : Func) (hf : Tryz.pinned.checked.prog.funcNamed Rows.lastsUptoRow.func = some f) (hfn : Tryz.pinned.checked.prog.funcs[f]? = some fn) :
    false = Tryz.pinned.checked.prog.looks [] ∧ ∀ (j : Nat) t, fn.params[j]? = some t → Tryz.pinned.checked.prog.wantsStandIn t = false := by
  obtain rfl : f = 8 := Option.some.inj ((show Tryz.prog.funcNamed Rows.lastsUptoRow.func = some 8 by kernel_rfl).symm.trans hf) |>.symm
  obtain rfl : fn = Tryz.f8 := (Option.some.inj (Tryz.func8.symm.trans hfn)).symm
  refine ⟨by kernel_rfl, fun j t ht => ?_⟩
  rw [Tryz.params8] at ht
  obtain rfl : t = 69 := by simpa using Array.mem_of_getElem? ht
  exact (show Tryz.prog.wantsStandIn 69 = false by kernel_rfl)

/-- ████ THE CARD ████ -/
theorem card : Rows.LastsUptoCardSaid :=
  Claim7.holds_tied_plain_at .later [] _ _ _ _ said (fun _ h => by cases h) (by kernel_rfl) (fun _ h => by cases h) lastsUpto_row_tie rfl ⟨rfl, rfl⟩ (by kernel_rfl) rfl plain (by kernel_rfl)
end Go.Proofs.YtellilpeakpbfabGreatDoor.Lsd
namespace Go.Proofs.YtellilpeakpbfabGreatDoor
theorem lastsupto_card : Rows.LastsUptoCardSaid := Lsd.card
end Go.Proofs.YtellilpeakpbfabGreatDoor
