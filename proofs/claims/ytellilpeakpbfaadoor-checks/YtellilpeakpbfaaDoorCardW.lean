import Derived.Test.YtellilpeakpbfaaDoorFol
import Derived.Test.YtellilpeakpbfaaDoorTok
import Derived.ProofKit
import Derived.OpenShut
import Derived.Deep.DeepHandedRow
import Derived.Lib.LaidTab
/-
  What the rows share: from the listed variables to what the walks ask.
-/
namespace Go.Proofs.YtellilpeakpbfaaDoor.Ckd
open Go.ChangeShapes Go.WideShapes Go.ChangeAt Go.RowKit

theorem own : ownKnob Tryd.prog.godebug = none := by kernel_rfl
theorem gTab : Tryd.prog.globalNamed (Rows.showsRow.named.headD "") = some 0 := by kernel_rfl
theorem gTabType : (Tryd.prog.globals[0]?).map (·.type) = some 71 := by kernel_rfl
theorem cellsWords : Tryd.prog.cellsOf 71 = 16 := by kernel_rfl
theorem cellsStr : Tryd.prog.cellsOf 9 = 1 := by kernel_rfl

/-- An array of texts as a row lists it. -/
def strData {H : Type} (ls : List (List UInt8)) : DataW H := .agg (ls.map fun l => .lit (.string l))
theorem cells_of_strs {H : Type} {enc : TypeId × Value → H} {P : Program} {w : World} {base : Nat} {sp : Nat → Bool} {held : Bool} {fuel : Nat} {t e : TypeId} {n : Nat} {cs : List Value} {ls : List (List UInt8)} {p : List MemPlace}
    (ht : P.underlying t = some (.array n e)) (he : P.underlying e = some .string) (hce : P.cellsOf e = 1) (hct : P.cellsOf t = n)
    (h : DataW.trod enc P w base sp held fuel t cs = some (strData ls, p)) : cs = ls.map T := by
  cases fuel with
  | zero => simp [DataW.trod] at h
  | succ fuel =>
    simp only [DataW.trod, ht, hce, hct, Nat.mul_one] at h
    split at h
    · rename_i hl
      obtain ⟨xs, hm, hx⟩ := Option.map_eq_some_iff.1 h
      have hxs : xs.map (·.1) = ls.map fun l => (DataW.lit (.string l) : DataW H) := by
        have := congrArg Prod.fst hx
        simpa [strData] using this
      have hxl : xs.length = n := by simpa using Lib.mapM_length hm
      have hzl : ls.length = n := by
        have := congrArg List.length hxs
        simp at this
        omega
      apply List.ext_getElem?
      intro i
      by_cases hi : i < n
      · obtain ⟨b, hb, hf⟩ := Lib.mapM_at hm i i (by simp [hi])
        obtain ⟨s, hc, rfl, _⟩ := DataW.trod_string he hf
        have h1 : cs[i]? = some (.string s) := by
          have := congrArg (·[0]?) hc
          simpa [List.getElem?_take, List.getElem?_drop] using this
        have h2 : (xs.map (·.1))[i]? = some (DataW.lit (.string s.data.toList) : DataW H) := by simp [hb]
        rw [hxs] at h2
        simp only [List.getElem?_map, Option.map_eq_some_iff, DataW.lit.injEq, Lit.string.injEq] at h2
        obtain ⟨l, hl', rfl⟩ := h2
        simp [h1, hl', T]
      · rw [List.getElem?_eq_none (by omega), List.getElem?_eq_none (by simp; omega)]
    · cases h

theorem words_of {W : World} {rest : List (String × DataW Unit)} {ps : List MemPlace} (h : DataW.LaidVars Tryd.prog W ((Rows.showsRow.named.headD "", Rows.laid_cellar_source_words) :: rest) ps) : WordsAt W := by
  obtain ⟨g', t', cs, fuel, p, q, hg', ht', hvar, hd, _, _⟩ := h
  obtain rfl := Option.some.inj (gTab.symm.trans hg')
  obtain rfl := Option.some.inj (gTabType.symm.trans ht')
  have hcs : cs.toList = Ck.wordsL.map T := cells_of_strs (ls := Ck.wordsL) Tryd.underlying71 Tryd.underlying9 cellsStr cellsWords hd
  have hall : ∀ k, k < 16 → W.cell? ⟨0, k, none⟩ = some (.string ⟨(Ck.wordsL.getD k []).toArray⟩) := by
    intro k hk
    have := World.var?_cell gTab hvar k
    rw [this]
    have e : cs[k]? = (Ck.wordsL.map T)[k]? := by rw [← hcs]; simp
    rw [e]
    have hl : k < Ck.wordsL.length := hk
    simp [List.getD, hl, T]
  exact ⟨World.block_lt_of_cell? W ⟨0, 0, none⟩ (hall 0 (by omega)), hall⟩

/-- FOR A WITNESS: a variable's cells as its initialiser lays them. -/
def litVal : DataW Unit → Value
  | .lit (.int k z) => .int k z
  | .lit (.string l) => T l
  | _ => .bool false
def layVar (d : DataW Unit) : Obj → Obj
  | .cells c t frozen => match d with
    | .agg ds => .cells (ds.map litVal).toArray t frozen
    | _ => .cells c t frozen
  | o => o

end Go.Proofs.YtellilpeakpbfaaDoor.Ckd
