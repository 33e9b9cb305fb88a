import Derived.Test.YtellilpeakpbfaaGreatDoorDnSToo
import Derived.Laws.CopyOwn
import Derived.BigQuiet
import Derived.Test.YtellilpeakpbfaaGreatDoorProcIToo
import Derived.Test.YtellilpeakpbfaaGreatDoorClPToo
section
/-
  The walks of lent and kept.
-/
namespace Go.Proofs.YtellilpeakpbfaaGreatDoor
open Go.RowKit

/-- a list that was lent, with its spare room. -/
def LentAt (w : World) (g : Nat) (l : List Int) : Prop := ∃ cur : Array Value, w.heap[g]? = some (.cells cur 3 (0, 0)) ∧ cur.size = l.length + 2 ∧ (∀ (i : Nat) (a : Int), l[i]? = some a → cur[i]? = some (Value.int .i64 a)) ∧ cur[l.length]? = some (Value.int .i64 77) ∧ cur[l.length + 1]? = some (Value.int .i64 77)
theorem LentAt.ints {w : World} {g : Nat} {l : List Int} (h : LentAt w g l) : IntsAt w (.slice (some ⟨g, 0, none⟩) l.length (l.length + 2)) l := by
  obtain ⟨cur, hh, -, hc, -, -⟩ := h
  exact ⟨_, _, rfl, fun _ => ⟨g, 0, rfl, fun i a ha => by rw [Nat.zero_add]; exact (cell_of_row w g i _ _ _ hh).trans (hc i a ha)⟩⟩

set_option maxHeartbeats 4000000 in
set_option maxRecDepth 100000 in
theorem lent_any (l : List Int) (v : Value) (w : World) (hv : IntsAt w v l) (hl : l.length ≤ 18000000000000) :
    Calls Tryz.prog 118 #[v] w fun e w' => ∃ G, e = .returned (.slice (some ⟨G, 0, none⟩) l.length (l.length + 2)) ∧ w.heap.size ≤ G ∧ LentAt w' G l ∧ Below w.heap.size w w' := by
  obtain ⟨ao, cap, rfl, hvc⟩ := hv
  have HVC := hide hvc
  obtain ⟨i0, hi, hy0, hy1, hy2⟩ := info_parts Tryz.infoNum
  clear hvc
  go_enter Tryz.func118, Tryz.ntmps118
  go_wp2_with (refine wpList_make_full w rfl (.tmp 6) (.tmp 6) 24 rfl w.heap.size 3 i0 (.int .i64 0) 1 Tryz.underlying24 hi hy0 hy1 _ _ _ _ (l.length + 2) rfl rfl ?c1 ?c2 ?c3 ?c4 (Nat.le_refl _) ?_)
  case c1 => simp
  case c2 => simp
  case c3 => rw [hy2]; omega
  case c4 => unfold maxLen; omega
  intro w1 hrow hg1
  have hb1 : Below w.heap.size w w1 := ⟨hg1.os, hg1.tape, hg1.output, hg1.size, fun k hk => hg1.block k hk (by simp)⟩
  have hcells : ∃ cur : List Value, w1.heap[w.heap.size]? = some (.cells cur.toArray 3 (0, 0)) ∧ cur.length = l.length + 2 := by
    rcases hrow.2 with ⟨hx, -⟩ | ⟨g, cap', cur, hx, hgb, hh, hcap, hm, hsz, htake⟩
    · cases hx
    · injection hx with h1 h2 h3
      injection h1 with h1
      injection h1 with h1
      subst h1
      exact ⟨cur.toList, by simpa using hh, by simp; omega⟩
  obtain ⟨cur, hcur, hcl⟩ := hcells
  obtain ⟨G, hG⟩ : ∃ G, G = w.heap.size := ⟨_, rfl⟩
  rw [← hG] at hcur ⊢
  have HB1 := hide hb1
  have hGw : w.heap.size ≤ G := Nat.le_of_eq hG.symm
  clear hrow hg1 hG
  have hnum : (Tryz.prog.info? 3).map (·.size) = some 1 := by rw [hi]; simp [hy1]
  go_wp2_with (refine wpList_copy_splice rfl (.tmp 8) (.tmp 9) 24 24 rfl 3 Tryz.underlying24 hnum _ _ _ _ _ _ rfl rfl G 0 cur 3 hcur (l.map fun a => Value.int .i64 a) ?d1 ?d2 ?d3 ?d4 w.heap.size w HB1.out hGw ?_)

  case d1 => simp
  case d2 =>
    intro hp
    have hp' : 0 < l.length := by simpa using hp
    obtain ⟨g, z, rfl, hcs⟩ := HVC.out hp'
    refine ⟨_, rfl, fun j u hu => ?_⟩
    simp only [Addr.add_lit]
    exact at_old HB1.out (hcs j u hu)
  case d3 => simp; omega
  case d4 => intro u hu; simp at hu; obtain ⟨a, -, rfl⟩ := hu; rfl
  intro w2 HG2 hb2
  obtain ⟨cs2, hcs2⟩ : ∃ cs2, cs2 = splice cur 0 (l.map fun a => Value.int .i64 a) := ⟨_, rfl⟩
  have hl2 : cs2.length = l.length + 2 := by rw [hcs2, length_splice _ _ _ (by simp; omega), hcl]
  have hat : ∀ (i : Nat) (a : Int), l[i]? = some a → cs2[i]? = some (Value.int .i64 a) := by
    intro i a ha
    rw [hcs2]
    unfold splice
    have hil : i < l.length := (List.getElem?_eq_some_iff.1 ha).1
    rw [List.take_zero, List.nil_append, List.getElem?_append_left (by simpa using hil)]
    simp [ha]
  have h2 := HG2.out
  rw [← hcs2] at h2
  clear HG2 hcs2 HB1 hb1 hcur HVC hcl
  obtain ⟨o1, ho1⟩ : ∃ o1, cs2[l.length]? = some o1 := ⟨_, List.getElem?_eq_getElem (by omega)⟩
  obtain ⟨o2, ho2⟩ : ∃ o2, cs2[l.length + 1]? = some o2 := ⟨_, List.getElem?_eq_getElem (by omega)⟩
  have e1 : w2.cell? ⟨G, l.length, none⟩ = some o1 := (cell_of_row w2 G l.length _ _ _ h2).trans (by simpa using ho1)
  have e2 : w2.cell? ⟨G, l.length + 1, none⟩ = some o2 := (cell_of_row w2 G (l.length + 1) _ _ _ h2).trans (by simpa using ho2)
  have f1 : w2.frozen? ⟨G, l.length, none⟩ = false := frozen_of_row w2 G _ _ _ h2
  have f2 : w2.frozen? ⟨G, l.length + 1, none⟩ = false := frozen_of_row w2 G _ _ _ h2
  have HFIN : Hid (LentAt ((w2.setCell ⟨G, l.length, none⟩ (.int .i64 77)).setCell ⟨G, l.length + 1, none⟩ (.int .i64 77)) G l ∧ Below w.heap.size w ((w2.setCell ⟨G, l.length, none⟩ (.int .i64 77)).setCell ⟨G, l.length + 1, none⟩ (.int .i64 77))) := by
    have h3 := heap_setCell_same w2 G l.length _ _ (.int .i64 77) h2
    have h4 := heap_setCell_same _ G (l.length + 1) _ _ (.int .i64 77) h3
    refine ⟨⟨_, h4, by simp [hl2], fun i a ha => ?_, ?_, ?_⟩, (hb2.setCell (p := ⟨G, l.length, none⟩) hGw _).setCell (p := ⟨G, l.length + 1, none⟩) hGw _⟩
    · have hil : i < l.length := (List.getElem?_eq_some_iff.1 ha).1
      have := hat i a ha
      simp only [Array.getElem?_setIfInBounds]
      rw [if_neg (by omega), if_neg (by omega)]
      simpa using this
    · simp only [Array.getElem?_setIfInBounds]
      rw [if_neg (by omega), if_pos trivial, if_pos (by simp; omega)]
    · simp only [Array.getElem?_setIfInBounds]
      rw [if_pos trivial, if_pos (by simp; omega)]
  clear h2 hb2 hat ho1 ho2 hl2
  go_wp2
  go_ret
  exact ⟨G, rfl, hGw, HFIN.out⟩

def KtRel (l : List Int) (i : Value) : Prop := ∃ k : Nat, k ≤ l.length ∧ i = .int .i64 k
set_option maxHeartbeats 4000000 in
set_option maxRecDepth 100000 in
theorem kept_any (l : List Int) (v : Value) (G : Nat) (w : World) (hv : IntsAt w v l) (hg : LentAt w G l) (hl : l.length ≤ 18000000000000) :
    Calls Tryz.prog 119 #[.slice (some ⟨G, 0, none⟩) l.length (l.length + 2), v] w fun e w' => e = .returned (.bool true) ∧ Below w.heap.size w w' := by
  obtain ⟨ao, cap, rfl, hvc⟩ := hv
  obtain ⟨cur, hh, hsz, hat, e1, e2⟩ := hg
  have HVC := hide hvc
  have HAT := hide (fun i a ha => (cell_of_row w G i _ _ _ hh).trans (hat i a ha))
  have c1 : w.cell? ⟨G, l.length, none⟩ = some (.int .i64 77) := (cell_of_row w G l.length _ _ _ hh).trans e1
  have c2 : w.cell? ⟨G, l.length + 1, none⟩ = some (.int .i64 77) := (cell_of_row w G (l.length + 1) _ _ _ hh).trans e2
  clear hvc hh hsz hat e1 e2
  go_enter Tryz.func119, Tryz.ntmps119
  go_wp2
  go_loopw [6] (fun i wr => KtRel l i ∧ Below w.heap.size w wr) (fun i _ => l.length - (intOf i).toNat)
  case atStart => exact ⟨⟨0, Nat.zero_le _, rfl⟩, Below.refl _ _⟩
  case round =>
    obtain ⟨⟨k, hk, rfl⟩, hb⟩ := hrel
    have HB := hide hb
    by_cases hlt : k < l.length
    · have tk : decide ((k : Int) < (l.length : Int)) = true := by simp; omega
      obtain ⟨g, z, rfl, hcs⟩ := HVC.out (by omega)
      obtain ⟨a, ha⟩ : ∃ a, l[k]? = some a := ⟨l[k], by simp [hlt]⟩
      have d1 : wr.cell? ⟨g, z + k, none⟩ = some (.int .i64 a) := at_old hb (hcs k a ha)
      have d2 : wr.cell? ⟨G, k, none⟩ = some (.int .i64 a) := at_old hb (HAT.out k a ha)
      have ta : (a != a) = false := by simp
      have i1 : (k : Int) < (l.length : Int) := by omega
      have i2 : (k : Int) < (l.length : Int) + 2 := by omega
      clear hcs ha hb
      go_wp2
      go_quiet (fail)
      go_wp2
      go_roundw
      case rel => exact ⟨⟨k + 1, by omega, by go_num⟩, below_drewN HB.out nq⟩
      case measure => simp [intOf]; omega
    · have tk : decide ((k : Int) < (l.length : Int)) = false := by simp; omega
      have d1 : wr.cell? ⟨G, l.length, none⟩ = some (.int .i64 77) := at_old hb c1
      have d2 : wr.cell? ⟨G, l.length + 1, none⟩ = some (.int .i64 77) := at_old hb c2
      clear hb
      go_wp2
      go_ret
      exact ⟨rfl, HB.out⟩
end Go.Proofs.YtellilpeakpbfaaGreatDoor

end

section
/-
  World.call: what its drawn regions leave, whichever order was drawn.
-/
namespace Go.Proofs.YtellilpeakpbfaaGreatDoor
open Go.RowKit

/-- the arguments of a call as the script holds them: below a border. -/
def ArgsAt (L : Nat) (w : World) (v : Value) (l : List Int) : Prop := IntsAt w v l ∧ InLow v l L ∧ l.length ≤ 18000000000000 ∧ ∀ a ∈ l, -9223372036854775808 ≤ a ∧ a ≤ 9223372036854775807
theorem ArgsAt.below {L : Nat} {w w' : World} {v : Value} {l : List Int} (h : ArgsAt L w v l) (hb : Below L w w') : ArgsAt L w' v l := ⟨h.1.low h.2.1 hb, h.2⟩
theorem ArgsAt.up {L L' : Nat} {w : World} {v : Value} {l : List Int} (h : ArgsAt L w v l) (hL : L ≤ L') : ArgsAt L' w v l := ⟨h.1, fun hp g hg => Nat.lt_of_lt_of_le (h.2.1 hp g hg) hL, h.2.2⟩

theorem below_then {w x y : World} (h : Below w.heap.size w x) (g : Below x.heap.size x y) : Below w.heap.size w y := h.trans (g.mono h.size)
theorem belowA {w x : World} (h : Below w.heap.size w x) (o : Obj) : Below w.heap.size w (x.alloc o) := h.alloc h.size o
theorem belowS {w x : World} {b j : Nat} (h : Below w.heap.size w x) (hb : w.heap.size ≤ b) (v : Value) : Below w.heap.size w (x.setCell ⟨b, j, none⟩ v) := h.setCell (p := ⟨b, j, none⟩) hb v
theorem leA {n : Nat} {x : World} (h : n ≤ x.heap.size) (o : Obj) : n ≤ (x.alloc o).heap.size := by rw [World.size_alloc]; omega
theorem leD {n : Nat} {x : World} (h : n ≤ x.heap.size) : n ≤ x.drew.heap.size := h

theorem frA {L : Nat} {T : List TypeId} {w x : World} (h : Fr L T none w x) (hL : L ≤ w.heap.size) (o : Obj) : Fr L T none w (x.alloc o) := h.trans (Fr.of ((Below.refl _ _).alloc (Nat.le_refl _) _) (Nat.le_trans hL h.size))
theorem frS {L : Nat} {T : List TypeId} {w x : World} {b j : Nat} (h : Fr L T none w x) (hL : L ≤ w.heap.size) (hb : w.heap.size ≤ b) (v : Value) : Fr L T none w (x.setCell ⟨b, j, none⟩ v) := by
  have f0 : Fr L [] (some b) x (x.setCell ⟨b, j, none⟩ v) := fr_setCell x b j v (Nat.le_trans hL hb)
  refine ⟨h.below.trans f0.below, fun k cur t z hk ht hX => f0.block k cur t z (h.block k cur t z hk ht hX) (by simp) ?_⟩
  have hlt := (Array.getElem?_eq_some_iff.1 hk).1
  intro e
  cases e
  omega
/-- two variables are made and written, whenever. -/
structure Kw (w1 y x : World) (cb ob : Option (Nat × Array Value)) : Prop where
  old : Below w1.heap.size w1 x
  fr : Fr 0 [128, 57] none y x
  con : ∀ b cur, cb = some (b, cur) → w1.heap.size ≤ b ∧ x.heap[b]? = some (.cells cur 128 (0, 0))
  out : ∀ b cur, ob = some (b, cur) → w1.heap.size ≤ b ∧ x.heap[b]? = some (.cells cur 57 (0, 0))
theorem Kw.base (w1 : World) : Kw w1 w1 w1 none none := ⟨Below.refl _ _, Fr.refl _ _ _ _, fun _ _ h => (by cases h), fun _ _ h => (by cases h)⟩
theorem Kw.drew {w1 y x : World} {cb ob : Option (Nat × Array Value)} (h : Kw w1 y x cb ob) : Kw w1 y x.drew cb ob := ⟨h.old.drew, ⟨h.fr.below.drew, h.fr.block⟩, h.con, h.out⟩
theorem Kw.call {w1 y x z : World} {cb ob : Option (Nat × Array Value)} (h : Kw w1 y x cb ob) (hb : Below x.heap.size x z) : Kw w1 z z cb ob := by
  refine ⟨below_then h.old hb, Fr.refl _ _ _ _, fun b cur e => ?_, fun b cur e => ?_⟩
  · obtain ⟨h1, h2⟩ := h.con b cur e
    exact ⟨h1, (hb.block b (Array.getElem?_eq_some_iff.1 h2).1).trans h2⟩
  · obtain ⟨h1, h2⟩ := h.out b cur e
    exact ⟨h1, (hb.block b (Array.getElem?_eq_some_iff.1 h2).1).trans h2⟩
theorem Kw.new {w1 y x : World} {cb ob : Option (Nat × Array Value)} (h : Kw w1 y x cb ob) (o : Obj) : Kw w1 y (x.alloc o) cb ob := by
  have hb : Below x.heap.size x (x.alloc o) := (Below.refl _ _).alloc (Nat.le_refl _) _
  refine ⟨below_then h.old hb, h.fr.trans (Fr.of hb (Nat.zero_le _)), fun b cur e => ?_, fun b cur e => ?_⟩
  · obtain ⟨h1, h2⟩ := h.con b cur e
    exact ⟨h1, (hb.block b (Array.getElem?_eq_some_iff.1 h2).1).trans h2⟩
  · obtain ⟨h1, h2⟩ := h.out b cur e
    exact ⟨h1, (hb.block b (Array.getElem?_eq_some_iff.1 h2).1).trans h2⟩
theorem Kw.newC {w1 y x : World} {ob : Option (Nat × Array Value)} {cur : Array Value} (h : Kw w1 y x none ob) : Kw w1 y (x.alloc (.cells cur 128)) (some (x.heap.size, cur)) ob :=
  ⟨(h.new _).old, (h.new _).fr, fun b cur' e => (by cases e; exact ⟨h.old.size, heap_alloc_new x _⟩), (h.new _).out⟩
theorem Kw.newO {w1 y x : World} {cb : Option (Nat × Array Value)} {cur : Array Value} (h : Kw w1 y x cb none) : Kw w1 y (x.alloc (.cells cur 57)) cb (some (x.heap.size, cur)) :=
  ⟨(h.new _).old, (h.new _).fr, (h.new _).con, fun b cur' e => (by cases e; exact ⟨h.old.size, heap_alloc_new x _⟩)⟩
theorem Kw.newC' {w1 y x : World} {b : Nat} {ob : Option (Nat × Array Value)} {cur : Array Value} (h : Kw w1 y x none ob) (hb : b = x.heap.size) : Kw w1 y (x.alloc (.cells cur 128)) (some (b, cur)) ob := hb ▸ h.newC
theorem Kw.newO' {w1 y x : World} {b : Nat} {cb : Option (Nat × Array Value)} {cur : Array Value} (h : Kw w1 y x cb none) (hb : b = x.heap.size) : Kw w1 y (x.alloc (.cells cur 57)) cb (some (b, cur)) := hb ▸ h.newO
theorem Kw.setC {w1 y x : World} {b : Nat} {cur : Array Value} {ob : Option (Nat × Array Value)} {j : Nat} {v : Value} (h : Kw w1 y x (some (b, cur)) ob) : Kw w1 y (x.setCell ⟨b, j, none⟩ v) (some (b, cur.setIfInBounds j v)) ob := by
  obtain ⟨h1, h2⟩ := h.con b cur rfl
  have f1 : Fr 0 [128] none x (x.setCell ⟨b, j, none⟩ v) := (fr_setCell x b j v (Nat.zero_le _)).typed (fun k hk => by cases hk; exact ⟨_, _, _, h2, by simp⟩) none
  refine ⟨belowS h.old h1 v, h.fr.trans (f1.wide (by simp)), fun b' cur' e => ?_, fun b' cur' e => ?_⟩
  · cases e
    exact ⟨h1, heap_setCell_same x b j _ _ v h2⟩
  · obtain ⟨g1, g2⟩ := h.out b' cur' e
    exact ⟨g1, f1.block b' _ _ _ g2 (by decide) (by simp)⟩
theorem Kw.setO {w1 y x : World} {b : Nat} {cur : Array Value} {cb : Option (Nat × Array Value)} {j : Nat} {v : Value} (h : Kw w1 y x cb (some (b, cur))) : Kw w1 y (x.setCell ⟨b, j, none⟩ v) cb (some (b, cur.setIfInBounds j v)) := by
  obtain ⟨h1, h2⟩ := h.out b cur rfl
  have f1 : Fr 0 [57] none x (x.setCell ⟨b, j, none⟩ v) := (fr_setCell x b j v (Nat.zero_le _)).typed (fun k hk => by cases hk; exact ⟨_, _, _, h2, by simp⟩) none
  refine ⟨belowS h.old h1 v, h.fr.trans (f1.wide (by simp)), fun b' cur' e => ?_, fun b' cur' e => ?_⟩
  · obtain ⟨g1, g2⟩ := h.con b' cur' e
    exact ⟨g1, f1.block b' _ _ _ g2 (by decide) (by simp)⟩
  · cases e
    exact ⟨h1, heap_setCell_same x b j _ _ v h2⟩

theorem Kw.setC' {w1 y x : World} {b : Nat} {cur cur' : Array Value} {ob : Option (Nat × Array Value)} {j : Nat} {v : Value} (h : Kw w1 y x (some (b, cur)) ob) (hc : cur' = cur.setIfInBounds j v) : Kw w1 y (x.setCell ⟨b, j, none⟩ v) (some (b, cur')) ob := hc ▸ h.setC
theorem Kw.setO' {w1 y x : World} {b : Nat} {cur cur' : Array Value} {cb : Option (Nat × Array Value)} {j : Nat} {v : Value} (h : Kw w1 y x cb (some (b, cur))) (hc : cur' = cur.setIfInBounds j v) : Kw w1 y (x.setCell ⟨b, j, none⟩ v) cb (some (b, cur')) := hc ▸ h.setO
/-- .. whatever was ahead. -/
def Kx (w1 x : World) (cb ob : Option (Nat × Array Value)) : Prop := ∃ y, Kw w1 y x cb ob
theorem Kx.base (w1 : World) : Kx w1 w1 none none := ⟨_, Kw.base w1⟩
theorem Kx.drew {w1 x : World} {cb ob : Option (Nat × Array Value)} (h : Kx w1 x cb ob) : Kx w1 x.drew cb ob := by obtain ⟨y, h⟩ := h; exact ⟨y, h.drew⟩
theorem Kx.call {w1 x z : World} {cb ob : Option (Nat × Array Value)} (h : Kx w1 x cb ob) (hb : Below x.heap.size x z) : Kx w1 z cb ob := by obtain ⟨y, h⟩ := h; exact ⟨_, h.call hb⟩
theorem Kx.newC {w1 x : World} {ob : Option (Nat × Array Value)} {cur : Array Value} (h : Kx w1 x none ob) : Kx w1 (x.alloc (.cells cur 128)) (some (x.heap.size, cur)) ob := by obtain ⟨y, h⟩ := h; exact ⟨y, h.newC⟩
theorem Kx.newO {w1 x : World} {cb : Option (Nat × Array Value)} {cur : Array Value} (h : Kx w1 x cb none) : Kx w1 (x.alloc (.cells cur 57)) cb (some (x.heap.size, cur)) := by obtain ⟨y, h⟩ := h; exact ⟨y, h.newO⟩
theorem Kw.ofx {w1 x z : World} {cb ob : Option (Nat × Array Value)} (h : Kx w1 x cb ob) (hb : Below x.heap.size x z) : Kw w1 z z cb ob := by obtain ⟨y, h⟩ := h; exact h.call hb
theorem Kw.apart {w1 y x : World} {b b' : Nat} {cur cur' : Array Value} (h : Kw w1 y x (some (b, cur)) (some (b', cur'))) : b ≠ b' := by
  intro e
  subst e
  have h1 := (h.con _ _ rfl).2
  rw [(h.out _ _ rfl).2] at h1
  cases h1

/-- the two variables, behind the document's answer. -/
def CutK (w1 : World) (C' : Jn.Con) (val used : Int) (n : Nat) (er : Int) (s7 s8 s9 s10 : Value) (wx : World) : Prop :=
  ∃ Bc Bo so sk po pk, s7 = .pointer (some ⟨Bc, 0, none⟩) ∧ s8 = .pointer (some ⟨Bo, 0, none⟩) ∧ s9 = .int .i64 n ∧ s10 = .int .i64 er ∧
    wx.heap[Bc]? = some (.cells #[.slice so C'.list.length sk, .slice po C'.procs.length pk] 128 (0, 0)) ∧ wx.heap[Bo]? = some (.cells #[.int .i64 val, .int .i64 used] 57 (0, 0)) ∧
    CRow wx 0 (.slice so C'.list.length sk) C'.list ∧ PRow wx 0 (.slice po C'.procs.length pk) C'.procs ∧ Below w1.heap.size w1 wx
theorem cutk {w1 wp wx : World} {C' : Jn.Con} {Cp : List (Jn.Bytes × Jn.Bytes)} {val used er : Int} {n Bc Bo : Nat} {so po : Option Addr} {sk pk : Nat} {c o : Array Value}
    (h : Kw w1 wp wx (some (Bc, c)) (some (Bo, o))) (h1 : CRow wp 0 (.slice so C'.list.length sk) C'.list) (hp : C'.procs = Cp) (h2 : PRow wp 0 (.slice po Cp.length pk) Cp)
    (hc : c = #[.slice so C'.list.length sk, .slice po Cp.length pk]) (ho : o = #[.int .i64 val, .int .i64 used]) :
    CutK w1 C' val used n er (.pointer (some ⟨Bc, 0, none⟩)) (.pointer (some ⟨Bo, 0, none⟩)) (.int .i64 n) (.int .i64 er) wx := by
  subst hp hc ho
  exact ⟨Bc, Bo, so, sk, po, pk, rfl, rfl, rfl, rfl, (h.con _ _ rfl).2, (h.out _ _ rfl).2, own_fr h1 h.fr (by decide) (.inl rfl), own_fr h2 h.fr (by decide) (.inl rfl), h.old⟩

/-- the third variable, behind the program's. -/
def CutG (L S B : Nat) (f : Int) (r : Jn.Con × Int × Int × List UInt8 × Int) (wc : World) (s12 s13 s14 : Value) (wx : World) : Prop :=
  ∃ Bg v, s12 = .pointer (some ⟨Bg, 0, none⟩) ∧ v = s13 ∧ s14 = .int .i64 r.2.2.2.2 ∧ wx.heap[Bg]? = some (.cells #[.int .i64 r.2.1, .int .i64 r.2.2.1] 57 (0, 0)) ∧ StAt L wx S B r.1 f ∧ Fr L [145] none wc wx ∧
    ((r.2.2.2.1 = [] ∧ v = .slice none 0 0) ∨ (r.2.2.2.1 ≠ [] ∧ ARow wx wc.heap.size v [(1, f, Jn.record r.2.2.2.1)]))
theorem cutg_last {L S B : Nat} {f : Int} {r : Jn.Con × Int × Int × List UInt8 × Int} {wc wp : World} {v : Value} (hst : StAt L wp S B r.1 f) (hfr : Fr L [145] none wc wp)
    (hor : (r.2.2.2.1 = [] ∧ v = .slice none 0 0) ∨ (r.2.2.2.1 ≠ [] ∧ ARow wp wc.heap.size v [(1, f, Jn.record r.2.2.2.1)])) :
    CutG L S B f r wc (.pointer (some ⟨wp.heap.size, 0, none⟩)) v (.int .i64 r.2.2.2.2) (wp.alloc (.cells #[.int .i64 r.2.1, .int .i64 r.2.2.1] 57)) := by
  have hba : Below wp.heap.size wp (wp.alloc (.cells #[.int .i64 r.2.1, .int .i64 r.2.2.1] 57)) := (Below.refl _ _).alloc (Nat.le_refl _) _
  have hL : L ≤ wp.heap.size := Nat.le_trans hst.low (Nat.le_of_lt hst.lt)
  exact ⟨_, _, rfl, rfl, rfl, heap_alloc_new wp _, hst.below hba, hfr.trans (Fr.of hba hL), hor.imp id fun ⟨a, b⟩ => ⟨a, ownsRow_below b hba⟩⟩
theorem cutg_set {L S B Bg : Nat} {f : Int} {r : Jn.Con × Int × Int × List UInt8 × Int} {wc wa wp : World} {v : Value} (hLc : L ≤ wc.heap.size) (hwa : Below wc.heap.size wc wa) (hBg : wc.heap.size ≤ Bg) (hst : StAt L wp S B r.1 f) (hfr : Fr L [145] none wa wp)
    (hcur : wp.heap[Bg]? = some (.cells #[.int .i64 0, .int .i64 0] 57 (0, 0)))
    (hor : (r.2.2.2.1 = [] ∧ v = .slice none 0 0) ∨ (r.2.2.2.1 ≠ [] ∧ ARow wp wa.heap.size v [(1, f, Jn.record r.2.2.2.1)])) :
    CutG L S B f r wc (.pointer (some ⟨Bg, 0, none⟩)) v (.int .i64 r.2.2.2.2) ((wp.setCell ⟨Bg, 0, none⟩ (.int .i64 r.2.1)).setCell ⟨Bg, 1, none⟩ (.int .i64 r.2.2.1)) := by
  have g1 := heap_setCell_same wp Bg 0 _ _ (.int .i64 r.2.1) hcur
  have g2 := heap_setCell_same (wp.setCell ⟨Bg, 0, none⟩ (.int .i64 r.2.1)) Bg 1 _ _ (.int .i64 r.2.2.1) g1
  have hLB : L ≤ Bg := Nat.le_trans hLc hBg
  have f0 : Fr L [] (some Bg) wp ((wp.setCell ⟨Bg, 0, none⟩ (.int .i64 r.2.1)).setCell ⟨Bg, 1, none⟩ (.int .i64 r.2.2.1)) := (fr_setCell wp Bg 0 _ hLB).trans (fr_setCell _ Bg 1 _ hLB)
  have f1 : Fr L [57] none wp ((wp.setCell ⟨Bg, 0, none⟩ (.int .i64 r.2.1)).setCell ⟨Bg, 1, none⟩ (.int .i64 r.2.2.1)) :=
    (f0.wide (T' := [57]) (by simp)).typed (fun k hk => by cases hk; exact ⟨_, _, _, hcur, by simp⟩) none
  refine ⟨Bg, v, rfl, rfl, rfl, by rw [g2]; simp, hst.fr f1 (by decide) (by decide) (by decide) (by simp), ?_, hor.imp id fun ⟨a, b⟩ => ⟨a, ?_⟩⟩
  · have h1 : Fr L [145] none wc wp := (Fr.of hwa hLc).trans hfr
    refine ⟨h1.below.trans f0.below, fun k cur t z hk ht hX => f0.block k cur t z (h1.block k cur t z hk ht hX) (by simp) ?_⟩
    have hlt := (Array.getElem?_eq_some_iff.1 hk).1
    intro e
    cases e
    omega
  · have h1 := own_fr b f1 (by decide) (.inl rfl)
    exact ownsRow_base h1 hwa.size
end Go.Proofs.YtellilpeakpbfaaGreatDoor

end
