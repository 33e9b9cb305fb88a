import Derived.Test.YtellilpeakpbfaaGreatDoorGrDToo
import Derived.Test.YtellilpeakpbfaaGreatDoorOpenToo
import Derived.Test.YtellilpeakpbfaaGreatDoorShPureToo
import Derived.Test.YtellilpeakpbfaaGreatDoorReadAToo
section
/-
  The walk of loose.
-/
set_option linter.unusedVariables false
namespace Go.Proofs.YtellilpeakpbfaaGreatDoor
open Go.RowKit

def LoRel (g : List UInt8) (z : Bool) (ts : List (List UInt8)) (w : World) (x i : Value) (wr : World) : Prop :=
  ∃ (k : Nat) (X : ByteArray), k ≤ ts.length ∧ i = .int .i64 (k : Int) ∧ x = .string X ∧ X.data.toList = Kp.loose g ((ts.take k).map (Kp.zd z)) ∧ X.size ≤ 400 ∧ wr = w
/-- a gap, as loose picks it. -/
def gapOf (c : Nat) : List UInt8 := if c = 1 then [10] else if c = 2 then [32, 10] else [32]
theorem gapOf_ok (c : Nat) : Kp.Gap (gapOf c) ∧ (gapOf c).length ≤ 2 := by
  unfold gapOf
  split
  · exact ⟨⟨by decide, by decide⟩, by decide⟩
  · split
    · exact ⟨⟨by decide, by decide⟩, by decide⟩
    · exact ⟨⟨by decide, by decide⟩, by decide⟩

/-- the bit that asks for noughts. -/
def zbit (st : Int) : Bool := bits .and .i64 (st / 16) 1 == 1
theorem loose_len (g : List UInt8) (hg : g.length ≤ 2) (z : Bool) (ts : List (List UInt8)) (hs : Kp.Src ts) (k : Nat) (Z : ByteArray) (h : Z.data.toList = Kp.loose g ((ts.take k).map (Kp.zd z))) : Z.size ≤ 400 := by
  rw [size_list, h]
  have h1 := Kp.len_loose g hg z (ts.take k) (fun t ht => hs.tk t (List.mem_of_mem_take ht))
  have h2 := Kp.wt_take ts k
  have h3 := hs.wt
  omega

set_option maxHeartbeats 8000000 in
set_option maxRecDepth 100000 in
theorem loose_any (w : World) (b : Nat) (v : Value) (ts : List (List UInt8)) (st : Int) (s0 : -9223372036854775808 ≤ st) (s1 : st ≤ 9223372036854775807) (hr : SRow w b v ts) (hs : Kp.Src ts) :
    Calls Tryz.prog 22 #[v, .int .i64 st] w fun e w' => ∃ g z, Kp.Gap g ∧ g.length ≤ 2 ∧ e = .returned (T (Kp.loose g (ts.map (Kp.zd z)))) ∧ w' = w := by
  obtain ⟨ao, cap, rfl, hc⟩ := hr.shape
  have hlen : ts.length ≤ 1000 := by
    have h1 := hs.wt
    have h2 : ts.length ≤ Kp.wt ts := by
      clear h1 hs hr hc
      induction ts with
      | nil => simp
      | cons t r ih => rw [Kp.wt_cons, List.length_cons]; omega
    omega
  have hp := Kp.pick_bd st 3 (by decide)
  obtain ⟨c, hce⟩ : ∃ c : Nat, Kp.pick st 3 = (c : Int) := ⟨(Kp.pick st 3).toNat, by omega⟩
  have hc3 : c < 3 := by omega
  have HPK : Hid (∀ y, Calls Tryz.prog 36 #[.int .i64 st, .int .i64 3] y fun e w' => e = .returned (.int .i64 (c : Int)) ∧ w' = y) := fun y => by rw [← hce]; exact kpick_any st 3 (by decide) (by decide) s0 s1 y
  obtain ⟨z, hz⟩ : ∃ z, z = zbit st := ⟨_, rfl⟩
  unfold zbit at hz
  have HS := hide hs
  have HC := hide hc
  clear hr hs hc hp hce
  obtain ⟨g, hg⟩ : ∃ g, g = gapOf c := ⟨_, rfl⟩
  obtain ⟨A, hA⟩ : ∃ A : ByteArray, A = ⟨g.toArray⟩ := ⟨_, rfl⟩
  have hAl : A.data.toList = g := by rw [hA]
  have hgo := gapOf_ok c
  rw [← hg] at hgo
  have hAs : A.size ≤ 2 := by rw [size_list, hAl]; exact hgo.2
  have HGO := hide hgo
  have HAL := hide hAl
  go_enter Tryz.func22, Tryz.ntmps22
  go_wp2_with fail
  refine (HPK.out _).mono ?_
  rintro e w1 ⟨rfl, hq⟩
  obtain rfl : w = w1 := hq.symm
  clear hq
  have hcl : c = 0 ∨ c = 1 ∨ c = 2 := by omega
  have HGC : Hid (A = ⟨(gapOf c).toArray⟩) := by rw [← hg]; exact hA
  clear hA hg hAl hgo
  rcases hcl with rfl | rfl | rfl
  all_goals go_upto_region 7 with fail
  · have e : (⟨#[32]⟩ : ByteArray) = A := by rw [HGC.out]; rfl
    rw [e]
    clear e HGC
    go_wp2_with fail
    go_loopw [6, 7, 8] (fun x i _ wr => LoRel g z ts w x i wr) (fun _ i _ _ => ts.length - (intOf i).toNat)
    case atStart => exact ⟨0, A, Nat.zero_le _, rfl, rfl, by rw [HAL.out]; simp [Kp.loose], by omega, rfl⟩
    case round =>
      obtain ⟨k, X, hk, rfl, rfl, hX, hXs, rfl⟩ := hrel
      have HX := hide hX
      clear hX
      by_cases hkl : k < ts.length
      · obtain ⟨gb, rfl, -, hcs⟩ := HC.out (by omega)
        have ht : ts[k]? = some ts[k] := List.getElem?_eq_getElem hkl
        obtain ⟨t, hte⟩ : ∃ t, t = ts[k] := ⟨_, rfl⟩
        rw [← hte] at ht
        have c0 := hcs k t ht
        have htk := HS.out.tk t (List.mem_of_getElem? ht)
        have htl := htk.len
        obtain ⟨Y, hY⟩ : ∃ Y : ByteArray, Y = ⟨t.toArray⟩ := ⟨_, rfl⟩
        have hYl : Y.data.toList = t := by rw [hY]
        have hYs : Y.size ≤ 5 := by rw [size_list, hYl]; exact htl
        have hY0 : 0 < Y.size := by
          rw [size_list, hYl]
          exact List.length_pos_iff.2 htk.wd.1
        have hT : T t = .string Y := by rw [hY]; rfl
        rw [hT] at c0
        have hhd : t.headD 0 = Y[0] := by
          have : Y[0] = Y.data.toList[0]'(by rw [← size_list]; exact hY0) := rfl
          rw [this]
          simp only [hYl]
          cases t with
          | nil => exact absurd rfl htk.wd.1
          | cons a r => rfl
        have HJ : Hid (∀ Z : ByteArray, Z.data.toList = Kp.loose g ((ts.take (k + 1)).map (Kp.zd z)) → Z.size ≤ 400) := fun Z hZ => loose_len g HGO.out.2 z ts HS.out (k + 1) Z hZ
        have HLT := hide (Kp.loose_take g z ts k t ht)
        have HYL := hide hYl
        have HHD := hide hhd
        clear hcs ht hte htk htl hY hYl hT hhd
        have hb0 : (0 : Int) ≤ Y[0].toNat ∧ (Y[0].toNat : Int) ≤ 255 := by have := Y[0].toNat_lt; omega
        obtain ⟨b0, b1⟩ := hb0
        have hs00 : (⟨#[48, 48]⟩ : ByteArray).size = 2 := rfl
        by_cases hdz : Ck.isDig Y[0] = true ∧ z = true
        · obtain ⟨hd, hzt⟩ := hdz
          obtain ⟨d0, d1⟩ := (Ck.isDig_iff _).1 hd
          have g1 : (48 : Int) ≤ Y[0].toNat := by omega
          have g2 : (Y[0].toNat : Int) ≤ 57 := by omega
          have g1' : decide ((48 : Int) ≤ Y[0].toNat) = true := decide_eq_true g1
          have g2' : decide ((Y[0].toNat : Int) ≤ 57) = true := decide_eq_true g2
          have tz : (bits .and .i64 (st / 16) 1 == 1) = true := by rw [← hz]; exact hzt
          have hE : ((X ++ ((⟨#[48, 48]⟩ : ByteArray) ++ Y)) ++ A).data.toList = Kp.loose g ((ts.take (k + 1)).map (Kp.zd z)) := by
            rw [HLT.out, app_list, app_list, app_list, HX.out, HYL.out, HAL.out]
            unfold Kp.zd
            rw [if_pos ⟨hzt, by rw [HHD.out]; exact hd⟩]
            simp
          have HE := hide hE
          have HZ := hide (HJ.out _ hE)
          have hq1 : ((⟨#[48, 48]⟩ : ByteArray) ++ Y).size ≤ 7 := by rw [size_list, app_list, List.length_append, ← size_list, ← size_list]; omega
          have hq2 : (X ++ ((⟨#[48, 48]⟩ : ByteArray) ++ Y)).size ≤ 407 := by rw [size_list, app_list, List.length_append, ← size_list, ← size_list]; omega
          clear hE hz hzt hd
          go_wp2_with fail
          go_round
          case rel => exact ⟨k + 1, _, by omega, by go_num, rfl, HE.out, HZ.out, rfl⟩
          case measure => simp [intOf]; omega
        · have hzd : Kp.zd z (Y.data.toList) = Y.data.toList := by
            unfold Kp.zd
            rw [if_neg]
            rintro ⟨q1, q2⟩
            exact hdz ⟨by rw [HYL.out, HHD.out] at q2; exact q2, q1⟩
          have hE : ((X ++ Y) ++ A).data.toList = Kp.loose g ((ts.take (k + 1)).map (Kp.zd z)) := by
            rw [HLT.out, app_list, app_list, HX.out, HAL.out, ← HYL.out, hzd]
          have HE := hide hE
          have HZ := hide (HJ.out _ hE)
          have hq2 : (X ++ Y).size ≤ 405 := by rw [size_list, app_list, List.length_append, ← size_list, ← size_list]; omega
          clear hE hzd
          by_cases h48 : (48 : Int) ≤ Y[0].toNat
          · have g1' : decide ((48 : Int) ≤ Y[0].toNat) = true := decide_eq_true h48
            by_cases h57 : (Y[0].toNat : Int) ≤ 57
            · have g2' : decide ((Y[0].toNat : Int) ≤ 57) = true := decide_eq_true h57
              have hzf : z = false := by
                cases z with
                | false => rfl
                | true => exact absurd ⟨(Ck.isDig_iff _).2 ⟨by omega, by omega⟩, rfl⟩ hdz
              have tz : (bits .and .i64 (st / 16) 1 == 1) = false := by rw [← hz]; exact hzf
              clear hz hzf hdz
              go_wp2_with fail
              go_round
              case rel => exact ⟨k + 1, _, by omega, by go_num, rfl, HE.out, HZ.out, rfl⟩
              case measure => simp [intOf]; omega
            · have g2' : decide ((Y[0].toNat : Int) ≤ 57) = false := decide_eq_false h57
              clear hz hdz
              go_wp2_with fail
              go_round
              case rel => exact ⟨k + 1, _, by omega, by go_num, rfl, HE.out, HZ.out, rfl⟩
              case measure => simp [intOf]; omega
          · have g1' : decide ((48 : Int) ≤ Y[0].toNat) = false := decide_eq_false h48
            clear hz hdz
            go_wp2_with fail
            go_round
            case rel => exact ⟨k + 1, _, by omega, by go_num, rfl, HE.out, HZ.out, rfl⟩
            case measure => simp [intOf]; omega
      · have hke : ts.take k = ts := List.take_of_length_le (by omega)
        have HKE := hide hke
        clear hke
        go_wp2_with fail
        go_ret
        have hfin : Value.string X = T (Kp.loose g (ts.map (Kp.zd z))) := by rw [T_of HX.out, HKE.out]
        exact ⟨g, z, HGO.out.1, HGO.out.2, congrArg Ending.returned hfin, rfl⟩
  · have e : (⟨#[10]⟩ : ByteArray) = A := by rw [HGC.out]; rfl
    rw [e]
    clear e HGC
    go_wp2_with fail
    go_loopw [6, 7, 8] (fun x i _ wr => LoRel g z ts w x i wr) (fun _ i _ _ => ts.length - (intOf i).toNat)
    case atStart => exact ⟨0, A, Nat.zero_le _, rfl, rfl, by rw [HAL.out]; simp [Kp.loose], by omega, rfl⟩
    case round =>
      obtain ⟨k, X, hk, rfl, rfl, hX, hXs, rfl⟩ := hrel
      have HX := hide hX
      clear hX
      by_cases hkl : k < ts.length
      · obtain ⟨gb, rfl, -, hcs⟩ := HC.out (by omega)
        have ht : ts[k]? = some ts[k] := List.getElem?_eq_getElem hkl
        obtain ⟨t, hte⟩ : ∃ t, t = ts[k] := ⟨_, rfl⟩
        rw [← hte] at ht
        have c0 := hcs k t ht
        have htk := HS.out.tk t (List.mem_of_getElem? ht)
        have htl := htk.len
        obtain ⟨Y, hY⟩ : ∃ Y : ByteArray, Y = ⟨t.toArray⟩ := ⟨_, rfl⟩
        have hYl : Y.data.toList = t := by rw [hY]
        have hYs : Y.size ≤ 5 := by rw [size_list, hYl]; exact htl
        have hY0 : 0 < Y.size := by
          rw [size_list, hYl]
          exact List.length_pos_iff.2 htk.wd.1
        have hT : T t = .string Y := by rw [hY]; rfl
        rw [hT] at c0
        have hhd : t.headD 0 = Y[0] := by
          have : Y[0] = Y.data.toList[0]'(by rw [← size_list]; exact hY0) := rfl
          rw [this]
          simp only [hYl]
          cases t with
          | nil => exact absurd rfl htk.wd.1
          | cons a r => rfl
        have HJ : Hid (∀ Z : ByteArray, Z.data.toList = Kp.loose g ((ts.take (k + 1)).map (Kp.zd z)) → Z.size ≤ 400) := fun Z hZ => loose_len g HGO.out.2 z ts HS.out (k + 1) Z hZ
        have HLT := hide (Kp.loose_take g z ts k t ht)
        have HYL := hide hYl
        have HHD := hide hhd
        clear hcs ht hte htk htl hY hYl hT hhd
        have hb0 : (0 : Int) ≤ Y[0].toNat ∧ (Y[0].toNat : Int) ≤ 255 := by have := Y[0].toNat_lt; omega
        obtain ⟨b0, b1⟩ := hb0
        have hs00 : (⟨#[48, 48]⟩ : ByteArray).size = 2 := rfl
        by_cases hdz : Ck.isDig Y[0] = true ∧ z = true
        · obtain ⟨hd, hzt⟩ := hdz
          obtain ⟨d0, d1⟩ := (Ck.isDig_iff _).1 hd
          have g1 : (48 : Int) ≤ Y[0].toNat := by omega
          have g2 : (Y[0].toNat : Int) ≤ 57 := by omega
          have g1' : decide ((48 : Int) ≤ Y[0].toNat) = true := decide_eq_true g1
          have g2' : decide ((Y[0].toNat : Int) ≤ 57) = true := decide_eq_true g2
          have tz : (bits .and .i64 (st / 16) 1 == 1) = true := by rw [← hz]; exact hzt
          have hE : ((X ++ ((⟨#[48, 48]⟩ : ByteArray) ++ Y)) ++ A).data.toList = Kp.loose g ((ts.take (k + 1)).map (Kp.zd z)) := by
            rw [HLT.out, app_list, app_list, app_list, HX.out, HYL.out, HAL.out]
            unfold Kp.zd
            rw [if_pos ⟨hzt, by rw [HHD.out]; exact hd⟩]
            simp
          have HE := hide hE
          have HZ := hide (HJ.out _ hE)
          have hq1 : ((⟨#[48, 48]⟩ : ByteArray) ++ Y).size ≤ 7 := by rw [size_list, app_list, List.length_append, ← size_list, ← size_list]; omega
          have hq2 : (X ++ ((⟨#[48, 48]⟩ : ByteArray) ++ Y)).size ≤ 407 := by rw [size_list, app_list, List.length_append, ← size_list, ← size_list]; omega
          clear hE hz hzt hd
          go_wp2_with fail
          go_round
          case rel => exact ⟨k + 1, _, by omega, by go_num, rfl, HE.out, HZ.out, rfl⟩
          case measure => simp [intOf]; omega
        · have hzd : Kp.zd z (Y.data.toList) = Y.data.toList := by
            unfold Kp.zd
            rw [if_neg]
            rintro ⟨q1, q2⟩
            exact hdz ⟨by rw [HYL.out, HHD.out] at q2; exact q2, q1⟩
          have hE : ((X ++ Y) ++ A).data.toList = Kp.loose g ((ts.take (k + 1)).map (Kp.zd z)) := by
            rw [HLT.out, app_list, app_list, HX.out, HAL.out, ← HYL.out, hzd]
          have HE := hide hE
          have HZ := hide (HJ.out _ hE)
          have hq2 : (X ++ Y).size ≤ 405 := by rw [size_list, app_list, List.length_append, ← size_list, ← size_list]; omega
          clear hE hzd
          by_cases h48 : (48 : Int) ≤ Y[0].toNat
          · have g1' : decide ((48 : Int) ≤ Y[0].toNat) = true := decide_eq_true h48
            by_cases h57 : (Y[0].toNat : Int) ≤ 57
            · have g2' : decide ((Y[0].toNat : Int) ≤ 57) = true := decide_eq_true h57
              have hzf : z = false := by
                cases z with
                | false => rfl
                | true => exact absurd ⟨(Ck.isDig_iff _).2 ⟨by omega, by omega⟩, rfl⟩ hdz
              have tz : (bits .and .i64 (st / 16) 1 == 1) = false := by rw [← hz]; exact hzf
              clear hz hzf hdz
              go_wp2_with fail
              go_round
              case rel => exact ⟨k + 1, _, by omega, by go_num, rfl, HE.out, HZ.out, rfl⟩
              case measure => simp [intOf]; omega
            · have g2' : decide ((Y[0].toNat : Int) ≤ 57) = false := decide_eq_false h57
              clear hz hdz
              go_wp2_with fail
              go_round
              case rel => exact ⟨k + 1, _, by omega, by go_num, rfl, HE.out, HZ.out, rfl⟩
              case measure => simp [intOf]; omega
          · have g1' : decide ((48 : Int) ≤ Y[0].toNat) = false := decide_eq_false h48
            clear hz hdz
            go_wp2_with fail
            go_round
            case rel => exact ⟨k + 1, _, by omega, by go_num, rfl, HE.out, HZ.out, rfl⟩
            case measure => simp [intOf]; omega
      · have hke : ts.take k = ts := List.take_of_length_le (by omega)
        have HKE := hide hke
        clear hke
        go_wp2_with fail
        go_ret
        have hfin : Value.string X = T (Kp.loose g (ts.map (Kp.zd z))) := by rw [T_of HX.out, HKE.out]
        exact ⟨g, z, HGO.out.1, HGO.out.2, congrArg Ending.returned hfin, rfl⟩
  · have e : (⟨#[32, 10]⟩ : ByteArray) = A := by rw [HGC.out]; rfl
    rw [e]
    clear e HGC
    go_wp2_with fail
    go_loopw [6, 7, 8] (fun x i _ wr => LoRel g z ts w x i wr) (fun _ i _ _ => ts.length - (intOf i).toNat)
    case atStart => exact ⟨0, A, Nat.zero_le _, rfl, rfl, by rw [HAL.out]; simp [Kp.loose], by omega, rfl⟩
    case round =>
      obtain ⟨k, X, hk, rfl, rfl, hX, hXs, rfl⟩ := hrel
      have HX := hide hX
      clear hX
      by_cases hkl : k < ts.length
      · obtain ⟨gb, rfl, -, hcs⟩ := HC.out (by omega)
        have ht : ts[k]? = some ts[k] := List.getElem?_eq_getElem hkl
        obtain ⟨t, hte⟩ : ∃ t, t = ts[k] := ⟨_, rfl⟩
        rw [← hte] at ht
        have c0 := hcs k t ht
        have htk := HS.out.tk t (List.mem_of_getElem? ht)
        have htl := htk.len
        obtain ⟨Y, hY⟩ : ∃ Y : ByteArray, Y = ⟨t.toArray⟩ := ⟨_, rfl⟩
        have hYl : Y.data.toList = t := by rw [hY]
        have hYs : Y.size ≤ 5 := by rw [size_list, hYl]; exact htl
        have hY0 : 0 < Y.size := by
          rw [size_list, hYl]
          exact List.length_pos_iff.2 htk.wd.1
        have hT : T t = .string Y := by rw [hY]; rfl
        rw [hT] at c0
        have hhd : t.headD 0 = Y[0] := by
          have : Y[0] = Y.data.toList[0]'(by rw [← size_list]; exact hY0) := rfl
          rw [this]
          simp only [hYl]
          cases t with
          | nil => exact absurd rfl htk.wd.1
          | cons a r => rfl
        have HJ : Hid (∀ Z : ByteArray, Z.data.toList = Kp.loose g ((ts.take (k + 1)).map (Kp.zd z)) → Z.size ≤ 400) := fun Z hZ => loose_len g HGO.out.2 z ts HS.out (k + 1) Z hZ
        have HLT := hide (Kp.loose_take g z ts k t ht)
        have HYL := hide hYl
        have HHD := hide hhd
        clear hcs ht hte htk htl hY hYl hT hhd
        have hb0 : (0 : Int) ≤ Y[0].toNat ∧ (Y[0].toNat : Int) ≤ 255 := by have := Y[0].toNat_lt; omega
        obtain ⟨b0, b1⟩ := hb0
        have hs00 : (⟨#[48, 48]⟩ : ByteArray).size = 2 := rfl
        by_cases hdz : Ck.isDig Y[0] = true ∧ z = true
        · obtain ⟨hd, hzt⟩ := hdz
          obtain ⟨d0, d1⟩ := (Ck.isDig_iff _).1 hd
          have g1 : (48 : Int) ≤ Y[0].toNat := by omega
          have g2 : (Y[0].toNat : Int) ≤ 57 := by omega
          have g1' : decide ((48 : Int) ≤ Y[0].toNat) = true := decide_eq_true g1
          have g2' : decide ((Y[0].toNat : Int) ≤ 57) = true := decide_eq_true g2
          have tz : (bits .and .i64 (st / 16) 1 == 1) = true := by rw [← hz]; exact hzt
          have hE : ((X ++ ((⟨#[48, 48]⟩ : ByteArray) ++ Y)) ++ A).data.toList = Kp.loose g ((ts.take (k + 1)).map (Kp.zd z)) := by
            rw [HLT.out, app_list, app_list, app_list, HX.out, HYL.out, HAL.out]
            unfold Kp.zd
            rw [if_pos ⟨hzt, by rw [HHD.out]; exact hd⟩]
            simp
          have HE := hide hE
          have HZ := hide (HJ.out _ hE)
          have hq1 : ((⟨#[48, 48]⟩ : ByteArray) ++ Y).size ≤ 7 := by rw [size_list, app_list, List.length_append, ← size_list, ← size_list]; omega
          have hq2 : (X ++ ((⟨#[48, 48]⟩ : ByteArray) ++ Y)).size ≤ 407 := by rw [size_list, app_list, List.length_append, ← size_list, ← size_list]; omega
          clear hE hz hzt hd
          go_wp2_with fail
          go_round
          case rel => exact ⟨k + 1, _, by omega, by go_num, rfl, HE.out, HZ.out, rfl⟩
          case measure => simp [intOf]; omega
        · have hzd : Kp.zd z (Y.data.toList) = Y.data.toList := by
            unfold Kp.zd
            rw [if_neg]
            rintro ⟨q1, q2⟩
            exact hdz ⟨by rw [HYL.out, HHD.out] at q2; exact q2, q1⟩
          have hE : ((X ++ Y) ++ A).data.toList = Kp.loose g ((ts.take (k + 1)).map (Kp.zd z)) := by
            rw [HLT.out, app_list, app_list, HX.out, HAL.out, ← HYL.out, hzd]
          have HE := hide hE
          have HZ := hide (HJ.out _ hE)
          have hq2 : (X ++ Y).size ≤ 405 := by rw [size_list, app_list, List.length_append, ← size_list, ← size_list]; omega
          clear hE hzd
          by_cases h48 : (48 : Int) ≤ Y[0].toNat
          · have g1' : decide ((48 : Int) ≤ Y[0].toNat) = true := decide_eq_true h48
            by_cases h57 : (Y[0].toNat : Int) ≤ 57
            · have g2' : decide ((Y[0].toNat : Int) ≤ 57) = true := decide_eq_true h57
              have hzf : z = false := by
                cases z with
                | false => rfl
                | true => exact absurd ⟨(Ck.isDig_iff _).2 ⟨by omega, by omega⟩, rfl⟩ hdz
              have tz : (bits .and .i64 (st / 16) 1 == 1) = false := by rw [← hz]; exact hzf
              clear hz hzf hdz
              go_wp2_with fail
              go_round
              case rel => exact ⟨k + 1, _, by omega, by go_num, rfl, HE.out, HZ.out, rfl⟩
              case measure => simp [intOf]; omega
            · have g2' : decide ((Y[0].toNat : Int) ≤ 57) = false := decide_eq_false h57
              clear hz hdz
              go_wp2_with fail
              go_round
              case rel => exact ⟨k + 1, _, by omega, by go_num, rfl, HE.out, HZ.out, rfl⟩
              case measure => simp [intOf]; omega
          · have g1' : decide ((48 : Int) ≤ Y[0].toNat) = false := decide_eq_false h48
            clear hz hdz
            go_wp2_with fail
            go_round
            case rel => exact ⟨k + 1, _, by omega, by go_num, rfl, HE.out, HZ.out, rfl⟩
            case measure => simp [intOf]; omega
      · have hke : ts.take k = ts := List.take_of_length_le (by omega)
        have HKE := hide hke
        clear hke
        go_wp2_with fail
        go_ret
        have hfin : Value.string X = T (Kp.loose g (ts.map (Kp.zd z))) := by rw [T_of HX.out, HKE.out]
        exact ⟨g, z, HGO.out.1, HGO.out.2, congrArg Ending.returned hfin, rfl⟩
end Go.Proofs.YtellilpeakpbfaaGreatDoor

end

section
/-
  The walk of Write.
-/
namespace Go.Proofs.YtellilpeakpbfaaGreatDoor
open Go.RowKit

theorem cellsOf_at (ts : List (List UInt8)) : ∀ (j : Nat), j < ts.length → (cellsOf ts)[2 * j]? = some (.int .i64 (Ck.tokenP (ts.getD j [])).1) ∧ (cellsOf ts)[2 * j + 1]? = some (.int .i64 (Ck.tokenP (ts.getD j [])).2) := by
  induction ts with
  | nil => intro j hj; simp at hj
  | cons t ts ih =>
    intro j hj
    have e : cellsOf (t :: ts) = .int .i64 (Ck.tokenP t).1 :: .int .i64 (Ck.tokenP t).2 :: cellsOf ts := by simp [cellsOf]
    cases j with
    | zero => rw [e]; exact ⟨rfl, rfl⟩
    | succ j =>
      have h := ih j (by simp at hj; omega)
      rw [e, show 2 * (j + 1) = 2 * j + 1 + 1 by omega]
      simp only [List.getElem?_cons_succ]
      simpa using h
/-- A row of tokens that a call has made: its value, its cells. -/
theorem tok_shape {w : World} {B : Nat} {v : Value} {ts : List (List UInt8)} (h : w.ownsRow B 152 2 v ts.length (cellsOf ts)) :
    ∃ ao cap, v = .slice ao ts.length cap ∧ (0 < ts.length → ∃ g, ao = some ⟨g, 0, none⟩ ∧ g < w.heap.size ∧ ∀ j, j < ts.length → w.cell? ⟨g, 2 * j, none⟩ = some (.int .i64 (Ck.tokenP (ts.getD j [])).1) ∧ w.cell? ⟨g, 2 * j + 1, none⟩ = some (.int .i64 (Ck.tokenP (ts.getD j [])).2)) := by
  have h0 := h
  rcases h.2 with ⟨rfl, hn⟩ | ⟨g, cap, cur, rfl, hg, hh, hcap, hm, hsz, htake⟩
  · exact ⟨none, 0, by rw [hn], fun hp => by omega⟩
  · refine ⟨_, cap, rfl, fun _ => ⟨g, rfl, (Array.getElem?_eq_some_iff.1 hh).1, fun j hj => ?_⟩⟩
    obtain ⟨c1, c2⟩ := cellsOf_at ts j hj
    have a1 := h0.cells (g := g) rfl (2 * j) _ c1
    have a2 := h0.cells (g := g) rfl (2 * j + 1) _ c2
    simp only [Addr.add_lit, Nat.zero_add] at a1 a2
    exact ⟨a1, a2⟩

def WrRel (w : World) (ts : List (List UInt8)) (x i : Value) (wr : World) : Prop :=
  ∃ (k : Nat) (u : ByteArray), k ≤ ts.length ∧ i = .int .i64 k ∧ x = .string u ∧ u.data.toList = Ck.lineK ts k ∧ Below w.heap.size w wr

set_option maxHeartbeats 1000000 in
set_option maxRecDepth 100000 in
theorem swrite_any (ts : List (List UInt8)) (v : Value) (w : World) (B : Nat) (hown : w.ownsRow B 152 2 v ts.length (cellsOf ts)) (hk : ∀ t ∈ ts, (Ck.tokenP t).1 ≠ 0) (hl : ∀ t ∈ ts, t.length ≤ 400) (hn : ts.length ≤ 401) (hW : WordsAt w) (hP : PowAt w) :
    Calls Tryz.prog 51 #[v] w fun e w' => e = .returned (T (Ck.lineK ts ts.length)) ∧ Below w.heap.size w w' := by
  obtain ⟨ao, cap, rfl, hrow⟩ := tok_shape hown
  have HRW := hide hrow
  have HK := hide hk
  have HL := hide hl
  have HW := hide hW
  have HP := hide hP
  clear hown hrow hk hl hW hP
  go_enter Tryz.func51, Tryz.ntmps51
  go_wp2
  go_loopw [3, 4] (fun x i wr => WrRel w ts x i wr) (fun _ i _ => ts.length - (intOf i).toNat)
  case atStart => exact ⟨0, ⟨#[]⟩, Nat.zero_le _, rfl, rfl, rfl, Below.refl _ _⟩
  case round =>
    obtain ⟨k, u, hkn, rfl, rfl, hline, hbel⟩ := hrel
    have hus : u.size ≤ 401 * k := by
      have h1 := Ck.lineK_len ts HL.out k
      have h2 : u.data.toList.length = u.size := by simp
      rw [hline] at h2; omega
    have HLN := hide hline
    have HB := hide hbel
    clear hline hbel
    by_cases hlt : k < ts.length
    · obtain ⟨g, rfl, hg, hcells⟩ := HRW.out (by omega)
      obtain ⟨t, hte⟩ : ∃ t, t = ts.getD k [] := ⟨_, rfl⟩
      have htm : t ∈ ts := by rw [hte]; simp [List.getD, hlt]
      obtain ⟨c1, c2⟩ := hcells k hlt
      rw [← hte] at c1 c2
      rw [Nat.mul_comm 2 k] at c1 c2
      have d1 : wr.cell? ⟨g, k * 2, none⟩ = some (.int .i64 (Ck.tokenP t).1) := (HB.out.cell (p := ⟨g, k * 2, none⟩) hg).trans c1
      have d2 : wr.cell? ⟨g, k * 2 + 1, none⟩ = some (.int .i64 (Ck.tokenP t).2) := (HB.out.cell (p := ⟨g, k * 2 + 1, none⟩) hg).trans c2
      have ht := text_any t wr (HK.out t htm) (HW.out.below HW.out.1 HB.out) (HP.out.below HP.out.1 HB.out)
      have hsl := Ck.showTok_len t (HL.out t htm)
      have hstep : Ck.lineK ts (k + 1) = Ck.lineK ts k ++ ((if 0 < k then [32] else []) ++ Ck.showTok t) := by rw [hte]; rfl
      generalize Ck.showTok t = q at *
      generalize Ck.tokenP t = p at *
      obtain ⟨p1, p2⟩ := p
      obtain ⟨Q, hQ⟩ : ∃ Q : ByteArray, Q = ⟨q.toArray⟩ := ⟨_, rfl⟩
      have hQs : Q.size ≤ 400 := by rw [hQ]; exact hsl
      have ht' : Calls Tryz.prog 86 #[.agg #[.int .i64 p1, .int .i64 p2]] wr fun e w' => e = .returned (.string Q) ∧ Below wr.heap.size wr w' := by rw [hQ]; exact ht
      have HT := hide ht'
      have HQ := hide hQ
      have HST := hide hstep
      clear ht ht' hQ hstep hte htm hsl hcells c1 c2
      by_cases h0 : 0 < k
      · go_wp2_with (go_at_call 86; refine HT.out.mono ?_; rintro e w2 ⟨rfl, hb2⟩)
        go_roundw
        case rel =>
          refine ⟨k + 1, u ++ ⟨#[32]⟩ ++ Q, by omega, by go_num, rfl, ?_, HB.out.trans (hb2.mono HB.out.size)⟩
          rw [HST.out, if_pos h0, ← HLN.out, HQ.out]
          simp
        case measure => simp [intOf]; omega
      · go_wp2_with (go_at_call 86; refine HT.out.mono ?_; rintro e w2 ⟨rfl, hb2⟩)
        go_roundw
        case rel =>
          refine ⟨k + 1, u ++ Q, by omega, by go_num, rfl, ?_, HB.out.trans (hb2.mono HB.out.size)⟩
          rw [HST.out, if_neg h0, ← HLN.out, HQ.out]
          simp
        case measure => simp [intOf]; omega
    · go_wp2
      go_ret
      refine ⟨?_, HB.out⟩
      show Ending.returned (.string u) = _
      rw [show ts.length = k by omega, ← HLN.out]; rfl
end Go.Proofs.YtellilpeakpbfaaGreatDoor

end

section
/-
  The walks of Check and Show.
-/
namespace Go.Proofs.YtellilpeakpbfaaGreatDoor
open Go.RowKit

set_option maxHeartbeats 400000 in
theorem check_any (s : ByteArray) (w : World) (hW : WordsAt w) :
    Calls Tryz.prog 23 #[.string s] w fun e w' => e = .returned (.tuple #[.int .i64 (Ck.read s.data.toList).1, .int .i64 (Ck.read s.data.toList).2]) ∧ Below w.heap.size w w' := by
  have hr := read_any s w hW
  generalize Ck.read s.data.toList = p at *
  obtain ⟨p1, p2⟩ := p
  have HR := hide hr
  clear hr hW
  go_enter Tryz.func23, Tryz.ntmps23
  go_wp2_with fail
  refine HR.out.mono ?_
  rintro e w1 ⟨v, rfl, hb, -⟩
  have HB := hide hb
  clear hb
  go_wp2
  go_ret2
  exact ⟨rfl, HB.out⟩

set_option maxHeartbeats 400000 in
theorem show_ok (s : ByteArray) (w : World) (hok : (Ck.read s.data.toList).2 = 0) (hs : s.size ≤ 400) (hW : WordsAt w) (hP : PowAt w) :
    Calls Tryz.prog 24 #[.string s] w fun e w' => e = .returned (.tuple #[T (Ck.lineK (Ck.toks s.data.toList) (Ck.toks s.data.toList).length), .int .i64 0]) ∧ Below w.heap.size w w' := by
  have hl : s.data.toList.length = s.size := by simp
  have hr := read_any s w hW
  have hkn : ∀ t ∈ Ck.toks s.data.toList, (Ck.tokenP t).1 ≠ 0 := by
    rw [Ck.read, if_neg (by omega)] at hok
    exact Ck.known _ 0 [1] hok
  have htk := Ck.toks_len s.data.toList
  rw [hok] at hr
  generalize (Ck.read s.data.toList).1 = p1 at *
  generalize Ck.toks s.data.toList = ts at *
  obtain ⟨hn1, hn2, hn3⟩ := htk
  rw [hl] at hn1 hn3
  have hw : ∀ (v : Value) (w1 : World), w1.ownsRow w.heap.size 152 2 v ts.length (cellsOf ts) → Below w.heap.size w w1 →
      Calls Tryz.prog 51 #[v] w1 fun e w' => e = .returned (T (Ck.lineK ts ts.length)) ∧ Below w1.heap.size w1 w' := by
    intro v w1 ho hb
    exact swrite_any ts v w1 w.heap.size ho hkn (fun t ht => Nat.le_trans (hn3 t ht) hs) (by omega) (hW.below hW.1 hb) (hP.below hP.1 hb)
  have HR := hide hr
  have HW := hide hw
  clear hr hw hW hP hkn hn1 hn2 hn3 hok hl
  go_enter Tryz.func24, Tryz.ntmps24
  go_wp2_with fail
  refine HR.out.mono ?_
  rintro e w1 ⟨v, rfl, hb, ho⟩
  have HB := hide hb
  have HO := hide (ho (by simp))
  clear hb ho
  go_wp2_with fail
  refine (HW.out _ _ HO.out HB.out).mono ?_
  rintro e w2 ⟨rfl, hb⟩
  have HB2 := hide hb
  clear hb
  go_wp2
  go_ret2
  exact ⟨rfl, HB.out.trans (HB2.out.mono HB.out.size)⟩

set_option maxHeartbeats 400000 in
theorem show_no (s : ByteArray) (w : World) (hok : (Ck.read s.data.toList).2 ≠ 0) (hW : WordsAt w) :
    Calls Tryz.prog 24 #[.string s] w fun e w' => e = .returned (.tuple #[T [], .int .i64 (Ck.read s.data.toList).2]) ∧ Below w.heap.size w w' := by
  have hr := read_any s w hW
  generalize Ck.read s.data.toList = p at *
  obtain ⟨p1, p2⟩ := p
  have g : (p2 != 0) = true := by simpa using hok
  have HR := hide hr
  clear hr hok hW
  go_enter Tryz.func24, Tryz.ntmps24
  go_wp2_with fail
  refine HR.out.mono ?_
  rintro e w1 ⟨v, rfl, hb, -⟩
  have HB := hide hb
  clear hb
  go_wp2
  go_ret2
  exact ⟨rfl, HB.out⟩

theorem show_any (s : ByteArray) (w : World) (hW : WordsAt w) (hP : PowAt w) :
    Calls Tryz.prog 24 #[.string s] w fun e w' => e = .returned (.tuple #[T (Ck.showP s.data.toList).1, .int .i64 (Ck.showP s.data.toList).2]) ∧ Below w.heap.size w w' := by
  by_cases h : (Ck.read s.data.toList).2 = 0
  · have hs : s.size ≤ 400 := by
      rcases Nat.lt_or_ge 400 s.size with g | g
      · have hl : s.data.toList.length = s.size := by simp
        rw [Ck.read, if_pos (by omega)] at h
        simp at h
      · exact g
    have hk := show_ok s w h hs hW hP
    rw [Ck.read_same] at h
    rw [Ck.showP, if_pos h]
    exact hk
  · have hk := show_no s w h hW
    rw [Ck.read_same] at h hk
    rw [Ck.showP, if_neg h]
    exact hk

end Go.Proofs.YtellilpeakpbfaaGreatDoor

end
