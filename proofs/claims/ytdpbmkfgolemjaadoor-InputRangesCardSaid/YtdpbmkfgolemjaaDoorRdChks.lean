/-
  An input in memory; contract of input.Check.
-/
import Derived.Test.YtdpbmkfgolemjaaDoorRdRows
set_option linter.unusedVariables false
set_option linter.unusedSimpArgs false
set_option linter.deprecated false
namespace Go.Proofs.YtdpbmkfgolemjaaDoor
open Go.RowKit

def placeB5 (q : (Int × Int)) : Bool := decide (-1048576 ≤ q.1 ∧ q.1 ≤ 1048576 ∧ -1048576 ≤ q.2 ∧ q.2 ≤ 1048576)
theorem pget_at5 {l : List (Int × Int)} {i : Nat} (hi : i < l.length) : pget5 l i = l[i] := by
  unfold pget5
  simp [hi]
theorem all_pget5 (f : Int × Int → Bool) (l : List (Int × Int)) : l.all f = true ↔ ∀ i, i < l.length → f (pget5 l i) = true := by
  rw [List.all_eq_true]
  constructor
  · intro h i hi
    rw [pget_at5 hi]
    exact h _ (List.getElem_mem hi)
  · intro h x hx
    obtain ⟨i, hi, rfl⟩ := List.getElem_of_mem hx
    have := h i hi
    rwa [pget_at5 hi] at this
def ptsV5 (p : List (Int × Int)) : Bool := p.all placeB5 && decide (p.length ≤ 200)
theorem ptsV_iff5 {p : List (Int × Int)} : ptsV5 p = true ↔ (∀ i, i < p.length → placeB5 (pget5 p i) = true) ∧ p.length ≤ 200 := by
  unfold ptsV5
  rw [Bool.and_eq_true, all_pget5, decide_eq_true_eq]
def sgInB5 (n : Nat) (s : (Int × Int)) : Bool := decide (0 ≤ s.1 ∧ s.1 < (n : Int) ∧ 0 ≤ s.2 ∧ s.2 < (n : Int))
def segsV5 (n : Nat) (l : List (Int × Int)) : Bool := l.all (sgInB5 n) && decide (l.length ≤ 400)
theorem segsV_iff5 {n : Nat} {l : List (Int × Int)} : segsV5 n l = true ↔ (∀ i, i < l.length → sgInB5 n (pget5 l i) = true) ∧ l.length ≤ 400 := by
  unfold segsV5
  rw [Bool.and_eq_true, all_pget5, decide_eq_true_eq]
def okI5 (p l i : List (Int × Int)) : Bool := ptsV5 p && segsV5 p.length l && segsV5 p.length i
def firstE5 (p l i : List (Int × Int)) : Int := if okI5 p l i then 0 else 2
def plB5 (z : Int) : Bool := decide (-1048576 ≤ z) && decide (z ≤ 1048576)
theorem place_pl5 (q : (Int × Int)) : placeB5 q = (plB5 q.1 && plB5 q.2) := by
  unfold placeB5 plB5
  rw [Bool.eq_iff_iff]
  simp only [Bool.and_eq_true, decide_eq_true_eq]
  omega
/-- an input in memory -/
structure Pol5 (w : World) (ap al ai : Option Addr) (cp cl ci : Nat) (p l i : List (Int × Int)) : Prop where
  pp : PtRow5 w ap p
  ll : PtRow5 w al l
  ii : PtRow5 w ai i
  capP : p.length ≤ cp
  capL : l.length ≤ cl
  capI : i.length ≤ ci
  nilP : ap = none → cp = 0
  nilL : al = none → cl = 0
  nilI : ai = none → ci = 0
  lenP : p.length ≤ 10000
  lenL : l.length ≤ 10000
  lenI : i.length ≤ 10000
theorem Pol5.below {w w' : World} {ap al ai : Option Addr} {cp cl ci : Nat} {p l i : List (Int × Int)} (h : Pol5 w ap al ai cp cl ci p l i) (hb : Below w.heap.size w w') : Pol5 w' ap al ai cp cl ci p l i :=
  ⟨h.pp.below hb, h.ll.below hb, h.ii.below hb, h.capP, h.capL, h.capI, h.nilP, h.nilL, h.nilI, h.lenP, h.lenL, h.lenI⟩

set_option maxRecDepth 100000 in
theorem isPlace_l5 (z : Int) (w : World) : Calls Tryd.prog 37 #[.int .i64 z] w (Gives (.bool (plB5 z)) w) := by
  have HR : Hid (plB5 z = (decide (-1048576 ≤ z) && decide (z ≤ 1048576))) := rfl
  generalize plB5 z = r at *
  go_enter Tryd.func37, Tryd.ntmps37
  by_cases h : -1048576 ≤ z
  · have b0 : (-1048576 ≤ z) = True := eq_true h
    have b1 : decide (-1048576 ≤ z) = true := decide_eq_true h
    obtain rfl : r = decide (z ≤ 1048576) := by rw [HR.out, b1]; rfl
    clear HR h
    go_wp2_with fail
    go_ret
    exact ⟨rfl, Below.refl _ _⟩
  · have b0 : (-1048576 ≤ z) = False := eq_false h
    have b1 : decide (-1048576 ≤ z) = false := decide_eq_false h
    obtain rfl : r = false := by rw [HR.out, b1]; rfl
    clear HR h
    go_wp2_with fail
    go_ret
    exact ⟨rfl, Below.refl _ _⟩

set_option maxHeartbeats 8000000 in
set_option maxRecDepth 100000 in
theorem ptsV_l5 (p : List (Int × Int)) (ap : Option Addr) (cp : Nat) (w : World) (hP : PtRow5 w ap p) (hlen : p.length ≤ 10000) : Calls Tryd.prog 23 #[.slice ap p.length cp] w (Gives (.bool (ptsV5 p)) w) := by
  have HP := Lib.hid hP
  clear hP
  go_enter Tryd.func23, Tryd.ntmps23
  go_wp2_with fail
  go_loopw [7] (fun iv W => ∃ k : Nat, k ≤ p.length ∧ iv = .int .i64 k ∧ (∀ i, i < k → placeB5 (pget5 p i) = true) ∧ Below w.heap.size w W) (fun iv _ => p.length - (intOf iv).toNat)
  case atStart => exact ⟨0, Nat.zero_le _, rfl, fun i hi => absurd hi (Nat.not_lt_zero _), Below.refl _ _⟩
  case round =>
    obtain ⟨k, hk, rfl, hS, hB⟩ := hrel
    have HB := Lib.hid hB
    have HS := Lib.hid hS
    clear hB hS
    by_cases hlt : k < p.length
    · have b2 : ((k : Int) < (p.length : Int)) = True := eq_true (by omega)
      have d2 : (k < p.length) = True := eq_true hlt
      have c2 : ((0 : Int) ≤ (k : Int)) = True := eq_true (by omega)
      obtain ⟨g, o, rfl⟩ := HP.out.some (by omega)
      obtain ⟨s, hs⟩ : ∃ s, pget5 p k = s := ⟨_, rfl⟩
      obtain ⟨k0, k1⟩ := ptRow_at5 (HP.out.below HB.out) hlt hs
      have HX := Lib.hid (fun W => isPlace_l5 s.1 W)
      have HY := Lib.hid (fun W => isPlace_l5 s.2 W)
      have HPL : Hid (placeB5 (pget5 p k) = (plB5 s.1 && plB5 s.2)) := by unfold Hid; rw [hs, place_pl5]
      have HNo : Hid (placeB5 (pget5 p k) = false → ptsV5 p = false) := fun h => by
        rw [Bool.eq_false_iff]; intro h2
        rw [(ptsV_iff5.1 h2).1 k hlt] at h; cases h
      clear hs
      generalize plB5 s.1 = rx at *
      generalize plB5 s.2 = ry at *
      go_wp2_with fail
      (with_reducible refine (HX.out _).mono ?_); rintro e w2 ⟨rfl, hb2⟩
      have HB2 := Lib.hid (bl_trans HB.out (bl_trans (bl_one wr (.cells #[.int .i64 s.1, .int .i64 s.2] 43)) hb2))
      have HV := Lib.hid ((var2_new wr (.int .i64 s.1) (.int .i64 s.2) 43 wr.heap.size rfl).below hb2)
      obtain ⟨v0, v1⟩ := HV.out.two
      clear hb2 HX k0 k1
      cases rx
      · have HZ := Lib.hid (HNo.out (by rw [HPL.out]; rfl))
        clear HNo
        go_wp2_with fail
        go_ret
        exact ⟨by rw [HZ.out]; rfl, HB2.out⟩
      · go_wp2_with fail
        (with_reducible refine (HY.out _).mono ?_); rintro e w3 ⟨rfl, hb3⟩
        have HB3 := Lib.hid (bl_trans HB2.out hb3)
        clear hb3 HB2 HY v0 v1 HV
        cases ry
        · have HZ := Lib.hid (HNo.out (by rw [HPL.out]; rfl))
          clear HNo
          go_wp2_with fail
          go_ret
          exact ⟨by rw [HZ.out]; rfl, HB3.out⟩
        · obtain ⟨m1, m2, m3, m4⟩ := wnum (i := k) (by omega)
          go_wp2_with fail
          clear m1 m2 m3 m4
          refine ⟨⟨k + 1, hlt, by rw [Int.natCast_add]; rfl, fun i hi => ?_, HB3.out⟩, by simp [intOf]; omega⟩
          rcases Nat.lt_or_eq_of_le (Nat.le_of_lt_succ hi) with h | rfl
          · exact HS.out i h
          · exact HPL.out
    · obtain rfl : k = p.length := by omega
      have b2 : ((p.length : Int) < (p.length : Int)) = False := eq_false (by omega)
      have HY : Hid (ptsV5 p = decide (p.length ≤ 200)) := by
        unfold Hid
        rw [Bool.eq_iff_iff, ptsV_iff5, decide_eq_true_eq]
        exact ⟨fun h => by have := h.2; omega, fun h => ⟨HS.out, by omega⟩⟩
      go_wp2_with fail
      go_ret
      exact ⟨by rw [HY.out, show decide (p.length ≤ 200) = decide ((p.length : Int) ≤ 200) from decide_eq_decide.2 (by omega)]; rfl, HB.out⟩
theorem sgInB_mm5 (n : Nat) (x y : Int) : sgInB5 n (x, y) = (!(decide (min x y < 0)) && !(decide ((n : Int) ≤ max x y))) := by
  unfold sgInB5
  rw [Bool.eq_iff_iff]
  simp only [Bool.and_eq_true, Bool.not_eq_true', decide_eq_true_eq, decide_eq_false_iff_not]
  omega

set_option maxHeartbeats 8000000 in
set_option maxRecDepth 100000 in
theorem segsV_l5 (n : Nat) (l : List (Int × Int)) (al : Option Addr) (cl : Nat) (w : World) (hL : PtRow5 w al l) (hlen : l.length ≤ 10000) : Calls Tryd.prog 24 #[.slice al l.length cl, .int .i64 (n : Int)] w (Gives (.bool (segsV5 n l)) w) := by
  have HL := Lib.hid hL
  clear hL
  go_enter Tryd.func24, Tryd.ntmps24
  go_wp2_with fail
  go_loopw [9] (fun iv W => ∃ k : Nat, k ≤ l.length ∧ iv = .int .i64 k ∧ (∀ i, i < k → sgInB5 n (pget5 l i) = true) ∧ Below w.heap.size w W) (fun iv _ => l.length - (intOf iv).toNat)
  case atStart => exact ⟨0, Nat.zero_le _, rfl, fun i hi => absurd hi (Nat.not_lt_zero _), Below.refl _ _⟩
  case round =>
    obtain ⟨k, hk, rfl, hS, hB⟩ := hrel
    have HB := Lib.hid hB
    have HS := Lib.hid hS
    clear hB hS
    by_cases hlt : k < l.length
    · have b2 : ((k : Int) < (l.length : Int)) = True := eq_true (by omega)
      have d2 : (k < l.length) = True := eq_true hlt
      have c2 : ((0 : Int) ≤ (k : Int)) = True := eq_true (by omega)
      obtain ⟨g, o, rfl⟩ := HL.out.some (by omega)
      obtain ⟨⟨x, y⟩, hs⟩ : ∃ s, pget5 l k = s := ⟨_, rfl⟩
      obtain ⟨k0, k1⟩ := ptRow_at5 (HL.out.below HB.out) hlt hs
      dsimp only at k0 k1
      have HNo : Hid (sgInB5 n (pget5 l k) = false → segsV5 n l = false) := fun h => by
        rw [Bool.eq_false_iff]; intro h2
        rw [(segsV_iff5.1 h2).1 k hlt] at h; cases h
      have HIN : Hid (sgInB5 n (pget5 l k) = (!(decide (min x y < 0)) && !(decide ((n : Int) ≤ max x y)))) := by unfold Hid; rw [hs, sgInB_mm5]
      have HB2 := Lib.hid (bl_trans HB.out (bl_one wr (.cells #[.int .i64 x, .int .i64 y] 62)))
      clear hs
      obtain ⟨mn, hmn⟩ : ∃ m, min x y = m := ⟨_, rfl⟩
      obtain ⟨mx, hmx⟩ : ∃ m, max x y = m := ⟨_, rfl⟩
      rw [hmn, hmx] at HIN
      by_cases h1 : mn < 0
      · have e1 : (mn < 0) = True := eq_true h1
        have HZ := Lib.hid (HNo.out (by rw [HIN.out, decide_eq_true h1]; rfl))
        clear HNo h1
        go_wp2_with fail
        go_ret
        exact ⟨by rw [HZ.out]; rfl, HB2.out⟩
      · have e1 : (mn < 0) = False := eq_false h1
        by_cases h2 : (n : Int) ≤ mx
        · have e2 : ((n : Int) ≤ mx) = True := eq_true h2
          have HZ := Lib.hid (HNo.out (by rw [HIN.out, decide_eq_true h2]; simp))
          clear HNo h1 h2
          go_wp2_with fail
          go_ret
          exact ⟨by rw [HZ.out]; rfl, HB2.out⟩
        · have e2 : ((n : Int) ≤ mx) = False := eq_false h2
          have HZ : Hid (sgInB5 n (pget5 l k) = true) := by unfold Hid; rw [HIN.out, decide_eq_false h1, decide_eq_false h2]; rfl
          clear HNo h1 h2
          obtain ⟨m1, m2, m3, m4⟩ := wnum (i := k) (by omega)
          go_wp2_with fail
          clear m1 m2 m3 m4
          refine ⟨⟨k + 1, hlt, by rw [Int.natCast_add]; rfl, fun i hi => ?_, HB2.out⟩, by simp [intOf]; omega⟩
          rcases Nat.lt_or_eq_of_le (Nat.le_of_lt_succ hi) with h | rfl
          · exact HS.out i h
          · exact HZ.out
    · obtain rfl : k = l.length := by omega
      have b2 : ((l.length : Int) < (l.length : Int)) = False := eq_false (by omega)
      have HY : Hid (segsV5 n l = decide (l.length ≤ 400)) := by
        unfold Hid
        rw [Bool.eq_iff_iff, segsV_iff5, decide_eq_true_eq]
        exact ⟨fun h => by have := h.2; omega, fun h => ⟨HS.out, by omega⟩⟩
      go_wp2_with fail
      go_ret
      exact ⟨by rw [HY.out, show decide (l.length ≤ 400) = decide ((l.length : Int) ≤ 400) from decide_eq_decide.2 (by omega)]; rfl, HB.out⟩

set_option maxHeartbeats 8000000 in
set_option maxRecDepth 100000 in
theorem check_l5 (p l i : List (Int × Int)) (ap al ai : Option Addr) (cp cl ci : Nat) (w : World) (hA : Pol5 w ap al ai cp cl ci p l i) :
    Calls Tryd.prog 13 #[.agg #[.slice ap p.length cp, .slice al l.length cl, .slice ai i.length ci]] w (Gives (.int .i64 (firstE5 p l i)) w) := by
  have HP := Lib.hid (fun W h => ptsV_l5 p ap cp W (hA.pp.below h) hA.lenP)
  have HL := Lib.hid (fun W h => segsV_l5 p.length l al cl W (hA.ll.below h) hA.lenL)
  have HI := Lib.hid (fun W h => segsV_l5 p.length i ai ci W (hA.ii.below h) hA.lenI)
  have HE : Hid (firstE5 p l i = if (ptsV5 p && segsV5 p.length l && segsV5 p.length i) = true then 0 else 2) := rfl
  clear hA
  generalize ptsV5 p = r1 at *
  generalize segsV5 p.length l = r2 at *
  generalize segsV5 p.length i = r3 at *
  go_enter Tryd.func13, Tryd.ntmps13
  go_upto_region 1 with (fail)
  have HV := Lib.hid (var3o_new w (.slice ap p.length cp) (.slice al l.length cl) (.slice ai i.length ci) 25 w.heap.size rfl)
  have HB := Lib.hid (bl_one w (.cells #[.slice ap p.length cp, .slice al l.length cl, .slice ai i.length ci] 25))
  generalize w.alloc (.cells #[.slice ap p.length cp, .slice al l.length cl, .slice ai i.length ci] 25) = W1 at *
  obtain ⟨k0, k1, k2⟩ := HV.out.three6
  go_wp2_with fail
  (with_reducible refine (HP.out _ HB.out).mono ?_); rintro e w2 ⟨rfl, hb2⟩
  replace HB := Lib.hid (bl_trans HB.out hb2)
  replace HV := Lib.hid (HV.out.below hb2)
  clear hb2 HP k0 k1 k2
  obtain ⟨k0, k1, k2⟩ := HV.out.three6
  cases r1
  · go_wp2_with fail
    go_ret
    exact ⟨by rw [HE.out]; rfl, HB.out⟩
  · go_wp2_with fail
    (with_reducible refine (HL.out _ HB.out).mono ?_); rintro e w3 ⟨rfl, hb2⟩
    replace HB := Lib.hid (bl_trans HB.out hb2)
    replace HV := Lib.hid (HV.out.below hb2)
    clear hb2 HL k0 k1 k2
    obtain ⟨k0, k1, k2⟩ := HV.out.three6
    cases r2
    · go_wp2_with fail
      go_ret
      exact ⟨by rw [HE.out]; rfl, HB.out⟩
    · go_wp2_with fail
      (with_reducible refine (HI.out _ HB.out).mono ?_); rintro e w4 ⟨rfl, hb2⟩
      replace HB := Lib.hid (bl_trans HB.out hb2)
      clear hb2 HI k0 k1 k2 HV
      cases r3
      · go_wp2_with fail
        go_ret
        exact ⟨by rw [HE.out]; rfl, HB.out⟩
      · go_wp2_with fail
        go_ret
        exact ⟨by rw [HE.out]; rfl, HB.out⟩
end Go.Proofs.YtdpbmkfgolemjaaDoor

/-
  The document's Check of an input.
-/
namespace Go.Proofs.YtdpbmkfgolemjaaDoor
open Go.RowKit

structure ChkOk5 (p l i : List (Int × Int)) : Prop where
  n : p.length ≤ 200
  nl : l.length ≤ 400
  ni : i.length ≤ 400
  pl : ∀ j, j < p.length → placeB5 (pget5 p j) = true
  sl : ∀ j, j < l.length → sgInB5 p.length (pget5 l j) = true
  si : ∀ j, j < i.length → sgInB5 p.length (pget5 i j) = true
theorem checkB_iff5 {p l i : List (Int × Int)} : okI5 p l i = true ↔ ChkOk5 p l i := by
  unfold okI5
  rw [Bool.and_eq_true, Bool.and_eq_true, ptsV_iff5, segsV_iff5, segsV_iff5]
  exact ⟨fun ⟨⟨⟨a, b⟩, c, d⟩, e, f⟩ => ⟨b, d, f, a, c, e⟩, fun h => ⟨⟨⟨h.pl, h.n⟩, h.sl, h.nl⟩, h.si, h.ni⟩⟩
theorem place_iff5 {q : (Int × Int)} : placeB5 q = true ↔ -1048576 ≤ q.1 ∧ q.1 ≤ 1048576 ∧ -1048576 ≤ q.2 ∧ q.2 ≤ 1048576 := by unfold placeB5; exact decide_eq_true_iff
theorem sgInB_iff5 {n : Nat} {s : (Int × Int)} : sgInB5 n s = true ↔ 0 ≤ s.1 ∧ s.1 < (n : Int) ∧ 0 ≤ s.2 ∧ s.2 < (n : Int) := by unfold sgInB5; exact decide_eq_true_iff
theorem pget_left5 {l i : List (Int × Int)} {a : Nat} (h : a < l.length) : pget5 (l ++ i) a = pget5 l a := by
  unfold pget5; rw [List.getD_eq_getElem?_getD, List.getD_eq_getElem?_getD, List.getElem?_append_left h]
theorem pget_right5 {l i : List (Int × Int)} {a : Nat} (h : l.length ≤ a) : pget5 (l ++ i) a = pget5 i (a - l.length) := by
  unfold pget5; rw [List.getD_eq_getElem?_getD, List.getD_eq_getElem?_getD, List.getElem?_append_right h]
theorem chk_seg5 {p l i : List (Int × Int)} (hc : ChkOk5 p l i) {a : Nat} (ha : a < (l ++ i).length) : sgInB5 p.length (pget5 (l ++ i) a) = true := by
  rw [List.length_append] at ha
  by_cases h : a < l.length
  · rw [pget_left5 h]; exact hc.sl a h
  · rw [pget_right5 (by omega)]; exact hc.si _ (by omega)
set_option maxHeartbeats 8000000 in
set_option maxRecDepth 100000 in
theorem refCheck_l5 (p l i : List (Int × Int)) (ap al ai : Option Addr) (cp cl ci : Nat) (w : World) (hA : Pol5 w ap al ai cp cl ci p l i) :
    Calls Tryd.prog 16 #[.agg #[.slice ap p.length cp, .slice al l.length cl, .slice ai i.length ci]] w (Gives (.int .i64 (firstE5 p l i)) w) := by
  have HPP := Lib.hid hA.pp
  have HLL := Lib.hid hA.ll
  have HII := Lib.hid hA.ii
  have hlp := hA.lenP
  have hll := hA.lenL
  have hli := hA.lenI
  clear hA
  have HNo : Hid (¬ ChkOk5 p l i → firstE5 p l i = 2) := fun h => by
    unfold firstE5
    rw [if_neg (fun e => h (checkB_iff5.1 e))]
  have HYes : Hid (ChkOk5 p l i → firstE5 p l i = 0) := fun h => by
    unfold firstE5
    rw [if_pos (checkB_iff5.2 h)]
  generalize firstE5 p l i = r at *
  go_enter Tryd.func16, Tryd.ntmps16
  go_upto_region 1 with (fail)
  have HV := Lib.hid (var3o_new w (.slice ap p.length cp) (.slice al l.length cl) (.slice ai i.length ci) 25 w.heap.size rfl)
  have HB := Lib.hid (bl_one w (.cells #[.slice ap p.length cp, .slice al l.length cl, .slice ai i.length ci] 25))
  generalize w.alloc (.cells #[.slice ap p.length cp, .slice al l.length cl, .slice ai i.length ci] 25) = W1 at *
  obtain ⟨k0, k1, k2⟩ := HV.out.three6
  by_cases h1 : 200 < p.length
  · have a1 : ((200 : Int) < (p.length : Int)) = True := eq_true (by omega)
    have a2 : (200 < p.length) = True := eq_true h1
    have HZ := Lib.hid (HNo.out (fun h => by have := h.n; omega))
    clear h1
    go_wp2_with fail
    go_ret
    exact ⟨by rw [HZ.out]; rfl, HB.out⟩
  have A1 : ((200 : Int) < (p.length : Int)) = False := eq_false (by omega)
  have B1 : (200 < p.length) = False := eq_false h1
  by_cases h2 : 400 < l.length
  · have a1 : ((400 : Int) < (l.length : Int)) = True := eq_true (by omega)
    have a2 : (400 < l.length) = True := eq_true h2
    have HZ := Lib.hid (HNo.out (fun h => by have := h.nl; omega))
    clear h2
    go_wp2_with fail
    go_ret
    exact ⟨by rw [HZ.out]; rfl, HB.out⟩
  have A2 : ((400 : Int) < (l.length : Int)) = False := eq_false (by omega)
  have B2 : (400 < l.length) = False := eq_false h2
  by_cases h3 : 400 < i.length
  · have a1 : ((400 : Int) < (i.length : Int)) = True := eq_true (by omega)
    have a2 : (400 < i.length) = True := eq_true h3
    have HZ := Lib.hid (HNo.out (fun h => by have := h.ni; omega))
    clear h3
    go_wp2_with fail
    go_ret
    exact ⟨by rw [HZ.out]; rfl, HB.out⟩
  have A3 : ((400 : Int) < (i.length : Int)) = False := eq_false (by omega)
  have B3 : (400 < i.length) = False := eq_false h3
  go_wp2_with fail
  clear k0 k1 k2 A1 A2 A3 B1 B2 B3
  go_loopw [4] (fun iv W => ∃ k : Nat, k ≤ p.length ∧ iv = .int .i64 k ∧ (∀ j, j < k → placeB5 (pget5 p j) = true) ∧ Below W1.heap.size W1 W) (fun iv _ => p.length - (intOf iv).toNat)
  case atStart => exact ⟨0, Nat.zero_le _, rfl, fun j h => absurd h (Nat.not_lt_zero _), Below.refl _ _⟩
  case round =>
    obtain ⟨k, hk, rfl, hS, hB1⟩ := hrel
    have HS := Lib.hid hS
    have HB1 := Lib.hid hB1
    have HBx := Lib.hid (bl_trans HB.out hB1)
    clear hS hB1
    obtain ⟨k0, k1, k2⟩ := (HV.out.below HB1.out).three6
    by_cases hlt : k < p.length
    · have b2 : ((k : Int) < (p.length : Int)) = True := eq_true (by omega)
      have d2 : (k < p.length) = True := eq_true hlt
      have c2 : ((0 : Int) ≤ (k : Int)) = True := eq_true (by omega)
      obtain ⟨gp, op, rfl⟩ := HPP.out.some (by omega)
      obtain ⟨⟨x, y⟩, hq⟩ : ∃ q, pget5 p k = q := ⟨_, rfl⟩
      obtain ⟨c0, c1⟩ := ptRow_at5 (HPP.out.below HBx.out) hlt hq
      dsimp only at c0 c1
      have HPl : Hid (placeB5 (pget5 p k) = true ↔ (-1048576 ≤ x ∧ x ≤ 1048576 ∧ -1048576 ≤ y ∧ y ≤ 1048576)) := by unfold Hid; rw [hq]; exact place_iff5
      clear hq
      by_cases h1 : 1048576 < x
      · have a1 : (1048576 < x) = True := eq_true h1
        have HZ := Lib.hid (HNo.out (fun h => by have := HPl.out.1 (h.pl k hlt); omega))
        clear h1
        go_wp2_with fail
        go_ret
        exact ⟨by rw [HZ.out]; rfl, HBx.out⟩
      have a1 : (1048576 < x) = False := eq_false h1
      by_cases h2 : x < -1048576
      · have a2 : (x < -1048576) = True := eq_true h2
        have HZ := Lib.hid (HNo.out (fun h => by have := HPl.out.1 (h.pl k hlt); omega))
        clear h2
        go_wp2_with fail
        go_ret
        exact ⟨by rw [HZ.out]; rfl, HBx.out⟩
      have a2 : (x < -1048576) = False := eq_false h2
      by_cases h3 : 1048576 < y
      · have a3 : (1048576 < y) = True := eq_true h3
        have HZ := Lib.hid (HNo.out (fun h => by have := HPl.out.1 (h.pl k hlt); omega))
        clear h3
        go_wp2_with fail
        go_ret
        exact ⟨by rw [HZ.out]; rfl, HBx.out⟩
      have a3 : (1048576 < y) = False := eq_false h3
      by_cases h4 : y < -1048576
      · have a4 : (y < -1048576) = True := eq_true h4
        have HZ := Lib.hid (HNo.out (fun h => by have := HPl.out.1 (h.pl k hlt); omega))
        clear h4
        go_wp2_with fail
        go_ret
        exact ⟨by rw [HZ.out]; rfl, HBx.out⟩
      have a4 : (y < -1048576) = False := eq_false h4
      obtain ⟨m1, m2, m3, m4⟩ := wnum2 (i := k) (by omega)
      have HPk := Lib.hid (HPl.out.2 (by omega))
      clear h1 h2 h3 h4
      go_wp2_with fail
      clear m1 m2 m3 m4
      refine ⟨⟨k + 1, hlt, by rw [Int.natCast_add]; rfl, fun j hj => ?_, HB1.out⟩, by simp [intOf]; omega⟩
      rcases Nat.lt_or_eq_of_le (Nat.le_of_lt_succ hj) with h | rfl
      · exact HS.out j h
      · exact HPk.out
    · obtain rfl : k = p.length := by omega
      have b2 : ((p.length : Int) < (p.length : Int)) = False := eq_false (by omega)
      go_wp2_with fail
      clear k0 k1 k2 b2 hlt
      obtain ⟨n, hn⟩ : ∃ n, l.length = n := ⟨_, rfl⟩
      obtain ⟨m, hm⟩ : ∃ m, i.length = m := ⟨_, rfl⟩
      obtain ⟨s, hs⟩ : ∃ s : Nat, s = n + m := ⟨_, rfl⟩
      have HN := Lib.hid hn
      have HM := Lib.hid hm
      have HSm := Lib.hid hs
      rw [hn] at HV hll ⊢
      rw [hm] at HV hli ⊢
      have ws : wrap64 ((n : Int) + (m : Int)) = (s : Int) := by rw [hs, Int.natCast_add]; unfold wrap64; omega
      have ws' : IntKind.i64.wrap ((n : Int) + (m : Int)) = (s : Int) := by rw [hs, Int.natCast_add]; exact IntWalk.i64_in _ (by omega)
      have hs2 : s ≤ 20000 := by omega
      have HWs := Lib.hid ws
      have HWs' := Lib.hid ws'
      clear hn hm hs ws ws'
      go_loopw [5] (fun iv W => ∃ k : Nat, k ≤ s ∧ iv = .int .i64 k ∧ (∀ j, j < k → sgInB5 p.length (pget5 (l ++ i) j) = true) ∧ Below W1.heap.size W1 W) (fun iv _ => s - (intOf iv).toNat)
      case atStart => exact ⟨0, Nat.zero_le _, rfl, fun j h => absurd h (Nat.not_lt_zero _), HB1.out⟩
      case round =>
        obtain ⟨k, hk, rfl, hG, hB2⟩ := hrel
        have HG := Lib.hid hG
        have HB2 := Lib.hid hB2
        have HBy := Lib.hid (bl_trans HB.out hB2)
        clear hG hB2
        obtain ⟨k0, k1, k2⟩ := (HV.out.below HB2.out).three6
        obtain ⟨w1, w2⟩ := (⟨HWs.out, HWs'.out⟩ : _ ∧ _)
        by_cases hks : k < s
        · have b2 : ((k : Int) < (s : Int)) = True := eq_true (by omega)
          have hkS : k < (l ++ i).length := by have := HN.out; have := HM.out; have := HSm.out; rw [List.length_append]; omega
          obtain ⟨⟨x, y⟩, hq⟩ : ∃ q, pget5 (l ++ i) k = q := ⟨_, rfl⟩
          have HIn : Hid (sgInB5 p.length (pget5 (l ++ i) k) = true ↔ (0 ≤ x ∧ x < (p.length : Int) ∧ 0 ≤ y ∧ y < (p.length : Int))) := by unfold Hid; rw [hq]; exact sgInB_iff5
          have HNk : Hid (sgInB5 p.length (pget5 (l ++ i) k) = false → r = 2) := fun h => HNo.out (fun hc => by rw [chk_seg5 hc hkS] at h; cases h)
          have HQ := Lib.hid hq
          clear hq
          go_upto_region 13 with (fail)
          have HVz := Lib.hid (var2_new wr (.int .i64 0) (.int .i64 0) 62 wr.heap.size rfl)
          have HBz := Lib.hid (bl_trans HBy.out (bl_one wr (.cells #[.int .i64 0, .int .i64 0] 62)))
          clear k0 k1 k2
          obtain ⟨k0, k1, k2⟩ := ((HV.out.below HB2.out).below (bl_one wr (.cells #[.int .i64 0, .int .i64 0] 62))).three6
          have HB2z := Lib.hid (bl_trans HB2.out (bl_one wr (.cells #[.int .i64 0, .int .i64 0] 62)))
          obtain ⟨W2, eW2⟩ : ∃ W, wr.alloc (.cells #[.int .i64 0, .int .i64 0] 62) = W := ⟨_, rfl⟩
          rw [eW2] at HVz HBz HB2z k0 k1 k2 ⊢
          obtain ⟨z0, z1⟩ := HVz.out.two
          obtain ⟨zf0, zf1⟩ := HVz.out.free2
          by_cases hkn : k < n
          · have b3 : ((k : Int) < (n : Int)) = True := eq_true (by omega)
            have b4 : (k < n) = True := eq_true hkn
            have b5 : ((0 : Int) ≤ (k : Int)) = True := eq_true (by omega)
            obtain ⟨gl, ol, rfl⟩ := HLL.out.some (by have := HN.out; omega)
            obtain ⟨c0, c1⟩ := ptRow_at5 (HLL.out.below HBz.out) (i := k) (by have := HN.out; omega) (t := ⟨x, y⟩) (by have := HQ.out; rwa [pget_left5 (by have := HN.out; omega)] at this)
            dsimp only at c0 c1
            have HB3 := Lib.hid (bl_set (bl_set HB2z.out (p := ⟨wr.heap.size, 0, none⟩) HB2.out.size (.int .i64 x)) (p := ⟨wr.heap.size, 1, none⟩) HB2.out.size (.int .i64 y))
            have HV3 := Lib.hid (HVz.out.set2 (.int .i64 x) (.int .i64 y))
            go_upto_region 16 with (fail)
            clear k0 k1 k2 z0 z1 zf0 zf1 c0 c1
            have HB := Lib.hid (bl_trans HB.out HB3.out)
            generalize (W2.setCell ⟨wr.heap.size, 0, none⟩ (.int .i64 x)).setCell ⟨wr.heap.size, 1, none⟩ (.int .i64 y) = W3 at *
            obtain ⟨s0, s1⟩ := HV3.out.two
            clear b3
            by_cases h1 : x < 0
            · have a1 : (x < 0) = True := eq_true h1
              have HZ := Lib.hid (HNk.out (by rw [Bool.eq_false_iff]; intro e; have := HIn.out.1 e; omega))
              clear h1
              go_wp2_with fail
              go_ret
              exact ⟨by rw [HZ.out]; rfl, HB.out⟩
            have a1 : (x < 0) = False := eq_false h1
            by_cases h2 : (p.length : Int) ≤ x
            · have a2 : ((p.length : Int) ≤ x) = True := eq_true h2
              have HZ := Lib.hid (HNk.out (by rw [Bool.eq_false_iff]; intro e; have := HIn.out.1 e; omega))
              clear h2
              go_wp2_with fail
              go_ret
              exact ⟨by rw [HZ.out]; rfl, HB.out⟩
            have a2 : ((p.length : Int) ≤ x) = False := eq_false h2
            by_cases h3 : y < 0
            · have a3 : (y < 0) = True := eq_true h3
              have HZ := Lib.hid (HNk.out (by rw [Bool.eq_false_iff]; intro e; have := HIn.out.1 e; omega))
              clear h3
              go_wp2_with fail
              go_ret
              exact ⟨by rw [HZ.out]; rfl, HB.out⟩
            have a3 : (y < 0) = False := eq_false h3
            by_cases h4 : (p.length : Int) ≤ y
            · have a4 : ((p.length : Int) ≤ y) = True := eq_true h4
              have HZ := Lib.hid (HNk.out (by rw [Bool.eq_false_iff]; intro e; have := HIn.out.1 e; omega))
              clear h4
              go_wp2_with fail
              go_ret
              exact ⟨by rw [HZ.out]; rfl, HB.out⟩
            have a4 : ((p.length : Int) ≤ y) = False := eq_false h4
            have HPk := Lib.hid (HIn.out.2 (by omega))
            clear h1 h2 h3 h4
            obtain ⟨m1, m2, m3, m4⟩ := wnum2 (i := k) (by omega)
            go_wp2_with fail
            clear m1 m2 m3 m4
            refine ⟨⟨k + 1, hks, by rw [Int.natCast_add]; rfl, fun j hj => ?_, HB3.out⟩, by simp [intOf]; omega⟩
            rcases Nat.lt_or_eq_of_le (Nat.le_of_lt_succ hj) with h | rfl
            · exact HG.out j h
            · exact HPk.out
          · have b3 : ((k : Int) < (n : Int)) = False := eq_false (by omega)
            have b4 : (k < n) = False := eq_false hkn
            obtain ⟨tt, ht⟩ : ∃ t, k = n + t := ⟨k - n, by omega⟩
            have htm : tt < m := by have := HSm.out; omega
            have w3 : wrap64 ((k : Int) - (n : Int)) = (tt : Int) := by rw [ht, Int.natCast_add]; unfold wrap64; omega
            have w4 : IntKind.i64.wrap ((k : Int) - (n : Int)) = (tt : Int) := by rw [ht, Int.natCast_add, show (n : Int) + (tt : Int) - (n : Int) = (tt : Int) by omega]; exact IntWalk.i64_in _ (by omega)
            have b5 : ((tt : Int) < (m : Int)) = True := eq_true (by omega)
            have b6 : (tt < m) = True := eq_true htm
            have b7 : ((0 : Int) ≤ (tt : Int)) = True := eq_true (by omega)
            obtain ⟨gl, ol, rfl⟩ := HII.out.some (by have := HM.out; omega)
            obtain ⟨c0, c1⟩ := ptRow_at5 (HII.out.below HBz.out) (i := tt) (by have := HM.out; omega) (t := ⟨x, y⟩) (by have := HQ.out; rwa [pget_right5 (by have := HN.out; omega), show k - l.length = tt by have := HN.out; omega] at this)
            dsimp only at c0 c1
            have HTk := Lib.hid ht
            clear ht
            have HB3 := Lib.hid (bl_set (bl_set HB2z.out (p := ⟨wr.heap.size, 0, none⟩) HB2.out.size (.int .i64 x)) (p := ⟨wr.heap.size, 1, none⟩) HB2.out.size (.int .i64 y))
            have HV3 := Lib.hid (HVz.out.set2 (.int .i64 x) (.int .i64 y))
            go_upto_region 16 with (fail)
            clear k0 k1 k2 z0 z1 zf0 zf1 c0 c1
            have HB := Lib.hid (bl_trans HB.out HB3.out)
            generalize (W2.setCell ⟨wr.heap.size, 0, none⟩ (.int .i64 x)).setCell ⟨wr.heap.size, 1, none⟩ (.int .i64 y) = W3 at *
            obtain ⟨s0, s1⟩ := HV3.out.two
            clear b3 w3 w4
            by_cases h1 : x < 0
            · have a1 : (x < 0) = True := eq_true h1
              have HZ := Lib.hid (HNk.out (by rw [Bool.eq_false_iff]; intro e; have := HIn.out.1 e; omega))
              clear h1
              go_wp2_with fail
              go_ret
              exact ⟨by rw [HZ.out]; rfl, HB.out⟩
            have a1 : (x < 0) = False := eq_false h1
            by_cases h2 : (p.length : Int) ≤ x
            · have a2 : ((p.length : Int) ≤ x) = True := eq_true h2
              have HZ := Lib.hid (HNk.out (by rw [Bool.eq_false_iff]; intro e; have := HIn.out.1 e; omega))
              clear h2
              go_wp2_with fail
              go_ret
              exact ⟨by rw [HZ.out]; rfl, HB.out⟩
            have a2 : ((p.length : Int) ≤ x) = False := eq_false h2
            by_cases h3 : y < 0
            · have a3 : (y < 0) = True := eq_true h3
              have HZ := Lib.hid (HNk.out (by rw [Bool.eq_false_iff]; intro e; have := HIn.out.1 e; omega))
              clear h3
              go_wp2_with fail
              go_ret
              exact ⟨by rw [HZ.out]; rfl, HB.out⟩
            have a3 : (y < 0) = False := eq_false h3
            by_cases h4 : (p.length : Int) ≤ y
            · have a4 : ((p.length : Int) ≤ y) = True := eq_true h4
              have HZ := Lib.hid (HNk.out (by rw [Bool.eq_false_iff]; intro e; have := HIn.out.1 e; omega))
              clear h4
              go_wp2_with fail
              go_ret
              exact ⟨by rw [HZ.out]; rfl, HB.out⟩
            have a4 : ((p.length : Int) ≤ y) = False := eq_false h4
            have HPk := Lib.hid (HIn.out.2 (by omega))
            clear h1 h2 h3 h4
            obtain ⟨m1, m2, m3, m4⟩ := wnum2 (i := k) (by omega)
            go_wp2_with fail
            clear m1 m2 m3 m4
            refine ⟨⟨k + 1, hks, by rw [Int.natCast_add]; rfl, fun j hj => ?_, HB3.out⟩, by simp [intOf]; omega⟩
            rcases Nat.lt_or_eq_of_le (Nat.le_of_lt_succ hj) with h | rfl
            · exact HG.out j h
            · exact HPk.out
        · obtain rfl : k = s := by omega
          have b2 : ((k : Int) < (k : Int)) = False := eq_false (by omega)
          have HZ := Lib.hid (HYes.out ⟨by omega, by have := HN.out; omega, by have := HM.out; omega, HS.out, fun j hj => by
            have := HG.out j (by have := HSm.out; have := HN.out; omega)
            rwa [pget_left5 hj] at this, fun j hj => by
            have := HG.out (l.length + j) (by have := HSm.out; have := HN.out; have := HM.out; omega)
            rwa [pget_right5 (by omega), Nat.add_sub_cancel_left] at this⟩)
          go_wp2_with fail
          go_ret
          exact ⟨by rw [HZ.out]; rfl, HBy.out⟩
end Go.Proofs.YtdpbmkfgolemjaaDoor

/-
  The document's Copy of an input.
-/
namespace Go.Proofs.YtdpbmkfgolemjaaDoor
open Go.RowKit

/-- append of a row to nothing -/
theorem app_row5 {ops : Array Oper} {rest : List Oper} {o : Oper} {a : Act} {Q : Exit → Act → World → Prop} {T TS : TypeId} {W : World} {L : List (Int × Int)} {m c : Nat} {ao : Option Addr} (hgd : o.guard = none) (hu : Tryd.prog.underlying TS = some (.slice T)) (hi : (Tryd.prog.info? T).map (fun i => (i.zero, i.size, i.bytes)) = some (some (.agg #[.int .i64 0, .int .i64 0]), 2, 16)) (s x : Operand)
    (ho : o.op = .call { callee := .builtin .append, args := #[s, x], argTypes := #[TS, TS] }) (hs : a.eval s = .slice none 0 0) (hx : a.eval x = .slice ao m c) (hm : m = L.length) (hL : PtRow5 W ao L) (hn : ao = none → c = 0)
    (hlen : L.length ≤ 1000000) (h : ∀ v' W', W'.ownsRow W.heap.size T 2 v' L.length (pv5 L) → Below W.heap.size W W' → wpList Tryd.prog ops Q rest (a.put o.dst v') W') : wpList Tryd.prog ops Q (o :: rest) a W :=
  wpList_plain hgd fun _ hK => by
    obtain ⟨e0, hi0, hz0, hz1, hz2⟩ := info_parts hi
    have hO : W.ownsRow W.heap.size T 2 (.slice none 0 0) 0 [] := World.ownsRow_nil _ _ _ _
    have hg : ∀ W', W.grownBy W' (Value.slice none 0 0).ownBlock → Below W.heap.size W W' := fun W' h => (Below.refl _ W).grown h (Nat.le_refl _) (fun k e => by cases e)
    subst hm
    cases ao with
    | some ad =>
      rcases L with _ | ⟨y, ys⟩
      · refine wp_append_own W s x TS ho W.heap.size T e0 (.agg #[.int .i64 0, .int .i64 0]) 2 16 hu hi0 hz0 hz1 hz2 rfl (by decide) _ _ _ hs hO ad 0 c [] hx rfl (fun j u h => by simp at h) (fun u h => by simp at h) (by unfold maxLen; omega) (by omega) (Nat.le_refl _) fun v' W' ho hg' _ => hK _ _ (h v' W' ?_ (hg W' hg'))
        exact ho
      · obtain ⟨g, o', e⟩ := hL.some (Nat.succ_pos _)
        cases e
        refine wp_append_own W s x TS ho W.heap.size T e0 (.agg #[.int .i64 0, .int .i64 0]) 2 16 hu hi0 hz0 hz1 hz2 rfl (by decide) _ _ _ hs hO _ _ c (pv5 (y :: ys)) hx (pv_len5 _) (pv_cells5 hL) (pv_one5 _) (by unfold maxLen; omega) (by omega) (Nat.le_refl _) fun v' W' ho hg' _ => hK _ _ (h v' W' ?_ (hg W' hg'))
        rw [Nat.zero_add, List.nil_append] at ho
        exact ho
    | none =>
      obtain rfl := hn rfl
      rcases L with _ | ⟨y, ys⟩
      · have hrun := run_append_owned_none (P := Tryd.prog) (w := W) W.heap.size TS o.type T e0 2 hu hi0 _ _ _ hO
        have h' := hK _ _ (h (.slice none 0 0) W hO (Below.refl _ _))
        unfold Oper.wp
        simp only [List.length_nil] at hx
        simp [execOp, ho, resolve, invoke, builtin, hs, hx, hrun, Result.andThen]
        exact h'
      · obtain ⟨g, o', e⟩ := hL.some (Nat.succ_pos _)
        cases e
theorem own_at5 {T : TypeId} {B : Nat} {W W' : World} {v : Value} {l : List (Int × Int)} (h : W.ownsRow B T 2 v l.length (pv5 l)) (hb : Below W.heap.size W W') : W'.ownsRow B T 2 v l.length (pv5 l) :=
  own_below5 h ⟨hb.os, hb.tape, hb.output, hb.size, fun k hk _ => hb.block k hk⟩ (P := fun _ => False) (fun _ _ _ => id)
theorem own_set5 {T : TypeId} {B : Nat} {W : World} {v : Value} {l : List (Int × Int)} (h : W.ownsRow B T 2 v l.length (pv5 l)) (p : Addr) (hp : p.block < B) (u : Value) : (W.setCell p u).ownsRow B T 2 v l.length (pv5 l) :=
  own_below5 h ((Chg5.refl (· = p.block) W).set p u (.inl rfl)) (fun k hk _ e => by omega)
theorem own_mono6 {T : TypeId} {B B' : Nat} {W : World} {v : Value} {n : Nat} {l : List Value} (h : W.ownsRow B T 2 v n l) (hB : B' ≤ B) : W.ownsRow B' T 2 v n l := by
  refine ⟨h.1, ?_⟩
  rcases h.2 with h | ⟨g, cap, cur, e, hb, rest⟩
  · exact .inl h
  · exact .inr ⟨g, cap, cur, e, Nat.le_trans hB hb, rest⟩
set_option maxHeartbeats 8000000 in
set_option maxRecDepth 100000 in
theorem copy_l5 (p l i : List (Int × Int)) (ap al ai : Option Addr) (cp cl ci : Nat) (w : World) (hA : Pol5 w ap al ai cp cl ci p l i) :
    Calls Tryd.prog 12 #[.agg #[.slice ap p.length cp, .slice al l.length cl, .slice ai i.length ci]] w fun e W => ∃ vp vl vi, e = .returned (.agg #[vp, vl, vi]) ∧
      W.ownsRow w.heap.size 43 2 vp p.length (pv5 p) ∧ W.ownsRow w.heap.size 62 2 vl l.length (pv5 l) ∧ W.ownsRow w.heap.size 62 2 vi i.length (pv5 i) ∧ Below w.heap.size w W := by
  have HA := Lib.hid hA
  clear hA
  go_enter Tryd.func12, Tryd.ntmps12
  go_upto_region 2 with (fail)
  obtain ⟨g1, hg1⟩ : ∃ g, w.heap.size = g := ⟨_, rfl⟩
  obtain ⟨g2, hg2⟩ : ∃ g, g = w.heap.size + 1 := ⟨_, rfl⟩
  obtain ⟨g3, hg3⟩ : ∃ g, g = w.heap.size + 1 + 1 := ⟨_, rfl⟩
  refine wp_abs (fun V => Below w.heap.size w V ∧ Var V g1 [.slice ap p.length cp, .slice al l.length cl, .slice ai i.length ci] ∧ Var V g2 [.slice none 0 0, .slice none 0 0, .slice none 0 0] ∧ Var V g3 [.slice none 0 0, .slice none 0 0, .slice none 0 0]) ?_ ?_
  · exact ⟨by repeat (first | (with_reducible exact Below.refl _ _) | (with_reducible refine bl_alloc ?_ _) | (with_reducible refine Below.drew ?_) | (with_reducible refine below_drewN' ?_ _) | ((with_reducible refine bl_set ?_ ?_ _); (rotate_left; (dsimp only; omega)))), ((var3o_new _ _ _ _ _ _ hg1.symm).below (bl_one _ _)).below (bl_one _ _), (var3o_new _ _ _ _ _ _ (by simp [hg2])).below (bl_one _ _), var3o_new _ _ _ _ _ _ (by simp [hg3])⟩
  rintro W1 hS
  have HS := Lib.hid hS
  rw [← hg3, ← hg2, hg1]
  have HG : Hid (g1 = w.heap.size ∧ g2 = w.heap.size + 1 ∧ g3 = w.heap.size + 1 + 1) := ⟨hg1.symm, hg2, hg3⟩
  clear hS hg1 hg2 hg3
  obtain ⟨k0, k1, k2⟩ := HS.out.2.1.three6
  obtain ⟨x0, x1, x2⟩ := HS.out.2.2.2.three6
  have hg3l := HS.out.2.2.2.lt
  go_wp2_with (at_builtin; refine app_row5 rfl Tryd.underlying22 info_point5 _ _ rfl rfl rfl rfl (HA.out.pp.below HS.out.1) HA.out.nilP (by have := HA.out.lenP; omega) ?_)
  intro u w2 hown hb2
  obtain ⟨up, dp, rfl, -⟩ := own_row5 hown
  have HO := Lib.hid (own_mono6 hown (show g3 + 1 ≤ _ by exact hg3l))
  have HB2 := Lib.hid (bl_trans HS.out.1 hb2)
  have HV1 := Lib.hid (HS.out.2.1.below hb2)
  have HV2 := Lib.hid (HS.out.2.2.1.below hb2)
  have HV3 := Lib.hid (HS.out.2.2.2.below hb2)
  clear hown hb2 k0 k1 k2 x0 x1 x2 hg3l
  obtain ⟨x0, x1, x2⟩ := HV3.out.three6
  obtain ⟨y0, y1, y2⟩ := HV3.out.free36
  go_upto_region 3 with (fail)
  refine wp_abs (fun V => Below w.heap.size w V ∧ Var V g1 [.slice ap p.length cp, .slice al l.length cl, .slice ai i.length ci] ∧ Var V g2 [.slice none 0 0, .slice none 0 0, .slice none 0 0] ∧ Var V g3 [.slice up p.length dp, .slice none 0 0, .slice none 0 0] ∧ V.ownsRow (g3 + 1) 43 2 (.slice up p.length dp) p.length (pv5 p)) ?_ ?_
  · refine ⟨bl_set HB2.out (by dsimp only; have := HG.out; omega) _, HV1.out.far (by dsimp only; have := HG.out; omega) _, HV2.out.far (by dsimp only; have := HG.out; omega) _, (HV3.out.put6 (.slice up p.length dp)).1, own_set5 HO.out _ (by dsimp only; omega) _⟩
  rintro W5 hS
  replace HS := Lib.hid hS
  clear hS HO HB2 HV1 HV2 HV3 x0 x1 x2 y0 y1 y2
  obtain ⟨k0, k1, k2⟩ := HS.out.2.1.three6
  obtain ⟨x0, x1, x2⟩ := HS.out.2.2.2.1.three6
  have hg3l := HS.out.2.2.2.1.lt
  go_wp2_with (at_builtin; refine app_row5 rfl Tryd.underlying23 info_eseg5 _ _ rfl rfl rfl rfl (HA.out.ll.below HS.out.1) HA.out.nilL (by have := HA.out.lenL; omega) ?_)
  intro u w2 hown hb2
  obtain ⟨ul, dl, rfl, -⟩ := own_row5 hown
  have HO := Lib.hid (own_mono6 hown (show g3 + 1 ≤ _ by exact hg3l))
  have HB2 := Lib.hid (bl_trans HS.out.1 hb2)
  have HV1 := Lib.hid (HS.out.2.1.below hb2)
  have HV2 := Lib.hid (HS.out.2.2.1.below hb2)
  have HV3 := Lib.hid (HS.out.2.2.2.1.below hb2)
  have HK0 := Lib.hid (own_at5 HS.out.2.2.2.2 hb2)
  clear hown hb2 k0 k1 k2 x0 x1 x2 hg3l
  obtain ⟨x0, x1, x2⟩ := HV3.out.three6
  obtain ⟨y0, y1, y2⟩ := HV3.out.free36
  go_upto_region 4 with (fail)
  refine wp_abs (fun V => Below w.heap.size w V ∧ Var V g1 [.slice ap p.length cp, .slice al l.length cl, .slice ai i.length ci] ∧ Var V g2 [.slice none 0 0, .slice none 0 0, .slice none 0 0] ∧ Var V g3 [.slice up p.length dp, .slice ul l.length dl, .slice none 0 0] ∧ V.ownsRow (g3 + 1) 43 2 (.slice up p.length dp) p.length (pv5 p) ∧ V.ownsRow (g3 + 1) 62 2 (.slice ul l.length dl) l.length (pv5 l)) ?_ ?_
  · refine ⟨bl_set HB2.out (by dsimp only; have := HG.out; omega) _, HV1.out.far (by dsimp only; have := HG.out; omega) _, HV2.out.far (by dsimp only; have := HG.out; omega) _, (HV3.out.put6 (.slice ul l.length dl)).2.1, own_set5 HK0.out _ (by dsimp only; omega) _, own_set5 HO.out _ (by dsimp only; omega) _⟩
  rintro W6 hS
  replace HS := Lib.hid hS
  clear hS HO HB2 HV1 HV2 HV3 x0 x1 x2 y0 y1 y2 HK0
  obtain ⟨k0, k1, k2⟩ := HS.out.2.1.three6
  obtain ⟨x0, x1, x2⟩ := HS.out.2.2.2.1.three6
  have hg3l := HS.out.2.2.2.1.lt
  go_wp2_with (at_builtin; refine app_row5 rfl Tryd.underlying23 info_eseg5 _ _ rfl rfl rfl rfl (HA.out.ii.below HS.out.1) HA.out.nilI (by have := HA.out.lenI; omega) ?_)
  intro u w2 hown hb2
  obtain ⟨ui, di, rfl, -⟩ := own_row5 hown
  have HO := Lib.hid (own_mono6 hown (show g3 + 1 ≤ _ by exact hg3l))
  have HB2 := Lib.hid (bl_trans HS.out.1 hb2)
  have HV1 := Lib.hid (HS.out.2.1.below hb2)
  have HV2 := Lib.hid (HS.out.2.2.1.below hb2)
  have HV3 := Lib.hid (HS.out.2.2.2.1.below hb2)
  have HK0 := Lib.hid (own_at5 HS.out.2.2.2.2.1 hb2)
  have HK1 := Lib.hid (own_at5 HS.out.2.2.2.2.2 hb2)
  clear hown hb2 k0 k1 k2 x0 x1 x2 hg3l
  obtain ⟨x0, x1, x2⟩ := HV3.out.three6
  obtain ⟨y0, y1, y2⟩ := HV3.out.free36
  go_upto_region 5 with (fail)
  refine wp_abs (fun V => Below w.heap.size w V ∧ Var V g1 [.slice ap p.length cp, .slice al l.length cl, .slice ai i.length ci] ∧ Var V g2 [.slice none 0 0, .slice none 0 0, .slice none 0 0] ∧ Var V g3 [.slice up p.length dp, .slice ul l.length dl, .slice ui i.length di] ∧ V.ownsRow (g3 + 1) 43 2 (.slice up p.length dp) p.length (pv5 p) ∧ V.ownsRow (g3 + 1) 62 2 (.slice ul l.length dl) l.length (pv5 l) ∧ V.ownsRow (g3 + 1) 62 2 (.slice ui i.length di) i.length (pv5 i)) ?_ ?_
  · refine ⟨bl_set HB2.out (by dsimp only; have := HG.out; omega) _, HV1.out.far (by dsimp only; have := HG.out; omega) _, HV2.out.far (by dsimp only; have := HG.out; omega) _, (HV3.out.put6 (.slice ui i.length di)).2.2, own_set5 HK0.out _ (by dsimp only; omega) _, own_set5 HK1.out _ (by dsimp only; omega) _, own_set5 HO.out _ (by dsimp only; omega) _⟩
  rintro W7 hS
  replace HS := Lib.hid hS
  clear hS HO HB2 HV1 HV2 HV3 x0 x1 x2 y0 y1 y2 HK0 HK1
  obtain ⟨x0, x1, x2⟩ := HS.out.2.2.2.1.three6
  obtain ⟨z0, z1, z2⟩ := HS.out.2.2.1.three6
  obtain ⟨y0, y1, y2⟩ := HS.out.2.2.1.free36
  go_wp2_with fail
  obtain ⟨e0, e1, e2⟩ := (HS.out.2.2.1.set3_6 (.slice up p.length dp) (.slice ul l.length dl) (.slice ui i.length di)).three6
  refine bodyPost_ret (v := .agg #[.slice up p.length dp, .slice ul l.length dl, .slice ui i.length di]) (by simp [results, Tryd.results12, go_sem, e0, e1, e2]; done) rfl ⟨_, _, _, rfl, ?_, ?_, ?_, ?_⟩
  · exact own_mono6 (own_set5 (own_set5 (own_set5 HS.out.2.2.2.2.1 _ (by dsimp only; have := HG.out; omega) _) _ (by dsimp only; have := HG.out; omega) _) _ (by dsimp only; have := HG.out; omega) _) (by have := HG.out; omega)
  · exact own_mono6 (own_set5 (own_set5 (own_set5 HS.out.2.2.2.2.2.1 _ (by dsimp only; have := HG.out; omega) _) _ (by dsimp only; have := HG.out; omega) _) _ (by dsimp only; have := HG.out; omega) _) (by have := HG.out; omega)
  · exact own_mono6 (own_set5 (own_set5 (own_set5 HS.out.2.2.2.2.2.2 _ (by dsimp only; have := HG.out; omega) _) _ (by dsimp only; have := HG.out; omega) _) _ (by dsimp only; have := HG.out; omega) _) (by have := HG.out; omega)
  · exact bl_set (bl_set (bl_set HS.out.1 (by dsimp only; have := HG.out; omega) _) (by dsimp only; have := HG.out; omega) _) (by dsimp only; have := HG.out; omega) _
end Go.Proofs.YtdpbmkfgolemjaaDoor

/-
  The document's SamePoints, SameSegs.
-/
namespace Go.Proofs.YtdpbmkfgolemjaaDoor
open Go.RowKit

set_option maxHeartbeats 8000000 in
set_option maxRecDepth 100000 in
theorem samePts_l5 (l m : List (Int × Int)) (hl : l.length ≤ 10000) (hm : m.length ≤ 10000) (a1 a2 : Option Addr) (c1 c2 : Nat) (w : World) (h1 : PtRow5 w a1 l) (h2 : PtRow5 w a2 m) :
    Calls Tryd.prog 29 #[.slice a1 l.length c1, .slice a2 m.length c2] w (Gives (.bool (decide (l = m))) w) := by
  have H1 := Lib.hid h1
  have H2 := Lib.hid h2
  have HLn := Lib.hid (And.intro hl hm)
  obtain ⟨R, hR⟩ : ∃ R, decide (l = m) = R := ⟨_, rfl⟩
  rw [hR]
  have HR := Lib.hid hR
  clear h1 h2 hl hm hR
  go_enter Tryd.func29, Tryd.ntmps29
  by_cases hlm : l.length = m.length
  · have HLM := Lib.hid hlm
    have b0 : ((l.length : Int) != (m.length : Int)) = false := by rw [hlm]; simp
    have b1 : ((l.length : Int) = (m.length : Int)) = True := eq_true (by omega)
    go_wp2_with fail
    clear b0 b1 hlm
    go_loopw [5] (fun iv W => ∃ k : Nat, k ≤ l.length ∧ iv = .int .i64 k ∧ (∀ j, j < k → pget5 l j = pget5 m j) ∧ Below w.heap.size w W) (fun iv _ => l.length - (intOf iv).toNat)
    case atStart => exact ⟨0, Nat.zero_le _, rfl, fun j hj => absurd hj (Nat.not_lt_zero _), Below.refl _ _⟩
    case round =>
      obtain ⟨k, hk, rfl, hE, hB⟩ := hrel
      have HB := Lib.hid hB
      have HEQ := Lib.hid hE
      clear hB hE
      obtain ⟨W2, eW⟩ : ∃ W2, W2 = wr := ⟨_, rfl⟩
      subst eW
      by_cases hlt : k < l.length
      · have hlt2 : k < m.length := by have := HLM.out; omega
        have b2 : ((k : Int) < (l.length : Int)) = True := eq_true (by omega)
        have b3 : ((k : Int) < (m.length : Int)) = True := eq_true (by omega)
        have d1 : (k < l.length) = True := eq_true hlt
        have d2 : (k < m.length) = True := eq_true hlt2
        have e2 : ((0 : Int) ≤ (k : Int)) = True := eq_true (by omega)
        obtain ⟨g1, o1, rfl⟩ := H1.out.some (by omega)
        obtain ⟨g2, o2, rfl⟩ := H2.out.some (by omega)
        obtain ⟨⟨x, y⟩, hq⟩ : ∃ q, pget5 l k = q := ⟨_, rfl⟩
        obtain ⟨⟨x2, y2⟩, hq2⟩ : ∃ q, pget5 m k = q := ⟨_, rfl⟩
        have HQ := Lib.hid hq
        have HQ2 := Lib.hid hq2
        have hln := HLn.out.1
        have HNX : Hid (pget5 l k ≠ pget5 m k → R = false) := fun h => by
          rw [← HR.out]
          exact decide_eq_false (fun e => h (by rw [e]))
        clear hq hq2
        by_cases hx : x = x2
        · subst hx
          by_cases hy : y = y2
          · subst hy
            go_upto_region 6 with (fail)
            refine wp_region_held_drew (S := fun V => Below W2.heap.size W2 V) (by kernel_rfl) ?_ (fun hHeld => ?_)
            · exact bel_drew W2
            revert hHeld
            generalize World.drew _ = W1
            intro hHeld 
            refine wpAnyH_take (i := 0) (v := ?_) rfl (by kernel_rfl) (by kernel_rfl) (by kernel_rfl) (fun _ _ _ h => h) (Or.inl ⟨by rfl, ?_⟩) (by assumption) ?_
            rotate_left
            · intro Wq hSw
              clear hSw
              go_simp
              all_goals (with_reducible rfl)
            try simp only [Act.put, List.getElem_toArray, List.getElem_cons_zero, List.setIfInBounds_toArray, List.set_cons_zero, List.set_cons_succ]
            refine wpAnyH_take (i := 1) (v := ?_) rfl (by kernel_rfl) (by kernel_rfl) (by kernel_rfl) (fun _ _ _ h => h) (Or.inl ⟨by rfl, ?_⟩) (by assumption) ?_
            rotate_left
            · intro Wq hSw
              clear hSw
              go_simp
              all_goals (with_reducible rfl)
            try simp only [Act.put, List.getElem_toArray, List.getElem_cons_succ, List.getElem_cons_zero, List.setIfInBounds_toArray, List.set_cons_zero, List.set_cons_succ]
            refine wpAnyH_take (i := 2) (v := ?_) rfl (by kernel_rfl) (by kernel_rfl) (by kernel_rfl) (fun _ _ _ h => h) (Or.inl ⟨by rfl, ?_⟩) (by assumption) ?_
            rotate_left
            · intro Wq hSw
              clear hSw
              go_simp
              all_goals (with_reducible rfl)
            try simp only [Act.put, List.getElem_toArray, List.getElem_cons_succ, List.getElem_cons_zero, List.setIfInBounds_toArray, List.set_cons_zero, List.set_cons_succ]
            refine wpAnyH_take (i := 3) (v := ?_) rfl (by kernel_rfl) (by kernel_rfl) (by kernel_rfl) (fun _ _ _ h => h) (Or.inl ⟨by rfl, ?_⟩) (by assumption) ?_
            rotate_left
            · intro Wq hSw
              obtain ⟨c0, c1⟩ := ptRow_at5 (H1.out.below (bl_trans HB.out hSw)) hlt HQ.out
              dsimp only at c0 c1
              clear hSw
              go_simp
              all_goals (with_reducible rfl)
            try simp only [Act.put, List.getElem_toArray, List.getElem_cons_succ, List.getElem_cons_zero, List.setIfInBounds_toArray, List.set_cons_zero, List.set_cons_succ]
            refine wpAnyH_take (i := 4) (v := ?_) rfl (by kernel_rfl) (by kernel_rfl) (by kernel_rfl) (fun _ _ _ h => h) (Or.inl ⟨by rfl, ?_⟩) (by assumption) ?_
            rotate_left
            · intro Wq hSw
              clear hSw
              go_simp
              all_goals (with_reducible rfl)
            try simp only [Act.put, List.getElem_toArray, List.getElem_cons_succ, List.getElem_cons_zero, List.setIfInBounds_toArray, List.set_cons_zero, List.set_cons_succ]
            refine wpAnyH_take (i := 5) (v := ?_) rfl (by kernel_rfl) (by kernel_rfl) (by kernel_rfl) (fun _ _ _ h => h) (Or.inl ⟨by rfl, ?_⟩) (by assumption) ?_
            rotate_left
            · intro Wq hSw
              clear hSw
              go_simp
              all_goals (with_reducible rfl)
            try simp only [Act.put, List.getElem_toArray, List.getElem_cons_succ, List.getElem_cons_zero, List.setIfInBounds_toArray, List.set_cons_zero, List.set_cons_succ]
            refine wpAnyH_take (i := 6) (v := ?_) rfl (by kernel_rfl) (by kernel_rfl) (by kernel_rfl) (fun _ _ _ h => h) (Or.inl ⟨by rfl, ?_⟩) (by assumption) ?_
            rotate_left
            · intro Wq hSw
              clear hSw
              go_simp
              all_goals (with_reducible rfl)
            try simp only [Act.put, List.getElem_toArray, List.getElem_cons_succ, List.getElem_cons_zero, List.setIfInBounds_toArray, List.set_cons_zero, List.set_cons_succ]
            refine wpAnyH_take (i := 7) (v := ?_) rfl (by kernel_rfl) (by kernel_rfl) (by kernel_rfl) (fun _ _ _ h => h) (Or.inl ⟨by rfl, ?_⟩) (by assumption) ?_
            rotate_left
            · intro Wq hSw
              obtain ⟨d0, d1⟩ := ptRow_at5 (H2.out.below (bl_trans HB.out hSw)) hlt2 HQ2.out
              dsimp only at d0 d1
              clear hSw
              go_simp
              all_goals (with_reducible rfl)
            try simp only [Act.put, List.getElem_toArray, List.getElem_cons_succ, List.getElem_cons_zero, List.setIfInBounds_toArray, List.set_cons_zero, List.set_cons_succ]
            refine wpAnyH_take (i := 8) (v := ?_) rfl (by kernel_rfl) (by kernel_rfl) (by kernel_rfl) (fun _ _ _ h => h) (Or.inl ⟨by rfl, ?_⟩) (by assumption) ?_
            rotate_left
            · intro Wq hSw
              clear hSw
              go_simp
              all_goals (with_reducible rfl)
            try simp only [Act.put, List.getElem_toArray, List.getElem_cons_succ, List.getElem_cons_zero, List.setIfInBounds_toArray, List.set_cons_zero, List.set_cons_succ]
            refine wpAnyH_done (by kernel_rfl) ?_ _
            replace HB := Lib.hid (bl_trans HB.out hHeld)
            clear hHeld
            obtain ⟨m1, m2, m3, m4⟩ := wnum2 (i := k) (by omega)
            go_wp2_with fail
            clear m1 m2 m3 m4
            refine ⟨⟨k + 1, hlt, by rw [Int.natCast_add]; rfl, fun j hj => ?_, HB.out⟩, by simp [intOf]; omega⟩
            rcases Nat.lt_or_eq_of_le (Nat.le_of_lt_succ hj) with h | rfl
            · exact HEQ.out j h
            · rw [HQ.out, HQ2.out]
          · have HNE := Lib.hid (HNX.out (by rw [HQ.out, HQ2.out]; intro e; exact hy (Prod.mk.inj e).2))
            have y1 : (y == y2) = false := beq_eq_false_iff_ne.2 hy
            have y3 : (y = y2) = False := eq_false hy
            clear hy
            go_upto_region 6 with (fail)
            refine wp_region_held_drew (S := fun V => Below W2.heap.size W2 V) (by kernel_rfl) ?_ (fun hHeld => ?_)
            · exact bel_drew W2
            revert hHeld
            generalize World.drew _ = W1
            intro hHeld 
            refine wpAnyH_take (i := 0) (v := ?_) rfl (by kernel_rfl) (by kernel_rfl) (by kernel_rfl) (fun _ _ _ h => h) (Or.inl ⟨by rfl, ?_⟩) (by assumption) ?_
            rotate_left
            · intro Wq hSw
              clear hSw
              go_simp
              all_goals (with_reducible rfl)
            try simp only [Act.put, List.getElem_toArray, List.getElem_cons_zero, List.setIfInBounds_toArray, List.set_cons_zero, List.set_cons_succ]
            refine wpAnyH_take (i := 1) (v := ?_) rfl (by kernel_rfl) (by kernel_rfl) (by kernel_rfl) (fun _ _ _ h => h) (Or.inl ⟨by rfl, ?_⟩) (by assumption) ?_
            rotate_left
            · intro Wq hSw
              clear hSw
              go_simp
              all_goals (with_reducible rfl)
            try simp only [Act.put, List.getElem_toArray, List.getElem_cons_succ, List.getElem_cons_zero, List.setIfInBounds_toArray, List.set_cons_zero, List.set_cons_succ]
            refine wpAnyH_take (i := 2) (v := ?_) rfl (by kernel_rfl) (by kernel_rfl) (by kernel_rfl) (fun _ _ _ h => h) (Or.inl ⟨by rfl, ?_⟩) (by assumption) ?_
            rotate_left
            · intro Wq hSw
              clear hSw
              go_simp
              all_goals (with_reducible rfl)
            try simp only [Act.put, List.getElem_toArray, List.getElem_cons_succ, List.getElem_cons_zero, List.setIfInBounds_toArray, List.set_cons_zero, List.set_cons_succ]
            refine wpAnyH_take (i := 3) (v := ?_) rfl (by kernel_rfl) (by kernel_rfl) (by kernel_rfl) (fun _ _ _ h => h) (Or.inl ⟨by rfl, ?_⟩) (by assumption) ?_
            rotate_left
            · intro Wq hSw
              obtain ⟨c0, c1⟩ := ptRow_at5 (H1.out.below (bl_trans HB.out hSw)) hlt HQ.out
              dsimp only at c0 c1
              clear hSw
              go_simp
              all_goals (with_reducible rfl)
            try simp only [Act.put, List.getElem_toArray, List.getElem_cons_succ, List.getElem_cons_zero, List.setIfInBounds_toArray, List.set_cons_zero, List.set_cons_succ]
            refine wpAnyH_take (i := 4) (v := ?_) rfl (by kernel_rfl) (by kernel_rfl) (by kernel_rfl) (fun _ _ _ h => h) (Or.inl ⟨by rfl, ?_⟩) (by assumption) ?_
            rotate_left
            · intro Wq hSw
              clear hSw
              go_simp
              all_goals (with_reducible rfl)
            try simp only [Act.put, List.getElem_toArray, List.getElem_cons_succ, List.getElem_cons_zero, List.setIfInBounds_toArray, List.set_cons_zero, List.set_cons_succ]
            refine wpAnyH_take (i := 5) (v := ?_) rfl (by kernel_rfl) (by kernel_rfl) (by kernel_rfl) (fun _ _ _ h => h) (Or.inl ⟨by rfl, ?_⟩) (by assumption) ?_
            rotate_left
            · intro Wq hSw
              clear hSw
              go_simp
              all_goals (with_reducible rfl)
            try simp only [Act.put, List.getElem_toArray, List.getElem_cons_succ, List.getElem_cons_zero, List.setIfInBounds_toArray, List.set_cons_zero, List.set_cons_succ]
            refine wpAnyH_take (i := 6) (v := ?_) rfl (by kernel_rfl) (by kernel_rfl) (by kernel_rfl) (fun _ _ _ h => h) (Or.inl ⟨by rfl, ?_⟩) (by assumption) ?_
            rotate_left
            · intro Wq hSw
              clear hSw
              go_simp
              all_goals (with_reducible rfl)
            try simp only [Act.put, List.getElem_toArray, List.getElem_cons_succ, List.getElem_cons_zero, List.setIfInBounds_toArray, List.set_cons_zero, List.set_cons_succ]
            refine wpAnyH_take (i := 7) (v := ?_) rfl (by kernel_rfl) (by kernel_rfl) (by kernel_rfl) (fun _ _ _ h => h) (Or.inl ⟨by rfl, ?_⟩) (by assumption) ?_
            rotate_left
            · intro Wq hSw
              obtain ⟨d0, d1⟩ := ptRow_at5 (H2.out.below (bl_trans HB.out hSw)) hlt2 HQ2.out
              dsimp only at d0 d1
              clear hSw
              go_simp
              all_goals (with_reducible rfl)
            try simp only [Act.put, List.getElem_toArray, List.getElem_cons_succ, List.getElem_cons_zero, List.setIfInBounds_toArray, List.set_cons_zero, List.set_cons_succ]
            refine wpAnyH_take (i := 8) (v := ?_) rfl (by kernel_rfl) (by kernel_rfl) (by kernel_rfl) (fun _ _ _ h => h) (Or.inl ⟨by rfl, ?_⟩) (by assumption) ?_
            rotate_left
            · intro Wq hSw
              clear hSw
              go_simp
              all_goals (with_reducible rfl)
            try simp only [Act.put, List.getElem_toArray, List.getElem_cons_succ, List.getElem_cons_zero, List.setIfInBounds_toArray, List.set_cons_zero, List.set_cons_succ]
            refine wpAnyH_done (by kernel_rfl) ?_ _
            replace HB := Lib.hid (bl_trans HB.out hHeld)
            clear hHeld
            go_wp2_with fail
            go_ret
            exact ⟨by rw [HNE.out]; rfl, HB.out⟩
        · have HNE := Lib.hid (HNX.out (by rw [HQ.out, HQ2.out]; intro e; exact hx (Prod.mk.inj e).1))
          have y1 : (x == x2) = false := beq_eq_false_iff_ne.2 hx
          have y3 : (x = x2) = False := eq_false hx
          clear hx
          go_upto_region 6 with (fail)
          refine wp_region_held_drew (S := fun V => Below W2.heap.size W2 V) (by kernel_rfl) ?_ (fun hHeld => ?_)
          · exact bel_drew W2
          revert hHeld
          generalize World.drew _ = W1
          intro hHeld 
          refine wpAnyH_take (i := 0) (v := ?_) rfl (by kernel_rfl) (by kernel_rfl) (by kernel_rfl) (fun _ _ _ h => h) (Or.inl ⟨by rfl, ?_⟩) (by assumption) ?_
          rotate_left
          · intro Wq hSw
            clear hSw
            go_simp
            all_goals (with_reducible rfl)
          try simp only [Act.put, List.getElem_toArray, List.getElem_cons_zero, List.setIfInBounds_toArray, List.set_cons_zero, List.set_cons_succ]
          refine wpAnyH_take (i := 1) (v := ?_) rfl (by kernel_rfl) (by kernel_rfl) (by kernel_rfl) (fun _ _ _ h => h) (Or.inl ⟨by rfl, ?_⟩) (by assumption) ?_
          rotate_left
          · intro Wq hSw
            clear hSw
            go_simp
            all_goals (with_reducible rfl)
          try simp only [Act.put, List.getElem_toArray, List.getElem_cons_succ, List.getElem_cons_zero, List.setIfInBounds_toArray, List.set_cons_zero, List.set_cons_succ]
          refine wpAnyH_take (i := 2) (v := ?_) rfl (by kernel_rfl) (by kernel_rfl) (by kernel_rfl) (fun _ _ _ h => h) (Or.inl ⟨by rfl, ?_⟩) (by assumption) ?_
          rotate_left
          · intro Wq hSw
            clear hSw
            go_simp
            all_goals (with_reducible rfl)
          try simp only [Act.put, List.getElem_toArray, List.getElem_cons_succ, List.getElem_cons_zero, List.setIfInBounds_toArray, List.set_cons_zero, List.set_cons_succ]
          refine wpAnyH_take (i := 3) (v := ?_) rfl (by kernel_rfl) (by kernel_rfl) (by kernel_rfl) (fun _ _ _ h => h) (Or.inl ⟨by rfl, ?_⟩) (by assumption) ?_
          rotate_left
          · intro Wq hSw
            obtain ⟨c0, c1⟩ := ptRow_at5 (H1.out.below (bl_trans HB.out hSw)) hlt HQ.out
            dsimp only at c0 c1
            clear hSw
            go_simp
            all_goals (with_reducible rfl)
          try simp only [Act.put, List.getElem_toArray, List.getElem_cons_succ, List.getElem_cons_zero, List.setIfInBounds_toArray, List.set_cons_zero, List.set_cons_succ]
          refine wpAnyH_take (i := 4) (v := ?_) rfl (by kernel_rfl) (by kernel_rfl) (by kernel_rfl) (fun _ _ _ h => h) (Or.inl ⟨by rfl, ?_⟩) (by assumption) ?_
          rotate_left
          · intro Wq hSw
            clear hSw
            go_simp
            all_goals (with_reducible rfl)
          try simp only [Act.put, List.getElem_toArray, List.getElem_cons_succ, List.getElem_cons_zero, List.setIfInBounds_toArray, List.set_cons_zero, List.set_cons_succ]
          refine wpAnyH_take (i := 5) (v := ?_) rfl (by kernel_rfl) (by kernel_rfl) (by kernel_rfl) (fun _ _ _ h => h) (Or.inl ⟨by rfl, ?_⟩) (by assumption) ?_
          rotate_left
          · intro Wq hSw
            clear hSw
            go_simp
            all_goals (with_reducible rfl)
          try simp only [Act.put, List.getElem_toArray, List.getElem_cons_succ, List.getElem_cons_zero, List.setIfInBounds_toArray, List.set_cons_zero, List.set_cons_succ]
          refine wpAnyH_take (i := 6) (v := ?_) rfl (by kernel_rfl) (by kernel_rfl) (by kernel_rfl) (fun _ _ _ h => h) (Or.inl ⟨by rfl, ?_⟩) (by assumption) ?_
          rotate_left
          · intro Wq hSw
            clear hSw
            go_simp
            all_goals (with_reducible rfl)
          try simp only [Act.put, List.getElem_toArray, List.getElem_cons_succ, List.getElem_cons_zero, List.setIfInBounds_toArray, List.set_cons_zero, List.set_cons_succ]
          refine wpAnyH_take (i := 7) (v := ?_) rfl (by kernel_rfl) (by kernel_rfl) (by kernel_rfl) (fun _ _ _ h => h) (Or.inl ⟨by rfl, ?_⟩) (by assumption) ?_
          rotate_left
          · intro Wq hSw
            obtain ⟨d0, d1⟩ := ptRow_at5 (H2.out.below (bl_trans HB.out hSw)) hlt2 HQ2.out
            dsimp only at d0 d1
            clear hSw
            go_simp
            all_goals (with_reducible rfl)
          try simp only [Act.put, List.getElem_toArray, List.getElem_cons_succ, List.getElem_cons_zero, List.setIfInBounds_toArray, List.set_cons_zero, List.set_cons_succ]
          refine wpAnyH_take (i := 8) (v := ?_) rfl (by kernel_rfl) (by kernel_rfl) (by kernel_rfl) (fun _ _ _ h => h) (Or.inl ⟨by rfl, ?_⟩) (by assumption) ?_
          rotate_left
          · intro Wq hSw
            clear hSw
            go_simp
            all_goals (with_reducible rfl)
          try simp only [Act.put, List.getElem_toArray, List.getElem_cons_succ, List.getElem_cons_zero, List.setIfInBounds_toArray, List.set_cons_zero, List.set_cons_succ]
          refine wpAnyH_done (by kernel_rfl) ?_ _
          replace HB := Lib.hid (bl_trans HB.out hHeld)
          clear hHeld
          go_wp2_with fail
          go_ret
          exact ⟨by rw [HNE.out]; rfl, HB.out⟩
      · obtain rfl : k = l.length := by omega
        have b2 : ((l.length : Int) < (l.length : Int)) = False := eq_false (by omega)
        have HY : Hid (R = true) := by
          unfold Hid
          rw [← HR.out]
          refine decide_eq_true (List.ext_getElem HLM.out (fun j h1 h2 => ?_))
          rw [← pget_at5 h1, ← pget_at5 h2]
          exact HEQ.out j h1
        go_wp2_with fail
        go_ret
        exact ⟨by rw [HY.out]; rfl, HB.out⟩
  · have HNE : Hid (R = false) := by
      unfold Hid
      rw [← HR.out]
      exact decide_eq_false (fun e => hlm (by rw [e]))
    have b0 : ((l.length : Int) != (m.length : Int)) = true := by rw [bne_iff_ne]; omega
    have b1 : ((l.length : Int) = (m.length : Int)) = False := eq_false (by omega)
    have b2 : (l.length = m.length) = False := eq_false hlm
    clear hlm
    go_wp2_with fail
    go_ret
    exact ⟨by rw [HNE.out]; rfl, Below.refl _ _⟩
set_option maxHeartbeats 8000000 in
set_option maxRecDepth 100000 in
theorem sameSegs_l5 (l m : List (Int × Int)) (hl : l.length ≤ 10000) (hm : m.length ≤ 10000) (a1 a2 : Option Addr) (c1 c2 : Nat) (w : World) (h1 : PtRow5 w a1 l) (h2 : PtRow5 w a2 m) :
    Calls Tryd.prog 30 #[.slice a1 l.length c1, .slice a2 m.length c2] w (Gives (.bool (decide (l = m))) w) := by
  have H1 := Lib.hid h1
  have H2 := Lib.hid h2
  have HLn := Lib.hid (And.intro hl hm)
  obtain ⟨R, hR⟩ : ∃ R, decide (l = m) = R := ⟨_, rfl⟩
  rw [hR]
  have HR := Lib.hid hR
  clear h1 h2 hl hm hR
  go_enter Tryd.func30, Tryd.ntmps30
  by_cases hlm : l.length = m.length
  · have HLM := Lib.hid hlm
    have b0 : ((l.length : Int) != (m.length : Int)) = false := by rw [hlm]; simp
    have b1 : ((l.length : Int) = (m.length : Int)) = True := eq_true (by omega)
    go_wp2_with fail
    clear b0 b1 hlm
    go_loopw [5] (fun iv W => ∃ k : Nat, k ≤ l.length ∧ iv = .int .i64 k ∧ (∀ j, j < k → pget5 l j = pget5 m j) ∧ Below w.heap.size w W) (fun iv _ => l.length - (intOf iv).toNat)
    case atStart => exact ⟨0, Nat.zero_le _, rfl, fun j hj => absurd hj (Nat.not_lt_zero _), Below.refl _ _⟩
    case round =>
      obtain ⟨k, hk, rfl, hE, hB⟩ := hrel
      have HB := Lib.hid hB
      have HEQ := Lib.hid hE
      clear hB hE
      obtain ⟨W2, eW⟩ : ∃ W2, W2 = wr := ⟨_, rfl⟩
      subst eW
      by_cases hlt : k < l.length
      · have hlt2 : k < m.length := by have := HLM.out; omega
        have b2 : ((k : Int) < (l.length : Int)) = True := eq_true (by omega)
        have b3 : ((k : Int) < (m.length : Int)) = True := eq_true (by omega)
        have d1 : (k < l.length) = True := eq_true hlt
        have d2 : (k < m.length) = True := eq_true hlt2
        have e2 : ((0 : Int) ≤ (k : Int)) = True := eq_true (by omega)
        obtain ⟨g1, o1, rfl⟩ := H1.out.some (by omega)
        obtain ⟨g2, o2, rfl⟩ := H2.out.some (by omega)
        obtain ⟨⟨x, y⟩, hq⟩ : ∃ q, pget5 l k = q := ⟨_, rfl⟩
        obtain ⟨⟨x2, y2⟩, hq2⟩ : ∃ q, pget5 m k = q := ⟨_, rfl⟩
        have HQ := Lib.hid hq
        have HQ2 := Lib.hid hq2
        have hln := HLn.out.1
        have HNX : Hid (pget5 l k ≠ pget5 m k → R = false) := fun h => by
          rw [← HR.out]
          exact decide_eq_false (fun e => h (by rw [e]))
        clear hq hq2
        by_cases hx : x = x2
        · subst hx
          by_cases hy : y = y2
          · subst hy
            go_upto_region 6 with (fail)
            refine wp_region_held_drew (S := fun V => Below W2.heap.size W2 V) (by kernel_rfl) ?_ (fun hHeld => ?_)
            · exact bel_drew W2
            revert hHeld
            generalize World.drew _ = W1
            intro hHeld 
            refine wpAnyH_take (i := 0) (v := ?_) rfl (by kernel_rfl) (by kernel_rfl) (by kernel_rfl) (fun _ _ _ h => h) (Or.inl ⟨by rfl, ?_⟩) (by assumption) ?_
            rotate_left
            · intro Wq hSw
              clear hSw
              go_simp
              all_goals (with_reducible rfl)
            try simp only [Act.put, List.getElem_toArray, List.getElem_cons_zero, List.setIfInBounds_toArray, List.set_cons_zero, List.set_cons_succ]
            refine wpAnyH_take (i := 1) (v := ?_) rfl (by kernel_rfl) (by kernel_rfl) (by kernel_rfl) (fun _ _ _ h => h) (Or.inl ⟨by rfl, ?_⟩) (by assumption) ?_
            rotate_left
            · intro Wq hSw
              clear hSw
              go_simp
              all_goals (with_reducible rfl)
            try simp only [Act.put, List.getElem_toArray, List.getElem_cons_succ, List.getElem_cons_zero, List.setIfInBounds_toArray, List.set_cons_zero, List.set_cons_succ]
            refine wpAnyH_take (i := 2) (v := ?_) rfl (by kernel_rfl) (by kernel_rfl) (by kernel_rfl) (fun _ _ _ h => h) (Or.inl ⟨by rfl, ?_⟩) (by assumption) ?_
            rotate_left
            · intro Wq hSw
              clear hSw
              go_simp
              all_goals (with_reducible rfl)
            try simp only [Act.put, List.getElem_toArray, List.getElem_cons_succ, List.getElem_cons_zero, List.setIfInBounds_toArray, List.set_cons_zero, List.set_cons_succ]
            refine wpAnyH_take (i := 3) (v := ?_) rfl (by kernel_rfl) (by kernel_rfl) (by kernel_rfl) (fun _ _ _ h => h) (Or.inl ⟨by rfl, ?_⟩) (by assumption) ?_
            rotate_left
            · intro Wq hSw
              obtain ⟨c0, c1⟩ := ptRow_at5 (H1.out.below (bl_trans HB.out hSw)) hlt HQ.out
              dsimp only at c0 c1
              clear hSw
              go_simp
              all_goals (with_reducible rfl)
            try simp only [Act.put, List.getElem_toArray, List.getElem_cons_succ, List.getElem_cons_zero, List.setIfInBounds_toArray, List.set_cons_zero, List.set_cons_succ]
            refine wpAnyH_take (i := 4) (v := ?_) rfl (by kernel_rfl) (by kernel_rfl) (by kernel_rfl) (fun _ _ _ h => h) (Or.inl ⟨by rfl, ?_⟩) (by assumption) ?_
            rotate_left
            · intro Wq hSw
              clear hSw
              go_simp
              all_goals (with_reducible rfl)
            try simp only [Act.put, List.getElem_toArray, List.getElem_cons_succ, List.getElem_cons_zero, List.setIfInBounds_toArray, List.set_cons_zero, List.set_cons_succ]
            refine wpAnyH_take (i := 5) (v := ?_) rfl (by kernel_rfl) (by kernel_rfl) (by kernel_rfl) (fun _ _ _ h => h) (Or.inl ⟨by rfl, ?_⟩) (by assumption) ?_
            rotate_left
            · intro Wq hSw
              clear hSw
              go_simp
              all_goals (with_reducible rfl)
            try simp only [Act.put, List.getElem_toArray, List.getElem_cons_succ, List.getElem_cons_zero, List.setIfInBounds_toArray, List.set_cons_zero, List.set_cons_succ]
            refine wpAnyH_take (i := 6) (v := ?_) rfl (by kernel_rfl) (by kernel_rfl) (by kernel_rfl) (fun _ _ _ h => h) (Or.inl ⟨by rfl, ?_⟩) (by assumption) ?_
            rotate_left
            · intro Wq hSw
              clear hSw
              go_simp
              all_goals (with_reducible rfl)
            try simp only [Act.put, List.getElem_toArray, List.getElem_cons_succ, List.getElem_cons_zero, List.setIfInBounds_toArray, List.set_cons_zero, List.set_cons_succ]
            refine wpAnyH_take (i := 7) (v := ?_) rfl (by kernel_rfl) (by kernel_rfl) (by kernel_rfl) (fun _ _ _ h => h) (Or.inl ⟨by rfl, ?_⟩) (by assumption) ?_
            rotate_left
            · intro Wq hSw
              obtain ⟨d0, d1⟩ := ptRow_at5 (H2.out.below (bl_trans HB.out hSw)) hlt2 HQ2.out
              dsimp only at d0 d1
              clear hSw
              go_simp
              all_goals (with_reducible rfl)
            try simp only [Act.put, List.getElem_toArray, List.getElem_cons_succ, List.getElem_cons_zero, List.setIfInBounds_toArray, List.set_cons_zero, List.set_cons_succ]
            refine wpAnyH_take (i := 8) (v := ?_) rfl (by kernel_rfl) (by kernel_rfl) (by kernel_rfl) (fun _ _ _ h => h) (Or.inl ⟨by rfl, ?_⟩) (by assumption) ?_
            rotate_left
            · intro Wq hSw
              clear hSw
              go_simp
              all_goals (with_reducible rfl)
            try simp only [Act.put, List.getElem_toArray, List.getElem_cons_succ, List.getElem_cons_zero, List.setIfInBounds_toArray, List.set_cons_zero, List.set_cons_succ]
            refine wpAnyH_done (by kernel_rfl) ?_ _
            replace HB := Lib.hid (bl_trans HB.out hHeld)
            clear hHeld
            obtain ⟨m1, m2, m3, m4⟩ := wnum2 (i := k) (by omega)
            go_wp2_with fail
            clear m1 m2 m3 m4
            refine ⟨⟨k + 1, hlt, by rw [Int.natCast_add]; rfl, fun j hj => ?_, HB.out⟩, by simp [intOf]; omega⟩
            rcases Nat.lt_or_eq_of_le (Nat.le_of_lt_succ hj) with h | rfl
            · exact HEQ.out j h
            · rw [HQ.out, HQ2.out]
          · have HNE := Lib.hid (HNX.out (by rw [HQ.out, HQ2.out]; intro e; exact hy (Prod.mk.inj e).2))
            have y1 : (y == y2) = false := beq_eq_false_iff_ne.2 hy
            have y3 : (y = y2) = False := eq_false hy
            clear hy
            go_upto_region 6 with (fail)
            refine wp_region_held_drew (S := fun V => Below W2.heap.size W2 V) (by kernel_rfl) ?_ (fun hHeld => ?_)
            · exact bel_drew W2
            revert hHeld
            generalize World.drew _ = W1
            intro hHeld 
            refine wpAnyH_take (i := 0) (v := ?_) rfl (by kernel_rfl) (by kernel_rfl) (by kernel_rfl) (fun _ _ _ h => h) (Or.inl ⟨by rfl, ?_⟩) (by assumption) ?_
            rotate_left
            · intro Wq hSw
              clear hSw
              go_simp
              all_goals (with_reducible rfl)
            try simp only [Act.put, List.getElem_toArray, List.getElem_cons_zero, List.setIfInBounds_toArray, List.set_cons_zero, List.set_cons_succ]
            refine wpAnyH_take (i := 1) (v := ?_) rfl (by kernel_rfl) (by kernel_rfl) (by kernel_rfl) (fun _ _ _ h => h) (Or.inl ⟨by rfl, ?_⟩) (by assumption) ?_
            rotate_left
            · intro Wq hSw
              clear hSw
              go_simp
              all_goals (with_reducible rfl)
            try simp only [Act.put, List.getElem_toArray, List.getElem_cons_succ, List.getElem_cons_zero, List.setIfInBounds_toArray, List.set_cons_zero, List.set_cons_succ]
            refine wpAnyH_take (i := 2) (v := ?_) rfl (by kernel_rfl) (by kernel_rfl) (by kernel_rfl) (fun _ _ _ h => h) (Or.inl ⟨by rfl, ?_⟩) (by assumption) ?_
            rotate_left
            · intro Wq hSw
              clear hSw
              go_simp
              all_goals (with_reducible rfl)
            try simp only [Act.put, List.getElem_toArray, List.getElem_cons_succ, List.getElem_cons_zero, List.setIfInBounds_toArray, List.set_cons_zero, List.set_cons_succ]
            refine wpAnyH_take (i := 3) (v := ?_) rfl (by kernel_rfl) (by kernel_rfl) (by kernel_rfl) (fun _ _ _ h => h) (Or.inl ⟨by rfl, ?_⟩) (by assumption) ?_
            rotate_left
            · intro Wq hSw
              obtain ⟨c0, c1⟩ := ptRow_at5 (H1.out.below (bl_trans HB.out hSw)) hlt HQ.out
              dsimp only at c0 c1
              clear hSw
              go_simp
              all_goals (with_reducible rfl)
            try simp only [Act.put, List.getElem_toArray, List.getElem_cons_succ, List.getElem_cons_zero, List.setIfInBounds_toArray, List.set_cons_zero, List.set_cons_succ]
            refine wpAnyH_take (i := 4) (v := ?_) rfl (by kernel_rfl) (by kernel_rfl) (by kernel_rfl) (fun _ _ _ h => h) (Or.inl ⟨by rfl, ?_⟩) (by assumption) ?_
            rotate_left
            · intro Wq hSw
              clear hSw
              go_simp
              all_goals (with_reducible rfl)
            try simp only [Act.put, List.getElem_toArray, List.getElem_cons_succ, List.getElem_cons_zero, List.setIfInBounds_toArray, List.set_cons_zero, List.set_cons_succ]
            refine wpAnyH_take (i := 5) (v := ?_) rfl (by kernel_rfl) (by kernel_rfl) (by kernel_rfl) (fun _ _ _ h => h) (Or.inl ⟨by rfl, ?_⟩) (by assumption) ?_
            rotate_left
            · intro Wq hSw
              clear hSw
              go_simp
              all_goals (with_reducible rfl)
            try simp only [Act.put, List.getElem_toArray, List.getElem_cons_succ, List.getElem_cons_zero, List.setIfInBounds_toArray, List.set_cons_zero, List.set_cons_succ]
            refine wpAnyH_take (i := 6) (v := ?_) rfl (by kernel_rfl) (by kernel_rfl) (by kernel_rfl) (fun _ _ _ h => h) (Or.inl ⟨by rfl, ?_⟩) (by assumption) ?_
            rotate_left
            · intro Wq hSw
              clear hSw
              go_simp
              all_goals (with_reducible rfl)
            try simp only [Act.put, List.getElem_toArray, List.getElem_cons_succ, List.getElem_cons_zero, List.setIfInBounds_toArray, List.set_cons_zero, List.set_cons_succ]
            refine wpAnyH_take (i := 7) (v := ?_) rfl (by kernel_rfl) (by kernel_rfl) (by kernel_rfl) (fun _ _ _ h => h) (Or.inl ⟨by rfl, ?_⟩) (by assumption) ?_
            rotate_left
            · intro Wq hSw
              obtain ⟨d0, d1⟩ := ptRow_at5 (H2.out.below (bl_trans HB.out hSw)) hlt2 HQ2.out
              dsimp only at d0 d1
              clear hSw
              go_simp
              all_goals (with_reducible rfl)
            try simp only [Act.put, List.getElem_toArray, List.getElem_cons_succ, List.getElem_cons_zero, List.setIfInBounds_toArray, List.set_cons_zero, List.set_cons_succ]
            refine wpAnyH_take (i := 8) (v := ?_) rfl (by kernel_rfl) (by kernel_rfl) (by kernel_rfl) (fun _ _ _ h => h) (Or.inl ⟨by rfl, ?_⟩) (by assumption) ?_
            rotate_left
            · intro Wq hSw
              clear hSw
              go_simp
              all_goals (with_reducible rfl)
            try simp only [Act.put, List.getElem_toArray, List.getElem_cons_succ, List.getElem_cons_zero, List.setIfInBounds_toArray, List.set_cons_zero, List.set_cons_succ]
            refine wpAnyH_done (by kernel_rfl) ?_ _
            replace HB := Lib.hid (bl_trans HB.out hHeld)
            clear hHeld
            go_wp2_with fail
            go_ret
            exact ⟨by rw [HNE.out]; rfl, HB.out⟩
        · have HNE := Lib.hid (HNX.out (by rw [HQ.out, HQ2.out]; intro e; exact hx (Prod.mk.inj e).1))
          have y1 : (x == x2) = false := beq_eq_false_iff_ne.2 hx
          have y3 : (x = x2) = False := eq_false hx
          clear hx
          go_upto_region 6 with (fail)
          refine wp_region_held_drew (S := fun V => Below W2.heap.size W2 V) (by kernel_rfl) ?_ (fun hHeld => ?_)
          · exact bel_drew W2
          revert hHeld
          generalize World.drew _ = W1
          intro hHeld 
          refine wpAnyH_take (i := 0) (v := ?_) rfl (by kernel_rfl) (by kernel_rfl) (by kernel_rfl) (fun _ _ _ h => h) (Or.inl ⟨by rfl, ?_⟩) (by assumption) ?_
          rotate_left
          · intro Wq hSw
            clear hSw
            go_simp
            all_goals (with_reducible rfl)
          try simp only [Act.put, List.getElem_toArray, List.getElem_cons_zero, List.setIfInBounds_toArray, List.set_cons_zero, List.set_cons_succ]
          refine wpAnyH_take (i := 1) (v := ?_) rfl (by kernel_rfl) (by kernel_rfl) (by kernel_rfl) (fun _ _ _ h => h) (Or.inl ⟨by rfl, ?_⟩) (by assumption) ?_
          rotate_left
          · intro Wq hSw
            clear hSw
            go_simp
            all_goals (with_reducible rfl)
          try simp only [Act.put, List.getElem_toArray, List.getElem_cons_succ, List.getElem_cons_zero, List.setIfInBounds_toArray, List.set_cons_zero, List.set_cons_succ]
          refine wpAnyH_take (i := 2) (v := ?_) rfl (by kernel_rfl) (by kernel_rfl) (by kernel_rfl) (fun _ _ _ h => h) (Or.inl ⟨by rfl, ?_⟩) (by assumption) ?_
          rotate_left
          · intro Wq hSw
            clear hSw
            go_simp
            all_goals (with_reducible rfl)
          try simp only [Act.put, List.getElem_toArray, List.getElem_cons_succ, List.getElem_cons_zero, List.setIfInBounds_toArray, List.set_cons_zero, List.set_cons_succ]
          refine wpAnyH_take (i := 3) (v := ?_) rfl (by kernel_rfl) (by kernel_rfl) (by kernel_rfl) (fun _ _ _ h => h) (Or.inl ⟨by rfl, ?_⟩) (by assumption) ?_
          rotate_left
          · intro Wq hSw
            obtain ⟨c0, c1⟩ := ptRow_at5 (H1.out.below (bl_trans HB.out hSw)) hlt HQ.out
            dsimp only at c0 c1
            clear hSw
            go_simp
            all_goals (with_reducible rfl)
          try simp only [Act.put, List.getElem_toArray, List.getElem_cons_succ, List.getElem_cons_zero, List.setIfInBounds_toArray, List.set_cons_zero, List.set_cons_succ]
          refine wpAnyH_take (i := 4) (v := ?_) rfl (by kernel_rfl) (by kernel_rfl) (by kernel_rfl) (fun _ _ _ h => h) (Or.inl ⟨by rfl, ?_⟩) (by assumption) ?_
          rotate_left
          · intro Wq hSw
            clear hSw
            go_simp
            all_goals (with_reducible rfl)
          try simp only [Act.put, List.getElem_toArray, List.getElem_cons_succ, List.getElem_cons_zero, List.setIfInBounds_toArray, List.set_cons_zero, List.set_cons_succ]
          refine wpAnyH_take (i := 5) (v := ?_) rfl (by kernel_rfl) (by kernel_rfl) (by kernel_rfl) (fun _ _ _ h => h) (Or.inl ⟨by rfl, ?_⟩) (by assumption) ?_
          rotate_left
          · intro Wq hSw
            clear hSw
            go_simp
            all_goals (with_reducible rfl)
          try simp only [Act.put, List.getElem_toArray, List.getElem_cons_succ, List.getElem_cons_zero, List.setIfInBounds_toArray, List.set_cons_zero, List.set_cons_succ]
          refine wpAnyH_take (i := 6) (v := ?_) rfl (by kernel_rfl) (by kernel_rfl) (by kernel_rfl) (fun _ _ _ h => h) (Or.inl ⟨by rfl, ?_⟩) (by assumption) ?_
          rotate_left
          · intro Wq hSw
            clear hSw
            go_simp
            all_goals (with_reducible rfl)
          try simp only [Act.put, List.getElem_toArray, List.getElem_cons_succ, List.getElem_cons_zero, List.setIfInBounds_toArray, List.set_cons_zero, List.set_cons_succ]
          refine wpAnyH_take (i := 7) (v := ?_) rfl (by kernel_rfl) (by kernel_rfl) (by kernel_rfl) (fun _ _ _ h => h) (Or.inl ⟨by rfl, ?_⟩) (by assumption) ?_
          rotate_left
          · intro Wq hSw
            obtain ⟨d0, d1⟩ := ptRow_at5 (H2.out.below (bl_trans HB.out hSw)) hlt2 HQ2.out
            dsimp only at d0 d1
            clear hSw
            go_simp
            all_goals (with_reducible rfl)
          try simp only [Act.put, List.getElem_toArray, List.getElem_cons_succ, List.getElem_cons_zero, List.setIfInBounds_toArray, List.set_cons_zero, List.set_cons_succ]
          refine wpAnyH_take (i := 8) (v := ?_) rfl (by kernel_rfl) (by kernel_rfl) (by kernel_rfl) (fun _ _ _ h => h) (Or.inl ⟨by rfl, ?_⟩) (by assumption) ?_
          rotate_left
          · intro Wq hSw
            clear hSw
            go_simp
            all_goals (with_reducible rfl)
          try simp only [Act.put, List.getElem_toArray, List.getElem_cons_succ, List.getElem_cons_zero, List.setIfInBounds_toArray, List.set_cons_zero, List.set_cons_succ]
          refine wpAnyH_done (by kernel_rfl) ?_ _
          replace HB := Lib.hid (bl_trans HB.out hHeld)
          clear hHeld
          go_wp2_with fail
          go_ret
          exact ⟨by rw [HNE.out]; rfl, HB.out⟩
      · obtain rfl : k = l.length := by omega
        have b2 : ((l.length : Int) < (l.length : Int)) = False := eq_false (by omega)
        have HY : Hid (R = true) := by
          unfold Hid
          rw [← HR.out]
          refine decide_eq_true (List.ext_getElem HLM.out (fun j h1 h2 => ?_))
          rw [← pget_at5 h1, ← pget_at5 h2]
          exact HEQ.out j h1
        go_wp2_with fail
        go_ret
        exact ⟨by rw [HY.out]; rfl, HB.out⟩
  · have HNE : Hid (R = false) := by
      unfold Hid
      rw [← HR.out]
      exact decide_eq_false (fun e => hlm (by rw [e]))
    have b0 : ((l.length : Int) != (m.length : Int)) = true := by rw [bne_iff_ne]; omega
    have b1 : ((l.length : Int) = (m.length : Int)) = False := eq_false (by omega)
    have b2 : (l.length = m.length) = False := eq_false hlm
    clear hlm
    go_wp2_with fail
    go_ret
    exact ⟨by rw [HNE.out]; rfl, Below.refl _ _⟩
end Go.Proofs.YtdpbmkfgolemjaaDoor

/-
  The document's Same of two inputs; the law's long.
-/
namespace Go.Proofs.YtdpbmkfgolemjaaDoor
open Go.RowKit

set_option maxHeartbeats 8000000 in
set_option maxRecDepth 100000 in
theorem same_l5 (p l i p' l' i' : List (Int × Int)) (ap al ai ap' al' ai' : Option Addr) (cp cl ci cp' cl' ci' : Nat) (w : World) (hA : Pol5 w ap al ai cp cl ci p l i) (hB : Pol5 w ap' al' ai' cp' cl' ci' p' l' i') :
    Calls Tryd.prog 17 #[.agg #[.slice ap p.length cp, .slice al l.length cl, .slice ai i.length ci], .agg #[.slice ap' p'.length cp', .slice al' l'.length cl', .slice ai' i'.length ci']] w (Gives (.bool (decide (p = p') && decide (l = l') && decide (i = i'))) w) := by
  have HP := Lib.hid (fun W h => samePts_l5 p p' hA.lenP hB.lenP ap ap' cp cp' W (hA.pp.below h) (hB.pp.below h))
  have HL := Lib.hid (fun W h => sameSegs_l5 l l' hA.lenL hB.lenL al al' cl cl' W (hA.ll.below h) (hB.ll.below h))
  have HI := Lib.hid (fun W h => sameSegs_l5 i i' hA.lenI hB.lenI ai ai' ci ci' W (hA.ii.below h) (hB.ii.below h))
  clear hA hB
  generalize decide (p = p') = r1 at *
  generalize decide (l = l') = r2 at *
  generalize decide (i = i') = r3 at *
  go_enter Tryd.func17, Tryd.ntmps17
  go_upto_region 1 with (fail)
  obtain ⟨g1, hg1⟩ : ∃ g, w.heap.size = g := ⟨_, rfl⟩
  obtain ⟨g2, hg2⟩ : ∃ g, w.heap.size + 1 = g := ⟨_, rfl⟩
  refine wp_abs (fun V => Below w.heap.size w V ∧ Var V g1 [.slice ap p.length cp, .slice al l.length cl, .slice ai i.length ci] ∧ Var V g2 [.slice ap' p'.length cp', .slice al' l'.length cl', .slice ai' i'.length ci']) ?_ ?_
  · exact ⟨by repeat (first | (with_reducible exact Below.refl _ _) | (with_reducible refine bl_alloc ?_ _) | (with_reducible refine Below.drew ?_) | (with_reducible refine below_drewN' ?_ _) | ((with_reducible refine bl_set ?_ ?_ _); (rotate_left; (dsimp only; omega)))), (var3o_new _ _ _ _ _ _ hg1.symm).below (bl_one _ _), var3o_new _ _ _ _ _ _ (by simp [← hg2])⟩
  rintro W1 hS
  have HS := Lib.hid hS
  try rw [hg2]
  try rw [hg1]
  clear hS hg1 hg2
  obtain ⟨k0, k1, k2⟩ := HS.out.2.1.three6
  obtain ⟨m0, m1, m2⟩ := HS.out.2.2.three6
  go_wp2_with fail
  (with_reducible refine (HP.out _ HS.out.1).mono ?_); rintro e w2 ⟨rfl, hb2⟩
  replace HS := Lib.hid (show Below w.heap.size w w2 ∧ Var w2 g1 [.slice ap p.length cp, .slice al l.length cl, .slice ai i.length ci] ∧ Var w2 g2 [.slice ap' p'.length cp', .slice al' l'.length cl', .slice ai' i'.length ci'] from ⟨bl_trans HS.out.1 hb2, HS.out.2.1.below hb2, HS.out.2.2.below hb2⟩)
  clear hb2 HP k0 k1 k2 m0 m1 m2
  obtain ⟨k0, k1, k2⟩ := HS.out.2.1.three6
  obtain ⟨m0, m1, m2⟩ := HS.out.2.2.three6
  cases r1
  · go_wp2_with fail
    go_ret
    exact ⟨rfl, HS.out.1⟩
  · go_wp2_with fail
    (with_reducible refine (HL.out _ HS.out.1).mono ?_); rintro e w3 ⟨rfl, hb2⟩
    replace HS := Lib.hid (show Below w.heap.size w w3 ∧ Var w3 g1 [.slice ap p.length cp, .slice al l.length cl, .slice ai i.length ci] ∧ Var w3 g2 [.slice ap' p'.length cp', .slice al' l'.length cl', .slice ai' i'.length ci'] from ⟨bl_trans HS.out.1 hb2, HS.out.2.1.below hb2, HS.out.2.2.below hb2⟩)
    clear hb2 HL k0 k1 k2 m0 m1 m2
    obtain ⟨k0, k1, k2⟩ := HS.out.2.1.three6
    obtain ⟨m0, m1, m2⟩ := HS.out.2.2.three6
    cases r2
    · go_wp2_with fail
      go_ret
      exact ⟨rfl, HS.out.1⟩
    · go_wp2_with fail
      (with_reducible refine (HI.out _ HS.out.1).mono ?_); rintro e w4 ⟨rfl, hb2⟩
      have HB := Lib.hid (bl_trans HS.out.1 hb2)
      clear hb2 HI k0 k1 k2 m0 m1 m2 HS
      cases r3
      · go_wp2_with fail
        go_ret
        exact ⟨rfl, HB.out⟩
      · go_wp2_with fail
        go_ret
        exact ⟨rfl, HB.out⟩
set_option maxHeartbeats 8000000 in
set_option maxRecDepth 100000 in
theorem long_l5 (n m k : Nat) (ap al ai : Option Addr) (cp cl ci : Nat) (w : World) :
    Calls Tryd.prog 10 #[.agg #[.slice ap n cp, .slice al m cl, .slice ai k ci]] w (Gives (.bool (decide (300 < n) || decide (500 < m) || decide (500 < k))) w) := by
  obtain ⟨R, hR⟩ : ∃ R, (decide (300 < n) || decide (500 < m) || decide (500 < k)) = R := ⟨_, rfl⟩
  rw [hR]
  have HR := Lib.hid hR
  clear hR
  go_enter Tryd.func10, Tryd.ntmps10
  go_upto_region 1 with (fail)
  obtain ⟨g1, hg1⟩ : ∃ g, w.heap.size = g := ⟨_, rfl⟩
  refine wp_abs (fun V => Below w.heap.size w V ∧ Var V g1 [.slice ap n cp, .slice al m cl, .slice ai k ci]) ?_ ?_
  · exact ⟨by repeat (first | (with_reducible exact Below.refl _ _) | (with_reducible refine bl_alloc ?_ _) | (with_reducible refine Below.drew ?_) | (with_reducible refine below_drewN' ?_ _) | ((with_reducible refine bl_set ?_ ?_ _); (rotate_left; (dsimp only; omega)))), var3o_new _ _ _ _ _ _ hg1.symm⟩
  rintro W1 hS
  have HB := Lib.hid hS.1
  obtain ⟨k0, k1, k2⟩ := hS.2.three6
  try rw [hg1]
  clear hS hg1
  by_cases h1 : (300 : Int) < (n : Int)
  · have d1 : decide ((300 : Int) < (n : Int)) = true := decide_eq_true h1
    have t1 : ((300 : Int) < (n : Int)) = True := eq_true h1
    have t1' : (300 < n) = True := eq_true (by omega)
    have HZ : Hid (R = true) := by unfold Hid; rw [← HR.out]; simp; omega
    go_wp2_with fail
    go_ret
    exact ⟨by rw [HZ.out]; rfl, HB.out⟩
  have d1 : decide ((300 : Int) < (n : Int)) = false := decide_eq_false h1
  have t1 : ((300 : Int) < (n : Int)) = False := eq_false h1
  have t1' : (300 < n) = False := eq_false (by omega)
  by_cases h2 : (500 : Int) < (m : Int)
  · have d2 : decide ((500 : Int) < (m : Int)) = true := decide_eq_true h2
    have t2 : ((500 : Int) < (m : Int)) = True := eq_true h2
    have t2' : (500 < m) = True := eq_true (by omega)
    have HZ : Hid (R = true) := by unfold Hid; rw [← HR.out]; simp; omega
    go_wp2_with fail
    go_ret
    exact ⟨by rw [HZ.out]; rfl, HB.out⟩
  have d2 : decide ((500 : Int) < (m : Int)) = false := decide_eq_false h2
  have t2 : ((500 : Int) < (m : Int)) = False := eq_false h2
  have t2' : (500 < m) = False := eq_false (by omega)
  by_cases h3 : (500 : Int) < (k : Int)
  · have d3 : decide ((500 : Int) < (k : Int)) = true := decide_eq_true h3
    have t3 : ((500 : Int) < (k : Int)) = True := eq_true h3
    have t3' : (500 < k) = True := eq_true (by omega)
    have HZ : Hid (R = true) := by unfold Hid; rw [← HR.out]; simp; omega
    go_wp2_with fail
    go_ret
    exact ⟨by rw [HZ.out]; rfl, HB.out⟩
  · have d3 : decide ((500 : Int) < (k : Int)) = false := decide_eq_false h3
    have t3 : ((500 : Int) < (k : Int)) = False := eq_false h3
    have t3' : (500 < k) = False := eq_false (by omega)
    have HZ : Hid (R = false) := by unfold Hid; rw [← HR.out]; simp; omega
    go_wp2_with fail
    go_ret
    exact ⟨by rw [HZ.out]; rfl, HB.out⟩
end Go.Proofs.YtdpbmkfgolemjaaDoor
