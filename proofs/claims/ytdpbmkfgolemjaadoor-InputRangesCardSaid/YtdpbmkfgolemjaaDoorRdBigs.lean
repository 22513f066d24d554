/-
  Inputs of any length.
-/
import Derived.Test.YtdpbmkfgolemjaaDoorRdChks
import Derived.Test.YtdpbmkfgolemjaaDoorRows
import Derived.ProofKit
import Derived.OpenShut
import Derived.Deep.Strs
import Derived.Deep.SlicePairs
import Derived.Lib.SmallJoins
import Derived.Carry
import Derived.Test.YtdpbmkfgolemjaaDoorRdDoors
import Derived.Test.YtdpbmkfgolemjaaDoorRdPrints
import Derived.Test.YtdpbmkfgolemjaaDoorRdBacks
set_option linter.unusedVariables false
set_option linter.unusedSimpArgs false
set_option linter.deprecated false
namespace Go.Proofs.YtdpbmkfgolemjaaDoor
open Go.RowKit Go.ChangeShapes Go.WideShapes Go.ChangeAt Go.Deep

set_option maxRecDepth 100000 in
theorem open_segsB5 {H : Type} {enc : TypeId × Value → H} {w : World} {spare : Nat → Bool} {held : Bool} {cs : List Value} {x : DataW H × List MemPlace} {fuel : Nat}
    (hf : DataW.trod enc Tryd.prog w 0 spare held fuel 23 cs = some x) : ∃ l : List (Int × Int), ∃ ad cap, cs = [.slice ad l.length cap] ∧ l.length ≤ cap ∧ PtRow5 w ad l ∧ (ad = none → cap = 0) ∧ cap ≤ 9223372036854775807 := by
  rcases open_slice_pairs Tryd.underlying23 Tryd.underlying62 (by kernel_rfl) rfl rfl (by kernel_rfl) (by kernel_rfl) hf with ⟨hcs, -⟩ | ⟨a, len, cap, m, n, V0, V1, D0, D1, P0, P1, hcs, -, hl, hm, hmm, -, hx⟩
  · exact ⟨[], none, 0, hcs, Nat.le_refl _, ptRow_nil5 _ _, fun _ => rfl, Nat.zero_le _⟩
  have hlm : len ≤ m := by rw [hmm]; split <;> omega
  have key : ∀ i, i < len → ∃ q : (Int × Int), w.cell? (a.add (i * 2)) = some (.int .i64 q.1) ∧ w.cell? (a.add (i * 2 + 1)) = some (.int .i64 q.2) := by
    intro i hi
    obtain ⟨h1, h2, h3, h4⟩ := hx i (by omega)
    obtain ⟨x, e, -, -⟩ := DataW.trod_int Tryd.underlying3 h3
    obtain ⟨y, e2, -, -⟩ := DataW.trod_int Tryd.underlying3 h4
    simp at e e2
    exact ⟨(x, y), by rw [h1, e], by rw [h2, e2]⟩
  obtain ⟨f, hf'⟩ := choose_lt key
  have hll : ((List.range len).map f).length = len := by simp
  refine ⟨(List.range len).map f, some a, cap, by rw [hll]; exact hcs, by rw [hll]; exact hl, fun i hi => ?_, fun h => (by cases h), by unfold maxLen at hm; omega⟩
  rw [hll] at hi
  obtain ⟨g, o, sp⟩ := a
  have hsp : sp = none := by simpa [Addr.add] using World.cell?_spot (hf' 0 (by omega)).1
  subst hsp
  have h1 := hf' i hi
  rw [add_plain5, add_plain5] at h1
  have e : pget5 ((List.range len).map f) i = f i := by unfold pget5; simp [List.getD, hi]
  rw [e]
  exact ⟨g, o, rfl, h1.1, by have := h1.2; rw [show o + (i * 2 + 1) = o + i * 2 + 1 by omega] at this; exact this⟩
set_option maxRecDepth 100000 in
theorem open_ptsB5 {H : Type} {enc : TypeId × Value → H} {w : World} {spare : Nat → Bool} {held : Bool} {cs : List Value} {x : DataW H × List MemPlace} {fuel : Nat}
    (hf : DataW.trod enc Tryd.prog w 0 spare held fuel 22 cs = some x) : ∃ l : List (Int × Int), ∃ ad cap, cs = [.slice ad l.length cap] ∧ l.length ≤ cap ∧ PtRow5 w ad l ∧ (ad = none → cap = 0) ∧ cap ≤ 9223372036854775807 := by
  rcases open_slice_pairs Tryd.underlying22 Tryd.underlying43 (by kernel_rfl) rfl rfl (by kernel_rfl) (by kernel_rfl) hf with ⟨hcs, -⟩ | ⟨a, len, cap, m, n, V0, V1, D0, D1, P0, P1, hcs, -, hl, hm, hmm, -, hx⟩
  · exact ⟨[], none, 0, hcs, Nat.le_refl _, ptRow_nil5 _ _, fun _ => rfl, Nat.zero_le _⟩
  have hlm : len ≤ m := by rw [hmm]; split <;> omega
  have key : ∀ i, i < len → ∃ q : (Int × Int), w.cell? (a.add (i * 2)) = some (.int .i64 q.1) ∧ w.cell? (a.add (i * 2 + 1)) = some (.int .i64 q.2) := by
    intro i hi
    obtain ⟨h1, h2, h3, h4⟩ := hx i (by omega)
    obtain ⟨x, e, -, -⟩ := DataW.trod_int Tryd.underlying3 h3
    obtain ⟨y, e2, -, -⟩ := DataW.trod_int Tryd.underlying3 h4
    simp at e e2
    exact ⟨(x, y), by rw [h1, e], by rw [h2, e2]⟩
  obtain ⟨f, hf'⟩ := choose_lt key
  have hll : ((List.range len).map f).length = len := by simp
  refine ⟨(List.range len).map f, some a, cap, by rw [hll]; exact hcs, by rw [hll]; exact hl, fun i hi => ?_, fun h => (by cases h), by unfold maxLen at hm; omega⟩
  rw [hll] at hi
  obtain ⟨g, o, sp⟩ := a
  have hsp : sp = none := by simpa [Addr.add] using World.cell?_spot (hf' 0 (by omega)).1
  subst hsp
  have h1 := hf' i hi
  rw [add_plain5, add_plain5] at h1
  have e : pget5 ((List.range len).map f) i = f i := by unfold pget5; simp [List.getD, hi]
  rw [e]
  exact ⟨g, o, rfl, h1.1, by have := h1.2; rw [show o + (i * 2 + 1) = o + i * 2 + 1 by omega] at this; exact this⟩
set_option maxRecDepth 100000 in
theorem open_polyB5 {H : Type} {enc : TypeId × Value → H} {w : World} {r : Reach} {b0 : Nat} {spare : Nat → Bool} {held : Bool} {v : Value} {d : DataW H} {p : List MemPlace}
    (hv : Value.okWide Tryd.prog w r b0 25 v) (h : DataW.Trod enc Tryd.prog w 0 spare held 25 v d p) :
    ∃ (l m k : List (Int × Int)) (al am ak : Option Addr) (cl cm ck : Nat), v = .agg #[.slice al l.length cl, .slice am m.length cm, .slice ak k.length ck] ∧ PtRow5 w al l ∧ PtRow5 w am m ∧ PtRow5 w ak k ∧ l.length ≤ cl ∧ m.length ≤ cm ∧ k.length ≤ ck ∧ (al = none → cl = 0) ∧ (am = none → cm = 0) ∧ (ak = none → ck = 0) ∧ cl ≤ 9223372036854775807 ∧ cm ≤ 9223372036854775807 ∧ ck ≤ 9223372036854775807 := by
  have hs := Tryd.underlying25
  have hC : Tryd.prog.cellsOf 25 = 3 := by kernel_rfl
  obtain ⟨cs, rfl, hsz⟩ := okWide_struct hs hv
  obtain ⟨c0, c1, c2, rfl⟩ := array35 (hsz.trans hC)
  obtain ⟨fuel, hf⟩ := h
  obtain ⟨y0, y1, y2, n, hx, _, h0, h1, h2⟩ := trod_struct3 hs hf
  have k0 : Tryd.prog.cellsOf 22 = 1 := by kernel_rfl
  have k1 : Tryd.prog.cellsOf 23 = 1 := by kernel_rfl
  simp only [Value.cells, k0, k1, List.drop, List.take] at h0 h1 h2
  obtain ⟨l, al, cl, e0, a1, a2, a3, a4⟩ := open_ptsB5 h0
  obtain ⟨m, am, cm, e1, b1, b2, b3, b4⟩ := open_segsB5 h1
  obtain ⟨k, ak, ck, e2, d1, d2, d3, d4⟩ := open_segsB5 h2
  simp at e0 e1 e2
  subst e0 e1 e2
  exact ⟨l, m, k, al, am, ak, cl, cm, ck, rfl, a2, b2, d2, a1, b1, d1, a3, b3, d3, a4, b4, d4⟩
theorem wnumB5 {i : Nat} (h : i < 9223372036854775807) : wrap64 (i : Int) = (i : Int) ∧ IntKind.i64.wrap (i : Int) = (i : Int) ∧ wrap64 ((i : Int) + 1) = (i : Int) + 1 ∧ IntKind.i64.wrap ((i : Int) + 1) = (i : Int) + 1 :=
  ⟨by unfold wrap64; omega, IntWalk.i64_in _ (by omega), by unfold wrap64; omega, IntWalk.i64_in _ (by omega)⟩
structure PolB5 (w : World) (ap al ai : Option Addr) (cp cl ci : Nat) (p l i : List (Int × Int)) : Prop where
  pp : PtRow5 w ap p
  ll : PtRow5 w al l
  ii : PtRow5 w ai i
  capP : p.length ≤ cp
  capL : l.length ≤ cl
  capI : i.length ≤ ci
  nilP : ap = none → cp = 0
  nilL : al = none → cl = 0
  nilI : ai = none → ci = 0
  lenP : p.length ≤ 9223372036854775807
  lenL : l.length ≤ 9223372036854775807
  lenI : i.length ≤ 9223372036854775807
theorem PolB5.below {w w' : World} {ap al ai : Option Addr} {cp cl ci : Nat} {p l i : List (Int × Int)} (h : PolB5 w ap al ai cp cl ci p l i) (hb : Below w.heap.size w w') : PolB5 w' ap al ai cp cl ci p l i :=
  ⟨h.pp.below hb, h.ll.below hb, h.ii.below hb, h.capP, h.capL, h.capI, h.nilP, h.nilL, h.nilI, h.lenP, h.lenL, h.lenI⟩
theorem PolB5.small {w : World} {ap al ai : Option Addr} {cp cl ci : Nat} {p l i : List (Int × Int)} (h : PolB5 w ap al ai cp cl ci p l i) (h1 : p.length ≤ 10000) (h2 : l.length ≤ 10000) (h3 : i.length ≤ 10000) : Pol5 w ap al ai cp cl ci p l i :=
  ⟨h.pp, h.ll, h.ii, h.capP, h.capL, h.capI, h.nilP, h.nilL, h.nilI, h1, h2, h3⟩
set_option maxHeartbeats 8000000 in
set_option maxRecDepth 100000 in
theorem ptsVB_l5 (p : List (Int × Int)) (ap : Option Addr) (cp : Nat) (w : World) (hP : PtRow5 w ap p) (hlen : p.length ≤ 9223372036854775807) : Calls Tryd.prog 23 #[.slice ap p.length cp] w (Gives (.bool (ptsV5 p)) w) := by
  have HP := Lib.hid hP
  clear hP
  go_enter Tryd.func23, Tryd.ntmps23
  go_wp2_with fail
  go_loopw [7] (fun iv W => ∃ k : Nat, k ≤ p.length ∧ iv = .int .i64 k ∧ (∀ i, i < k → placeB5 (pget5 p i) = true) ∧ Below w.heap.size w W) (fun iv _ => p.length - (intOf iv).toNat)
  case atStart => exact ⟨0, Nat.zero_le _, rfl, fun i hi => absurd hi (Nat.not_lt_zero _), Below.refl _ _⟩
  case round =>
    obtain ⟨k, hk, rfl, hS, hB⟩ := hrel
    have HB := Lib.hid hB
    have HS := Lib.hid hS
    clear hB hS
    by_cases hlt : k < p.length
    · have b2 : ((k : Int) < (p.length : Int)) = True := eq_true (by omega)
      have d2 : (k < p.length) = True := eq_true hlt
      have c2 : ((0 : Int) ≤ (k : Int)) = True := eq_true (by omega)
      obtain ⟨g, o, rfl⟩ := HP.out.some (by omega)
      obtain ⟨s, hs⟩ : ∃ s, pget5 p k = s := ⟨_, rfl⟩
      obtain ⟨k0, k1⟩ := ptRow_at5 (HP.out.below HB.out) hlt hs
      have HX := Lib.hid (fun W => isPlace_l5 s.1 W)
      have HY := Lib.hid (fun W => isPlace_l5 s.2 W)
      have HPL : Hid (placeB5 (pget5 p k) = (plB5 s.1 && plB5 s.2)) := by unfold Hid; rw [hs, place_pl5]
      have HNo : Hid (placeB5 (pget5 p k) = false → ptsV5 p = false) := fun h => by
        rw [Bool.eq_false_iff]; intro h2
        rw [(ptsV_iff5.1 h2).1 k hlt] at h; cases h
      clear hs
      generalize plB5 s.1 = rx at *
      generalize plB5 s.2 = ry at *
      go_wp2_with fail
      (with_reducible refine (HX.out _).mono ?_); rintro e w2 ⟨rfl, hb2⟩
      have HB2 := Lib.hid (bl_trans HB.out (bl_trans (bl_one wr (.cells #[.int .i64 s.1, .int .i64 s.2] 43)) hb2))
      have HV := Lib.hid ((var2_new wr (.int .i64 s.1) (.int .i64 s.2) 43 wr.heap.size rfl).below hb2)
      obtain ⟨v0, v1⟩ := HV.out.two
      clear hb2 HX k0 k1
      cases rx
      · have HZ := Lib.hid (HNo.out (by rw [HPL.out]; rfl))
        clear HNo
        go_wp2_with fail
        go_ret
        exact ⟨by rw [HZ.out]; rfl, HB2.out⟩
      · go_wp2_with fail
        (with_reducible refine (HY.out _).mono ?_); rintro e w3 ⟨rfl, hb3⟩
        have HB3 := Lib.hid (bl_trans HB2.out hb3)
        clear hb3 HB2 HY v0 v1 HV
        cases ry
        · have HZ := Lib.hid (HNo.out (by rw [HPL.out]; rfl))
          clear HNo
          go_wp2_with fail
          go_ret
          exact ⟨by rw [HZ.out]; rfl, HB3.out⟩
        · obtain ⟨m1, m2, m3, m4⟩ := wnumB5 (i := k) (by omega)
          go_wp2_with fail
          clear m1 m2 m3 m4
          refine ⟨⟨k + 1, hlt, by rw [Int.natCast_add]; rfl, fun i hi => ?_, HB3.out⟩, by simp [intOf]; omega⟩
          rcases Nat.lt_or_eq_of_le (Nat.le_of_lt_succ hi) with h | rfl
          · exact HS.out i h
          · exact HPL.out
    · obtain rfl : k = p.length := by omega
      have b2 : ((p.length : Int) < (p.length : Int)) = False := eq_false (by omega)
      have HY : Hid (ptsV5 p = decide (p.length ≤ 200)) := by
        unfold Hid
        rw [Bool.eq_iff_iff, ptsV_iff5, decide_eq_true_eq]
        exact ⟨fun h => by have := h.2; omega, fun h => ⟨HS.out, by omega⟩⟩
      go_wp2_with fail
      go_ret
      exact ⟨by rw [HY.out, show decide (p.length ≤ 200) = decide ((p.length : Int) ≤ 200) from decide_eq_decide.2 (by omega)]; rfl, HB.out⟩
set_option maxHeartbeats 8000000 in
set_option maxRecDepth 100000 in
theorem segsVB_l5 (n : Nat) (l : List (Int × Int)) (al : Option Addr) (cl : Nat) (w : World) (hL : PtRow5 w al l) (hlen : l.length ≤ 9223372036854775807) : Calls Tryd.prog 24 #[.slice al l.length cl, .int .i64 (n : Int)] w (Gives (.bool (segsV5 n l)) w) := by
  have HL := Lib.hid hL
  clear hL
  go_enter Tryd.func24, Tryd.ntmps24
  go_wp2_with fail
  go_loopw [9] (fun iv W => ∃ k : Nat, k ≤ l.length ∧ iv = .int .i64 k ∧ (∀ i, i < k → sgInB5 n (pget5 l i) = true) ∧ Below w.heap.size w W) (fun iv _ => l.length - (intOf iv).toNat)
  case atStart => exact ⟨0, Nat.zero_le _, rfl, fun i hi => absurd hi (Nat.not_lt_zero _), Below.refl _ _⟩
  case round =>
    obtain ⟨k, hk, rfl, hS, hB⟩ := hrel
    have HB := Lib.hid hB
    have HS := Lib.hid hS
    clear hB hS
    by_cases hlt : k < l.length
    · have b2 : ((k : Int) < (l.length : Int)) = True := eq_true (by omega)
      have d2 : (k < l.length) = True := eq_true hlt
      have c2 : ((0 : Int) ≤ (k : Int)) = True := eq_true (by omega)
      obtain ⟨g, o, rfl⟩ := HL.out.some (by omega)
      obtain ⟨⟨x, y⟩, hs⟩ : ∃ s, pget5 l k = s := ⟨_, rfl⟩
      obtain ⟨k0, k1⟩ := ptRow_at5 (HL.out.below HB.out) hlt hs
      dsimp only at k0 k1
      have HNo : Hid (sgInB5 n (pget5 l k) = false → segsV5 n l = false) := fun h => by
        rw [Bool.eq_false_iff]; intro h2
        rw [(segsV_iff5.1 h2).1 k hlt] at h; cases h
      have HIN : Hid (sgInB5 n (pget5 l k) = (!(decide (min x y < 0)) && !(decide ((n : Int) ≤ max x y)))) := by unfold Hid; rw [hs, sgInB_mm5]
      have HB2 := Lib.hid (bl_trans HB.out (bl_one wr (.cells #[.int .i64 x, .int .i64 y] 62)))
      clear hs
      obtain ⟨mn, hmn⟩ : ∃ m, min x y = m := ⟨_, rfl⟩
      obtain ⟨mx, hmx⟩ : ∃ m, max x y = m := ⟨_, rfl⟩
      rw [hmn, hmx] at HIN
      by_cases h1 : mn < 0
      · have e1 : (mn < 0) = True := eq_true h1
        have HZ := Lib.hid (HNo.out (by rw [HIN.out, decide_eq_true h1]; rfl))
        clear HNo h1
        go_wp2_with fail
        go_ret
        exact ⟨by rw [HZ.out]; rfl, HB2.out⟩
      · have e1 : (mn < 0) = False := eq_false h1
        by_cases h2 : (n : Int) ≤ mx
        · have e2 : ((n : Int) ≤ mx) = True := eq_true h2
          have HZ := Lib.hid (HNo.out (by rw [HIN.out, decide_eq_true h2]; simp))
          clear HNo h1 h2
          go_wp2_with fail
          go_ret
          exact ⟨by rw [HZ.out]; rfl, HB2.out⟩
        · have e2 : ((n : Int) ≤ mx) = False := eq_false h2
          have HZ : Hid (sgInB5 n (pget5 l k) = true) := by unfold Hid; rw [HIN.out, decide_eq_false h1, decide_eq_false h2]; rfl
          clear HNo h1 h2
          obtain ⟨m1, m2, m3, m4⟩ := wnumB5 (i := k) (by omega)
          go_wp2_with fail
          clear m1 m2 m3 m4
          refine ⟨⟨k + 1, hlt, by rw [Int.natCast_add]; rfl, fun i hi => ?_, HB2.out⟩, by simp [intOf]; omega⟩
          rcases Nat.lt_or_eq_of_le (Nat.le_of_lt_succ hi) with h | rfl
          · exact HS.out i h
          · exact HZ.out
    · obtain rfl : k = l.length := by omega
      have b2 : ((l.length : Int) < (l.length : Int)) = False := eq_false (by omega)
      have HY : Hid (segsV5 n l = decide (l.length ≤ 400)) := by
        unfold Hid
        rw [Bool.eq_iff_iff, segsV_iff5, decide_eq_true_eq]
        exact ⟨fun h => by have := h.2; omega, fun h => ⟨HS.out, by omega⟩⟩
      go_wp2_with fail
      go_ret
      exact ⟨by rw [HY.out, show decide (l.length ≤ 400) = decide ((l.length : Int) ≤ 400) from decide_eq_decide.2 (by omega)]; rfl, HB.out⟩

set_option maxHeartbeats 8000000 in
set_option maxRecDepth 100000 in
theorem checkB_l5 (p l i : List (Int × Int)) (ap al ai : Option Addr) (cp cl ci : Nat) (w : World) (hA : PolB5 w ap al ai cp cl ci p l i) :
    Calls Tryd.prog 13 #[.agg #[.slice ap p.length cp, .slice al l.length cl, .slice ai i.length ci]] w (Gives (.int .i64 (firstE5 p l i)) w) := by
  have HP := Lib.hid (fun W h => ptsVB_l5 p ap cp W (hA.pp.below h) hA.lenP)
  have HL := Lib.hid (fun W h => segsVB_l5 p.length l al cl W (hA.ll.below h) hA.lenL)
  have HI := Lib.hid (fun W h => segsVB_l5 p.length i ai ci W (hA.ii.below h) hA.lenI)
  have HE : Hid (firstE5 p l i = if (ptsV5 p && segsV5 p.length l && segsV5 p.length i) = true then 0 else 2) := rfl
  clear hA
  generalize ptsV5 p = r1 at *
  generalize segsV5 p.length l = r2 at *
  generalize segsV5 p.length i = r3 at *
  go_enter Tryd.func13, Tryd.ntmps13
  go_upto_region 1 with (fail)
  have HV := Lib.hid (var3o_new w (.slice ap p.length cp) (.slice al l.length cl) (.slice ai i.length ci) 25 w.heap.size rfl)
  have HB := Lib.hid (bl_one w (.cells #[.slice ap p.length cp, .slice al l.length cl, .slice ai i.length ci] 25))
  generalize w.alloc (.cells #[.slice ap p.length cp, .slice al l.length cl, .slice ai i.length ci] 25) = W1 at *
  obtain ⟨k0, k1, k2⟩ := HV.out.three6
  go_wp2_with fail
  (with_reducible refine (HP.out _ HB.out).mono ?_); rintro e w2 ⟨rfl, hb2⟩
  replace HB := Lib.hid (bl_trans HB.out hb2)
  replace HV := Lib.hid (HV.out.below hb2)
  clear hb2 HP k0 k1 k2
  obtain ⟨k0, k1, k2⟩ := HV.out.three6
  cases r1
  · go_wp2_with fail
    go_ret
    exact ⟨by rw [HE.out]; rfl, HB.out⟩
  · go_wp2_with fail
    (with_reducible refine (HL.out _ HB.out).mono ?_); rintro e w3 ⟨rfl, hb2⟩
    replace HB := Lib.hid (bl_trans HB.out hb2)
    replace HV := Lib.hid (HV.out.below hb2)
    clear hb2 HL k0 k1 k2
    obtain ⟨k0, k1, k2⟩ := HV.out.three6
    cases r2
    · go_wp2_with fail
      go_ret
      exact ⟨by rw [HE.out]; rfl, HB.out⟩
    · go_wp2_with fail
      (with_reducible refine (HI.out _ HB.out).mono ?_); rintro e w4 ⟨rfl, hb2⟩
      replace HB := Lib.hid (bl_trans HB.out hb2)
      clear hb2 HI k0 k1 k2 HV
      cases r3
      · go_wp2_with fail
        go_ret
        exact ⟨by rw [HE.out]; rfl, HB.out⟩
      · go_wp2_with fail
        go_ret
        exact ⟨by rw [HE.out]; rfl, HB.out⟩
theorem u16_nat5 {z : Int} (h : (Lit.int .u16 z).wf = true) : ∃ m : Nat, m < 65536 ∧ z = (m : Int) := by
  have := bounds_u16 h
  exact ⟨z.toNat, by omega, by omega⟩
set_option maxHeartbeats 4000000 in
set_option maxRecDepth 100000 in
theorem print_noB5 {p l i : List (Int × Int)} {ap al ai : Option Addr} {cp cl ci : Nat} {w : World} (hA : PolB5 w ap al ai cp cl ci p l i) (hok : okI5 p l i = false) :
    Calls Tryd.prog 14 #[.agg #[.slice ap p.length cp, .slice al l.length cl, .slice ai i.length ci]] w fun e W => e = .returned (.tuple #[.string ⟨#[]⟩, .int .i64 2]) ∧ Below w.heap.size w W := by
  have HA := Lib.hid hA
  have hf : firstE5 p l i = 2 := by unfold firstE5; rw [hok]; rfl
  have HF := Lib.hid hf
  clear hA hok hf
  go_enter Tryd.func14, Tryd.ntmps14
  go_upto_region 1 with (fail)
  obtain ⟨gp, hgp⟩ : ∃ gp, w.heap.size = gp := ⟨_, rfl⟩
  refine wp_abs (fun V => Below w.heap.size w V ∧ Var V gp [.slice ap p.length cp, .slice al l.length cl, .slice ai i.length ci]) ?_ ?_
  · exact ⟨by repeat (first | (with_reducible exact Below.refl _ _) | (with_reducible refine bl_alloc ?_ _) | (with_reducible refine Below.drew ?_) | (with_reducible refine below_drewN' ?_ _) | ((with_reducible refine bl_set ?_ ?_ _); (rotate_left; (dsimp only; omega)))), var3o_new _ _ _ _ _ _ hgp.symm⟩
  rintro W0 hS0
  have HS0 := Lib.hid hS0
  try rw [hgp]
  clear hS0 hgp
  obtain ⟨k0, k1, k2⟩ := HS0.out.2.three6
  have CK := Lib.hid (checkB_l5 p l i ap al ai cp cl ci W0 (HA.out.below HS0.out.1))
  rw [HF.out] at CK
  go_wp2_with fail
  (with_reducible refine CK.out.mono ?_); rintro e w1 ⟨rfl, hb1⟩
  have HB1 := Lib.hid (bl_trans HS0.out.1 hb1)
  clear hb1 CK HS0 k0 k1 k2
  go_wp2_with fail
  go_ret2
  exact ⟨rfl, HB1.out⟩
end Go.Proofs.YtdpbmkfgolemjaaDoor

/-
  An input's words with other gaps: plain facts.
-/
namespace Go.Proofs.YtdpbmkfgolemjaaDoor
open Go.RowKit

def gapB5 : Nat → ByteArray
  | 0 => ⟨#[32]⟩
  | 1 => ⟨#[10]⟩
  | 2 => ⟨#[9, 13, 32]⟩
  | 3 => ⟨#[32, 35, 32, 112, 111, 108, 121, 32, 49, 10]⟩
  | _ => ⟨#[10, 10, 35, 10]⟩
theorem gap_thru5 (g : List Int) (h : ∀ (t : List Int) (k : Nat), ws false (g ++ t) k = ws false t (k + g.length)) (b : Int) (r : List Int) (e : g = b :: r) (hb : blankZ b = true) : GapOk g := ⟨⟨b, r, e, hb⟩, h⟩
theorem gapB_ok5 (k : Nat) : GapOk (nums (gapB5 k)) := by
  match k with
  | 0 => exact gap_32
  | 1 => exact gap_10
  | 2 => exact gap_thru5 _ (fun t k => by simp [gapB5, nums, ws, blankZ]) 9 _ rfl (by decide)
  | 3 => exact gap_thru5 _ (fun t k => by simp [gapB5, nums, ws, blankZ]) 32 _ rfl (by decide)
  | k + 4 => exact gap_thru5 _ (fun t k => by simp [gapB5, nums, ws, blankZ]) 10 _ rfl (by decide)
theorem gapB_size5 (k : Nat) : (gapB5 k).size ≤ 10 := by
  match k with
  | 0 => decide
  | 1 => decide
  | 2 => decide
  | 3 => decide
  | k + 4 => exact (by decide : (⟨#[10, 10, 35, 10]⟩ : ByteArray).size ≤ 10)
def hash5 : List Int := [35, 120, 10]
theorem hash_thru5 : Thru hash5 := fun t k => by simp [hash5, ws, blankZ]
/-- the words with gaps by a choice -/
def loose5 (ts : List (List Int × List Int)) (f : Nat → Nat) (n : Nat) : List (List Int × List Int) := (List.range n).map fun j => ((ts.getD j ([], [])).1, nums (gapB5 (f j)))
theorem loose_succ5 (ts : List (List Int × List Int)) (f : Nat → Nat) (n : Nat) : loose5 ts f (n + 1) = loose5 ts f n ++ [((ts.getD n ([], [])).1, nums (gapB5 (f n)))] := by
  unfold loose5
  rw [List.range_succ, List.map_append]
  rfl
theorem loose_fst5 (ts : List (List Int × List Int)) (f : Nat → Nat) : (loose5 ts f ts.length).map (·.1) = ts.map (·.1) := by
  apply List.ext_getElem
  · simp [loose5]
  · intro j h1 h2
    simp [loose5] at h1 h2 ⊢
    simp [h1]
theorem loose_ok5 {p l i : List (Int × Int)} (hf : Fit5 p l i) (f : Nat → Nat) : ∀ x ∈ loose5 (lay5 p l i) f (lay5 p l i).length, WordOk x.1 ∧ GapOk x.2 := by
  intro x hx
  unfold loose5 at hx
  rw [List.mem_map] at hx
  obtain ⟨j, hj, rfl⟩ := hx
  rw [List.mem_range] at hj
  refine ⟨?_, gapB_ok5 _⟩
  dsimp only
  rw [List.getD_eq_getElem?_getD, List.getElem?_eq_getElem hj]
  exact lay_words5 hf _ (List.getElem_mem hj)
/-- they are read as the input -/
theorem loose_read5 {p l i : List (Int × Int)} (hok : okI5 p l i = true) (f : Nat → Nat) {u : ByteArray} (hu : nums u = hash5 ++ layG (loose5 (lay5 p l i) f (lay5 p l i).length)) :
    prog5 u = (⟨p, l, i⟩, 0, 0) ∧ (wordsZ (nums u)).length ≤ 20000 ∧ ∀ x ∈ wordsZ (nums u), x.2.length ≤ 10000 := by
  have hf := fit_of5 hok
  have hW : wordsZ (nums u) = layW 3 (loose5 (lay5 p l i) f (lay5 p l i).length) := by
    rw [hu]
    exact words_lay hash_thru5 (loose_ok5 hf f)
  refine ⟨prog_read5 hok u (by rw [hW, layW_snd, loose_fst5, lay_fst5]), ?_, ?_⟩
  · have := lay_count5 hf
    rw [hW, layW_len]
    unfold loose5
    simp
    omega
  · rw [hW]
    refine layW_mem5 (fun x hx => ?_)
    have hm : x.1 ∈ (loose5 (lay5 p l i) f (lay5 p l i).length).map (·.1) := List.mem_map_of_mem hx
    rw [loose_fst5, List.mem_map] at hm
    obtain ⟨y, hy, e⟩ := hm
    rw [← e]
    have := lay_small5 hf y hy
    omega
end Go.Proofs.YtdpbmkfgolemjaaDoor
