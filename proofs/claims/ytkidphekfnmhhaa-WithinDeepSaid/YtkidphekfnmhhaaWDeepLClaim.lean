/-
  Proved: for every slice of points and every slice of slices of numbers the law WithinDeep returns true, and its arguments read as they did. No condition.
-/
import Derived.Test.YtkidphekfnmhhaaWDeepsA
import Derived.Test.YtkidphekfnmhhaaRSegsAll
import Derived.Test.YtkidphekfnmhhaaOpen8
import Derived.Test.YtkidphekfnmhhaaRLoopsAll
import Derived.ProofKit
import Derived.OpenShut
import Derived.Lib.SmallJoins
import Derived.Deep.SlicePairs
import Derived.Carry
import Derived.Test.YtkidphekfnmhhaaKnown3
/-
  The law WithinDeep.
-/
namespace Go.Proofs.Ytkidphekfnmhhaa
open Go.RowKit

theorem deepN_len (p : List Pt) (rs : List (List Int)) : (deepN p rs).length ≤ rs.length := by
  unfold deepN
  split
  · rw [deepL_len]; exact Nat.le_refl _
  · exact Nat.zero_le _
set_option maxHeartbeats 16000000 in
set_option maxRecDepth 100000 in
theorem wdeep_l (w : World) (p : List Pt) (ap : Option Addr) (cp : Nat) (_ : p.length ≤ cp) (hP : PtRow w ap p) (_ : ap = none → cp = 0) (rs : List (List Int)) (ar : Option Addr) (cr : Nat) (_ : rs.length ≤ cr) (hR : RowsAt w ar rs) (_ : ar = none → cr = 0) :
    Calls Try.prog 5 #[.slice ap p.length cp, .slice ar rs.length cr] w (Gives (.bool true) w) := by
  have KN := Lib.hid (fun W => lawK_l W)
  have HP := Lib.hid hP
  have HRs := Lib.hid hR
  clear hP hR
  go_enter Try.func5, Try.ntmps5
  go_wp2_with fail
  go_loopw [5, 6] (fun nv iv W => ∃ i m : Nat, i ≤ rs.length ∧ iv = .int .i64 i ∧ nv = .int .i64 m ∧ rs.length ≤ m ∧ (∀ j, j < i → m < 300 → (ringOf rs j).length < 300) ∧ Below w.heap.size w W) (fun _ iv _ => rs.length - (intOf iv).toNat)
  case atStart => exact ⟨0, rs.length, Nat.zero_le _, rfl, rfl, Nat.le_refl _, fun j hj => absurd hj (Nat.not_lt_zero _), Below.refl _ _⟩
  case round =>
    obtain ⟨i, m, hi9, rfl, rfl, hm, hS, hB⟩ := hrel
    have HB := Lib.hid hB
    have HS := Lib.hid hS
    clear hB hS
    by_cases hil : i < rs.length
    · have q1 : ((i : Int) < (rs.length : Int)) = True := eq_true (by omega)
      have q2 : (i < rs.length) = True := eq_true hil
      have q3 : ((0 : Int) ≤ (i : Int)) = True := eq_true (by omega)
      by_cases hm3 : m < 300
      · have u1 : ((m : Int) < 300) = True := eq_true (by omega)
        have u2 : (m < 300) = True := eq_true hm3
        obtain ⟨gr, or, rfl⟩ := HRs.out.some (by omega)
        obtain ⟨R, hR⟩ : ∃ R, ringOf rs i = R := ⟨_, rfl⟩
        obtain ⟨a5, c5, k5w, -, -, -⟩ := HRs.out.at hil ((ringOf_at hil).symm.trans hR)
        have k5 := (HB.out.cell (cell_lt k5w)).trans k5w
        obtain ⟨mn, hmn⟩ : ∃ z : Nat, min R.length 300 = z := ⟨_, rfl⟩
        have HM1 := Lib.hid (show min (R.length : Int) 300 = (mn : Int) by omega)
        have HM2 : Hid (mn < 300 → R.length < 300) := fun h => by omega
        have HRR := Lib.hid hR
        have hmn3 : mn ≤ 300 := by omega
        have W1 := Lib.hid (show wrap64 ((m : Int) + (mn : Int)) = ((m + mn : Nat) : Int) by unfold wrap64; omega)
        have W2 := Lib.hid (show IntKind.i64.wrap ((m : Int) + (mn : Int)) = ((m + mn : Nat) : Int) by rw [show ((m + mn : Nat) : Int) = (m : Int) + (mn : Int) by omega]; exact IntWalk.i64_in _ (by omega))
        have N1 : Hid (wrap64 ((i : Int) + 1) = ((i + 1 : Nat) : Int)) ∨ ¬ i ≤ 300 := by
          by_cases h : i ≤ 300
          · exact .inl (show wrap64 ((i : Int) + 1) = ((i + 1 : Nat) : Int) by unfold wrap64; omega)
          · exact .inr h
        have hi3 : i ≤ 300 := by omega
        have N2 := Lib.hid (wnum (i := i) (by omega))
        clear hR k5w hmn N1
        obtain ⟨n1, n2, n3, n4⟩ := N2.out
        have w1 := W1.out
        have w2 := W2.out
        have w3 := HM1.out
        go_wp2_with fail
        clear n1 n2 n3 n4 w1 w2 w3
        refine ⟨⟨i + 1, m + mn, hil, by rw [Int.natCast_add]; rfl, by first | rfl | rw [Int.natCast_add], by omega, fun j hj hmm => ?_, HB.out⟩, by simp [intOf]; omega⟩
        rcases Nat.lt_or_eq_of_le (Nat.le_of_lt_succ hj) with h | rfl
        · exact HS.out j h (by omega)
        · rw [HRR.out]; exact HM2.out (by omega)
      · have u1 : ((m : Int) < 300) = False := eq_false (by omega)
        have u2 : (m < 300) = False := eq_false hm3
        have u3 : ((300 : Int) ≤ (m : Int)) = True := eq_true (by omega)
        have u4 : (300 ≤ m) = True := eq_true (by omega)
        go_wp2_with fail
        (with_reducible refine (KN.out _).mono ?_); rintro e wk ⟨rfl, hbk⟩
        have HZ := Lib.hid (bl_trans HB.out hbk)
        clear hbk
        go_wp2_with fail
        go_ret
        exact ⟨rfl, HZ.out⟩
    · obtain rfl : i = rs.length := by omega
      have q1 : ((rs.length : Int) < (rs.length : Int)) = False := eq_false (by omega)
      by_cases hm3 : 300 ≤ m
      · have u3 : ((300 : Int) ≤ (m : Int)) = True := eq_true (by omega)
        have u4 : (300 ≤ m) = True := eq_true hm3
        go_wp2_with fail
        (with_reducible refine (KN.out _).mono ?_); rintro e wk ⟨rfl, hbk⟩
        have HZ := Lib.hid (bl_trans HB.out hbk)
        clear hbk
        go_wp2_with fail
        go_ret
        exact ⟨rfl, HZ.out⟩
      have u3 : ((300 : Int) ≤ (m : Int)) = False := eq_false (by omega)
      have u4 : (300 ≤ m) = False := eq_false hm3
      by_cases hp2 : 200 < p.length
      · have u5 : ((200 : Int) < (p.length : Int)) = True := eq_true (by omega)
        have u6 : (200 < p.length) = True := eq_true hp2
        go_wp2_with fail
        (with_reducible refine (KN.out _).mono ?_); rintro e wk ⟨rfl, hbk⟩
        have HZ := Lib.hid (bl_trans HB.out hbk)
        clear hbk
        go_wp2_with fail
        go_ret
        exact ⟨rfl, HZ.out⟩
      have u5 : ((200 : Int) < (p.length : Int)) = False := eq_false (by omega)
      have u6 : (200 < p.length) = False := eq_false hp2
      have hlen : rs.length ≤ 10000 := by omega
      have hlr : ∀ j, j < rs.length → (ringOf rs j).length ≤ 10000 := fun j hj => by have := HS.out j hj (by omega); omega
      have HD1 := Lib.hid (deep9_l p rs ap ar cp cr wr (HP.out.below HB.out) (HRs.out.below HB.out) hlen hlr)
      have HD2 := Lib.hid (fun W (h : Below wr.heap.size wr W) => rdeep9_l p rs ap ar cp cr W (HP.out.below (bl_trans HB.out h)) (HRs.out.below (bl_trans HB.out h)) hlen hlr)
      have HDl : Hid ((deepN p rs).length ≤ 100000) := Nat.le_trans (deepN_len p rs) (by omega)
      clear hlr hm3 hp2 HS
      generalize deepN p rs = X at *
      generalize deepE p rs = ee at *
      go_wp2_with fail
      (with_reducible refine HD1.out.mono ?_); rintro e w2 ⟨v2, rfl, hI, hb2⟩
      obtain ⟨a2, c2, rfl, -, hr2, -⟩ := hI
      have HR2 := Lib.hid hr2
      have HD3 := Lib.hid (HD2.out _ hb2)
      replace HB := Lib.hid (bl_trans HB.out hb2)
      clear hr2 hb2 HD1 HD2
      go_wp2_with fail
      (with_reducible refine HD3.out.mono ?_); rintro e w3 ⟨v3, rfl, hI, hb2⟩
      obtain ⟨a3, c3, rfl, -, hr3, -⟩ := hI
      have HSm := Lib.hid (sameInts_l X X a2 a3 c2 c3 X.length X.length w3 (HR2.out.below hb2) hr3 rfl rfl HDl.out)
      rw [decide_eq_true (rfl : X = X)] at HSm
      replace HB := Lib.hid (bl_trans HB.out hb2)
      clear hr3 hb2 HD3 HR2
      go_wp2_with fail
      (with_reducible refine HSm.out.mono ?_); rintro e w4 ⟨rfl, hb2⟩
      replace HB := Lib.hid (bl_trans HB.out hb2)
      clear hb2 HSm
      go_wp2_with fail
      (with_reducible refine (KN.out _).mono ?_); rintro e wk ⟨rfl, hbk⟩
      have HZ := Lib.hid (bl_trans HB.out hbk)
      clear hbk
      go_wp2_with fail
      go_ret
      exact ⟨rfl, HZ.out⟩
end Go.Proofs.Ytkidphekfnmhhaa

/-
  A slice of slices of numbers that comes in: opened.
-/
namespace Go.Proofs.Ytkidphekfnmhhaa
open Go.RowKit Go.ChangeShapes Go.WideShapes Go.ChangeAt Go.Deep

set_option maxRecDepth 100000 in
theorem open_in9 {H : Type} {enc : TypeId × Value → H} {w : World} {spare : Nat → Bool} {held : Bool} {V : Value} {fuel : Nat} {x : DataW H × List MemPlace}
    (hf : DataW.trod enc Try.prog w 0 spare held fuel 36 [V] = some x) : ∃ l : List Int, ∃ ad cap, V = .slice ad l.length cap ∧ l.length ≤ cap ∧ IntRow w ad l ∧ (ad = none → cap = 0) := by
  have hC : Try.prog.cellsOf 3 = 1 := by kernel_rfl
  rcases open_slice1 Try.underlying36 hC hf with ⟨hcs, -⟩ | ⟨a, len0, cap0, m, n, V', D, Pl, hcs, -, hl, hm, hmm, -, hx⟩
  · simp only [List.cons.injEq, and_true] at hcs
    subst hcs
    exact ⟨[], none, 0, rfl, Nat.le_refl _, intRow_nil _ _, fun _ => rfl⟩
  simp only [List.cons.injEq, and_true] at hcs
  subst hcs
  have hlm : len0 ≤ m := by rw [hmm]; split <;> omega
  have key : ∀ i, i < len0 → ∃ z : Int, w.cell? (a.add i) = some (.int .i64 z) := by
    intro i hi
    obtain ⟨h1, h2⟩ := hx i (by omega)
    obtain ⟨z, e, -, wz⟩ := DataW.trod_int Try.underlying3 h2
    simp at e
    exact ⟨z, by rw [h1, e]⟩
  obtain ⟨f, hf'⟩ := choose_lt key
  have hll : ((List.range len0).map f).length = len0 := by simp
  refine ⟨(List.range len0).map f, some a, cap0, by rw [hll], by rw [hll]; exact hl, fun i hi => ?_, fun h => (by cases h)⟩
  rw [hll] at hi
  obtain ⟨g, o, sp⟩ := a
  have hsp : sp = none := by simpa [Addr.add] using World.cell?_spot (hf' 0 (by omega))
  subst hsp
  refine ⟨g, o, rfl, ?_⟩
  have h1 := hf' i hi
  rw [add_plain] at h1
  rw [h1]
  simp
set_option maxRecDepth 100000 in
theorem open_rows9 {H : Type} {enc : TypeId × Value → H} {w : World} {r : Reach} {b0 : Nat} {spare : Nat → Bool} {held : Bool} {v : Value} {d : DataW H} {p : List MemPlace}
    (hv : Value.okWide Try.prog w r b0 39 v) (h : DataW.Trod enc Try.prog w 0 spare held 39 v d p) : ∃ L : List (List Int), ∃ ad cap, v = .slice ad L.length cap ∧ L.length ≤ cap ∧ RowsAt w ad L ∧ (ad = none → cap = 0) := by
  obtain ⟨a0, len0, cap0, rfl⟩ := okWide_slice Try.underlying39 hv
  obtain ⟨fuel, hf⟩ := h
  have hC : Try.prog.cellsOf 36 = 1 := by kernel_rfl
  rcases open_slice1 Try.underlying39 hC hf with ⟨hcs, -⟩ | ⟨a, len, cap, m, n, V, D, Pl, hcs, -, hl, hm, hmm, -, hx⟩
  · simp [Value.cells] at hcs
    obtain ⟨rfl, rfl, rfl⟩ := hcs
    exact ⟨[], none, 0, rfl, Nat.le_refl _, fun i hi => absurd hi (Nat.not_lt_zero _), fun _ => rfl⟩
  simp [Value.cells] at hcs
  obtain ⟨rfl, rfl, rfl⟩ := hcs
  have hlm : len0 ≤ m := by rw [hmm]; split <;> omega
  have key : ∀ i, i < len0 → ∃ l : List Int, ∃ ad cap, w.cell? (a.add i) = some (.slice ad l.length cap) ∧ l.length ≤ cap ∧ IntRow w ad l ∧ (ad = none → cap = 0) := by
    intro i hi
    obtain ⟨h1, h2⟩ := hx i (by omega)
    obtain ⟨l, ad, cp, e, k1, k2, k3⟩ := open_in9 h2
    exact ⟨l, ad, cp, by rw [h1, e], k1, k2, k3⟩
  obtain ⟨f, hf'⟩ := choose_lt key
  have hll : ((List.range len0).map f).length = len0 := by simp
  refine ⟨(List.range len0).map f, some a, cap0, by rw [hll], by rw [hll]; exact hl, fun i hi => ?_, fun h => (by cases h)⟩
  rw [hll] at hi
  obtain ⟨g, o, sp⟩ := a
  obtain ⟨ad, cp, h1, h2, h3, h4⟩ := hf' i hi
  have hsp : sp = none := by
    obtain ⟨_, _, h0, -⟩ := hf' 0 (by omega)
    simpa [Addr.add] using World.cell?_spot h0
  subst hsp
  rw [add_plain] at h1
  have e : ((List.range len0).map f)[i]'(by rw [hll]; exact hi) = f i := by simp
  exact ⟨g, o, ad, cp, rfl, by rw [e]; exact h1, by rw [e]; exact h2, by rw [e]; exact h3, h4⟩
end Go.Proofs.Ytkidphekfnmhhaa

namespace Go.Proofs.Ytkidphekfnmhhaa.withinDeep
open Go.ChangeShapes Go.WideShapes Go.ChangeAt Go.RowKit

theorem own : ownKnob Try.prog.godebug = none := by kernel_rfl

set_option maxRecDepth 100000 in
theorem lifted (os : Os) (started : os.Started) (H : Type) (enc : TypeId × Value → H) :
    ReturnsInHanded {} Try.checked os 5 .any (Rows.withinDeepSpec.pre6 enc Try.prog Try.f5 Rows.withinDeepRow.domain false) (Rows.withinDeepSpec.post enc Try.prog Try.f5 false true false false) := by
  refine returnsInHanded_of_change (C := Try.checked) own started (by kernel_rfl) Try.func5
    (ChangeSpec.witness6 (enc := enc) (C := Try.checked) false ⟨#[], #[.slice none 0 0, .slice none 0 0], []⟩ 8 (by kernel_rfl) (by kernel_rfl) (by kernel_rfl) (by kernel_rfl)) ?_
  intro W base args ds gs before hval0 hW _ _
  have hval : ∀ (j : Nat) t v, Try.f5.params[j]? = some t → args[j]? = some v → Value.okWide Try.prog W .any base t v := hval0
  have hW' := hW
  obtain ⟨p, q, hA0, hV, rfl, -, -⟩ := hW
  have hA : DataW.TrodAll enc Try.prog W 0 (fun _ => true) true Try.f5.params.toList args.toList ds p := hA0
  rw [Try.params5] at hA hval
  obtain ⟨v0, vs0, d0, ds0, p0, q0, hargs0, rfl, rfl, h0, r0⟩ := trodAll_cons hA
  obtain ⟨v1, vs1, d1, ds1, p1, q1, hargs1, rfl, rfl, h1, r1⟩ := trodAll_cons r0
  obtain ⟨rfl, rfl, rfl⟩ := trodAll_nil r1
  obtain rfl : args = #[v0, v1] := by cases args; simp_all
  obtain ⟨rfl, rfl⟩ := trodVars_none hV
  obtain ⟨l0, ad0, cp0, rfl, hc0, hr0, hn0⟩ := open_pts8 (hval 0 22 v0 rfl rfl) h0
  obtain ⟨l1, ad1, cp1, rfl, hc1, hr1, hn1⟩ := open_rows9 (hval 1 39 v1 rfl rfl) h1
  clear hA0 hval0
  have hlt0 : ∀ x ∈ p0, x.block < W.heap.size := fun x hx => by simpa using hW'.lt x (by simp; exact .inl hx)
  have hlt1 : ∀ x ∈ p1, x.block < W.heap.size := fun x hx => by simpa using hW'.lt x (by simp; exact .inr hx)
  simp only [List.append_nil] at hW'
  refine (wdeep_l W l0 ad0 cp0 hc0 hr0 hn0 l1 ad1 cp1 hc1 hr1 hn1).mono fun e W' h => ?_
  obtain ⟨he, hb⟩ := h
  subst he
  have hargs9 : DataW.TrodAll enc Try.prog W' 0 (fun b => decide (b < W.heap.size)) true [22, 39] [.slice ad0 l0.length cp0, .slice ad1 l1.length cp1] [d0, d1] (p0 ++ p1) := by
    simpa using trodAll_cons_mk (Below.trod (by kernel_rfl) (by kernel_rfl) (of_decide_eq_true (by kernel_rfl)) h0 hb hlt0) (trodAll_cons_mk (Below.trod (by kernel_rfl) (by kernel_rfl) (of_decide_eq_true (by kernel_rfl)) h1 hb hlt1) trodAll_mk0)
  exact ⟨_, rfl, _, _, _, [], (p0 ++ p1), [], hW', trodAll_cons_mk (shut_bool Try.underlying4 _) trodAll_mk0, hargs9, rfl, hb.frame _, fun h => by cases h⟩

theorem proved : Rows.WithinDeepSaid :=
  OpenClaim.holds_of_wide 5 Try.f5 rfl rfl rfl rfl rfl rfl rfl ⟨rfl, rfl, rfl, rfl, rfl⟩ rfl rfl rfl rfl rfl (by kernel_rfl) Try.func5 (by kernel_rfl)
    (of_decide_eq_true (by kernel_rfl)) (by unfold Func.isWrapper; first | (rw [if_pos (by decide +kernel)]; kernel_rfl) | (rw [if_neg (by decide +kernel)]; exact ⟨rfl, rfl⟩))
    (fun os started H enc _ => lifted os started H enc)
end Go.Proofs.Ytkidphekfnmhhaa.withinDeep
