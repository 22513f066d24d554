/-
  Contracts of pred's numbers of 128 bits: wide, longOf.
-/
import Derived.Test.YtojfggnimmaemaaLong
import Derived.Test.YtojfggnimmaemaaVar
namespace Go.Proofs.Ytojfggnimmaemaa
open Go.RowKit

theorem q_long {z : Int} (hz : B127 z) : Q2 z = 0 ∧ Q3 z = 0 ∧ (z < 0 → QM z = true ∧ Q0 z = LL (-z) ∧ Q1 z = LH (-z)) ∧ (0 ≤ z → QM z = false ∧ Q0 z = LL z ∧ Q1 z = LH z) := by
  unfold B127 at hz
  refine ⟨?_, ?_, fun h => ⟨?_, ?_, ?_⟩, fun h => ⟨?_, ?_, ?_⟩⟩
  · unfold Q2; omega
  · unfold Q3; omega
  · unfold QM; simp [h]
  · unfold Q0 LL; omega
  · unfold Q1 LH; omega
  · unfold QM; simp; omega
  · unfold Q0 LL; omega
  · unfold Q1 LH; omega
theorem minus0_l (z : Int) (w : World) : Calls Try.prog 82 #[.agg #[.int .u64 0, .int .u64 0], (.agg #[.int .u64 (LH (z)), .int .u64 (LL (z))])] w (Gives (.agg #[.int .u64 (LH (-z)), .int .u64 (LL (-z))]) w) := by
  have h := minus_l 0 z w
  rw [show LH 0 = 0 from rfl, show LL 0 = 0 from rfl, Int.zero_sub] at h
  exact h

set_option maxHeartbeats 1000000 in
set_option maxRecDepth 100000 in
theorem longWide_l (z : Int) (hz : B127 z) (w : World) : Calls Try.prog 87 #[(.agg #[.int .u64 (LH (z)), .int .u64 (LL (z))])] w (Gives (.agg #[.bool (QM (z)), .int .u64 (Q0 (z)), .int .u64 (Q1 (z)), .int .u64 (Q2 (z)), .int .u64 (Q3 (z))]) w) := by
  obtain ⟨q2, q3, qn, qp⟩ := q_long hz
  rw [q2, q3]
  have HZ := Lib.hid hz
  clear hz
  rcases Int.lt_or_le z 0 with h | h
  · obtain ⟨r0, r1, r2⟩ := qn h
    have hs : Hid (sg3 z = -1) := sg3_lt h
    rw [r0, r1, r2]
    clear qn qp r0 r1 r2 q2 q3 h
    go_enter Try.func87, Try.ntmps87
    go_upto_region 1 with (fail)
    refine wp_abs (fun W => Var W w.heap.size [.int .u64 (LH z), .int .u64 (LL z)] ∧ Var W (w.heap.size + 1) [.bool false, .int .u64 0, .int .u64 0, .int .u64 0, .int .u64 0] ∧ Grew w 2 W) ?_ ?_
    · exact ⟨(var2_new _ _ _ _ _ rfl).below (bl_one _ _), var5_new _ _ _ _ _ _ _ _ (by simp), by repeat (first | (with_reducible exact Below.refl _ _) | (with_reducible refine bl_alloc ?_ _) | (with_reducible refine Below.drew ?_) | (with_reducible refine below_drewN' ?_ _) | ((with_reducible refine bl_set ?_ ?_ _); (rotate_left; (dsimp only; omega)))), by simp⟩
    rintro W0 ⟨v1, v2, hG⟩
    have HV := Lib.hid (And.intro v1 (And.intro v2 hG))
    obtain ⟨c0, c1⟩ := v1.two
    clear v1 v2 hG
    go_wp2_with fail
    refine (sign_l z HZ.out _).mono ?_
    rintro e w1 ⟨rfl, hb1⟩
    rw [hs.out]
    have HV1 := Lib.hid (And.intro (HV.out.1.below hb1) (And.intro (HV.out.2.1.below hb1) (HV.out.2.2.below hb1)))
    clear HV c0 c1 hb1
    obtain ⟨c0, c1⟩ := HV1.out.1.two
    go_wp2_with fail
    refine (minus0_l z _).mono ?_
    rintro e w2 ⟨rfl, hb2⟩
    have HV2 := Lib.hid (And.intro (HV1.out.1.below hb2) (And.intro (HV1.out.2.1.below hb2) (HV1.out.2.2.below hb2)))
    clear HV1 c0 c1 hb2
    obtain ⟨c0, c1⟩ := HV2.out.1.two
    obtain ⟨f0, f1⟩ := HV2.out.1.free2
    obtain ⟨d0, d1, d2, d3, d4⟩ := HV2.out.2.1.five
    obtain ⟨g0, g1, g2, g3, g4⟩ := HV2.out.2.1.free5
    go_wp2
    have hb := HV2.out.2.2.hb
    refine bodyPost_ret (v := .agg #[.bool true, .int .u64 (LL (-z)), .int .u64 (LH (-z)), .int .u64 0, .int .u64 0]) (by simp [results, Try.results87, go_sem, *]; done) rfl ⟨rfl, ?_⟩
    repeat (first | (with_reducible exact Below.refl _ _) | (with_reducible refine bl_alloc ?_ _) | (with_reducible refine Below.drew ?_) | (with_reducible refine below_drewN' ?_ _) | ((with_reducible refine bl_set ?_ ?_ _); (rotate_left; (dsimp only; omega))))
    exact hb
  · obtain ⟨r0, r1, r2⟩ := qp h
    obtain ⟨s, hs, hs0⟩ : ∃ s, Hid (s = sg3 z) ∧ 0 ≤ s := by
      rcases sg3_vals z with ⟨h1, e⟩ | ⟨-, e⟩ | ⟨-, e⟩
      · omega
      · exact ⟨0, e.symm, by omega⟩
      · exact ⟨1, e.symm, by omega⟩
    have b : decide (s < 0) = false := by simp; omega
    rw [r0, r1, r2]
    clear qn qp r0 r1 r2 q2 q3 h
    go_enter Try.func87, Try.ntmps87
    go_wp2_with fail
    refine (sign_l z HZ.out _).mono ?_
    rintro e w1 ⟨rfl, hb1⟩
    rw [← hs.out]
    obtain ⟨c1, f1⟩ := bcell hb1
    have hz1 : w.heap.size + 1 < w1.heap.size := by have := hb1.size; simp at this; omega
    go_wp2
    refine bodyPost_ret (v := .agg #[.bool false, .int .u64 (LL z), .int .u64 (LH z), .int .u64 0, .int .u64 0]) (by simp [results, Try.results87, go_sem, c1]; done) rfl ⟨rfl, by repeat (first | (with_reducible exact Below.refl _ _) | (with_reducible refine bl_alloc ?_ _) | (with_reducible refine Below.drew ?_) | (with_reducible refine below_drewN' ?_ _) | (with_reducible refine bl_trans ?_ hb1) | ((with_reducible refine bl_set ?_ ?_ _); (rotate_left; (dsimp only; omega))))⟩

theorem lh_small {x : Int} (h : -9223372036854775808 ≤ x ∧ x ≤ 9223372036854775807) : Up (IntKind.u64.wrap x) = LH x ∧ IntKind.u64.wrap x = LL x := by
  rw [u64_of]
  unfold Up LH LL
  split <;> omega
set_option maxHeartbeats 1000000 in
set_option maxRecDepth 100000 in
theorem longOf_l (x : Int) (hx : -9223372036854775808 ≤ x ∧ x ≤ 9223372036854775807) (w : World) : Calls Try.prog 73 #[.int .i64 x] w (Gives (.agg #[.int .u64 (LH (x)), .int .u64 (LL (x))]) w) := by
  obtain ⟨e1, e2⟩ := lh_small hx
  have HL := Lib.hid (ll_in x)
  rw [e2] at e1
  have E1 := Lib.hid e1
  have HX := Lib.hid hx
  clear e1 hx
  go_enter Try.func73, Try.ntmps73
  go_wp2_with fail
  refine (upper_l _ HL.out _).mono ?_
  rintro e w1 ⟨rfl, rfl⟩
  rw [E1.out]
  go_wp2
  refine bodyPost_ret (v := (.agg #[.int .u64 (LH (x)), .int .u64 (LL (x))])) (by simp [results, Try.results73, go_sem]; done) rfl ⟨rfl, by repeat (first | (with_reducible exact Below.refl _ _) | (with_reducible refine bl_alloc ?_ _) | (with_reducible refine Below.drew ?_) | (with_reducible refine below_drewN' ?_ _) | ((with_reducible refine bl_set ?_ ?_ _); (rotate_left; (dsimp only; omega))))⟩
end Go.Proofs.Ytojfggnimmaemaa
