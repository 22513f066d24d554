/-
  Contracts of pred's numbers of 128 bits: times, plus, minus, sign, upper, small, longOf.
-/
import Derived.Test.YtojfggnimmaemaaLongMath
import Derived.Test.YtojfggnimmaemaaMul
import Derived.Test.YtojfggnimmaemaaKnown0
import Derived.Deep.RegionHeld3
namespace Go.Proofs.Ytojfggnimmaemaa
open Go.RowKit

theorem time_math {x y h l : Int} (hx : -9223372036854775808 ≤ x ∧ x ≤ 9223372036854775807) (hy : -9223372036854775808 ≤ y ∧ y ≤ 9223372036854775807) (_hh : In1 h) (hl : In1 l) (e : h * 18446744073709551616 + l = (x % 18446744073709551616) * (y % 18446744073709551616))
    (s t : Int) (hs : s = if x < 0 then y else 0) (ht : t = if y < 0 then x else 0) : (h - s - t) % 18446744073709551616 = LH (x * y) ∧ l = LL (x * y) := by
  have e2 : ∃ k : Int, (x % 18446744073709551616) * (y % 18446744073709551616) = x * y + 18446744073709551616 * (s + t) + 340282366920938463463374607431768211456 * k := by
    subst hs ht
    by_cases h1 : x < 0 <;> by_cases h2 : y < 0
    · refine ⟨1, ?_⟩
      rw [show x % 18446744073709551616 = x + 18446744073709551616 by omega, show y % 18446744073709551616 = y + 18446744073709551616 by omega, if_pos h1, if_pos h2]
      grind
    · refine ⟨0, ?_⟩
      rw [show x % 18446744073709551616 = x + 18446744073709551616 by omega, show y % 18446744073709551616 = y by omega, if_pos h1, if_neg h2]
      grind
    · refine ⟨0, ?_⟩
      rw [show x % 18446744073709551616 = x by omega, show y % 18446744073709551616 = y + 18446744073709551616 by omega, if_neg h1, if_pos h2]
      grind
    · refine ⟨0, ?_⟩
      rw [show x % 18446744073709551616 = x by omega, show y % 18446744073709551616 = y by omega, if_neg h1, if_neg h2]
      grind
  obtain ⟨k, e2⟩ := e2
  rw [e2] at e
  generalize x * y = p at *
  clear e2 hx hy
  unfold In1 at *
  unfold LH LL
  omega

set_option maxHeartbeats 1000000 in
set_option maxRecDepth 100000 in
theorem times_l (x y : Int) (hx : -9223372036854775808 ≤ x ∧ x ≤ 9223372036854775807) (hy : -9223372036854775808 ≤ y ∧ y ≤ 9223372036854775807) (w : World) :
    Calls Try.prog 81 #[.int .i64 x, .int .i64 y] w (Gives (.agg #[.int .u64 (LH (x * y)), .int .u64 (LL (x * y))]) w) := by
  have ux : IntKind.u64.wrap x = x % 18446744073709551616 := u64_of x
  have uy : IntKind.u64.wrap y = y % 18446744073709551616 := u64_of y
  have HX := Lib.hid hx
  have HY := Lib.hid hy
  have hxs : (decide (x < 0) = true ∧ x < 0) ∨ (decide (x < 0) = false ∧ ¬ x < 0) := by by_cases h : x < 0 <;> simp [h]
  have hys : (decide (y < 0) = true ∧ y < 0) ∨ (decide (y < 0) = false ∧ ¬ y < 0) := by by_cases h : y < 0 <;> simp [h]
  clear hx hy
  have ix : In1 (x % 18446744073709551616) := by unfold In1; omega
  have iy : In1 (y % 18446744073709551616) := by unfold In1; omega
  have HM := Lib.hid (fun W => mul64_c _ _ ix iy W)
  rcases hxs with ⟨bx, sx⟩ | ⟨bx, sx⟩ <;> rcases hys with ⟨b_y, sy⟩ | ⟨b_y, sy⟩
  all_goals
    have SX := Lib.hid sx
    have SY := Lib.hid sy
    clear sx sy
    go_enter Try.func81, Try.ntmps81
    go_wp2_with (first
      | (go_at_call 99; (with_reducible refine (HM.out _).mono ?_); rintro e w' ⟨h, l, hh, hl, hv, rfl, rfl⟩)
      | go_in)
    obtain ⟨q1, q2⟩ := time_math HX.out HY.out hh hl hv.out (if x < 0 then y else 0) (if y < 0 then x else 0) rfl rfl
    first | rw [if_pos SX.out] at q1 | rw [if_neg (by have := SX.out; omega)] at q1
    first | rw [if_pos SY.out] at q1 | rw [if_neg (by have := SY.out; omega)] at q1
    subst q2
    unfold In1 at hh
    first
      | (have E : IntKind.u64.wrap (IntKind.u64.wrap (h - y % 18446744073709551616) - x % 18446744073709551616) = LH (x * y) := by
           rw [u64_of, u64_of, ← q1]; omega
         refine bodyPost_ret (v := (.agg #[.int .u64 (LH (x * y)), .int .u64 (LL (x * y))])) (by simp [results, Try.results81, go_sem, E]; done) rfl ⟨rfl, by repeat (first | (with_reducible exact Below.refl _ _) | (with_reducible refine bl_alloc ?_ _) | (with_reducible refine Below.drew ?_) | (with_reducible refine below_drewN' ?_ _) | ((with_reducible refine bl_set ?_ ?_ _); (rotate_left; (dsimp only; omega))))⟩)
      | (have E : IntKind.u64.wrap (h - y % 18446744073709551616) = LH (x * y) := by
           rw [u64_of, ← q1]; omega
         refine bodyPost_ret (v := (.agg #[.int .u64 (LH (x * y)), .int .u64 (LL (x * y))])) (by simp [results, Try.results81, go_sem, E]; done) rfl ⟨rfl, by repeat (first | (with_reducible exact Below.refl _ _) | (with_reducible refine bl_alloc ?_ _) | (with_reducible refine Below.drew ?_) | (with_reducible refine below_drewN' ?_ _) | ((with_reducible refine bl_set ?_ ?_ _); (rotate_left; (dsimp only; omega))))⟩)
      | (have E : IntKind.u64.wrap (h - x % 18446744073709551616) = LH (x * y) := by
           rw [u64_of, ← q1]; omega
         refine bodyPost_ret (v := (.agg #[.int .u64 (LH (x * y)), .int .u64 (LL (x * y))])) (by simp [results, Try.results81, go_sem, E]; done) rfl ⟨rfl, by repeat (first | (with_reducible exact Below.refl _ _) | (with_reducible refine bl_alloc ?_ _) | (with_reducible refine Below.drew ?_) | (with_reducible refine below_drewN' ?_ _) | ((with_reducible refine bl_set ?_ ?_ _); (rotate_left; (dsimp only; omega))))⟩)
      | (have E : h = LH (x * y) := by
           rw [← q1]; omega
         refine bodyPost_ret (v := (.agg #[.int .u64 (LH (x * y)), .int .u64 (LL (x * y))])) (by simp [results, Try.results81, go_sem, E]; done) rfl ⟨rfl, by repeat (first | (with_reducible exact Below.refl _ _) | (with_reducible refine bl_alloc ?_ _) | (with_reducible refine Below.drew ?_) | (with_reducible refine below_drewN' ?_ _) | ((with_reducible refine bl_set ?_ ?_ _); (rotate_left; (dsimp only; omega))))⟩)

theorem times_r (x y : Int) (hx : R64 x) (hy : R64 y) (w : World) : Calls Try.prog 81 #[.int .i64 x, .int .i64 y] w (Gives (.agg #[.int .u64 (LH (x * y)), .int .u64 (LL (x * y))]) w) := times_l x y hx hy w
theorem lhl (z : Int) (h : B127 z) : ∃ e : Int, LH z * 18446744073709551616 + LL z = z + 340282366920938463463374607431768211456 * e ∧ (z < 0 → e = 1) ∧ (0 ≤ z → e = 0) := by
  unfold B127 at h
  unfold LH LL
  rcases Int.lt_or_le z 0 with h0 | h0
  · exact ⟨1, by omega, fun _ => rfl, fun h => by omega⟩
  · exact ⟨0, by omega, fun h => by omega, fun _ => rfl⟩

set_option maxHeartbeats 1000000 in
set_option maxRecDepth 100000 in
theorem plus_l (x y : Int) (w : World) : Calls Try.prog 85 #[(.agg #[.int .u64 (LH (x)), .int .u64 (LL (x))]), (.agg #[.int .u64 (LH (y)), .int .u64 (LL (y))])] w (Gives (.agg #[.int .u64 (LH (x + y)), .int .u64 (LL (x + y))]) w) := by
  obtain ⟨s0, c0, g0, h0⟩ := add64_ex (LL x) (LL y) 0 (ll_in _) (ll_in _) (by omega) (by omega)
  obtain ⟨s1, c1, g1, h1⟩ := add64_ex (LH x) (LH y) c0 (lh_in _) (lh_in _) g0.out.2.1 g0.out.2.2.1
  obtain ⟨e1, e2⟩ : s1 = LH (x + y) ∧ s0 = LL (x + y) := by
    have a := g0.out
    have b := g1.out
    unfold In1 LH LL at *
    omega
  subst e1 e2
  go_enter Try.func85, Try.ntmps85
  go_wp2
  refine bodyPost_ret (v := (.agg #[.int .u64 (LH (x + y)), .int .u64 (LL (x + y))])) (by simp [results, Try.results85, go_sem]; done) rfl ⟨rfl, by repeat (first | (with_reducible exact Below.refl _ _) | (with_reducible refine bl_alloc ?_ _) | (with_reducible refine Below.drew ?_) | (with_reducible refine below_drewN' ?_ _) | ((with_reducible refine bl_set ?_ ?_ _); (rotate_left; (dsimp only; omega))))⟩
set_option maxHeartbeats 1000000 in
set_option maxRecDepth 100000 in
theorem minus_l (x y : Int) (w : World) : Calls Try.prog 82 #[(.agg #[.int .u64 (LH (x)), .int .u64 (LL (x))]), (.agg #[.int .u64 (LH (y)), .int .u64 (LL (y))])] w (Gives (.agg #[.int .u64 (LH (x - y)), .int .u64 (LL (x - y))]) w) := by
  obtain ⟨s0, c0, g0, h0⟩ := sub64_ex (LL x) (LL y) 0 (ll_in _) (ll_in _) (by omega) (by omega)
  obtain ⟨s1, c1, g1, h1⟩ := sub64_ex (LH x) (LH y) c0 (lh_in _) (lh_in _) g0.out.2.1 g0.out.2.2.1
  obtain ⟨e1, e2⟩ : s1 = LH (x - y) ∧ s0 = LL (x - y) := by
    have a := g0.out
    have b := g1.out
    unfold In1 LH LL at *
    omega
  subst e1 e2
  go_enter Try.func82, Try.ntmps82
  go_wp2
  refine bodyPost_ret (v := (.agg #[.int .u64 (LH (x - y)), .int .u64 (LL (x - y))])) (by simp [results, Try.results82, go_sem]; done) rfl ⟨rfl, by repeat (first | (with_reducible exact Below.refl _ _) | (with_reducible refine bl_alloc ?_ _) | (with_reducible refine Below.drew ?_) | (with_reducible refine below_drewN' ?_ _) | ((with_reducible refine bl_set ?_ ?_ _); (rotate_left; (dsimp only; omega))))⟩
def Up (l : Int) : Int := if l < 9223372036854775808 then 0 else 18446744073709551615
theorem up_wrap (l : Int) (hl : In1 l) : IntKind.u64.wrap (wrap64 l / 9223372036854775808) = Up l := by
  rw [u64_of]; unfold In1 at hl; unfold wrap64 Up; split <;> omega
set_option maxHeartbeats 1000000 in
set_option maxRecDepth 100000 in
theorem upper_l (l : Int) (hl : In1 l) (w : World) : Calls Try.prog 95 #[.int .u64 l] w (fun e w' => e = .returned (.int .u64 (Up l)) ∧ w = w') := by
  have E := Lib.hid (up_wrap l hl)
  go_enter Try.func95, Try.ntmps95
  go_wp2
  rw [E.out]
  go_ret
  exact ⟨rfl, rfl⟩
set_option maxRecDepth 100000 in
theorem eqLong (a b x y : Int) (w : World) : (Op.equalIn 10000 67 (.agg #[.int .u64 a, .int .u64 b]) (.agg #[.int .u64 x, .int .u64 y])).run Try.prog w = .ok (decide (a = x ∧ b = y)) w := by
  have hS : Try.prog.underlying 67 = some (.struct (Try.prog.fieldsOf 67)) := by kernel_rfl
  have hp : Try.prog.stoodInHeld 67 = false := by kernel_rfl
  have u4 := Try.underlying65
  rw [show (10000 : Nat) = 9999 + 1 from rfl, run_equalIn_agg w 9999 67 _ _ hS hp]
  simp only [Program.fieldsOf, Try.underlying67]
  go_simp
  by_cases h1 : a = x <;> by_cases h2 : b = y <;> simp [h1, h2]
set_option maxHeartbeats 1000000 in
set_option maxRecDepth 100000 in
theorem sign_l (z : Int) (hz : B127 z) (w : World) : Calls Try.prog 57 #[(.agg #[.int .u64 (LH (z)), .int .u64 (LL (z))])] w (Gives (.int .i64 (sg3 z)) w) := by
  rcases sg3_vals z with ⟨h, e⟩ | ⟨h, e⟩ | ⟨h, e⟩
  · have b : decide (wrap64 (LH z) < 0) = true := by
      simp only [decide_eq_true_eq]; unfold B127 at hz; unfold LH wrap64; omega
    rw [e]
    clear hz h e
    go_enter Try.func57, Try.ntmps57
    go_wp2
    go_ret
    exact ⟨rfl, by repeat (first | (with_reducible exact Below.refl _ _) | (with_reducible refine bl_alloc ?_ _) | (with_reducible refine Below.drew ?_) | (with_reducible refine below_drewN' ?_ _) | ((with_reducible refine bl_set ?_ ?_ _); (rotate_left; (dsimp only; omega))))⟩
  · subst h
    rw [e, show LH 0 = 0 from rfl, show LL 0 = 0 from rfl]
    have q := eqLong 0 0 0 0
    clear hz e
    go_enter Try.func57, Try.ntmps57
    go_wp2
    go_ret
    exact ⟨rfl, by repeat (first | (with_reducible exact Below.refl _ _) | (with_reducible refine bl_alloc ?_ _) | (with_reducible refine Below.drew ?_) | (with_reducible refine below_drewN' ?_ _) | ((with_reducible refine bl_set ?_ ?_ _); (rotate_left; (dsimp only; omega))))⟩
  · have b : decide (wrap64 (LH z) < 0) = false := by
      simp only [decide_eq_false_iff_not]; unfold B127 at hz; unfold LH wrap64; omega
    have q : ∀ w : World, (Op.equalIn 10000 67 (.agg #[.int .u64 (LH z), .int .u64 (LL z)]) (.agg #[.int .u64 0, .int .u64 0])).run Try.prog w = .ok false w := by
      intro w
      rw [eqLong]
      have : ¬ (LH z = 0 ∧ LL z = 0) := by unfold B127 at hz; unfold LH LL; omega
      simp only [this, decide_false]
    rw [e]
    clear hz h e
    go_enter Try.func57, Try.ntmps57
    go_wp2
    go_ret
    exact ⟨rfl, by repeat (first | (with_reducible exact Below.refl _ _) | (with_reducible refine bl_alloc ?_ _) | (with_reducible refine Below.drew ?_) | (with_reducible refine below_drewN' ?_ _) | ((with_reducible refine bl_set ?_ ?_ _); (rotate_left; (dsimp only; omega))))⟩
def smB (z : Int) : Bool := LH z == Up (LL z)
def S64 (z : Int) : Int := IntKind.i64.wrap (LL z)
theorem smB_yes {z : Int} (hz : B127 z) (h : smB z = true) : S64 z = z ∧ -9223372036854775808 ≤ z ∧ z ≤ 9223372036854775807 := by
  unfold smB at h
  simp only [beq_iff_eq] at h
  unfold B127 at hz
  unfold LH LL Up at h
  unfold S64 LL
  rw [IntKind.wrap_i64]
  split at h <;> omega
set_option maxHeartbeats 1000000 in
set_option maxRecDepth 100000 in
theorem small_l (z : Int) (w : World) : Calls Try.prog 86 #[(.agg #[.int .u64 (LH (z)), .int .u64 (LL (z))])] w (Gives (.tuple #[.int .i64 (S64 z), .bool (smB z)]) w) := by
  have HL := Lib.hid (ll_in z)
  go_enter Try.func86, Try.ntmps86
  go_wp2
  refine wp_region_held_drew (S := fun W => W.cell? ⟨w.heap.size, 0, none⟩ = some (.int .u64 (LH z)) ∧ W.cell? ⟨w.heap.size, 1, none⟩ = some (.int .u64 (LL z))) (by kernel_rfl) ?_ (fun hHeld => ?_)
  · simp [go_sem]
  refine wpAnyH_take (i := 0) (v := ?_) rfl (by kernel_rfl) (by kernel_rfl) (by kernel_rfl) (fun _ _ _ h => h) (Or.inl ⟨by rfl, ?_⟩) (by assumption) ?_
  rotate_left
  · intro w hSw
    try dsimp only at hSw
    go_simp
    all_goals (with_reducible rfl)
  try simp only [Act.put, List.getElem_toArray, List.getElem_cons_zero, List.setIfInBounds_toArray, List.set_cons_zero, List.set_cons_succ]
  refine wpAnyH_take (i := 1) (v := ?_) rfl (by kernel_rfl) (by kernel_rfl) (by kernel_rfl) (fun _ _ _ h => h) (Or.inl ⟨by rfl, ?_⟩) (by assumption) ?_
  rotate_left
  · intro w hSw
    try dsimp only at hSw
    go_simp
    all_goals (with_reducible rfl)
  try simp only [Act.put, List.getElem_toArray, List.getElem_cons_succ, List.getElem_cons_zero, List.setIfInBounds_toArray, List.set_cons_zero, List.set_cons_succ]
  refine wpAnyH_take (i := 2) (v := ?_) rfl (by kernel_rfl) (by kernel_rfl) (by kernel_rfl) (fun _ _ _ h => h) (Or.inl ⟨by rfl, ?_⟩) (by assumption) ?_
  rotate_left
  · intro w hSw
    try dsimp only at hSw
    go_simp
    all_goals (with_reducible rfl)
  try simp only [Act.put, List.getElem_toArray, List.getElem_cons_succ, List.getElem_cons_zero, List.setIfInBounds_toArray, List.set_cons_zero, List.set_cons_succ]
  refine wpAnyH_take (i := 3) (v := ?_) rfl (by kernel_rfl) (by kernel_rfl) (by kernel_rfl) (fun _ _ _ h => h) (Or.inl ⟨by rfl, ?_⟩) (by assumption) ?_
  rotate_left
  · intro w hSw
    try dsimp only at hSw
    go_simp
    all_goals (with_reducible rfl)
  try simp only [Act.put, List.getElem_toArray, List.getElem_cons_succ, List.getElem_cons_zero, List.setIfInBounds_toArray, List.set_cons_zero, List.set_cons_succ]
  refine wpAnyH_take (i := 4) (v := ?_) rfl (by kernel_rfl) (by kernel_rfl) (by kernel_rfl) (fun _ _ _ h => h) (Or.inl ⟨by rfl, ?_⟩) (by assumption) ?_
  rotate_left
  · intro w hSw
    try dsimp only at hSw
    go_simp
    all_goals (with_reducible rfl)
  try simp only [Act.put, List.getElem_toArray, List.getElem_cons_succ, List.getElem_cons_zero, List.setIfInBounds_toArray, List.set_cons_zero, List.set_cons_succ]
  refine wpAnyH_take (i := 5) (v := ?_) rfl (by kernel_rfl) (by kernel_rfl) (by kernel_rfl) (fun _ _ _ h => h) (Or.inl ⟨by rfl, ?_⟩) (by assumption) ?_
  rotate_left
  · intro w hSw
    try dsimp only at hSw
    go_simp
    all_goals (with_reducible rfl)
  try simp only [Act.put, List.getElem_toArray, List.getElem_cons_succ, List.getElem_cons_zero, List.setIfInBounds_toArray, List.set_cons_zero, List.set_cons_succ]
  refine wpAnyH_take (i := 6) (v := ?_) rfl (by kernel_rfl) (by kernel_rfl) (by kernel_rfl) (fun _ _ _ h => h) (Or.inl ⟨by rfl, ?_⟩) (by assumption) ?_
  rotate_left
  · intro w hSw
    try dsimp only at hSw
    go_simp
    all_goals (with_reducible rfl)
  try simp only [Act.put, List.getElem_toArray, List.getElem_cons_succ, List.getElem_cons_zero, List.setIfInBounds_toArray, List.set_cons_zero, List.set_cons_succ]
  refine wpAnyH_ready (rs := [7]) (by kernel_rfl) (by simp) ?_
  refine AllReadyH.cons rfl (fun K hK => ?_) AllReadyH.nil
  rw [if_pos (by rfl)]
  go_simp
  go_at_call 95
  (with_reducible refine (upper_l _ HL.out _).mono ?_); rintro e w1 ⟨rfl, rfl⟩
  go_wp2_with fail
  refine hK.out _ _ ?_ (fun hHeld2 => ?_)
  · exact hHeld
  clear hK K hHeld
  have hHeld := hHeld2
  clear hHeld2
  try simp only [Act.put, List.getElem_toArray, List.getElem_cons_succ, List.getElem_cons_zero, List.setIfInBounds_toArray, List.set_cons_zero, List.set_cons_succ]
  refine wpAnyH_take (i := 8) (v := ?_) rfl (by kernel_rfl) (by kernel_rfl) (by kernel_rfl) (fun _ _ _ h => h) (Or.inl ⟨by rfl, ?_⟩) (by assumption) ?_
  rotate_left
  · intro w hSw
    try dsimp only at hSw
    go_simp
    all_goals (with_reducible rfl)
  try simp only [Act.put, List.getElem_toArray, List.getElem_cons_succ, List.getElem_cons_zero, List.setIfInBounds_toArray, List.set_cons_zero, List.set_cons_succ]
  refine wpAnyH_take (i := 9) (v := ?_) rfl (by kernel_rfl) (by kernel_rfl) (by kernel_rfl) (fun _ _ _ h => h) (Or.inl ⟨by rfl, ?_⟩) (by assumption) ?_
  rotate_left
  · intro w hSw
    try dsimp only at hSw
    go_simp
    all_goals (with_reducible rfl)
  try simp only [Act.put, List.getElem_toArray, List.getElem_cons_succ, List.getElem_cons_zero, List.setIfInBounds_toArray, List.set_cons_zero, List.set_cons_succ]
  refine wpAnyH_take (i := 10) (v := ?_) rfl (by kernel_rfl) (by kernel_rfl) (by kernel_rfl) (fun _ _ _ h => h) (Or.inl ⟨by rfl, ?_⟩) (by assumption) ?_
  rotate_left
  · intro w hSw
    try dsimp only at hSw
    go_simp
    all_goals (with_reducible rfl)
  try simp only [Act.put, List.getElem_toArray, List.getElem_cons_succ, List.getElem_cons_zero, List.setIfInBounds_toArray, List.set_cons_zero, List.set_cons_succ]
  refine wpAnyH_done (by kernel_rfl) ?_ _
  go_wp2_with fail
  go_ret2
  exact ⟨rfl, by repeat (first | (with_reducible exact Below.refl _ _) | (with_reducible refine bl_alloc ?_ _) | (with_reducible refine Below.drew ?_) | (with_reducible refine below_drewN' ?_ _) | ((with_reducible refine bl_set ?_ ?_ _); (rotate_left; (dsimp only; omega))))⟩
end Go.Proofs.Ytojfggnimmaemaa
