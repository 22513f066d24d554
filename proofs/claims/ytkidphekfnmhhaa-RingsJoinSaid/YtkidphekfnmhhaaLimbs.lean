/-
  Contracts of wide's small functions: addLimbs, subLimbs, signed, Sign, Neg, Of.
-/
import Derived.Test.YtkidphekfnmhhaaBase
import Derived.Deep.RegionHeld3
import Derived.Deep.DrawnRows
namespace Go.Proofs.Ytkidphekfnmhhaa
open Go.RowKit

/-- addLimbs' answer: a sum of four limbs, and what is carried out -/
def AddP (A B : Int) (w : World) (e : Ending) (w' : World) : Prop :=
  ∃ s0 s1 s2 s3 co : Int, In4 s0 s1 s2 s3 ∧ Hid ((co = 0 ∨ co = 1) ∧ V4 s0 s1 s2 s3 + M256 * co = A + B) ∧ e = .returned (.tuple #[(.agg #[.int .u64 s0, .int .u64 s1, .int .u64 s2, .int .u64 s3]), .int .u64 co]) ∧ Below w.heap.size w w'
def SubP (A B : Int) (w : World) (e : Ending) (w' : World) : Prop :=
  ∃ s0 s1 s2 s3 co : Int, In4 s0 s1 s2 s3 ∧ Hid ((co = 0 ∨ co = 1) ∧ V4 s0 s1 s2 s3 + B = A + M256 * co) ∧ e = .returned (.tuple #[(.agg #[.int .u64 s0, .int .u64 s1, .int .u64 s2, .int .u64 s3]), .int .u64 co]) ∧ Below w.heap.size w w'

set_option maxHeartbeats 1000000 in
set_option maxRecDepth 100000 in
theorem addLimbs_c (a b c d x y z u : Int) (hA : In4 a b c d) (hX : In4 x y z u) (w : World) :
    Calls Try.prog 85 #[(.agg #[.int .u64 a, .int .u64 b, .int .u64 c, .int .u64 d]), (.agg #[.int .u64 x, .int .u64 y, .int .u64 z, .int .u64 u])] w (AddP (V4 a b c d) (V4 x y z u) w) := by
  obtain ⟨s0, c0, g0, h0⟩ := add64_ex a x 0 hA.1 hX.1 (by omega) (by omega)
  obtain ⟨s1, c1, g1, h1⟩ := add64_ex b y c0 hA.2.1 hX.2.1 g0.out.2.1 g0.out.2.2.1
  obtain ⟨s2, c2, g2, h2⟩ := add64_ex c z c1 hA.2.2.1 hX.2.2.1 g1.out.2.1 g1.out.2.2.1
  obtain ⟨s3, c3, g3, h3⟩ := add64_ex d u c2 hA.2.2.2 hX.2.2.2 g2.out.2.1 g2.out.2.2.1
  have HA := hid_mk hA
  have HX := hid_mk hX
  clear hA hX
  go_enter Try.func85, Try.ntmps85
  go_wp2
  refine wp_loop_rounds 5 ?_
  rw [rounds_succ]
  go_wp2; go_region; go_wp2
  rw [rounds_succ]
  go_wp2; go_region; go_wp2
  rw [rounds_succ]
  go_wp2; go_region; go_wp2
  rw [rounds_succ]
  go_wp2; go_region; go_wp2
  rw [rounds_succ]
  go_wp2
  refine bodyPost_ret (v := .tuple #[(.agg #[.int .u64 s0, .int .u64 s1, .int .u64 s2, .int .u64 s3]), .int .u64 c3]) (by simp [results, Try.results85, go_sem]) rfl ⟨s0, s1, s2, s3, c3, ?_, ?_, rfl, ?_⟩
  · exact ⟨g0.out.1, g1.out.1, g2.out.1, g3.out.1⟩
  · have := g0.out; have := g1.out; have := g2.out; have := g3.out
    unfold Hid V4 M256
    omega
  · repeat (first | (with_reducible exact Below.refl _ _) | (with_reducible refine bl_alloc ?_ _) | (with_reducible refine Below.drew ?_) | (with_reducible refine below_drewN' ?_ _) | ((with_reducible refine bl_set ?_ ?_ _); (rotate_left; (dsimp only; omega))))

set_option maxHeartbeats 1000000 in
set_option maxRecDepth 100000 in
theorem subLimbs_c (a b c d x y z u : Int) (hA : In4 a b c d) (hX : In4 x y z u) (w : World) :
    Calls Try.prog 86 #[(.agg #[.int .u64 a, .int .u64 b, .int .u64 c, .int .u64 d]), (.agg #[.int .u64 x, .int .u64 y, .int .u64 z, .int .u64 u])] w (SubP (V4 a b c d) (V4 x y z u) w) := by
  obtain ⟨s0, c0, g0, h0⟩ := sub64_ex a x 0 hA.1 hX.1 (by omega) (by omega)
  obtain ⟨s1, c1, g1, h1⟩ := sub64_ex b y c0 hA.2.1 hX.2.1 g0.out.2.1 g0.out.2.2.1
  obtain ⟨s2, c2, g2, h2⟩ := sub64_ex c z c1 hA.2.2.1 hX.2.2.1 g1.out.2.1 g1.out.2.2.1
  obtain ⟨s3, c3, g3, h3⟩ := sub64_ex d u c2 hA.2.2.2 hX.2.2.2 g2.out.2.1 g2.out.2.2.1
  have HA := hid_mk hA
  have HX := hid_mk hX
  clear hA hX
  go_enter Try.func86, Try.ntmps86
  go_wp2
  refine wp_loop_rounds 5 ?_
  rw [rounds_succ]
  go_wp2; go_region; go_wp2
  rw [rounds_succ]
  go_wp2; go_region; go_wp2
  rw [rounds_succ]
  go_wp2; go_region; go_wp2
  rw [rounds_succ]
  go_wp2; go_region; go_wp2
  rw [rounds_succ]
  go_wp2
  refine bodyPost_ret (v := .tuple #[(.agg #[.int .u64 s0, .int .u64 s1, .int .u64 s2, .int .u64 s3]), .int .u64 c3]) (by simp [results, Try.results86, go_sem]) rfl ⟨s0, s1, s2, s3, c3, ?_, ?_, rfl, ?_⟩
  · exact ⟨g0.out.1, g1.out.1, g2.out.1, g3.out.1⟩
  · have := g0.out; have := g1.out; have := g2.out; have := g3.out
    unfold Hid V4 M256
    omega
  · repeat (first | (with_reducible exact Below.refl _ _) | (with_reducible refine bl_alloc ?_ _) | (with_reducible refine Below.drew ?_) | (with_reducible refine below_drewN' ?_ _) | ((with_reducible refine bl_set ?_ ?_ _); (rotate_left; (dsimp only; omega))))

/-- '== [4]uint64{}' as a Bool of one name -/
theorem isz (a b c d : Int) (h : In4 a b c d) : ∃ zb : Bool, Hid (zb = true ↔ V4 a b c d = 0) ∧ ∀ w : World, (Op.equalIn 10000 78 (.agg #[.int .u64 a, .int .u64 b, .int .u64 c, .int .u64 d]) (.agg #[.int .u64 0, .int .u64 0, .int .u64 0, .int .u64 0])).run Try.prog w = .ok zb w :=
  ⟨decide (a = 0 ∧ b = 0 ∧ c = 0 ∧ d = 0), by unfold Hid; rw [v4_zero h]; simp, fun w => eqL _ _ _ _ _ _ _ _ w⟩

/-- signed's answer -/
def SignedP (m : Bool) (a b c d : Int) (w : World) (e : Ending) (w' : World) : Prop :=
  ∃ m' : Bool, Hid (m' = (m && decide (V4 a b c d ≠ 0))) ∧ e = .returned (.agg #[.bool m', .int .u64 a, .int .u64 b, .int .u64 c, .int .u64 d]) ∧ Below w.heap.size w w'

set_option maxHeartbeats 1000000 in
set_option maxRecDepth 100000 in
theorem signed_c (m : Bool) (a b c d : Int) (hA : In4 a b c d) (w : World) :
    Calls Try.prog 84 #[.bool m, (.agg #[.int .u64 a, .int .u64 b, .int .u64 c, .int .u64 d])] w (SignedP m a b c d w) := by
  obtain ⟨zb, hz, he⟩ := isz a b c d hA
  have HA := hid_mk hA
  clear hA
  cases m <;> cases zb
  all_goals
    go_enter Try.func84, Try.ntmps84
    go_wp2
    go_region
    go_wp2
  all_goals (first | exact bodyPost_ret (v := (.agg #[.bool true, .int .u64 a, .int .u64 b, .int .u64 c, .int .u64 d])) (by simp [results, Try.results84, go_sem]) rfl ⟨true, by have := hz.out; unfold Hid; simp at *; assumption, rfl, by repeat (first | (with_reducible exact Below.refl _ _) | (with_reducible refine bl_alloc ?_ _) | (with_reducible refine Below.drew ?_) | (with_reducible refine below_drewN' ?_ _) | ((with_reducible refine bl_set ?_ ?_ _); (rotate_left; (dsimp only; omega))))⟩ | exact bodyPost_ret (v := (.agg #[.bool false, .int .u64 a, .int .u64 b, .int .u64 c, .int .u64 d])) (by simp [results, Try.results84, go_sem]) rfl ⟨false, by have := hz.out; unfold Hid; simp at *; try assumption, rfl, by repeat (first | (with_reducible exact Below.refl _ _) | (with_reducible refine bl_alloc ?_ _) | (with_reducible refine Below.drew ?_) | (with_reducible refine below_drewN' ?_ _) | ((with_reducible refine bl_set ?_ ?_ _); (rotate_left; (dsimp only; omega))))⟩)

/-- the sign of a Wide's number -/
def sgn (m : Bool) (n : Int) : Int := if n = 0 then 0 else if m then -1 else 1
/-- a Wide's number -/
def WV (m : Bool) (a b c d : Int) : Int := if m then - V4 a b c d else V4 a b c d

def IntP (n : Int) (w : World) (e : Ending) (w' : World) : Prop := e = .returned (.int .i64 n) ∧ Below w.heap.size w w'

end Go.Proofs.Ytkidphekfnmhhaa
