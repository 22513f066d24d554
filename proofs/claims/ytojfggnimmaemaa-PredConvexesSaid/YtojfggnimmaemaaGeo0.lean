/-
  The program's Wides by the numbers that they say: Mul, Add, Sub, Sign, Cmp, Of, Int, DivMod.
-/
import Derived.Test.YtojfggnimmaemaaLongs
import Derived.Test.YtojfggnimmaemaaEnv
import Derived.Test.YtojfggnimmaemaaWCmp2
import Derived.Test.YtojfggnimmaemaaIntC
namespace Go.Proofs.Ytojfggnimmaemaa
open Go.RowKit

/-- z fits in a Wide -/
def BW (z : Int) : Prop := -M256 < z ∧ z < M256
theorem Ab.bw {x A : Int} (hx : Ab x A) (h : A < 115792089237316195423570985008687907853269984665640564039457584007913129639936) : BW x := by unfold Ab at hx; unfold BW M256; omega
def wd (z : Int) : Wd := ⟨QM z, Q0 z, Q1 z, Q2 z, Q3 z⟩
theorem wd_val {z : Int} (h : BW z) : (wd z).val = z := q_val h
theorem wd_ok (z : Int) : (wd z).ok := q_in z

theorem mulQ (x y : Int) (hx : BW x) (hy : BW y) (hxy : BW (x * y)) (W : World) (g : Nat) (cap : Nat) (hl : WidesAt W g 0 [wd x, wd y]) :
    Calls Try.prog 67 #[.slice (some ⟨g, 0, none⟩) 2 cap] W (Gives (.tuple #[(.agg #[.bool (QM (x * y)), .int .u64 (Q0 (x * y)), .int .u64 (Q1 (x * y)), .int .u64 (Q2 (x * y)), .int .u64 (Q3 (x * y))]), .int .i64 0]) W) := by
  refine mul_some g 2 cap _ rfl (by omega) _ _ _ _ _ (q_in (x * y)) (q_norm hxy) ?_ W hl
  rw [q_val hxy]
  simp only [fres, wd_val hx, wd_val hy, Int.one_mul]
  unfold BW at hx hxy
  rw [if_pos hx, if_pos hxy]
theorem addQ3 (x y z : Int) (hx : BW x) (hy : BW y) (hz : BW z) (hxy : BW (x + y)) (hs : BW (x + y + z)) (W : World) (g : Nat) (cap : Nat) (hl : WidesAt W g 0 [wd x, wd y, wd z]) :
    Calls Try.prog 83 #[.slice (some ⟨g, 0, none⟩) 3 cap] W (Gives (.tuple #[(.agg #[.bool (QM (x + y + z)), .int .u64 (Q0 (x + y + z)), .int .u64 (Q1 (x + y + z)), .int .u64 (Q2 (x + y + z)), .int .u64 (Q3 (x + y + z))]), .int .i64 0]) W) := by
  refine add_some g 3 cap _ rfl (by omega) _ _ _ _ _ (q_in (x + y + z)) (q_norm hs) ?_ W hl
  rw [q_val hs]
  simp only [fres, wd_val hx, wd_val hy, wd_val hz, Int.zero_add]
  unfold BW at hx hxy hs
  rw [if_pos hx, if_pos hxy, if_pos hs]
theorem addQ2 (x y : Int) (hx : BW x) (hy : BW y) (hxy : BW (x + y)) (W : World) (g : Nat) (cap : Nat) (hl : WidesAt W g 0 [wd x, wd y]) :
    Calls Try.prog 83 #[.slice (some ⟨g, 0, none⟩) 2 cap] W (Gives (.tuple #[(.agg #[.bool (QM (x + y)), .int .u64 (Q0 (x + y)), .int .u64 (Q1 (x + y)), .int .u64 (Q2 (x + y)), .int .u64 (Q3 (x + y))]), .int .i64 0]) W) := by
  refine add_some g 2 cap _ rfl (by omega) _ _ _ _ _ (q_in (x + y)) (q_norm hxy) ?_ W hl
  rw [q_val hxy]
  simp only [fres, wd_val hx, wd_val hy, Int.zero_add]
  unfold BW at hx hxy
  rw [if_pos hx, if_pos hxy]
theorem subQ (x y : Int) (hx : BW x) (hy : BW y) (hxy : BW (x - y)) (W : World) : Calls Try.prog 94 #[(.agg #[.bool (QM (x)), .int .u64 (Q0 (x)), .int .u64 (Q1 (x)), .int .u64 (Q2 (x)), .int .u64 (Q3 (x))]), (.agg #[.bool (QM (y)), .int .u64 (Q0 (y)), .int .u64 (Q1 (y)), .int .u64 (Q2 (y)), .int .u64 (Q3 (y))])] W (Gives (.tuple #[(.agg #[.bool (QM (x - y)), .int .u64 (Q0 (x - y)), .int .u64 (Q1 (x - y)), .int .u64 (Q2 (x - y)), .int .u64 (Q3 (x - y))]), .int .i64 0]) W) := by
  refine sub_some _ _ _ _ _ _ _ _ _ _ (q_in x) (q_in y) _ _ _ _ _ (q_in (x - y)) (q_norm hxy) ?_ W
  rw [q_val hx, q_val hy, q_val hxy]
theorem sg3_eqZ (z : Int) : sgZ z = sg3 z := rfl
theorem signQ (x : Int) (hx : BW x) (W : World) : Calls Try.prog 59 #[(.agg #[.bool (QM (x)), .int .u64 (Q0 (x)), .int .u64 (Q1 (x)), .int .u64 (Q2 (x)), .int .u64 (Q3 (x))])] W (Gives (.int .i64 (sg3 x)) W) := by
  have h := sign_c (QM x) (Q0 x) (Q1 x) (Q2 x) (Q3 x) (q_in x) W
  rw [sgn_sgZ _ _ _ _ _ (q_in x), q_val hx] at h
  exact h
theorem cmpQ (x y : Int) (hx : BW x) (hy : BW y) (W : World) : Calls Try.prog 69 #[(.agg #[.bool (QM (x)), .int .u64 (Q0 (x)), .int .u64 (Q1 (x)), .int .u64 (Q2 (x)), .int .u64 (Q3 (x))]), (.agg #[.bool (QM (y)), .int .u64 (Q0 (y)), .int .u64 (Q1 (y)), .int .u64 (Q2 (y)), .int .u64 (Q3 (y))])] W (Gives (.int .i64 (sg3 (x - y))) W) := by
  have h := wcmp_c (QM x) (QM y) (Q0 x) (Q1 x) (Q2 x) (Q3 x) (Q0 y) (Q1 y) (Q2 y) (Q3 y) (q_in x) (q_in y) W
  rw [q_val hx, q_val hy] at h
  exact h
theorem ofQ (n : Int) (h0 : -9223372036854775808 ≤ n) (h1 : n ≤ 9223372036854775807) (W : World) : Calls Try.prog 68 #[.int .i64 n] W (Gives (.agg #[.bool (QM (n)), .int .u64 (Q0 (n)), .int .u64 (Q1 (n)), .int .u64 (Q2 (n)), .int .u64 (Q3 (n))]) W) := by
  refine (of_c n h0 h1 W).mono ?_
  rintro e w' ⟨m, a, ha, hk, rfl, hb⟩
  have hn : Norm m a 0 0 0 := fun e => by
    rw [hk.out.1] at e
    simp at e
    rw [v4_small, hk.out.2, if_pos e]
    omega
  have hv : WV m a 0 0 0 = n := by
    unfold WV
    rw [v4_small, hk.out.1, hk.out.2]
    by_cases h : n < 0 <;> simp [h]
  obtain ⟨rfl, rfl, e1, e2, e3⟩ := q_of (in4_small ha) hn hv
  rw [← e1, ← e2, ← e3]
  exact ⟨rfl, hb⟩
end Go.Proofs.Ytojfggnimmaemaa
