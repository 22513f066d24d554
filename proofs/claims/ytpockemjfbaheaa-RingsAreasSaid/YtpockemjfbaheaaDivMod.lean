/-
  Contract of wide.DivMod.
-/
import Derived.Test.YtpockemjfbaheaaDiv
import Derived.Test.YtpockemjfbaheaaFold
namespace Go.Proofs.Ytpockemjfbaheaa
open Go.RowKit
attribute [local go_sem ↓] Go.wp_at_zero Go.wp_at_succ

/-- quotient and remainder of two numbers, as the chapter says; both 0 and ErrArg for a divisor of 0 -/
def DivOk (A B : Int) (mq : Bool) (q0 q1 q2 q3 : Int) (mr : Bool) (r0 r1 r2 r3 er : Int) : Prop :=
  (B ≠ 0 ∧ er = 0 ∧ A = WV mq q0 q1 q2 q3 * B + WV mr r0 r1 r2 r3 ∧ 0 ≤ WV mr r0 r1 r2 r3 ∧ WV mr r0 r1 r2 r3 < (if B < 0 then -B else B) ∧ Norm mq q0 q1 q2 q3 ∧ Norm mr r0 r1 r2 r3) ∨
  (B = 0 ∧ er = 2 ∧ (mq = false ∧ q0 = 0 ∧ q1 = 0 ∧ q2 = 0 ∧ q3 = 0) ∧ (mr = false ∧ r0 = 0 ∧ r1 = 0 ∧ r2 = 0 ∧ r3 = 0))
def DivModP (A B : Int) (w : World) (e : Ending) (w' : World) : Prop :=
  ∃ (mq : Bool) (q0 q1 q2 q3 : Int) (mr : Bool) (r0 r1 r2 r3 er : Int), In4 q0 q1 q2 q3 ∧ In4 r0 r1 r2 r3 ∧ Hid (DivOk A B mq q0 q1 q2 q3 mr r0 r1 r2 r3 er) ∧
    e = .returned (.tuple #[(.agg #[.bool mq, .int .u64 q0, .int .u64 q1, .int .u64 q2, .int .u64 q3]), (.agg #[.bool mr, .int .u64 r0, .int .u64 r1, .int .u64 r2, .int .u64 r3]), .int .i64 er]) ∧ Below w.heap.size w w'

/-- DivMod's memory: the arguments' boxes, the results -/
structure DM (w : World) (A B : Wd) (W : World) : Prop where
  a1 : At5 W w.heap.size 0 A
  x1 : At5 W (w.heap.size + 1) 0 B
  q1 : At5 W (w.heap.size + 1 + 1) 0 ⟨false, 0, 0, 0, 0⟩
  q2 : Free5 W (w.heap.size + 1 + 1) 0
  r1 : At5 W (w.heap.size + 1 + 1 + 1) 0 ⟨false, 0, 0, 0, 0⟩
  r2 : Free5 W (w.heap.size + 1 + 1 + 1) 0
  hb : Below w.heap.size w W
theorem DM.below {w : World} {A B : Wd} {W W' : World} (h : DM w A B W) (hb : Below W.heap.size W W') : DM w A B W' :=
  ⟨h.a1.below hb h.a1.lt, h.x1.below hb h.x1.lt, h.q1.below hb h.q1.lt, h.q2.below hb h.q1.lt, h.r1.below hb h.r1.lt, h.r2.below hb h.r1.lt, bl_trans h.hb hb⟩
theorem DM.far {w : World} {A B : Wd} {W : World} (h : DM w A B W) {g : Nat} (hg : w.heap.size + 1 + 1 + 1 < g) (o : Nat) (v : Value) : DM w A B (W.setCell ⟨g, o, none⟩ v) := by
  have far : ∀ b j, b ≠ g → (W.setCell ⟨g, o, none⟩ v).cell? ⟨b, j, none⟩ = W.cell? ⟨b, j, none⟩ := fun b j hne => World.cell?_setCell_far _ _ _ _ (fun e => hne e.symm)
  refine ⟨⟨?_, ?_, ?_, ?_, ?_⟩, ⟨?_, ?_, ?_, ?_, ?_⟩, ⟨?_, ?_, ?_, ?_, ?_⟩, ⟨?_, ?_, ?_, ?_, ?_⟩, ⟨?_, ?_, ?_, ?_, ?_⟩, ⟨?_, ?_, ?_, ?_, ?_⟩, bl_set h.hb (by dsimp only; omega) _⟩
  all_goals first
    | (rw [far _ _ (by omega)]; first | exact h.a1.c0 | exact h.a1.c1 | exact h.a1.c2 | exact h.a1.c3 | exact h.a1.c4 | exact h.x1.c0 | exact h.x1.c1 | exact h.x1.c2 | exact h.x1.c3 | exact h.x1.c4 | exact h.q1.c0 | exact h.q1.c1 | exact h.q1.c2 | exact h.q1.c3 | exact h.q1.c4 | exact h.r1.c0 | exact h.r1.c1 | exact h.r1.c2 | exact h.r1.c3 | exact h.r1.c4)
    | (rw [World.frozen?_setCell]; first | exact h.q2.f0 | exact h.q2.f1 | exact h.q2.f2 | exact h.q2.f3 | exact h.q2.f4 | exact h.r2.f0 | exact h.r2.f1 | exact h.r2.f2 | exact h.r2.f3 | exact h.r2.f4)

/-- behind the correction of the quotient and the rest -/
def DMCut (w : World) (m n : Bool) (a b c d x y z u : Int) (g : Nat) (W : World) : Prop :=
  ∃ q0 q1 q2 q3 r0 r1 r2 r3 : Int, In4 q0 q1 q2 q3 ∧ In4 r0 r1 r2 r3 ∧ DM w ⟨m, a, b, c, d⟩ ⟨n, x, y, z, u⟩ W ∧ At4 W g q0 q1 q2 q3 ∧ At4 W (g + 1) r0 r1 r2 r3 ∧
    WV m a b c d = (if (m != n) then - V4 q0 q1 q2 q3 else V4 q0 q1 q2 q3) * WV n x y z u + V4 r0 r1 r2 r3 ∧ V4 r0 r1 r2 r3 < V4 x y z u

theorem dm_end {m n : Bool} {a b c d x y z u e0 e1 e2 e3 o0 o1 o2 o3 : Int} {mq mr : Bool} (hY : V4 x y z u ≠ 0) (hO : In4 o0 o1 o2 o3) (hq : mq = ((m != n) && decide (V4 e0 e1 e2 e3 ≠ 0))) (hr : mr = (false && decide (V4 o0 o1 o2 o3 ≠ 0)))
    (h : WV m a b c d = (if (m != n) then - V4 e0 e1 e2 e3 else V4 e0 e1 e2 e3) * WV n x y z u + V4 o0 o1 o2 o3) (hlt : V4 o0 o1 o2 o3 < V4 x y z u) :
    WV n x y z u ≠ 0 ∧ (0 : Int) = 0 ∧ WV m a b c d = WV mq e0 e1 e2 e3 * WV n x y z u + WV mr o0 o1 o2 o3 ∧ 0 ≤ WV mr o0 o1 o2 o3 ∧ WV mr o0 o1 o2 o3 < (if WV n x y z u < 0 then - WV n x y z u else WV n x y z u) ∧ Norm mq e0 e1 e2 e3 ∧ Norm mr o0 o1 o2 o3 := by
  have q := norm_of hq
  have r := norm_of hr
  have b := v4_bounds hO
  have er : WV mr o0 o1 o2 o3 = V4 o0 o1 o2 o3 := by rw [r.1]; rfl
  refine ⟨fun e => hY (wv_zero.1 e), rfl, ?_, ?_, ?_, q.2, r.2⟩
  · rw [q.1, er]; exact h
  · rw [er]; exact b.1
  · rw [er]; unfold WV; cases n <;> simp <;> omega
theorem dm_pos {n : Bool} {a b c d x y z u Q R : Int} (h : V4 a b c d = Q * V4 x y z u + R) : WV false a b c d = (if (false != n) then -Q else Q) * WV n x y z u + R := by
  unfold WV; cases n <;> simp <;> grind
theorem dm_zero {n : Bool} {a b c d x y z u Q R : Int} (h0 : R = 0) (h : V4 a b c d = Q * V4 x y z u + R) : WV true a b c d = (if (true != n) then -Q else Q) * WV n x y z u + R := by
  subst h0
  unfold WV; cases n <;> simp <;> grind
theorem dm_neg {n : Bool} {a b c d x y z u A Q Y R S T co co2 : Int} (hA' : A = V4 a b c d) (hY' : Y = V4 x y z u) (hA : 0 ≤ A ∧ A < M256) (hY : 0 ≤ Y ∧ Y < M256) (hQ : 0 ≤ Q ∧ Q < M256) (hR : 0 ≤ R ∧ R < M256) (hS : 0 ≤ S ∧ S < M256) (hT : 0 ≤ T ∧ T < M256) (h0 : R ≠ 0) (h : A = Q * Y + R ∧ R < Y) (hs : (co = 0 ∨ co = 1) ∧ S + M256 * co = Q + V4 1 0 0 0) (ht : (co2 = 0 ∨ co2 = 1) ∧ T + R = Y + M256 * co2) :
    WV true a b c d = (if (true != n) then -S else S) * WV n x y z u + T ∧ T < V4 x y z u := by
  rw [v4_small] at hs
  have h2 : Q * 2 ≤ Q * Y := Int.mul_le_mul_of_nonneg_left (by omega) hQ.1
  have eS : S = Q + 1 := by
    rcases hs.1 with rfl | rfl
    · omega
    · have := hs.2
      have := h.1
      generalize Q * Y = p at *
      unfold M256 at *; omega
  have eT : T = Y - R := by
    rcases ht.1 with rfl | rfl
    · omega
    · have := ht.2
      unfold M256 at *; omega
  subst eS eT
  rw [← hY']
  refine ⟨?_, by omega⟩
  have e := h.1
  unfold WV
  rw [← hA', ← hY']
  cases n <;> simp <;> grind

end Go.Proofs.Ytpockemjfbaheaa
