/-
  Contract of wide.mulLimbs: both halves of the product.
-/
import Derived.Test.YtiebmlhglgpajaaMul
namespace Go.Proofs.Ytiebmlhglgpajaa
open Go.RowKit
attribute [local go_sem ↓] Go.wp_at_zero Go.wp_at_succ

def sel4 (x0 x1 x2 x3 : Int) : Nat → Int
  | 0 => x0
  | 1 => x1
  | 2 => x2
  | _ => x3
/-- 2^(64 n), for n up to 8 -/
def pw64 : Nat → Int
  | 0 => 1
  | n + 1 => 18446744073709551616 * pw64 n
/-- the number of the first n limbs -/
def sumTo (f : Nat → Int) : Nat → Int
  | 0 => 0
  | n + 1 => sumTo f n + f n * pw64 n
def upd (o : Nat → Int) (j : Nat) (v : Int) : Nat → Int := fun i => if i = j then v else o i

theorem sumTo_congr (f g : Nat → Int) (n : Nat) (h : ∀ i, i < n → f i = g i) : sumTo f n = sumTo g n := by
  induction n with
  | zero => rfl
  | succ n ih => simp only [sumTo]; rw [ih (fun i hi => h i (by omega)), h n (by omega)]
theorem sumTo_upd (o : Nat → Int) (j : Nat) (v : Int) (n : Nat) (h : j < n) : sumTo (upd o j v) n = sumTo o n + (v - o j) * pw64 j := by
  induction n with
  | zero => omega
  | succ n ih =>
    simp only [sumTo]
    by_cases e : j = n
    · subst e
      rw [sumTo_congr (upd o j v) o j (fun i hi => by simp [upd]; omega)]
      simp only [upd, if_true]
      grind
    · rw [ih (by omega)]
      have : upd o j v n = o n := by simp [upd]; omega
      rw [this]; omega
theorem in1_sel {x0 x1 x2 x3 : Int} (h : In4 x0 x1 x2 x3) (i : Nat) : In1 (sel4 x0 x1 x2 x3 i) := by
  unfold sel4
  split
  · exact h.1
  · exact h.2.1
  · exact h.2.2.1
  · exact h.2.2.2
theorem pw64_add (i k : Nat) : pw64 (i + k) = pw64 i * pw64 k := by
  induction k with
  | zero => simp [pw64]
  | succ k ih => rw [Nat.add_succ]; simp only [pw64]; rw [ih]; grind

/-- one step of the school method -/
theorem mul_step (S c l h a b o : Int) (i k : Nat) (SX SY Y : Int) (e : S + c * pw64 (i + k) = SX * Y + a * SY * pw64 i) (g : h * 18446744073709551616 + l = a * b + o + c) :
    S + (l - o) * pw64 (i + k) + h * pw64 (i + (k + 1)) = SX * Y + a * (SY + b * pw64 k) * pw64 i := by
  have e1 : pw64 (i + (k + 1)) = 18446744073709551616 * pw64 (i + k) := by rw [← Nat.add_assoc]; rfl
  rw [e1]
  rw [pw64_add] at *
  generalize pw64 i = p at *
  generalize pw64 k = q at *
  grind
theorem mul_last (S c a SX Y : Int) (i : Nat) (e : S + c * pw64 (i + 4) = SX * Y + a * Y * pw64 i) : S + (c - 0) * pw64 (i + 4) = (SX + a * pw64 i) * Y := by
  grind

structure MW (w : World) (x0 x1 x2 x3 y0 y1 y2 y3 : Int) (o : Nat → Int) (W : World) : Prop where
  hx : ∀ i, i < 4 → W.cell? ⟨w.heap.size, i, none⟩ = some (.int .u64 (sel4 x0 x1 x2 x3 i))
  hy : ∀ i, i < 4 → W.cell? ⟨w.heap.size + 1, i, none⟩ = some (.int .u64 (sel4 y0 y1 y2 y3 i))
  ho : ∀ i, i < 8 → W.cell? ⟨w.heap.size + 1 + 1 + 1 + 1, i, none⟩ = some (.int .u64 (o i))
  fo : ∀ i, i < 8 → W.frozen? ⟨w.heap.size + 1 + 1 + 1 + 1, i, none⟩ = false
  r1 : ∀ i, i < 4 → W.cell? ⟨w.heap.size + 1 + 1, i, none⟩ = some (.int .u64 0)
  f1 : ∀ i, i < 4 → W.frozen? ⟨w.heap.size + 1 + 1, i, none⟩ = false
  r2 : ∀ i, i < 4 → W.cell? ⟨w.heap.size + 1 + 1 + 1, i, none⟩ = some (.int .u64 0)
  f2 : ∀ i, i < 4 → W.frozen? ⟨w.heap.size + 1 + 1 + 1, i, none⟩ = false
  hb : Below w.heap.size w W

theorem MW.drew {w : World} {x0 x1 x2 x3 y0 y1 y2 y3 : Int} {o : Nat → Int} {W : World} (h : MW w x0 x1 x2 x3 y0 y1 y2 y3 o W) : MW w x0 x1 x2 x3 y0 y1 y2 y3 o W.drew :=
  ⟨h.hx, h.hy, h.ho, h.fo, h.r1, h.f1, h.r2, h.f2, h.hb.drew⟩
theorem MW.set {w : World} {x0 x1 x2 x3 y0 y1 y2 y3 : Int} {o : Nat → Int} {W : World} (h : MW w x0 x1 x2 x3 y0 y1 y2 y3 o W) (j : Nat) (hj : j < 8) (v : Int) :
    MW w x0 x1 x2 x3 y0 y1 y2 y3 (upd o j v) (W.setCell ⟨w.heap.size + 1 + 1 + 1 + 1, j, none⟩ (.int .u64 v)) := by
  have far : ∀ b i, b ≠ w.heap.size + 1 + 1 + 1 + 1 → (W.setCell ⟨w.heap.size + 1 + 1 + 1 + 1, j, none⟩ (.int .u64 v)).cell? ⟨b, i, none⟩ = W.cell? ⟨b, i, none⟩ := fun b i hb => World.cell?_setCell_far _ _ _ _ (fun e => hb e.symm)
  refine ⟨fun i hi => ?_, fun i hi => ?_, fun i hi => ?_, fun i hi => ?_, fun i hi => ?_, fun i hi => ?_, fun i hi => ?_, fun i hi => ?_, bl_set h.hb (by show w.heap.size ≤ w.heap.size + 1 + 1 + 1 + 1; omega) _⟩
  · rw [far _ _ (by omega)]; exact h.hx i hi
  · rw [far _ _ (by omega)]; exact h.hy i hi
  · by_cases e : i = j
    · subst e
      rw [World.cell?_setCell_same _ _ _ (h.ho i hi)]
      simp [upd]
    · rw [World.cell?_setCell_other _ _ _ _ (by intro e'; injection e' with _ e2; omega)]
      rw [h.ho i hi]
      simp [upd, e]
  · rw [World.frozen?_setCell]; exact h.fo i hi
  · rw [far _ _ (by omega)]; exact h.r1 i hi
  · rw [World.frozen?_setCell]; exact h.f1 i hi
  · rw [far _ _ (by omega)]; exact h.r2 i hi
  · rw [World.frozen?_setCell]; exact h.f2 i hi

def MulP (A B : Int) (w : World) (e : Ending) (w' : World) : Prop :=
  ∃ s0 s1 s2 s3 t0 t1 t2 t3 : Int, In4 s0 s1 s2 s3 ∧ In4 t0 t1 t2 t3 ∧ Hid (V4 s0 s1 s2 s3 + M256 * V4 t0 t1 t2 t3 = A * B) ∧ e = .returned (.tuple #[(.agg #[.int .u64 s0, .int .u64 s1, .int .u64 s2, .int .u64 s3]), (.agg #[.int .u64 t0, .int .u64 t1, .int .u64 t2, .int .u64 t3])]) ∧ Below w.heap.size w w'

/-- the outer loop, ahead of round i -/
def MulOut (w : World) (x0 x1 x2 x3 y0 y1 y2 y3 : Int) (iv : Value) (W : World) : Prop :=
  ∃ (i : Nat) (o : Nat → Int), i ≤ 4 ∧ iv = .int .i64 i ∧ MW w x0 x1 x2 x3 y0 y1 y2 y3 o W ∧ (∀ j, In1 (o j)) ∧ (∀ j, i + 4 ≤ j → o j = 0) ∧ sumTo o 8 = sumTo (sel4 x0 x1 x2 x3) i * sumTo (sel4 y0 y1 y2 y3) 4
/-- the inner loop, ahead of round k -/
def MulIn (w : World) (x0 x1 x2 x3 y0 y1 y2 y3 : Int) (i : Nat) (cv kv : Value) (W : World) : Prop :=
  ∃ (k : Nat) (o : Nat → Int) (c : Int), k ≤ 4 ∧ kv = .int .i64 k ∧ cv = .int .u64 c ∧ In1 c ∧ MW w x0 x1 x2 x3 y0 y1 y2 y3 o W ∧ (∀ j, In1 (o j)) ∧ (∀ j, i + 4 ≤ j → o j = 0) ∧
    sumTo o 8 + c * pw64 (i + k) = sumTo (sel4 x0 x1 x2 x3) i * sumTo (sel4 y0 y1 y2 y3) 4 + sel4 x0 x1 x2 x3 i * sumTo (sel4 y0 y1 y2 y3) k * pw64 i

theorem in1_zero : In1 0 := by unfold In1; omega
theorem in1_upd {o : Nat → Int} (h : ∀ j, In1 (o j)) (i : Nat) {v : Int} (hv : In1 v) : ∀ j, In1 (upd o i v j) := by
  intro j; unfold upd; split
  · exact hv
  · exact h j

end Go.Proofs.Ytiebmlhglgpajaa
