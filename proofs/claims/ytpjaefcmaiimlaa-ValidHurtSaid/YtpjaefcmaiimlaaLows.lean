/-
  What '==' says of two [4]uint64 and of two Wides; math/bits.Add64 and Sub64, which the model runs itself.
-/
import Derived.Test.YtpjaefcmaiimlaaRows
import Derived.Test.YtpjaefcmaiimlaaPlain
import Derived.WalkKit
import Derived.WalkSpells
import Derived.WalkLawsBesides
import Derived.Lib.Hide
import Derived.Shelf.Spec.BitsCarry
import Derived.Deep.RegionHeld3
import Derived.Deep.DrawnRows
set_option linter.unusedVariables false
set_option linter.unusedSimpArgs false
set_option linter.deprecated false
namespace Go.Proofs.Ytpjaefcmaiimlaa
open Go.RowKit

theorem add64_ex (x y c : Int) (hx : In1 x) (hy : In1 y) (h0 : 0 ≤ c) (hc : c ≤ 1) :
    ∃ s co : Int, Hid (In1 s ∧ 0 ≤ co ∧ co ≤ 1 ∧ s + 18446744073709551616 * co = x + y + c) ∧ ∀ w : World, (callFunc 194 #[.int .u64 x, .int .u64 y, .int .u64 c]).run Try.prog w = .ok (.value (.tuple #[.int .u64 s, .int .u64 co])) w := by
  unfold In1 at hx hy
  refine ⟨(x + y + c) % 18446744073709551616, (x + y + c) / 18446744073709551616, ?_, fun w => ?_⟩
  · unfold Hid In1; omega
  · rw [run_callFunc_extern Try.func194 (by kernel_rfl) (by kernel_rfl) (by kernel_rfl) (e := add64Entry) (by kernel_rfl), run_add64 x y c (by omega) (by omega) (by omega) (by omega)]
    simp only [Result.andThen]

theorem sub64_ex (x y b : Int) (hx : In1 x) (hy : In1 y) (h0 : 0 ≤ b) (hb : b ≤ 1) :
    ∃ s co : Int, Hid (In1 s ∧ 0 ≤ co ∧ co ≤ 1 ∧ s + y + b = x + 18446744073709551616 * co) ∧ ∀ w : World, (callFunc 193 #[.int .u64 x, .int .u64 y, .int .u64 b]).run Try.prog w = .ok (.value (.tuple #[.int .u64 s, .int .u64 co])) w := by
  unfold In1 at hx hy
  obtain ⟨X, rfl⟩ := Int.eq_ofNat_of_zero_le hx.1
  obtain ⟨Y, rfl⟩ := Int.eq_ofNat_of_zero_le hy.1
  obtain ⟨B, rfl⟩ := Int.eq_ofNat_of_zero_le h0
  refine ⟨(((X + 18446744073709551616 - Y - B) % 18446744073709551616 : Nat) : Int), ((if X < Y + B then 1 else 0 : Nat) : Int), ?_, fun w => ?_⟩
  · unfold Hid In1; split <;> omega
  · rw [run_callFunc_extern Try.func193 (by kernel_rfl) (by kernel_rfl) (by kernel_rfl) (e := sub64Entry) (by kernel_rfl), run_sub64 X Y B (by omega)]
    rfl

end Go.Proofs.Ytpjaefcmaiimlaa

/-
  Contracts of wide's small functions: addLimbs, subLimbs, signed, Sign, Neg, Of.
-/
namespace Go.Proofs.Ytpjaefcmaiimlaa
open Go.RowKit

/-- addLimbs' answer: a sum of four limbs, and what is carried out -/
def AddP (A B : Int) (w : World) (e : Ending) (w' : World) : Prop :=
  ∃ s0 s1 s2 s3 co : Int, In4 s0 s1 s2 s3 ∧ Hid ((co = 0 ∨ co = 1) ∧ V4 s0 s1 s2 s3 + M256 * co = A + B) ∧ e = .returned (.tuple #[(.agg #[.int .u64 s0, .int .u64 s1, .int .u64 s2, .int .u64 s3]), .int .u64 co]) ∧ Below w.heap.size w w'
def SubP (A B : Int) (w : World) (e : Ending) (w' : World) : Prop :=
  ∃ s0 s1 s2 s3 co : Int, In4 s0 s1 s2 s3 ∧ Hid ((co = 0 ∨ co = 1) ∧ V4 s0 s1 s2 s3 + B = A + M256 * co) ∧ e = .returned (.tuple #[(.agg #[.int .u64 s0, .int .u64 s1, .int .u64 s2, .int .u64 s3]), .int .u64 co]) ∧ Below w.heap.size w w'

/-- signed's answer -/
def SignedP (m : Bool) (a b c d : Int) (w : World) (e : Ending) (w' : World) : Prop :=
  ∃ m' : Bool, Hid (m' = (m && decide (V4 a b c d ≠ 0))) ∧ e = .returned (.agg #[.bool m', .int .u64 a, .int .u64 b, .int .u64 c, .int .u64 d]) ∧ Below w.heap.size w w'

/-- the sign of a Wide's number -/
def sgn (m : Bool) (n : Int) : Int := if n = 0 then 0 else if m then -1 else 1
/-- a Wide's number -/
def WV (m : Bool) (a b c d : Int) : Int := if m then - V4 a b c d else V4 a b c d

def IntP (n : Int) (w : World) (e : Ending) (w' : World) : Prop := e = .returned (.int .i64 n) ∧ Below w.heap.size w w'

end Go.Proofs.Ytpjaefcmaiimlaa

/-
  Plain facts on Wides' numbers.
-/
namespace Go.Proofs.Ytpjaefcmaiimlaa
open Go.RowKit

/-- a Wide without a nought below nought -/
def Norm (m : Bool) (a b c d : Int) : Prop := m = true → V4 a b c d ≠ 0
/-- what signed makes: the number m n, without a nought below nought -/
theorem norm_of {m m' : Bool} {a b c d : Int} (h : m' = (m && decide (V4 a b c d ≠ 0))) : WV m' a b c d = (if m then - V4 a b c d else V4 a b c d) ∧ Norm m' a b c d := by
  subst h
  unfold WV Norm
  cases m <;> simp
  omega

theorem wv_eq (m : Bool) (a b c d : Int) : WV m a b c d = if m then - V4 a b c d else V4 a b c d := rfl
theorem wv_bounds {m : Bool} {a b c d : Int} (h : In4 a b c d) : -M256 < WV m a b c d ∧ WV m a b c d < M256 := by
  have := v4_bounds h
  unfold WV; split <;> omega
theorem wv_zero {m : Bool} {a b c d : Int} : WV m a b c d = 0 ↔ V4 a b c d = 0 := by
  unfold WV; split <;> omega
/-- two Wides of one number, both without a nought below nought, are one -/
theorem wv_inj {m n : Bool} {a b c d x y z u : Int} (h : In4 a b c d) (h' : In4 x y z u) (k : Norm m a b c d) (k' : Norm n x y z u) (e : WV m a b c d = WV n x y z u) : m = n ∧ a = x ∧ b = y ∧ c = z ∧ d = u := by
  have b1 := v4_bounds h
  have b2 := v4_bounds h'
  unfold Norm at k k'
  have hm : m = n ∧ V4 a b c d = V4 x y z u := by
    cases m <;> cases n <;> simp [WV] at e k k' ⊢ <;> omega
  exact ⟨hm.1, v4_inj h h' hm.2⟩
theorem wv_ex (n : Int) (h0 : -M256 < n) (h1 : n < M256) : ∃ (m : Bool) (a b c d : Int), In4 a b c d ∧ WV m a b c d = n ∧ Norm m a b c d := by
  by_cases hn : n < 0
  · obtain ⟨a, b, c, d, hi, hv⟩ := v4_ex (-n) (by omega) (by omega)
    exact ⟨true, a, b, c, d, hi, by unfold WV; simp; omega, fun _ => by omega⟩
  · obtain ⟨a, b, c, d, hi, hv⟩ := v4_ex n (by omega) (by omega)
    exact ⟨false, a, b, c, d, hi, by unfold WV; simp; omega, fun h => by cases h⟩

theorem wide_ok {n : Int} {m m' : Bool} {a b c d : Int} (hs : In4 a b c d) (hm : m' = (m && decide (V4 a b c d ≠ 0))) (e : (if m then - V4 a b c d else V4 a b c d) = n) : WV m' a b c d = n ∧ Norm m' a b c d ∧ -M256 < n ∧ n < M256 := by
  have q := norm_of hm
  have b := wv_bounds (m := m') hs
  rw [e] at q
  rw [q.1] at b
  exact ⟨q.1, q.2, b.1, b.2⟩
theorem same_ok {m : Bool} {S A B : Int} (h : S + M256 * 0 = A + B) : (if m then -S else S) = (if m then -A else A) + (if m then -B else B) := by
  cases m <;> simp <;> omega
theorem same_no {m : Bool} {S A B : Int} (h0 : 0 ≤ S) (h : S + M256 * 1 = A + B) : (if m then -A else A) + (if m then -B else B) ≤ -M256 ∨ M256 ≤ (if m then -A else A) + (if m then -B else B) := by
  cases m <;> simp <;> omega
theorem other_ok {m n : Bool} (hmn : m = !n) {S A B : Int} (h : S + B = A + M256 * 0) : (if m then -S else S) = (if m then -A else A) + (if n then -B else B) := by
  subst hmn; cases n <;> simp <;> omega
theorem other_no {m n : Bool} (hmn : m = !n) {S T A B k : Int} (hS : 0 ≤ S ∧ S < M256) (hT : 0 ≤ T ∧ T < M256) (_hA : 0 ≤ A ∧ A < M256) (_hB : 0 ≤ B ∧ B < M256) (h : S + B = A + M256 * 1) (hk : k = 0 ∨ k = 1) (h2 : T + A = B + M256 * k) : (if n then -T else T) = (if m then -A else A) + (if n then -B else B) := by
  have : k = 0 := by
    rcases hk with rfl | rfl
    · rfl
    · unfold M256 at *; omega
  subst this
  subst hmn; cases n <;> simp <;> omega

end Go.Proofs.Ytpjaefcmaiimlaa

/-
  Contract of wide.addTwo: a sum of two Wides, or ErrRange.
-/
namespace Go.Proofs.Ytpjaefcmaiimlaa
open Go.RowKit

/-- a Wide of the number n, and OK; or the zero Wide and ErrRange, where n does not fit -/
def WideOk (n : Int) (m : Bool) (a b c d er : Int) : Prop :=
  (er = 0 ∧ WV m a b c d = n ∧ Norm m a b c d ∧ -M256 < n ∧ n < M256) ∨ (er = 10 ∧ (m = false ∧ a = 0 ∧ b = 0 ∧ c = 0 ∧ d = 0) ∧ (n ≤ -M256 ∨ M256 ≤ n))
def WideP (n : Int) (w : World) (e : Ending) (w' : World) : Prop :=
  ∃ (m : Bool) (a b c d er : Int), In4 a b c d ∧ Hid (WideOk n m a b c d er) ∧ e = .returned (.tuple #[(.agg #[.bool m, .int .u64 a, .int .u64 b, .int .u64 c, .int .u64 d]), .int .i64 er]) ∧ Below w.heap.size w w'
theorem wideP_ok {n : Int} {m : Bool} {a b c d : Int} {w w' : World} (h : In4 a b c d) (k : WV m a b c d = n ∧ Norm m a b c d ∧ -M256 < n ∧ n < M256) (hb : Below w.heap.size w w') : WideP n w (.returned (.tuple #[(.agg #[.bool m, .int .u64 a, .int .u64 b, .int .u64 c, .int .u64 d]), .int .i64 0])) w' :=
  ⟨m, a, b, c, d, 0, h, Or.inl ⟨rfl, k⟩, rfl, hb⟩
theorem wideP_no {n : Int} {w w' : World} (k : n ≤ -M256 ∨ M256 ≤ n) (hb : Below w.heap.size w w') : WideP n w (.returned (.tuple #[(.agg #[.bool false, .int .u64 0, .int .u64 0, .int .u64 0, .int .u64 0]), .int .i64 10])) w' :=
  ⟨false, 0, 0, 0, 0, 10, in4_zero, Or.inr ⟨rfl, ⟨rfl, rfl, rfl, rfl, rfl⟩, k⟩, rfl, hb⟩

end Go.Proofs.Ytpjaefcmaiimlaa

/-
  Contracts: wide.Of, math/bits.Mul64, wide.timesPlus.
-/
namespace Go.Proofs.Ytpjaefcmaiimlaa
open Go.RowKit

def OfP (n : Int) (w : World) (e : Ending) (w' : World) : Prop :=
  ∃ (m : Bool) (a : Int), In1 a ∧ Hid (m = decide (n < 0) ∧ a = if n < 0 then -n else n) ∧ e = .returned (.agg #[.bool m, .int .u64 a, .int .u64 0, .int .u64 0, .int .u64 0]) ∧ Below w.heap.size w w'

theorem and_low32_mod (z : Int) : bits .and .u64 (z % 18446744073709551616) 4294967295 = z % 18446744073709551616 % 4294967296 := and_low32 _ (by omega) (by omega)

/-- two limbs -/
def TwoP (n : Int) (w : World) (e : Ending) (w' : World) : Prop :=
  ∃ h l : Int, In1 h ∧ In1 l ∧ Hid (h * 18446744073709551616 + l = n) ∧ e = .returned (.tuple #[.int .u64 h, .int .u64 l]) ∧ w = w'
def TwoP' (n : Int) (w : World) (e : Ending) (w' : World) : Prop :=
  ∃ l h : Int, In1 l ∧ In1 h ∧ Hid (h * 18446744073709551616 + l = n) ∧ e = .returned (.tuple #[.int .u64 l, .int .u64 h]) ∧ w = w'

theorem mul_le (x y : Int) (hx : In1 x) (hy : In1 y) : 0 ≤ x * y ∧ x * y ≤ 340282366920938463426481119284349108225 := by
  unfold In1 at hx hy
  refine ⟨Int.mul_nonneg hx.1 hy.1, ?_⟩
  have := Int.mul_le_mul (a := x) (b := y) (c := 18446744073709551615) (d := 18446744073709551615) (by omega) (by omega) hy.1 (by omega)
  simpa using this

set_option maxHeartbeats 1000000 in
set_option maxRecDepth 100000 in
theorem mul64_c (x y : Int) (hx : In1 x) (hy : In1 y) (w : World) :
    Calls Try.prog 145 #[.int .u64 x, .int .u64 y] w (TwoP (x * y) w) := by
  have hp := hid_mk (mul_le x y hx hy)
  unfold In1 at hx hy
  obtain ⟨hx0, hx1⟩ := hx
  obtain ⟨hy0, hy1⟩ := hy
  go_enter Try.func145, Try.ntmps145
  go_wp2
  simp only [IntKind.wrap_u64, and_low32 x hx0 hx1, and_low32 y hy0 hy1, and_low32_mod]
  rw [mul64_arith x y hx0 hx1 hy0 hy1]
  refine bodyPost_ret (v := .tuple #[.int .u64 (x * y / 18446744073709551616), .int .u64 (x * y % 18446744073709551616)]) (by simp [results, Try.results145, go_sem]) rfl ⟨_, _, ?_, ?_, ?_, rfl, rfl⟩
  all_goals have := hp.out
  all_goals generalize x * y = p at *
  all_goals first | (unfold Hid; omega) | (unfold In1; omega)

end Go.Proofs.Ytpjaefcmaiimlaa

/-
  Contract of wide.mulLimbs: both halves of the product.
-/
namespace Go.Proofs.Ytpjaefcmaiimlaa
open Go.RowKit
attribute [local go_sem ↓] Go.wp_at_zero Go.wp_at_succ

def sel4 (x0 x1 x2 x3 : Int) : Nat → Int
  | 0 => x0
  | 1 => x1
  | 2 => x2
  | _ => x3
/-- 2^(64 n), for n up to 8 -/
def pw64 : Nat → Int
  | 0 => 1
  | n + 1 => 18446744073709551616 * pw64 n
/-- the number of the first n limbs -/
def sumTo (f : Nat → Int) : Nat → Int
  | 0 => 0
  | n + 1 => sumTo f n + f n * pw64 n
def upd (o : Nat → Int) (j : Nat) (v : Int) : Nat → Int := fun i => if i = j then v else o i

theorem sumTo_congr (f g : Nat → Int) (n : Nat) (h : ∀ i, i < n → f i = g i) : sumTo f n = sumTo g n := by
  induction n with
  | zero => rfl
  | succ n ih => simp only [sumTo]; rw [ih (fun i hi => h i (by omega)), h n (by omega)]
theorem sumTo_upd (o : Nat → Int) (j : Nat) (v : Int) (n : Nat) (h : j < n) : sumTo (upd o j v) n = sumTo o n + (v - o j) * pw64 j := by
  induction n with
  | zero => omega
  | succ n ih =>
    simp only [sumTo]
    by_cases e : j = n
    · subst e
      rw [sumTo_congr (upd o j v) o j (fun i hi => by simp [upd]; omega)]
      simp only [upd, if_true]
      grind
    · rw [ih (by omega)]
      have : upd o j v n = o n := by simp [upd]; omega
      rw [this]; omega
theorem in1_sel {x0 x1 x2 x3 : Int} (h : In4 x0 x1 x2 x3) (i : Nat) : In1 (sel4 x0 x1 x2 x3 i) := by
  unfold sel4
  split
  · exact h.1
  · exact h.2.1
  · exact h.2.2.1
  · exact h.2.2.2
theorem pw64_add (i k : Nat) : pw64 (i + k) = pw64 i * pw64 k := by
  induction k with
  | zero => simp [pw64]
  | succ k ih => rw [Nat.add_succ]; simp only [pw64]; rw [ih]; grind

/-- one step of the school method -/
theorem mul_step (S c l h a b o : Int) (i k : Nat) (SX SY Y : Int) (e : S + c * pw64 (i + k) = SX * Y + a * SY * pw64 i) (g : h * 18446744073709551616 + l = a * b + o + c) :
    S + (l - o) * pw64 (i + k) + h * pw64 (i + (k + 1)) = SX * Y + a * (SY + b * pw64 k) * pw64 i := by
  have e1 : pw64 (i + (k + 1)) = 18446744073709551616 * pw64 (i + k) := by rw [← Nat.add_assoc]; rfl
  rw [e1]
  rw [pw64_add] at *
  generalize pw64 i = p at *
  generalize pw64 k = q at *
  grind
theorem mul_last (S c a SX Y : Int) (i : Nat) (e : S + c * pw64 (i + 4) = SX * Y + a * Y * pw64 i) : S + (c - 0) * pw64 (i + 4) = (SX + a * pw64 i) * Y := by
  grind

structure MW (w : World) (x0 x1 x2 x3 y0 y1 y2 y3 : Int) (o : Nat → Int) (W : World) : Prop where
  hx : ∀ i, i < 4 → W.cell? ⟨w.heap.size, i, none⟩ = some (.int .u64 (sel4 x0 x1 x2 x3 i))
  hy : ∀ i, i < 4 → W.cell? ⟨w.heap.size + 1, i, none⟩ = some (.int .u64 (sel4 y0 y1 y2 y3 i))
  ho : ∀ i, i < 8 → W.cell? ⟨w.heap.size + 1 + 1 + 1 + 1, i, none⟩ = some (.int .u64 (o i))
  fo : ∀ i, i < 8 → W.frozen? ⟨w.heap.size + 1 + 1 + 1 + 1, i, none⟩ = false
  r1 : ∀ i, i < 4 → W.cell? ⟨w.heap.size + 1 + 1, i, none⟩ = some (.int .u64 0)
  f1 : ∀ i, i < 4 → W.frozen? ⟨w.heap.size + 1 + 1, i, none⟩ = false
  r2 : ∀ i, i < 4 → W.cell? ⟨w.heap.size + 1 + 1 + 1, i, none⟩ = some (.int .u64 0)
  f2 : ∀ i, i < 4 → W.frozen? ⟨w.heap.size + 1 + 1 + 1, i, none⟩ = false
  hb : Below w.heap.size w W

theorem MW.drew {w : World} {x0 x1 x2 x3 y0 y1 y2 y3 : Int} {o : Nat → Int} {W : World} (h : MW w x0 x1 x2 x3 y0 y1 y2 y3 o W) : MW w x0 x1 x2 x3 y0 y1 y2 y3 o W.drew :=
  ⟨h.hx, h.hy, h.ho, h.fo, h.r1, h.f1, h.r2, h.f2, h.hb.drew⟩
theorem MW.set {w : World} {x0 x1 x2 x3 y0 y1 y2 y3 : Int} {o : Nat → Int} {W : World} (h : MW w x0 x1 x2 x3 y0 y1 y2 y3 o W) (j : Nat) (hj : j < 8) (v : Int) :
    MW w x0 x1 x2 x3 y0 y1 y2 y3 (upd o j v) (W.setCell ⟨w.heap.size + 1 + 1 + 1 + 1, j, none⟩ (.int .u64 v)) := by
  have far : ∀ b i, b ≠ w.heap.size + 1 + 1 + 1 + 1 → (W.setCell ⟨w.heap.size + 1 + 1 + 1 + 1, j, none⟩ (.int .u64 v)).cell? ⟨b, i, none⟩ = W.cell? ⟨b, i, none⟩ := fun b i hb => World.cell?_setCell_far _ _ _ _ (fun e => hb e.symm)
  refine ⟨fun i hi => ?_, fun i hi => ?_, fun i hi => ?_, fun i hi => ?_, fun i hi => ?_, fun i hi => ?_, fun i hi => ?_, fun i hi => ?_, bl_set h.hb (by show w.heap.size ≤ w.heap.size + 1 + 1 + 1 + 1; omega) _⟩
  · rw [far _ _ (by omega)]; exact h.hx i hi
  · rw [far _ _ (by omega)]; exact h.hy i hi
  · by_cases e : i = j
    · subst e
      rw [World.cell?_setCell_same _ _ _ (h.ho i hi)]
      simp [upd]
    · rw [World.cell?_setCell_other _ _ _ _ (by intro e'; injection e' with _ e2; omega)]
      rw [h.ho i hi]
      simp [upd, e]
  · rw [World.frozen?_setCell]; exact h.fo i hi
  · rw [far _ _ (by omega)]; exact h.r1 i hi
  · rw [World.frozen?_setCell]; exact h.f1 i hi
  · rw [far _ _ (by omega)]; exact h.r2 i hi
  · rw [World.frozen?_setCell]; exact h.f2 i hi

def MulP (A B : Int) (w : World) (e : Ending) (w' : World) : Prop :=
  ∃ s0 s1 s2 s3 t0 t1 t2 t3 : Int, In4 s0 s1 s2 s3 ∧ In4 t0 t1 t2 t3 ∧ Hid (V4 s0 s1 s2 s3 + M256 * V4 t0 t1 t2 t3 = A * B) ∧ e = .returned (.tuple #[(.agg #[.int .u64 s0, .int .u64 s1, .int .u64 s2, .int .u64 s3]), (.agg #[.int .u64 t0, .int .u64 t1, .int .u64 t2, .int .u64 t3])]) ∧ Below w.heap.size w w'

/-- the outer loop, ahead of round i -/
def MulOut (w : World) (x0 x1 x2 x3 y0 y1 y2 y3 : Int) (iv : Value) (W : World) : Prop :=
  ∃ (i : Nat) (o : Nat → Int), i ≤ 4 ∧ iv = .int .i64 i ∧ MW w x0 x1 x2 x3 y0 y1 y2 y3 o W ∧ (∀ j, In1 (o j)) ∧ (∀ j, i + 4 ≤ j → o j = 0) ∧ sumTo o 8 = sumTo (sel4 x0 x1 x2 x3) i * sumTo (sel4 y0 y1 y2 y3) 4
/-- the inner loop, ahead of round k -/
def MulIn (w : World) (x0 x1 x2 x3 y0 y1 y2 y3 : Int) (i : Nat) (cv kv : Value) (W : World) : Prop :=
  ∃ (k : Nat) (o : Nat → Int) (c : Int), k ≤ 4 ∧ kv = .int .i64 k ∧ cv = .int .u64 c ∧ In1 c ∧ MW w x0 x1 x2 x3 y0 y1 y2 y3 o W ∧ (∀ j, In1 (o j)) ∧ (∀ j, i + 4 ≤ j → o j = 0) ∧
    sumTo o 8 + c * pw64 (i + k) = sumTo (sel4 x0 x1 x2 x3) i * sumTo (sel4 y0 y1 y2 y3) 4 + sel4 x0 x1 x2 x3 i * sumTo (sel4 y0 y1 y2 y3) k * pw64 i

theorem in1_zero : In1 0 := by unfold In1; omega
theorem in1_upd {o : Nat → Int} (h : ∀ j, In1 (o j)) (i : Nat) {v : Int} (hv : In1 v) : ∀ j, In1 (upd o i v j) := by
  intro j; unfold upd; split
  · exact hv
  · exact h j

end Go.Proofs.Ytpjaefcmaiimlaa

/-
  Contract of wide.mulTwo.
-/
namespace Go.Proofs.Ytpjaefcmaiimlaa
open Go.RowKit
attribute [local go_sem ↓] Go.wp_at_zero Go.wp_at_succ

theorem wv_mul (m n : Bool) (A B : Int) : (if m then -A else A) * (if n then -B else B) = if (m != n) then -(A * B) else A * B := by
  cases m <;> cases n <;> simp [Int.neg_mul, Int.mul_neg]
theorem mul_ok {m n : Bool} {S T A B : Int} (h0 : T = 0) (h : S + M256 * T = A * B) : (if (m != n) then -S else S) = (if m then -A else A) * (if n then -B else B) := by
  subst h0
  rw [wv_mul, ← h, Int.mul_zero, Int.add_zero]
theorem mul_no {m n : Bool} {S T A B : Int} (hS : 0 ≤ S ∧ S < M256) (hT : 0 ≤ T ∧ T < M256) (h0 : T ≠ 0) (h : S + M256 * T = A * B) : (if m then -A else A) * (if n then -B else B) ≤ -M256 ∨ M256 ≤ (if m then -A else A) * (if n then -B else B) := by
  rw [wv_mul, ← h]
  have : M256 ≤ S + M256 * T := by
    have h1 : 1 ≤ T := by omega
    clear h h0
    unfold M256 at *; omega
  split <;> omega

end Go.Proofs.Ytpjaefcmaiimlaa

/-
  Contracts: wide.fold over a step that has a contract.
-/
namespace Go.Proofs.Ytpjaefcmaiimlaa
open Go.RowKit

structure Wd where
  m : Bool
  a : Int
  b : Int
  c : Int
  d : Int
def Wd.val (x : Wd) : Int := WV x.m x.a x.b x.c x.d
def Wd.ok (x : Wd) : Prop := In4 x.a x.b x.c x.d
def Wd.get (l : List Wd) (i : Nat) : Wd := l.getD i ⟨false, 0, 0, 0, 0⟩

/-- a Wide's five cells at an address -/
structure At5 (W : World) (b o : Nat) (x : Wd) : Prop where
  c0 : W.cell? ⟨b, o, none⟩ = some (.bool x.m)
  c1 : W.cell? ⟨b, o + 1, none⟩ = some (.int .u64 x.a)
  c2 : W.cell? ⟨b, o + 2, none⟩ = some (.int .u64 x.b)
  c3 : W.cell? ⟨b, o + 3, none⟩ = some (.int .u64 x.c)
  c4 : W.cell? ⟨b, o + 4, none⟩ = some (.int .u64 x.d)
/-- .. that may be written -/
structure Free5 (W : World) (b o : Nat) : Prop where
  f0 : W.frozen? ⟨b, o, none⟩ = false
  f1 : W.frozen? ⟨b, o + 1, none⟩ = false
  f2 : W.frozen? ⟨b, o + 2, none⟩ = false
  f3 : W.frozen? ⟨b, o + 3, none⟩ = false
  f4 : W.frozen? ⟨b, o + 4, none⟩ = false

theorem At5.below {W W' : World} {b o : Nat} {x : Wd} (h : At5 W b o x) (hb : Below W.heap.size W W') (hlt : b < W.heap.size) : At5 W' b o x :=
  ⟨(hb.cell (p := ⟨b, _, none⟩) hlt).trans h.c0, (hb.cell (p := ⟨b, _, none⟩) hlt).trans h.c1, (hb.cell (p := ⟨b, _, none⟩) hlt).trans h.c2, (hb.cell (p := ⟨b, _, none⟩) hlt).trans h.c3, (hb.cell (p := ⟨b, _, none⟩) hlt).trans h.c4⟩
theorem Free5.below {W W' : World} {b o : Nat} (h : Free5 W b o) (hb : Below W.heap.size W W') (hlt : b < W.heap.size) : Free5 W' b o :=
  ⟨(hb.frozen (p := ⟨b, _, none⟩) hlt).trans h.f0, (hb.frozen (p := ⟨b, _, none⟩) hlt).trans h.f1, (hb.frozen (p := ⟨b, _, none⟩) hlt).trans h.f2, (hb.frozen (p := ⟨b, _, none⟩) hlt).trans h.f3, (hb.frozen (p := ⟨b, _, none⟩) hlt).trans h.f4⟩
theorem At5.lt {W : World} {b o : Nat} {x : Wd} (h : At5 W b o x) : b < W.heap.size := by
  have := h.c0
  unfold World.cell? at this
  by_cases hl : b < W.heap.size
  · exact hl
  · simp [Array.getElem?_eq_none (by omega : W.heap.size ≤ b)] at this
theorem At5.alloc {W : World} {b o : Nat} {x : Wd} (h : At5 W b o x) (ob : Obj) : At5 (W.alloc ob) b o x :=
  h.below ((Below.refl _ _).alloc (Nat.le_refl _) ob) h.lt
theorem Free5.alloc {W : World} {b o : Nat} (h : Free5 W b o) (hlt : b < W.heap.size) (ob : Obj) : Free5 (W.alloc ob) b o :=
  h.below ((Below.refl _ _).alloc (Nat.le_refl _) ob) hlt
theorem Free5.store {W : World} {b o b' o' : Nat} (h : Free5 W b o) (m : Bool) (p q r s : Int) :
    Free5 (((((W.setCell ⟨b', o', none⟩ (.bool m)).setCell ⟨b', o' + 1, none⟩ (.int .u64 p)).setCell ⟨b', o' + 2, none⟩ (.int .u64 q)).setCell ⟨b', o' + 3, none⟩ (.int .u64 r)).setCell ⟨b', o' + 4, none⟩ (.int .u64 s)) b o := by
  constructor <;> simp only [World.frozen?_setCell]
  · exact h.f0
  · exact h.f1
  · exact h.f2
  · exact h.f3
  · exact h.f4
theorem At5.store_far {W : World} {b o b' o' : Nat} {x : Wd} (h : At5 W b o x) (hne : b' ≠ b) (m : Bool) (p q r s : Int) :
    At5 (((((W.setCell ⟨b', o', none⟩ (.bool m)).setCell ⟨b', o' + 1, none⟩ (.int .u64 p)).setCell ⟨b', o' + 2, none⟩ (.int .u64 q)).setCell ⟨b', o' + 3, none⟩ (.int .u64 r)).setCell ⟨b', o' + 4, none⟩ (.int .u64 s)) b o x := by
  have far : ∀ (W : World) (i j : Nat) (v : Value), (W.setCell ⟨b', i, none⟩ v).cell? ⟨b, j, none⟩ = W.cell? ⟨b, j, none⟩ := fun W i j v => World.cell?_setCell_far _ _ _ _ hne
  constructor <;> simp only [far]
  · exact h.c0
  · exact h.c1
  · exact h.c2
  · exact h.c3
  · exact h.c4
/-- five stores -/
theorem At5.store {W : World} {b o : Nat} {x : Wd} (h : At5 W b o x) (m : Bool) (p q r s : Int) :
    At5 (((((W.setCell ⟨b, o, none⟩ (.bool m)).setCell ⟨b, o + 1, none⟩ (.int .u64 p)).setCell ⟨b, o + 2, none⟩ (.int .u64 q)).setCell ⟨b, o + 3, none⟩ (.int .u64 r)).setCell ⟨b, o + 4, none⟩ (.int .u64 s)) b o ⟨m, p, q, r, s⟩ := by
  have h0 := h.c0; have h1 := h.c1; have h2 := h.c2; have h3 := h.c3; have h4 := h.c4
  constructor <;> simp [go_sem, h0, h1, h2, h3, h4]

/-- what a fold comes to: none where a result on the way does not fit -/
def fres (op : Int → Int → Int) (acc : Int) : List Wd → Option Int
  | [] => some acc
  | x :: r => if -M256 < op acc x.val ∧ op acc x.val < M256 then fres op (op acc x.val) r else none

def FoldP (op : Int → Int → Int) (acc : Int) (l : List Wd) (w : World) (e : Ending) (w' : World) : Prop :=
  ∃ (m : Bool) (a b c d er : Int), In4 a b c d ∧ Hid ((er = 0 ∧ fres op acc l = some (WV m a b c d) ∧ Norm m a b c d) ∨ (er = 10 ∧ (m = false ∧ a = 0 ∧ b = 0 ∧ c = 0 ∧ d = 0) ∧ fres op acc l = none)) ∧
    e = .returned (.tuple #[(.agg #[.bool m, .int .u64 a, .int .u64 b, .int .u64 c, .int .u64 d]), .int .i64 er]) ∧ Below w.heap.size w w'

theorem drop_get (l : List Wd) (k : Nat) (h : k < l.length) : l.drop k = Wd.get l k :: l.drop (k + 1) := by
  rw [List.drop_eq_getElem_cons h]
  simp [Wd.get, List.getD, List.getElem?_eq_getElem h]
theorem fres_ok {op : Int → Int → Int} {acc : Int} {l : List Wd} {k : Nat} {x : Wd} (h : k < l.length) (hf : fres op acc l = fres op x.val (l.drop k)) {v : Int} (hv : v = op x.val (Wd.get l k).val) (h0 : -M256 < v) (h1 : v < M256) : fres op acc l = fres op v (l.drop (k + 1)) := by
  rw [hf, drop_get l k h]
  subst hv
  simp only [fres]
  rw [if_pos ⟨h0, h1⟩]
theorem fres_no {op : Int → Int → Int} {acc : Int} {l : List Wd} {k : Nat} {x : Wd} (h : k < l.length) (hf : fres op acc l = fres op x.val (l.drop k)) (hv : op x.val (Wd.get l k).val ≤ -M256 ∨ M256 ≤ op x.val (Wd.get l k).val) : fres op acc l = none := by
  rw [hf, drop_get l k h]
  simp only [fres]
  rw [if_neg (by omega)]

/-- the slice's Wides in memory -/
def WidesAt (W : World) (g o : Nat) (l : List Wd) : Prop := ∀ i, i < l.length → At5 W g (o + i * 5) (Wd.get l i) ∧ (Wd.get l i).ok

/-- ahead of round k -/
def FoldR (op : Int → Int → Int) (acc : Int) (l : List Wd) (w : World) (kv : Value) (W : World) : Prop :=
  ∃ (k : Nat) (x : Wd), k ≤ l.length ∧ kv = .int .i64 k ∧ x.ok ∧ Norm x.m x.a x.b x.c x.d ∧ fres op acc l = fres op x.val (l.drop k) ∧
    At5 W (w.heap.size + 1 + 1) 0 x ∧ Free5 W (w.heap.size + 1 + 1) 0 ∧ At5 W (w.heap.size + 1) 0 ⟨false, 0, 0, 0, 0⟩ ∧ Free5 W (w.heap.size + 1) 0 ∧ Below w.heap.size w W

end Go.Proofs.Ytpjaefcmaiimlaa

/-
  Contracts: wide.Add, wide.Mul at a slice that is not nil.
-/
namespace Go.Proofs.Ytpjaefcmaiimlaa
open Go.RowKit

end Go.Proofs.Ytpjaefcmaiimlaa
