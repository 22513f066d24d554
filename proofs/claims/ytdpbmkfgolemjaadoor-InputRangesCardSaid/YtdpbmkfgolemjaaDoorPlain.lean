/-
  Plain facts on limbs: four numbers below 2^64 and the number that they make.
-/
import Derived.Below
import Derived.Deep.Draws
set_option linter.unusedVariables false
set_option linter.unusedSimpArgs false
set_option linter.deprecated false
namespace Go.Proofs.YtdpbmkfgolemjaaDoor
open Go.RowKit

/-- a is a number of 64 bits -/
def In1 (a : Int) : Prop := 0 ≤ a ∧ a < 18446744073709551616
def In4 (a b c d : Int) : Prop := In1 a ∧ In1 b ∧ In1 c ∧ In1 d
/-- 2^256 -/
def M256 : Int := 115792089237316195423570985008687907853269984665640564039457584007913129639936
/-- the number of four limbs, the lowest first -/
def V4 (a b c d : Int) : Int := a + b * 18446744073709551616 + c * 340282366920938463463374607431768211456 + d * 6277101735386680763835789423207666416102355444464034512896

theorem hid_mk {p : Prop} (h : p) : Hid p := h

theorem in4_of {a b c d : Int} (h1 : In1 a) (h2 : In1 b) (h3 : In1 c) (h4 : In1 d) : In4 a b c d := ⟨h1, h2, h3, h4⟩

theorem v4_bounds {a b c d : Int} (h : In4 a b c d) : 0 ≤ V4 a b c d ∧ V4 a b c d < M256 := by
  unfold In4 In1 at h; unfold V4 M256; omega
theorem v4_inj {a b c d x y z u : Int} (h : In4 a b c d) (h' : In4 x y z u) (e : V4 a b c d = V4 x y z u) : a = x ∧ b = y ∧ c = z ∧ d = u := by
  unfold In4 In1 at h h'; unfold V4 at e; omega
theorem v4_zero {a b c d : Int} (h : In4 a b c d) : V4 a b c d = 0 ↔ (a = 0 ∧ b = 0 ∧ c = 0 ∧ d = 0) := by
  unfold In4 In1 at h; unfold V4; omega
theorem v4_ex (n : Int) (h0 : 0 ≤ n) (h1 : n < M256) : ∃ a b c d : Int, In4 a b c d ∧ V4 a b c d = n := by
  unfold M256 at h1
  refine ⟨n % 18446744073709551616, n / 18446744073709551616 % 18446744073709551616, n / 340282366920938463463374607431768211456 % 18446744073709551616, n / 6277101735386680763835789423207666416102355444464034512896, ?_, ?_⟩
  · unfold In4 In1; omega
  · unfold V4; omega
theorem in4_zero : In4 0 0 0 0 := by unfold In4 In1; omega
theorem v4_zero0 : V4 0 0 0 0 = 0 := by unfold V4; omega
theorem v4_small (n : Int) : V4 n 0 0 0 = n := by unfold V4; omega
theorem in4_small {n : Int} (h : In1 n) : In4 n 0 0 0 := by unfold In4 In1 at *; omega

/-- all old cells and all old marks read as before -/
theorem bcell {W w1 : World} (hb : Below W.heap.size W w1) : (∀ b o, b < W.heap.size → w1.cell? ⟨b, o, none⟩ = W.cell? ⟨b, o, none⟩) ∧ (∀ b o, b < W.heap.size → w1.frozen? ⟨b, o, none⟩ = W.frozen? ⟨b, o, none⟩) :=
  ⟨fun b o h => hb.cell (p := ⟨b, o, none⟩) h, fun b o h => hb.frozen (p := ⟨b, o, none⟩) h⟩

theorem bl_alloc {w w' : World} (h : Below w.heap.size w w') (o : Obj) : Below w.heap.size w (w'.alloc o) := h.alloc h.size o
theorem bl_set {w w' : World} (h : Below w.heap.size w w') {p : Addr} (hp : w.heap.size ≤ p.block) (u : Value) : Below w.heap.size w (w'.setCell p u) := h.setCell hp u
theorem bl_trans {w w1 w2 : World} (h : Below w.heap.size w w1) (k : Below w1.heap.size w1 w2) : Below w.heap.size w w2 := h.trans (k.mono h.size)
theorem below_drewN' {B : Nat} {a w : World} (h : Below B a w) (n : Nat) : Below B a (w.drewN n) := ⟨h.os, h.tape, h.output, h.size, h.block⟩

end Go.Proofs.YtdpbmkfgolemjaaDoor
