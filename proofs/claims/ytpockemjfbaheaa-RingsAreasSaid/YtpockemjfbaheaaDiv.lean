/-
  Contract of wide.divLimbs: quotient and remainder.
-/
import Derived.Test.YtpockemjfbaheaaDivMath
import Derived.Test.YtpockemjfbaheaaAt4
import Derived.Deep.DeepCutAuto
namespace Go.Proofs.Ytpockemjfbaheaa
open Go.RowKit
attribute [local go_sem ↓] Go.wp_at_zero Go.wp_at_succ

def DivP (X Y : Int) (w : World) (e : Ending) (w' : World) : Prop :=
  ∃ q0 q1 q2 q3 r0 r1 r2 r3 : Int, In4 q0 q1 q2 q3 ∧ In4 r0 r1 r2 r3 ∧ Hid (X = V4 q0 q1 q2 q3 * Y + V4 r0 r1 r2 r3 ∧ V4 r0 r1 r2 r3 < Y) ∧ e = .returned (.tuple #[(.agg #[.int .u64 q0, .int .u64 q1, .int .u64 q2, .int .u64 q3]), (.agg #[.int .u64 r0, .int .u64 r1, .int .u64 r2, .int .u64 r3])]) ∧ Below w.heap.size w w'

/-- divLimbs' memory: the arguments' boxes, the quotient, the rest -/
structure DW (w : World) (a b c d x y z u q0 q1 q2 q3 r0 r1 r2 r3 : Int) (W : World) : Prop where
  a1 : At4 W w.heap.size a b c d
  x1 : At4 W (w.heap.size + 1) x y z u
  q1 : At4 W (w.heap.size + 1 + 1) q0 q1 q2 q3
  q2 : Free4 W (w.heap.size + 1 + 1)
  r1 : At4 W (w.heap.size + 1 + 1 + 1) r0 r1 r2 r3
  r2 : Free4 W (w.heap.size + 1 + 1 + 1)
  hb : Below w.heap.size w W
theorem DW.below {w : World} {a b c d x y z u q0 q1 q2 q3 r0 r1 r2 r3 : Int} {W W' : World} (h : DW w a b c d x y z u q0 q1 q2 q3 r0 r1 r2 r3 W) (hb : Below W.heap.size W W') : DW w a b c d x y z u q0 q1 q2 q3 r0 r1 r2 r3 W' :=
  ⟨h.a1.below hb, h.x1.below hb, h.q1.below hb, h.q2.below h.q1.lt hb, h.r1.below hb, h.r2.below h.r1.lt hb, bl_trans h.hb hb⟩

theorem DW.rest {w : World} {a b c d x y z u q0 q1 q2 q3 r0 r1 r2 r3 : Int} {W : World} (h : DW w a b c d x y z u q0 q1 q2 q3 r0 r1 r2 r3 W) (s0 s1 s2 s3 : Int) :
    DW w a b c d x y z u q0 q1 q2 q3 s0 s1 s2 s3 ((((W.setCell ⟨w.heap.size + 1 + 1 + 1, 0, none⟩ (.int .u64 s0)).setCell ⟨w.heap.size + 1 + 1 + 1, 1, none⟩ (.int .u64 s1)).setCell ⟨w.heap.size + 1 + 1 + 1, 2, none⟩ (.int .u64 s2)).setCell ⟨w.heap.size + 1 + 1 + 1, 3, none⟩ (.int .u64 s3)) :=
  ⟨(((h.a1.far (by omega) _ _).far (by omega) _ _).far (by omega) _ _).far (by omega) _ _, (((h.x1.far (by omega) _ _).far (by omega) _ _).far (by omega) _ _).far (by omega) _ _, (((h.q1.far (by omega) _ _).far (by omega) _ _).far (by omega) _ _).far (by omega) _ _, (((h.q2.far _ _).far _ _).far _ _).far _ _, h.r1.store s0 s1 s2 s3, (((h.r2.far _ _).far _ _).far _ _).far _ _,
    bl_set (bl_set (bl_set (bl_set h.hb (by dsimp only; omega) _) (by dsimp only; omega) _) (by dsimp only; omega) _) (by dsimp only; omega) _⟩
theorem DW.quo0 {w : World} {a b c d x y z u q0 q1 q2 q3 r0 r1 r2 r3 : Int} {W : World} (h : DW w a b c d x y z u q0 q1 q2 q3 r0 r1 r2 r3 W) (v : Int) :
    DW w a b c d x y z u v q1 q2 q3 r0 r1 r2 r3 (W.setCell ⟨w.heap.size + 1 + 1, 0, none⟩ (.int .u64 v)) :=
  ⟨h.a1.far (by omega) _ _, h.x1.far (by omega) _ _, h.q1.set0 v, h.q2.far _ _, h.r1.far (by omega) _ _, h.r2.far _ _, bl_set h.hb (by dsimp only; omega) _⟩
theorem DW.quo1 {w : World} {a b c d x y z u q0 q1 q2 q3 r0 r1 r2 r3 : Int} {W : World} (h : DW w a b c d x y z u q0 q1 q2 q3 r0 r1 r2 r3 W) (v : Int) :
    DW w a b c d x y z u q0 v q2 q3 r0 r1 r2 r3 (W.setCell ⟨w.heap.size + 1 + 1, 1, none⟩ (.int .u64 v)) :=
  ⟨h.a1.far (by omega) _ _, h.x1.far (by omega) _ _, h.q1.set1 v, h.q2.far _ _, h.r1.far (by omega) _ _, h.r2.far _ _, bl_set h.hb (by dsimp only; omega) _⟩
theorem DW.quo2 {w : World} {a b c d x y z u q0 q1 q2 q3 r0 r1 r2 r3 : Int} {W : World} (h : DW w a b c d x y z u q0 q1 q2 q3 r0 r1 r2 r3 W) (v : Int) :
    DW w a b c d x y z u q0 q1 v q3 r0 r1 r2 r3 (W.setCell ⟨w.heap.size + 1 + 1, 2, none⟩ (.int .u64 v)) :=
  ⟨h.a1.far (by omega) _ _, h.x1.far (by omega) _ _, h.q1.set2 v, h.q2.far _ _, h.r1.far (by omega) _ _, h.r2.far _ _, bl_set h.hb (by dsimp only; omega) _⟩
theorem DW.quo3 {w : World} {a b c d x y z u q0 q1 q2 q3 r0 r1 r2 r3 : Int} {W : World} (h : DW w a b c d x y z u q0 q1 q2 q3 r0 r1 r2 r3 W) (v : Int) :
    DW w a b c d x y z u q0 q1 q2 v r0 r1 r2 r3 (W.setCell ⟨w.heap.size + 1 + 1, 3, none⟩ (.int .u64 v)) :=
  ⟨h.a1.far (by omega) _ _, h.x1.far (by omega) _ _, h.q1.set3 v, h.q2.far _ _, h.r1.far (by omega) _ _, h.r2.far _ _, bl_set h.hb (by dsimp only; omega) _⟩
theorem DW.far {w : World} {a b c d x y z u q0 q1 q2 q3 r0 r1 r2 r3 : Int} {W : World} (h : DW w a b c d x y z u q0 q1 q2 q3 r0 r1 r2 r3 W) {D : Nat} (hD : w.heap.size + 1 + 1 + 1 < D) (o : Nat) (v : Value) :
    DW w a b c d x y z u q0 q1 q2 q3 r0 r1 r2 r3 (W.setCell ⟨D, o, none⟩ v) :=
  ⟨h.a1.far (by omega) _ _, h.x1.far (by omega) _ _, h.q1.far (by omega) _ _, h.q2.far _ _, h.r1.far (by omega) _ _, h.r2.far _ _, bl_set h.hb (by dsimp only; omega) _⟩
theorem wrap_pow (r : Nat) (hr : r < 64) : IntKind.u64.wrap (2 ^ r) = 2 ^ r := by
  have h1 : (0 : Int) < 2 ^ r := Int.pow_pos (by omega)
  have h2 : (2 : Int) ^ r ≤ 2 ^ 63 := pow_mono (by omega)
  rw [show (2 : Int) ^ 63 = 9223372036854775808 from rfl] at h2
  rw [IntKind.wrap_u64]; omega

/-- behind 'shift := length(x) - length(y)' -/
def DivCut (w : World) (a b c d x y z u : Int) (s6 : Value) (W : World) : Prop :=
  ∃ n k : Int, Hid (LenOf (V4 a b c d) n ∧ LenOf (V4 x y z u) k) ∧ 0 ≤ n ∧ n ≤ 256 ∧ 0 ≤ k ∧ k ≤ 256 ∧ s6 = .int .i64 (n - k) ∧ DW w a b c d x y z u 0 0 0 0 a b c d W

def DivR (w : World) (a b c d x y z u : Int) (D : Nat) (bv : Value) (W : World) : Prop :=
  ∃ (bit : Int) (q0 q1 q2 q3 r0 r1 r2 r3 v0 v1 v2 v3 : Int), -1 ≤ bit ∧ bit ≤ 255 ∧ bv = .int .i64 bit ∧ In4 q0 q1 q2 q3 ∧ In4 r0 r1 r2 r3 ∧ In4 v0 v1 v2 v3 ∧
    DW w a b c d x y z u q0 q1 q2 q3 r0 r1 r2 r3 W ∧ At4 W D v0 v1 v2 v3 ∧ Free4 W D ∧ DivM (V4 a b c d) (V4 x y z u) (V4 q0 q1 q2 q3) (V4 r0 r1 r2 r3) (V4 v0 v1 v2 v3) bit

/-- behind the round's test -/
def DivC (w : World) (a b c d x y z u v0 v1 v2 v3 bit : Int) (D : Nat) (W : World) : Prop :=
  ∃ q0 q1 q2 q3 r0 r1 r2 r3 : Int, In4 q0 q1 q2 q3 ∧ In4 r0 r1 r2 r3 ∧ DW w a b c d x y z u q0 q1 q2 q3 r0 r1 r2 r3 W ∧ At4 W D v0 v1 v2 v3 ∧ Free4 W D ∧ DivM (V4 a b c d) (V4 x y z u) (V4 q0 q1 q2 q3) (V4 r0 r1 r2 r3) (V4 v0 v1 v2 v3 / 2) (bit - 1)

end Go.Proofs.Ytpockemjfbaheaa
