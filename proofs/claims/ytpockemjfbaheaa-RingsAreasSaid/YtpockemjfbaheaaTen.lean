/-
  Contracts: math/bits.Div64 by ten, wide.tenth, wide.tenfold.
-/
import Derived.Test.YtpockemjfbaheaaLen
import Derived.Test.YtpockemjfbaheaaHalf
import Derived.Test.YtpockemjfbaheaaMul
import Derived.Test.YtpockemjfbaheaaAt4
import Derived.Deep.QuietTactic
import Derived.BigQuiet
namespace Go.Proofs.Ytpockemjfbaheaa
open Go.RowKit

theorem or60 (hi lo : Int) (h : 0 < hi) (h9 : hi < 10) (h0 : 0 ≤ lo) (h1 : lo < 18446744073709551616) : bits BinOp.or IntKind.u64 (hi * 1152921504606846976) (lo / 16) = hi * 1152921504606846976 + lo / 16 :=
  orU 60 _ hi _ (by rw [show (2 : Int) ^ 60 = 1152921504606846976 from rfl] <;> omega) (by omega) (by omega) (by rw [show (2 : Int) ^ 60 = 1152921504606846976 from rfl] <;> omega) (by omega) (by omega)
theorem and_y0 : bits BinOp.and IntKind.u64 11529215046068469760 4294967295 = 0 := by
  rw [and_low32 _ (by omega) (by omega)]; rfl

def Div10P (n : Int) (w : World) (e : Ending) (w' : World) : Prop :=
  ∃ q r : Int, In1 q ∧ Hid (q * 10 + r = n ∧ 0 ≤ r ∧ r < 10) ∧ e = .returned (.tuple #[.int .u64 q, .int .u64 r]) ∧ Below w.heap.size w w'

/-- a tenth of a number, and its last digit -/
def TenthP (V : Int) (w : World) (e : Ending) (w' : World) : Prop :=
  ∃ s0 s1 s2 s3 r : Int, In4 s0 s1 s2 s3 ∧ Hid (V = V4 s0 s1 s2 s3 * 10 + r ∧ 0 ≤ r ∧ r < 10) ∧ e = .returned (.tuple #[(.agg #[.int .u64 s0, .int .u64 s1, .int .u64 s2, .int .u64 s3]), .int .u64 r]) ∧ Below w.heap.size w w'

structure TW (w : World) (g : Nat) (a b c d : Int) (W : World) : Prop where
  x1 : At4 W w.heap.size a b c d
  x2 : Free4 W w.heap.size
  r1 : At4 W g 0 0 0 0
  r2 : Free4 W g
  hb : Below w.heap.size w W
theorem TW.below {w : World} {g : Nat} {a b c d : Int} {W W' : World} (h : TW w g a b c d W) (hb : Below W.heap.size W W') : TW w g a b c d W' :=
  ⟨h.x1.below hb, h.x2.below h.x1.lt hb, h.r1.below hb, h.r2.below h.r1.lt hb, bl_trans h.hb hb⟩
theorem TW.set0 {w : World} {g : Nat} {a b c d : Int} {W : World} (h : TW w g a b c d W) (hg : w.heap.size < g) (v : Int) : TW w g v b c d (W.setCell ⟨w.heap.size, 0, none⟩ (.int .u64 v)) :=
  ⟨h.x1.set0 v, h.x2.far _ _, h.r1.far (by omega) _ _, h.r2.far _ _, bl_set h.hb (by dsimp only; omega) _⟩
theorem TW.set1 {w : World} {g : Nat} {a b c d : Int} {W : World} (h : TW w g a b c d W) (hg : w.heap.size < g) (v : Int) : TW w g a v c d (W.setCell ⟨w.heap.size, 1, none⟩ (.int .u64 v)) :=
  ⟨h.x1.set1 v, h.x2.far _ _, h.r1.far (by omega) _ _, h.r2.far _ _, bl_set h.hb (by dsimp only; omega) _⟩
theorem TW.set2 {w : World} {g : Nat} {a b c d : Int} {W : World} (h : TW w g a b c d W) (hg : w.heap.size < g) (v : Int) : TW w g a b v d (W.setCell ⟨w.heap.size, 2, none⟩ (.int .u64 v)) :=
  ⟨h.x1.set2 v, h.x2.far _ _, h.r1.far (by omega) _ _, h.r2.far _ _, bl_set h.hb (by dsimp only; omega) _⟩
theorem TW.set3 {w : World} {g : Nat} {a b c d : Int} {W : World} (h : TW w g a b c d W) (hg : w.heap.size < g) (v : Int) : TW w g a b c v (W.setCell ⟨w.heap.size, 3, none⟩ (.int .u64 v)) :=
  ⟨h.x1.set3 v, h.x2.far _ _, h.r1.far (by omega) _ _, h.r2.far _ _, bl_set h.hb (by dsimp only; omega) _⟩

/-- ten times a number and a digit, and what is carried out -/
def TenfoldP (n : Int) (w : World) (e : Ending) (w' : World) : Prop :=
  ∃ s0 s1 s2 s3 co : Int, In4 s0 s1 s2 s3 ∧ In1 co ∧ Hid (V4 s0 s1 s2 s3 + M256 * co = n) ∧ e = .returned (.tuple #[(.agg #[.int .u64 s0, .int .u64 s1, .int .u64 s2, .int .u64 s3]), .int .u64 co]) ∧ Below w.heap.size w w'

end Go.Proofs.Ytpockemjfbaheaa
