/-
  Contracts of wide's small functions: addLimbs, subLimbs, signed, Sign, Neg, Of.
-/
import Derived.Test.YtiebmlhglgpajaaBase
import Derived.Deep.RegionHeld3
import Derived.Deep.DrawnRows
namespace Go.Proofs.Ytiebmlhglgpajaa
open Go.RowKit

/-- addLimbs' answer: a sum of four limbs, and what is carried out -/
def AddP (A B : Int) (w : World) (e : Ending) (w' : World) : Prop :=
  ∃ s0 s1 s2 s3 co : Int, In4 s0 s1 s2 s3 ∧ Hid ((co = 0 ∨ co = 1) ∧ V4 s0 s1 s2 s3 + M256 * co = A + B) ∧ e = .returned (.tuple #[(.agg #[.int .u64 s0, .int .u64 s1, .int .u64 s2, .int .u64 s3]), .int .u64 co]) ∧ Below w.heap.size w w'
def SubP (A B : Int) (w : World) (e : Ending) (w' : World) : Prop :=
  ∃ s0 s1 s2 s3 co : Int, In4 s0 s1 s2 s3 ∧ Hid ((co = 0 ∨ co = 1) ∧ V4 s0 s1 s2 s3 + B = A + M256 * co) ∧ e = .returned (.tuple #[(.agg #[.int .u64 s0, .int .u64 s1, .int .u64 s2, .int .u64 s3]), .int .u64 co]) ∧ Below w.heap.size w w'

/-- signed's answer -/
def SignedP (m : Bool) (a b c d : Int) (w : World) (e : Ending) (w' : World) : Prop :=
  ∃ m' : Bool, Hid (m' = (m && decide (V4 a b c d ≠ 0))) ∧ e = .returned (.agg #[.bool m', .int .u64 a, .int .u64 b, .int .u64 c, .int .u64 d]) ∧ Below w.heap.size w w'

/-- the sign of a Wide's number -/
def sgn (m : Bool) (n : Int) : Int := if n = 0 then 0 else if m then -1 else 1
/-- a Wide's number -/
def WV (m : Bool) (a b c d : Int) : Int := if m then - V4 a b c d else V4 a b c d

def IntP (n : Int) (w : World) (e : Ending) (w' : World) : Prop := e = .returned (.int .i64 n) ∧ Below w.heap.size w w'

end Go.Proofs.Ytiebmlhglgpajaa
