/-
  The plain mathematics of layer 4: what two segments have in common.
-/
import Derived.Test.YtojfggnimmaemaaPredMath
namespace Go.Proofs.Ytojfggnimmaemaa

def eqB (a b : Pt) : Bool := decide (a = b)
def properB (a b : Pt) : Bool := !(eqB a b) && (fitB a && fitB b)
def insideB (a b p : Pt) : Bool := decide (orientZ a b p = 0) && discB a b p
def onB (a b p : Pt) : Bool := properB a b && ((eqB p a || eqB p b) || insideB a b p)
def apartB (a b c d : Pt) : Bool :=
  decide (max c.x d.x < min a.x b.x) || decide (max a.x b.x < min c.x d.x) || decide (max c.y d.y < min a.y b.y) || decide (max a.y b.y < min c.y d.y)
def holdsB (a b c d : Pt) : Bool := insideB a b c || insideB a b d
def joinedB (a b c d : Pt) : Bool := eqB a c || eqB a d || eqB b c || eqB b d
def sameB (a b c d : Pt) : Bool := (eqB a c && eqB b d) || (eqB a d && eqB b c)
def alongZ (a b c d : Pt) : Int := if sameB a b c d then 4 else if holdsB a b c d || holdsB c d a b then 4 else 1
/-- of the sides of the ends: s0, s1 of the second one's line, t0, t1 of the first one's -/
def sidesZ (s0 s1 t0 t1 al : Int) (jo : Bool) : Int :=
  if s0 = 0 ∧ s1 = 0 then al else if s0 = s1 ∨ t0 = t1 then 0 else if s0 = -s1 ∧ t0 = -t1 then 3 else if jo then 1 else 2
def commonZ (a b c d : Pt) : Int :=
  if apartB a b c d then 0 else sidesZ (orientZ c d a) (orientZ c d b) (orientZ a b c) (orientZ a b d) (alongZ a b c d) (joinedB a b c d)
def segsN (a b c d : Pt) : Int := if properB a b && properB c d then commonZ a b c d else 0
def segsE (a b c d : Pt) : Int := if properB a b && properB c d then 0 else 2
end Go.Proofs.Ytojfggnimmaemaa
