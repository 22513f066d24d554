/-
  Contracts of the document's side: Of.
-/
import Derived.Test.YtpjaefcmaiimlaaGreatTrim
import Derived.Test.YtpjaefcmaiimlaaGreatQuots
import Derived.Test.YtpjaefcmaiimlaaGreatLows
import Derived.WalkKit
set_option linter.unusedVariables false
set_option linter.unusedSimpArgs false
set_option linter.deprecated false
namespace Go.Proofs.YtpjaefcmaiimlaaGreat
open Go.RowKit

theorem info_int : (Tryz.prog.info? 3).map (fun i => (i.zero, i.size, i.bytes)) = some (some (.int .i64 0), 1, 8) := by kernel_rfl

/-- the n-th limb, the n-th digit to the base 65536 -/
def lim (a b c d : Int) (n : Nat) : Int := [a, b, c, d].getD n 0
/-- a row of numbers that the call owns, behind block B, and all below B as it was -/
structure Rw (B : Nat) (w : World) (v : Value) (ds : List Int) (W : World) : Prop where
  own : W.ownsRow B 3 1 v ds.length (ds.map (Value.int .i64))
  hb : Below B w W
  sz : B ≤ W.heap.size

theorem Rw.nil {B : Nat} {w : World} (h : B ≤ w.heap.size) : Rw B w (.slice none 0 0) [] w := ⟨World.ownsRow_nil _ _ _ _, Below.refl _ _, h⟩
theorem Rw.alloc {B : Nat} {w W : World} {v : Value} {ds : List Int} (h : Rw B w v ds W) (o : Obj) : Rw B w v ds (W.alloc o) :=
  ⟨h.own.alloc o, h.hb.alloc h.sz o, by simp; have := h.sz; omega⟩
theorem Rw.more {B : Nat} {w W W' : World} {v v' : Value} {ds : List Int} {x : Int} (h : Rw B w v ds W) (ho : W'.ownsRow B 3 1 v' (ds.length + 1) (ds.map (Value.int .i64) ++ [.int .i64 x])) (hg : W.grownBy W' v.ownBlock) : Rw B w v' (ds ++ [x]) W' :=
  ⟨by simpa using ho, h.hb.grown hg h.sz (fun k e => (h.own.lt k e).1), Nat.le_trans h.sz hg.size⟩

end Go.Proofs.YtpjaefcmaiimlaaGreat
