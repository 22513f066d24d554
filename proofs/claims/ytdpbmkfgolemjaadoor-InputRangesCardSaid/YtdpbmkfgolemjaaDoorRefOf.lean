/-
  Contracts of the document's side: Of.
-/
import Derived.Test.YtdpbmkfgolemjaaDoorTrim
import Derived.Test.YtdpbmkfgolemjaaDoorQuots
import Derived.Test.YtdpbmkfgolemjaaDoorLows
import Derived.WalkKit
set_option linter.unusedVariables false
set_option linter.unusedSimpArgs false
set_option linter.deprecated false
namespace Go.Proofs.YtdpbmkfgolemjaaDoor
open Go.RowKit

theorem info_int : (Tryd.prog.info? 3).map (fun i => (i.zero, i.size, i.bytes)) = some (some (.int .i64 0), 1, 8) := by kernel_rfl

/-- the n-th limb, the n-th digit to the base 65536 -/
def lim (a b c d : Int) (n : Nat) : Int := [a, b, c, d].getD n 0
def dsF (a b c d : Int) (n : Nat) : Int := lim a b c d (n / 4) / 65536 ^ (n % 4) % 65536
def dsOf (a b c d : Int) (n : Nat) : List Int := (List.range n).map (dsF a b c d)
theorem dsOf_succ (a b c d : Int) (n : Nat) : dsOf a b c d (n + 1) = dsOf a b c d n ++ [dsF a b c d n] := by
  unfold dsOf; rw [List.range_succ, List.map_append]; rfl
theorem dsOf_len (a b c d : Int) (n : Nat) : (dsOf a b c d n).length = n := by simp [dsOf]

/-- a row of numbers that the call owns, behind block B, and all below B as it was -/
structure Rw (B : Nat) (w : World) (v : Value) (ds : List Int) (W : World) : Prop where
  own : W.ownsRow B 3 1 v ds.length (ds.map (Value.int .i64))
  hb : Below B w W
  sz : B ≤ W.heap.size

theorem Rw.nil {B : Nat} {w : World} (h : B ≤ w.heap.size) : Rw B w (.slice none 0 0) [] w := ⟨World.ownsRow_nil _ _ _ _, Below.refl _ _, h⟩
theorem Rw.alloc {B : Nat} {w W : World} {v : Value} {ds : List Int} (h : Rw B w v ds W) (o : Obj) : Rw B w v ds (W.alloc o) :=
  ⟨h.own.alloc o, h.hb.alloc h.sz o, by simp; have := h.sz; omega⟩
theorem Rw.more {B : Nat} {w W W' : World} {v v' : Value} {ds : List Int} {x : Int} (h : Rw B w v ds W) (ho : W'.ownsRow B 3 1 v' (ds.length + 1) (ds.map (Value.int .i64) ++ [.int .i64 x])) (hg : W.grownBy W' v.ownBlock) : Rw B w v' (ds ++ [x]) W' :=
  ⟨by simpa using ho, h.hb.grown hg h.sz (fun k e => (h.own.lt k e).1), Nat.le_trans h.sz hg.size⟩

def OfIn (B : Nat) (w : World) (a b c d : Int) (i : Nat) (dv xv kv : Value) (W : World) : Prop :=
  ∃ k : Nat, kv = .int .i64 k ∧ k ≤ 4 ∧ (∃ x : Int, xv = .int .u64 x ∧ In1 x ∧ Hid (x = lim a b c d i / 65536 ^ k)) ∧ Rw B w dv (dsOf a b c d (4 * i + k)) W

/-- what Of answers: the sixteen digits without the noughts behind -/
def ROfP (m : Bool) (a b c d : Int) (w : World) (e : Ending) (w' : World) : Prop :=
  ∃ n g cap : Nat, TrimAt (dsOf a b c d 16) n ∧ e = .returned (.agg #[.bool (m && decide (0 < n)), .slice (some ⟨g, 0, none⟩) n cap]) ∧ g < w'.heap.size ∧ n ≤ cap ∧ cap ≤ 9223372036854775807 ∧
    Hid (∀ j, j < 16 → w'.cell? ⟨g, j, none⟩ = some (.int .i64 ((dsOf a b c d 16).getD j 0))) ∧ Below w.heap.size w w'

end Go.Proofs.YtdpbmkfgolemjaaDoor
