/-
  The law's square, known, many, ring.
-/
import Derived.Test.YtpjaefcmaiimlaaWMids0
set_option linter.unusedVariables false
set_option linter.unusedSimpArgs false
set_option linter.deprecated false
namespace Go.Proofs.Ytpjaefcmaiimlaa
open Go.RowKit

def sqP : List Pt := [⟨0, 0⟩, ⟨4, 0⟩, ⟨4, 4⟩, ⟨0, 4⟩]
def sqL : List Pt := [⟨0, 1⟩, ⟨1, 2⟩, ⟨2, 3⟩, ⟨3, 0⟩]
theorem sq1 : atN 1 sqP sqL ⟨1, 1⟩ = 1 ∧ atE 1 sqP sqL ⟨1, 1⟩ = 0 := by decide
theorem sq2 : atN 1 sqP sqL ⟨4, 2⟩ = 0 ∧ atE 1 sqP sqL ⟨4, 2⟩ = 0 := by decide
theorem sq3 : atN 1 sqP sqL ⟨5, 2⟩ = -1 ∧ atE 1 sqP sqL ⟨5, 2⟩ = 0 := by decide
theorem sq4 : midN sqP sqL [0, 2] = 1 ∧ midE sqP sqL [0, 2] = 0 := by decide
theorem sq5 : midN sqP sqL [0, 1] = 0 ∧ midE sqP sqL [0, 1] = 0 := by decide
theorem sq6 : midN sqP sqL [0, 1, 2] = 1 ∧ midE sqP sqL [0, 1, 2] = 0 := by decide
theorem sq7 : atN 1 sqP [⟨0, 4⟩] ⟨0, 0⟩ = 0 ∧ atE 1 sqP [⟨0, 4⟩] ⟨0, 0⟩ = 2 := by decide
theorem ptRow_n4 (W : World) (a b c d : Pt) (t : TypeId) : PtRow (W.alloc (.cells #[.int .i64 a.x, .int .i64 a.y, .int .i64 b.x, .int .i64 b.y, .int .i64 c.x, .int .i64 c.y, .int .i64 d.x, .int .i64 d.y] t)) (some ⟨W.heap.size, 0, none⟩) [a, b, c, d] := by
  intro i hi
  refine ⟨_, _, rfl, ?_⟩
  match i, hi with
  | 0, _ => exact ⟨by simp [go_sem, pget], by simp [go_sem, pget]⟩
  | 1, _ => exact ⟨by simp [go_sem, pget], by simp [go_sem, pget]⟩
  | 2, _ => exact ⟨by simp [go_sem, pget], by simp [go_sem, pget]⟩
  | 3, _ => exact ⟨by simp [go_sem, pget], by simp [go_sem, pget]⟩

theorem at9_u (p l : List Pt) (q : Pt) {n e : Int} (h : atN 1 p l q = n ∧ atE 1 p l q = e) (ap al : Option Addr) (cp cl : Nat) (w : World) (hP : PtRow w ap p) (hL : PtRow w al l) (hll : l.length ≤ 10000) :
    Calls Try.prog 90 #[.slice ap p.length cp, .slice al l.length cl, .agg #[.int .i64 q.x, .int .i64 q.y]] w (Gives (.tuple #[.int .i64 n, .int .i64 e]) w) := by
  have := at9_l p l q ap al cp cl w hP hL hll
  rwa [h.1, h.2] at this
theorem half9_u (p l : List Pt) (a b : Int) {n e : Int} (h : midN p l [a, b] = n ∧ midE p l [a, b] = e) (ap al : Option Addr) (cp cl : Nat) (w : World) (hP : PtRow w ap p) (hL : PtRow w al l) (hll : l.length ≤ 10000) :
    Calls Try.prog 103 #[.slice ap p.length cp, .slice al l.length cl, .int .i64 a, .int .i64 b] w (Gives (.tuple #[.int .i64 n, .int .i64 e]) w) := by
  have := half9_l p l a b ap al cp cl w hP hL hll
  rwa [h.1, h.2] at this
end Go.Proofs.Ytpjaefcmaiimlaa
