/-
  The law WithinBox.
-/
import Derived.Test.YtkidphekfnmhhaaWBoxMath
import Derived.Test.YtkidphekfnmhhaaGeoAll
namespace Go.Proofs.Ytkidphekfnmhhaa
open Go.RowKit

theorem wrap_eq (z : Int) : wrap64 z = IntKind.i64.wrap z := by rw [IntKind.wrap_i64]; unfold wrap64; omega
theorem ptRow_n5 (W : World) (a b c d e : Pt) (t : TypeId) : PtRow (W.alloc (.cells #[.int .i64 a.x, .int .i64 a.y, .int .i64 b.x, .int .i64 b.y, .int .i64 c.x, .int .i64 c.y, .int .i64 d.x, .int .i64 d.y, .int .i64 e.x, .int .i64 e.y] t)) (some ⟨W.heap.size, 0, none⟩) [a, b, c, d, e] := by
  intro i hi
  refine ⟨_, _, rfl, ?_⟩
  match i, hi with
  | 0, _ => exact ⟨by simp [go_sem, pget], by simp [go_sem, pget]⟩
  | 1, _ => exact ⟨by simp [go_sem, pget], by simp [go_sem, pget]⟩
  | 2, _ => exact ⟨by simp [go_sem, pget], by simp [go_sem, pget]⟩
  | 3, _ => exact ⟨by simp [go_sem, pget], by simp [go_sem, pget]⟩
  | 4, _ => exact ⟨by simp [go_sem, pget], by simp [go_sem, pget]⟩
end Go.Proofs.Ytkidphekfnmhhaa
