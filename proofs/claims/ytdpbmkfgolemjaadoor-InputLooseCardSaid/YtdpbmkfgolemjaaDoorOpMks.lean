/-
  Sets of options, and Make.
-/
import Derived.Test.YtdpbmkfgolemjaaDoorOpRds
import Derived.Lib.SlBytesConst
import Derived.Test.YtdpbmkfgolemjaaDoorOpAll
set_option linter.unusedVariables false
set_option linter.unusedSimpArgs false
set_option linter.deprecated false
namespace Go.Proofs.YtdpbmkfgolemjaaDoor
open Go.RowKit

theorem Var.belowB6 {W W' : World} {g B : Nat} {vs : List Value} (h : Var W g vs) (hb : Below B W W') (hg : g < B) : Var W' g vs :=
  ⟨Nat.lt_of_lt_of_le h.lt hb.size, fun i hi => (hb.cell (p := ⟨g, i, none⟩) hg).trans (h.cells i hi), fun i hi => (hb.frozen (p := ⟨g, i, none⟩) hg).trans (h.free i hi)⟩
/-- what is set -/
inductive St6 where
  | mode (n : Int)
  | budget (n : Int)
  | refine (r : Bool)
  | no
structure Op6 where
  m : Int
  b : Int
  r : Bool
def Op6.vals (o : Op6) : List Value := [.int .i64 o.m, .int .i64 o.b, .bool o.r]
def St6.on : St6 → Op6 → Op6
  | .mode n, o => ⟨n, o.b, o.r⟩
  | .budget n, o => ⟨o.m, n, o.r⟩
  | .refine r, o => ⟨o.m, o.b, r⟩
  | .no, o => o
def St6.val : St6 → Value
  | .mode n => .int .i64 n
  | .budget n => .int .i64 n
  | .refine r => .bool r
  | .no => .bool false
def made6 (L : List St6) : Op6 := L.foldl (fun o s => s.on o) ⟨1, 0, false⟩
theorem made_snoc6 {L : List St6} {i : Nat} (h : i < L.length) : made6 (L.take (i + 1)) = L[i].on (made6 (L.take i)) := by
  unfold made6
  rw [List.take_succ_eq_append_getElem h, List.foldl_append]
  rfl
def makeR6 (o : Op6) : Value := if okO6 o.m o.b then .tuple #[.agg #[.int .i64 o.m, .int .i64 o.b, .bool o.r], .int .i64 0] else .tuple #[.agg #[.int .i64 0, .int .i64 0, .bool false], .int .i64 2]
end Go.Proofs.YtdpbmkfgolemjaaDoor

/-
  Mode, Budget, Refine; the law's steps made into sets; what known answers.
-/
namespace Go.Proofs.YtdpbmkfgolemjaaDoor
open Go.RowKit

end Go.Proofs.YtdpbmkfgolemjaaDoor

/-
  What the law's known of the options' layer answers.
-/
namespace Go.Proofs.YtdpbmkfgolemjaaDoor
open Go.RowKit

def tA6 : ByteArray := ⟨#[97, 108, 108, 32, 98, 117, 100, 103, 101, 116, 32, 55, 32, 114, 101, 102, 105, 110, 101]⟩
theorem litA6 (w : World) (t : TypeId) (fz : Nat × Nat) : BytesIn (w.alloc (.cells #[.int .u8 97, .int .u8 108, .int .u8 108, .int .u8 32, .int .u8 98, .int .u8 117, .int .u8 100, .int .u8 103, .int .u8 101, .int .u8 116, .int .u8 32, .int .u8 55, .int .u8 32, .int .u8 114, .int .u8 101, .int .u8 102, .int .u8 105, .int .u8 110, .int .u8 101] t fz)) (some ⟨w.heap.size, 0, none⟩) tA6 := by
  have hnew := World.alloc_heap_new w (.cells #[.int .u8 97, .int .u8 108, .int .u8 108, .int .u8 32, .int .u8 98, .int .u8 117, .int .u8 100, .int .u8 103, .int .u8 101, .int .u8 116, .int .u8 32, .int .u8 55, .int .u8 32, .int .u8 114, .int .u8 101, .int .u8 102, .int .u8 105, .int .u8 110, .int .u8 101] t fz)
  intro i hi
  have hi' : i < 19 := hi
  refine ⟨_, 0, rfl, ?_⟩
  have : i = 0 ∨ i = 1 ∨ i = 2 ∨ i = 3 ∨ i = 4 ∨ i = 5 ∨ i = 6 ∨ i = 7 ∨ i = 8 ∨ i = 9 ∨ i = 10 ∨ i = 11 ∨ i = 12 ∨ i = 13 ∨ i = 14 ∨ i = 15 ∨ i = 16 ∨ i = 17 ∨ i = 18 := by omega
  rcases this with rfl | rfl | rfl | rfl | rfl | rfl | rfl | rfl | rfl | rfl | rfl | rfl | rfl | rfl | rfl | rfl | rfl | rfl | rfl <;> (unfold World.cell?; dsimp only; rw [hnew]; rfl)
theorem convA6 (w : World) : (convert 37 37 (.slice (some ⟨w.heap.size, 0, none⟩) 19 19)).run Tryd.prog (w.alloc (.cells #[.int .u8 97, .int .u8 108, .int .u8 108, .int .u8 32, .int .u8 98, .int .u8 117, .int .u8 100, .int .u8 103, .int .u8 101, .int .u8 116, .int .u8 32, .int .u8 55, .int .u8 32, .int .u8 114, .int .u8 101, .int .u8 102, .int .u8 105, .int .u8 110, .int .u8 101] 5)) = .ok (.slice (some ⟨w.heap.size, 0, none⟩) 19 19) (w.alloc (.cells #[.int .u8 97, .int .u8 108, .int .u8 108, .int .u8 32, .int .u8 98, .int .u8 117, .int .u8 100, .int .u8 103, .int .u8 101, .int .u8 116, .int .u8 32, .int .u8 55, .int .u8 32, .int .u8 114, .int .u8 101, .int .u8 102, .int .u8 105, .int .u8 110, .int .u8 101] 5 (19, 20))) :=
  Lib.run_convert_bytes_const w 37 5 #[.int .u8 97, .int .u8 108, .int .u8 108, .int .u8 32, .int .u8 98, .int .u8 117, .int .u8 100, .int .u8 103, .int .u8 101, .int .u8 116, .int .u8 32, .int .u8 55, .int .u8 32, .int .u8 114, .int .u8 101, .int .u8 102, .int .u8 105, .int .u8 110, .int .u8 101] 19 19 Tryd.underlying37 Tryd.underlying5
def tB6 : ByteArray := ⟨#[116, 114, 105, 32, 114, 101, 102, 105, 110, 101, 32, 114, 101, 102, 105, 110, 101]⟩
theorem litB6 (w : World) (t : TypeId) (fz : Nat × Nat) : BytesIn (w.alloc (.cells #[.int .u8 116, .int .u8 114, .int .u8 105, .int .u8 32, .int .u8 114, .int .u8 101, .int .u8 102, .int .u8 105, .int .u8 110, .int .u8 101, .int .u8 32, .int .u8 114, .int .u8 101, .int .u8 102, .int .u8 105, .int .u8 110, .int .u8 101] t fz)) (some ⟨w.heap.size, 0, none⟩) tB6 := by
  have hnew := World.alloc_heap_new w (.cells #[.int .u8 116, .int .u8 114, .int .u8 105, .int .u8 32, .int .u8 114, .int .u8 101, .int .u8 102, .int .u8 105, .int .u8 110, .int .u8 101, .int .u8 32, .int .u8 114, .int .u8 101, .int .u8 102, .int .u8 105, .int .u8 110, .int .u8 101] t fz)
  intro i hi
  have hi' : i < 17 := hi
  refine ⟨_, 0, rfl, ?_⟩
  have : i = 0 ∨ i = 1 ∨ i = 2 ∨ i = 3 ∨ i = 4 ∨ i = 5 ∨ i = 6 ∨ i = 7 ∨ i = 8 ∨ i = 9 ∨ i = 10 ∨ i = 11 ∨ i = 12 ∨ i = 13 ∨ i = 14 ∨ i = 15 ∨ i = 16 := by omega
  rcases this with rfl | rfl | rfl | rfl | rfl | rfl | rfl | rfl | rfl | rfl | rfl | rfl | rfl | rfl | rfl | rfl | rfl <;> (unfold World.cell?; dsimp only; rw [hnew]; rfl)
theorem convB6 (w : World) : (convert 37 37 (.slice (some ⟨w.heap.size, 0, none⟩) 17 17)).run Tryd.prog (w.alloc (.cells #[.int .u8 116, .int .u8 114, .int .u8 105, .int .u8 32, .int .u8 114, .int .u8 101, .int .u8 102, .int .u8 105, .int .u8 110, .int .u8 101, .int .u8 32, .int .u8 114, .int .u8 101, .int .u8 102, .int .u8 105, .int .u8 110, .int .u8 101] 5)) = .ok (.slice (some ⟨w.heap.size, 0, none⟩) 17 17) (w.alloc (.cells #[.int .u8 116, .int .u8 114, .int .u8 105, .int .u8 32, .int .u8 114, .int .u8 101, .int .u8 102, .int .u8 105, .int .u8 110, .int .u8 101, .int .u8 32, .int .u8 114, .int .u8 101, .int .u8 102, .int .u8 105, .int .u8 110, .int .u8 101] 5 (17, 18))) :=
  Lib.run_convert_bytes_const w 37 5 #[.int .u8 116, .int .u8 114, .int .u8 105, .int .u8 32, .int .u8 114, .int .u8 101, .int .u8 102, .int .u8 105, .int .u8 110, .int .u8 101, .int .u8 32, .int .u8 114, .int .u8 101, .int .u8 102, .int .u8 105, .int .u8 110, .int .u8 101] 17 17 Tryd.underlying37 Tryd.underlying5
theorem isA6 : parse6 (nums tA6) = ⟨3, 7, true, 0, 0⟩ := by decide +kernel
theorem isB6 : parse6 (nums tB6) = bad6 11 11 := by decide +kernel
end Go.Proofs.YtdpbmkfgolemjaaDoor
