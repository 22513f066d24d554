/-
  A new Wide beside the document's numbers.
-/
import Derived.Test.YtbgbmimgkhchhaaEnvN
namespace Go.Proofs.Ytbgbmimgkhchhaa
open Go.RowKit
theorem EnvN.newW {w : World} {l : List (Nat × Wd)} {k : List (Nat × Nv)} {W : World} (h : EnvN w l k W) (g : Nat) (hg : g = W.heap.size) (m : Bool) (p q r s : Int) (t : TypeId) : EnvN w ((g, ⟨m, p, q, r, s⟩) :: l) k (W.alloc (.cells #[.bool m, .int .u64 p, .int .u64 q, .int .u64 r, .int .u64 s] t)) :=
  ⟨h.e.new g hg m p q r s t, fun x hx => (h.v x hx).below (bl_one _ _)⟩
end Go.Proofs.Ytbgbmimgkhchhaa
