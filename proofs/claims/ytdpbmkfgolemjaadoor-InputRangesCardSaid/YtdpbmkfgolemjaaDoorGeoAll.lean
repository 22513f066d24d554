/-
  A region that draws its order, held by one fact alone: of what stood at its beginning nothing has changed.
-/
import Derived.Test.YtdpbmkfgolemjaaDoorVars
set_option linter.unusedVariables false
set_option linter.unusedSimpArgs false
set_option linter.deprecated false
namespace Go.Proofs.YtdpbmkfgolemjaaDoor
open Go.RowKit

theorem wp_region_bel {P : Program} {ops : Array Oper} {Q : Exit → Act → World → Prop} {id : Nat} {a : Act} {W0 : World} (hm : P.follows .mixedOrders = true)
    (h : Below W0.heap.size W0 W0.drew → wpAnyH P .any ops Q (fun W => Below W0.heap.size W0 W) ops.size (Array.replicate ops.size false) a W0.drew) : (Code.region id ops true).wp P Q a W0 :=
  wp_region_held_drew (S := fun W => Below W0.heap.size W0 W) hm (bel_drew _) h
theorem bel_var2 {W0 W : World} (_ : Below W0.heap.size W0 W) (a b : Value) (t : TypeId) : Var (W.alloc (.cells #[a, b] t)) W.heap.size [a, b] := var2_new _ _ _ _ _ rfl
theorem bel_al {W0 W W' : World} (_ : Below W0.heap.size W0 W') (h : Below W.heap.size W W') : Below W.heap.size W W' := h
theorem bel_L {W0 W : World} {P : World → Prop} (_ : Below W0.heap.size W0 W) (h : ∀ W, P W) : Hid (P W) := h W
theorem bel_one {W0 W : World} (h : Below W0.heap.size W0 W) (o : Obj) : Below W0.heap.size W0 (W.alloc o) := bl_trans h (bl_one _ _)
theorem bel_set2 {W0 W : World} (h : Below W0.heap.size W0 W) {p q : Addr} (hp : W0.heap.size ≤ p.block) (hq : W0.heap.size ≤ q.block) (u v : Value) : Below W0.heap.size W0 ((W.setCell p u).setCell q v) := bl_set (bl_set h hp u) hq v
/- the steps of a region with their closed facts as lemmas of their own: the kernel gives its memory back behind each -/
theorem tk2 {P : Program} {ops : Array Oper} {Q : Exit → Act → World → Prop} {md : Region.Mode} {S : World → Prop} {i : Nat} {oi : Oper} {v : Value} {fuel : Nat} {listed : Array Bool} {a : Act} {w : World} (hi : ops[i]? = some oi)
    (hy : YieldsIf P ops S oi v a) (h : wpAnyH P md ops Q S fuel (listed.setIfInBounds i true) (a.put oi.dst v) w)
    (hs : Region.noSelect ops = true := by as_aux_lemma => kernel_rfl) (hf : Region.free md ops listed i = true := by as_aux_lemma => kernel_rfl) (hr : (Region.ready md ops listed).contains i = true := by as_aux_lemma => kernel_rfl)
    (hQ : ∀ c a w, Q (.panic c) (a.put oi.dst v) w → Q (.panic c) a w := by exact fun _ _ _ h => h) (hS : S w := by assumption) : wpAnyH P md ops Q S (fuel + 1) listed a w := wpAnyH_take hi hs hf hr hQ hy hS h
theorem ry1 {P : Program} {ops : Array Oper} {Q : Exit → Act → World → Prop} {md : Region.Mode} {S : World → Prop} {fuel : Nat} {listed : Array Bool} {a : Act} {w : World} {i : Nat} {o : Oper} (ho : ops[i]? = some o)
    (h : ∀ K' : Act → World → Prop, Shut (∀ a w, S w → (S w → wpAnyH P md ops Q S fuel (listed.setIfInBounds i true) a w) → K' a w) → Oper.wp P o a w K' Q)
    (hw : Region.wanted o (yielded ops a.tmps) = true := by rfl) (hr : Region.ready md ops listed = [i] := by as_aux_lemma => kernel_rfl) : wpAnyH P md ops Q S (fuel + 1) listed a w :=
  wpAnyH_ready hr (by simp) (AllReadyH.cons ho (fun K hK => by rw [if_pos hw]; exact h K hK) AllReadyH.nil)
theorem ry2 {P : Program} {ops : Array Oper} {Q : Exit → Act → World → Prop} {md : Region.Mode} {S : World → Prop} {fuel : Nat} {listed : Array Bool} {a : Act} {w : World} {i j : Nat} {o o' : Oper} (ho : ops[i]? = some o)
    (h : ∀ K' : Act → World → Prop, Shut (∀ a w, S w → (S w → wpAnyH P md ops Q S fuel (listed.setIfInBounds i true) a w) → K' a w) → Oper.wp P o a w K' Q)
    (ho' : ops[j]? = some o') (h' : ∀ K' : Act → World → Prop, Shut (∀ a w, S w → (S w → wpAnyH P md ops Q S fuel (listed.setIfInBounds j true) a w) → K' a w) → Oper.wp P o' a w K' Q)
    (hw : Region.wanted o (yielded ops a.tmps) = true := by rfl) (hw' : Region.wanted o' (yielded ops a.tmps) = true := by rfl) (hr : Region.ready md ops listed = [i, j] := by as_aux_lemma => kernel_rfl) : wpAnyH P md ops Q S (fuel + 1) listed a w :=
  wpAnyH_ready hr (by simp) (AllReadyH.cons ho (fun K hK => by rw [if_pos hw]; exact h K hK) (AllReadyH.cons ho' (fun K hK => by rw [if_pos hw']; exact h' K hK) AllReadyH.nil))
end Go.Proofs.YtdpbmkfgolemjaaDoor
