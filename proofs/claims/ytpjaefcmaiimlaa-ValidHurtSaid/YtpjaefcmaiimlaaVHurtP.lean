/-
  Layer 10: an input of the call's own in a variable; a row more in it.
-/
import Derived.Test.YtpjaefcmaiimlaaVMems
import Derived.Test.YtpjaefcmaiimlaaVSameK
set_option linter.unusedVariables false
set_option linter.unusedSimpArgs false
set_option linter.deprecated false
namespace Go.Proofs.Ytpjaefcmaiimlaa
open Go.RowKit

theorem eqFlG11 (a b c : Int) (w : World) : (Op.equalIn 10000 42 (.agg #[.int .i64 a, .int .i64 b, .int .i64 c]) (.agg #[.int .i64 a, .int .i64 b, .int .i64 c])).run Try.prog w = .ok true w := by
  have hS : Try.prog.underlying 42 = some (.struct (Try.prog.fieldsOf 42)) := by kernel_rfl
  have hp : Try.prog.stoodInHeld 42 = false := by kernel_rfl
  have u4 := Try.underlying3
  rw [show (10000 : Nat) = 9999 + 1 from rfl, run_equalIn_agg w 9999 42 _ _ hS hp]
  simp only [Program.fieldsOf, Try.underlying42]
  go_simp
structure OwnV (W0 : World) (g : Nat) (u v x : Value) (p l i : List Pt) (W : World) : Prop where
  o : Own3 W0 u v x p l i W
  var : Var W g [u, v, x]
  n0 : u.ownBlock ≠ some g
  n1 : v.ownBlock ≠ some g
  n2 : x.ownBlock ≠ some g
  hg : W0.heap.size ≤ g
theorem own_new {W0 W : World} {u v x : Value} {p l i : List Pt} (h : Own3 W0 u v x p l i W) : OwnV W0 W.heap.size u v x p l i (W.alloc (.cells #[u, v, x] 38)) where
  o := h.below (bl_one W _)
  var := var3_new W u v x 38 W.heap.size rfl
  n0 := h.o0.ne10 (Nat.le_refl _)
  n1 := h.o1.ne10 (Nat.le_refl _)
  n2 := h.o2.ne10 (Nat.le_refl _)
  hg := h.o0.sz
theorem OwnV.below {W0 W W' : World} {g : Nat} {u v x : Value} {p l i : List Pt} (h : OwnV W0 g u v x p l i W) (hb : Below W.heap.size W W') : OwnV W0 g u v x p l i W' := ⟨h.o.below hb, h.var.below hb, h.n0, h.n1, h.n2, h.hg⟩
theorem grown_alt {u u' : Value} {W : World} {g : Nat} (hloc : u'.ownBlock = u.ownBlock ∨ u'.ownBlock = some W.heap.size) (h0 : u.ownBlock ≠ some g) (hg : g < W.heap.size) : u'.ownBlock ≠ some g := fun e => by
  rcases hloc with h | h
  · exact h0 (by rw [← h]; exact e)
  · rw [h] at e
    injection e with e
    omega
theorem OwnV.put0 {W0 W W' : World} {g : Nat} {u u' v x : Value} {p p' l i : List Pt} (h : OwnV W0 g u v x p l i W) (hO : Op 49 W0 u' p' W') (hgr : W.grownBy W' u.ownBlock) (hloc : u'.ownBlock = u.ownBlock ∨ u'.ownBlock = some W.heap.size) :
    OwnV W0 g u' v x p' l i (W'.setCell ⟨g, 0, none⟩ u') := by
  have lo := fun k e => (h.o.o0.own.lt k e).1
  have n0 := grown_alt hloc h.n0 h.var.lt
  have o : Own3 W0 u' v x p' l i W' := ⟨hO, h.o.o1.other10 hgr (fun k e k' => h.o.d01 k e k') lo, h.o.o2.other10 hgr (fun k e k' => h.o.d02 k e k') lo,
    fun k e k' => grown_alt hloc (fun e' => h.o.d01 k e' k') (h.o.o1.own.lt k k').2 e, fun k e k' => grown_alt hloc (fun e' => h.o.d02 k e' k') (h.o.o2.own.lt k k').2 e, h.o.d12⟩
  refine ⟨o.set h.hg n0 h.n1 h.n2 0 u', ?_, n0, h.n1, h.n2, h.hg⟩
  exact (h.var.grown10 hgr (fun k e e' => h.n0 (by rw [e, e']))).setAt10 (k := 0) (by simp) u'
theorem OwnV.put1 {W0 W W' : World} {g : Nat} {u v v' x : Value} {p l l' i : List Pt} (h : OwnV W0 g u v x p l i W) (hO : Op 57 W0 v' l' W') (hgr : W.grownBy W' v.ownBlock) (hloc : v'.ownBlock = v.ownBlock ∨ v'.ownBlock = some W.heap.size) :
    OwnV W0 g u v' x p l' i (W'.setCell ⟨g, 1, none⟩ v') := by
  have lo := fun k e => (h.o.o1.own.lt k e).1
  have n1 := grown_alt hloc h.n1 h.var.lt
  have o : Own3 W0 u v' x p l' i W' := ⟨h.o.o0.other10 hgr (fun k e k' => h.o.d01 k k' e) lo, hO, h.o.o2.other10 hgr (fun k e k' => h.o.d12 k e k') lo,
    fun k e k' => grown_alt hloc (fun e' => h.o.d01 k e e') (h.o.o0.own.lt k e).2 k', h.o.d02, fun k e k' => grown_alt hloc (fun e' => h.o.d12 k e' k') (h.o.o2.own.lt k k').2 e⟩
  refine ⟨o.set h.hg h.n0 n1 h.n2 1 v', ?_, h.n0, n1, h.n2, h.hg⟩
  exact (h.var.grown10 hgr (fun k e e' => h.n1 (by rw [e, e']))).setAt10 (k := 1) (by simp) v'
/-- another row in the second's place -/
theorem OwnV.new1 {W0 W : World} {g : Nat} {u v v' x : Value} {p l l' i : List Pt} (h : OwnV W0 g u v x p l i W) (hO : Op 57 W0 v' l' W) (h0 : Apart10 u v') (h2 : Apart10 v' x) (hn : v'.ownBlock ≠ some g) :
    OwnV W0 g u v' x p l' i (W.setCell ⟨g, 1, none⟩ v') := by
  have o : Own3 W0 u v' x p l' i W := ⟨h.o.o0, hO, h.o.o2, h0, h.o.d02, h2⟩
  exact ⟨o.set h.hg h.n0 hn h.n2 1 v', h.var.setAt10 (k := 1) (by simp) v', h.n0, hn, h.n2, h.hg⟩
theorem OwnV.pol {W0 W : World} {g : Nat} {u v x : Value} {p l i : List Pt} (h : OwnV W0 g u v x p l i W) (hp : p.length ≤ 10000) (hl : l.length ≤ 10000) (hi : i.length ≤ 10000) :
    ∃ ap al ai cp cl ci, u = .slice ap p.length cp ∧ v = .slice al l.length cl ∧ x = .slice ai i.length ci ∧ Pol W ap al ai cp cl ci p l i := h.o.pol hp hl hi
end Go.Proofs.Ytpjaefcmaiimlaa
