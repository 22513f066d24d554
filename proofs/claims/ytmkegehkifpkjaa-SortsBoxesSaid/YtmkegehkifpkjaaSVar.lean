/-
  Layer 7: variables in memory.
-/
import Derived.Laws.ResultCell
import Derived.Deep.Cut
import Derived.Deep.DeepCutAuto
import Derived.Test.YtmkegehkifpkjaaSMem
namespace Go.Proofs.Ytmkegehkifpkjaa
open Go.RowKit
structure Var (W : World) (g : Nat) (vs : List Value) : Prop where
  lt : g < W.heap.size
  cells : ∀ i (h : i < vs.length), W.cell? ⟨g, i, none⟩ = some vs[i]
  free : ∀ i, i < vs.length → W.frozen? ⟨g, i, none⟩ = false
theorem Var.below {W W' : World} {g : Nat} {vs : List Value} (h : Var W g vs) (hb : Below W.heap.size W W') : Var W' g vs :=
  ⟨Nat.lt_of_lt_of_le h.lt hb.size, fun i hi => (hb.cell (p := ⟨g, i, none⟩) h.lt).trans (h.cells i hi), fun i hi => (hb.frozen (p := ⟨g, i, none⟩) h.lt).trans (h.free i hi)⟩
theorem Var.far {W : World} {g : Nat} {vs : List Value} (h : Var W g vs) {p : Addr} (hp : p.block ≠ g) (u : Value) : Var (W.setCell p u) g vs :=
  ⟨by simpa using h.lt, fun i hi => (World.cell?_setCell_far _ _ _ _ hp).trans (h.cells i hi), fun i hi => by simpa using h.free i hi⟩
theorem var2 {W : World} {g : Nat} {a b : Value} (hl : g < W.heap.size) (h0 : W.cell? ⟨g, 0, none⟩ = some a) (h1 : W.cell? ⟨g, 1, none⟩ = some b) (f0 : W.frozen? ⟨g, 0, none⟩ = false) (f1 : W.frozen? ⟨g, 1, none⟩ = false) : Var W g [a, b] :=
  ⟨hl, fun i hi => by
    match i, hi with
    | 0, _ => exact h0
    | 1, _ => exact h1, fun i hi => by
    match i, hi with
    | 0, _ => exact f0
    | 1, _ => exact f1⟩
theorem var2_new (W : World) (a b : Value) (t : TypeId) (g : Nat) (hg : g = W.heap.size) : Var (W.alloc (.cells #[a, b] t)) g [a, b] := by
  subst hg
  exact var2 (by simp) (by simp [go_sem]) (by simp [go_sem]) (by simp [go_sem]) (by simp [go_sem])
theorem Var.two {W : World} {g : Nat} {a b : Value} (h : Var W g [a, b]) : W.cell? ⟨g, 0, none⟩ = some a ∧ W.cell? ⟨g, 1, none⟩ = some b := ⟨h.cells 0 (by simp), h.cells 1 (by simp)⟩
theorem Var.free2 {W : World} {g : Nat} {a b : Value} (h : Var W g [a, b]) : W.frozen? ⟨g, 0, none⟩ = false ∧ W.frozen? ⟨g, 1, none⟩ = false := ⟨h.free 0 (by simp), h.free 1 (by simp)⟩
theorem Var.set2 {W : World} {g : Nat} {a b : Value} (h : Var W g [a, b]) (a' b' : Value) : Var ((W.setCell ⟨g, 0, none⟩ a').setCell ⟨g, 1, none⟩ b') g [a', b'] := by
  obtain ⟨h0, h1⟩ := h.two
  obtain ⟨f0, f1⟩ := h.free2
  refine var2 (by simpa using h.lt) ?_ ?_ (by simpa using f0) (by simpa using f1)
  · exact (World.cell?_setCell_other _ _ _ _ (by intro e; injection e with e1 e2; omega)).trans (World.cell?_setCell_same _ _ _ h0)
  · exact World.cell?_setCell_same _ _ _ ((World.cell?_setCell_other _ _ _ _ (by intro e; injection e with e1 e2; omega)).trans h1)
structure Grew (w : World) (k : Nat) (W : World) : Prop where
  hb : Below w.heap.size w W
  sz : w.heap.size + k ≤ W.heap.size
theorem Grew.below {w W W' : World} {k : Nat} (h : Grew w k W) (hb : Below W.heap.size W W') : Grew w k W' := ⟨bl_trans h.hb hb, Nat.le_trans h.sz hb.size⟩
theorem Grew.set {w W : World} {k : Nat} (h : Grew w k W) {p : Addr} (hp : w.heap.size ≤ p.block) (u : Value) : Grew w k (W.setCell p u) := ⟨bl_set h.hb hp u, by simpa using h.sz⟩
theorem Grew.new {w W : World} {k : Nat} (h : Grew w k W) (o : Obj) : Grew w k (W.alloc o) := h.below (bl_one _ _)

/-- two results in memory, and one beside them -/
theorem results_cct {fn : Func} {p q u : Tmp} {t1 t2 : TypeId} (h : fn.results = #[.cell p t1, .cell q t2, .tmp u]) {tmps : Array Value} {P : Program} {w : World} {a1 a2 : Addr} {v1 v2 : Value} (h1 : tmps.getD p undef = .pointer (some a1)) (h2 : tmps.getD q undef = .pointer (some a2))
    (l1 : (loadVar t1 a1).run P w = .ok v1 w) (l2 : (loadVar t2 a2).run P w = .ok v2 w) : (results fn tmps).run P w = .ok (.tuple #[v1, v2, tmps.getD u undef]) w := by
  rw [Array.getD_eq_getD_getElem?] at h1 h2
  simp only [results, h]
  simp [Sem.run_bind, Result.andThen, asAddr, h1, h2, l1, l2]
theorem load_pt {W : World} {g : Nat} {x y : Int} (h : Var W g [.int .i64 x, .int .i64 y]) : (loadVar 28 ⟨g, 0, none⟩).run Try.prog W = .ok (.agg #[.int .i64 x, .int .i64 y]) W := by
  obtain ⟨k0, k1⟩ := h.two
  go_simp
end Go.Proofs.Ytmkegehkifpkjaa
