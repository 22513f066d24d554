/-
  Variables in memory, whatever they hold: their cells read so, and may be written.
-/
import Derived.Test.YtdpbmkfgolemjaaDoorLows
import Derived.Test.YtdpbmkfgolemjaaDoorQuots
import Derived.Deep.RegionHeld
set_option linter.unusedVariables false
set_option linter.unusedSimpArgs false
set_option linter.deprecated false
namespace Go.Proofs.YtdpbmkfgolemjaaDoor
open Go.RowKit

-- short names, for the walks of regions
theorem x2 {α : Type} {xs : List α} {i : Nat} (h : i < xs.toArray.size) : xs.toArray[i] = xs[i]'h := rfl
theorem x3 {α : Type} (a : α) (l : List α) (i : Nat) (h : i + 1 < (a :: l).length) : (a :: l)[i + 1] = l[i]'(Nat.lt_of_succ_lt_succ h) := rfl
theorem x4 {α : Type} (a : α) (l : List α) (h : 0 < (a :: l).length) : (a :: l)[0] = a := rfl
theorem x5 {α : Type} (l : List α) (i : Nat) (a : α) : l.toArray.setIfInBounds i a = (l.set i a).toArray := List.setIfInBounds_toArray l i a
theorem x6 {α : Type} {x : α} {xs : List α} {a : α} : (x :: xs).set 0 a = a :: xs := rfl
theorem x7 {α : Type} {x : α} {xs : List α} {i : Nat} {a : α} : (x :: xs).set (i + 1) a = x :: xs.set i a := rfl
theorem tk {P : Program} {ops : Array Oper} {Q : Exit → Act → World → Prop} {md : Region.Mode} {S : World → Prop} {i : Nat} {oi : Oper} {v : Value} {fuel : Nat} {listed : Array Bool} {a : Act} {w : World} (hi : ops[i]? = some oi)
    (hy : YieldsIf P ops S oi v a) (h : wpAnyH P md ops Q S fuel (listed.setIfInBounds i true) (a.put oi.dst v) w)
    (hs : Region.noSelect ops = true := by kernel_rfl) (hf : Region.free md ops listed i = true := by kernel_rfl) (hr : (Region.ready md ops listed).contains i = true := by kernel_rfl)
    (hQ : ∀ c a w, Q (.panic c) (a.put oi.dst v) w → Q (.panic c) a w := by exact fun _ _ _ h => h) (hS : S w := by assumption) : wpAnyH P md ops Q S (fuel + 1) listed a w := wpAnyH_take hi hs hf hr hQ hy hS h

theorem hi {p : Prop} (h : p) : Hid p := h
theorem r1 {P : Program} {ops : Array Oper} {Q : Exit → Act → World → Prop} {md : Region.Mode} {S : World → Prop} {fuel : Nat} {listed : Array Bool} {a : Act} {w : World} {i : Nat} {o : Oper} (ho : ops[i]? = some o)
    (h : ∀ K' : Act → World → Prop, Shut (∀ a w, S w → (S w → wpAnyH P md ops Q S fuel (listed.setIfInBounds i true) a w) → K' a w) → Oper.wp P o a w K' Q)
    (hw : Region.wanted o (yielded ops a.tmps) = true := by rfl) (hr : Region.ready md ops listed = [i] := by kernel_rfl) : wpAnyH P md ops Q S (fuel + 1) listed a w :=
  wpAnyH_ready hr (by simp) (AllReadyH.cons ho (fun K hK => by rw [if_pos hw]; exact h K hK) AllReadyH.nil)
theorem r2 {P : Program} {ops : Array Oper} {Q : Exit → Act → World → Prop} {md : Region.Mode} {S : World → Prop} {fuel : Nat} {listed : Array Bool} {a : Act} {w : World} {i j : Nat} {o o' : Oper} (ho : ops[i]? = some o)
    (h : ∀ K' : Act → World → Prop, Shut (∀ a w, S w → (S w → wpAnyH P md ops Q S fuel (listed.setIfInBounds i true) a w) → K' a w) → Oper.wp P o a w K' Q)
    (ho' : ops[j]? = some o') (h' : ∀ K' : Act → World → Prop, Shut (∀ a w, S w → (S w → wpAnyH P md ops Q S fuel (listed.setIfInBounds j true) a w) → K' a w) → Oper.wp P o' a w K' Q)
    (hw : Region.wanted o (yielded ops a.tmps) = true := by rfl) (hw' : Region.wanted o' (yielded ops a.tmps) = true := by rfl) (hr : Region.ready md ops listed = [i, j] := by kernel_rfl) : wpAnyH P md ops Q S (fuel + 1) listed a w :=
  wpAnyH_ready hr (by simp) (AllReadyH.cons ho (fun K hK => by rw [if_pos hw]; exact h K hK) (AllReadyH.cons ho' (fun K hK => by rw [if_pos hw']; exact h' K hK) AllReadyH.nil))

structure Var (W : World) (g : Nat) (vs : List Value) : Prop where
  lt : g < W.heap.size
  cells : ∀ i (h : i < vs.length), W.cell? ⟨g, i, none⟩ = some vs[i]
  free : ∀ i, i < vs.length → W.frozen? ⟨g, i, none⟩ = false
theorem Var.below {W W' : World} {g : Nat} {vs : List Value} (h : Var W g vs) (hb : Below W.heap.size W W') : Var W' g vs :=
  ⟨Nat.lt_of_lt_of_le h.lt hb.size, fun i hi => (hb.cell (p := ⟨g, i, none⟩) h.lt).trans (h.cells i hi), fun i hi => (hb.frozen (p := ⟨g, i, none⟩) h.lt).trans (h.free i hi)⟩
theorem Var.far {W : World} {g : Nat} {vs : List Value} (h : Var W g vs) {p : Addr} (hp : p.block ≠ g) (u : Value) : Var (W.setCell p u) g vs :=
  ⟨by simpa using h.lt, fun i hi => (World.cell?_setCell_far _ _ _ _ hp).trans (h.cells i hi), fun i hi => by simpa using h.free i hi⟩
theorem var2 {W : World} {g : Nat} {a b : Value} (hl : g < W.heap.size) (h0 : W.cell? ⟨g, 0, none⟩ = some a) (h1 : W.cell? ⟨g, 1, none⟩ = some b) (f0 : W.frozen? ⟨g, 0, none⟩ = false) (f1 : W.frozen? ⟨g, 1, none⟩ = false) : Var W g [a, b] :=
  ⟨hl, fun i hi => by
    match i, hi with
    | 0, _ => exact h0
    | 1, _ => exact h1, fun i hi => by
    match i, hi with
    | 0, _ => exact f0
    | 1, _ => exact f1⟩
theorem var2_new (W : World) (a b : Value) (t : TypeId) (g : Nat) (hg : g = W.heap.size) : Var (W.alloc (.cells #[a, b] t)) g [a, b] := by
  subst hg
  exact var2 (by simp) (by simp [go_sem]) (by simp [go_sem]) (by simp [go_sem]) (by simp [go_sem])
theorem Var.two {W : World} {g : Nat} {a b : Value} (h : Var W g [a, b]) : W.cell? ⟨g, 0, none⟩ = some a ∧ W.cell? ⟨g, 1, none⟩ = some b := ⟨h.cells 0 (by simp), h.cells 1 (by simp)⟩
theorem Var.free2 {W : World} {g : Nat} {a b : Value} (h : Var W g [a, b]) : W.frozen? ⟨g, 0, none⟩ = false ∧ W.frozen? ⟨g, 1, none⟩ = false := ⟨h.free 0 (by simp), h.free 1 (by simp)⟩
theorem Var.set2 {W : World} {g : Nat} {a b : Value} (h : Var W g [a, b]) (a' b' : Value) : Var ((W.setCell ⟨g, 0, none⟩ a').setCell ⟨g, 1, none⟩ b') g [a', b'] := by
  obtain ⟨h0, h1⟩ := h.two
  obtain ⟨f0, f1⟩ := h.free2
  refine var2 (by simpa using h.lt) ?_ ?_ (by simpa using f0) (by simpa using f1)
  · exact (World.cell?_setCell_other _ _ _ _ (by intro e; injection e with e1 e2; omega)).trans (World.cell?_setCell_same _ _ _ h0)
  · exact World.cell?_setCell_same _ _ _ ((World.cell?_setCell_other _ _ _ _ (by intro e; injection e with e1 e2; omega)).trans h1)
theorem var5_new (W : World) (a b c d e : Value) (t : TypeId) (g : Nat) (hg : g = W.heap.size) : Var (W.alloc (.cells #[a, b, c, d, e] t)) g [a, b, c, d, e] := by
  subst hg
  exact ⟨by simp, fun i hi => by
    match i, hi with
    | 0, _ => simp [go_sem]
    | 1, _ => simp [go_sem]
    | 2, _ => simp [go_sem]
    | 3, _ => simp [go_sem]
    | 4, _ => simp [go_sem], fun i hi => by
    match i, hi with
    | 0, _ => simp [go_sem]
    | 1, _ => simp [go_sem]
    | 2, _ => simp [go_sem]
    | 3, _ => simp [go_sem]
    | 4, _ => simp [go_sem]⟩
theorem Var.five {W : World} {g : Nat} {a b c d e : Value} (h : Var W g [a, b, c, d, e]) : W.cell? ⟨g, 0, none⟩ = some a ∧ W.cell? ⟨g, 1, none⟩ = some b ∧ W.cell? ⟨g, 2, none⟩ = some c ∧ W.cell? ⟨g, 3, none⟩ = some d ∧ W.cell? ⟨g, 4, none⟩ = some e :=
  ⟨h.cells 0 (by simp), h.cells 1 (by simp), h.cells 2 (by simp), h.cells 3 (by simp), h.cells 4 (by simp)⟩
theorem Var.free5 {W : World} {g : Nat} {a b c d e : Value} (h : Var W g [a, b, c, d, e]) : W.frozen? ⟨g, 0, none⟩ = false ∧ W.frozen? ⟨g, 1, none⟩ = false ∧ W.frozen? ⟨g, 2, none⟩ = false ∧ W.frozen? ⟨g, 3, none⟩ = false ∧ W.frozen? ⟨g, 4, none⟩ = false :=
  ⟨h.free 0 (by simp), h.free 1 (by simp), h.free 2 (by simp), h.free 3 (by simp), h.free 4 (by simp)⟩
theorem var4_new (W : World) (a b c d : Value) (t : TypeId) (g : Nat) (hg : g = W.heap.size) : Var (W.alloc (.cells #[a, b, c, d] t)) g [a, b, c, d] := by
  subst hg
  exact ⟨by simp, fun i hi => by
    match i, hi with
    | 0, _ => simp [go_sem]
    | 1, _ => simp [go_sem]
    | 2, _ => simp [go_sem]
    | 3, _ => simp [go_sem], fun i hi => by
    match i, hi with
    | 0, _ => simp [go_sem]
    | 1, _ => simp [go_sem]
    | 2, _ => simp [go_sem]
    | 3, _ => simp [go_sem]⟩
theorem Var.four {W : World} {g : Nat} {a b c d : Value} (h : Var W g [a, b, c, d]) : W.cell? ⟨g, 0, none⟩ = some a ∧ W.cell? ⟨g, 1, none⟩ = some b ∧ W.cell? ⟨g, 2, none⟩ = some c ∧ W.cell? ⟨g, 3, none⟩ = some d :=
  ⟨h.cells 0 (by simp), h.cells 1 (by simp), h.cells 2 (by simp), h.cells 3 (by simp)⟩
theorem Var.free4 {W : World} {g : Nat} {a b c d : Value} (h : Var W g [a, b, c, d]) : W.frozen? ⟨g, 0, none⟩ = false ∧ W.frozen? ⟨g, 1, none⟩ = false ∧ W.frozen? ⟨g, 2, none⟩ = false ∧ W.frozen? ⟨g, 3, none⟩ = false :=
  ⟨h.free 0 (by simp), h.free 1 (by simp), h.free 2 (by simp), h.free 3 (by simp)⟩
/-- nothing that was there has changed, and k blocks have been made since -/
structure Grew (w : World) (k : Nat) (W : World) : Prop where
  hb : Below w.heap.size w W
  sz : w.heap.size + k ≤ W.heap.size
theorem Grew.below {w W W' : World} {k : Nat} (h : Grew w k W) (hb : Below W.heap.size W W') : Grew w k W' := ⟨bl_trans h.hb hb, Nat.le_trans h.sz hb.size⟩
theorem Grew.set {w W : World} {k : Nat} (h : Grew w k W) {p : Addr} (hp : w.heap.size ≤ p.block) (u : Value) : Grew w k (W.setCell p u) := ⟨bl_set h.hb hp u, by simpa using h.sz⟩
theorem Grew.new {w W : World} {k : Nat} (h : Grew w k W) (o : Obj) : Grew w k (W.alloc o) := h.below (bl_one _ _)
/-- a variable of two cells, of five, whatever it holds -/
def Slot2 (W : World) (g : Nat) : Prop := ∃ a b, Var W g [a, b]
theorem Slot2.below {W W' : World} {g : Nat} (h : Slot2 W g) (hb : Below W.heap.size W W') : Slot2 W' g := by
  obtain ⟨a, b, v⟩ := h
  exact ⟨a, b, v.below hb⟩
theorem Slot2.far {W : World} {g : Nat} (h : Slot2 W g) {p : Addr} (hp : p.block ≠ g) (u : Value) : Slot2 (W.setCell p u) g := by
  obtain ⟨a, b, v⟩ := h
  exact ⟨a, b, v.far hp u⟩
def Slot5 (W : World) (g : Nat) : Prop := ∃ a b c d e, Var W g [a, b, c, d, e]
theorem Slot5.below {W W' : World} {g : Nat} (h : Slot5 W g) (hb : Below W.heap.size W W') : Slot5 W' g := by
  obtain ⟨a, b, c, d, e, v⟩ := h
  exact ⟨a, b, c, d, e, v.below hb⟩
theorem Slot5.far {W : World} {g : Nat} (h : Slot5 W g) {p : Addr} (hp : p.block ≠ g) (u : Value) : Slot5 (W.setCell p u) g := by
  obtain ⟨a, b, c, d, e, v⟩ := h
  exact ⟨a, b, c, d, e, v.far hp u⟩
theorem var5 {W : World} {g : Nat} {a b c d e : Value} (hl : g < W.heap.size) (h0 : W.cell? ⟨g, 0, none⟩ = some a) (h1 : W.cell? ⟨g, 1, none⟩ = some b) (h2 : W.cell? ⟨g, 2, none⟩ = some c) (h3 : W.cell? ⟨g, 3, none⟩ = some d) (h4 : W.cell? ⟨g, 4, none⟩ = some e)
    (f0 : W.frozen? ⟨g, 0, none⟩ = false) (f1 : W.frozen? ⟨g, 1, none⟩ = false) (f2 : W.frozen? ⟨g, 2, none⟩ = false) (f3 : W.frozen? ⟨g, 3, none⟩ = false) (f4 : W.frozen? ⟨g, 4, none⟩ = false) : Var W g [a, b, c, d, e] :=
  ⟨hl, fun i hi => by
    match i, hi with
    | 0, _ => exact h0
    | 1, _ => exact h1
    | 2, _ => exact h2
    | 3, _ => exact h3
    | 4, _ => exact h4, fun i hi => by
    match i, hi with
    | 0, _ => exact f0
    | 1, _ => exact f1
    | 2, _ => exact f2
    | 3, _ => exact f3
    | 4, _ => exact f4⟩
theorem Var.set5 {W : World} {g : Nat} {a b c d e : Value} (h : Var W g [a, b, c, d, e]) (a' b' c' d' e' : Value) :
    Var (((((W.setCell ⟨g, 0, none⟩ a').setCell ⟨g, 1, none⟩ b').setCell ⟨g, 2, none⟩ c').setCell ⟨g, 3, none⟩ d').setCell ⟨g, 4, none⟩ e') g [a', b', c', d', e'] := by
  obtain ⟨h0, h1, h2, h3, h4⟩ := h.five
  obtain ⟨f0, f1, f2, f3, f4⟩ := h.free5
  refine var5 (by simpa using h.lt) ?_ ?_ ?_ ?_ ?_ (by simpa using f0) (by simpa using f1) (by simpa using f2) (by simpa using f3) (by simpa using f4)
  all_goals simp [go_sem, h0, h1, h2, h3, h4]
theorem Grew.var5 {w W : World} {n : Nat} (_ : Grew w n W) (a b c d e : Value) (t : TypeId) : Var (W.alloc (.cells #[a, b, c, d, e] t)) W.heap.size [a, b, c, d, e] := var5_new _ _ _ _ _ _ _ _ rfl
theorem Grew.var2 {w W : World} {n : Nat} (_ : Grew w n W) (a b : Value) (t : TypeId) : Var (W.alloc (.cells #[a, b] t)) W.heap.size [a, b] := var2_new _ _ _ _ _ rfl
/-- of the world at hand what holds of each -/
theorem hL_of {w W : World} {n : Nat} {P : World → Prop} (_ : Grew w n W) (h : ∀ W, P W) : Hid (P W) := h W
theorem al_of {w W W' : World} {n : Nat} (_ : Grew w n W') (h : Below W.heap.size W W') : Below W.heap.size W W' := h
theorem bel_drew (W : World) : Below W.heap.size W W.drew := (Below.refl _ _).drew
end Go.Proofs.YtdpbmkfgolemjaaDoor

/-
  A store into another variable leaves one as it is.
-/
namespace Go.Proofs.YtdpbmkfgolemjaaDoor
open Go.RowKit
theorem Grew.far2 {w W : World} {n : Nat} {p q : Addr} {u v : Value} (_ : Grew w n ((W.setCell p u).setCell q v)) {g : Nat} {vs : List Value} (h : Var W g vs) (hp : p.block ≠ g) (hq : q.block ≠ g) : Var ((W.setCell p u).setCell q v) g vs := (h.far hp u).far hq v
end Go.Proofs.YtdpbmkfgolemjaaDoor
