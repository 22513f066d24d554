/-
  Layer 7: rows of numbers and of places in memory; rows of the call's own.
-/
import Derived.Test.YtmkegehkifpkjaaRows
import Derived.Test.YtmkegehkifpkjaaRankMath
import Derived.WalkKit
import Derived.WalkSpells
import Derived.WalkLawsBesides
import Derived.Lib.Hide
import Derived.OwnWalk
import Derived.Laws.OwnMore
import Derived.Maps.AppendAt
import Derived.Laws.AppendOwnNone
import Derived.Deep.RegionHeld
import Derived.Deep.QuietTactic
import Derived.BigQuiet
import Derived.Lib.MinMax
namespace Go.Proofs.Ytmkegehkifpkjaa
open Go.RowKit

theorem x2 {α : Type} {xs : List α} {i : Nat} (h : i < xs.toArray.size) : xs.toArray[i] = xs[i]'h := rfl
theorem x3 {α : Type} (a : α) (l : List α) (i : Nat) (h : i + 1 < (a :: l).length) : (a :: l)[i + 1] = l[i]'(Nat.lt_of_succ_lt_succ h) := rfl
theorem x4 {α : Type} (a : α) (l : List α) (h : 0 < (a :: l).length) : (a :: l)[0] = a := rfl
theorem x5 {α : Type} (l : List α) (i : Nat) (a : α) : l.toArray.setIfInBounds i a = (l.set i a).toArray := List.setIfInBounds_toArray l i a
theorem x6 {α : Type} {x : α} {xs : List α} {a : α} : (x :: xs).set 0 a = a :: xs := rfl
theorem x7 {α : Type} {x : α} {xs : List α} {i : Nat} {a : α} : (x :: xs).set (i + 1) a = x :: xs.set i a := rfl
theorem tk {P : Program} {ops : Array Oper} {Q : Exit → Act → World → Prop} {md : Region.Mode} {S : World → Prop} {i : Nat} {oi : Oper} {v : Value} {fuel : Nat} {listed : Array Bool} {a : Act} {w : World} (hi : ops[i]? = some oi)
    (hy : YieldsIf P ops S oi v a) (h : wpAnyH P md ops Q S fuel (listed.setIfInBounds i true) (a.put oi.dst v) w)
    (hs : Region.noSelect ops = true := by kernel_rfl) (hf : Region.free md ops listed i = true := by kernel_rfl) (hr : (Region.ready md ops listed).contains i = true := by kernel_rfl)
    (hQ : ∀ c a w, Q (.panic c) (a.put oi.dst v) w → Q (.panic c) a w := by exact fun _ _ _ h => h) (hS : S w := by assumption) : wpAnyH P md ops Q S (fuel + 1) listed a w := wpAnyH_take hi hs hf hr hQ hy hS h
theorem r1 {P : Program} {ops : Array Oper} {Q : Exit → Act → World → Prop} {md : Region.Mode} {S : World → Prop} {fuel : Nat} {listed : Array Bool} {a : Act} {w : World} {i : Nat} {o : Oper} (ho : ops[i]? = some o)
    (h : ∀ K' : Act → World → Prop, Shut (∀ a w, S w → (S w → wpAnyH P md ops Q S fuel (listed.setIfInBounds i true) a w) → K' a w) → Oper.wp P o a w K' Q)
    (hw : Region.wanted o (yielded ops a.tmps) = true := by rfl) (hr : Region.ready md ops listed = [i] := by kernel_rfl) : wpAnyH P md ops Q S (fuel + 1) listed a w :=
  wpAnyH_ready hr (by simp) (AllReadyH.cons ho (fun K hK => by rw [if_pos hw]; exact h K hK) AllReadyH.nil)

theorem r2 {P : Program} {ops : Array Oper} {Q : Exit → Act → World → Prop} {md : Region.Mode} {S : World → Prop} {fuel : Nat} {listed : Array Bool} {a : Act} {w : World} {i j : Nat} {o o' : Oper} (ho : ops[i]? = some o)
    (h : ∀ K' : Act → World → Prop, Shut (∀ a w, S w → (S w → wpAnyH P md ops Q S fuel (listed.setIfInBounds i true) a w) → K' a w) → Oper.wp P o a w K' Q)
    (ho' : ops[j]? = some o') (h' : ∀ K' : Act → World → Prop, Shut (∀ a w, S w → (S w → wpAnyH P md ops Q S fuel (listed.setIfInBounds j true) a w) → K' a w) → Oper.wp P o' a w K' Q)
    (hw : Region.wanted o (yielded ops a.tmps) = true := by rfl) (hw' : Region.wanted o' (yielded ops a.tmps) = true := by rfl) (hr : Region.ready md ops listed = [i, j] := by kernel_rfl) : wpAnyH P md ops Q S (fuel + 1) listed a w :=
  wpAnyH_ready hr (by simp) (AllReadyH.cons ho (fun K hK => by rw [if_pos hw]; exact h K hK) (AllReadyH.cons ho' (fun K hK => by rw [if_pos hw']; exact h' K hK) AllReadyH.nil))
/-- a call gives a value, and of what was there nothing has changed -/
def Gives (v : Value) (w : World) (e : Ending) (w' : World) : Prop := e = .returned v ∧ Below w.heap.size w w'
theorem cell_lt {W : World} {g o : Nat} {v : Value} (h : W.cell? ⟨g, o, none⟩ = some v) : g < W.heap.size := by
  unfold World.cell? at h
  by_cases hl : g < W.heap.size
  · exact hl
  · simp [Array.getElem?_eq_none (by omega : W.heap.size ≤ g)] at h
theorem bl_one (W : World) (o : Obj) : Below W.heap.size W (W.alloc o) := bl_alloc (Below.refl _ _) o
theorem bel_drew (W : World) : Below W.heap.size W W.drew := (Below.refl _ _).drew
theorem add_plain (g o i : Nat) : (⟨g, o, none⟩ : Addr).add i = ⟨g, o + i, none⟩ := by unfold Addr.add; split <;> simp_all
theorem wnum {i : Nat} (hi : i ≤ 100000) : wrap64 (i : Int) = (i : Int) ∧ IntKind.i64.wrap (i : Int) = (i : Int) ∧ wrap64 ((i : Int) + 1) = (i : Int) + 1 ∧ IntKind.i64.wrap ((i : Int) + 1) = (i : Int) + 1 :=
  ⟨by unfold wrap64; omega, IntWalk.i64_in _ (by omega), by unfold wrap64; omega, IntWalk.i64_in _ (by omega)⟩
def vlen : Value → Nat
  | .slice _ n _ => n
  | _ => 0

/-- numbers of a row, in memory -/
def IntRow (W : World) (ad : Option Addr) (L : List Int) : Prop := ∀ i (h : i < L.length), ∃ g o, ad = some ⟨g, o, none⟩ ∧ W.cell? ⟨g, o + i, none⟩ = some (.int .i64 L[i])
theorem IntRow.below {W W' : World} {ad : Option Addr} {L : List Int} (h : IntRow W ad L) (hb : Below W.heap.size W W') : IntRow W' ad L := by
  intro i hi
  obtain ⟨g, o, e, h1⟩ := h i hi
  exact ⟨g, o, e, (hb.cell (cell_lt h1)).trans h1⟩
theorem intRow_at {W : World} {g o : Nat} {L : List Int} (h : IntRow W (some ⟨g, o, none⟩) L) {i : Nat} (hi : i < L.length) {t : Int} (e : L[i] = t) : W.cell? ⟨g, o + i, none⟩ = some (.int .i64 t) := by
  obtain ⟨g', o', e1, h1⟩ := h i hi
  simp only [Option.some.injEq, Addr.mk.injEq, and_true] at e1
  obtain ⟨rfl, rfl⟩ := e1
  rw [h1, e]
theorem intRow_nil (W : World) (ad : Option Addr) : IntRow W ad [] := fun _ h => absurd h (Nat.not_lt_zero _)
theorem IntRow.some {W : World} {ad : Option Addr} {L : List Int} (h : IntRow W ad L) (h0 : 0 < L.length) : ∃ g o, ad = some ⟨g, o, none⟩ := by
  obtain ⟨g, o, e, -⟩ := h 0 h0
  exact ⟨g, o, e⟩
/-- behind the first k -/
theorem IntRow.drop {W : World} {ad : Option Addr} {L : List Int} (h : IntRow W ad L) (k : Nat) {ad' : Option Addr} (e : ∀ g o, ad = .some ⟨g, o, none⟩ → k < L.length → ad' = .some ⟨g, o + k, none⟩) : IntRow W ad' (L.drop k) := by
  intro i hi
  rw [List.length_drop] at hi
  obtain ⟨g, o, e1, h1⟩ := h (k + i) (by omega)
  refine ⟨g, o + k, e g o e1 (by omega), ?_⟩
  rw [Nat.add_assoc, h1, List.getElem_drop]
theorem IntRow.take {W : World} {ad : Option Addr} {L : List Int} (h : IntRow W ad L) (k : Nat) : IntRow W ad (L.take k) := by
  intro i hi
  rw [List.length_take] at hi
  obtain ⟨g, o, e1, h1⟩ := h i (by omega)
  exact ⟨g, o, e1, by rw [h1, List.getElem_take]⟩
/-- a cell of another block is written -/
theorem IntRow.other {W : World} {ad : Option Addr} {L : List Int} (h : IntRow W ad L) {g j : Nat} (hg : ∀ g' o, ad = .some ⟨g', o, none⟩ → g' ≠ g) (u : Value) : IntRow (W.setCell ⟨g, j, none⟩ u) ad L := by
  intro i hi
  obtain ⟨g', o, e, h1⟩ := h i hi
  exact ⟨g', o, e, (World.cell?_setCell_other _ _ _ _ (by intro e'; exact hg g' o e (by simpa using (congrArg Addr.block e').symm))).trans h1⟩
/-- a slice of these numbers -/
def IsInts (W : World) (v : Value) (L : List Int) : Prop := ∃ ad cap, v = .slice ad L.length cap ∧ L.length ≤ cap ∧ IntRow W ad L ∧ (ad = none → cap = 0)
theorem IsInts.below {W W' : World} {v : Value} {L : List Int} (h : IsInts W v L) (hb : Below W.heap.size W W') : IsInts W' v L :=
  let ⟨ad, cap, e, c, r, n⟩ := h
  ⟨ad, cap, e, c, r.below hb, n⟩
def iv (L : List Int) : List Value := L.map fun d => .int .i64 d
theorem iv_len (L : List Int) : (iv L).length = L.length * 1 := by simp [iv]
theorem iv_one (L : List Int) : ∀ u ∈ iv L, u.oneCell' = true := by
  intro u hu
  simp [iv] at hu
  obtain ⟨d, -, rfl⟩ := hu
  rfl
theorem iv_cells {W : World} {g o : Nat} {L : List Int} (h : IntRow W (some ⟨g, o, none⟩) L) : ∀ j u, (iv L)[j]? = some u → W.cell? ((⟨g, o, none⟩ : Addr).add j) = some u := by
  intro j u hj
  rw [add_plain]
  unfold iv at hj
  rw [List.getElem?_map] at hj
  cases hx : L[j]? with
  | none => rw [hx] at hj; simp at hj
  | some d =>
    rw [hx] at hj
    simp at hj
    subst hj
    obtain ⟨hl, e⟩ := List.getElem?_eq_some_iff.1 hx
    exact intRow_at h hl e
theorem info_int : (Try.prog.info? 3).map (fun i => (i.zero, i.size, i.bytes)) = some (some (.int .i64 0), 1, 8) := by kernel_rfl
/-- a row of numbers, the call's own -/
structure Oi (W0 : World) (v : Value) (L : List Int) (W : World) : Prop where
  own : W.ownsRow W0.heap.size 3 1 v L.length (iv L)
  hb : Below W0.heap.size W0 W
  sz : W0.heap.size ≤ W.heap.size
theorem oi_nil (w : World) : Oi w (.slice none 0 0) [] w := ⟨World.ownsRow_nil _ _ _ _, Below.refl _ _, Nat.le_refl _⟩
theorem Oi.alloc {W0 W : World} {v : Value} {L : List Int} (h : Oi W0 v L W) (o : Obj) : Oi W0 v L (W.alloc o) :=
  ⟨h.own.alloc o, h.hb.alloc h.sz o, by simp; have := h.sz; omega⟩
theorem Oi.congr {W0 W : World} {v : Value} {L L' : List Int} (h : Oi W0 v L W) (e : L = L') : Oi W0 v L' W := e ▸ h
theorem Oi.drew {W0 W : World} {v : Value} {L : List Int} (h : Oi W0 v L W) : Oi W0 v L W.drew := ⟨h.own, h.hb.drew, h.sz⟩
theorem Oi.more {W0 W W' : World} {v v' : Value} {L M : List Int} {n : Nat} (h : Oi W0 v L W) (hn : n = (L ++ M).length) (ho : W'.ownsRow W0.heap.size 3 1 v' n (iv L ++ iv M)) (hg : W.grownBy W' v.ownBlock) : Oi W0 v' (L ++ M) W' :=
  ⟨by subst hn; unfold iv at *; rw [List.map_append]; exact ho, h.hb.grown hg h.sz (fun k e => (h.own.lt k e).1), Nat.le_trans h.sz hg.size⟩
theorem Oi.below {W0 W W' : World} {v : Value} {L : List Int} (h : Oi W0 v L W) (hb : Below W.heap.size W W') : Oi W0 v L W' := by
  refine ⟨⟨h.own.1, ?_⟩, h.hb.trans (hb.mono h.sz), Nat.le_trans h.sz hb.size⟩
  rcases h.own.2 with h | ⟨g, cap, cur, rfl, hb0, hc, rest⟩
  · exact .inl h
  · exact .inr ⟨g, cap, cur, rfl, hb0, (hb.block g (Array.getElem?_eq_some_iff.1 hc).1).trans hc, rest⟩
/-- seen from an earlier world -/
theorem Oi.base {W0 W1 W : World} {v : Value} {L : List Int} (h : Oi W1 v L W) (hb : Below W0.heap.size W0 W1) : Oi W0 v L W := by
  refine ⟨⟨h.own.1, ?_⟩, hb.trans (h.hb.mono hb.size), Nat.le_trans hb.size h.sz⟩
  rcases h.own.2 with h | ⟨g, cap, cur, rfl, hb0, hc, rest⟩
  · exact .inl h
  · exact .inr ⟨g, cap, cur, rfl, Nat.le_trans hb.size hb0, hc, rest⟩
theorem Oi.ints {W0 W : World} {v : Value} {L : List Int} (h : Oi W0 v L W) : IsInts W v L := by
  have ho := h.own
  rcases ho.2 with ⟨rfl, hn⟩ | ⟨g, cap, cur, rfl, -, -, hcap, -⟩
  · exact ⟨none, 0, by rw [hn], by omega, fun i hi => absurd hi (by omega), fun _ => rfl⟩
  · refine ⟨_, cap, rfl, hcap, fun i hi => ⟨g, 0, rfl, ?_⟩, fun h => by cases h⟩
    have hc := ho.cells (g := g) rfl
    have h2 := hc i (.int .i64 L[i]) (by unfold iv; simp [hi])
    rw [add_plain] at h2
    exact h2
/-- a number written into the row -/
theorem Oi.store {W0 W : World} {g n cap : Nat} {L : List Int} (h : Oi W0 (.slice (some ⟨g, 0, none⟩) n cap) L W) (hn : n = L.length) (j : Nat) (x : Int) : Oi W0 (.slice (some ⟨g, 0, none⟩) n cap) (L.set j x) (W.setCell ⟨g, j, none⟩ (.int .i64 x)) := by
  subst hn
  have hs := h.own.stored j (.int .i64 x)
  refine ⟨?_, h.hb.grown hs.2 h.sz (fun k e => by cases e; exact (h.own.lt g rfl).1), Nat.le_trans h.sz hs.2.size⟩
  rw [List.length_set]
  unfold iv
  rw [List.map_set]
  exact hs.1
theorem Oi.frozen {W0 W : World} {g n cap : Nat} {L : List Int} (h : Oi W0 (.slice (some ⟨g, 0, none⟩) n cap) L W) (hn : n = L.length) (j : Nat) : W.frozen? ⟨g, j, none⟩ = false := by
  subst hn
  exact h.own.frozenAt j
theorem Oi.cell {W0 W : World} {g n cap : Nat} {L : List Int} (h : Oi W0 (.slice (some ⟨g, 0, none⟩) n cap) L W) (hn : n = L.length) {j : Nat} (hj : j < L.length) : W.cell? ⟨g, j, none⟩ = some (.int .i64 L[j]) := by
  subst hn
  obtain ⟨ad, c, e, -, hr, -⟩ := h.ints
  cases e
  have := intRow_at hr hj rfl
  rwa [Nat.zero_add] at this
theorem madeInts (n : Nat) : (madeCells #[Value.int .i64 0] n).toList = iv (List.replicate n 0) := by
  unfold iv
  rw [List.map_replicate]
  exact toList_madeCells_one _ _
theorem oi_made {W0 W : World} {n b : Nat} (hb : b = W0.heap.size) (hown : W.ownsRow b 3 1 (.slice (some ⟨b, 0, none⟩) n n) n (madeCells #[Value.int .i64 0] n).toList) (hg : W0.grownBy W none) : Oi W0 (.slice (some ⟨b, 0, none⟩) n n) (List.replicate n 0) W := by
  subst hb
  refine ⟨?_, (Below.refl _ _).grown hg (Nat.le_refl _) (fun k h => by cases h), hg.size⟩
  rw [List.length_replicate, ← madeInts]
  exact hown
theorem Oi.slice {W0 W : World} {v : Value} {L : List Int} (h : Oi W0 v L W) : ∃ ad cap, v = .slice ad L.length cap ∧ L.length ≤ cap ∧ IntRow W ad L ∧ (ad = none → cap = 0) := h.ints

/-- places of a row, in memory -/
def PtRow (W : World) (ad : Option Addr) (l : List Pt) : Prop := ∀ i, i < l.length → ∃ g o, ad = some ⟨g, o, none⟩ ∧ W.cell? ⟨g, o + i * 2, none⟩ = some (.int .i64 (pget l i).x) ∧ W.cell? ⟨g, o + i * 2 + 1, none⟩ = some (.int .i64 (pget l i).y)
theorem PtRow.below {W W' : World} {ad : Option Addr} {l : List Pt} (h : PtRow W ad l) (hb : Below W.heap.size W W') : PtRow W' ad l := by
  intro i hi
  obtain ⟨g, o, e, h1, h2⟩ := h i hi
  exact ⟨g, o, e, (hb.cell (cell_lt h1)).trans h1, (hb.cell (cell_lt h2)).trans h2⟩
theorem ptRow_at {W : World} {g o : Nat} {l : List Pt} (h : PtRow W (some ⟨g, o, none⟩) l) {i : Nat} (hi : i < l.length) {t : Pt} (e : pget l i = t) : W.cell? ⟨g, o + i * 2, none⟩ = some (.int .i64 t.x) ∧ W.cell? ⟨g, o + i * 2 + 1, none⟩ = some (.int .i64 t.y) := by
  obtain ⟨g', o', e1, h1⟩ := h i hi
  simp only [Option.some.injEq, Addr.mk.injEq, and_true] at e1
  obtain ⟨rfl, rfl⟩ := e1
  rw [← e]
  exact h1
theorem ptRow_nil (W : World) (ad : Option Addr) : PtRow W ad [] := fun _ h => absurd h (Nat.not_lt_zero _)
theorem pget_drop (l : List Pt) (k i : Nat) : pget (l.drop k) i = pget l (k + i) := by simp [pget]
theorem pget_take (l : List Pt) {k i : Nat} (h : i < k) : pget (l.take k) i = pget l i := by simp [pget, h]
/-- behind the first k -/
theorem PtRow.drop {W : World} {ad : Option Addr} {l : List Pt} (h : PtRow W ad l) (k : Nat) {ad' : Option Addr} (e : ∀ g o, ad = .some ⟨g, o, none⟩ → k < l.length → ad' = .some ⟨g, o + k * 2, none⟩) : PtRow W ad' (l.drop k) := by
  intro i hi
  rw [List.length_drop] at hi
  obtain ⟨g, o, e1, h1, h2⟩ := h (k + i) (by omega)
  refine ⟨g, o + k * 2, e g o e1 (by omega), ?_⟩
  rw [pget_drop, show o + k * 2 + i * 2 = o + (k + i) * 2 by omega]
  exact ⟨h1, h2⟩
theorem PtRow.take {W : World} {ad : Option Addr} {l : List Pt} (h : PtRow W ad l) (k : Nat) : PtRow W ad (l.take k) := by
  intro i hi
  rw [List.length_take] at hi
  obtain ⟨g, o, e1, h1, h2⟩ := h i (by omega)
  refine ⟨g, o, e1, ?_⟩
  rw [pget_take _ (by omega)]
  exact ⟨h1, h2⟩
theorem PtRow.some {W : World} {ad : Option Addr} {l : List Pt} (h : PtRow W ad l) (h0 : 0 < l.length) : ∃ g o, ad = some ⟨g, o, none⟩ := by
  obtain ⟨g, o, e, -⟩ := h 0 h0
  exact ⟨g, o, e⟩
def IsPts (W : World) (v : Value) (l : List Pt) : Prop := ∃ ad cap, v = .slice ad l.length cap ∧ l.length ≤ cap ∧ PtRow W ad l ∧ (ad = none → cap = 0)
theorem IsPts.below {W W' : World} {v : Value} {l : List Pt} (h : IsPts W v l) (hb : Below W.heap.size W W') : IsPts W' v l :=
  let ⟨ad, cap, e, c, r, n⟩ := h
  ⟨ad, cap, e, c, r.below hb, n⟩
def pv (l : List Pt) : List Value := l.flatMap fun p => [.int .i64 p.x, .int .i64 p.y]
theorem pv_len (l : List Pt) : (pv l).length = l.length * 2 := by
  induction l with
  | nil => rfl
  | cons s l ih => unfold pv at *; rw [List.flatMap_cons, List.length_append, ih]; simp; omega
theorem pv_one (l : List Pt) : ∀ u ∈ pv l, u.oneCell' = true := by
  intro u hu
  simp [pv] at hu
  obtain ⟨d, -, rfl | rfl⟩ := hu <;> rfl
theorem pv_get : ∀ (l : List Pt) (i : Nat), i < l.length → (pv l)[i * 2]? = some (.int .i64 (pget l i).x) ∧ (pv l)[i * 2 + 1]? = some (.int .i64 (pget l i).y)
  | p :: l, 0, _ => ⟨rfl, rfl⟩
  | p :: l, i + 1, h => by
    have := pv_get l i (by simpa using h)
    rw [show (i + 1) * 2 = i * 2 + 1 + 1 by omega]
    exact this
theorem pv_cells {W : World} {g o : Nat} {l : List Pt} (h : PtRow W (some ⟨g, o, none⟩) l) : ∀ j u, (pv l)[j]? = some u → W.cell? ((⟨g, o, none⟩ : Addr).add j) = some u := by
  intro j u hj
  rw [add_plain]
  have hl := (List.getElem?_eq_some_iff.1 hj).1
  rw [pv_len] at hl
  have hk := pv_get l (j / 2) (by omega)
  have hc := ptRow_at h (i := j / 2) (by omega) rfl
  rcases Nat.mod_two_eq_zero_or_one j with e | e
  · have e2 : j / 2 * 2 = j := by omega
    rw [e2] at hk hc
    rw [hk.1] at hj
    cases hj
    exact hc.1
  · have e2 : j / 2 * 2 + 1 = j := by omega
    rw [Nat.add_assoc, e2] at hc
    rw [e2] at hk
    rw [hk.2] at hj
    cases hj
    exact hc.2
theorem info_pt : (Try.prog.info? 28).map (fun i => (i.zero, i.size, i.bytes)) = some (some (.agg #[.int .i64 0, .int .i64 0]), 2, 16) := by kernel_rfl
/-- '== api.Point' -/
theorem eqPt (a b : Pt) (w : World) : (Op.equalIn 10000 28 (.agg #[.int .i64 a.x, .int .i64 a.y]) (.agg #[.int .i64 b.x, .int .i64 b.y])).run Try.prog w = .ok (decide (a = b)) w := by
  have hS : Try.prog.underlying 28 = some (.struct (Try.prog.fieldsOf 28)) := by kernel_rfl
  have hp : Try.prog.stoodInHeld 28 = false := by kernel_rfl
  have u4 := Try.underlying3
  rw [show (10000 : Nat) = 9999 + 1 from rfl, run_equalIn_agg w 9999 28 _ _ hS hp]
  simp only [Program.fieldsOf, Try.underlying28]
  go_simp
  have e : (a = b) ↔ (a.x = b.x ∧ a.y = b.y) := ⟨fun h => by rw [h]; exact ⟨rfl, rfl⟩, fun h => Pt.ext' h.1 h.2⟩
  by_cases h1 : a.x = b.x <;> by_cases h2 : a.y = b.y <;> simp [h1, h2, e]
/-- a row of places, the call's own -/
structure Op (W0 : World) (v : Value) (l : List Pt) (W : World) : Prop where
  own : W.ownsRow W0.heap.size 28 2 v l.length (pv l)
  hb : Below W0.heap.size W0 W
  sz : W0.heap.size ≤ W.heap.size
theorem op_nil (w : World) : Op w (.slice none 0 0) [] w := ⟨World.ownsRow_nil _ _ _ _, Below.refl _ _, Nat.le_refl _⟩
theorem Op.alloc {W0 W : World} {v : Value} {l : List Pt} (h : Op W0 v l W) (o : Obj) : Op W0 v l (W.alloc o) :=
  ⟨h.own.alloc o, h.hb.alloc h.sz o, by simp; have := h.sz; omega⟩
theorem Op.drew {W0 W : World} {v : Value} {l : List Pt} (h : Op W0 v l W) : Op W0 v l W.drew := ⟨h.own, h.hb.drew, h.sz⟩
theorem Op.more {W0 W W' : World} {v v' : Value} {l m : List Pt} {n : Nat} (h : Op W0 v l W) (hn : n = (l ++ m).length) (ho : W'.ownsRow W0.heap.size 28 2 v' n (pv l ++ pv m)) (hg : W.grownBy W' v.ownBlock) : Op W0 v' (l ++ m) W' :=
  ⟨by subst hn; unfold pv at *; rw [List.flatMap_append]; exact ho, h.hb.grown hg h.sz (fun k e => (h.own.lt k e).1), Nat.le_trans h.sz hg.size⟩
theorem Op.below {W0 W W' : World} {v : Value} {l : List Pt} (h : Op W0 v l W) (hb : Below W.heap.size W W') : Op W0 v l W' := by
  refine ⟨⟨h.own.1, ?_⟩, h.hb.trans (hb.mono h.sz), Nat.le_trans h.sz hb.size⟩
  rcases h.own.2 with h | ⟨g, cap, cur, rfl, hb0, hc, rest⟩
  · exact .inl h
  · exact .inr ⟨g, cap, cur, rfl, hb0, (hb.block g (Array.getElem?_eq_some_iff.1 hc).1).trans hc, rest⟩
/-- seen from an earlier world -/
theorem Op.base {W0 W1 W : World} {v : Value} {L : List Pt} (h : Op W1 v L W) (hb : Below W0.heap.size W0 W1) : Op W0 v L W := by
  refine ⟨⟨h.own.1, ?_⟩, hb.trans (h.hb.mono hb.size), Nat.le_trans hb.size h.sz⟩
  rcases h.own.2 with h | ⟨g, cap, cur, rfl, hb0, hc, rest⟩
  · exact .inl h
  · exact .inr ⟨g, cap, cur, rfl, Nat.le_trans hb.size hb0, hc, rest⟩
theorem Op.pts {W0 W : World} {v : Value} {l : List Pt} (h : Op W0 v l W) : IsPts W v l := by
  have ho := h.own
  rcases ho.2 with ⟨rfl, hn⟩ | ⟨g, cap, cur, rfl, -, -, hcap, -⟩
  · exact ⟨none, 0, by rw [hn], by omega, fun i hi => absurd hi (by omega), fun _ => rfl⟩
  · refine ⟨_, cap, rfl, hcap, fun i hi => ⟨g, 0, rfl, ?_⟩, fun h => by cases h⟩
    have c := ho.cells (g := g) rfl
    have p := pv_get l i hi
    have c0 := c _ _ p.1
    have c1 := c _ _ p.2
    rw [add_plain] at c0 c1
    exact ⟨c0, c1⟩
theorem Op.slice {W0 W : World} {v : Value} {l : List Pt} (h : Op W0 v l W) : ∃ ad cap, v = .slice ad l.length cap ∧ l.length ≤ cap ∧ PtRow W ad l ∧ (ad = none → cap = 0) := h.pts
theorem cells2_new (w : World) (x y : Value) (t : TypeId) : ∀ j u, [x, y][j]? = some u → (w.alloc (.cells #[x, y] t)).cell? ((⟨w.heap.size, 0, none⟩ : Addr).add j) = some u := by
  intro j u hj
  match j, hj with
  | 0, hj => simp at hj; subst hj; simp [Addr.add]
  | 1, hj => simp at hj; subst hj; simp [Addr.add]

set_option maxRecDepth 100000 in
theorem less_l (a b : Pt) (w : World) : Calls Try.prog 20 #[.agg #[.int .i64 a.x, .int .i64 a.y], .agg #[.int .i64 b.x, .int .i64 b.y]] w (Gives (.bool (lessP a b)) w) := by
  have HL : Hid (lessP a b = if a.x = b.x then decide (a.y < b.y) else decide (a.x < b.x)) := rfl
  generalize lessP a b = r at *
  obtain ⟨ax, ay⟩ := a
  obtain ⟨bx, b_y⟩ := b
  dsimp only at *
  go_enter Try.func20, Try.ntmps20
  by_cases h : ax = bx
  · subst h
    obtain rfl : r = decide (ay < b_y) := by rw [HL.out, if_pos rfl]
    clear HL
    go_wp2
    go_ret
    exact ⟨rfl, by repeat (first | (with_reducible exact Below.refl _ _) | (with_reducible refine bl_alloc ?_ _) | (with_reducible refine Below.drew ?_) | (with_reducible refine below_drewN' ?_ _) | ((with_reducible refine bl_set ?_ ?_ _); (rotate_left; (dsimp only; omega))))⟩
  · obtain rfl : r = decide (ax < bx) := by rw [HL.out, if_neg h]
    clear HL
    go_wp2
    go_ret
    exact ⟨rfl, by repeat (first | (with_reducible exact Below.refl _ _) | (with_reducible refine bl_alloc ?_ _) | (with_reducible refine Below.drew ?_) | (with_reducible refine below_drewN' ?_ _) | ((with_reducible refine bl_set ?_ ?_ _); (rotate_left; (dsimp only; omega))))⟩
set_option maxRecDepth 100000 in
theorem refLess_l (a b : Pt) (w : World) : Calls Try.prog 21 #[.agg #[.int .i64 a.x, .int .i64 a.y], .agg #[.int .i64 b.x, .int .i64 b.y]] w (Gives (.bool (lessP a b)) w) := by
  have HL : Hid (lessP a b = if a.x = b.x then decide (a.y < b.y) else decide (a.x < b.x)) := rfl
  generalize lessP a b = r at *
  obtain ⟨ax, ay⟩ := a
  obtain ⟨bx, b_y⟩ := b
  dsimp only at *
  go_enter Try.func21, Try.ntmps21
  by_cases h : ax = bx
  · subst h
    obtain rfl : r = decide (ay < b_y) := by rw [HL.out, if_pos rfl]
    clear HL
    go_wp2
    go_ret
    exact ⟨rfl, by repeat (first | (with_reducible exact Below.refl _ _) | (with_reducible refine bl_alloc ?_ _) | (with_reducible refine Below.drew ?_) | (with_reducible refine below_drewN' ?_ _) | ((with_reducible refine bl_set ?_ ?_ _); (rotate_left; (dsimp only; omega))))⟩
  · obtain rfl : r = decide (ax < bx) := by rw [HL.out, if_neg h]
    clear HL
    go_wp2
    go_ret
    exact ⟨rfl, by repeat (first | (with_reducible exact Below.refl _ _) | (with_reducible refine bl_alloc ?_ _) | (with_reducible refine Below.drew ?_) | (with_reducible refine below_drewN' ?_ _) | ((with_reducible refine bl_set ?_ ?_ _); (rotate_left; (dsimp only; omega))))⟩

theorem intRow_new (W : World) (x : Int) (t : TypeId) : IntRow (W.alloc (.cells #[.int .i64 x] t)) (.some ⟨W.heap.size, 0, none⟩) [x] := by
  intro i hi
  obtain rfl : i = 0 := by simpa using hi
  exact ⟨_, _, rfl, by simp [go_sem]⟩
theorem ptRow_new (W : World) (x : Pt) (t : TypeId) : PtRow (W.alloc (.cells #[.int .i64 x.x, .int .i64 x.y] t)) (.some ⟨W.heap.size, 0, none⟩) [x] := by
  intro i hi
  obtain rfl : i = 0 := by simpa using hi
  exact ⟨_, _, rfl, by simp [go_sem, pget], by simp [go_sem, pget]⟩

/-- append to a row of the call's own, whatever is appended: nil, empty or not -/
theorem app_ints_wp {o : Oper} {a : Act} {K : Act → World → Prop} {Q : Exit → Act → World → Prop} {w W : World} {D L : List Int} {v : Value} {m c : Nat} {ao : Option Addr} (s x : Operand)
    (ho : o.op = .call { callee := .builtin .append, args := #[s, x], argTypes := #[24, 24] }) (hs : a.eval s = v) (hO : Oi w v D W) (hx : a.eval x = .slice ao m c) (hm : m = L.length) (hL : IntRow W ao L) (hn : ao = none → c = 0)
    (hlen : D.length + L.length ≤ 1000000) (h : ∀ v' W', Oi w v' (D ++ L) W' → K (a.put o.dst v') W') : o.wp Try.prog a W K Q := by
  obtain ⟨e0, hi0, hz0, hz1, hz2⟩ := info_parts info_int
  subst hm
  cases ao with
  | some ad =>
    rcases L with _ | ⟨y, ys⟩
    · refine wp_append_own W s x 24 ho w.heap.size 3 e0 (.int .i64 0) 1 8 Try.underlying24 hi0 hz0 hz1 hz2 rfl (by decide) v _ _ hs hO.own ad 0 c [] hx rfl (fun j u h => by simp at h) (fun u h => by simp at h) (by unfold maxLen; omega) (by omega) hO.sz fun v' W' ho hg _ => h v' W' ?_
      exact hO.more (by simp) ho hg
    · obtain ⟨g, o', e⟩ := hL.some (Nat.succ_pos _)
      cases e
      refine wp_append_own W s x 24 ho w.heap.size 3 e0 (.int .i64 0) 1 8 Try.underlying24 hi0 hz0 hz1 hz2 rfl (by decide) v _ _ hs hO.own _ _ c (iv (y :: ys)) hx (iv_len _) (iv_cells hL) (iv_one _) (by unfold maxLen; omega) (by omega) hO.sz fun v' W' ho hg _ => h v' W' ?_
      exact hO.more (by simp) ho hg
  | none =>
    obtain rfl := hn rfl
    rcases L with _ | ⟨y, ys⟩
    · have hrun := run_append_owned_none (P := Try.prog) (w := W) w.heap.size 24 o.type 3 e0 1 Try.underlying24 hi0 v _ _ hO.own
      have h' := h v W (by rw [List.append_nil]; exact hO)
      unfold Oper.wp
      simp only [List.length_nil] at hx
      simp [execOp, ho, resolve, invoke, builtin, hs, hx, hrun, Result.andThen]
      exact h'
    · obtain ⟨g, o', e⟩ := hL.some (Nat.succ_pos _)
      cases e
theorem app_ints {ops : Array Oper} {rest : List Oper} {o : Oper} {a : Act} {Q : Exit → Act → World → Prop} {w W : World} {D L : List Int} {v : Value} {m c : Nat} {ao : Option Addr} (hgd : o.guard = none) (s x : Operand)
    (ho : o.op = .call { callee := .builtin .append, args := #[s, x], argTypes := #[24, 24] }) (hs : a.eval s = v) (hO : Oi w v D W) (hx : a.eval x = .slice ao m c) (hm : m = L.length) (hL : IntRow W ao L) (hn : ao = none → c = 0)
    (hlen : D.length + L.length ≤ 1000000) (h : ∀ v' W', Oi w v' (D ++ L) W' → wpList Try.prog ops Q rest (a.put o.dst v') W') : wpList Try.prog ops Q (o :: rest) a W :=
  wpList_plain hgd fun _ hK => app_ints_wp s x ho hs hO hx hm hL hn hlen fun v' W' hO' => hK _ _ (h v' W' hO')

/-- append to a row of the call's own, whatever is appended: nil, empty or not -/
theorem app_pts_wp {o : Oper} {a : Act} {K : Act → World → Prop} {Q : Exit → Act → World → Prop} {w W : World} {D L : List Pt} {v : Value} {m c : Nat} {ao : Option Addr} (s x : Operand)
    (ho : o.op = .call { callee := .builtin .append, args := #[s, x], argTypes := #[22, 22] }) (hs : a.eval s = v) (hO : Op w v D W) (hx : a.eval x = .slice ao m c) (hm : m = L.length) (hL : PtRow W ao L) (hn : ao = none → c = 0)
    (hlen : D.length + L.length ≤ 1000000) (h : ∀ v' W', Op w v' (D ++ L) W' → K (a.put o.dst v') W') : o.wp Try.prog a W K Q := by
  obtain ⟨e0, hi0, hz0, hz1, hz2⟩ := info_parts info_pt
  subst hm
  cases ao with
  | some ad =>
    rcases L with _ | ⟨y, ys⟩
    · refine wp_append_own W s x 22 ho w.heap.size 28 e0 (.agg #[.int .i64 0, .int .i64 0]) 2 16 Try.underlying22 hi0 hz0 hz1 hz2 rfl (by decide) v _ _ hs hO.own ad 0 c [] hx rfl (fun j u h => by simp at h) (fun u h => by simp at h) (by unfold maxLen; omega) (by omega) hO.sz fun v' W' ho hg _ => h v' W' ?_
      exact hO.more (by simp) ho hg
    · obtain ⟨g, o', e⟩ := hL.some (Nat.succ_pos _)
      cases e
      refine wp_append_own W s x 22 ho w.heap.size 28 e0 (.agg #[.int .i64 0, .int .i64 0]) 2 16 Try.underlying22 hi0 hz0 hz1 hz2 rfl (by decide) v _ _ hs hO.own _ _ c (pv (y :: ys)) hx (pv_len _) (pv_cells hL) (pv_one _) (by unfold maxLen; omega) (by omega) hO.sz fun v' W' ho hg _ => h v' W' ?_
      exact hO.more (by simp) ho hg
  | none =>
    obtain rfl := hn rfl
    rcases L with _ | ⟨y, ys⟩
    · have hrun := run_append_owned_none (P := Try.prog) (w := W) w.heap.size 22 o.type 28 e0 2 Try.underlying22 hi0 v _ _ hO.own
      have h' := h v W (by rw [List.append_nil]; exact hO)
      unfold Oper.wp
      simp only [List.length_nil] at hx
      simp [execOp, ho, resolve, invoke, builtin, hs, hx, hrun, Result.andThen]
      exact h'
    · obtain ⟨g, o', e⟩ := hL.some (Nat.succ_pos _)
      cases e
theorem app_pts {ops : Array Oper} {rest : List Oper} {o : Oper} {a : Act} {Q : Exit → Act → World → Prop} {w W : World} {D L : List Pt} {v : Value} {m c : Nat} {ao : Option Addr} (hgd : o.guard = none) (s x : Operand)
    (ho : o.op = .call { callee := .builtin .append, args := #[s, x], argTypes := #[22, 22] }) (hs : a.eval s = v) (hO : Op w v D W) (hx : a.eval x = .slice ao m c) (hm : m = L.length) (hL : PtRow W ao L) (hn : ao = none → c = 0)
    (hlen : D.length + L.length ≤ 1000000) (h : ∀ v' W', Op w v' (D ++ L) W' → wpList Try.prog ops Q rest (a.put o.dst v') W') : wpList Try.prog ops Q (o :: rest) a W :=
  wpList_plain hgd fun _ hK => app_pts_wp s x ho hs hO hx hm hL hn hlen fun v' W' hO' => hK _ _ (h v' W' hO')
end Go.Proofs.Ytmkegehkifpkjaa
