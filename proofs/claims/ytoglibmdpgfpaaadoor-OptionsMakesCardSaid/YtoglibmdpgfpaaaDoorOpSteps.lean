/-
  The law's steps in memory, and the sets that they are made into.
-/
import Derived.Test.YtoglibmdpgfpaaaDoorOpMks
set_option linter.unusedVariables false
set_option linter.unusedSimpArgs false
set_option linter.deprecated false
namespace Go.Proofs.YtoglibmdpgfpaaaDoor
open Go.RowKit

structure Sp6 where
  k : Int
  n : Int
  on : Bool
instance : Inhabited Sp6 := ⟨⟨0, 0, false⟩⟩
def Sp6.st (s : Sp6) : St6 := if s.k = 0 then .mode s.n else if s.k = 1 then .budget s.n else if s.k = 2 then .refine s.on else .no
/-- steps in a row -/
def SpRow6 (W : World) (ad : Option Addr) (L : List Sp6) : Prop := ∀ i (h : i < L.length), ∃ g o, ad = some ⟨g, o, none⟩ ∧ W.cell? ⟨g, o + i * 3, none⟩ = some (.int .i64 L[i].k) ∧ W.cell? ⟨g, o + i * 3 + 1, none⟩ = some (.int .i64 L[i].n) ∧ W.cell? ⟨g, o + i * 3 + 2, none⟩ = some (.bool L[i].on)
theorem SpRow6.below {W W' : World} {ad : Option Addr} {L : List Sp6} (h : SpRow6 W ad L) (hb : Below W.heap.size W W') : SpRow6 W' ad L := by
  intro i hi
  obtain ⟨g, o, e, h1, h2, h3⟩ := h i hi
  exact ⟨g, o, e, (hb.cell (cell_lt h1)).trans h1, (hb.cell (cell_lt h2)).trans h2, (hb.cell (cell_lt h3)).trans h3⟩
theorem sp_at6 {W : World} {g o : Nat} {L : List Sp6} (h : SpRow6 W (some ⟨g, o, none⟩) L) {i : Nat} (hi : i < L.length) {s : Sp6} (e : L[i] = s) : W.cell? ⟨g, o + i * 3, none⟩ = some (.int .i64 s.k) ∧ W.cell? ⟨g, o + i * 3 + 1, none⟩ = some (.int .i64 s.n) ∧ W.cell? ⟨g, o + i * 3 + 2, none⟩ = some (.bool s.on) := by
  obtain ⟨g', o', e1, h1⟩ := h i hi
  cases e1
  rw [e] at h1
  exact h1
/-- a function value that sets, away from a block -/
def StB6 (W : World) (x : Value) (o : Option Nat) : St6 → Prop
  | .no => x = .nilFunc
  | s => ∃ p q, x = .func (.func 79) #[] #[.pointer (some ⟨p, 0, none⟩)] ∧ W.cell? ⟨p, 0, none⟩ = some (.func (.func s.fn) #[] #[.pointer (some ⟨q, 0, none⟩)]) ∧ W.cell? ⟨q, 0, none⟩ = some s.val ∧ o ≠ some p ∧ o ≠ some q
theorem StB6.is {W : World} {x : Value} {o : Option Nat} {s : St6} (hs : s ≠ .no) : StB6 W x o s ↔ ∃ p q, x = .func (.func 79) #[] #[.pointer (some ⟨p, 0, none⟩)] ∧ W.cell? ⟨p, 0, none⟩ = some (.func (.func s.fn) #[] #[.pointer (some ⟨q, 0, none⟩)]) ∧ W.cell? ⟨q, 0, none⟩ = some s.val ∧ o ≠ some p ∧ o ≠ some q := by
  cases s with
  | no => exact absurd rfl hs
  | mode n => exact Iff.rfl
  | budget n => exact Iff.rfl
  | refine n => exact Iff.rfl
theorem StV6.is {W : World} {x : Value} {s : St6} (hs : s ≠ .no) : StV6 W x s ↔ ∃ p q, x = .func (.func 79) #[] #[.pointer (some ⟨p, 0, none⟩)] ∧ W.cell? ⟨p, 0, none⟩ = some (.func (.func s.fn) #[] #[.pointer (some ⟨q, 0, none⟩)]) ∧ W.cell? ⟨q, 0, none⟩ = some s.val := by
  cases s with
  | no => exact absurd rfl hs
  | mode n => exact Iff.rfl
  | budget n => exact Iff.rfl
  | refine n => exact Iff.rfl
theorem StB6.stV {W : World} {x : Value} {o : Option Nat} {s : St6} (h : StB6 W x o s) : StV6 W x s := by
  by_cases hs : s = .no
  · subst hs; exact h
  · obtain ⟨p, q, h1, h2, h3, -, -⟩ := (StB6.is hs).1 h
    exact (StV6.is hs).2 ⟨p, q, h1, h2, h3⟩
theorem StB6.step {W W' : World} {x : Value} {o o' : Option Nat} {s : St6} (h : StB6 W x o s) (hg : W.grownBy W' o) (ho : o' = o ∨ ∀ k, o' = some k → W.heap.size ≤ k) : StB6 W' x o' s := by
  by_cases hs : s = .no
  · subst hs; exact h
  · obtain ⟨p, q, h1, h2, h3, h4, h5⟩ := (StB6.is hs).1 h
    have lp := cell_lt h2
    have lq := cell_lt h3
    refine (StB6.is hs).2 ⟨p, q, h1, (World.cell?_of_block (hg.block p lp (fun e => h4 e.symm))).trans h2, (World.cell?_of_block (hg.block q lq (fun e => h5 e.symm))).trans h3, ?_, ?_⟩
    · rcases ho with rfl | ho
      · exact h4
      · intro e; have := ho p e; (try dsimp only at lp); omega
    · rcases ho with rfl | ho
      · exact h5
      · intro e; have := ho q e; (try dsimp only at lq); omega
theorem StB6.below {W W' : World} {x : Value} {o : Option Nat} {s : St6} (h : StB6 W x o s) (hb : Below W.heap.size W W') : StB6 W' x o s := by
  by_cases hs : s = .no
  · subst hs; exact h
  · obtain ⟨p, q, h1, h2, h3, h4, h5⟩ := (StB6.is hs).1 h
    exact (StB6.is hs).2 ⟨p, q, h1, (hb.cell (cell_lt h2)).trans h2, (hb.cell (cell_lt h3)).trans h3, h4, h5⟩
set_option maxHeartbeats 4000000 in
set_option maxRecDepth 100000 in
theorem setmB_l (n : Int) (w : World) : Calls Tryd.prog 54 #[.int .i64 n] w fun e W => ∃ p, e = .returned (.func (.func 79) #[] #[.pointer (some ⟨p, 0, none⟩)]) ∧ (∀ o : Option Nat, (∀ k, o = some k → k < w.heap.size) → StB6 W (.func (.func 79) #[] #[.pointer (some ⟨p, 0, none⟩)]) o (.mode n)) ∧ Below w.heap.size w W := by
  have CU := Lib.hid (fun f cs W => unless_l f cs W)
  go_enter Tryd.func54, Tryd.ntmps54
  go_wp2_with fail
  refine (CU.out _ _ _).mono ?_
  rintro e w1 ⟨rfl, rfl⟩
  go_wp2_with fail
  go_ret
  refine ⟨_, rfl, fun o ho => ⟨_, w.heap.size, rfl, by simp [go_sem, St6.fn], by simp [go_sem, St6.val], fun e => ?_, fun e => ?_⟩, by repeat (first | (with_reducible exact Below.refl _ _) | (with_reducible refine bl_alloc ?_ _) | (with_reducible refine Below.drew ?_) | (with_reducible refine below_drewN' ?_ _) | ((with_reducible refine bl_set ?_ ?_ _); (rotate_left; (dsimp only; omega))))⟩
  · have := ho _ e; first | omega | (simp at this; done) | (simp at this; omega)
  · have := ho _ e; first | omega | (simp at this; done) | (simp at this; omega)
set_option maxHeartbeats 4000000 in
set_option maxRecDepth 100000 in
theorem setbB_l (n : Int) (w : World) : Calls Tryd.prog 39 #[.int .i64 n] w fun e W => ∃ p, e = .returned (.func (.func 79) #[] #[.pointer (some ⟨p, 0, none⟩)]) ∧ (∀ o : Option Nat, (∀ k, o = some k → k < w.heap.size) → StB6 W (.func (.func 79) #[] #[.pointer (some ⟨p, 0, none⟩)]) o (.budget n)) ∧ Below w.heap.size w W := by
  have CU := Lib.hid (fun f cs W => unless_l f cs W)
  go_enter Tryd.func39, Tryd.ntmps39
  go_wp2_with fail
  refine (CU.out _ _ _).mono ?_
  rintro e w1 ⟨rfl, rfl⟩
  go_wp2_with fail
  go_ret
  refine ⟨_, rfl, fun o ho => ⟨_, w.heap.size, rfl, by simp [go_sem, St6.fn], by simp [go_sem, St6.val], fun e => ?_, fun e => ?_⟩, by repeat (first | (with_reducible exact Below.refl _ _) | (with_reducible refine bl_alloc ?_ _) | (with_reducible refine Below.drew ?_) | (with_reducible refine below_drewN' ?_ _) | ((with_reducible refine bl_set ?_ ?_ _); (rotate_left; (dsimp only; omega))))⟩
  · have := ho _ e; first | omega | (simp at this; done) | (simp at this; omega)
  · have := ho _ e; first | omega | (simp at this; done) | (simp at this; omega)
set_option maxHeartbeats 4000000 in
set_option maxRecDepth 100000 in
theorem setrB_l (n : Bool) (w : World) : Calls Tryd.prog 59 #[.bool n] w fun e W => ∃ p, e = .returned (.func (.func 79) #[] #[.pointer (some ⟨p, 0, none⟩)]) ∧ (∀ o : Option Nat, (∀ k, o = some k → k < w.heap.size) → StB6 W (.func (.func 79) #[] #[.pointer (some ⟨p, 0, none⟩)]) o (.refine n)) ∧ Below w.heap.size w W := by
  have CU := Lib.hid (fun f cs W => unless_l f cs W)
  go_enter Tryd.func59, Tryd.ntmps59
  go_wp2_with fail
  refine (CU.out _ _ _).mono ?_
  rintro e w1 ⟨rfl, rfl⟩
  go_wp2_with fail
  go_ret
  refine ⟨_, rfl, fun o ho => ⟨_, w.heap.size, rfl, by simp [go_sem, St6.fn], by simp [go_sem, St6.val], fun e => ?_, fun e => ?_⟩, by repeat (first | (with_reducible exact Below.refl _ _) | (with_reducible refine bl_alloc ?_ _) | (with_reducible refine Below.drew ?_) | (with_reducible refine below_drewN' ?_ _) | ((with_reducible refine bl_set ?_ ?_ _); (rotate_left; (dsimp only; omega))))⟩
  · have := ho _ e; first | omega | (simp at this; done) | (simp at this; omega)
  · have := ho _ e; first | omega | (simp at this; done) | (simp at this; omega)
theorem info_set6 : (Tryd.prog.info? 83).map (fun i => (i.zero, i.size, i.bytes)) = some (some .nilFunc, 1, 8) := by kernel_rfl
/-- a row of function values, the call's own -/
structure Of6 (W0 : World) (v : Value) (L : List St6) (W : World) : Prop where
  own : ∃ vs : List Value, W.ownsRow W0.heap.size 83 1 v L.length vs ∧ ∀ i (h : i < L.length), ∃ x, vs[i]? = some x ∧ StB6 W x v.ownBlock L[i]
  hb : Below W0.heap.size W0 W
  sz : W0.heap.size ≤ W.heap.size
theorem Of6.row {W0 W : World} {v : Value} {L : List St6} (h : Of6 W0 v L W) : ∃ ad cp, v = .slice ad L.length cp ∧ FnRow6 W ad L := by
  obtain ⟨vs, ho, hv⟩ := h.own
  rcases ho.2 with ⟨rfl, hn⟩ | ⟨g, cap, cur, rfl, -⟩
  · exact ⟨none, 0, by rw [hn], fun i hi => absurd hi (by omega)⟩
  · refine ⟨_, cap, rfl, fun i hi => ?_⟩
    have hc := ho.cellAt i (by omega)
    obtain ⟨x, hx, hs⟩ := hv i hi
    rw [hx] at hc
    exact ⟨g, 0, x, rfl, by rw [Nat.zero_add]; exact hc, hs.stV⟩
theorem Of6.below {W0 W W' : World} {v : Value} {L : List St6} (h : Of6 W0 v L W) (hb : Below W.heap.size W W') : Of6 W0 v L W' := by
  obtain ⟨vs, ho, hv⟩ := h.own
  refine ⟨⟨vs, ⟨ho.1, ho.2.imp id (fun ⟨g, cap, cur, e1, e2, e3, rest⟩ => ⟨g, cap, cur, e1, e2, (hb.block g (Array.getElem?_eq_some_iff.1 e3).1).trans e3, rest⟩)⟩, fun i hi => ?_⟩, h.hb.trans (hb.mono h.sz), Nat.le_trans h.sz hb.size⟩
  obtain ⟨x, hx, hs⟩ := hv i hi
  exact ⟨x, hx, hs.below hb⟩
theorem Of6.more {W0 W W' : World} {v v' x : Value} {L : List St6} {s : St6} {vs : List Value} (h : Of6 W0 v L W) (hvs : W.ownsRow W0.heap.size 83 1 v L.length vs ∧ ∀ i (h : i < L.length), ∃ x, vs[i]? = some x ∧ StB6 W x v.ownBlock L[i]) (hx : StB6 W x v.ownBlock s)
    (ho : W'.ownsRow W0.heap.size 83 1 v' (L.length + 1) (vs ++ [x])) (hg : W.grownBy W' v.ownBlock) (hloc : v'.ownBlock = v.ownBlock ∨ ∀ k, v'.ownBlock = some k → W.heap.size ≤ k) : Of6 W0 v' (L ++ [s]) W' := by
  have hl : vs.length = L.length := by have := hvs.1.1; omega
  refine ⟨⟨vs ++ [x], by rw [List.length_append]; exact ho, fun i hi => ?_⟩, h.hb.grown hg h.sz (fun k e => (hvs.1.lt k e).1), Nat.le_trans h.sz hg.size⟩
  by_cases hlt : i < L.length
  · obtain ⟨y, hy, hs⟩ := hvs.2 i hlt
    refine ⟨y, by rw [List.getElem?_append_left (by omega)]; exact hy, ?_⟩
    rw [List.getElem_append_left hlt]
    exact hs.step hg hloc
  · obtain rfl : i = L.length := by rw [List.length_append] at hi; simp at hi; omega
    refine ⟨x, by rw [List.getElem?_append_right (by omega), hl]; simp, ?_⟩
    rw [List.getElem_append_right (by omega)]
    simp only [Nat.sub_self, List.getElem_cons_zero]
    exact hx.step hg hloc
end Go.Proofs.YtoglibmdpgfpaaaDoor
