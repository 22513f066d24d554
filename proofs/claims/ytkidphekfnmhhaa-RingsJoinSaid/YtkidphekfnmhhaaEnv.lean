/-
  Variables in memory, by their blocks; contracts of Add, Mul, Sub, Neg where the answer is known.
-/
import Derived.Test.YtkidphekfnmhhaaQuots
namespace Go.Proofs.Ytkidphekfnmhhaa
open Go.RowKit

/-- the Wides of these blocks, and nothing that was there has changed -/
structure Env (w : World) (l : List (Nat × Wd)) (W : World) : Prop where
  at5 : ∀ p ∈ l, At5 W p.1 0 p.2
  hb : Below w.heap.size w W
theorem Env.below {w : World} {l : List (Nat × Wd)} {W W' : World} (h : Env w l W) (hb : Below W.heap.size W W') : Env w l W' :=
  ⟨fun p hp => (h.at5 p hp).below hb (h.at5 p hp).lt, bl_trans h.hb hb⟩
theorem Env.push {w : World} {l : List (Nat × Wd)} {W : World} (h : Env w l W) {g : Nat} {x : Wd} (hx : At5 W g 0 x) : Env w ((g, x) :: l) W :=
  ⟨fun p hp => by
    rcases List.mem_cons.1 hp with rfl | hp
    · exact hx
    · exact h.at5 p hp, h.hb⟩
theorem Env.cells {w : World} {l : List (Nat × Wd)} {W : World} (h : Env w l W) {g : Nat} {m : Bool} {a b c d : Int} (hp : (g, (⟨m, a, b, c, d⟩ : Wd)) ∈ l) :
    W.cell? ⟨g, 0, none⟩ = some (.bool m) ∧ W.cell? ⟨g, 1, none⟩ = some (.int .u64 a) ∧ W.cell? ⟨g, 2, none⟩ = some (.int .u64 b) ∧ W.cell? ⟨g, 3, none⟩ = some (.int .u64 c) ∧ W.cell? ⟨g, 4, none⟩ = some (.int .u64 d) := by
  have := h.at5 _ hp
  exact ⟨this.c0, this.c1, this.c2, this.c3, this.c4⟩

theorem add_none (g n cap : Nat) (l : List Wd) (hn : l.length = n) (hbig : n ≤ 1000) (hv : fres (fun x y => x + y) 0 l = none) (W : World) (hl : WidesAt W g 0 l) :
    Calls Try.prog 61 #[.slice (some ⟨g, 0, none⟩) n cap] W (Gives (.tuple #[(.agg #[.bool false, .int .u64 0, .int .u64 0, .int .u64 0, .int .u64 0]), .int .i64 10]) W) :=
  (add_c g 0 n cap l hn (by omega) W hl).mono fun _ _ h => fold_none h hv
theorem add_some (g n cap : Nat) (l : List Wd) (hn : l.length = n) (hbig : n ≤ 1000) (m : Bool) (a b c d : Int) (hi : In4 a b c d) (hk : Norm m a b c d) (hv : fres (fun x y => x + y) 0 l = some (WV m a b c d)) (W : World) (hl : WidesAt W g 0 l) :
    Calls Try.prog 61 #[.slice (some ⟨g, 0, none⟩) n cap] W (Gives (.tuple #[(.agg #[.bool m, .int .u64 a, .int .u64 b, .int .u64 c, .int .u64 d]), .int .i64 0]) W) := by
  refine (add_c g 0 n cap l hn (by omega) W hl).mono fun e w' h => ?_
  obtain ⟨m', a', b', c', d', hi', hv', hn', rfl, hb⟩ := fold_val h hv
  obtain ⟨rfl, rfl, rfl, rfl, rfl⟩ := wv_inj hi' hi hn' hk hv'
  exact ⟨rfl, hb⟩
theorem mul_none (g n cap : Nat) (l : List Wd) (hn : l.length = n) (hbig : n ≤ 1000) (hv : fres (fun x y => x * y) 1 l = none) (W : World) (hl : WidesAt W g 0 l) :
    Calls Try.prog 60 #[.slice (some ⟨g, 0, none⟩) n cap] W (Gives (.tuple #[(.agg #[.bool false, .int .u64 0, .int .u64 0, .int .u64 0, .int .u64 0]), .int .i64 10]) W) :=
  (mul_c g 0 n cap l hn (by omega) W hl).mono fun _ _ h => fold_none h hv
theorem mul_some (g n cap : Nat) (l : List Wd) (hn : l.length = n) (hbig : n ≤ 1000) (m : Bool) (a b c d : Int) (hi : In4 a b c d) (hk : Norm m a b c d) (hv : fres (fun x y => x * y) 1 l = some (WV m a b c d)) (W : World) (hl : WidesAt W g 0 l) :
    Calls Try.prog 60 #[.slice (some ⟨g, 0, none⟩) n cap] W (Gives (.tuple #[(.agg #[.bool m, .int .u64 a, .int .u64 b, .int .u64 c, .int .u64 d]), .int .i64 0]) W) := by
  refine (mul_c g 0 n cap l hn (by omega) W hl).mono fun e w' h => ?_
  obtain ⟨m', a', b', c', d', hi', hv', hn', rfl, hb⟩ := fold_val h hv
  obtain ⟨rfl, rfl, rfl, rfl, rfl⟩ := wv_inj hi' hi hn' hk hv'
  exact ⟨rfl, hb⟩
/-- a new variable that holds nothing yet, from block B on -/
structure VarAt (B : Nat) (W : World) (g : Nat) : Prop where
  ge : B ≤ g
  a : At5 W g 0 ⟨false, 0, 0, 0, 0⟩
  f : Free5 W g 0
theorem VarAt.below {B : Nat} {W W' : World} {g : Nat} (h : VarAt B W g) (hb : Below W.heap.size W W') : VarAt B W' g := ⟨h.ge, h.a.below hb h.a.lt, h.f.below hb h.a.lt⟩
theorem var_new (B : Nat) (W : World) (hB : B ≤ W.heap.size) (g : Nat) (hg : g = W.heap.size) (t : TypeId) : VarAt B (W.alloc (.cells #[.bool false, .int .u64 0, .int .u64 0, .int .u64 0, .int .u64 0] t)) g := by
  subst hg
  exact ⟨hB, by constructor <;> simp [go_sem], by constructor <;> simp [go_sem]⟩
theorem WidesAt.below {W W' : World} {g o : Nat} {l : List Wd} (h : WidesAt W g o l) (hb : Below W.heap.size W W') : WidesAt W' g o l :=
  fun i hi => ⟨(h i hi).1.below hb (h i hi).1.lt, (h i hi).2⟩
theorem wides2' (w : World) (g : Nat) (hg : g = w.heap.size) (x y : Wd) (hx : x.ok) (hy : y.ok) (t : TypeId) : WidesAt (w.alloc (.cells #[.bool x.m, .int .u64 x.a, .int .u64 x.b, .int .u64 x.c, .int .u64 x.d, .bool y.m, .int .u64 y.a, .int .u64 y.b, .int .u64 y.c, .int .u64 y.d] t)) g 0 [x, y] := by
  subst hg; exact wides2 w x y hx hy t
theorem wides3' (w : World) (g : Nat) (hg : g = w.heap.size) (x y z : Wd) (hx : x.ok) (hy : y.ok) (hz : z.ok) (t : TypeId) : WidesAt (w.alloc (.cells #[.bool x.m, .int .u64 x.a, .int .u64 x.b, .int .u64 x.c, .int .u64 x.d, .bool y.m, .int .u64 y.a, .int .u64 y.b, .int .u64 y.c, .int .u64 y.d, .bool z.m, .int .u64 z.a, .int .u64 z.b, .int .u64 z.c, .int .u64 z.d] t)) g 0 [x, y, z] := by
  subst hg; exact wides3 w x y z hx hy hz t
/-- a variable is filled -/
theorem Env.fill {w : World} {l : List (Nat × Wd)} {B : Nat} {W0 W : World} (h0 : Env w l W0) (h : Env w l W) {g : Nat} (hB : B = W0.heap.size) (hv : VarAt B W g) (m : Bool) (p q r s : Int) :
    Env w ((g, ⟨m, p, q, r, s⟩) :: l) (((((W.setCell ⟨g, 0, none⟩ (.bool m)).setCell ⟨g, 1, none⟩ (.int .u64 p)).setCell ⟨g, 2, none⟩ (.int .u64 q)).setCell ⟨g, 3, none⟩ (.int .u64 r)).setCell ⟨g, 4, none⟩ (.int .u64 s)) := by
  have hge := hv.ge
  have hw := h0.hb.size
  refine Env.push ⟨fun x hx => ?_, ?_⟩ (hv.a.store m p q r s)
  · have hlt := (h0.at5 x hx).lt
    exact (h.at5 x hx).store_far (by omega) m p q r s
  · exact bl_set (bl_set (bl_set (bl_set (bl_set h.hb (by dsimp only; omega) _) (by dsimp only; omega) _) (by dsimp only; omega) _) (by dsimp only; omega) _) (by dsimp only; omega) _
theorem Env.new {w : World} {l : List (Nat × Wd)} {W : World} (h : Env w l W) (g : Nat) (hg : g = W.heap.size) (m : Bool) (p q r s : Int) (t : TypeId) : Env w ((g, ⟨m, p, q, r, s⟩) :: l) (W.alloc (.cells #[.bool m, .int .u64 p, .int .u64 q, .int .u64 r, .int .u64 s] t)) := by
  subst hg
  exact (h.below (bl_one _ _)).push (by constructor <;> simp [go_sem])
end Go.Proofs.Ytkidphekfnmhhaa
