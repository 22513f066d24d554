/-
  Variables in memory: Wides and the document's numbers.
-/
import Derived.Test.YtojfggnimmaemaaTwo2
import Derived.Test.YtojfggnimmaemaaRefTimes
namespace Go.Proofs.Ytojfggnimmaemaa
open Go.RowKit

/-- a Num as it lies in memory, and its number -/
structure Nv where
  m : Bool
  ad : Option Addr
  n : Nat
  c : Nat
  z : Int
structure NVar (W : World) (g : Nat) (x : Nv) : Prop where
  c0 : W.cell? ⟨g, 0, none⟩ = some (.bool x.m)
  c1 : W.cell? ⟨g, 1, none⟩ = some (.slice x.ad x.n x.c)
  hN : NumIs (.agg #[.bool x.m, .slice x.ad x.n x.c]) x.z W
theorem NVar.lt {W : World} {g : Nat} {x : Nv} (h : NVar W g x) : g < W.heap.size := cell_lt h.c0
theorem NVar.below {W W' : World} {g : Nat} {x : Nv} (h : NVar W g x) (hb : Below W.heap.size W W') : NVar W' g x :=
  ⟨(hb.cell (p := ⟨g, _, none⟩) h.lt).trans h.c0, (hb.cell (p := ⟨g, _, none⟩) h.lt).trans h.c1, h.hN.below hb⟩
/-- the Wides and the numbers of these blocks, and nothing that was there has changed -/
structure EnvN (w : World) (l : List (Nat × Wd)) (k : List (Nat × Nv)) (W : World) : Prop where
  e : Env w l W
  v : ∀ p ∈ k, NVar W p.1 p.2
theorem EnvN.below {w : World} {l : List (Nat × Wd)} {k : List (Nat × Nv)} {W W' : World} (h : EnvN w l k W) (hb : Below W.heap.size W W') : EnvN w l k W' :=
  ⟨h.e.below hb, fun p hp => (h.v p hp).below hb⟩
theorem EnvN.new {w : World} {l : List (Nat × Wd)} {k : List (Nat × Nv)} {W : World} (h : EnvN w l k W) (g : Nat) (hg : g = W.heap.size) (m : Bool) (ad : Option Addr) (n c : Nat) (z : Int) (hN : NumIs (.agg #[.bool m, .slice ad n c]) z W) (t : TypeId) :
    EnvN w l ((g, ⟨m, ad, n, c, z⟩) :: k) (W.alloc (.cells #[.bool m, .slice ad n c] t)) := by
  subst hg
  refine ⟨h.e.below (bl_one _ _), fun p hp => ?_⟩
  rcases List.mem_cons.1 hp with rfl | hp
  · exact ⟨by simp [go_sem], by simp [go_sem], hN.below (bl_one _ _)⟩
  · exact (h.v p hp).below (bl_one _ _)
theorem EnvN.num {w : World} {l : List (Nat × Wd)} {k : List (Nat × Nv)} {W : World} (h : EnvN w l k W) {g : Nat} {m : Bool} {ad : Option Addr} {n c : Nat} {z : Int} (hp : (g, (⟨m, ad, n, c, z⟩ : Nv)) ∈ k) :
    W.cell? ⟨g, 0, none⟩ = some (.bool m) ∧ W.cell? ⟨g, 1, none⟩ = some (.slice ad n c) ∧ Hid (NumIs (.agg #[.bool m, .slice ad n c]) z W) :=
  ⟨(h.v _ hp).c0, (h.v _ hp).c1, (h.v _ hp).hN⟩
theorem EnvN.store {w : World} {l : List (Nat × Wd)} {k : List (Nat × Nv)} {W : World} (h : EnvN w l k W) {b : Nat} {x : Bool} {s : Value} (hc0 : W.cell? ⟨b, 0, none⟩ = some (.bool x)) (hc1 : W.cell? ⟨b, 1, none⟩ = some s) (hw : w.heap.size ≤ b) (hl : ∀ p ∈ l, p.1 ≠ b) (hk : ∀ p ∈ k, p.1 ≠ b)
    (m : Bool) (ad : Option Addr) (n c : Nat) (z : Int) (hN : NumIs (.agg #[.bool m, .slice ad n c]) z W) :
    EnvN w l ((b, ⟨m, ad, n, c, z⟩) :: k) ((W.setCell ⟨b, 0, none⟩ (.bool m)).setCell ⟨b, 1, none⟩ (.slice ad n c)) := by
  have num : ∀ {v : Value} {y : Int}, NumIs v y W → NumIs v y ((W.setCell ⟨b, 0, none⟩ (.bool m)).setCell ⟨b, 1, none⟩ (.slice ad n c)) := by
    rintro v y ⟨m', ad', n', c', f', e, hd, hm, hz⟩
    exact ⟨m', ad', n', c', f', e, hd.res hc0 _ _, hm, hz⟩
  refine ⟨⟨fun p hp => ?_, ?_⟩, fun p hp => ?_⟩
  · have h5 := h.e.at5 p hp
    have hne := hl p hp
    constructor
    · exact ((World.cell?_setCell_far _ _ _ _ (Ne.symm hne)).trans (World.cell?_setCell_far _ _ _ _ (Ne.symm hne))).trans h5.c0
    · exact ((World.cell?_setCell_far _ _ _ _ (Ne.symm hne)).trans (World.cell?_setCell_far _ _ _ _ (Ne.symm hne))).trans h5.c1
    · exact ((World.cell?_setCell_far _ _ _ _ (Ne.symm hne)).trans (World.cell?_setCell_far _ _ _ _ (Ne.symm hne))).trans h5.c2
    · exact ((World.cell?_setCell_far _ _ _ _ (Ne.symm hne)).trans (World.cell?_setCell_far _ _ _ _ (Ne.symm hne))).trans h5.c3
    · exact ((World.cell?_setCell_far _ _ _ _ (Ne.symm hne)).trans (World.cell?_setCell_far _ _ _ _ (Ne.symm hne))).trans h5.c4
  · exact bl_set (bl_set h.e.hb hw _) hw _
  · rcases List.mem_cons.1 hp with rfl | hp
    · refine ⟨?_, ?_, num hN⟩
      · exact (World.cell?_setCell_other _ _ _ _ (by intro e; injection e with e1 e2; omega)).trans (World.cell?_setCell_same _ _ _ hc0)
      · exact World.cell?_setCell_same _ _ _ ((World.cell?_setCell_other _ _ _ _ (by intro e; injection e with e1 e2; omega)).trans hc1)
    · have hv := h.v p hp
      have hne := hk p hp
      exact ⟨((World.cell?_setCell_far _ _ _ _ (Ne.symm hne)).trans (World.cell?_setCell_far _ _ _ _ (Ne.symm hne))).trans hv.c0, ((World.cell?_setCell_far _ _ _ _ (Ne.symm hne)).trans (World.cell?_setCell_far _ _ _ _ (Ne.symm hne))).trans hv.c1, num hv.hN⟩
/-- a new number's variable that holds nothing yet, from block B on -/
structure VarN (B : Nat) (W : World) (g : Nat) : Prop where
  ge : B ≤ g
  c0 : W.cell? ⟨g, 0, none⟩ = some (.bool false)
  c1 : W.cell? ⟨g, 1, none⟩ = some (.slice none 0 0)
  f0 : W.frozen? ⟨g, 0, none⟩ = false
  f1 : W.frozen? ⟨g, 1, none⟩ = false
theorem VarN.below {B : Nat} {W W' : World} {g : Nat} (h : VarN B W g) (hb : Below W.heap.size W W') : VarN B W' g :=
  have hl := cell_lt h.c0
  ⟨h.ge, (hb.cell (p := ⟨g, _, none⟩) hl).trans h.c0, (hb.cell (p := ⟨g, _, none⟩) hl).trans h.c1, (hb.frozen (p := ⟨g, _, none⟩) hl).trans h.f0, (hb.frozen (p := ⟨g, _, none⟩) hl).trans h.f1⟩
theorem varN_new (B : Nat) (W : World) (hB : B ≤ W.heap.size) (g : Nat) (hg : g = W.heap.size) (t : TypeId) : VarN B (W.alloc (.cells #[.bool false, .slice none 0 0] t)) g := by
  subst hg
  exact ⟨hB, by simp [go_sem], by simp [go_sem], by simp [go_sem], by simp [go_sem]⟩
theorem EnvN.fill {w : World} {l : List (Nat × Wd)} {k : List (Nat × Nv)} {B : Nat} {W0 W : World} (h0 : EnvN w l k W0) (h : EnvN w l k W) {g : Nat} (hB : B = W0.heap.size) (hv : VarN B W g) (m : Bool) (ad : Option Addr) (n c : Nat) (z : Int) (hN : NumIs (.agg #[.bool m, .slice ad n c]) z W) :
    EnvN w l ((g, ⟨m, ad, n, c, z⟩) :: k) ((W.setCell ⟨g, 0, none⟩ (.bool m)).setCell ⟨g, 1, none⟩ (.slice ad n c)) := by
  have hge := hv.ge
  have hw := h0.e.hb.size
  exact h.store hv.c0 hv.c1 (by omega) (fun p hp => by have := (h0.e.at5 p hp).lt; omega) (fun p hp => by have := (h0.v p hp).lt; omega) m ad n c z hN
theorem cmp_is (v u : Value) (z y r : Int) (w : World) (h1 : NumIs v z w) (h2 : NumIs u y w) (b1 : -BIG < z ∧ z < BIG) (b2 : -BIG < y ∧ y < BIG) (hr : sgZ (z - y) = r) :
    Calls Try.prog 40 #[v, u] w fun e w' => e = .returned (.int .i64 r) ∧ Below w.heap.size w w' := by
  subst hr; exact cmp_num v u z y w h1 h2 b1 b2
theorem sign_is (v : Value) (z r : Int) (w : World) (h : NumIs v z w) (hr : sgZ z = r) :
    Calls Try.prog 58 #[v] w fun e w' => e = .returned (.int .i64 r) ∧ Below w.heap.size w w' := by
  subst hr; exact sign_num v z w h
end Go.Proofs.Ytojfggnimmaemaa
