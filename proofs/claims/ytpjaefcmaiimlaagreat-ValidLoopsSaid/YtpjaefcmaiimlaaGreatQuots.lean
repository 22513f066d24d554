/-
  Four limbs in memory; a world taken for a letter.
-/
import Derived.Test.YtpjaefcmaiimlaaGreatLows
import Derived.Lib.BitFns
import Derived.Deep.DeepCutAuto
import Derived.Deep.QuietTactic
import Derived.BigQuiet
import Derived.Lib.OthersKept
set_option linter.unusedVariables false
set_option linter.unusedSimpArgs false
set_option linter.deprecated false
namespace Go.Proofs.YtpjaefcmaiimlaaGreat
open Go.RowKit

structure At4 (W : World) (g : Nat) (a b c d : Int) : Prop where
  c0 : W.cell? ⟨g, 0, none⟩ = some (.int .u64 a)
  c1 : W.cell? ⟨g, 1, none⟩ = some (.int .u64 b)
  c2 : W.cell? ⟨g, 2, none⟩ = some (.int .u64 c)
  c3 : W.cell? ⟨g, 3, none⟩ = some (.int .u64 d)
structure Free4 (W : World) (g : Nat) : Prop where
  f0 : W.frozen? ⟨g, 0, none⟩ = false
  f1 : W.frozen? ⟨g, 1, none⟩ = false
  f2 : W.frozen? ⟨g, 2, none⟩ = false
  f3 : W.frozen? ⟨g, 3, none⟩ = false

theorem cell_lt {W : World} {g o : Nat} {v : Value} (h : W.cell? ⟨g, o, none⟩ = some v) : g < W.heap.size := by
  unfold World.cell? at h
  by_cases hl : g < W.heap.size
  · exact hl
  · simp [Array.getElem?_eq_none (by omega : W.heap.size ≤ g)] at h
theorem At4.lt {W : World} {g : Nat} {a b c d : Int} (h : At4 W g a b c d) : g < W.heap.size := cell_lt h.c0
theorem At4.below {W W' : World} {g : Nat} {a b c d : Int} (h : At4 W g a b c d) (hb : Below W.heap.size W W') : At4 W' g a b c d :=
  ⟨(hb.cell (p := ⟨g, _, none⟩) h.lt).trans h.c0, (hb.cell (p := ⟨g, _, none⟩) h.lt).trans h.c1, (hb.cell (p := ⟨g, _, none⟩) h.lt).trans h.c2, (hb.cell (p := ⟨g, _, none⟩) h.lt).trans h.c3⟩
theorem Free4.below {W W' : World} {g : Nat} (h : Free4 W g) (hlt : g < W.heap.size) (hb : Below W.heap.size W W') : Free4 W' g :=
  ⟨(hb.frozen (p := ⟨g, _, none⟩) hlt).trans h.f0, (hb.frozen (p := ⟨g, _, none⟩) hlt).trans h.f1, (hb.frozen (p := ⟨g, _, none⟩) hlt).trans h.f2, (hb.frozen (p := ⟨g, _, none⟩) hlt).trans h.f3⟩
theorem bl_one (W : World) (o : Obj) : Below W.heap.size W (W.alloc o) := bl_alloc (Below.refl _ _) o
theorem bl_drew1 (W : World) : Below W.heap.size W W.drew := (Below.refl _ _).drew
theorem At4.store {W : World} {g : Nat} {a b c d : Int} (h : At4 W g a b c d) (p q r s : Int) :
    At4 ((((W.setCell ⟨g, 0, none⟩ (.int .u64 p)).setCell ⟨g, 1, none⟩ (.int .u64 q)).setCell ⟨g, 2, none⟩ (.int .u64 r)).setCell ⟨g, 3, none⟩ (.int .u64 s)) g p q r s := by
  have h0 := h.c0; have h1 := h.c1; have h2 := h.c2; have h3 := h.c3
  constructor <;> simp [go_sem, h0, h1, h2, h3]
theorem At4.far {W : World} {g g' : Nat} {a b c d : Int} (h : At4 W g a b c d) (hne : g' ≠ g) (o : Nat) (v : Value) : At4 (W.setCell ⟨g', o, none⟩ v) g a b c d :=
  ⟨(World.cell?_setCell_far _ _ _ _ hne).trans h.c0, (World.cell?_setCell_far _ _ _ _ hne).trans h.c1, (World.cell?_setCell_far _ _ _ _ hne).trans h.c2, (World.cell?_setCell_far _ _ _ _ hne).trans h.c3⟩
theorem Free4.far {W : World} {g : Nat} (h : Free4 W g) (p : Addr) (v : Value) : Free4 (W.setCell p v) g :=
  ⟨(World.frozen?_setCell _ _ _ _).trans h.f0, (World.frozen?_setCell _ _ _ _).trans h.f1, (World.frozen?_setCell _ _ _ _).trans h.f2, (World.frozen?_setCell _ _ _ _).trans h.f3⟩

theorem At4.set2 {W : World} {g : Nat} {a b c d : Int} (h : At4 W g a b c d) (v : Int) : At4 (W.setCell ⟨g, 2, none⟩ (.int .u64 v)) g a b v d := by
  have h0 := h.c0; have h1 := h.c1; have h2 := h.c2; have h3 := h.c3
  constructor <;> simp [go_sem, h0, h1, h2, h3]
theorem At4.set3 {W : World} {g : Nat} {a b c d : Int} (h : At4 W g a b c d) (v : Int) : At4 (W.setCell ⟨g, 3, none⟩ (.int .u64 v)) g a b c v := by
  have h0 := h.c0; have h1 := h.c1; have h2 := h.c2; have h3 := h.c3
  constructor <;> simp [go_sem, h0, h1, h2, h3]

/-- the world, a letter with what is known of it -/
theorem wp_abs {P : Program} {c : Code} {Q : Exit → Act → World → Prop} {a : Act} {W : World} (S : World → Prop) (hS : S W) (h : ∀ W', S W' → c.wp P Q a W') : c.wp P Q a W := h W hS

end Go.Proofs.YtpjaefcmaiimlaaGreat

/-
  Plain facts on shifts of limbs.
-/
namespace Go.Proofs.YtpjaefcmaiimlaaGreat
open Go.RowKit

end Go.Proofs.YtpjaefcmaiimlaaGreat

/-
  Contracts: math/bits.Len64, wide.length.
-/
namespace Go.Proofs.YtpjaefcmaiimlaaGreat
open Go.RowKit

end Go.Proofs.YtpjaefcmaiimlaaGreat

/-
  Contracts: wide.halved, wide.shifted.
-/
namespace Go.Proofs.YtpjaefcmaiimlaaGreat
open Go.RowKit

end Go.Proofs.YtpjaefcmaiimlaaGreat

/-
  Plain facts on long division bit by bit.
-/
namespace Go.Proofs.YtpjaefcmaiimlaaGreat
open Go.RowKit

end Go.Proofs.YtpjaefcmaiimlaaGreat

/-
  Contract of wide.divLimbs: quotient and remainder.
-/
namespace Go.Proofs.YtpjaefcmaiimlaaGreat
open Go.RowKit
attribute [local go_sem ↓] Go.wp_at_zero Go.wp_at_succ

/-- divLimbs' memory: the arguments' boxes, the quotient, the rest -/
structure DW (w : World) (a b c d x y z u q0 q1 q2 q3 r0 r1 r2 r3 : Int) (W : World) : Prop where
  a1 : At4 W w.heap.size a b c d
  x1 : At4 W (w.heap.size + 1) x y z u
  q1 : At4 W (w.heap.size + 1 + 1) q0 q1 q2 q3
  q2 : Free4 W (w.heap.size + 1 + 1)
  r1 : At4 W (w.heap.size + 1 + 1 + 1) r0 r1 r2 r3
  r2 : Free4 W (w.heap.size + 1 + 1 + 1)
  hb : Below w.heap.size w W
theorem DW.below {w : World} {a b c d x y z u q0 q1 q2 q3 r0 r1 r2 r3 : Int} {W W' : World} (h : DW w a b c d x y z u q0 q1 q2 q3 r0 r1 r2 r3 W) (hb : Below W.heap.size W W') : DW w a b c d x y z u q0 q1 q2 q3 r0 r1 r2 r3 W' :=
  ⟨h.a1.below hb, h.x1.below hb, h.q1.below hb, h.q2.below h.q1.lt hb, h.r1.below hb, h.r2.below h.r1.lt hb, bl_trans h.hb hb⟩

theorem DW.rest {w : World} {a b c d x y z u q0 q1 q2 q3 r0 r1 r2 r3 : Int} {W : World} (h : DW w a b c d x y z u q0 q1 q2 q3 r0 r1 r2 r3 W) (s0 s1 s2 s3 : Int) :
    DW w a b c d x y z u q0 q1 q2 q3 s0 s1 s2 s3 ((((W.setCell ⟨w.heap.size + 1 + 1 + 1, 0, none⟩ (.int .u64 s0)).setCell ⟨w.heap.size + 1 + 1 + 1, 1, none⟩ (.int .u64 s1)).setCell ⟨w.heap.size + 1 + 1 + 1, 2, none⟩ (.int .u64 s2)).setCell ⟨w.heap.size + 1 + 1 + 1, 3, none⟩ (.int .u64 s3)) :=
  ⟨(((h.a1.far (by omega) _ _).far (by omega) _ _).far (by omega) _ _).far (by omega) _ _, (((h.x1.far (by omega) _ _).far (by omega) _ _).far (by omega) _ _).far (by omega) _ _, (((h.q1.far (by omega) _ _).far (by omega) _ _).far (by omega) _ _).far (by omega) _ _, (((h.q2.far _ _).far _ _).far _ _).far _ _, h.r1.store s0 s1 s2 s3, (((h.r2.far _ _).far _ _).far _ _).far _ _,
    bl_set (bl_set (bl_set (bl_set h.hb (by dsimp only; omega) _) (by dsimp only; omega) _) (by dsimp only; omega) _) (by dsimp only; omega) _⟩
theorem DW.far {w : World} {a b c d x y z u q0 q1 q2 q3 r0 r1 r2 r3 : Int} {W : World} (h : DW w a b c d x y z u q0 q1 q2 q3 r0 r1 r2 r3 W) {D : Nat} (hD : w.heap.size + 1 + 1 + 1 < D) (o : Nat) (v : Value) :
    DW w a b c d x y z u q0 q1 q2 q3 r0 r1 r2 r3 (W.setCell ⟨D, o, none⟩ v) :=
  ⟨h.a1.far (by omega) _ _, h.x1.far (by omega) _ _, h.q1.far (by omega) _ _, h.q2.far _ _, h.r1.far (by omega) _ _, h.r2.far _ _, bl_set h.hb (by dsimp only; omega) _⟩
end Go.Proofs.YtpjaefcmaiimlaaGreat

/-
  Contract of wide.DivMod.
-/
namespace Go.Proofs.YtpjaefcmaiimlaaGreat
open Go.RowKit
attribute [local go_sem ↓] Go.wp_at_zero Go.wp_at_succ

/-- DivMod's memory: the arguments' boxes, the results -/
structure DM (w : World) (A B : Wd) (W : World) : Prop where
  a1 : At5 W w.heap.size 0 A
  x1 : At5 W (w.heap.size + 1) 0 B
  q1 : At5 W (w.heap.size + 1 + 1) 0 ⟨false, 0, 0, 0, 0⟩
  q2 : Free5 W (w.heap.size + 1 + 1) 0
  r1 : At5 W (w.heap.size + 1 + 1 + 1) 0 ⟨false, 0, 0, 0, 0⟩
  r2 : Free5 W (w.heap.size + 1 + 1 + 1) 0
  hb : Below w.heap.size w W
theorem DM.below {w : World} {A B : Wd} {W W' : World} (h : DM w A B W) (hb : Below W.heap.size W W') : DM w A B W' :=
  ⟨h.a1.below hb h.a1.lt, h.x1.below hb h.x1.lt, h.q1.below hb h.q1.lt, h.q2.below hb h.q1.lt, h.r1.below hb h.r1.lt, h.r2.below hb h.r1.lt, bl_trans h.hb hb⟩
theorem DM.far {w : World} {A B : Wd} {W : World} (h : DM w A B W) {g : Nat} (hg : w.heap.size + 1 + 1 + 1 < g) (o : Nat) (v : Value) : DM w A B (W.setCell ⟨g, o, none⟩ v) := by
  have far : ∀ b j, b ≠ g → (W.setCell ⟨g, o, none⟩ v).cell? ⟨b, j, none⟩ = W.cell? ⟨b, j, none⟩ := fun b j hne => World.cell?_setCell_far _ _ _ _ (fun e => hne e.symm)
  refine ⟨⟨?_, ?_, ?_, ?_, ?_⟩, ⟨?_, ?_, ?_, ?_, ?_⟩, ⟨?_, ?_, ?_, ?_, ?_⟩, ⟨?_, ?_, ?_, ?_, ?_⟩, ⟨?_, ?_, ?_, ?_, ?_⟩, ⟨?_, ?_, ?_, ?_, ?_⟩, bl_set h.hb (by dsimp only; omega) _⟩
  all_goals first
    | (rw [far _ _ (by omega)]; first | exact h.a1.c0 | exact h.a1.c1 | exact h.a1.c2 | exact h.a1.c3 | exact h.a1.c4 | exact h.x1.c0 | exact h.x1.c1 | exact h.x1.c2 | exact h.x1.c3 | exact h.x1.c4 | exact h.q1.c0 | exact h.q1.c1 | exact h.q1.c2 | exact h.q1.c3 | exact h.q1.c4 | exact h.r1.c0 | exact h.r1.c1 | exact h.r1.c2 | exact h.r1.c3 | exact h.r1.c4)
    | (rw [World.frozen?_setCell]; first | exact h.q2.f0 | exact h.q2.f1 | exact h.q2.f2 | exact h.q2.f3 | exact h.q2.f4 | exact h.r2.f0 | exact h.r2.f1 | exact h.r2.f2 | exact h.r2.f3 | exact h.r2.f4)

end Go.Proofs.YtpjaefcmaiimlaaGreat

/-
  Contracts: math/bits.Div64 by ten, wide.tenth, wide.tenfold.
-/
namespace Go.Proofs.YtpjaefcmaiimlaaGreat
open Go.RowKit

structure TW (w : World) (g : Nat) (a b c d : Int) (W : World) : Prop where
  x1 : At4 W w.heap.size a b c d
  x2 : Free4 W w.heap.size
  r1 : At4 W g 0 0 0 0
  r2 : Free4 W g
  hb : Below w.heap.size w W
theorem TW.below {w : World} {g : Nat} {a b c d : Int} {W W' : World} (h : TW w g a b c d W) (hb : Below W.heap.size W W') : TW w g a b c d W' :=
  ⟨h.x1.below hb, h.x2.below h.x1.lt hb, h.r1.below hb, h.r2.below h.r1.lt hb, bl_trans h.hb hb⟩
theorem TW.set2 {w : World} {g : Nat} {a b c d : Int} {W : World} (h : TW w g a b c d W) (hg : w.heap.size < g) (v : Int) : TW w g a b v d (W.setCell ⟨w.heap.size, 2, none⟩ (.int .u64 v)) :=
  ⟨h.x1.set2 v, h.x2.far _ _, h.r1.far (by omega) _ _, h.r2.far _ _, bl_set h.hb (by dsimp only; omega) _⟩
theorem TW.set3 {w : World} {g : Nat} {a b c d : Int} {W : World} (h : TW w g a b c d W) (hg : w.heap.size < g) (v : Int) : TW w g a b c v (W.setCell ⟨w.heap.size, 3, none⟩ (.int .u64 v)) :=
  ⟨h.x1.set3 v, h.x2.far _ _, h.r1.far (by omega) _ _, h.r2.far _ _, bl_set h.hb (by dsimp only; omega) _⟩

end Go.Proofs.YtpjaefcmaiimlaaGreat

/-
  Contracts: strings.CutPrefix, wide.isDecimal, wide.Parse at a text of digits.
-/
namespace Go.Proofs.YtpjaefcmaiimlaaGreat
open Go.RowKit

end Go.Proofs.YtpjaefcmaiimlaaGreat

/-
  Contract of wide.Parse at a text of digits.
-/
namespace Go.Proofs.YtpjaefcmaiimlaaGreat
open Go.RowKit

structure PW (w : World) (W : World) : Prop where
  r1 : At5 W w.heap.size 0 ⟨false, 0, 0, 0, 0⟩
  r2 : Free5 W w.heap.size 0
  hb : Below w.heap.size w W
theorem PW.below {w W W' : World} (h : PW w W) (hb : Below W.heap.size W W') : PW w W' := ⟨h.r1.below hb h.r1.lt, h.r2.below hb h.r1.lt, bl_trans h.hb hb⟩

theorem PW.far {w W : World} (h : PW w W) {g : Nat} (hg : w.heap.size < g) (o : Nat) (v : Value) : PW w (W.setCell ⟨g, o, none⟩ v) := by
  have far : ∀ b j, g ≠ b → (W.setCell ⟨g, o, none⟩ v).cell? ⟨b, j, none⟩ = W.cell? ⟨b, j, none⟩ := fun b j hne => World.cell?_setCell_far _ _ _ _ hne
  refine ⟨⟨?_, ?_, ?_, ?_, ?_⟩, ⟨?_, ?_, ?_, ?_, ?_⟩, bl_set h.hb (by dsimp only; omega) _⟩
  · rw [far _ _ (by omega)]; exact h.r1.c0
  · rw [far _ _ (by omega)]; exact h.r1.c1
  · rw [far _ _ (by omega)]; exact h.r1.c2
  · rw [far _ _ (by omega)]; exact h.r1.c3
  · rw [far _ _ (by omega)]; exact h.r1.c4
  · rw [World.frozen?_setCell]; exact h.r2.f0
  · rw [World.frozen?_setCell]; exact h.r2.f1
  · rw [World.frozen?_setCell]; exact h.r2.f2
  · rw [World.frozen?_setCell]; exact h.r2.f3
  · rw [World.frozen?_setCell]; exact h.r2.f4

end Go.Proofs.YtpjaefcmaiimlaaGreat

/-
  Plain facts on decimal texts.
-/
namespace Go.Proofs.YtpjaefcmaiimlaaGreat
open Go.RowKit

end Go.Proofs.YtpjaefcmaiimlaaGreat

/-
  Contract of wide.Text.
-/
namespace Go.Proofs.YtpjaefcmaiimlaaGreat
open Go.RowKit

/-- the bytes ds from the place 'at' on -/
def BytesAt (W : World) (g at' : Nat) (ds : List Int) : Prop := ∀ i, i < ds.length → W.cell? ⟨g, at' + i, none⟩ = some (.int .u8 (ds.getD i 0))
structure TextW (w : World) (x : Wd) (g : Nat) (at' : Nat) (ds : List Int) (W : World) : Prop where
  a1 : At5 W w.heap.size 0 x
  t1 : ∀ i, i < 79 → ∃ v : Int, W.cell? ⟨g, i, none⟩ = some (.int .u8 v)
  t2 : ∀ i, i < 79 → W.frozen? ⟨g, i, none⟩ = false
  t3 : BytesAt W g at' ds
  hb : Below w.heap.size w W
theorem TextW.lt {w : World} {x : Wd} {g at' : Nat} {ds : List Int} {W : World} (h : TextW w x g at' ds W) : g < W.heap.size := by
  obtain ⟨v, hv⟩ := h.t1 0 (by omega)
  exact cell_lt hv
theorem TextW.below {w : World} {x : Wd} {g at' : Nat} {ds : List Int} {W W' : World} (h : TextW w x g at' ds W) (hb : Below W.heap.size W W') : TextW w x g at' ds W' :=
  ⟨h.a1.below hb h.a1.lt, fun i hi => by
    obtain ⟨v, hv⟩ := h.t1 i hi
    exact ⟨v, (hb.cell (p := ⟨g, i, none⟩) h.lt).trans hv⟩, fun i hi => (hb.frozen (p := ⟨g, i, none⟩) h.lt).trans (h.t2 i hi), fun i hi => (hb.cell (p := ⟨g, _, none⟩) h.lt).trans (h.t3 i hi), bl_trans h.hb hb⟩
theorem TextW.far {w : World} {x : Wd} {g at' : Nat} {ds : List Int} {W : World} (h : TextW w x g at' ds W) {k : Nat} (hk : k ≠ g) (hw : w.heap.size < k) (o : Nat) (v : Value) : TextW w x g at' ds (W.setCell ⟨k, o, none⟩ v) := by
  have far : ∀ b j, k ≠ b → (W.setCell ⟨k, o, none⟩ v).cell? ⟨b, j, none⟩ = W.cell? ⟨b, j, none⟩ := fun b j hne => World.cell?_setCell_far _ _ _ _ hne
  refine ⟨⟨?_, ?_, ?_, ?_, ?_⟩, fun i hi => ?_, fun i hi => (World.frozen?_setCell _ _ _ _).trans (h.t2 i hi), fun i hi => (far _ _ hk).trans (h.t3 i hi), bl_set h.hb (by dsimp only; omega) _⟩
  · rw [far _ _ (by omega)]; exact h.a1.c0
  · rw [far _ _ (by omega)]; exact h.a1.c1
  · rw [far _ _ (by omega)]; exact h.a1.c2
  · rw [far _ _ (by omega)]; exact h.a1.c3
  · rw [far _ _ (by omega)]; exact h.a1.c4
  · obtain ⟨v, hv⟩ := h.t1 i hi
    exact ⟨v, (far _ _ hk).trans hv⟩
theorem TextW.put {w : World} {x : Wd} {g at' : Nat} {ds : List Int} {W : World} (h : TextW w x g (at' + 1) ds W) (hg : w.heap.size < g) (hat : at' < 79) (v : Int) : TextW w x g at' (v :: ds) (W.setCell ⟨g, at', none⟩ (.int .u8 v)) := by
  have far : ∀ b j, g ≠ b → (W.setCell ⟨g, at', none⟩ (.int .u8 v)).cell? ⟨b, j, none⟩ = W.cell? ⟨b, j, none⟩ := fun b j hne => World.cell?_setCell_far _ _ _ _ hne
  have oth : ∀ j, j ≠ at' → (W.setCell ⟨g, at', none⟩ (.int .u8 v)).cell? ⟨g, j, none⟩ = W.cell? ⟨g, j, none⟩ := fun j hne => World.cell?_setCell_other _ _ _ _ (by intro e; injection e with _ e2; exact hne e2.symm)
  obtain ⟨v0, hv0⟩ := h.t1 at' hat
  have same : (W.setCell ⟨g, at', none⟩ (.int .u8 v)).cell? ⟨g, at', none⟩ = some (.int .u8 v) := World.cell?_setCell_same _ _ _ hv0
  refine ⟨⟨?_, ?_, ?_, ?_, ?_⟩, fun i hi => ?_, fun i hi => (World.frozen?_setCell _ _ _ _).trans (h.t2 i hi), fun i hi => ?_, bl_set h.hb (by dsimp only; omega) _⟩
  · rw [far _ _ (by omega)]; exact h.a1.c0
  · rw [far _ _ (by omega)]; exact h.a1.c1
  · rw [far _ _ (by omega)]; exact h.a1.c2
  · rw [far _ _ (by omega)]; exact h.a1.c3
  · rw [far _ _ (by omega)]; exact h.a1.c4
  · by_cases e : i = at'
    · subst e; exact ⟨v, same⟩
    · obtain ⟨v1, hv1⟩ := h.t1 i hi
      exact ⟨v1, (oth i e).trans hv1⟩
  · cases i with
    | zero => simpa using same
    | succ i =>
      rw [oth _ (by omega)]
      have := h.t3 i (by simpa using hi)
      rw [show at' + (i + 1) = at' + 1 + i by omega]
      simpa using this

end Go.Proofs.YtpjaefcmaiimlaaGreat

/-
  Contracts at the chapter's examples: what known() calls, with its answers written out.
-/
namespace Go.Proofs.YtpjaefcmaiimlaaGreat
open Go.RowKit

/-- it answers v, and all that was there is as it was -/
def Gives (v : Value) (w : World) (e : Ending) (w' : World) : Prop := e = .returned v ∧ Below w.heap.size w w'

end Go.Proofs.YtpjaefcmaiimlaaGreat

/-
  Contract of wide.Sub.
-/
namespace Go.Proofs.YtpjaefcmaiimlaaGreat
open Go.RowKit
attribute [local go_sem ↓] Go.wp_at_zero Go.wp_at_succ

end Go.Proofs.YtpjaefcmaiimlaaGreat
