/-
  What '==' says of two [4]uint64 and of two Wides; math/bits.Add64 and Sub64, which the model runs itself.
-/
import Derived.Test.YtpjaefcmaiimlaaGreatRows
import Derived.Test.YtpjaefcmaiimlaaGreatPlain
import Derived.WalkKit
import Derived.WalkSpells
import Derived.WalkLawsBesides
import Derived.Lib.Hide
import Derived.Shelf.Spec.BitsCarry
import Derived.Deep.RegionHeld3
import Derived.Deep.DrawnRows
set_option linter.unusedVariables false
set_option linter.unusedSimpArgs false
set_option linter.deprecated false
namespace Go.Proofs.YtpjaefcmaiimlaaGreat
open Go.RowKit

theorem add64_ex (x y c : Int) (hx : In1 x) (hy : In1 y) (h0 : 0 ≤ c) (hc : c ≤ 1) :
    ∃ s co : Int, Hid (In1 s ∧ 0 ≤ co ∧ co ≤ 1 ∧ s + 18446744073709551616 * co = x + y + c) ∧ ∀ w : World, (callFunc 127 #[.int .u64 x, .int .u64 y, .int .u64 c]).run Tryz.prog w = .ok (.value (.tuple #[.int .u64 s, .int .u64 co])) w := by
  unfold In1 at hx hy
  refine ⟨(x + y + c) % 18446744073709551616, (x + y + c) / 18446744073709551616, ?_, fun w => ?_⟩
  · unfold Hid In1; omega
  · rw [run_callFunc_extern Tryz.func127 (by kernel_rfl) (by kernel_rfl) (by kernel_rfl) (e := add64Entry) (by kernel_rfl), run_add64 x y c (by omega) (by omega) (by omega) (by omega)]
    simp only [Result.andThen]

theorem sub64_ex (x y b : Int) (hx : In1 x) (hy : In1 y) (h0 : 0 ≤ b) (hb : b ≤ 1) :
    ∃ s co : Int, Hid (In1 s ∧ 0 ≤ co ∧ co ≤ 1 ∧ s + y + b = x + 18446744073709551616 * co) ∧ ∀ w : World, (callFunc 126 #[.int .u64 x, .int .u64 y, .int .u64 b]).run Tryz.prog w = .ok (.value (.tuple #[.int .u64 s, .int .u64 co])) w := by
  unfold In1 at hx hy
  obtain ⟨X, rfl⟩ := Int.eq_ofNat_of_zero_le hx.1
  obtain ⟨Y, rfl⟩ := Int.eq_ofNat_of_zero_le hy.1
  obtain ⟨B, rfl⟩ := Int.eq_ofNat_of_zero_le h0
  refine ⟨(((X + 18446744073709551616 - Y - B) % 18446744073709551616 : Nat) : Int), ((if X < Y + B then 1 else 0 : Nat) : Int), ?_, fun w => ?_⟩
  · unfold Hid In1; split <;> omega
  · rw [run_callFunc_extern Tryz.func126 (by kernel_rfl) (by kernel_rfl) (by kernel_rfl) (e := sub64Entry) (by kernel_rfl), run_sub64 X Y B (by omega)]
    rfl

end Go.Proofs.YtpjaefcmaiimlaaGreat

/-
  Contracts of wide's small functions: addLimbs, subLimbs, signed, Sign, Neg, Of.
-/
namespace Go.Proofs.YtpjaefcmaiimlaaGreat
open Go.RowKit

/-- a Wide's number -/
def WV (m : Bool) (a b c d : Int) : Int := if m then - V4 a b c d else V4 a b c d

end Go.Proofs.YtpjaefcmaiimlaaGreat

/-
  Plain facts on Wides' numbers.
-/
namespace Go.Proofs.YtpjaefcmaiimlaaGreat
open Go.RowKit

end Go.Proofs.YtpjaefcmaiimlaaGreat

/-
  Contract of wide.addTwo: a sum of two Wides, or ErrRange.
-/
namespace Go.Proofs.YtpjaefcmaiimlaaGreat
open Go.RowKit

end Go.Proofs.YtpjaefcmaiimlaaGreat

/-
  Contracts: wide.Of, math/bits.Mul64, wide.timesPlus.
-/
namespace Go.Proofs.YtpjaefcmaiimlaaGreat
open Go.RowKit

theorem and_low32_mod (z : Int) : bits .and .u64 (z % 18446744073709551616) 4294967295 = z % 18446744073709551616 % 4294967296 := and_low32 _ (by omega) (by omega)

/-- two limbs -/
def TwoP (n : Int) (w : World) (e : Ending) (w' : World) : Prop :=
  ∃ h l : Int, In1 h ∧ In1 l ∧ Hid (h * 18446744073709551616 + l = n) ∧ e = .returned (.tuple #[.int .u64 h, .int .u64 l]) ∧ w = w'
theorem mul_le (x y : Int) (hx : In1 x) (hy : In1 y) : 0 ≤ x * y ∧ x * y ≤ 340282366920938463426481119284349108225 := by
  unfold In1 at hx hy
  refine ⟨Int.mul_nonneg hx.1 hy.1, ?_⟩
  have := Int.mul_le_mul (a := x) (b := y) (c := 18446744073709551615) (d := 18446744073709551615) (by omega) (by omega) hy.1 (by omega)
  simpa using this

set_option maxHeartbeats 1000000 in
set_option maxRecDepth 100000 in
theorem mul64_c (x y : Int) (hx : In1 x) (hy : In1 y) (w : World) :
    Calls Tryz.prog 125 #[.int .u64 x, .int .u64 y] w (TwoP (x * y) w) := by
  have hp := hid_mk (mul_le x y hx hy)
  unfold In1 at hx hy
  obtain ⟨hx0, hx1⟩ := hx
  obtain ⟨hy0, hy1⟩ := hy
  go_enter Tryz.func125, Tryz.ntmps125
  go_wp2
  simp only [IntKind.wrap_u64, and_low32 x hx0 hx1, and_low32 y hy0 hy1, and_low32_mod]
  rw [mul64_arith x y hx0 hx1 hy0 hy1]
  refine bodyPost_ret (v := .tuple #[.int .u64 (x * y / 18446744073709551616), .int .u64 (x * y % 18446744073709551616)]) (by simp [results, Tryz.results125, go_sem]) rfl ⟨_, _, ?_, ?_, ?_, rfl, rfl⟩
  all_goals have := hp.out
  all_goals generalize x * y = p at *
  all_goals first | (unfold Hid; omega) | (unfold In1; omega)

end Go.Proofs.YtpjaefcmaiimlaaGreat

/-
  Contract of wide.mulLimbs: both halves of the product.
-/
namespace Go.Proofs.YtpjaefcmaiimlaaGreat
open Go.RowKit
attribute [local go_sem ↓] Go.wp_at_zero Go.wp_at_succ

def sel4 (x0 x1 x2 x3 : Int) : Nat → Int
  | 0 => x0
  | 1 => x1
  | 2 => x2
  | _ => x3
def upd (o : Nat → Int) (j : Nat) (v : Int) : Nat → Int := fun i => if i = j then v else o i

structure MW (w : World) (x0 x1 x2 x3 y0 y1 y2 y3 : Int) (o : Nat → Int) (W : World) : Prop where
  hx : ∀ i, i < 4 → W.cell? ⟨w.heap.size, i, none⟩ = some (.int .u64 (sel4 x0 x1 x2 x3 i))
  hy : ∀ i, i < 4 → W.cell? ⟨w.heap.size + 1, i, none⟩ = some (.int .u64 (sel4 y0 y1 y2 y3 i))
  ho : ∀ i, i < 8 → W.cell? ⟨w.heap.size + 1 + 1 + 1 + 1, i, none⟩ = some (.int .u64 (o i))
  fo : ∀ i, i < 8 → W.frozen? ⟨w.heap.size + 1 + 1 + 1 + 1, i, none⟩ = false
  r1 : ∀ i, i < 4 → W.cell? ⟨w.heap.size + 1 + 1, i, none⟩ = some (.int .u64 0)
  f1 : ∀ i, i < 4 → W.frozen? ⟨w.heap.size + 1 + 1, i, none⟩ = false
  r2 : ∀ i, i < 4 → W.cell? ⟨w.heap.size + 1 + 1 + 1, i, none⟩ = some (.int .u64 0)
  f2 : ∀ i, i < 4 → W.frozen? ⟨w.heap.size + 1 + 1 + 1, i, none⟩ = false
  hb : Below w.heap.size w W

theorem MW.drew {w : World} {x0 x1 x2 x3 y0 y1 y2 y3 : Int} {o : Nat → Int} {W : World} (h : MW w x0 x1 x2 x3 y0 y1 y2 y3 o W) : MW w x0 x1 x2 x3 y0 y1 y2 y3 o W.drew :=
  ⟨h.hx, h.hy, h.ho, h.fo, h.r1, h.f1, h.r2, h.f2, h.hb.drew⟩
theorem MW.set {w : World} {x0 x1 x2 x3 y0 y1 y2 y3 : Int} {o : Nat → Int} {W : World} (h : MW w x0 x1 x2 x3 y0 y1 y2 y3 o W) (j : Nat) (hj : j < 8) (v : Int) :
    MW w x0 x1 x2 x3 y0 y1 y2 y3 (upd o j v) (W.setCell ⟨w.heap.size + 1 + 1 + 1 + 1, j, none⟩ (.int .u64 v)) := by
  have far : ∀ b i, b ≠ w.heap.size + 1 + 1 + 1 + 1 → (W.setCell ⟨w.heap.size + 1 + 1 + 1 + 1, j, none⟩ (.int .u64 v)).cell? ⟨b, i, none⟩ = W.cell? ⟨b, i, none⟩ := fun b i hb => World.cell?_setCell_far _ _ _ _ (fun e => hb e.symm)
  refine ⟨fun i hi => ?_, fun i hi => ?_, fun i hi => ?_, fun i hi => ?_, fun i hi => ?_, fun i hi => ?_, fun i hi => ?_, fun i hi => ?_, bl_set h.hb (by show w.heap.size ≤ w.heap.size + 1 + 1 + 1 + 1; omega) _⟩
  · rw [far _ _ (by omega)]; exact h.hx i hi
  · rw [far _ _ (by omega)]; exact h.hy i hi
  · by_cases e : i = j
    · subst e
      rw [World.cell?_setCell_same _ _ _ (h.ho i hi)]
      simp [upd]
    · rw [World.cell?_setCell_other _ _ _ _ (by intro e'; injection e' with _ e2; omega)]
      rw [h.ho i hi]
      simp [upd, e]
  · rw [World.frozen?_setCell]; exact h.fo i hi
  · rw [far _ _ (by omega)]; exact h.r1 i hi
  · rw [World.frozen?_setCell]; exact h.f1 i hi
  · rw [far _ _ (by omega)]; exact h.r2 i hi
  · rw [World.frozen?_setCell]; exact h.f2 i hi

end Go.Proofs.YtpjaefcmaiimlaaGreat

/-
  Contract of wide.mulTwo.
-/
namespace Go.Proofs.YtpjaefcmaiimlaaGreat
open Go.RowKit
attribute [local go_sem ↓] Go.wp_at_zero Go.wp_at_succ

end Go.Proofs.YtpjaefcmaiimlaaGreat

/-
  Contracts: wide.fold over a step that has a contract.
-/
namespace Go.Proofs.YtpjaefcmaiimlaaGreat
open Go.RowKit

structure Wd where
  m : Bool
  a : Int
  b : Int
  c : Int
  d : Int
def Wd.val (x : Wd) : Int := WV x.m x.a x.b x.c x.d
def Wd.ok (x : Wd) : Prop := In4 x.a x.b x.c x.d
def Wd.get (l : List Wd) (i : Nat) : Wd := l.getD i ⟨false, 0, 0, 0, 0⟩

/-- a Wide's five cells at an address -/
structure At5 (W : World) (b o : Nat) (x : Wd) : Prop where
  c0 : W.cell? ⟨b, o, none⟩ = some (.bool x.m)
  c1 : W.cell? ⟨b, o + 1, none⟩ = some (.int .u64 x.a)
  c2 : W.cell? ⟨b, o + 2, none⟩ = some (.int .u64 x.b)
  c3 : W.cell? ⟨b, o + 3, none⟩ = some (.int .u64 x.c)
  c4 : W.cell? ⟨b, o + 4, none⟩ = some (.int .u64 x.d)
/-- .. that may be written -/
structure Free5 (W : World) (b o : Nat) : Prop where
  f0 : W.frozen? ⟨b, o, none⟩ = false
  f1 : W.frozen? ⟨b, o + 1, none⟩ = false
  f2 : W.frozen? ⟨b, o + 2, none⟩ = false
  f3 : W.frozen? ⟨b, o + 3, none⟩ = false
  f4 : W.frozen? ⟨b, o + 4, none⟩ = false

theorem At5.below {W W' : World} {b o : Nat} {x : Wd} (h : At5 W b o x) (hb : Below W.heap.size W W') (hlt : b < W.heap.size) : At5 W' b o x :=
  ⟨(hb.cell (p := ⟨b, _, none⟩) hlt).trans h.c0, (hb.cell (p := ⟨b, _, none⟩) hlt).trans h.c1, (hb.cell (p := ⟨b, _, none⟩) hlt).trans h.c2, (hb.cell (p := ⟨b, _, none⟩) hlt).trans h.c3, (hb.cell (p := ⟨b, _, none⟩) hlt).trans h.c4⟩
theorem Free5.below {W W' : World} {b o : Nat} (h : Free5 W b o) (hb : Below W.heap.size W W') (hlt : b < W.heap.size) : Free5 W' b o :=
  ⟨(hb.frozen (p := ⟨b, _, none⟩) hlt).trans h.f0, (hb.frozen (p := ⟨b, _, none⟩) hlt).trans h.f1, (hb.frozen (p := ⟨b, _, none⟩) hlt).trans h.f2, (hb.frozen (p := ⟨b, _, none⟩) hlt).trans h.f3, (hb.frozen (p := ⟨b, _, none⟩) hlt).trans h.f4⟩
theorem At5.lt {W : World} {b o : Nat} {x : Wd} (h : At5 W b o x) : b < W.heap.size := by
  have := h.c0
  unfold World.cell? at this
  by_cases hl : b < W.heap.size
  · exact hl
  · simp [Array.getElem?_eq_none (by omega : W.heap.size ≤ b)] at this
theorem At5.alloc {W : World} {b o : Nat} {x : Wd} (h : At5 W b o x) (ob : Obj) : At5 (W.alloc ob) b o x :=
  h.below ((Below.refl _ _).alloc (Nat.le_refl _) ob) h.lt
theorem Free5.alloc {W : World} {b o : Nat} (h : Free5 W b o) (hlt : b < W.heap.size) (ob : Obj) : Free5 (W.alloc ob) b o :=
  h.below ((Below.refl _ _).alloc (Nat.le_refl _) ob) hlt
theorem Free5.store {W : World} {b o b' o' : Nat} (h : Free5 W b o) (m : Bool) (p q r s : Int) :
    Free5 (((((W.setCell ⟨b', o', none⟩ (.bool m)).setCell ⟨b', o' + 1, none⟩ (.int .u64 p)).setCell ⟨b', o' + 2, none⟩ (.int .u64 q)).setCell ⟨b', o' + 3, none⟩ (.int .u64 r)).setCell ⟨b', o' + 4, none⟩ (.int .u64 s)) b o := by
  constructor <;> simp only [World.frozen?_setCell]
  · exact h.f0
  · exact h.f1
  · exact h.f2
  · exact h.f3
  · exact h.f4
/-- five stores -/
theorem At5.store {W : World} {b o : Nat} {x : Wd} (h : At5 W b o x) (m : Bool) (p q r s : Int) :
    At5 (((((W.setCell ⟨b, o, none⟩ (.bool m)).setCell ⟨b, o + 1, none⟩ (.int .u64 p)).setCell ⟨b, o + 2, none⟩ (.int .u64 q)).setCell ⟨b, o + 3, none⟩ (.int .u64 r)).setCell ⟨b, o + 4, none⟩ (.int .u64 s)) b o ⟨m, p, q, r, s⟩ := by
  have h0 := h.c0; have h1 := h.c1; have h2 := h.c2; have h3 := h.c3; have h4 := h.c4
  constructor <;> simp [go_sem, h0, h1, h2, h3, h4]

/-- the slice's Wides in memory -/
def WidesAt (W : World) (g o : Nat) (l : List Wd) : Prop := ∀ i, i < l.length → At5 W g (o + i * 5) (Wd.get l i) ∧ (Wd.get l i).ok

end Go.Proofs.YtpjaefcmaiimlaaGreat

/-
  Contracts: wide.Add, wide.Mul at a slice that is not nil.
-/
namespace Go.Proofs.YtpjaefcmaiimlaaGreat
open Go.RowKit

end Go.Proofs.YtpjaefcmaiimlaaGreat
