/-
  Four limbs in memory; a world taken for a letter.
-/
import Derived.Test.YtdpbmkfgolemjaaDoorLows
set_option linter.unusedVariables false
set_option linter.unusedSimpArgs false
set_option linter.deprecated false
namespace Go.Proofs.YtdpbmkfgolemjaaDoor
open Go.RowKit

structure At4 (W : World) (g : Nat) (a b c d : Int) : Prop where
  c0 : W.cell? ⟨g, 0, none⟩ = some (.int .u64 a)
  c1 : W.cell? ⟨g, 1, none⟩ = some (.int .u64 b)
  c2 : W.cell? ⟨g, 2, none⟩ = some (.int .u64 c)
  c3 : W.cell? ⟨g, 3, none⟩ = some (.int .u64 d)
structure Free4 (W : World) (g : Nat) : Prop where
  f0 : W.frozen? ⟨g, 0, none⟩ = false
  f1 : W.frozen? ⟨g, 1, none⟩ = false
  f2 : W.frozen? ⟨g, 2, none⟩ = false
  f3 : W.frozen? ⟨g, 3, none⟩ = false

theorem cell_lt {W : World} {g o : Nat} {v : Value} (h : W.cell? ⟨g, o, none⟩ = some v) : g < W.heap.size := by
  unfold World.cell? at h
  by_cases hl : g < W.heap.size
  · exact hl
  · simp [Array.getElem?_eq_none (by omega : W.heap.size ≤ g)] at h
theorem At4.lt {W : World} {g : Nat} {a b c d : Int} (h : At4 W g a b c d) : g < W.heap.size := cell_lt h.c0
theorem At4.below {W W' : World} {g : Nat} {a b c d : Int} (h : At4 W g a b c d) (hb : Below W.heap.size W W') : At4 W' g a b c d :=
  ⟨(hb.cell (p := ⟨g, _, none⟩) h.lt).trans h.c0, (hb.cell (p := ⟨g, _, none⟩) h.lt).trans h.c1, (hb.cell (p := ⟨g, _, none⟩) h.lt).trans h.c2, (hb.cell (p := ⟨g, _, none⟩) h.lt).trans h.c3⟩
theorem Free4.below {W W' : World} {g : Nat} (h : Free4 W g) (hlt : g < W.heap.size) (hb : Below W.heap.size W W') : Free4 W' g :=
  ⟨(hb.frozen (p := ⟨g, _, none⟩) hlt).trans h.f0, (hb.frozen (p := ⟨g, _, none⟩) hlt).trans h.f1, (hb.frozen (p := ⟨g, _, none⟩) hlt).trans h.f2, (hb.frozen (p := ⟨g, _, none⟩) hlt).trans h.f3⟩
theorem bl_one (W : World) (o : Obj) : Below W.heap.size W (W.alloc o) := bl_alloc (Below.refl _ _) o
theorem bl_drew1 (W : World) : Below W.heap.size W W.drew := (Below.refl _ _).drew
theorem At4.store {W : World} {g : Nat} {a b c d : Int} (h : At4 W g a b c d) (p q r s : Int) :
    At4 ((((W.setCell ⟨g, 0, none⟩ (.int .u64 p)).setCell ⟨g, 1, none⟩ (.int .u64 q)).setCell ⟨g, 2, none⟩ (.int .u64 r)).setCell ⟨g, 3, none⟩ (.int .u64 s)) g p q r s := by
  have h0 := h.c0; have h1 := h.c1; have h2 := h.c2; have h3 := h.c3
  constructor <;> simp [go_sem, h0, h1, h2, h3]
theorem At4.far {W : World} {g g' : Nat} {a b c d : Int} (h : At4 W g a b c d) (hne : g' ≠ g) (o : Nat) (v : Value) : At4 (W.setCell ⟨g', o, none⟩ v) g a b c d :=
  ⟨(World.cell?_setCell_far _ _ _ _ hne).trans h.c0, (World.cell?_setCell_far _ _ _ _ hne).trans h.c1, (World.cell?_setCell_far _ _ _ _ hne).trans h.c2, (World.cell?_setCell_far _ _ _ _ hne).trans h.c3⟩
theorem Free4.far {W : World} {g : Nat} (h : Free4 W g) (p : Addr) (v : Value) : Free4 (W.setCell p v) g :=
  ⟨(World.frozen?_setCell _ _ _ _).trans h.f0, (World.frozen?_setCell _ _ _ _).trans h.f1, (World.frozen?_setCell _ _ _ _).trans h.f2, (World.frozen?_setCell _ _ _ _).trans h.f3⟩

theorem At4.set0 {W : World} {g : Nat} {a b c d : Int} (h : At4 W g a b c d) (v : Int) : At4 (W.setCell ⟨g, 0, none⟩ (.int .u64 v)) g v b c d := by
  have h0 := h.c0; have h1 := h.c1; have h2 := h.c2; have h3 := h.c3
  constructor <;> simp [go_sem, h0, h1, h2, h3]
theorem At4.set1 {W : World} {g : Nat} {a b c d : Int} (h : At4 W g a b c d) (v : Int) : At4 (W.setCell ⟨g, 1, none⟩ (.int .u64 v)) g a v c d := by
  have h0 := h.c0; have h1 := h.c1; have h2 := h.c2; have h3 := h.c3
  constructor <;> simp [go_sem, h0, h1, h2, h3]
theorem At4.set2 {W : World} {g : Nat} {a b c d : Int} (h : At4 W g a b c d) (v : Int) : At4 (W.setCell ⟨g, 2, none⟩ (.int .u64 v)) g a b v d := by
  have h0 := h.c0; have h1 := h.c1; have h2 := h.c2; have h3 := h.c3
  constructor <;> simp [go_sem, h0, h1, h2, h3]
theorem At4.set3 {W : World} {g : Nat} {a b c d : Int} (h : At4 W g a b c d) (v : Int) : At4 (W.setCell ⟨g, 3, none⟩ (.int .u64 v)) g a b c v := by
  have h0 := h.c0; have h1 := h.c1; have h2 := h.c2; have h3 := h.c3
  constructor <;> simp [go_sem, h0, h1, h2, h3]

/-- the world, a letter with what is known of it -/
theorem wp_abs {P : Program} {c : Code} {Q : Exit → Act → World → Prop} {a : Act} {W : World} (S : World → Prop) (hS : S W) (h : ∀ W', S W' → c.wp P Q a W') : c.wp P Q a W := h W hS

end Go.Proofs.YtdpbmkfgolemjaaDoor

/-
  Plain facts on decimal texts.
-/
namespace Go.Proofs.YtdpbmkfgolemjaaDoor
open Go.RowKit

/-- decimal digits of n, the first one first; none for 0 -/
def digs : Nat → Nat → List Int
  | 0, _ => []
  | f + 1, n => if n = 0 then [] else digs f (n / 10) ++ [48 + ((n % 10 : Nat) : Int)]
/-- a number's text -/
def textOf (m : Bool) (n : Nat) : List Int := if n = 0 then [48] else (if m then [45] else []) ++ digs 80 n

theorem digs_fuel : ∀ (f n : Nat), n < 10 ^ f → ∀ g, f ≤ g → digs g n = digs f n
  | 0, n, h, g, _ => by
    have : n = 0 := by simpa using h
    subst this
    cases g <;> simp [digs]
  | f + 1, n, h, g, hg => by
    obtain ⟨k, rfl⟩ := Nat.exists_eq_add_of_le hg
    rw [show f + 1 + k = (f + k) + 1 by omega]
    simp only [digs]
    split
    · rfl
    · rw [digs_fuel f (n / 10) (by rw [Nat.pow_succ] at h; omega) (f + k) (by omega)]
theorem digs_length : ∀ (f n : Nat), (digs f n).length ≤ f
  | 0, n => by simp [digs]
  | f + 1, n => by
    simp only [digs]
    split
    · simp
    · have := digs_length f (n / 10)
      simp; omega
theorem digs_le (k n : Nat) (h : n < 10 ^ k) (hk : k ≤ 80) : (digs 80 n).length ≤ k := by
  rw [digs_fuel k n h 80 hk]; exact digs_length k n
theorem digs_step (n : Nat) (h0 : n ≠ 0) (h : n < 10 ^ 79) : digs 80 n = digs 80 (n / 10) ++ [48 + ((n % 10 : Nat) : Int)] := by
  have e : digs 80 n = digs 79 (n / 10) ++ [48 + ((n % 10 : Nat) : Int)] := by
    show (if n = 0 then [] else digs 79 (n / 10) ++ [48 + ((n % 10 : Nat) : Int)]) = _
    rw [if_neg h0]
  rw [e, digs_fuel 79 (n / 10) (by omega) 80 (by omega)]
theorem m256_lt : M256 < 10 ^ 78 := by decide +kernel

end Go.Proofs.YtdpbmkfgolemjaaDoor
