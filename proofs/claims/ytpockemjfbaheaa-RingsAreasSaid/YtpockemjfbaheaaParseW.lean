/-
  Contract of wide.Parse at a text of digits.
-/
import Derived.Test.YtpockemjfbaheaaParse
namespace Go.Proofs.Ytpockemjfbaheaa
open Go.RowKit

/-- the number of the first n digits -/
def decTo (s : ByteArray) : Nat → Int
  | 0 => 0
  | n + 1 => decTo s n * 10 + (((if h : n < s.size then (s[n]'h).toNat else 48 : Nat) : Int) - 48)
theorem decTo_nonneg {s : ByteArray} (hs : Dec s) : ∀ n, 0 ≤ decTo s n
  | 0 => by simp [decTo]
  | n + 1 => by
    have := decTo_nonneg hs n
    simp only [decTo]
    split
    · rename_i h; have := hs.dig n h; omega
    · omega
theorem decTo_mono {s : ByteArray} (hs : Dec s) (n : Nat) : ∀ k, decTo s n ≤ decTo s (n + k)
  | 0 => by simp
  | k + 1 => by
    have h1 := decTo_mono hs n k
    have h2 := decTo_nonneg hs (n + k)
    rw [← Nat.add_assoc]
    simp only [decTo]
    split
    · rename_i h; have := hs.dig (n + k) h; omega
    · omega
theorem decTo_succ {s : ByteArray} (n : Nat) (h : n < s.size) : decTo s (n + 1) = decTo s n * 10 + (((s[n]'h).toNat : Int) - 48) := by
  simp only [decTo]; rw [dif_pos h]

structure PW (w : World) (W : World) : Prop where
  r1 : At5 W w.heap.size 0 ⟨false, 0, 0, 0, 0⟩
  r2 : Free5 W w.heap.size 0
  hb : Below w.heap.size w W
theorem PW.below {w W W' : World} (h : PW w W) (hb : Below W.heap.size W W') : PW w W' := ⟨h.r1.below hb h.r1.lt, h.r2.below hb h.r1.lt, bl_trans h.hb hb⟩

/-- ahead of a round: k the iterator's block, g the number's -/
def ParseR (w : World) (s : ByteArray) (g k : Nat) (W : World) : Prop :=
  ∃ (pos : Nat) (a b c d : Int), pos ≤ s.size ∧ W.heap[k]? = some (.stringIter s pos) ∧ In4 a b c d ∧ At4 W g a b c d ∧ Free4 W g ∧ PW w W ∧ V4 a b c d = decTo s pos

theorem PW.iterAt {w W : World} (h : PW w W) {k : Nat} (hk : w.heap.size < k) (s : ByteArray) (p : Nat) : PW w (W.iterAt k s p) := by
  have hc : ∀ b o, b ≠ k → (W.iterAt k s p).cell? ⟨b, o, none⟩ = W.cell? ⟨b, o, none⟩ := fun b o hne => World.cell?_of_block (Lib.iterAt_other W k b s p hne)
  have hf : ∀ b o, b ≠ k → (W.iterAt k s p).frozen? ⟨b, o, none⟩ = W.frozen? ⟨b, o, none⟩ := fun b o hne => World.frozen?_of_block (Lib.iterAt_other W k b s p hne)
  refine ⟨⟨?_, ?_, ?_, ?_, ?_⟩, ⟨?_, ?_, ?_, ?_, ?_⟩, Lib.below_iterAt h.hb (by omega) s p⟩
  · rw [hc _ _ (by omega)]; exact h.r1.c0
  · rw [hc _ _ (by omega)]; exact h.r1.c1
  · rw [hc _ _ (by omega)]; exact h.r1.c2
  · rw [hc _ _ (by omega)]; exact h.r1.c3
  · rw [hc _ _ (by omega)]; exact h.r1.c4
  · rw [hf _ _ (by omega)]; exact h.r2.f0
  · rw [hf _ _ (by omega)]; exact h.r2.f1
  · rw [hf _ _ (by omega)]; exact h.r2.f2
  · rw [hf _ _ (by omega)]; exact h.r2.f3
  · rw [hf _ _ (by omega)]; exact h.r2.f4
theorem At4.iterAt {W : World} {g : Nat} {a b c d : Int} (h : At4 W g a b c d) {k : Nat} (hk : g ≠ k) (s : ByteArray) (p : Nat) : At4 (W.iterAt k s p) g a b c d := by
  have hc : ∀ o, (W.iterAt k s p).cell? ⟨g, o, none⟩ = W.cell? ⟨g, o, none⟩ := fun o => World.cell?_of_block (Lib.iterAt_other W k g s p hk)
  exact ⟨(hc _).trans h.c0, (hc _).trans h.c1, (hc _).trans h.c2, (hc _).trans h.c3⟩
theorem Free4.iterAt {W : World} {g : Nat} (h : Free4 W g) {k : Nat} (hk : g ≠ k) (s : ByteArray) (p : Nat) : Free4 (W.iterAt k s p) g := by
  have hc : ∀ o, (W.iterAt k s p).frozen? ⟨g, o, none⟩ = W.frozen? ⟨g, o, none⟩ := fun o => World.frozen?_of_block (Lib.iterAt_other W k g s p hk)
  exact ⟨(hc _).trans h.f0, (hc _).trans h.f1, (hc _).trans h.f2, (hc _).trans h.f3⟩
theorem PW.far {w W : World} (h : PW w W) {g : Nat} (hg : w.heap.size < g) (o : Nat) (v : Value) : PW w (W.setCell ⟨g, o, none⟩ v) := by
  have far : ∀ b j, g ≠ b → (W.setCell ⟨g, o, none⟩ v).cell? ⟨b, j, none⟩ = W.cell? ⟨b, j, none⟩ := fun b j hne => World.cell?_setCell_far _ _ _ _ hne
  refine ⟨⟨?_, ?_, ?_, ?_, ?_⟩, ⟨?_, ?_, ?_, ?_, ?_⟩, bl_set h.hb (by dsimp only; omega) _⟩
  · rw [far _ _ (by omega)]; exact h.r1.c0
  · rw [far _ _ (by omega)]; exact h.r1.c1
  · rw [far _ _ (by omega)]; exact h.r1.c2
  · rw [far _ _ (by omega)]; exact h.r1.c3
  · rw [far _ _ (by omega)]; exact h.r1.c4
  · rw [World.frozen?_setCell]; exact h.r2.f0
  · rw [World.frozen?_setCell]; exact h.r2.f1
  · rw [World.frozen?_setCell]; exact h.r2.f2
  · rw [World.frozen?_setCell]; exact h.r2.f3
  · rw [World.frozen?_setCell]; exact h.r2.f4

def ParseP (s : ByteArray) (w : World) (e : Ending) (w' : World) : Prop :=
  ∃ (m : Bool) (a b c d er : Int), In4 a b c d ∧ Hid ((er = 0 ∧ m = false ∧ V4 a b c d = decTo s s.size) ∨ (er = 10 ∧ (m = false ∧ a = 0 ∧ b = 0 ∧ c = 0 ∧ d = 0) ∧ M256 ≤ decTo s s.size)) ∧ e = .returned (.tuple #[(.agg #[.bool m, .int .u64 a, .int .u64 b, .int .u64 c, .int .u64 d]), .int .i64 er]) ∧ Below w.heap.size w w'

end Go.Proofs.Ytpockemjfbaheaa
