/-
  Contract of wide.Text.
-/
import Derived.Test.YtpockemjfbaheaaTen
import Derived.Test.YtpockemjfbaheaaTextMath
import Derived.Test.YtpockemjfbaheaaFold
import Derived.Deep.DeepCutAuto
namespace Go.Proofs.Ytpockemjfbaheaa
open Go.RowKit

/-- the bytes ds from the place 'at' on -/
def BytesAt (W : World) (g at' : Nat) (ds : List Int) : Prop := ∀ i, i < ds.length → W.cell? ⟨g, at' + i, none⟩ = some (.int .u8 (ds.getD i 0))
structure TextW (w : World) (x : Wd) (g : Nat) (at' : Nat) (ds : List Int) (W : World) : Prop where
  a1 : At5 W w.heap.size 0 x
  t1 : ∀ i, i < 79 → ∃ v : Int, W.cell? ⟨g, i, none⟩ = some (.int .u8 v)
  t2 : ∀ i, i < 79 → W.frozen? ⟨g, i, none⟩ = false
  t3 : BytesAt W g at' ds
  hb : Below w.heap.size w W
theorem TextW.lt {w : World} {x : Wd} {g at' : Nat} {ds : List Int} {W : World} (h : TextW w x g at' ds W) : g < W.heap.size := by
  obtain ⟨v, hv⟩ := h.t1 0 (by omega)
  exact cell_lt hv
theorem TextW.below {w : World} {x : Wd} {g at' : Nat} {ds : List Int} {W W' : World} (h : TextW w x g at' ds W) (hb : Below W.heap.size W W') : TextW w x g at' ds W' :=
  ⟨h.a1.below hb h.a1.lt, fun i hi => by
    obtain ⟨v, hv⟩ := h.t1 i hi
    exact ⟨v, (hb.cell (p := ⟨g, i, none⟩) h.lt).trans hv⟩, fun i hi => (hb.frozen (p := ⟨g, i, none⟩) h.lt).trans (h.t2 i hi), fun i hi => (hb.cell (p := ⟨g, _, none⟩) h.lt).trans (h.t3 i hi), bl_trans h.hb hb⟩
theorem TextW.far {w : World} {x : Wd} {g at' : Nat} {ds : List Int} {W : World} (h : TextW w x g at' ds W) {k : Nat} (hk : k ≠ g) (hw : w.heap.size < k) (o : Nat) (v : Value) : TextW w x g at' ds (W.setCell ⟨k, o, none⟩ v) := by
  have far : ∀ b j, k ≠ b → (W.setCell ⟨k, o, none⟩ v).cell? ⟨b, j, none⟩ = W.cell? ⟨b, j, none⟩ := fun b j hne => World.cell?_setCell_far _ _ _ _ hne
  refine ⟨⟨?_, ?_, ?_, ?_, ?_⟩, fun i hi => ?_, fun i hi => (World.frozen?_setCell _ _ _ _).trans (h.t2 i hi), fun i hi => (far _ _ hk).trans (h.t3 i hi), bl_set h.hb (by dsimp only; omega) _⟩
  · rw [far _ _ (by omega)]; exact h.a1.c0
  · rw [far _ _ (by omega)]; exact h.a1.c1
  · rw [far _ _ (by omega)]; exact h.a1.c2
  · rw [far _ _ (by omega)]; exact h.a1.c3
  · rw [far _ _ (by omega)]; exact h.a1.c4
  · obtain ⟨v, hv⟩ := h.t1 i hi
    exact ⟨v, (far _ _ hk).trans hv⟩
theorem TextW.put {w : World} {x : Wd} {g at' : Nat} {ds : List Int} {W : World} (h : TextW w x g (at' + 1) ds W) (hg : w.heap.size < g) (hat : at' < 79) (v : Int) : TextW w x g at' (v :: ds) (W.setCell ⟨g, at', none⟩ (.int .u8 v)) := by
  have far : ∀ b j, g ≠ b → (W.setCell ⟨g, at', none⟩ (.int .u8 v)).cell? ⟨b, j, none⟩ = W.cell? ⟨b, j, none⟩ := fun b j hne => World.cell?_setCell_far _ _ _ _ hne
  have oth : ∀ j, j ≠ at' → (W.setCell ⟨g, at', none⟩ (.int .u8 v)).cell? ⟨g, j, none⟩ = W.cell? ⟨g, j, none⟩ := fun j hne => World.cell?_setCell_other _ _ _ _ (by intro e; injection e with _ e2; exact hne e2.symm)
  obtain ⟨v0, hv0⟩ := h.t1 at' hat
  have same : (W.setCell ⟨g, at', none⟩ (.int .u8 v)).cell? ⟨g, at', none⟩ = some (.int .u8 v) := World.cell?_setCell_same _ _ _ hv0
  refine ⟨⟨?_, ?_, ?_, ?_, ?_⟩, fun i hi => ?_, fun i hi => (World.frozen?_setCell _ _ _ _).trans (h.t2 i hi), fun i hi => ?_, bl_set h.hb (by dsimp only; omega) _⟩
  · rw [far _ _ (by omega)]; exact h.a1.c0
  · rw [far _ _ (by omega)]; exact h.a1.c1
  · rw [far _ _ (by omega)]; exact h.a1.c2
  · rw [far _ _ (by omega)]; exact h.a1.c3
  · rw [far _ _ (by omega)]; exact h.a1.c4
  · by_cases e : i = at'
    · subst e; exact ⟨v, same⟩
    · obtain ⟨v1, hv1⟩ := h.t1 i hi
      exact ⟨v1, (oth i e).trans hv1⟩
  · cases i with
    | zero => simpa using same
    | succ i =>
      rw [oth _ (by omega)]
      have := h.t3 i (by simpa using hi)
      rw [show at' + (i + 1) = at' + 1 + i by omega]
      simpa using this

/-- ahead of a round: the rest, and the digits that are written -/
def TextR (w : World) (x : Wd) (g : Nat) (s4 s5 : Value) (W : World) : Prop :=
  ∃ (at' : Nat) (ds : List Int) (k : Nat) (p q r s : Int), s4 = .int .i64 at' ∧ s5 = .pointer (some ⟨k, 0, none⟩) ∧ In4 p q r s ∧ At4 W k p q r s ∧ Free4 W k ∧ k ≠ g ∧ w.heap.size < k ∧ TextW w x g at' ds W ∧
    ds.length + at' = 79 ∧ digs 80 (V4 x.a x.b x.c x.d).toNat = digs 80 (V4 p q r s).toNat ++ ds ∧ (digs 80 (V4 p q r s).toNat).length + 1 ≤ at'

theorem text_step {V S dg : Int} (hV : 0 ≤ V ∧ V < M256) (hS : 0 ≤ S ∧ S < M256) (h0 : V ≠ 0) (h : V = S * 10 + dg ∧ 0 ≤ dg ∧ dg < 10) : digs 80 V.toNat = digs 80 S.toNat ++ [48 + dg] ∧ True := by
  refine ⟨?_, trivial⟩
  have h78 := m256_lt
  have hlt : V.toNat < 10 ^ 79 := by
    have h1 : ((V.toNat : Nat) : Int) < 10 ^ 78 := by omega
    have h2 : V.toNat < 10 ^ 78 := by exact_mod_cast h1
    omega
  rw [digs_step V.toNat (by omega) hlt, show V.toNat / 10 = S.toNat by omega, show ((V.toNat % 10 : Nat) : Int) = dg by omega]

theorem text_pos {V : Int} {ds : List Int} {n : Nat} (hV : 0 ≤ V ∧ V < M256) (h0 : V ≠ 0) (h : digs 80 V.toNat = ds) (hl : ds.length + n = 79) : n < 79 := by
  have h78 := m256_lt
  have hlt : V.toNat < 10 ^ 79 := by
    have h1 : ((V.toNat : Nat) : Int) < 10 ^ 78 := by omega
    have h2 : V.toNat < 10 ^ 78 := by exact_mod_cast h1
    omega
  rw [digs_step V.toNat (by omega) hlt] at h
  rw [← h] at hl
  simp at hl
  omega

def TextP (m : Bool) (V : Int) (w : World) (e : Ending) (w' : World) : Prop := e = .returned (.string (strOfNums (textOf m V.toNat))) ∧ Below w.heap.size w w'

end Go.Proofs.Ytpockemjfbaheaa
