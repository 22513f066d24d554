/-
  A number by the document's Of, and back by its Wide: the number itself, its sign struck where it is nought.
-/
import Derived.Test.YtkidphekfnmhhaaRefWide
namespace Go.Proofs.Ytkidphekfnmhhaa
open Go.RowKit

/-- digit j of a number -/
def dgt (a b c d : Int) (j : Nat) : Int := (dsOf a b c d 16).getD j 0
theorem dgt_in (a b c d : Int) (j : Nat) (h : j < 16) : dgt a b c d j = dsF a b c d j := by
  unfold dgt dsOf
  rw [List.getD_eq_getElem?_getD, List.getElem?_map, List.getElem?_range h]; rfl
theorem dgt_out (a b c d : Int) (j : Nat) (h : 16 ≤ j) : dgt a b c d j = 0 := by
  unfold dgt dsOf
  rw [List.getD_eq_getElem?_getD, List.getElem?_eq_none (by simp; omega)]; rfl
theorem dgt_bound (a b c d : Int) (j : Nat) : 0 ≤ dgt a b c d j ∧ dgt a b c d j < 65536 := by
  rcases Nat.lt_or_ge j 16 with h | h
  · rw [dgt_in a b c d j h]; unfold dsF
    exact ⟨Int.emod_nonneg _ (by omega), Int.emod_lt_of_pos _ (by omega)⟩
  · rw [dgt_out a b c d j h]; omega
theorem dgt_at (a b c d : Int) (q t : Nat) (hq : q < 4) (ht : t < 4) : dgt a b c d (4 * q + t) = lim a b c d q / 65536 ^ t % 65536 := by
  rw [dgt_in _ _ _ _ _ (by omega)]; unfold dsF
  rw [show (4 * q + t) / 4 = q by omega, show (4 * q + t) % 4 = t by omega]
theorem LW_dgt (a b c d : Int) (q : Nat) (hq : q < 4) (h : In1 (lim a b c d q)) : LW (dgt a b c d) 0 q = lim a b c d q := by
  unfold In1 at h
  unfold LW
  rw [show kq 0 q = 4 by unfold kq; omega]
  simp only [hz]
  rw [dgt_at _ _ _ _ q _ hq (by omega), dgt_at _ _ _ _ q _ hq (by omega), dgt_at _ _ _ _ q _ hq (by omega), dgt_at _ _ _ _ q _ hq (by omega)]
  simp only [Nat.sub_zero, Nat.reduceSub, show (65536 : Int) ^ 3 = 281474976710656 from rfl, show (65536 : Int) ^ 2 = 4294967296 from rfl, show (65536 : Int) ^ 1 = 65536 from rfl, show (65536 : Int) ^ 0 = 1 from rfl]
  omega
theorem trim_zero (a b c d : Int) (hA : In4 a b c d) (n : Nat) (hn : TrimAt (dsOf a b c d 16) n) : (∀ j, n ≤ j → dgt a b c d j = 0) ∧ (0 < n ↔ V4 a b c d ≠ 0) := by
  obtain ⟨h1, h2, h3⟩ := hn
  rw [dsOf_len] at h1 h2
  have hz' : ∀ j, n ≤ j → dgt a b c d j = 0 := fun j hj => by
    rcases Nat.lt_or_ge j 16 with h | h
    · exact h2 j hj h
    · exact dgt_out _ _ _ _ _ h
  refine ⟨hz', ?_⟩
  obtain ⟨i0, i1, i2, i3⟩ := hA
  have l0 := LW_dgt a b c d 0 (by omega) i0
  have l1 := LW_dgt a b c d 1 (by omega) i1
  have l2 := LW_dgt a b c d 2 (by omega) i2
  have l3 := LW_dgt a b c d 3 (by omega) i3
  constructor
  · intro hp hv
    have := (v4_zero ⟨i0, i1, i2, i3⟩).1 hv
    obtain ⟨rfl, rfl, rfl, rfl⟩ := this
    rcases h3 with h | h
    · omega
    · apply h
      have e : dgt 0 0 0 0 (n - 1) = 0 := by
        rw [dgt_in _ _ _ _ _ (by omega)]; unfold dsF lim
        have : (n - 1) / 4 = 0 ∨ (n - 1) / 4 = 1 ∨ (n - 1) / 4 = 2 ∨ (n - 1) / 4 = 3 := by omega
        rcases this with h | h | h | h <;> rw [h] <;> simp
      exact e
  · intro hv
    rcases Nat.eq_zero_or_pos n with h | h
    · subst h
      exfalso; apply hv
      rw [LW_start _ 0 _ hz'] at l0 l1 l2 l3
      exact (v4_zero ⟨i0, i1, i2, i3⟩).2 ⟨l0.symm, l1.symm, l2.symm, l3.symm⟩
    · exact h

/-- a Num that lies in memory: its sign, its digits -/
def NumAt (v : Value) (m : Bool) (f : Nat → Int) (W : World) : Prop :=
  ∃ n g cap : Nat, v = .agg #[.bool m, .slice (some ⟨g, 0, none⟩) n cap] ∧ n ≤ 16 ∧ n ≤ cap ∧ cap ≤ 9223372036854775807 ∧ g < W.heap.size ∧ Hid ((∀ t, 0 ≤ f t ∧ f t < 65536) ∧ ∀ j, n ≤ j → f j = 0) ∧ Hid (∀ j, j < n → W.cell? ⟨g, j, none⟩ = some (.int .i64 (f j)))
theorem NumAt.below {v : Value} {m : Bool} {f : Nat → Int} {W W' : World} (h : NumAt v m f W) (hb : Below W.heap.size W W') : NumAt v m f W' := by
  obtain ⟨n, g, cap, e, h1, h2, h3, h4, h5, h6⟩ := h
  exact ⟨n, g, cap, e, h1, h2, h3, Nat.lt_of_lt_of_le h4 hb.size, h5, fun j hj => (hb.cell (by exact h4)).trans (h6.out j hj)⟩

end Go.Proofs.Ytkidphekfnmhhaa
