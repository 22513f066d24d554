/-
  Layer 10: what holds of a right input (ValidRight).
-/
import Derived.Test.YtpjaefcmaiimlaaVFirsts
set_option linter.unusedVariables false
set_option linter.unusedSimpArgs false
set_option linter.deprecated false
namespace Go.Proofs.Ytpjaefcmaiimlaa

theorem right_iff10 {p l i : List Pt} : rightI p l i = true ↔ ChkOk p l i ∧ (flTo p l i 8).k = 0 := by
  unfold rightI
  rw [Bool.and_eq_true, decide_eq_true_eq, checkB_iff]
structure RightOk (p l i : List Pt) : Prop where
  e : loopsE p l i = 0
  ne : (loopsL p l i).length ≠ 0
  n3 : 3 ≤ p.length
  r3 : ∀ R ∈ loopsL p l i, 3 ≤ R.length
  sum : total (loopsL p l i) = l.length
  rng : ∀ k, k < (l ++ i).length → sgInB p.length (pget (l ++ i) k) = true
  ins : ∀ k, k < (l ++ i).length → insideF p l i (pget (l ++ i) k).x (pget (l ++ i) k).y = true
theorem right_ok {p l i : List Pt} (h : rightI p l i = true) : RightOk p l i := by
  obtain ⟨hc, h8⟩ := right_iff10.1 h
  have hz := flTo_zero.1 h8
  have G := good_10 hc (flTo_le h8 (by omega))
  have hr : ringsR (p.length : Int) l = (ringsTo (pr l) p.length p.length, 0, 0) := by
    rcases rings_10 hc (flTo_le h8 (by omega)) with ⟨-, h⟩ | ⟨j, h, -⟩
    · exact h
    · have := hz 4 (by omega)
      rw [h] at this; cases this
  have hL : loopsL p l i = ringsTo (pr l) p.length p.length := by unfold loopsL; rw [if_pos h, hr]
  have hE : loopsE p l i = 0 := by unfold loopsE; rw [if_pos h, hr]
  have U := upto G.net p.length (Nat.le_refl _)
  have hS := back_same G
  have hsum : total (loopsL p l i) = l.length := by
    have := hS.length_eq
    rw [List.length_map, List.length_map, segsF_len] at this
    rw [hL, ← this]
  have hl : l.length ≠ 0 := fun e => by
    have := hz 5 (by omega)
    simp only [chk] at this
    rw [if_pos e] at this; cases this
  have hrow : ∀ R ∈ loopsL p l i, 3 ≤ R.length ∧ 3 ≤ p.length := by
    intro R hR
    rw [hL] at hR
    have hrw := U.rows R hR
    exact ⟨hrw.big, Nat.le_trans hrw.big (nodup_le hrw.nod fun x hx => hrw.inn x hx)⟩
  have hne : (loopsL p l i).length ≠ 0 := fun e => by
    rw [List.length_eq_zero_iff.1 e] at hsum
    exact hl hsum.symm
  have hrng : ∀ k, k < (l ++ i).length → sgInB p.length (pget (l ++ i) k) = true := fun k hk => chk_seg hc hk
  refine ⟨hE, hne, ?_, fun R hR => (hrow R hR).1, hsum, hrng, fun k hk => ?_⟩
  · obtain ⟨R, hR⟩ := List.exists_mem_of_length_pos (Nat.pos_of_ne_zero hne)
    exact (hrow R hR).2
  · obtain ⟨x0, x1, y0, y1⟩ := sgInB_iff.1 (hrng k hk)
    have hxy := shrunk_no (hz 1 (by omega)) hk
    have ht : twoB p (pget (l ++ i) k).x (pget (l ++ i) k).y = true := by
      unfold twoB
      rw [decide_eq_false (by omega), decide_eq_false (by omega), decide_eq_false hxy]; rfl
    have ho : ownB l i (pget (l ++ i) k).x (pget (l ++ i) k).y = true := by
      unfold ownB
      rw [anyN_yes hk (decide_eq_true rfl)]; rfl
    unfold insideF
    rw [h, ht, ho]; rfl
end Go.Proofs.Ytpjaefcmaiimlaa
