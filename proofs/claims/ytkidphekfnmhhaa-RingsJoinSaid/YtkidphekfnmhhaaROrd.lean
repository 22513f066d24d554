/-
  The law RingsOrder.
-/
import Derived.Test.YtkidphekfnmhhaaRKnown
import Derived.Test.YtkidphekfnmhhaaROrdMath
namespace Go.Proofs.Ytkidphekfnmhhaa
open Go.RowKit

/-- bools of a row, in memory -/
def BoolRow (W : World) (ad : Option Addr) (F : List Bool) : Prop := ∀ i (h : i < F.length), ∃ g o, ad = some ⟨g, o, none⟩ ∧ W.cell? ⟨g, o + i, none⟩ = some (.bool F[i])
theorem BoolRow.below {W W' : World} {ad : Option Addr} {F : List Bool} (h : BoolRow W ad F) (hb : Below W.heap.size W W') : BoolRow W' ad F := by
  intro i hi
  obtain ⟨g, o, e, h1⟩ := h i hi
  exact ⟨g, o, e, (hb.cell (cell_lt h1)).trans h1⟩
theorem u64modn (z : Int) (n : Nat) (h1 : 0 < n) (hn : n ≤ 100000) : ∃ r : Nat, r < n ∧ wrap64 ((IntKind.u64.wrap z).tmod (n : Int)) = (r : Int) := by
  have h0 : 0 ≤ IntKind.u64.wrap z := by rw [IntKind.wrap_u64]; exact Int.emod_nonneg _ (by omega)
  generalize IntKind.u64.wrap z = y at *
  rw [Int.tmod_eq_emod_of_nonneg h0]
  have h3 := Int.emod_nonneg y (show (n : Int) ≠ 0 by omega)
  have h4 := Int.emod_lt_of_pos y (show 0 < (n : Int) by omega)
  generalize y % (n : Int) = r at *
  exact ⟨r.toNat, by omega, by unfold wrap64; omega⟩
theorem wsum {i k : Nat} (hi : i ≤ 100000) (hk : k ≤ 100000) : wrap64 ((i : Int) + (k : Int)) = (i : Int) + (k : Int) ∧ IntKind.i64.wrap ((i : Int) + (k : Int)) = (i : Int) + (k : Int) :=
  ⟨by unfold wrap64; omega, IntWalk.i64_in _ (by omega)⟩
theorem rot_is {l : List Pt} {k : Nat} (h : k < l.length) : ((List.range l.length).map fun j : Nat => pget l ((j + k) % l.length)) = l.drop k ++ l.take k := by
  apply List.ext_getElem
  · simp; omega
  intro i h1 h2
  have hi : i < l.length := by simpa using h1
  simp only [List.getElem_map, List.getElem_range]
  rcases Nat.lt_or_ge (i + k) l.length with hl | hl
  · rw [Nat.mod_eq_of_lt hl, List.getElem_append_left (by rw [List.length_drop]; omega), List.getElem_drop]
    unfold pget
    simp only [List.getD_eq_getElem?_getD, List.getElem?_eq_getElem hl, Option.getD_some]
    congr 1
    omega
  · have e : (i + k) % l.length = i + k - l.length := by
      rw [Nat.mod_eq_sub_mod hl, Nat.mod_eq_of_lt (by omega)]
    rw [e, List.getElem_append_right (by rw [List.length_drop]; omega), List.getElem_take]
    unfold pget
    simp only [List.getD_eq_getElem?_getD, List.getElem?_eq_getElem (show i + k - l.length < l.length by omega), Option.getD_some]
    congr 1
    rw [List.length_drop]
    omega
theorem rot_same {l m : List Pt} {k : Nat} (h : k < l.length) (hm : m.map norm = (List.range l.length).map fun j : Nat => norm (pget l ((j + k) % l.length))) : SameSegs l m := by
  unfold SameSegs
  have e : m.map norm = (l.drop k ++ l.take k).map norm := by rw [hm, ← rot_is h, List.map_map]; rfl
  rw [e]
  refine List.Perm.map _ ?_
  have := List.perm_append_comm (l₁ := l.drop k) (l₂ := l.take k)
  exact (by rw [List.take_append_drop] at this; exact this.symm)
theorem rings_size {n : Int} {l : List Pt} {L : List (List Int)} {x e : Int} (h : ringsR n l = (L, x, e)) (hn : n ≤ 10000) : L.length ≤ 10000 ∧ ∀ R ∈ L, R.length ≤ 10000 := by
  by_cases ho : okL n l
  · by_cases ha : againF l < 0
    · by_cases hf : forkF n.toNat l < 0
      · rw [ringsR_ok ho ha hf] at h
        obtain ⟨k, rfl⟩ := Int.eq_ofNat_of_zero_le ho.1
        rw [Int.toNat_natCast] at *
        injection h with h1 h2
        subst h1
        have g1 := good_of ho ha hf
        refine ⟨Nat.le_trans (ringsTo_len _ _ _) (by omega), ?_⟩
        have key : ∀ m, m ≤ k → ∀ R ∈ ringsTo (pr l) k m, R.length ≤ 10000 := by
          intro m
          induction m with
          | zero => intro _ R hR; simp [ringsTo] at hR
          | succ m ih =>
            intro hm R hR
            rw [ringsTo] at hR
            split at hR
            · exact ih (by omega) R hR
            · next hc =>
              rcases List.mem_append.1 hR with h3 | h3
              · exact ih (by omega) R h3
              · simp at h3
                subst h3
                refine Nat.le_trans (ring_len g1.net (by omega) (by omega) ?_) (by omega)
                intro e2
                exact hc (by rw [decide_eq_true e2]; simp)
        exact key k (Nat.le_refl _)
      · rw [ringsR_fork ho ha (by omega)] at h
        injection h with h1 h2
        subst h1
        simp
    · rw [ringsR_twice ho (by omega)] at h
      injection h with h1 h2
      subst h1
      simp
  · rw [ringsR_arg ho] at h
    injection h with h1 h2
    subst h1
    simp
theorem norm_swap (x y : Int) : norm ⟨y, x⟩ = norm ⟨x, y⟩ := norm_eq.2 (.inr ⟨rfl, rfl⟩)
end Go.Proofs.Ytkidphekfnmhhaa
