/-
  Plain mathematics of WithinBoth: two loops together.
-/
import Derived.Test.YtkidphekfnmhhaaWWaysMath
namespace Go.Proofs.Ytkidphekfnmhhaa

def shiftL (n : Nat) (l : List Pt) : List Pt := l.map fun s => ⟨s.x + (n : Int), s.y + (n : Int)⟩
def bothL (n m : Nat) : List Pt := ringL n ++ shiftL n (ringL m)
theorem bothL_len (n m : Nat) : (bothL n m).length = n + m := by unfold bothL shiftL; rw [List.length_append, List.length_map, ringL_len, ringL_len]
theorem bothL_lo {n m i : Nat} (h : i < n) : pget (bothL n m) i = pget (ringL n) i := by
  unfold bothL pget
  rw [List.getD_eq_getElem?_getD, List.getD_eq_getElem?_getD, List.getElem?_append_left (by rw [ringL_len]; exact h)]
theorem bothL_hi {n m i : Nat} (h : i < m) : pget (bothL n m) (n + i) = ⟨((n + i : Nat) : Int), ((n + (i + 1) % m : Nat) : Int)⟩ := by
  have h2 : pget (bothL n m) (n + i) = pget (shiftL n (ringL m)) i := by
    unfold bothL pget
    rw [List.getD_eq_getElem?_getD, List.getD_eq_getElem?_getD, List.getElem?_append_right (by rw [ringL_len]; omega), ringL_len, Nat.add_sub_cancel_left]
  rw [h2]
  unfold shiftL
  rw [pget_map _ (by rw [ringL_len]; exact h), ringL_at h]
  refine Pt.ext' ?_ ?_
  · dsimp only; omega
  · dsimp only; omega
theorem pget_take9 {p : List Pt} {n i : Nat} (h : i < n) : pget (p.take n) i = pget p i := by
  unfold pget
  rw [List.getD_eq_getElem?_getD, List.getD_eq_getElem?_getD, List.getElem?_take, if_pos h]
theorem pget_drop9 (p : List Pt) (n i : Nat) : pget (p.drop n) i = pget p (n + i) := by
  unfold pget
  rw [List.getD_eq_getElem?_getD, List.getD_eq_getElem?_getD, List.getElem?_drop]
theorem both_proper {p : List Pt} {n m : Nat} (hp : p.length = n + m) : properL p (bothL n m) = true ↔ properL (p.take n) (ringL n) = true ∧ properL (p.drop n) (ringL m) = true := by
  rw [ring_proper (by rw [List.length_take]; omega), ring_proper (by rw [List.length_drop]; omega), proper_iff, bothL_len]
  have hmn : ∀ {i}, i < n → (i + 1) % n < n := fun hi => Nat.mod_lt _ (by omega)
  have hmm : ∀ {i}, i < m → (i + 1) % m < m := fun hi => Nat.mod_lt _ (by omega)
  have hk : ∀ j : Nat, j < n + m → (knownB p (j : Int) = true ↔ fitB (pget p j) = true) := fun j hj => by
    rw [known_iff, ptI_nat]
    exact ⟨fun h => h.2.2, fun h => ⟨by omega, by omega, h⟩⟩
  constructor
  · intro h
    refine ⟨fun i hi => ?_, fun i hi => ?_⟩
    · have := h i (by omega)
      rw [bothL_lo hi] at this
      rw [pget_take9 hi, pget_take9 (hmn hi)]
      exact (ring_ok p (by omega) hi).1 this
    · have := h (n + i) (by omega)
      rw [bothL_hi hi, ok9_iff] at this
      dsimp only at this
      rw [hk _ (by omega), hk _ (by have := hmm hi; omega), ptI_nat, ptI_nat] at this
      rw [pget_drop9, pget_drop9]
      exact this
  · rintro ⟨h1, h2⟩ i hi
    rcases Nat.lt_or_ge i n with hl | hl
    · rw [bothL_lo hl]
      have := h1 i hl
      rw [pget_take9 hl, pget_take9 (hmn hl)] at this
      exact (ring_ok p (by omega) hl).2 this
    · obtain ⟨j, rfl⟩ := Nat.exists_eq_add_of_le hl
      have hj : j < m := by omega
      rw [bothL_hi hj, ok9_iff]
      dsimp only
      rw [hk _ (by omega), hk _ (by have := hmm hj; omega), ptI_nat, ptI_nat]
      have := h2 j hj
      rw [pget_drop9, pget_drop9] at this
      exact this
/-- two numbers of where, and both together's -/
def BothOk (x e y f z g : Int) : Prop := (e ≠ 0 ∨ f ≠ 0) ∧ (g = 2 ∧ z = 0) ∨ (e = 0 ∧ f = 0 ∧ (x = 0 ∨ y = 0) ∧ g = 0 ∧ z = 0) ∨ (e = 0 ∧ f = 0 ∧ x ≠ 0 ∧ y ≠ 0 ∧ g = 0 ∧ ((x ≠ y ∧ z = 1) ∨ (x = y ∧ z = -1)))
theorem both_ok {p : List Pt} {n m : Nat} (hp : p.length = n + m) (q : Pt) :
    BothOk (atN 1 (p.take n) (ringL n) q) (atE 1 (p.take n) (ringL n) q) (atN 1 (p.drop n) (ringL m) q) (atE 1 (p.drop n) (ringL m) q) (atN 1 p (bothL n m) q) (atE 1 p (bothL n m) q) := by
  have hb := both_proper hp
  have key : whereZ 1 p (bothL n m) q = if (anyN (fun i => onB (loopE (pget (p.take n)) n i).1 (loopE (pget (p.take n)) n i).2 q) n || anyN (fun i => onB (loopE (pget (p.drop n)) m i).1 (loopE (pget (p.drop n)) m i).2 q) m) = true then 0 else if (xorN (fun i => rightB (loopE (pget (p.take n)) n i).1 (loopE (pget (p.take n)) n i).2 q) n != xorN (fun i => rightB (loopE (pget (p.drop n)) m i).1 (loopE (pget (p.drop n)) m i).2 q) m) = true then 1 else -1 := by
    unfold whereZ whereN
    rw [bothL_len, anyN_add, xorN_add]
    have e1 : ∀ i, i < n → endsOf 1 p (bothL n m) i = loopE (pget (p.take n)) n i := fun i hi => by
      unfold endsOf loopE
      rw [bothL_lo hi, ringL_at hi]
      dsimp only
      rw [ptI_nat, ptI_nat, scale_one, scale_one, pget_take9 hi, pget_take9 (Nat.mod_lt _ (by omega))]
    have e2 : ∀ i, i < m → endsOf 1 p (bothL n m) (n + i) = loopE (pget (p.drop n)) m i := fun i hi => by
      unfold endsOf loopE
      rw [bothL_hi hi]
      dsimp only
      rw [ptI_nat, ptI_nat, scale_one, scale_one, pget_drop9, pget_drop9]
    rw [anyN_congr fun i hi => by rw [e1 i hi], anyN_congr (n := m) fun i hi => by rw [e2 i hi], xorN_congr (n := n) fun i hi => by rw [e1 i hi], xorN_congr (n := m) fun i hi => by rw [e2 i hi]]
  unfold atN atE
  rw [atB_one, atB_one, atB_one]
  cases hq : fitB q
  · left
    simp
  cases h1 : properL (p.take n) (ringL n)
  · have h3 : properL p (bothL n m) = false := by
      rw [Bool.eq_false_iff]; intro h; have := (hb.1 h).1; rw [h1] at this; cases this
    rw [h3]
    left; simp
  cases h2 : properL (p.drop n) (ringL m)
  · have h3 : properL p (bothL n m) = false := by
      rw [Bool.eq_false_iff]; intro h; have := (hb.1 h).2; rw [h2] at this; cases this
    rw [h3]
    left; simp
  rw [hb.2 ⟨h1, h2⟩, key, ring_where, ring_where]
  unfold whereN
  generalize anyN (fun i => onB (loopE (pget (p.take n)) n i).1 (loopE (pget (p.take n)) n i).2 q) n = a1
  generalize anyN (fun i => onB (loopE (pget (p.drop n)) m i).1 (loopE (pget (p.drop n)) m i).2 q) m = a2
  generalize xorN (fun i => rightB (loopE (pget (p.take n)) n i).1 (loopE (pget (p.take n)) n i).2 q) n = o1
  generalize xorN (fun i => rightB (loopE (pget (p.drop n)) m i).1 (loopE (pget (p.drop n)) m i).2 q) m = o2
  unfold BothOk
  cases a1 <;> cases a2 <;> cases o1 <;> cases o2 <;> simp
end Go.Proofs.Ytkidphekfnmhhaa
