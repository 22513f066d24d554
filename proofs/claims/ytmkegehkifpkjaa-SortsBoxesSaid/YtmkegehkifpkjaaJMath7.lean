/-
  Rows of places in their order, merged; ranks of places twice.
-/
import Derived.Test.YtmkegehkifpkjaaRankMath
namespace Go.Proofs.Ytmkegehkifpkjaa

/-- no place is less than one ahead of it -/
def NoLess (a b : Pt) : Prop := lessP b a = false
theorem noLess_trans {a b c : Pt} (h : NoLess a b) (k : NoLess b c) : NoLess a c := by
  unfold NoLess at *
  rw [lessP_no] at *
  omega
theorem noLess_of {a b : Pt} (h : lessP a b = true) : NoLess a b := lessP_anti h
theorem mrg_noLess : ∀ xs ys : List Pt, xs.Pairwise NoLess → ys.Pairwise NoLess → (mrgW lessP xs ys).Pairwise NoLess
  | [], ys, _, h => by rw [mrgW]; exact h
  | x :: xs, [], h, _ => by rw [mrgW]; exact h
  | x :: xs, y :: ys, h1, h2 => by
    have k1 := List.pairwise_cons.1 h1
    have k2 := List.pairwise_cons.1 h2
    cases e : lessP y x with
    | true =>
      rw [mrgW_b e, List.pairwise_cons]
      refine ⟨fun z hz => ?_, mrg_noLess (x :: xs) ys h1 k2.2⟩
      rcases List.mem_append.1 ((mrgW_perm _ _ _).mem_iff.1 hz) with hz | hz
      · rcases List.mem_cons.1 hz with rfl | hz
        · exact noLess_of e
        · exact noLess_trans (noLess_of e) (k1.1 z hz)
      · exact k2.1 z hz
    | false =>
      rw [mrgW_a e, List.pairwise_cons]
      refine ⟨fun z hz => ?_, mrg_noLess xs (y :: ys) k1.2 h2⟩
      rcases List.mem_append.1 ((mrgW_perm _ _ _).mem_iff.1 hz) with hz | hz
      · exact k1.1 z hz
      · rcases List.mem_cons.1 hz with rfl | hz
        · exact e
        · exact noLess_trans e (k2.1 z hz)
termination_by xs ys => xs.length + ys.length
theorem msort_noLess (l : List Pt) : (msort lessP l).Pairwise NoLess := by
  induction l using msort_ind with
  | h1 l hl =>
    rw [msort_small _ hl]
    match l, hl with
    | [], _ => exact List.Pairwise.nil
    | [a], _ => exact List.pairwise_singleton _ _
  | h2 l hl a b =>
    rw [msort_half _ hl]
    exact mrg_noLess _ _ a b
theorem map_idx (p : List Pt) : (idx p.length).map (pg p) = p := by
  apply List.ext_getElem
  · rw [List.length_map, idx_len]
  · intro i h1 h2
    rw [List.getElem_map]
    have : (idx p.length)[i]'(by rw [idx_len]; exact h2) = (i : Int) := by simp [idx]
    rw [this]
    unfold pg pget
    rw [Int.toNat_natCast]
    simp [List.getD, h2]
/-- two rows in their order, merged, are both rows together in their order -/
theorem joined_rows (p q : List Pt) : mrgW lessP (msort lessP p) (msort lessP q) = (msort (ltI (p ++ q)) (idx (p ++ q).length)).map (pg (p ++ q)) := by
  have ho := ordered_msort (p ++ q)
  refine only_row (r := NoLess) (fun a b h k => lessP_tri k h) ?_ (mrg_noLess _ _ (msort_noLess _) (msort_noLess _)) ?_
  · refine ((mrgW_perm _ _ _).trans ((msort_perm _ _).append (msort_perm _ _))).trans ?_
    have := ho.all.map (pg (p ++ q))
    rw [map_idx] at this
    exact this.symm
  · rw [List.pairwise_map]
    refine ho.rise.imp (fun {i k} h => ?_)
    exact ahead_no h
theorem pget_app1 (p q : List Pt) {i : Nat} (h : i < p.length) : pget (p ++ q) i = pget p i := by
  unfold pget
  simp [List.getD, List.getElem?_append_left h]
theorem pget_app2 (p q : List Pt) {i : Nat} (h : p.length ≤ i) : pget (p ++ q) i = pget q (i - p.length) := by
  unfold pget
  simp [List.getD, List.getElem?_append_right h]
theorem firstP_app1 (p q : List Pt) {k : Nat} (h : k < p.length) : firstP (p ++ q) k = firstP p k := by
  rw [Bool.eq_iff_iff, firstP_iff, firstP_iff]
  rw [pget_app1 _ _ h]
  constructor
  · intro a j hj
    have := a j hj
    rw [pget_app1 _ _ (by omega)] at this
    exact this
  · intro a j hj
    rw [pget_app1 _ _ (by omega)]
    exact a j hj
theorem firstP_twice (p : List Pt) {k : Nat} (h : p.length ≤ k) (h2 : k < p.length + p.length) : firstP (p ++ p) k = false := by
  rw [Bool.eq_false_iff]
  intro a
  have := firstP_iff.1 a (k - p.length) (by omega)
  rw [pget_app1 _ _ (by omega), pget_app2 _ _ h] at this
  exact this rfl
theorem rkTo_twice1 (p : List Pt) (q : Pt) : ∀ n, n ≤ p.length → rkTo (p ++ p) q n = rkTo p q n
  | 0, _ => rfl
  | n + 1, h => by rw [rkTo_step, rkTo_step, rkTo_twice1 p q n (by omega), pget_app1 _ _ (by omega), firstP_app1 _ _ (by omega)]
theorem rkTo_twice2 (p : List Pt) (q : Pt) : ∀ n, n ≤ p.length → rkTo (p ++ p) q (p.length + n) = rkTo p q p.length
  | 0, _ => rkTo_twice1 p q _ (Nat.le_refl _)
  | n + 1, h => by
    rw [← Nat.add_assoc, rkTo_step, rkTo_twice2 p q n (by omega), firstP_twice p (by omega) (by omega), Bool.and_false]
    rfl
theorem rk_twice (p : List Pt) (q : Pt) : rk (p ++ p) q = rk p q := by
  unfold rk
  rw [List.length_append]
  exact rkTo_twice2 p q _ (Nat.le_refl _)
theorem ranks_twice (p : List Pt) : ranksM (p ++ p) = ranksM p ++ ranksM p := by
  apply List.ext_getElem
  · rw [List.length_append, ranksM_len, ranksM_len, List.length_append]
  · intro i h1 h2
    have h1' : i < p.length + p.length := by rw [ranksM_len, List.length_append] at h1; exact h1
    rw [ranksM_at _ (by rw [List.length_append]; exact h1'), rk_twice]
    rcases Nat.lt_or_ge i p.length with h | h
    · rw [List.getElem_append_left (by rw [ranksM_len]; exact h), ranksM_at _ h, pget_app1 _ _ h]
    · rw [List.getElem_append_right (by rw [ranksM_len]; exact h), pget_app2 _ _ h]
      have : (ranksM p)[i - p.length]'(by rw [ranksM_len]; omega) = ((rk p (pget p (i - p.length)) : Nat) : Int) := ranksM_at _ (by omega)
      simp only [ranksM_len]
      exact this.symm
end Go.Proofs.Ytmkegehkifpkjaa
