/-
  The plain mathematics of RingsOrder: the same segments, in another order, from the other end.
-/
import Derived.Test.YtpjaefcmaiimlaaRMaths
import Derived.Test.YtpjaefcmaiimlaaRLoopsAll
set_option linter.unusedVariables false
set_option linter.unusedSimpArgs false
set_option linter.deprecated false
namespace Go.Proofs.Ytpjaefcmaiimlaa

/-- the same segments -/
def SameSegs (l m : List Pt) : Prop := (l.map norm).Perm (m.map norm)
theorem okS_norm {n : Int} {s : Pt} : okS n (norm s) ↔ okS n s := by unfold okS norm; dsimp only; omega
theorem SameSegs.symm {l m : List Pt} (h : SameSegs l m) : SameSegs m l := List.Perm.symm h
theorem SameSegs.okl {l m : List Pt} {n : Int} (h : SameSegs l m) (hl : okL n l) : okL n m := by
  refine ⟨hl.1, hl.2.1, fun s hs => ?_⟩
  have h1 : norm s ∈ l.map norm := (List.Perm.mem_iff h).2 (List.mem_map.2 ⟨s, hs, rfl⟩)
  obtain ⟨t, ht, e⟩ := List.mem_map.1 h1
  rw [← okS_norm, ← e, okS_norm]
  exact hl.2.2 t ht
theorem SameSegs.mem {l m : List Pt} (h : SameSegs l m) {p q : Int} (hq : q ∈ nbs l p) : q ∈ nbs m p := by
  obtain ⟨s, hs, k⟩ := mem_nbs.1 hq
  have h1 : norm s ∈ m.map norm := (List.Perm.mem_iff h).1 (List.mem_map.2 ⟨s, hs, rfl⟩)
  obtain ⟨t, ht, e⟩ := List.mem_map.1 h1
  refine mem_nbs.2 ⟨t, ht, ?_⟩
  rcases norm_eq.1 e with ⟨a, b⟩ | ⟨a, b⟩
  · rw [a, b]; exact k
  · rw [a, b]; exact k.symm
def nbN (s : Pt) (p : Int) : Nat := (nb1 s p).length
theorem nbN_norm (s : Pt) (p : Int) : nbN (norm s) p = nbN s p := by
  unfold nbN nb1 norm
  dsimp only
  rcases Int.le_total s.x s.y with h | h
  · rw [Int.min_eq_left h, Int.max_eq_right h]
  · rw [Int.min_eq_right h, Int.max_eq_left h]
    by_cases h1 : s.x = p <;> by_cases h2 : s.y = p <;> simp [h1, h2]
theorem deg_sum : ∀ (l : List Pt) (p : Int), deg l p = ((l.map norm).map fun s => nbN s p).sum
  | [], p => rfl
  | s :: l, p => by
    have := deg_sum l p
    unfold deg at *
    rw [nbs_cons, List.length_append, this, List.map_cons, List.map_cons, List.sum_cons, nbN_norm]
    rfl
theorem SameSegs.dg {l m : List Pt} (h : SameSegs l m) (p : Int) : deg l p = deg m p := by
  rw [deg_sum, deg_sum]
  exact (List.Perm.map _ h).sum_nat
theorem SameSegs.nodup {l m : List Pt} (h : SameSegs l m) (hn : (l.map norm).Nodup) : (m.map norm).Nodup := h.nodup_iff.1 hn
theorem again_neg {l : List Pt} : againF l < 0 ↔ (l.map norm).Nodup := by
  constructor
  · intro h
    refine nodup_norm ?_
    rcases firstN_cases (seenB l) l.length with ⟨-, k⟩ | ⟨k, -, e, -⟩
    · exact k
    · unfold againF at h; omega
  · intro h
    have : againF l = -1 := firstN_no fun i hi => seen_of_not h hi
    omega
theorem SameSegs.again {l m : List Pt} (h : SameSegs l m) : (againF l < 0) ↔ (againF m < 0) := by rw [again_neg, again_neg]; exact h.nodup_iff
theorem SameSegs.fork {l m : List Pt} (h : SameSegs l m) (n : Nat) : forkF n l = forkF n m := by
  unfold forkF
  refine firstN_congr fun i _ => ?_
  unfold forkB
  rw [h.dg]
/-- neighbours alike, or the other way round -/
def Swap (K M : Int → Pt) (n : Int) : Prop := ∀ p, 0 ≤ p → p < n → M p = K p ∨ M p = ⟨(K p).y, (K p).x⟩
theorem two_perm {a b c d : Int} (h : ∀ q, q ∈ [a, b] → q ∈ [c, d]) (h3 : a ≠ b) : (c = a ∧ d = b) ∨ (c = b ∧ d = a) := by
  have h4 := h a (by simp)
  have h5 := h b (by simp)
  simp at h4 h5
  omega
theorem SameSegs.swap {l m : List Pt} {n : Nat} (h : SameSegs l m) (hl : Good n l) (hm : Good n m) : Swap (pr l) (pr m) (n : Int) := by
  intro p h0 h1
  rcases hl.cases h0 h1 with ⟨e, -⟩ | ⟨e, ne⟩
  · have e2 : nbs m p = [] := List.eq_nil_iff_forall_not_mem.2 fun q hq => by
      have := h.symm.mem hq
      rw [e] at this
      cases this
    rw [pr_nil e, pr_nil e2]
    exact .inl rfl
  · rcases hm.cases h0 h1 with ⟨e2, -⟩ | ⟨e2, ne2⟩
    · have : (pr l p).x ∈ nbs m p := h.mem (by rw [e]; simp)
      rw [e2] at this
      cases this
    · have := two_perm (a := (pr l p).x) (b := (pr l p).y) (c := (pr m p).x) (d := (pr m p).y) (fun q hq => by rw [← e2]; exact h.mem (by rw [e]; exact hq)) ne
      rcases this with ⟨a, b⟩ | ⟨a, b⟩
      · exact .inl (Pt.ext' a b)
      · exact .inr (Pt.ext' a b)
theorem Swap.next {K M : Int → Pt} {n : Int} (h : Swap K M n) {b p : Int} (h0 : 0 ≤ p) (h1 : p < n) (hb : b = (K p).x ∨ b = (K p).y) : nextF M b p = nextF K b p := by
  unfold nextF
  rcases h p h0 h1 with e | e <;> rw [e]
  dsimp only
  rcases hb with e | e
  · rw [if_pos e.symm]
    split
    · next e2 => rw [e2, ← e]
    · rfl
  · rw [if_pos e.symm]
    split
    · next e2 => rw [← e, e2]
    · rfl
theorem Swap.loop {K M : Int → Pt} {n : Nat} {f : Int} (h : Swap K M (n : Int)) (N : Net K (n : Int)) : ∀ (k : Nat) (R : List Int) (b p c : Int), Way K (n : Int) f R b p c → loopF M f k b p = loopF K f k b p
  | 0, _, _, _, _, _ => rfl
  | k + 1, R, b, p, c, hw => by
    by_cases hp : p = f
    · subst hp
      rw [loopF_end, loopF_end]
    · have hi := hw.inn b hw.hb
      have hq := N b hi.1 hi.2.1 hi.2.2 p hw.hp
      rw [loopF_step hp, loopF_step hp, h.next hq.1 hq.2.1 hq.2.2.2.2, Swap.loop h N k _ _ _ _ (hw.step N hp)]
theorem Swap.ring {K M : Int → Pt} {n : Nat} {f : Int} (h : Swap K M (n : Int)) (N : Net K (n : Int)) (h0 : 0 ≤ f) (h1 : f < (n : Int)) (h2 : (K f).x ≠ (K f).y) : ringF M n f = ringF K n f := by
  have hm : min (M f).x (M f).y = min (K f).x (K f).y := by
    rcases h f h0 h1 with e | e <;> rw [e]
    exact Int.min_comm _ _
  have hp : min (K f).x (K f).y = (K f).x ∨ min (K f).x (K f).y = (K f).y := by omega
  unfold ringF
  rw [hm, h.loop N n [f] f _ f (Way.start h0 h1 h2 hp)]
theorem Swap.rings {K M : Int → Pt} {n : Nat} (h : Swap K M (n : Int)) (N : Net K (n : Int)) : ∀ m, m ≤ n → ringsTo M n m = ringsTo K n m
  | 0, _ => rfl
  | m + 1, hm => by
    have ih := h.rings N m (by omega)
    have e : decide ((M (m : Int)).x = (M (m : Int)).y) = decide ((K (m : Int)).x = (K (m : Int)).y) := by
      rcases h (m : Int) (by omega) (by omega) with e | e <;> rw [e]
      exact decide_eq_decide.2 eq_comm
    rw [ringsTo, ringsTo, ih, e]
    split
    · rfl
    · next hc =>
      rw [h.ring N (by omega) (by omega)]
      intro e2
      exact hc (by rw [decide_eq_true e2]; simp)
theorem SameSegs.rings {l m : List Pt} (h : SameSegs l m) (n : Int) : (ringsR n l).1 = (ringsR n m).1 ∧ (ringsR n l).2.2 = (ringsR n m).2.2 := by
  by_cases hl : okL n l
  · have hm := h.okl hl
    by_cases ha : againF l < 0
    · have ha2 := h.again.1 ha
      by_cases hf : forkF n.toNat l < 0
      · have hf2 : forkF n.toNat m < 0 := by rw [← h.fork]; exact hf
        rw [ringsR_ok hl ha hf, ringsR_ok hm ha2 hf2]
        obtain ⟨k, rfl⟩ := Int.eq_ofNat_of_zero_le hl.1
        rw [Int.toNat_natCast] at *
        have g1 := good_of hl ha hf
        have g2 := good_of hm ha2 hf2
        exact ⟨((h.swap g1 g2).rings g1.net k (Nat.le_refl _)).symm, rfl⟩
      · have hf2 : ¬ forkF n.toNat m < 0 := by rw [← h.fork]; exact hf
        rw [ringsR_fork hl ha (by omega), ringsR_fork hm ha2 (by omega)]
        exact ⟨rfl, rfl⟩
    · have ha2 : ¬ againF m < 0 := fun h2 => ha (h.again.2 h2)
      rw [ringsR_twice hl (by omega), ringsR_twice hm (by omega)]
      exact ⟨rfl, rfl⟩
  · have hm : ¬ okL n m := fun h2 => hl (h.symm.okl h2)
    rw [ringsR_arg hl, ringsR_arg hm]
    exact ⟨rfl, rfl⟩
end Go.Proofs.Ytpjaefcmaiimlaa
