/-
  Plain mathematics of RingsJoin: segments beside others, shifted.
-/
import Derived.Test.YtkidphekfnmhhaaRBackMath
namespace Go.Proofs.Ytkidphekfnmhhaa

def shS (n : Nat) (s : Pt) : Pt := ⟨s.x + (n : Int), s.y + (n : Int)⟩
def joinS (n : Nat) (l m : List Pt) : List Pt := l ++ m.map (shS n)
def inK (k : Nat) (m : List Pt) : Prop := ∀ s ∈ m, 0 ≤ s.x ∧ 0 ≤ s.y ∧ s.x < (k : Int) ∧ s.y < (k : Int)
theorem join_okl {n k : Nat} {l m : List Pt} (hl : okL (n : Int) l) (hk : n + k ≤ 1048576) (hin : inK k m) : okL ((n + k : Nat) : Int) (joinS n l m) ↔ okL (k : Int) m := by
  unfold okL joinS
  constructor
  · rintro ⟨-, -, h⟩
    refine ⟨by omega, by omega, fun s hs => ?_⟩
    have := h (shS n s) (List.mem_append_right _ (List.mem_map.2 ⟨s, hs, rfl⟩))
    have hi := hin s hs
    unfold okS shS at *
    dsimp only at this
    omega
  · rintro ⟨-, -, h⟩
    refine ⟨by omega, by omega, fun s hs => ?_⟩
    rcases List.mem_append.1 hs with h1 | h1
    · have := hl.2.2 s h1
      unfold okS at *
      omega
    · obtain ⟨t, ht, rfl⟩ := List.mem_map.1 h1
      have := h t ht
      unfold okS shS at *
      dsimp only
      omega
theorem firstN_join {q q' : Nat → Bool} {a b : Nat} (h1 : ∀ i, i < a → q i = false) (h2 : ∀ j, j < b → q (a + j) = q' j) : firstN q (a + b) = if firstN q' b < 0 then -1 else (a : Int) + firstN q' b := by
  rcases firstN_cases q' b with ⟨e, h⟩ | ⟨j, hj, e, hq, h⟩
  · rw [e, if_pos (by decide)]
    refine firstN_no fun i hi => ?_
    rcases Nat.lt_or_ge i a with hl | hl
    · exact h1 i hl
    · obtain ⟨d, rfl⟩ := Nat.exists_eq_add_of_le hl
      rw [h2 d (by omega)]
      exact h d (by omega)
  · rw [e, if_neg (by omega), firstN_at (k := a + j) (by omega) (by rw [h2 j hj]; exact hq) (fun i hi => ?_)]
    · omega
    · rcases Nat.lt_or_ge i a with hl | hl
      · exact h1 i hl
      · obtain ⟨d, rfl⟩ := Nat.exists_eq_add_of_le hl
        rw [h2 d (by omega)]
        exact h d (by omega)
theorem firstN_neg {q : Nat → Bool} {n : Nat} (h : firstN q n < 0) : ∀ i, i < n → q i = false := by
  rcases firstN_cases q n with ⟨-, h2⟩ | ⟨j, -, e, -⟩
  · exact h2
  · omega
theorem norm_sh (n : Nat) (s t : Pt) : norm (shS n s) = norm (shS n t) ↔ norm s = norm t := by
  rw [norm_eq, norm_eq]
  unfold shS
  dsimp only
  omega
theorem join_again {n k : Nat} {l m : List Pt} (hl : okL (n : Int) l) (hin : inK k m) (ha : againF l < 0) : againF (joinS n l m) = if againF m < 0 then -1 else (l.length : Int) + againF m := by
  unfold againF at *
  have hlen : (joinS n l m).length = l.length + m.length := by unfold joinS; rw [List.length_append, List.length_map]
  rw [hlen]
  refine firstN_join (fun i hi => ?_) (fun j hj => ?_)
  · rw [← firstN_neg ha i hi]
    unfold seenB joinS
    rw [List.take_append_of_le_length (by omega), List.getD_eq_getElem?_getD, List.getD_eq_getElem?_getD, List.getElem?_append_left hi]
  · unfold seenB joinS
    have e1 : (l ++ m.map (shS n)).take (l.length + j) = l ++ (m.take j).map (shS n) := by
      rw [List.take_length_add_append, List.map_take]
    have e2 : (l ++ m.map (shS n)).getD (l.length + j) ⟨0, 0⟩ = shS n (m.getD j ⟨0, 0⟩) := by
      simp [List.getD_eq_getElem?_getD, hj]
    rw [e1, e2, List.any_append, List.any_map]
    have hmj : m.getD j ⟨0, 0⟩ ∈ m := by
      simp [List.getD_eq_getElem?_getD, hj]
    have e3 : (l.any fun t => decide (norm t = norm (shS n (m.getD j ⟨0, 0⟩)))) = false := by
      rw [List.any_eq_false]
      intro t ht
      have h1 := hl.2.2 t ht
      have h2 := hin _ hmj
      unfold okS at h1
      rw [decide_eq_true_iff, norm_eq]
      unfold shS
      dsimp only
      omega
    rw [e3, Bool.false_or]
    congr 1
    funext t
    simp only [Function.comp]
    have := norm_sh n t (m.getD j ⟨0, 0⟩)
    by_cases h : norm t = norm (m.getD j ⟨0, 0⟩)
    · rw [decide_eq_true h, decide_eq_true (this.2 h)]
    · rw [decide_eq_false h, decide_eq_false (fun k => h (this.1 k))]
theorem nb1_sh (n : Nat) (s : Pt) (p : Int) : nb1 (shS n s) (p + (n : Int)) = (nb1 s p).map fun x => x + (n : Int) := by
  unfold nb1 shS
  dsimp only
  by_cases h1 : s.x = p <;> by_cases h2 : s.y = p <;> simp [h1, h2] <;> omega
theorem nbs_sh (n : Nat) (m : List Pt) (p : Int) : nbs (m.map (shS n)) (p + (n : Int)) = (nbs m p).map fun x => x + (n : Int) := by
  induction m with
  | nil => rfl
  | cons s m ih => rw [List.map_cons, nbs_cons, nbs_cons, nb1_sh, ih, List.map_append]
theorem nbs_append9 (l m : List Pt) (p : Int) : nbs (l ++ m) p = nbs l p ++ nbs m p := by unfold nbs; rw [List.flatMap_append]
theorem join_lo {n k : Nat} {l m : List Pt} (hin : inK k m) {p : Int} (hp : p < (n : Int)) : nbs (joinS n l m) p = nbs l p := by
  unfold joinS
  rw [nbs_append9]
  have : nbs (m.map (shS n)) p = [] := by
    rw [List.eq_nil_iff_forall_not_mem]
    intro x hx
    obtain ⟨s, hs, h⟩ := mem_nbs.1 hx
    obtain ⟨t, ht, rfl⟩ := List.mem_map.1 hs
    have := hin t ht
    unfold shS at h
    dsimp only at h
    omega
  rw [this, List.append_nil]
theorem join_hi {n : Nat} {l m : List Pt} (hl : okL (n : Int) l) {p : Int} (hp : 0 ≤ p) : nbs (joinS n l m) (p + (n : Int)) = (nbs m p).map fun x => x + (n : Int) := by
  unfold joinS
  rw [nbs_append9, nbs_sh]
  have : nbs l (p + (n : Int)) = [] := by
    rw [List.eq_nil_iff_forall_not_mem]
    intro x hx
    obtain ⟨s, hs, h⟩ := mem_nbs.1 hx
    have := hl.2.2 s hs
    unfold okS at this
    omega
  rw [this, List.nil_append]
theorem join_fork {n k : Nat} {l m : List Pt} (hl : okL (n : Int) l) (hin : inK k m) (hf : forkF n l < 0) : forkF (n + k) (joinS n l m) = if forkF k m < 0 then -1 else (n : Int) + forkF k m := by
  unfold forkF at *
  refine firstN_join (fun i hi => ?_) (fun j hj => ?_)
  · rw [← firstN_neg hf i hi]
    unfold forkB deg
    rw [join_lo hin (by omega)]
  · unfold forkB deg
    rw [show ((n + j : Nat) : Int) = (j : Int) + (n : Int) by omega, join_hi hl (by omega), List.length_map]
/-- the neighbours of both together -/
structure Both9 (K M J : Int → Pt) (n k : Nat) : Prop where
  lo : ∀ p, 0 ≤ p → p < (n : Int) → J p = K p
  hi : ∀ p, 0 ≤ p → p < (k : Int) → (M p).x ≠ (M p).y → J (p + (n : Int)) = shS n (M p)
  no : ∀ p, 0 ≤ p → p < (k : Int) → (M p).x = (M p).y → (J (p + (n : Int))).x = (J (p + (n : Int))).y
theorem both9 {n k : Nat} {l m : List Pt} (hl : okL (n : Int) l) (hin : inK k m) (Gm : Good k m) : Both9 (pr l) (pr m) (pr (joinS n l m)) n k := by
  refine ⟨fun p h0 h1 => ?_, fun p h0 h1 h2 => ?_, fun p h0 h1 h2 => ?_⟩
  · unfold pr
    rw [join_lo hin h1]
  · rcases Gm.cases h0 h1 with ⟨-, k2⟩ | ⟨k1, -⟩
    · exact absurd k2 h2
    · have := join_hi (l := l) (m := m) hl h0
      rw [k1] at this
      rw [pr_two this]
      rfl
  · rcases Gm.cases h0 h1 with ⟨k1, -⟩ | ⟨-, k2⟩
    · have := join_hi (l := l) (m := m) hl h0
      rw [k1] at this
      rw [pr_nil this]
    · exact absurd h2 k2
theorem loop_lo {K M J : Int → Pt} {n k : Nat} (B : Both9 K M J n k) {f : Int} (N : Net K (n : Int)) : ∀ (u v : Nat) (R : List Int) (b p c : Int), Way K (n : Int) f R b p c → n + 1 - R.length ≤ u → n + 1 - R.length ≤ v → loopF J f v b p = loopF K f u b p
  | 0, v, R, b, p, c, h, hu, hv => by
    have := h.len
    omega
  | u + 1, 0, R, b, p, c, h, hu, hv => by
    have := h.len
    omega
  | u + 1, v + 1, R, b, p, c, h, hu, hv => by
    by_cases hp : p = f
    · subst hp
      rw [loopF_end, loopF_end]
    · obtain ⟨b0, b1, b2⟩ := h.inn b h.hb
      obtain ⟨p0, p1, -⟩ := N b b0 b1 b2 p h.hp
      have e : nextF J b p = nextF K b p := by unfold nextF; rw [B.lo p p0 p1]
      rw [loopF_step hp, loopF_step hp, e, loop_lo B N u v _ _ _ _ (h.step N hp) (by simp; omega) (by simp; omega)]
theorem loop_hi {K M J : Int → Pt} {n k : Nat} (B : Both9 K M J n k) {f : Int} (N : Net M (k : Int)) : ∀ (u v : Nat) (R : List Int) (b p c : Int), Way M (k : Int) f R b p c → k + 1 - R.length ≤ u → k + 1 - R.length ≤ v →
    loopF J (f + (n : Int)) v (b + (n : Int)) (p + (n : Int)) = (loopF M f u b p).map fun x => x + (n : Int)
  | 0, v, R, b, p, c, h, hu, hv => by
    have := h.len
    omega
  | u + 1, 0, R, b, p, c, h, hu, hv => by
    have := h.len
    omega
  | u + 1, v + 1, R, b, p, c, h, hu, hv => by
    by_cases hp : p = f
    · subst hp
      rw [loopF_end, loopF_end]
      rfl
    · obtain ⟨b0, b1, b2⟩ := h.inn b h.hb
      obtain ⟨p0, p1, -, p3, -⟩ := N b b0 b1 b2 p h.hp
      have e : nextF J (b + (n : Int)) (p + (n : Int)) = nextF M b p + (n : Int) := by
        unfold nextF
        rw [B.hi p p0 p1 p3]
        unfold shS
        dsimp only
        by_cases hx : (M p).x = b
        · rw [if_pos hx, if_pos (by omega)]
        · rw [if_neg hx, if_neg (by omega)]
      rw [loopF_step hp, loopF_step (by omega), e, loop_hi B N u v _ _ _ _ (h.step N hp) (by simp; omega) (by simp; omega), List.map_cons]
theorem ring_lo {K M J : Int → Pt} {n k : Nat} (B : Both9 K M J n k) (N : Net K (n : Int)) {f : Int} (h0 : 0 ≤ f) (h1 : f < (n : Int)) (h2 : (K f).x ≠ (K f).y) : ringF J (n + k) f = ringF K n f := by
  have hp : min (K f).x (K f).y = (K f).x ∨ min (K f).x (K f).y = (K f).y := by omega
  unfold ringF
  rw [B.lo f h0 h1, loop_lo B N n (n + k) [f] f _ f (Way.start h0 h1 h2 hp) (by simp) (by simp)]
theorem ring_hi {K M J : Int → Pt} {n k : Nat} (B : Both9 K M J n k) (N : Net M (k : Int)) {f : Int} (h0 : 0 ≤ f) (h1 : f < (k : Int)) (h2 : (M f).x ≠ (M f).y) : ringF J (n + k) (f + (n : Int)) = (ringF M k f).map fun x => x + (n : Int) := by
  have hp : min (M f).x (M f).y = (M f).x ∨ min (M f).x (M f).y = (M f).y := by omega
  unfold ringF
  rw [B.hi f h0 h1 h2]
  have e : min (shS n (M f)).x (shS n (M f)).y = min (M f).x (M f).y + (n : Int) := by unfold shS; dsimp only; omega
  rw [e, loop_hi B N k (n + k) [f] f _ f (Way.start h0 h1 h2 hp) (by simp) (by first | (simp; done) | (simp; omega)), List.map_cons]
theorem rings_lo {K M J : Int → Pt} {n k : Nat} (B : Both9 K M J n k) (N : Net K (n : Int)) : ∀ i, i ≤ n → ringsTo J (n + k) i = ringsTo K n i
  | 0, _ => rfl
  | i + 1, h => by
    rw [ringsTo, ringsTo, rings_lo B N i (by omega), B.lo (i : Int) (by omega) (by omega)]
    by_cases hc : ((ringsTo K n i).any (fun r => r.contains (i : Int)) || decide ((K (i : Int)).x = (K (i : Int)).y)) = true
    · rw [if_pos hc, if_pos hc]
    · rw [if_neg hc, if_neg hc, ring_lo B N (by omega) (by omega) (fun e => hc (by rw [decide_eq_true e]; simp))]
def shR (n : Nat) (L : List (List Int)) : List (List Int) := L.map fun R => R.map fun x => x + (n : Int)
theorem rings_hi {K M J : Int → Pt} {n k : Nat} (B : Both9 K M J n k) (N : Net K (n : Int)) (NM : Net M (k : Int)) : ∀ j, j ≤ k → ringsTo J (n + k) (n + j) = ringsTo K n n ++ shR n (ringsTo M k j)
  | 0, _ => by rw [Nat.add_zero, rings_lo B N n (Nat.le_refl _)]; simp [shR, ringsTo]
  | j + 1, h => by
    have ih := rings_hi B N NM j (by omega)
    have hcast : ((n + j : Nat) : Int) = (j : Int) + (n : Int) := by omega
    have hany : ((ringsTo J (n + k) (n + j)).any fun r => r.contains ((n + j : Nat) : Int)) = ((ringsTo M k j).any fun r => r.contains (j : Int)) := by
      rw [ih, List.any_append]
      have e1 : ((ringsTo K n n).any fun r => r.contains ((n + j : Nat) : Int)) = false := by
        rw [List.any_eq_false]
        intro R hR
        have := ((upto N n (Nat.le_refl _)).rows R hR).inn
        intro hc
        have := this ((n + j : Nat) : Int) (by simpa using hc)
        omega
      rw [e1, Bool.false_or]
      unfold shR
      rw [List.any_map]
      congr 1
      funext R
      simp only [Function.comp]
      rw [hcast]
      by_cases hm : (j : Int) ∈ R
      · have : (j : Int) + (n : Int) ∈ R.map fun x => x + (n : Int) := List.mem_map.2 ⟨_, hm, rfl⟩
        simp only [List.contains_iff_mem.2 hm, List.contains_iff_mem.2 this]
      · have : ¬ (j : Int) + (n : Int) ∈ R.map fun x => x + (n : Int) := fun h => by
          obtain ⟨x, hx, e⟩ := List.mem_map.1 h
          have : x = (j : Int) := by omega
          exact hm (this ▸ hx)
        simp only [Bool.eq_false_iff.2 fun h => hm (List.contains_iff_mem.1 h), Bool.eq_false_iff.2 fun h => this (List.contains_iff_mem.1 h)]
    have hdec : decide ((J ((n + j : Nat) : Int)).x = (J ((n + j : Nat) : Int)).y) = decide ((M (j : Int)).x = (M (j : Int)).y) := by
      rw [hcast]
      by_cases hm : (M (j : Int)).x = (M (j : Int)).y
      · rw [decide_eq_true hm, decide_eq_true (B.no _ (by omega) (by omega) hm)]
      · rw [decide_eq_false hm, B.hi _ (by omega) (by omega) hm]
        exact decide_eq_false (by unfold shS; dsimp only; omega)
    rw [← Nat.add_assoc, ringsTo, ringsTo, hany, hdec]
    by_cases hc : ((ringsTo M k j).any (fun r => r.contains (j : Int)) || decide ((M (j : Int)).x = (M (j : Int)).y)) = true
    · rw [if_pos hc, if_pos hc, ih]
    · rw [if_neg hc, if_neg hc, ih, hcast, ring_hi B NM (by omega) (by omega) (fun e => hc (by rw [decide_eq_true e]; simp))]
      unfold shR
      rw [List.map_append, List.append_assoc]
      rfl
/-- both together -/
def JoinIs (n : Nat) (l : List Pt) (a b : List (List Int)) (at' f : Int) (c : List (List Int)) (it g : Int) : Prop :=
  (f = 80 ∧ g = 80 ∧ it = at' + (l.length : Int) ∧ c = []) ∨ (f = 81 ∧ g = 81 ∧ it = at' + (n : Int) ∧ c = []) ∨ (f = 2 ∧ g = 2 ∧ it = 0 ∧ c = []) ∨ (f = 0 ∧ g = 0 ∧ c = a ++ shR n b)
theorem join_is {n k : Nat} {l m : List Pt} {a : List (List Int)} (hn : n + k ≤ 1048576) (hr : ringsR (n : Int) l = (a, 0, 0)) (hin : inK k m) :
    ∃ c it g, ringsR ((n + k : Nat) : Int) (joinS n l m) = (c, it, g) ∧ JoinIs n l a (ringsR (k : Int) m).1 (ringsR (k : Int) m).2.1 (ringsR (k : Int) m).2.2 c it g := by
  have good : okL (n : Int) l ∧ againF l < 0 ∧ forkF n l < 0 ∧ a = ringsTo (pr l) n n := by
    by_cases h1 : okL (n : Int) l
    · by_cases h2 : againF l < 0
      · by_cases h3 : forkF n l < 0
        · refine ⟨h1, h2, h3, ?_⟩
          rw [ringsR_ok h1 h2 (by rwa [Int.toNat_natCast]), Int.toNat_natCast] at hr
          injection hr with e
          exact e.symm
        · rw [ringsR_fork h1 h2 (by rw [Int.toNat_natCast]; omega)] at hr
          simp at hr
      · rw [ringsR_twice h1 (by omega)] at hr
        simp at hr
    · rw [ringsR_arg h1] at hr
      simp at hr
  obtain ⟨hl, ha, hf, rfl⟩ := good
  have hok := join_okl hl hn hin
  by_cases h1 : okL (k : Int) m
  · have h1' := hok.2 h1
    have hag := join_again hl hin ha
    by_cases h2 : againF m < 0
    · rw [if_pos h2] at hag
      have hfk := join_fork hl hin hf
      by_cases h3 : forkF k m < 0
      · rw [if_pos h3] at hfk
        have e1 := ringsR_ok h1 h2 (by rwa [Int.toNat_natCast])
        have e2 := ringsR_ok h1' (by omega) (by rw [Int.toNat_natCast]; omega)
        rw [Int.toNat_natCast] at e1 e2
        have Gl := good_of hl ha hf
        have Gm := good_of h1 h2 h3
        rw [e1]
        refine ⟨_, _, _, e2, .inr (.inr (.inr ⟨rfl, rfl, ?_⟩))⟩
        exact rings_hi (both9 hl hin Gm) Gl.net Gm.net k (Nat.le_refl _)
      · rw [if_neg h3] at hfk
        have e1 := ringsR_fork h1 h2 (by rw [Int.toNat_natCast]; omega)
        have e2 := ringsR_fork h1' (by omega) (by rw [Int.toNat_natCast]; omega)
        rw [Int.toNat_natCast] at e1 e2
        rw [e1]
        exact ⟨_, _, _, e2, .inr (.inl ⟨rfl, rfl, by dsimp only; omega, rfl⟩)⟩
    · rw [if_neg h2] at hag
      have e1 := ringsR_twice h1 (by omega : 0 ≤ againF m)
      have e2 := ringsR_twice h1' (by omega : 0 ≤ againF (joinS n l m))
      rw [e1]
      exact ⟨_, _, _, e2, .inl ⟨rfl, rfl, by dsimp only; omega, rfl⟩⟩
  · rw [ringsR_arg h1]
    exact ⟨_, _, _, ringsR_arg (fun h => h1 (hok.1 h)), .inr (.inr (.inl ⟨rfl, rfl, rfl, rfl⟩))⟩
end Go.Proofs.Ytkidphekfnmhhaa
