/-
  Layer 10: an input that is numbered otherwise: a flaw of the same kind (plain facts).
-/
import Derived.Test.YtpjaefcmaiimlaaVTurnK
import Derived.Test.YtpjaefcmaiimlaaRRndMath
import Derived.Test.YtpjaefcmaiimlaaVMems
import Derived.Lib.AppendZeros
set_option linter.unusedVariables false
set_option linter.unusedSimpArgs false
set_option linter.deprecated false
namespace Go.Proofs.Ytpjaefcmaiimlaa

/-! ### the numbers -/
def sgm (n b : Int) (x : Int) : Int := (x + n - b) % n
def renP (p : List Pt) (b : Nat) : List Pt := (List.range p.length).map fun j => pget p ((j + b) % p.length)
def renS (n b : Int) (s : Pt) : Pt := ⟨sgm n b s.x, sgm n b s.y⟩
def renT (n b : Int) (s : Pt) : Pt := ⟨sgm n b s.y, sgm n b s.x⟩
def renL (n b : Int) (l : List Pt) : List Pt := l.map (renT n b)
def renI (n b : Int) (i : List Pt) : List Pt := (i.map (renS n b)).reverse
theorem sgm_in {n b x : Int} (h : 0 < n) : 0 ≤ sgm n b x ∧ sgm n b x < n := ⟨Int.emod_nonneg _ (by omega), Int.emod_lt_of_pos _ h⟩
theorem sgm_val {n b x : Int} (b0 : 0 ≤ b) (b1 : b < n) (x0 : 0 ≤ x) (x1 : x < n) : sgm n b x = if b ≤ x then x - b else x + n - b := by
  unfold sgm
  split
  · rw [show x + n - b = (x - b) + n by omega, Int.add_emod_right, Int.emod_eq_of_lt (by omega) (by omega)]
  · rw [Int.emod_eq_of_lt (by omega) (by omega)]
theorem sgm_inj {n b x y : Int} (b0 : 0 ≤ b) (b1 : b < n) (x0 : 0 ≤ x) (x1 : x < n) (y0 : 0 ≤ y) (y1 : y < n) (h : sgm n b x = sgm n b y) : x = y := by
  rw [sgm_val b0 b1 x0 x1, sgm_val b0 b1 y0 y1] at h
  split at h <;> split at h <;> omega
theorem renP_len (p : List Pt) (b : Nat) : (renP p b).length = p.length := by simp [renP]
theorem renP_at {p : List Pt} {b j : Nat} (h : j < p.length) : pget (renP p b) j = pget p ((j + b) % p.length) := by
  rw [pget_getElem (by rw [renP_len]; exact h)]
  simp [renP]
theorem ren_ptI {p : List Pt} {b : Nat} (hb : b < p.length) {x : Int} (x0 : 0 ≤ x) (x1 : x < (p.length : Int)) : ptI (renP p b) (sgm p.length b x) = ptI p x := by
  obtain ⟨z0, z1⟩ := sgm_in (n := (p.length : Int)) (b := (b : Int)) (x := x) (by omega)
  have hv := sgm_val (n := (p.length : Int)) (b := (b : Int)) (by omega) (by omega) x0 x1
  obtain ⟨a, rfl⟩ := Int.eq_ofNat_of_zero_le x0
  unfold ptI
  rw [renP_at (by omega)]
  congr 1
  rw [Int.toNat_natCast]
  rcases Nat.lt_or_ge a b with h | h
  · rw [if_neg (by omega)] at hv
    have : (sgm (p.length : Int) (b : Int) (a : Int)).toNat = a + p.length - b := by omega
    rw [this, show a + p.length - b + b = a + p.length by omega, Nat.add_mod_right, Nat.mod_eq_of_lt (by omega)]
  · rw [if_pos (by omega)] at hv
    have : (sgm (p.length : Int) (b : Int) (a : Int)).toNat = a - b := by omega
    rw [this, show a - b + b = a by omega, Nat.mod_eq_of_lt (by omega)]
theorem ren_back {p : List Pt} {b : Nat} (hb : b < p.length) {j : Nat} (hj : j < p.length) : ∃ a : Nat, a < p.length ∧ sgm p.length b a = (j : Int) ∧ pget (renP p b) j = pget p a := by
  refine ⟨(j + b) % p.length, Nat.mod_lt _ (by omega), ?_, renP_at hj⟩
  rw [sgm_val (by omega) (by omega) (by omega) (by have := Nat.mod_lt (j + b) (show p.length > 0 by omega); omega)]
  rcases Nat.lt_or_ge (j + b) p.length with h | h
  · rw [Nat.mod_eq_of_lt h, if_pos (by omega)]; omega
  · have e : (j + b) % p.length = j + b - p.length := by rw [Nat.mod_eq_sub_mod h, Nat.mod_eq_of_lt (by omega)]
    rw [e, if_neg (by omega)]; omega

/-! ### what is asked of all -/
theorem all_pget {S : List Pt} {P : Pt → Prop} : (∀ a, a < S.length → P (pget S a)) ↔ ∀ s ∈ S, P s := by
  constructor
  · intro h s hs
    obtain ⟨a, ha, rfl⟩ := List.mem_iff_getElem.1 hs
    rw [← pget_getElem ha]; exact h a ha
  · intro h a ha
    exact h _ (pget_mem10 ha)
theorem pair_pget {S : List Pt} {R : Pt → Pt → Prop} : (∀ a b, a < b → b < S.length → R (pget S a) (pget S b)) ↔ S.Pairwise R := by
  rw [List.pairwise_iff_getElem]
  constructor
  · intro h a b ha hb hab
    have := h a b hab hb
    rwa [pget_getElem ha, pget_getElem hb] at this
  · intro h a b hab hb
    rw [pget_getElem (by omega), pget_getElem hb]
    exact h a b (by omega) hb hab
theorem zero0 {p l i : List Pt} : (chk p l i 0).k = 0 ↔ p.Pairwise (fun a b => eqB a b = false) := by
  rw [← pair_pget]
  constructor
  · intro h a b hab hb
    have := (fl2_zero (by decide)).1 h a b (by omega) hb
    unfold alikeF at this
    rw [decide_eq_true hab] at this
    exact this
  · intro h
    refine (fl2_zero (by decide)).2 fun a b ha hb => ?_
    unfold alikeF
    by_cases hab : a < b
    · rw [h a b hab hb, Bool.and_false]
    · rw [decide_eq_false hab]; rfl
theorem zero1 {p l i : List Pt} : (chk p l i 1).k = 0 ↔ ∀ s ∈ l ++ i, s.x ≠ s.y := by
  rw [← all_pget (P := fun s => s.x ≠ s.y)]
  constructor
  · intro h a ha
    exact of_decide_eq_false ((fl1_zero (by decide)).1 h a ha)
  · intro h
    exact (fl1_zero (by decide)).2 fun a ha => decide_eq_false (h a ha)
theorem zero2 {p l i : List Pt} : (chk p l i 2).k = 0 ↔ (l ++ i).Pairwise (fun s t => badB (segF p s) (segF p t) = false) := by
  rw [← pair_pget (R := fun s t => badB (segF p s) (segF p t) = false)]
  constructor
  · intro h a b hab hb
    exact meet_no h hab hb
  · intro h
    refine (fl2_zero (by decide)).2 fun a b ha hb => ?_
    unfold meetF
    by_cases hab : a < b
    · rw [h a b hab hb, Bool.and_false]
    · rw [decide_eq_false hab]; rfl
theorem zero3 {p l i : List Pt} : (chk p l i 3).k = 0 ↔ ∀ q ∈ p, ∀ s ∈ l ++ i, insideB (ptI p s.x) (ptI p s.y) q = false := by
  have h1 : (chk p l i 3).k = 0 ↔ ∀ a, a < p.length → ∀ b, b < (l ++ i).length → insideB (ptI p (pget (l ++ i) b).x) (ptI p (pget (l ++ i) b).y) (pget p a) = false := by
    constructor
    · intro h a ha b hb
      exact (fl2_zero (by decide)).1 h a b ha hb
    · intro h
      exact (fl2_zero (by decide)).2 fun a b ha hb => h a ha b hb
  rw [h1, all_pget (P := fun q => ∀ b, b < (l ++ i).length → insideB (ptI p (pget (l ++ i) b).x) (ptI p (pget (l ++ i) b).y) q = false)]
  exact forall_congr' fun q => forall_congr' fun _ => all_pget (P := fun s => insideB (ptI p s.x) (ptI p s.y) q = false)
theorem zero4 {p l i : List Pt} : (chk p l i 4).k = 0 ↔ ∀ v : Int, 0 ≤ v → v < (p.length : Int) → (deg l v = 0 ∨ deg l v = 2) := by
  constructor
  · intro h v v0 v1
    obtain ⟨a, rfl⟩ := Int.eq_ofNat_of_zero_le v0
    have := (fl1_zero (by decide)).1 h a (by omega)
    unfold forkB at this
    simp at this
    omega
  · intro h
    refine (fl1_zero (by decide)).2 fun a ha => ?_
    unfold forkB
    rcases h a (by omega) (by omega) with e | e <;> rw [e] <;> rfl
theorem zero6 {p l i : List Pt} : (chk p l i 6).k = 0 ↔ ∀ s ∈ i, midW p l s = true := by
  rw [← all_pget (P := fun s => midW p l s = true)]
  constructor
  · intro h a ha
    have := (fl1_zero (by decide)).1 h a ha
    simpa using this
  · intro h
    exact (fl1_zero (by decide)).2 fun a ha => by rw [h a ha]; rfl
theorem zero7 {p l i : List Pt} : (chk p l i 7).k = 0 ↔ ∀ v : Int, 0 ≤ v → v < (p.length : Int) → deg (l ++ i) v = 0 → whereZ 1 p l (ptI p v) = 1 := by
  constructor
  · intro h v v0 v1 hd
    obtain ⟨a, rfl⟩ := Int.eq_ofNat_of_zero_le v0
    have := (fl1_zero (by decide)).1 h a (by omega)
    unfold strayF at this
    rw [decide_eq_true hd] at this
    show whereZ 1 p l (pget p a) = 1
    simpa using this
  · intro h
    refine (fl1_zero (by decide)).2 fun a ha => ?_
    unfold strayF
    by_cases hd : deg (l ++ i) (a : Int) = 0
    · have := h a (by omega) (by omega) hd
      rw [decide_eq_true hd]
      have e : whereZ 1 p l (pget p a) = 1 := this
      rw [e]; rfl
    · rw [decide_eq_false hd]; rfl
theorem kind_same {p l i p' l' i' : List Pt} (h : ∀ j, j < 8 → (flTo p l i j).k = 0 → (flTo p' l' i' j).k = 0 → ((chk p' l' i' j).k = 0 ↔ (chk p l i j).k = 0)) : ∀ j, j ≤ 8 → (flTo p' l' i' j).k = (flTo p l i j).k
  | 0, _ => rfl
  | j + 1, hj => by
    have ih := kind_same h j (by omega)
    rw [flTo, flTo]
    by_cases h0 : (flTo p l i j).k = 0
    · rw [if_pos h0, if_pos (by rw [ih]; exact h0)]
      have hk := h j (by omega) h0 (by rw [ih]; exact h0)
      rcases chk_vals p l i j with e | e <;> rcases chk_vals p' l' i' j with e' | e'
      · rw [e, e']
      · have := hk.2 (by rw [e]; rfl)
        rw [e'] at this; omega
      · have := hk.1 (by rw [e']; rfl)
        rw [e] at this; omega
      · rw [e, e']
    · rw [if_neg h0, if_neg (by rw [ih]; exact h0), ih]

/-! ### an input numbered otherwise -/
theorem inside_swap10 (a b q : Pt) : insideB b a q = insideB a b q := by
  unfold insideB
  rw [orient_swap, disc_swap]
  congr 1
  exact decide_eq_decide.2 (by omega)
theorem eqB_comm10 (a b : Pt) : eqB a b = eqB b a := by unfold eqB; exact decide_eq_decide.2 ⟨Eq.symm, Eq.symm⟩
theorem on_swap10 (a b q : Pt) : onB b a q = onB a b q := by
  unfold onB properB
  rw [inside_swap10, eqB_comm10 b a, Bool.and_comm (fitB b), Bool.or_comm (eqB q b)]
theorem right_swap10 (a b q : Pt) : rightB b a q = rightB a b q := by
  have e : crossZ b a q = - crossZ a b q := cross_swap a b q
  have e2 : (a.y - b.y) * crossZ b a q = (b.y - a.y) * crossZ a b q := by rw [e]; grind
  unfold rightB
  rw [e2]
  cases decide (q.y < a.y) <;> cases decide (q.y < b.y) <;> rfl
theorem renP_eq {p : List Pt} {b : Nat} (hb : b < p.length) : renP p b = p.drop b ++ p.take b := by
  refine List.ext_getElem (by rw [renP_len, List.length_append, List.length_drop, List.length_take]; omega) fun j h1 h2 => ?_
  rw [renP_len] at h1
  rw [← pget_getElem (by rw [renP_len]; exact h1), renP_at h1]
  by_cases h : j < p.length - b
  · rw [List.getElem_append_left (by rw [List.length_drop]; exact h), List.getElem_drop, Nat.mod_eq_of_lt (by omega), pget_getElem (by omega)]
    congr 1; omega
  · have e : (j + b) % p.length = j + b - p.length := by rw [Nat.mod_eq_sub_mod (by omega), Nat.mod_eq_of_lt (by omega)]
    rw [List.getElem_append_right (by rw [List.length_drop]; omega), List.getElem_take, e, pget_getElem (by omega)]
    congr 1; rw [List.length_drop]; omega
theorem renP_perm {p : List Pt} {b : Nat} (hb : b < p.length) : (renP p b).Perm p := by
  rw [renP_eq hb]
  exact List.perm_append_comm.trans (by rw [List.take_append_drop])
section
variable {p l i : List Pt} {b : Nat}
theorem mem_seg10 (hc : ChkOk p l i) {s : Pt} (h : s ∈ l ++ i) : sgInB p.length s = true := by
  obtain ⟨a, ha, rfl⟩ := List.mem_iff_getElem.1 h
  rw [← pget_getElem ha]; exact chk_seg hc ha
theorem ren_in {n : Nat} {s : Pt} (hn : 0 < n) : sgInB n (renS n b s) = true ∧ sgInB n (renT n b s) = true := by
  have h1 := sgm_in (n := (n : Int)) (b := (b : Int)) (x := s.x) (by omega)
  have h2 := sgm_in (n := (n : Int)) (b := (b : Int)) (x := s.y) (by omega)
  exact ⟨sgInB_iff.2 ⟨h1.1, h1.2, h2.1, h2.2⟩, sgInB_iff.2 ⟨h2.1, h2.2, h1.1, h1.2⟩⟩
theorem ren_len (n b : Int) (l i : List Pt) : (renL n b l).length = l.length ∧ (renI n b i).length = i.length := by simp [renL, renI]
theorem mem_renL {n b : Int} {l : List Pt} {s : Pt} : s ∈ renL n b l ↔ ∃ t ∈ l, renT n b t = s := by unfold renL; exact List.mem_map
theorem mem_renI {n b : Int} {i : List Pt} {s : Pt} : s ∈ renI n b i ↔ ∃ t ∈ i, renS n b t = s := by unfold renI; rw [List.mem_reverse]; exact List.mem_map
theorem ren_chk (hc : ChkOk p l i) (hb : b < p.length) : ChkOk (renP p b) (renL p.length b l) (renI p.length b i) := by
  refine ⟨by rw [renP_len]; exact hc.n, by rw [(ren_len _ _ _ []).1]; exact hc.nl, by rw [(ren_len _ _ [] _).2]; exact hc.ni, fun j hj => ?_, ?_, ?_⟩
  · rw [renP_len] at hj
    rw [renP_at hj]
    exact hc.pl _ (Nat.mod_lt _ (by omega))
  · rw [renP_len]
    refine all_pget (P := fun s => sgInB p.length s = true) |>.2 fun s hs => ?_
    obtain ⟨t, -, rfl⟩ := mem_renL.1 hs
    exact (ren_in (by omega)).2
  · rw [renP_len]
    refine all_pget (P := fun s => sgInB p.length s = true) |>.2 fun s hs => ?_
    obtain ⟨t, -, rfl⟩ := mem_renI.1 hs
    exact (ren_in (by omega)).1
theorem ren_segS (hb : b < p.length) {s : Pt} (hs : sgInB p.length s = true) : segF (renP p b) (renS p.length b s) = segF p s ∧ segF (renP p b) (renT p.length b s) = ⟨(segF p s).b, (segF p s).a⟩ := by
  obtain ⟨x0, x1, y0, y1⟩ := sgInB_iff.1 hs
  unfold segF renS renT
  dsimp only
  rw [ren_ptI hb x0 x1, ren_ptI hb y0 y1]
  exact ⟨rfl, rfl⟩
theorem bad_flip1 (s t : Sg) : badB ⟨s.b, s.a⟩ t = badB s t := by unfold badB; dsimp only; rw [segs_ba]
theorem bad_flip2 (s t : Sg) : badB s ⟨t.b, t.a⟩ = badB s t := by unfold badB; dsimp only; rw [segs_dc]
theorem bad_comm (s t : Sg) : badB s t = badB t s := by unfold badB; rw [segs_cd]
theorem ren_where (hc : ChkOk p l i) (hb : b < p.length) (k : Int) (q : Pt) : whereZ k (renP p b) (renL p.length b l) q = whereZ k p l q := by
  have key : ∀ j, j < l.length → endsOf k (renP p b) (renL p.length b l) j = ((endsOf k p l j).2, (endsOf k p l j).1) := fun j hj => by
    obtain ⟨x0, x1, y0, y1⟩ := sgInB_iff.1 (hc.sl j hj)
    have e : pget (renL p.length b l) j = renT p.length b (pget l j) := pget_map10 (renT p.length b) hj
    unfold endsOf
    rw [e]
    unfold renT
    dsimp only
    rw [ren_ptI hb x0 x1, ren_ptI hb y0 y1]
  unfold whereZ
  rw [(ren_len _ _ _ []).1]
  refine where_map (fun j hj => ?_) (fun j hj => ?_)
  · rw [key j hj]; exact on_swap10 _ _ _
  · rw [key j hj]; exact right_swap10 _ _ _
theorem nb1_ren (hb : b < p.length) {s : Pt} (hs : sgInB p.length s = true) {v : Int} (v0 : 0 ≤ v) (v1 : v < (p.length : Int)) : nbN (renS p.length b s) (sgm p.length b v) = nbN s v := by
  obtain ⟨x0, x1, y0, y1⟩ := sgInB_iff.1 hs
  have ex : (sgm p.length b s.x = sgm p.length b v) ↔ s.x = v := ⟨fun h => sgm_inj (by omega) (by omega) x0 x1 v0 v1 h, fun h => by rw [h]⟩
  have ey : (sgm p.length b s.y = sgm p.length b v) ↔ s.y = v := ⟨fun h => sgm_inj (by omega) (by omega) y0 y1 v0 v1 h, fun h => by rw [h]⟩
  unfold nbN nb1 renS
  dsimp only
  by_cases h1 : s.x = v <;> by_cases h2 : s.y = v <;> simp [ex, ey, h1, h2]
theorem norm_renT (n b : Int) (s : Pt) : norm (renT n b s) = norm (renS n b s) := norm_eq.2 (.inr ⟨rfl, rfl⟩)
theorem deg_map_ren (hb : b < p.length) {S : List Pt} (hS : ∀ s ∈ S, sgInB p.length s = true) {v : Int} (v0 : 0 ≤ v) (v1 : v < (p.length : Int)) : deg (S.map (renS p.length b)) (sgm p.length b v) = deg S v := by
  induction S with
  | nil => rfl
  | cons s S ih =>
    have h1 := ih fun t ht => hS t (List.mem_cons_of_mem _ ht)
    have h2 := nb1_ren hb (hS s List.mem_cons_self) v0 v1
    unfold deg at h1 ⊢
    unfold nbN at h2
    rw [List.map_cons, nbs_cons, nbs_cons, List.length_append, List.length_append, h1, h2]
theorem same_renL (n b : Int) (l : List Pt) : SameSegs (renL n b l) (l.map (renS n b)) := by
  unfold SameSegs renL
  rw [List.map_map, List.map_map]
  rw [show (norm ∘ renT n b) = (norm ∘ renS n b) from funext fun s => norm_renT n b s]
theorem same_renI (n b : Int) (i : List Pt) : SameSegs (renI n b i) (i.map (renS n b)) := by
  unfold SameSegs renI
  exact (List.reverse_perm _).map _
theorem deg_renL (hc : ChkOk p l i) (hb : b < p.length) {v : Int} (v0 : 0 ≤ v) (v1 : v < (p.length : Int)) : deg (renL p.length b l) (sgm p.length b v) = deg l v := by
  rw [(same_renL _ _ l).dg]
  exact deg_map_ren hb (fun s hs => mem_seg10 hc (List.mem_append_left _ hs)) v0 v1
theorem deg_renS (hc : ChkOk p l i) (hb : b < p.length) {v : Int} (v0 : 0 ≤ v) (v1 : v < (p.length : Int)) : deg (renL p.length b l ++ renI p.length b i) (sgm p.length b v) = deg (l ++ i) v := by
  have h : SameSegs (renL p.length b l ++ renI p.length b i) ((l ++ i).map (renS p.length b)) := by
    have h1 := same_renL p.length b l
    have h2 := same_renI p.length b i
    unfold SameSegs at h1 h2 ⊢
    rw [List.map_append, List.map_append, List.map_append]
    exact h1.append h2
  rw [h.dg]
  exact deg_map_ren hb (fun s hs => mem_seg10 hc hs) v0 v1
theorem ren_surj (hb : b < p.length) {v : Int} (v0 : 0 ≤ v) (v1 : v < (p.length : Int)) : ∃ u : Int, 0 ≤ u ∧ u < (p.length : Int) ∧ sgm p.length b u = v := by
  obtain ⟨j, rfl⟩ := Int.eq_ofNat_of_zero_le v0
  obtain ⟨a, ha, e, -⟩ := ren_back (p := p) hb (j := j) (by omega)
  exact ⟨a, by omega, by omega, e⟩
theorem ren_kind (hc : ChkOk p l i) (hb : b < p.length) : (flTo (renP p b) (renL p.length b l) (renI p.length b i) 8).k = (flTo p l i 8).k := by
  have hc' := ren_chk hc hb
  refine kind_same (fun j hj h0 h0' => ?_) 8 (Nat.le_refl _)
  match j, hj with
  | 0, _ =>
    rw [zero0, zero0]
    exact (renP_perm hb).pairwise_iff fun {x y} h => by rw [eqB_comm10]; exact h
  | 1, _ =>
    rw [zero1, zero1]
    constructor
    · intro h s hs e
      rcases List.mem_append.1 hs with hl | hi
      · exact h _ (List.mem_append_left _ (mem_renL.2 ⟨s, hl, rfl⟩)) (by unfold renT; dsimp only; rw [e])
      · exact h _ (List.mem_append_right _ (mem_renI.2 ⟨s, hi, rfl⟩)) (by unfold renS; dsimp only; rw [e])
    · intro h s hs e
      rcases List.mem_append.1 hs with hl | hi
      · obtain ⟨t, ht, rfl⟩ := mem_renL.1 hl
        obtain ⟨x0, x1, y0, y1⟩ := sgInB_iff.1 (mem_seg10 hc (List.mem_append_left _ ht))
        exact h t (List.mem_append_left _ ht) (sgm_inj (by omega) (by omega) y0 y1 x0 x1 e).symm
      · obtain ⟨t, ht, rfl⟩ := mem_renI.1 hi
        obtain ⟨x0, x1, y0, y1⟩ := sgInB_iff.1 (mem_seg10 hc (List.mem_append_right _ ht))
        exact h t (List.mem_append_right _ ht) (sgm_inj (by omega) (by omega) x0 x1 y0 y1 e)
  | 2, _ =>
    rw [zero2, zero2]
    have e1 : (renL p.length b l ++ renI p.length b i).Pairwise (fun s t => badB (segF (renP p b) s) (segF (renP p b) t) = false) ↔
        (renL p.length b l ++ i.map (renS p.length b)).Pairwise (fun s t => badB (segF (renP p b) s) (segF (renP p b) t) = false) :=
      List.Perm.pairwise_iff (fun {x y} h => by rw [bad_comm]; exact h) ((List.Perm.refl _).append (List.reverse_perm _))
    rw [e1]
    unfold renL
    rw [List.pairwise_append, List.pairwise_append, List.pairwise_map, List.pairwise_map]
    have hl : ∀ s ∈ l, sgInB p.length s = true := fun s hs => mem_seg10 hc (List.mem_append_left _ hs)
    have hi : ∀ s ∈ i, sgInB p.length s = true := fun s hs => mem_seg10 hc (List.mem_append_right _ hs)
    refine and_congr ?_ (and_congr ?_ ?_)
    · refine List.Pairwise.iff_of_mem fun {s t} hs ht => ?_
      rw [(ren_segS hb (hl s hs)).2, (ren_segS hb (hl t ht)).2, bad_flip1, bad_flip2]
    · refine List.Pairwise.iff_of_mem fun {s t} hs ht => ?_
      rw [(ren_segS hb (hi s hs)).1, (ren_segS hb (hi t ht)).1]
    · constructor
      · intro h s hs t ht
        have := h _ (List.mem_map.2 ⟨s, hs, rfl⟩) _ (List.mem_map.2 ⟨t, ht, rfl⟩)
        rwa [(ren_segS hb (hl s hs)).2, (ren_segS hb (hi t ht)).1, bad_flip1] at this
      · intro h s hs t ht
        obtain ⟨s', hs', rfl⟩ := List.mem_map.1 hs
        obtain ⟨t', ht', rfl⟩ := List.mem_map.1 ht
        rw [(ren_segS hb (hl s' hs')).2, (ren_segS hb (hi t' ht')).1, bad_flip1]
        exact h s' hs' t' ht'
  | 3, _ =>
    rw [zero3, zero3]
    have hS : ∀ s ∈ l ++ i, sgInB p.length s = true := fun s hs => mem_seg10 hc hs
    constructor
    · intro h q hq s hs
      have hq' := (renP_perm hb).mem_iff.2 hq
      obtain ⟨x0, x1, y0, y1⟩ := sgInB_iff.1 (hS s hs)
      rcases List.mem_append.1 hs with hl | hi
      · have := h q hq' _ (List.mem_append_left _ (mem_renL.2 ⟨s, hl, rfl⟩))
        unfold renT at this
        dsimp only at this
        rwa [ren_ptI hb x0 x1, ren_ptI hb y0 y1, inside_swap10] at this
      · have := h q hq' _ (List.mem_append_right _ (mem_renI.2 ⟨s, hi, rfl⟩))
        unfold renS at this
        dsimp only at this
        rwa [ren_ptI hb x0 x1, ren_ptI hb y0 y1] at this
    · intro h q hq s hs
      have hq' := (renP_perm hb).mem_iff.1 hq
      rcases List.mem_append.1 hs with hl | hi
      · obtain ⟨t, ht, rfl⟩ := mem_renL.1 hl
        obtain ⟨x0, x1, y0, y1⟩ := sgInB_iff.1 (hS t (List.mem_append_left _ ht))
        unfold renT
        dsimp only
        rw [ren_ptI hb x0 x1, ren_ptI hb y0 y1, inside_swap10]
        exact h q hq' t (List.mem_append_left _ ht)
      · obtain ⟨t, ht, rfl⟩ := mem_renI.1 hi
        obtain ⟨x0, x1, y0, y1⟩ := sgInB_iff.1 (hS t (List.mem_append_right _ ht))
        unfold renS
        dsimp only
        rw [ren_ptI hb x0 x1, ren_ptI hb y0 y1]
        exact h q hq' t (List.mem_append_right _ ht)
  | 4, _ =>
    rw [zero4, zero4, renP_len]
    constructor
    · intro h v v0 v1
      have hv := sgm_in (n := (p.length : Int)) (b := (b : Int)) (x := v) (by omega)
      have := h _ hv.1 hv.2
      rwa [deg_renL hc hb v0 v1] at this
    · intro h v v0 v1
      obtain ⟨u, u0, u1, rfl⟩ := ren_surj hb v0 v1
      rw [deg_renL hc hb u0 u1]
      exact h u u0 u1
  | 5, _ => simp only [chk]; rw [(ren_len _ _ _ []).1]
  | 6, _ =>
    rw [zero6, zero6]
    have key : ∀ s ∈ i, midW (renP p b) (renL p.length b l) (renS p.length b s) = midW p l s := fun s hs => by
      have hin := mem_seg10 hc (List.mem_append_right _ hs)
      have hin' : sgInB (renP p b).length (renS p.length b s) = true := by rw [renP_len]; exact (ren_in (by omega)).1
      rw [midW_10 hc (flTo_le h0 (by omega)) hin, midW_10 hc' (flTo_le h0' (by omega)) hin', ren_where hc hb]
      obtain ⟨x0, x1, y0, y1⟩ := sgInB_iff.1 hin
      have e : midQ (renP p b) (renS p.length b s) = midQ p s := by
        unfold midQ renS
        dsimp only
        rw [ren_ptI hb x0 x1, ren_ptI hb y0 y1]
      rw [e]
    constructor
    · intro h s hs
      rw [← key s hs]
      exact h _ (mem_renI.2 ⟨s, hs, rfl⟩)
    · intro h s hs
      obtain ⟨t, ht, rfl⟩ := mem_renI.1 hs
      rw [key t ht]; exact h t ht
  | 7, _ =>
    rw [zero7, zero7, renP_len]
    constructor
    · intro h v v0 v1 hd
      have hv := sgm_in (n := (p.length : Int)) (b := (b : Int)) (x := v) (by omega)
      have := h _ hv.1 hv.2 (by rw [deg_renS hc hb v0 v1]; exact hd)
      rwa [ren_where hc hb, ren_ptI hb v0 v1] at this
    · intro h v v0 v1 hd
      obtain ⟨u, u0, u1, rfl⟩ := ren_surj hb v0 v1
      rw [deg_renS hc hb u0 u1] at hd
      rw [ren_where hc hb, ren_ptI hb u0 u1]
      exact h u u0 u1 hd
end
end Go.Proofs.Ytpjaefcmaiimlaa

/-
  Layer 10: an input turned round, or mirrored: the same flaw (plain facts).
-/
namespace Go.Proofs.Ytpjaefcmaiimlaa

theorem even_countP : ∀ (k : Nat) (E : List Int), E.length ≤ k → (∀ v, E.count v % 2 = 0) → ∀ g : Int → Bool, E.countP g % 2 = 0
  | 0, E, hk, _, g => by
    have : E = [] := List.length_eq_zero_iff.1 (by omega)
    rw [this]; rfl
  | k + 1, [], _, _, g => rfl
  | k + 1, v :: E, hk, h, g => by
    have hlt : ((v :: E).filter (fun x => !(x == v))).length ≤ k := by
      rw [List.filter_cons_of_neg (by simp)]
      have := List.length_filter_le (fun x => !(x == v)) E
      rw [List.length_cons] at hk
      omega
    have ih := even_countP k ((v :: E).filter (fun x => !(x == v))) hlt (fun u => by
      by_cases e : u = v
      · subst e
        rw [List.count_eq_zero_of_not_mem (by simp)]
      · rw [List.count_filter (by simp [e])]; exact h u) g
    have hs : (v :: E).countP g = ((v :: E).filter (fun x => !(x == v))).countP g + (if g v = true then (v :: E).count v else 0) := by
      generalize v :: E = F
      clear ih hlt h hk
      induction F with
      | nil => simp
      | cons x F ih =>
        rw [List.countP_cons, ih, List.count_cons]
        by_cases e : x = v
        · subst e
          rw [List.filter_cons_of_neg (by simp)]
          by_cases hg : g x = true <;> simp [hg] <;> omega
        · rw [List.filter_cons_of_pos (by simp [e]), List.countP_cons]
          have : (x == v) = false := beq_eq_false_iff_ne.2 e
          by_cases hg : g v = true <;> by_cases hx : g x = true <;> simp [hg, hx, this] <;> omega
    rw [hs]
    have := h v
    split <;> omega
theorem take_snoc10 (l : List Pt) {k : Nat} (h : k < l.length) : l.take (k + 1) = l.take k ++ [pget l k] := by
  rw [List.take_add_one, List.getElem?_eq_getElem h, pget_getElem h]; rfl
theorem xor_count (l : List Pt) (g : Int → Bool) : ∀ m, m ≤ l.length → xorN (fun j => g (pget l j).x != g (pget l j).y) m = decide ((((l.take m).map (·.x)).countP g + ((l.take m).map (·.y)).countP g) % 2 = 1)
  | 0, _ => by simp [xorN]
  | m + 1, h => by
    rw [xorN_succ, xor_count l g m (by omega), take_snoc10 l (by omega), List.map_append, List.map_append, List.countP_append, List.countP_append]
    simp only [List.map_cons, List.map_nil, List.countP_cons, List.countP_nil, Nat.zero_add]
    generalize ((l.take m).map (·.x)).countP g = a
    generalize ((l.take m).map (·.y)).countP g = b
    rw [Bool.eq_iff_iff]
    cases g (pget l m).x <;> cases g (pget l m).y <;> simp <;> omega
theorem even_xor {l : List Pt} (hd : ∀ v, deg l v % 2 = 0) (g : Int → Bool) : xorN (fun j => g (pget l j).x != g (pget l j).y) l.length = false := by
  rw [xor_count l g l.length (Nat.le_refl _), List.take_length, ← List.countP_append]
  have := even_countP _ (l.map (·.x) ++ l.map (·.y)) (Nat.le_refl _) (fun v => by rw [List.count_append, ← deg_xy]; exact hd v) g
  rw [this]; rfl
theorem good_even {n : Nat} {l : List Pt} (G : Good n l) (v : Int) : deg l v % 2 = 0 := by
  by_cases h : 0 ≤ v ∧ v < (n : Int)
  · unfold deg
    rcases G.two v h.1 h.2 with e | ⟨a, b, e⟩ <;> rw [e] <;> simp
  · have : deg l v = 0 := by
      unfold deg
      rw [List.length_eq_zero_iff, List.eq_nil_iff_forall_not_mem]
      intro q hq
      obtain ⟨-, -, -, h1, h2⟩ := nbs_in G.ok hq
      exact h ⟨h1, h2⟩
    rw [this]
/-- a map under which what lies to the right turns with the places' sides -/
theorem turn_where {F : Pt → Pt} {s : Int} (hk : ∀ l, Keeps F s l) {g : Pt → Pt → Bool}
    (hr : ∀ {a b q : Pt}, fitB a = true → fitB b = true → fitB q = true → onB a b q = false → a ≠ b → (rightB a b q != rightB (F a) (F b) (F q)) = (g q a != g q b))
    {l : List Pt} (hd : ∀ v, deg l v % 2 = 0) {P : Int → Pt} (hf : ∀ j, j < l.length → fitB (P (pget l j).x) = true ∧ fitB (P (pget l j).y) = true) (hne : ∀ j, j < l.length → P (pget l j).x ≠ P (pget l j).y) {q : Pt} (hq : fitB q = true) :
    whereN l.length (fun j => (F (P (pget l j).x), F (P (pget l j).y))) (F q) = whereN l.length (fun j => (P (pget l j).x, P (pget l j).y)) q := by
  have e1 : anyN (fun j => onB (F (P (pget l j).x)) (F (P (pget l j).y)) (F q)) l.length = anyN (fun j => onB (P (pget l j).x) (P (pget l j).y) q) l.length :=
    anyN_congr fun j _ => (hk [P (pget l j).x, P (pget l j).y, q]).on (by simp) (by simp) (by simp)
  unfold whereN
  dsimp only
  rw [e1]
  split
  · rfl
  next h0 =>
  have h0 := anyN_no.1 (Bool.eq_false_iff.2 h0)
  have e2 : xorN (fun j => rightB (P (pget l j).x) (P (pget l j).y) q) l.length = xorN (fun j => rightB (F (P (pget l j).x)) (F (P (pget l j).y)) (F q)) l.length := by
    have k := even_xor hd (fun x => g q (P x))
    have kk := xorN_congr (n := l.length) (f := fun j => rightB (P (pget l j).x) (P (pget l j).y) q != rightB (F (P (pget l j).x)) (F (P (pget l j).y)) (F q)) (g := fun j => g q (P (pget l j).x) != g q (P (pget l j).y)) fun j hj => hr (hf j hj).1 (hf j hj).2 hq (h0 j hj) (hne j hj)
    rw [k, xorN_xor] at kk
    clear k
    revert kk
    cases xorN (fun j => rightB (P (pget l j).x) (P (pget l j).y) q) l.length <;> cases xorN (fun j => rightB (F (P (pget l j).x)) (F (P (pget l j).y)) (F q)) l.length <;> simp
  rw [e2]
def lowB (q a : Pt) : Bool := decide (q.y < a.y)
set_option maxHeartbeats 4000000 in
theorem core_mir {u v s t P R X Y : Int} (hP : Sgn u t P) (hR : Sgn s v R) (hX : Sgn u s X) (hY : Sgn v t Y) (hn : ¬ (P - R = 0 ∧ X + Y ≤ 0)) :
    (((0 < v ∧ ¬ 0 < t ∧ P - R < 0) ∨ (¬ 0 < v ∧ 0 < t ∧ 0 < P - R)) ↔ ((0 < v ∧ ¬ 0 < t ∧ -(P - R) < 0) ∨ (¬ 0 < v ∧ 0 < t ∧ 0 < -(P - R)))) ↔ ((0 < v) ↔ (0 < t)) := by
  rcases Int.lt_trichotomy v 0 with ha | ha | ha <;> rcases Int.lt_trichotomy t 0 with hb | hb | hb <;> rcases Int.lt_trichotomy u 0 with ka | ka | ka <;> rcases Int.lt_trichotomy s 0 with kb | kb | kb
  all_goals
    first | (have p0 := hP.pp (by assumption) (by assumption)) | (have p0 := hP.pn (by assumption) (by assumption)) | (have p0 := hP.np (by assumption) (by assumption)) | (have p0 := hP.nn (by assumption) (by assumption)) | (have p0 := hP.zl (by assumption)) | (have p0 := hP.zr (by assumption))
    first | (have r0 := hR.pp (by assumption) (by assumption)) | (have r0 := hR.pn (by assumption) (by assumption)) | (have r0 := hR.np (by assumption) (by assumption)) | (have r0 := hR.nn (by assumption) (by assumption)) | (have r0 := hR.zl (by assumption)) | (have r0 := hR.zr (by assumption))
    first | (have x0 := hX.pp (by assumption) (by assumption)) | (have x0 := hX.pn (by assumption) (by assumption)) | (have x0 := hX.np (by assumption) (by assumption)) | (have x0 := hX.nn (by assumption) (by assumption)) | (have x0 := hX.zl (by assumption)) | (have x0 := hX.zr (by assumption))
    first | (have y0 := hY.pp (by assumption) (by assumption)) | (have y0 := hY.pn (by assumption) (by assumption)) | (have y0 := hY.np (by assumption) (by assumption)) | (have y0 := hY.nn (by assumption) (by assumption)) | (have y0 := hY.zl (by assumption)) | (have y0 := hY.zr (by assumption))
    clear hP hR hX hY
    omega
theorem right_mir {a b q : Pt} (fa : fitB a = true) (fb : fitB b = true) (fq : fitB q = true) (h : onB a b q = false) (hab : a ≠ b) :
    (rightB a b q != rightB (mirP a) (mirP b) (mirP q)) = (lowB q a != lowB q b) := by
  have hn : ¬ (crossZ a b q = 0 ∧ dotZ a b q ≤ 0) := fun k => by
    rw [(onB_iff fa fb fq).2 ⟨hab, k.1, k.2⟩] at h; cases h
  refine bool4 ?_
  rw [right_iff, right_iff]
  have e : crossZ (mirP a) (mirP b) (mirP q) = - crossZ a b q := by unfold crossZ mirP; grind
  rw [e]
  unfold lowB mirP
  dsimp only
  rw [cross_q] at *
  unfold dotZ at hn
  have k := core_mir (sgn_mul (a.x - q.x) (b.y - q.y)) (sgn_mul (b.x - q.x) (a.y - q.y)) (sgn_mul (a.x - q.x) (b.x - q.x)) (sgn_mul (a.y - q.y) (b.y - q.y)) hn
  have c1 : (0 < a.y - q.y) = (q.y < a.y) := propext (by omega)
  have c2 : (0 < b.y - q.y) = (q.y < b.y) := propext (by omega)
  rw [c1, c2] at k
  simp only [decide_eq_true_eq]
  exact k
theorem scale_mir (k : Int) (a : Pt) : scaleP k (mirP a) = mirP (scaleP k a) := by
  unfold scaleP mirP
  exact Pt.ext' (by dsimp only; rw [Int.mul_neg]) rfl
theorem scale_rot (k : Int) (a : Pt) : scaleP k (rotP a) = rotP (scaleP k a) := by
  unfold scaleP rotP
  exact Pt.ext' (by dsimp only; rw [Int.mul_neg]) rfl
theorem rot_mir (a : Pt) : rotP a = mirP (swapP a) := rfl
/-- what the ends of a right input's segments are, made greater -/
theorem ends_10 {p l i : List Pt} (hc : ChkOk p l i) (h : (flTo p l i 2).k = 0) {k : Int} (h0 : 0 < k) (h3 : k ≤ 3) {j : Nat} (hj : j < l.length) :
    (fitB (scaleP k (ptI p (pget l j).x)) = true ∧ fitB (scaleP k (ptI p (pget l j).y)) = true) ∧ scaleP k (ptI p (pget l j).x) ≠ scaleP k (ptI p (pget l j).y) := by
  obtain ⟨x0, x1, y0, y1⟩ := sgInB_iff.1 (hc.sl j hj)
  refine ⟨⟨fit_scale (place_ptI hc x0 x1) (by omega) h3, fit_scale (place_ptI hc y0 y1) (by omega) h3⟩, fun e => ?_⟩
  have hk := ok9_all hc h (a := j) (by rw [List.length_append]; omega)
  rw [pget_left hj] at hk
  obtain ⟨-, -, hne⟩ := ok9_iff.1 hk
  unfold scaleP at e
  injection e with e1 e2
  exact hne (Pt.ext' (Int.eq_of_mul_eq_mul_left (by omega) e1) (Int.eq_of_mul_eq_mul_left (by omega) e2))
theorem where_mir {p l i : List Pt} (hc : ChkOk p l i) (h : (flTo p l i 5).k = 0) {k : Int} (h0 : 0 < k) (h3 : k ≤ 3) {q : Pt} (hq : fitB q = true) : whereZ k (p.map mirP) l (mirP q) = whereZ k p l q := by
  have hd := good_even (good_10 hc h)
  have he := fun j hj => ends_10 hc (flTo_le h (by omega)) h0 h3 (j := j) hj
  have t := turn_where mir_keeps right_mir hd (P := fun x => scaleP k (ptI p x)) (fun j hj => (he j hj).1) (fun j hj => (he j hj).2) hq
  unfold whereZ
  rw [whereN_congr (e := endsOf k (p.map mirP) l) (e' := fun j => (mirP (scaleP k (ptI p (pget l j).x)), mirP (scaleP k (ptI p (pget l j).y)))) (fun j hj => by
    obtain ⟨x0, x1, y0, y1⟩ := sgInB_iff.1 (hc.sl j hj)
    unfold endsOf
    rw [ptI_map _ x0 x1, ptI_map _ y0 y1, scale_mir, scale_mir])]
  exact t
theorem where_rot {p l i : List Pt} (hc : ChkOk p l i) (h : (flTo p l i 5).k = 0) {k : Int} (h0 : 0 < k) (h3 : k ≤ 3) {q : Pt} (hq : fitB q = true) : whereZ k (p.map rotP) l (rotP q) = whereZ k p l q := by
  have hd := good_even (good_10 hc h)
  have he := fun j hj => ends_10 hc (flTo_le h (by omega)) h0 h3 (j := j) hj
  have fsw : ∀ x : Pt, fitB (swapP x) = fitB x := fun x => (swap_keeps [x]).fit x (by simp)
  have t1 := turn_where swap_keeps right_swap hd (P := fun x => scaleP k (ptI p x)) (fun j hj => (he j hj).1) (fun j hj => (he j hj).2) hq
  have t2 := turn_where mir_keeps right_mir hd (P := fun x => swapP (scaleP k (ptI p x))) (fun j hj => by rw [fsw, fsw]; exact (he j hj).1) (fun j hj e => (he j hj).2 (by
    unfold swapP at e
    injection e with e1 e2
    exact Pt.ext' e2 e1)) (q := swapP q) (by rw [fsw]; exact hq)
  unfold whereZ
  rw [whereN_congr (e := endsOf k (p.map rotP) l) (e' := fun j => (mirP (swapP (scaleP k (ptI p (pget l j).x))), mirP (swapP (scaleP k (ptI p (pget l j).y))))) (fun j hj => by
    obtain ⟨x0, x1, y0, y1⟩ := sgInB_iff.1 (hc.sl j hj)
    unfold endsOf
    rw [ptI_map _ x0 x1, ptI_map _ y0 y1, scale_rot, scale_rot]; rfl)]
  rw [rot_mir]
  exact t2.trans t1
theorem chk_turn {F : Pt → Pt} (hF : ∀ q, placeB (F q) = placeB q) {p l i : List Pt} (hc : ChkOk p l i) : ChkOk (p.map F) l i := by
  refine ⟨by rw [List.length_map]; exact hc.n, hc.nl, hc.ni, fun j hj => ?_, fun j hj => by rw [List.length_map]; exact hc.sl j hj, fun j hj => by rw [List.length_map]; exact hc.si j hj⟩
  rw [List.length_map] at hj
  rw [pget_map10 F hj, hF]; exact hc.pl j hj
theorem place_mir (q : Pt) : placeB (mirP q) = placeB q := by
  rw [Bool.eq_iff_iff, place_iff, place_iff]
  unfold mirP
  dsimp only
  omega
theorem place_rot (q : Pt) : placeB (rotP q) = placeB q := by
  rw [Bool.eq_iff_iff, place_iff, place_iff]
  unfold rotP
  dsimp only
  omega
theorem turn_flaw {F : Pt → Pt} {s : Int} (hk : ∀ l, Keeps F s l) (hap : ∀ a b c d, apartB (F a) (F b) (F c) (F d) = apartB a b c d) (hF : ∀ q, placeB (F q) = placeB q)
    (hm : ∀ a b : Pt, (⟨(F a).x + (F b).x, (F a).y + (F b).y⟩ : Pt) = F ⟨a.x + b.x, a.y + b.y⟩)
    {p l i : List Pt} (hc : ChkOk p l i) (hw : ∀ (k : Int), (flTo p l i 5).k = 0 → 0 < k → k ≤ 3 → ∀ (q : Pt), fitB q = true → whereZ k (p.map F) l (F q) = whereZ k p l q) : flTo (p.map F) l i 8 = flTo p l i 8 := by
  have hc' := chk_turn hF hc
  refine keep_flaw hc ⟨(hk []).inj, fun a b c d _ _ _ _ => ((hk [a, b, c, d]).segs (hap a b c d)).1, fun a b c _ _ _ => (hk [a, b, c]).inside (by simp) (by simp) (by simp), fun hz a ha => ?_, fun hz a ha => hw 1 (flTo_le hz (by omega)) (by omega) (by omega) _ (place_fit (hc.pl a ha))⟩
  have hs := hc.si a ha
  have hs' := hc'.si a ha
  rw [midW_10 hc (flTo_le hz (by omega)) hs, midW_10 hc' (chk01_map (hk []).inj (flTo_le hz (by omega))) hs']
  obtain ⟨x0, x1, y0, y1⟩ := sgInB_iff.1 hs
  have e : midQ (p.map F) (pget i a) = F (midQ p (pget i a)) := by
    unfold midQ
    rw [ptI_map _ x0 x1, ptI_map _ y0 y1, hm]
  rw [e, hw 2 (flTo_le hz (by omega)) (by omega) (by omega) _ (midQ_fit hc hs)]
theorem mir_flaw {p l i : List Pt} (hc : ChkOk p l i) : flTo (p.map mirP) l i 8 = flTo p l i 8 :=
  turn_flaw mir_keeps mir_apart place_mir (fun a b => by unfold mirP; exact Pt.ext' (by dsimp only; omega) rfl) hc (fun _ h h0 h3 _ hq => where_mir hc h h0 h3 hq)
theorem rot_flaw {p l i : List Pt} (hc : ChkOk p l i) : flTo (p.map rotP) l i 8 = flTo p l i 8 :=
  turn_flaw rot_keeps rot_apart place_rot (fun a b => by unfold rotP; exact Pt.ext' (by dsimp only; omega) rfl) hc (fun _ h h0 h3 _ hq => where_rot hc h h0 h3 hq)
end Go.Proofs.Ytpjaefcmaiimlaa

/-
  Layer 10: an append to a field of a variable, within a region.
-/
namespace Go.Proofs.Ytpjaefcmaiimlaa
open Go.RowKit

theorem app_pts10_wp {o : Oper} {a : Act} {K : Act → World → Prop} {Q : Exit → Act → World → Prop} {T TS : TypeId} {w W : World} {D L : List Pt} {v : Value} {c g j : Nat} (hu : Try.prog.underlying TS = some (.slice T)) (hi : (Try.prog.info? T).map (fun i => (i.zero, i.size, i.bytes)) = some (some (.agg #[.int .i64 0, .int .i64 0]), 2, 16)) (s x : Operand)
    (ho : o.op = .call { callee := .builtin .append, args := #[s, x], argTypes := #[TS, TS] }) (hs : a.eval s = v) (hO : Op T w v D W) (hx : a.eval x = .slice (some ⟨g, j, none⟩) L.length c) (hL : PtRow W (some ⟨g, j, none⟩) L)
    (hlen : D.length + L.length ≤ 1000000) (h : ∀ v' W', Op T w v' (D ++ L) W' → W.grownBy W' v.ownBlock → (v'.ownBlock = v.ownBlock ∨ v'.ownBlock = some W.heap.size) → K (a.put o.dst v') W') : o.wp Try.prog a W K Q := by
  obtain ⟨e0, hi0, hz0, hz1, hz2⟩ := info_parts hi
  obtain ⟨v', W', hr, ho', hg, -, hloc⟩ := run_append_own_at (P := Try.prog) W w.heap.size TS o.type T e0 (.agg #[.int .i64 0, .int .i64 0]) 2 16 hu hi0 hz0 hz1 hz2 rfl (by decide) v _ _ hO.own ⟨g, j, none⟩ L.length c (pv L) (pv_len L) (pv_cells hL) (pv_one L) (by unfold maxLen; omega) (by omega) hO.sz
  exact Lib.wp_append_run W s x TS TS ho v (.slice (some ⟨g, j, none⟩) L.length c) hs hx v' W' hr (h v' W' (hO.more (by simp) ho' hg) hg hloc)
theorem Var.belowB {B : Nat} {W W' : World} {g : Nat} {vs : List Value} (h : Var W g vs) (hb : Below B W W') (hg : g < B) : Var W' g vs :=
  ⟨Nat.lt_of_lt_of_le h.lt hb.size, fun i hi => (hb.cell (p := ⟨g, i, none⟩) hg).trans (h.cells i hi), fun i hi => (hb.frozen (p := ⟨g, i, none⟩) hg).trans (h.free i hi)⟩
theorem row1_new (W : World) (q : Pt) (t : TypeId) : PtRow (W.alloc (.cells #[.int .i64 q.x, .int .i64 q.y] t)) (some ⟨W.heap.size, 0, none⟩) [q] := by
  intro i hi
  obtain rfl : i = 0 := by simp at hi; omega
  exact ⟨_, _, rfl, by simp [pget, go_sem], by simp [pget, go_sem]⟩
end Go.Proofs.Ytpjaefcmaiimlaa
