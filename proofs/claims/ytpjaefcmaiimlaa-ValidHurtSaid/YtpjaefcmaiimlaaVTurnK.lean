/-
  Layer 10: an input whose places are moved: the same flaw (plain facts).
-/
import Derived.Test.YtpjaefcmaiimlaaVMaths
import Derived.Test.YtpjaefcmaiimlaaRLoopsAll
import Derived.Test.YtpjaefcmaiimlaaGeoMath
set_option linter.unusedVariables false
set_option linter.unusedSimpArgs false
set_option linter.deprecated false
namespace Go.Proofs.Ytpjaefcmaiimlaa

theorem fl1_congr {k : Int} {f g : Nat → Bool} {n : Nat} (h : ∀ i, i < n → f i = g i) : fl1 k f n = fl1 k g n := by
  unfold fl1; rw [firstN_congr h]
theorem fl2_congr {k : Int} {f g : Nat → Nat → Bool} {n m : Nat} (h : ∀ i j, i < n → j < m → f i j = g i j) : fl2 k f n m = fl2 k g n m := by
  rcases fl2_cases k f n m with ⟨e, h1⟩ | ⟨i, j, hi, hj, e, h1, h2⟩
  · rw [e, fl2_no fun i j hi hj => by rw [← h i j hi hj]; exact h1 i j hi hj]
  · rw [e, fl2_at hi hj (by rw [← h i j hi hj]; exact h1) fun a b ha hb hab => by rw [← h a b ha hb]; exact h2 a b ha hb hab]
theorem flTo_congr {p l i p' l' i' : List Pt} (h : ∀ j, j < 8 → (flTo p l i j).k = 0 → chk p' l' i' j = chk p l i j) : ∀ j, j ≤ 8 → flTo p' l' i' j = flTo p l i j
  | 0, _ => rfl
  | j + 1, hj => by
    have ih := flTo_congr h j (by omega)
    rw [flTo, flTo, ih]
    by_cases h0 : (flTo p l i j).k = 0
    · rw [if_pos h0, if_pos h0, h j (by omega) h0]
    · rw [if_neg h0, if_neg h0]
theorem pget_map10 {p : List Pt} (f : Pt → Pt) {j : Nat} (h : j < p.length) : pget (p.map f) j = f (pget p j) := by
  unfold pget
  rw [List.getD_eq_getElem?_getD, List.getD_eq_getElem?_getD, List.getElem?_map, List.getElem?_eq_getElem h]
  rfl
theorem ptI_map {p : List Pt} (f : Pt → Pt) {x : Int} (h0 : 0 ≤ x) (h1 : x < (p.length : Int)) : ptI (p.map f) x = f (ptI p x) := by
  unfold ptI
  rw [pget_map10 f (by omega)]
theorem seg_map {p : List Pt} (f : Pt → Pt) {s : Pt} (h : sgInB p.length s = true) : segF (p.map f) s = ⟨f (segF p s).a, f (segF p s).b⟩ := by
  obtain ⟨a, b, c, d⟩ := sgInB_iff.1 h
  unfold segF
  rw [ptI_map f a b, ptI_map f c d]
/-- what a map of the places must keep -/
structure KeepF (f : Pt → Pt) (p l i : List Pt) : Prop where
  eq : ∀ a b, eqB (f a) (f b) = eqB a b
  seg : ∀ a b c d, a ∈ p → b ∈ p → c ∈ p → d ∈ p → segsN (f a) (f b) (f c) (f d) = segsN a b c d
  ins : ∀ a b c, a ∈ p → b ∈ p → c ∈ p → insideB (f a) (f b) (f c) = insideB a b c
  mid : (flTo p l i 6).k = 0 → ∀ a, a < i.length → midW (p.map f) l (pget i a) = midW p l (pget i a)
  whr : (flTo p l i 6).k = 0 → ∀ a, a < p.length → whereZ 1 (p.map f) l (f (pget p a)) = whereZ 1 p l (pget p a)
theorem pget_mem10 {p : List Pt} {j : Nat} (h : j < p.length) : pget p j ∈ p := by rw [pget_getElem h]; exact List.getElem_mem h
theorem ptI_mem10 {p : List Pt} {x : Int} (h0 : 0 ≤ x) (h1 : x < (p.length : Int)) : ptI p x ∈ p := by unfold ptI; exact pget_mem10 (by omega)
theorem keep_flaw {f : Pt → Pt} {p l i : List Pt} (hc : ChkOk p l i) (K : KeepF f p l i) : flTo (p.map f) l i 8 = flTo p l i 8 := by
  refine flTo_congr (fun j hj hz => ?_) 8 (Nat.le_refl _)
  have hlen : (p.map f).length = p.length := List.length_map _
  match j, hj with
  | 0, _ =>
    simp only [chk]
    rw [hlen]
    refine fl2_congr fun a b ha hb => ?_
    unfold alikeF
    rw [pget_map10 f ha, pget_map10 f hb, K.eq]
  | 1, _ => rfl
  | 2, _ =>
    simp only [chk]
    refine fl2_congr fun a b ha hb => ?_
    unfold meetF
    have sa := chk_seg hc ha
    have sb := chk_seg hc hb
    rw [seg_map f sa, seg_map f sb]
    obtain ⟨a0, a1, a2, a3⟩ := sgInB_iff.1 sa
    obtain ⟨b0, b1, b2, b3⟩ := sgInB_iff.1 sb
    unfold badB segF
    rw [K.seg _ _ _ _ (ptI_mem10 a0 a1) (ptI_mem10 a2 a3) (ptI_mem10 b0 b1) (ptI_mem10 b2 b3)]
  | 3, _ =>
    simp only [chk]
    rw [hlen]
    refine fl2_congr fun a b ha hb => ?_
    unfold coverF
    obtain ⟨b0, b1, b2, b3⟩ := sgInB_iff.1 (chk_seg hc hb)
    rw [ptI_map f b0 b1, ptI_map f b2 b3, pget_map10 f ha, K.ins _ _ _ (ptI_mem10 b0 b1) (ptI_mem10 b2 b3) (pget_mem10 ha)]
  | 4, _ => simp only [chk]; rw [hlen]
  | 5, _ => rfl
  | 6, _ =>
    simp only [chk]
    refine fl1_congr fun a ha => ?_
    rw [K.mid hz a ha]
  | 7, _ =>
    simp only [chk]
    rw [hlen]
    refine fl1_congr fun a ha => ?_
    unfold strayF
    rw [pget_map10 f ha, K.whr (flTo_le hz (by omega)) a ha]
theorem where_map {n : Nat} {e e' : Nat → Pt × Pt} {q q' : Pt} (h : ∀ i, i < n → onB (e' i).1 (e' i).2 q' = onB (e i).1 (e i).2 q) (hr : ∀ i, i < n → rightB (e' i).1 (e' i).2 q' = rightB (e i).1 (e i).2 q) : whereN n e' q' = whereN n e q := by
  unfold whereN
  rw [anyN_congr h, xorN_congr hr]
theorem right_add (t a b q : Pt) : rightB (addP t a) (addP t b) (addP t q) = rightB a b q := by
  have e : crossZ (addP t a) (addP t b) (addP t q) = crossZ a b q := by unfold crossZ addP; grind
  have e1 : ((addP t b).y - (addP t a).y) = b.y - a.y := by unfold addP; dsimp only; omega
  unfold rightB
  rw [e, e1]
  have c1 : decide ((addP t q).y < (addP t a).y) = decide (q.y < a.y) := decide_eq_decide.2 (by unfold addP; dsimp only; omega)
  have c2 : decide ((addP t q).y < (addP t b).y) = decide (q.y < b.y) := decide_eq_decide.2 (by unfold addP; dsimp only; omega)
  rw [c1, c2]
theorem on_add (t : Pt) {a b q : Pt} (h : ∀ x ∈ [a, b, q], fitB x = true ∧ fitB (addP t x) = true) : onB (addP t a) (addP t b) (addP t q) = onB a b q :=
  (add_keeps t [a, b, q] h).on (by simp) (by simp) (by simp)
theorem scale_add (k : Int) (t a : Pt) : scaleP k (addP t a) = addP (scaleP k t) (scaleP k a) := by
  unfold scaleP addP
  exact Pt.ext' (by dsimp only; rw [Int.mul_add]) (by dsimp only; rw [Int.mul_add])
theorem fit_scale {q : Pt} (h : placeB q = true) {k : Int} (h0 : 0 ≤ k) (h3 : k ≤ 3) : fitB (scaleP k q) = true := by
  have := place_iff.1 h
  rw [fitB_iff]
  unfold Pt.fits scaleP
  have c : k = 0 ∨ k = 1 ∨ k = 2 ∨ k = 3 := by omega
  rcases c with rfl | rfl | rfl | rfl <;> (dsimp only; omega)
theorem place_ptI {p l i : List Pt} (hc : ChkOk p l i) {x : Int} (h0 : 0 ≤ x) (h1 : x < (p.length : Int)) : placeB (ptI p x) = true := by
  unfold ptI; exact hc.pl _ (by omega)
theorem where_add {t : Pt} {p l i : List Pt} (hc : ChkOk p l i) (hc' : ChkOk (p.map (addP t)) l i) {k : Int} (h0 : 0 ≤ k) (h3 : k ≤ 3) {q : Pt} (hq : fitB q = true) (hq' : fitB (addP (scaleP k t) q) = true) :
    whereZ k (p.map (addP t)) l (addP (scaleP k t) q) = whereZ k p l q := by
  have key : ∀ x : Int, 0 ≤ x → x < (p.length : Int) → scaleP k (ptI (p.map (addP t)) x) = addP (scaleP k t) (scaleP k (ptI p x)) ∧ fitB (scaleP k (ptI p x)) = true ∧ fitB (addP (scaleP k t) (scaleP k (ptI p x))) = true := by
    intro x x0 x1
    have e : scaleP k (ptI (p.map (addP t)) x) = addP (scaleP k t) (scaleP k (ptI p x)) := by rw [ptI_map _ x0 x1, scale_add]
    refine ⟨e, fit_scale (place_ptI hc x0 x1) h0 h3, ?_⟩
    rw [← e]
    exact fit_scale (place_ptI hc' x0 (by rw [List.length_map]; exact x1)) h0 h3
  unfold whereZ
  refine where_map (fun j hj => ?_) (fun j hj => ?_)
  · obtain ⟨x0, x1, y0, y1⟩ := sgInB_iff.1 (hc.sl j hj)
    obtain ⟨e1, f1, g1⟩ := key _ x0 x1
    obtain ⟨e2, f2, g2⟩ := key _ y0 y1
    unfold endsOf
    dsimp only
    rw [e1, e2]
    exact on_add _ (by simp only [List.mem_cons, List.not_mem_nil, or_false]; rintro x (rfl | rfl | rfl) <;> constructor <;> assumption)
  · obtain ⟨x0, x1, y0, y1⟩ := sgInB_iff.1 (hc.sl j hj)
    unfold endsOf
    dsimp only
    rw [(key _ x0 x1).1, (key _ y0 y1).1, right_add]
theorem add_inj (t a b : Pt) : eqB (addP t a) (addP t b) = eqB a b := eqB_map (fun p q h => by
  injection h with h1 h2
  exact Pt.ext' (by omega) (by omega)) a b
theorem chk01_map {f : Pt → Pt} (hf : ∀ a b, eqB (f a) (f b) = eqB a b) {p l i : List Pt} (h : (flTo p l i 2).k = 0) : (flTo (p.map f) l i 2).k = 0 := by
  rw [flTo_zero] at h ⊢
  intro m hm
  have := h m hm
  match m, hm with
  | 0, _ =>
    have e : chk (p.map f) l i 0 = chk p l i 0 := by
      simp only [chk]
      rw [List.length_map]
      refine fl2_congr fun a b ha hb => ?_
      unfold alikeF
      rw [pget_map10 f ha, pget_map10 f hb, hf]
    rw [e]; exact this
  | 1, _ => exact this
theorem moved_flaw {t : Pt} {p l i : List Pt} (hc : ChkOk p l i) (hc' : ChkOk (p.map (addP t)) l i) : flTo (p.map (addP t)) l i 8 = flTo p l i 8 := by
  have hfit : ∀ x ∈ p, fitB x = true ∧ fitB (addP t x) = true := fun x hx => by
    obtain ⟨j, hj, rfl⟩ := List.mem_iff_getElem.1 hx
    have h1 := hc.pl j hj
    have h2 := hc'.pl j (by rw [List.length_map]; exact hj)
    rw [pget_map10 _ hj, pget_getElem hj] at h2
    rw [pget_getElem hj] at h1
    exact ⟨place_fit h1, place_fit h2⟩
  refine keep_flaw hc ⟨add_inj t, fun a b c d ha hb hcc hd => ?_, fun a b c ha hb hcc => ?_, fun hz a ha => ?_, fun hz a ha => ?_⟩
  · exact ((add_keeps t [a, b, c, d] (by simp only [List.mem_cons, List.not_mem_nil, or_false]; rintro x (rfl | rfl | rfl | rfl) <;> exact hfit _ (by assumption))).segs (add_apart t a b c d)).1
  · exact (add_keeps t [a, b, c] (by simp only [List.mem_cons, List.not_mem_nil, or_false]; rintro x (rfl | rfl | rfl) <;> exact hfit _ (by assumption))).inside (by simp) (by simp) (by simp)
  · have hs := hc.si a ha
    have hs' := hc'.si a ha
    rw [midW_10 hc (flTo_le hz (by omega)) hs, midW_10 hc' (chk01_map (add_inj t) (flTo_le hz (by omega))) hs']
    obtain ⟨x0, x1, y0, y1⟩ := sgInB_iff.1 hs
    have e : midQ (p.map (addP t)) (pget i a) = addP (scaleP 2 t) (midQ p (pget i a)) := by
      unfold midQ
      rw [ptI_map _ x0 x1, ptI_map _ y0 y1]
      unfold addP scaleP
      exact Pt.ext' (by dsimp only; omega) (by dsimp only; omega)
    rw [e, where_add hc hc' (by omega) (by omega) (midQ_fit hc hs) (by rw [← e]; exact midQ_fit hc' hs')]
  · have h2 := hc'.pl a (by rw [List.length_map]; exact ha)
    rw [pget_map10 _ ha] at h2
    have := where_add hc hc' (k := 1) (by omega) (by omega) (place_fit (hc.pl a ha)) (by rw [scale_one]; exact place_fit h2)
    rwa [scale_one] at this
end Go.Proofs.Ytpjaefcmaiimlaa
