/-
  Proved: for every input (a slice of points and two slices of segments) and every point the law ValidMoved returns true, and its arguments read as they did. No condition.
-/
import Derived.Test.YtiebmlhglgpajaaVMaths
import Derived.Test.YtiebmlhglgpajaaRLoopsAll
import Derived.Test.YtiebmlhglgpajaaGeoMath
import Derived.Test.YtiebmlhglgpajaaVLawK
import Derived.Test.YtiebmlhglgpajaaVMany
import Derived.Test.YtiebmlhglgpajaaVRefCA
import Derived.Test.YtiebmlhglgpajaaOpenPoly
import Derived.Test.YtiebmlhglgpajaaKnown3
/-
  Layer 10: an input whose places are moved: the same flaw (plain facts).
-/
namespace Go.Proofs.Ytiebmlhglgpajaa

theorem fl1_congr {k : Int} {f g : Nat → Bool} {n : Nat} (h : ∀ i, i < n → f i = g i) : fl1 k f n = fl1 k g n := by
  unfold fl1; rw [firstN_congr h]
theorem fl2_congr {k : Int} {f g : Nat → Nat → Bool} {n m : Nat} (h : ∀ i j, i < n → j < m → f i j = g i j) : fl2 k f n m = fl2 k g n m := by
  rcases fl2_cases k f n m with ⟨e, h1⟩ | ⟨i, j, hi, hj, e, h1, h2⟩
  · rw [e, fl2_no fun i j hi hj => by rw [← h i j hi hj]; exact h1 i j hi hj]
  · rw [e, fl2_at hi hj (by rw [← h i j hi hj]; exact h1) fun a b ha hb hab => by rw [← h a b ha hb]; exact h2 a b ha hb hab]
theorem flTo_congr {p l i p' l' i' : List Pt} (h : ∀ j, j < 8 → (flTo p l i j).k = 0 → chk p' l' i' j = chk p l i j) : ∀ j, j ≤ 8 → flTo p' l' i' j = flTo p l i j
  | 0, _ => rfl
  | j + 1, hj => by
    have ih := flTo_congr h j (by omega)
    rw [flTo, flTo, ih]
    by_cases h0 : (flTo p l i j).k = 0
    · rw [if_pos h0, if_pos h0, h j (by omega) h0]
    · rw [if_neg h0, if_neg h0]
theorem pget_map {p : List Pt} (f : Pt → Pt) {j : Nat} (h : j < p.length) : pget (p.map f) j = f (pget p j) := by
  unfold pget
  rw [List.getD_eq_getElem?_getD, List.getD_eq_getElem?_getD, List.getElem?_map, List.getElem?_eq_getElem h]
  rfl
theorem ptI_map {p : List Pt} (f : Pt → Pt) {x : Int} (h0 : 0 ≤ x) (h1 : x < (p.length : Int)) : ptI (p.map f) x = f (ptI p x) := by
  unfold ptI
  rw [pget_map f (by omega)]
theorem seg_map {p : List Pt} (f : Pt → Pt) {s : Pt} (h : sgInB p.length s = true) : segF (p.map f) s = ⟨f (segF p s).a, f (segF p s).b⟩ := by
  obtain ⟨a, b, c, d⟩ := sgInB_iff.1 h
  unfold segF
  rw [ptI_map f a b, ptI_map f c d]
/-- what a map of the places must keep -/
structure KeepF (f : Pt → Pt) (p l i : List Pt) : Prop where
  eq : ∀ a b, eqB (f a) (f b) = eqB a b
  seg : ∀ a b c d, a ∈ p → b ∈ p → c ∈ p → d ∈ p → segsN (f a) (f b) (f c) (f d) = segsN a b c d
  ins : ∀ a b c, a ∈ p → b ∈ p → c ∈ p → insideB (f a) (f b) (f c) = insideB a b c
  mid : (flTo p l i 6).k = 0 → ∀ a, a < i.length → midW (p.map f) l (pget i a) = midW p l (pget i a)
  whr : (flTo p l i 6).k = 0 → ∀ a, a < p.length → whereZ 1 (p.map f) l (f (pget p a)) = whereZ 1 p l (pget p a)
theorem pget_mem10 {p : List Pt} {j : Nat} (h : j < p.length) : pget p j ∈ p := by rw [pget_getElem h]; exact List.getElem_mem h
theorem ptI_mem10 {p : List Pt} {x : Int} (h0 : 0 ≤ x) (h1 : x < (p.length : Int)) : ptI p x ∈ p := by unfold ptI; exact pget_mem10 (by omega)
theorem keep_flaw {f : Pt → Pt} {p l i : List Pt} (hc : ChkOk p l i) (K : KeepF f p l i) : flTo (p.map f) l i 8 = flTo p l i 8 := by
  refine flTo_congr (fun j hj hz => ?_) 8 (Nat.le_refl _)
  have hlen : (p.map f).length = p.length := List.length_map _
  match j, hj with
  | 0, _ =>
    simp only [chk]
    rw [hlen]
    refine fl2_congr fun a b ha hb => ?_
    unfold alikeF
    rw [pget_map f ha, pget_map f hb, K.eq]
  | 1, _ => rfl
  | 2, _ =>
    simp only [chk]
    refine fl2_congr fun a b ha hb => ?_
    unfold meetF
    have sa := chk_seg hc ha
    have sb := chk_seg hc hb
    rw [seg_map f sa, seg_map f sb]
    obtain ⟨a0, a1, a2, a3⟩ := sgInB_iff.1 sa
    obtain ⟨b0, b1, b2, b3⟩ := sgInB_iff.1 sb
    unfold badB segF
    rw [K.seg _ _ _ _ (ptI_mem10 a0 a1) (ptI_mem10 a2 a3) (ptI_mem10 b0 b1) (ptI_mem10 b2 b3)]
  | 3, _ =>
    simp only [chk]
    rw [hlen]
    refine fl2_congr fun a b ha hb => ?_
    unfold coverF
    obtain ⟨b0, b1, b2, b3⟩ := sgInB_iff.1 (chk_seg hc hb)
    rw [ptI_map f b0 b1, ptI_map f b2 b3, pget_map f ha, K.ins _ _ _ (ptI_mem10 b0 b1) (ptI_mem10 b2 b3) (pget_mem10 ha)]
  | 4, _ => simp only [chk]; rw [hlen]
  | 5, _ => rfl
  | 6, _ =>
    simp only [chk]
    refine fl1_congr fun a ha => ?_
    rw [K.mid hz a ha]
  | 7, _ =>
    simp only [chk]
    rw [hlen]
    refine fl1_congr fun a ha => ?_
    unfold strayF
    rw [pget_map f ha, K.whr (flTo_le hz (by omega)) a ha]
theorem where_map {n : Nat} {e e' : Nat → Pt × Pt} {q q' : Pt} (h : ∀ i, i < n → onB (e' i).1 (e' i).2 q' = onB (e i).1 (e i).2 q) (hr : ∀ i, i < n → rightB (e' i).1 (e' i).2 q' = rightB (e i).1 (e i).2 q) : whereN n e' q' = whereN n e q := by
  unfold whereN
  rw [anyN_congr h, xorN_congr hr]
theorem right_add (t a b q : Pt) : rightB (addP t a) (addP t b) (addP t q) = rightB a b q := by
  have e : crossZ (addP t a) (addP t b) (addP t q) = crossZ a b q := by unfold crossZ addP; grind
  have e1 : ((addP t b).y - (addP t a).y) = b.y - a.y := by unfold addP; dsimp only; omega
  unfold rightB
  rw [e, e1]
  have c1 : decide ((addP t q).y < (addP t a).y) = decide (q.y < a.y) := decide_eq_decide.2 (by unfold addP; dsimp only; omega)
  have c2 : decide ((addP t q).y < (addP t b).y) = decide (q.y < b.y) := decide_eq_decide.2 (by unfold addP; dsimp only; omega)
  rw [c1, c2]
theorem on_add (t : Pt) {a b q : Pt} (h : ∀ x ∈ [a, b, q], fitB x = true ∧ fitB (addP t x) = true) : onB (addP t a) (addP t b) (addP t q) = onB a b q :=
  (add_keeps t [a, b, q] h).on (by simp) (by simp) (by simp)
theorem scale_add (k : Int) (t a : Pt) : scaleP k (addP t a) = addP (scaleP k t) (scaleP k a) := by
  unfold scaleP addP
  exact Pt.ext' (by dsimp only; rw [Int.mul_add]) (by dsimp only; rw [Int.mul_add])
theorem fit_scale {q : Pt} (h : placeB q = true) {k : Int} (h0 : 0 ≤ k) (h3 : k ≤ 3) : fitB (scaleP k q) = true := by
  have := place_iff.1 h
  rw [fitB_iff]
  unfold Pt.fits scaleP
  have c : k = 0 ∨ k = 1 ∨ k = 2 ∨ k = 3 := by omega
  rcases c with rfl | rfl | rfl | rfl <;> (dsimp only; omega)
theorem place_ptI {p l i : List Pt} (hc : ChkOk p l i) {x : Int} (h0 : 0 ≤ x) (h1 : x < (p.length : Int)) : placeB (ptI p x) = true := by
  unfold ptI; exact hc.pl _ (by omega)
theorem where_add {t : Pt} {p l i : List Pt} (hc : ChkOk p l i) (hc' : ChkOk (p.map (addP t)) l i) {k : Int} (h0 : 0 ≤ k) (h3 : k ≤ 3) {q : Pt} (hq : fitB q = true) (hq' : fitB (addP (scaleP k t) q) = true) :
    whereZ k (p.map (addP t)) l (addP (scaleP k t) q) = whereZ k p l q := by
  have key : ∀ x : Int, 0 ≤ x → x < (p.length : Int) → scaleP k (ptI (p.map (addP t)) x) = addP (scaleP k t) (scaleP k (ptI p x)) ∧ fitB (scaleP k (ptI p x)) = true ∧ fitB (addP (scaleP k t) (scaleP k (ptI p x))) = true := by
    intro x x0 x1
    have e : scaleP k (ptI (p.map (addP t)) x) = addP (scaleP k t) (scaleP k (ptI p x)) := by rw [ptI_map _ x0 x1, scale_add]
    refine ⟨e, fit_scale (place_ptI hc x0 x1) h0 h3, ?_⟩
    rw [← e]
    exact fit_scale (place_ptI hc' x0 (by rw [List.length_map]; exact x1)) h0 h3
  unfold whereZ
  refine where_map (fun j hj => ?_) (fun j hj => ?_)
  · obtain ⟨x0, x1, y0, y1⟩ := sgInB_iff.1 (hc.sl j hj)
    obtain ⟨e1, f1, g1⟩ := key _ x0 x1
    obtain ⟨e2, f2, g2⟩ := key _ y0 y1
    unfold endsOf
    dsimp only
    rw [e1, e2]
    exact on_add _ (by simp only [List.mem_cons, List.not_mem_nil, or_false]; rintro x (rfl | rfl | rfl) <;> constructor <;> assumption)
  · obtain ⟨x0, x1, y0, y1⟩ := sgInB_iff.1 (hc.sl j hj)
    unfold endsOf
    dsimp only
    rw [(key _ x0 x1).1, (key _ y0 y1).1, right_add]
theorem add_inj (t a b : Pt) : eqB (addP t a) (addP t b) = eqB a b := eqB_map (fun p q h => by
  injection h with h1 h2
  exact Pt.ext' (by omega) (by omega)) a b
theorem chk01_map {f : Pt → Pt} (hf : ∀ a b, eqB (f a) (f b) = eqB a b) {p l i : List Pt} (h : (flTo p l i 2).k = 0) : (flTo (p.map f) l i 2).k = 0 := by
  rw [flTo_zero] at h ⊢
  intro m hm
  have := h m hm
  match m, hm with
  | 0, _ =>
    have e : chk (p.map f) l i 0 = chk p l i 0 := by
      simp only [chk]
      rw [List.length_map]
      refine fl2_congr fun a b ha hb => ?_
      unfold alikeF
      rw [pget_map f ha, pget_map f hb, hf]
    rw [e]; exact this
  | 1, _ => exact this
theorem moved_flaw {t : Pt} {p l i : List Pt} (hc : ChkOk p l i) (hc' : ChkOk (p.map (addP t)) l i) : flTo (p.map (addP t)) l i 8 = flTo p l i 8 := by
  have hfit : ∀ x ∈ p, fitB x = true ∧ fitB (addP t x) = true := fun x hx => by
    obtain ⟨j, hj, rfl⟩ := List.mem_iff_getElem.1 hx
    have h1 := hc.pl j hj
    have h2 := hc'.pl j (by rw [List.length_map]; exact hj)
    rw [pget_map _ hj, pget_getElem hj] at h2
    rw [pget_getElem hj] at h1
    exact ⟨place_fit h1, place_fit h2⟩
  refine keep_flaw hc ⟨add_inj t, fun a b c d ha hb hcc hd => ?_, fun a b c ha hb hcc => ?_, fun hz a ha => ?_, fun hz a ha => ?_⟩
  · exact ((add_keeps t [a, b, c, d] (by simp only [List.mem_cons, List.not_mem_nil, or_false]; rintro x (rfl | rfl | rfl | rfl) <;> exact hfit _ (by assumption))).segs (add_apart t a b c d)).1
  · exact (add_keeps t [a, b, c] (by simp only [List.mem_cons, List.not_mem_nil, or_false]; rintro x (rfl | rfl | rfl) <;> exact hfit _ (by assumption))).inside (by simp) (by simp) (by simp)
  · have hs := hc.si a ha
    have hs' := hc'.si a ha
    rw [midW_10 hc (flTo_le hz (by omega)) hs, midW_10 hc' (chk01_map (add_inj t) (flTo_le hz (by omega))) hs']
    obtain ⟨x0, x1, y0, y1⟩ := sgInB_iff.1 hs
    have e : midQ (p.map (addP t)) (pget i a) = addP (scaleP 2 t) (midQ p (pget i a)) := by
      unfold midQ
      rw [ptI_map _ x0 x1, ptI_map _ y0 y1]
      unfold addP scaleP
      exact Pt.ext' (by dsimp only; omega) (by dsimp only; omega)
    rw [e, where_add hc hc' (by omega) (by omega) (midQ_fit hc hs) (by rw [← e]; exact midQ_fit hc' hs')]
  · have h2 := hc'.pl a (by rw [List.length_map]; exact ha)
    rw [pget_map _ ha] at h2
    have := where_add hc hc' (k := 1) (by omega) (by omega) (place_fit (hc.pl a ha)) (by rw [scale_one]; exact place_fit h2)
    rwa [scale_one] at this
end Go.Proofs.Ytiebmlhglgpajaa

/-
  The law ValidMoved.
-/
namespace Go.Proofs.Ytiebmlhglgpajaa
open Go.RowKit

theorem eqFlG10 (a b c : Int) (w : World) : (Op.equalIn 10000 42 (.agg #[.int .i64 a, .int .i64 b, .int .i64 c]) (.agg #[.int .i64 a, .int .i64 b, .int .i64 c])).run Try.prog w = .ok true w := by
  have hS : Try.prog.underlying 42 = some (.struct (Try.prog.fieldsOf 42)) := by kernel_rfl
  have hp : Try.prog.stoodInHeld 42 = false := by kernel_rfl
  have u4 := Try.underlying3
  rw [show (10000 : Nat) = 9999 + 1 from rfl, run_equalIn_agg w 9999 42 _ _ hS hp]
  simp only [Program.fieldsOf, Try.underlying42]
  go_simp
theorem wsmall10 {a b s : Int} (h : a + b = s) (hs : -4000000 ≤ s ∧ s ≤ 4000000) : wrap64 (a + b) = s ∧ IntKind.i64.wrap (a + b) = s := by
  subst h
  exact ⟨by unfold wrap64; omega, IntWalk.i64_in _ (by omega)⟩
/-- the first k of them moved -/
def mapTo (f : Pt → Pt) (p : List Pt) (k : Nat) : List Pt := (p.take k).map f ++ p.drop k
theorem mapTo_zero (f : Pt → Pt) (p : List Pt) : mapTo f p 0 = p := by unfold mapTo; simp
theorem mapTo_all (f : Pt → Pt) (p : List Pt) : mapTo f p p.length = p.map f := by unfold mapTo; simp
theorem mapTo_len (f : Pt → Pt) (p : List Pt) {k : Nat} (h : k ≤ p.length) : (mapTo f p k).length = p.length := by
  unfold mapTo; rw [List.length_append, List.length_map, List.length_take, List.length_drop]; omega
theorem mapTo_step (f : Pt → Pt) (p : List Pt) {k : Nat} (h : k < p.length) : (mapTo f p k).set k (f (pget p k)) = mapTo f p (k + 1) := by
  unfold mapTo
  have e : (p.take k).length = k := by rw [List.length_take]; omega
  rw [List.set_append_right _ _ (by rw [List.length_map, e]; exact Nat.le_refl _), List.length_map, e, Nat.sub_self, pget_getElem h, List.take_add_one, List.getElem?_eq_getElem h, List.map_append, List.drop_eq_getElem_cons h, List.set_cons_zero]
  simp
set_option maxHeartbeats 16000000 in
set_option maxRecDepth 100000 in
theorem vmoved_l (p l i : List Pt) (ap al ai : Option Addr) (cp cl ci : Nat) (w : World) (hA : PtRow w ap p) (hB0 : PtRow w al l) (hC0 : PtRow w ai i) (q1 : p.length ≤ cp) (q2 : l.length ≤ cl) (q3 : i.length ≤ ci) (n1 : ap = none → cp = 0) (n2 : al = none → cl = 0) (n3 : ai = none → ci = 0) (t : Pt) :
    Calls Try.prog 7 #[.agg #[.slice ap p.length cp, .slice al l.length cl, .slice ai i.length ci], .agg #[.int .i64 t.x, .int .i64 t.y]] w (Gives (.bool true) w) := by
  have KN := Lib.hid (fun W => known10_l W)
  have HPol0 : Hid (p.length ≤ 10000 → l.length ≤ 10000 → i.length ≤ 10000 → Pol w ap al ai cp cl ci p l i) := fun a b c => ⟨hA, hB0, hC0, q1, q2, q3, n1, n2, n3, a, b, c⟩
  have HM := Lib.hid (fun W => many10_l p.length l.length i.length ap al ai cp cl ci W)
  clear hA hB0 hC0 q1 q2 q3 n1 n2 n3
  obtain ⟨r, hr⟩ : ∃ r, many10 p.length l.length i.length = r := ⟨_, rfl⟩
  rw [hr] at HM
  have HR := Lib.hid hr
  clear hr
  obtain ⟨bx, b_y⟩ := t
  dsimp only
  go_enter Try.func7, Try.ntmps7
  go_upto_region 1 with (fail)
  have HV := Lib.hid ((var3_new w (.slice ap p.length cp) (.slice al l.length cl) (.slice ai i.length ci) 38 w.heap.size rfl).below (bl_one _ (.cells #[.int .i64 bx, .int .i64 b_y] 49)))
  have HT := Lib.hid (var2_new (w.alloc (.cells #[.slice ap p.length cp, .slice al l.length cl, .slice ai i.length ci] 38)) (.int .i64 bx) (.int .i64 b_y) 49 (w.heap.size + 1) (by simp))
  have HB := Lib.hid (bl_alloc (bl_one w (.cells #[.slice ap p.length cp, .slice al l.length cl, .slice ai i.length ci] 38)) (.cells #[.int .i64 bx, .int .i64 b_y] 49))
  generalize (w.alloc (.cells #[.slice ap p.length cp, .slice al l.length cl, .slice ai i.length ci] 38)).alloc (.cells #[.int .i64 bx, .int .i64 b_y] 49) = W1 at *
  obtain ⟨k0, k1, k2⟩ := HV.out.three
  go_wp2_with fail
  (with_reducible refine (HM.out _).mono ?_); rintro e w2 ⟨rfl, hb2⟩
  replace HB := Lib.hid (bl_trans HB.out hb2)
  replace HV := Lib.hid (HV.out.below hb2)
  replace HT := Lib.hid (HT.out.below hb2)
  clear hb2 HM k0 k1 k2
  cases r
  case true =>
    go_wp2_with fail
    (with_reducible refine (KN.out _).mono ?_); rintro e w9 ⟨rfl, hb9⟩
    have HBz := Lib.hid (bl_trans HB.out hb9)
    clear hb9
    go_wp2_with fail
    go_ret
    exact ⟨rfl, HBz.out⟩
  case false =>
  have hA : Pol w ap al ai cp cl ci p l i := by
    obtain ⟨a, b, c⟩ := many_no HR.out
    exact HPol0.out (by omega) (by omega) (by omega)
  have HPol := Lib.hid hA
  have HCk := Lib.hid (fun W h => refCheck10_l p l i ap al ai cp cl ci W (hA.below h))
  have HCE : Hid (firstE p l i = if checkB p l i = true then 0 else 2) := rfl
  clear HPol0 HR hA
  obtain ⟨e9, he⟩ : ∃ e, firstE p l i = e := ⟨_, rfl⟩
  rw [he] at HCk HCE
  have HE9 := Lib.hid he
  clear he
  obtain ⟨k0, k1, k2⟩ := HV.out.three
  go_wp2_with fail
  (with_reducible refine (HCk.out _ HB.out).mono ?_); rintro e w3 ⟨rfl, hb2⟩
  replace HB := Lib.hid (bl_trans HB.out hb2)
  replace HV := Lib.hid (HV.out.below hb2)
  replace HT := Lib.hid (HT.out.below hb2)
  clear hb2 HCk k0 k1 k2
  obtain ⟨t0, t1⟩ := HT.out.two
  by_cases hck : checkB p l i = true
  case neg =>
    obtain rfl : e9 = 2 := by rw [HCE.out, if_neg hck]
    clear hck HCE
    go_wp2_with fail
    (with_reducible refine (KN.out _).mono ?_); rintro e w9 ⟨rfl, hb9⟩
    have HBz := Lib.hid (bl_trans HB.out hb9)
    clear hb9
    go_wp2_with fail
    go_ret
    exact ⟨rfl, HBz.out⟩
  case pos =>
  have hez : e9 = 0 := by rw [HCE.out, if_pos hck]
  subst hez
  have hc := checkB_iff.1 hck
  have HC := Lib.hid hc
  clear hck HCE hc
  by_cases h1 : 2097152 < bx
  · have a1 : (2097152 < bx) = True := eq_true h1
    clear h1
    go_wp2_with fail
    (with_reducible refine (KN.out _).mono ?_); rintro e w9 ⟨rfl, hb9⟩
    have HBz := Lib.hid (bl_trans HB.out hb9)
    clear hb9
    go_wp2_with fail
    go_ret
    exact ⟨rfl, HBz.out⟩
  have a1 : (2097152 < bx) = False := eq_false h1
  by_cases h2 : bx < -2097152
  · have a2 : (bx < -2097152) = True := eq_true h2
    clear h2
    go_wp2_with fail
    (with_reducible refine (KN.out _).mono ?_); rintro e w9 ⟨rfl, hb9⟩
    have HBz := Lib.hid (bl_trans HB.out hb9)
    clear hb9
    go_wp2_with fail
    go_ret
    exact ⟨rfl, HBz.out⟩
  have a2 : (bx < -2097152) = False := eq_false h2
  by_cases h3 : 2097152 < b_y
  · have a3 : (2097152 < b_y) = True := eq_true h3
    clear h3
    go_wp2_with fail
    (with_reducible refine (KN.out _).mono ?_); rintro e w9 ⟨rfl, hb9⟩
    have HBz := Lib.hid (bl_trans HB.out hb9)
    clear hb9
    go_wp2_with fail
    go_ret
    exact ⟨rfl, HBz.out⟩
  have a3 : (2097152 < b_y) = False := eq_false h3
  by_cases h4 : b_y < -2097152
  · have a4 : (b_y < -2097152) = True := eq_true h4
    clear h4
    go_wp2_with fail
    (with_reducible refine (KN.out _).mono ?_); rintro e w9 ⟨rfl, hb9⟩
    have HBz := Lib.hid (bl_trans HB.out hb9)
    clear hb9
    go_wp2_with fail
    go_ret
    exact ⟨rfl, HBz.out⟩
  have a4 : (b_y < -2097152) = False := eq_false h4
  have hbt : (-2097152 ≤ bx ∧ bx ≤ 2097152) ∧ (-2097152 ≤ b_y ∧ b_y ≤ 2097152) := by omega
  have HBt := Lib.hid hbt
  clear h1 h2 h3 h4 hbt
  obtain ⟨k0, k1, k2⟩ := HV.out.three
  have HCp := Lib.hid (fun W (h : Below w.heap.size w W) => copy10_l p l i ap al ai cp cl ci W (HPol.out.below h))
  go_wp2_with fail
  (with_reducible refine (HCp.out _ HB.out).mono ?_); rintro e w4 ⟨u, v, x, rfl, hO⟩
  obtain ⟨au, av, ax, cu, cv, cx, e0, e1, e2, -⟩ := hO.pol HPol.out.lenP HPol.out.lenL HPol.out.lenI
  subst e0 e1 e2
  have HN0 := Lib.hid (hO.o0.ne10 (Nat.le_refl _))
  have HN1 := Lib.hid (hO.o1.ne10 (Nat.le_refl _))
  have HN2 := Lib.hid (hO.o2.ne10 (Nat.le_refl _))
  go_upto_region 4 with (fail)
  clear a1 a2 a3 a4 k0 k1 k2 t0 t1 HCp
  have HX := Lib.hid (var3_new w4 (.slice au p.length cu) (.slice av l.length cv) (.slice ax i.length cx) 38 w4.heap.size rfl)
  have HO := Lib.hid (hO.below (bl_one w4 (.cells #[.slice au p.length cu, .slice av l.length cv, .slice ax i.length cx] 38)))
  generalize w4.alloc (.cells #[.slice au p.length cu, .slice av l.length cv, .slice ax i.length cx] 38) = W5 at *
  generalize hg4 : w4.heap.size = g4 at *
  clear hO
  go_wp2_with fail
  go_loopw [6] (fun iv W => ∃ k : Nat, k ≤ p.length ∧ iv = .int .i64 k ∧ Own3 w3 (.slice au p.length cu) (.slice av l.length cv) (.slice ax i.length cx) (mapTo (addP ⟨bx, b_y⟩) p k) l i W ∧ Var W g4 [.slice au p.length cu, .slice av l.length cv, .slice ax i.length cx]) (fun iv _ => p.length - (intOf iv).toNat)
  case atStart => exact ⟨0, Nat.zero_le _, rfl, by rw [mapTo_zero]; exact HO.out, HX.out⟩
  case round =>
    obtain ⟨k, hk, rfl, hO, hx⟩ := hrel
    clear HO HX
    have HO := Lib.hid hO
    have HX := Lib.hid hx
    have HBw := Lib.hid hO.hb
    clear hO hx
    obtain ⟨k0, k1, k2⟩ := (HV.out.below HBw.out).three
    obtain ⟨t0, t1⟩ := (HT.out.below HBw.out).two
    obtain ⟨x0, x1, x2⟩ := HX.out.three
    by_cases hlt : k < p.length
    · have b2 : ((k : Int) < (p.length : Int)) = True := eq_true (by omega)
      have d2 : (k < p.length) = True := eq_true hlt
      have c2 : ((0 : Int) ≤ (k : Int)) = True := eq_true (by omega)
      obtain ⟨gp, op, rfl⟩ := HPol.out.pp.some (by omega)
      obtain ⟨⟨qx, qy⟩, hq⟩ : ∃ q, pget p k = q := ⟨_, rfl⟩
      obtain ⟨c0, c1⟩ := ptRow_at (HPol.out.pp.below (bl_trans HB.out HBw.out)) hlt hq
      dsimp only at c0 c1
      have hpl := place_iff.1 (HC.out.pl k hlt)
      rw [hq] at hpl
      dsimp only at hpl
      have hlen := mapTo_len (addP ⟨bx, b_y⟩) p hk
      obtain ⟨aq, cq, eq, -, hrow, -⟩ := HO.out.o0.slice
      rw [hlen] at eq
      cases eq
      obtain ⟨gu, ou, rfl⟩ := hrow.some (by omega)
      have hou : ou = 0 := by
        rcases HO.out.o0.own.2 with ⟨h, -⟩ | ⟨g, cap, cur, h, -⟩
        · cases h
        · injection h with h1 _ _
          injection h1 with h4
          injection h4 with _ h6 _
      subst hou
      have hun : gu ≠ g4 := fun h => HN0.out (by rw [h]; rfl)
      obtain ⟨s0, s1⟩ := ptRow_at hrow (i := k) (by omega) rfl
      have f0 := HO.out.o0.frozen hlen.symm (k * 2)
      have f1 := HO.out.o0.frozen hlen.symm (k * 2 + 1)
      rw [Nat.zero_add] at s0 s1
      have HST := Lib.hid (HO.out.o0.store hlen.symm k (by omega) ⟨qx + bx, qy + b_y⟩)
      have HS1 := Lib.hid (fun (y z : Value) => (HO.out.o1.set10 (g := gu) (fun e => HO.out.d01 gu rfl e) (HO.out.o0.own.lt gu rfl).1 (k * 2) y).set10 (fun e => HO.out.d01 gu rfl e) (HO.out.o0.own.lt gu rfl).1 (k * 2 + 1) z)
      have HS2 := Lib.hid (fun (y z : Value) => (HO.out.o2.set10 (g := gu) (fun e => HO.out.d02 gu rfl e) (HO.out.o0.own.lt gu rfl).1 (k * 2) y).set10 (fun e => HO.out.d02 gu rfl e) (HO.out.o0.own.lt gu rfl).1 (k * 2 + 1) z)
      have HVX := Lib.hid (fun (y z : Value) => (HX.out.far (p := ⟨gu, k * 2, none⟩) hun y).far (p := ⟨gu, k * 2 + 1, none⟩) hun z)
      have HEq : Hid ((mapTo (addP ⟨bx, b_y⟩) p k).set k ⟨qx + bx, qy + b_y⟩ = mapTo (addP ⟨bx, b_y⟩) p (k + 1)) := by
        unfold Hid
        rw [← mapTo_step _ p hlt, hq]; rfl
      have hgw := (HO.out.o0.own.lt gu rfl).2
      have HD := Lib.hid (⟨HO.out.d01, HO.out.d02, HO.out.d12⟩ : Apart10 (.slice (some ⟨gu, 0, none⟩) p.length cu) (.slice av l.length cv) ∧ Apart10 (.slice (some ⟨gu, 0, none⟩) p.length cu) (.slice ax i.length cx) ∧ Apart10 (.slice av l.length cv) (.slice ax i.length cx))
      obtain ⟨sx, hsx⟩ : ∃ s, qx + bx = s := ⟨_, rfl⟩
      obtain ⟨sy, hsy⟩ : ∃ s, qy + b_y = s := ⟨_, rfl⟩
      have hbd : (-4000000 ≤ sx ∧ sx ≤ 4000000) ∧ (-4000000 ≤ sy ∧ sy ≤ 4000000) := by have := HBt.out; omega
      rw [hsx, hsy] at HST HEq
      have HW1 := Lib.hid (wsmall10 hsx hbd.1)
      have HW2 := Lib.hid (wsmall10 hsy hbd.2)
      clear hq hpl hlen hrow hun hsx hsy hbd
      obtain ⟨w1, w1'⟩ := HW1.out
      obtain ⟨w2', w2''⟩ := HW2.out
      go_upto_region 7 with (fail)
      go_region
      all_goals
        clear w1 w1' w2' w2'' s0 s1 f0 f1 c0 c1 k0 k1 k2 t0 t1 x0 x1 x2 hgw
        obtain ⟨m1, m2, m3, m4⟩ := wnum (i := k) (by have := HC.out.n; omega)
        go_wp2_with fail
        clear m1 m2 m3 m4
        exact ⟨⟨k + 1, hlt, by rw [Int.natCast_add]; rfl, ⟨by have h := HST.out; rw [HEq.out] at h; exact h.drew, (HS1.out _ _).drew, (HS2.out _ _).drew, HD.out.1, HD.out.2.1, HD.out.2.2⟩, (HVX.out _ _).below (bel_drew _)⟩, by simp [intOf]; omega⟩
    · obtain rfl : k = p.length := by omega
      have b2 : ((p.length : Int) < (p.length : Int)) = False := eq_false (by omega)
      have hO9 := HO.out
      rw [mapTo_all] at hO9
      have HO9 := Lib.hid hO9
      have hml : (p.map (addP ⟨bx, b_y⟩)).length = p.length := List.length_map _
      have HPx : Hid (Pol wr au av ax cu cv cx (p.map (addP ⟨bx, b_y⟩)) l i) := by
        obtain ⟨a0, a1', a2', c0, c1, c2', e0, e1, e2, hP⟩ := HO9.out.pol (by rw [hml]; exact HPol.out.lenP) HPol.out.lenL HPol.out.lenI
        rw [hml] at e0
        cases e0
        cases e1
        cases e2
        exact hP
      obtain ⟨q, hq⟩ : ∃ q, p.map (addP ⟨bx, b_y⟩) = q := ⟨_, rfl⟩
      rw [hq] at HPx hml
      have HMv : Hid (ChkOk q l i → flTo q l i 8 = flTo p l i 8) := fun h => by rw [← hq] at h ⊢; exact moved_flaw HC.out h
      clear hO9 HO9 hq HO hk hlt
      replace HB := Lib.hid (bl_trans HB.out HBw.out)
      obtain ⟨W6, eW6⟩ : ∃ W, W = wr := ⟨_, rfl⟩
      subst eW6
      have HF1 := Lib.hid (fun W (h : Below w.heap.size w W) => first10_l p l i ap al ai cp cl ci W (HPol.out.below h))
      have hf1 : firstF p l i = flTo p l i 8 := by unfold firstF; rw [if_pos (checkB_iff.2 HC.out)]
      rw [hf1, HE9.out] at HF1
      obtain ⟨⟨c, a, b⟩, hf⟩ : ∃ f, flTo p l i 8 = f := ⟨_, rfl⟩
      rw [hf] at HF1 HMv
      have HF2 := Lib.hid (fun W (h : Below W6.heap.size W6 W) => first10_l q l i au av ax cu cv cx W (HPx.out.below h))
      have HCk := Lib.hid (fun W (h : Below W6.heap.size W6 W) => refCheck10_l q l i au av ax cu cv cx W (HPx.out.below h))
      have HQE : Hid (firstE q l i = if checkB q l i = true then 0 else 2) := rfl
      have HQF : Hid (firstF q l i = if checkB q l i = true then flTo q l i 8 else fl0) := rfl
      rw [hml] at HF2 HCk
      clear hf1 hf hml
      obtain ⟨⟨c', a', b'⟩, hf'⟩ : ∃ f, firstF q l i = f := ⟨_, rfl⟩
      rw [hf'] at HF2 HQF
      clear hf'
      generalize firstE q l i = e' at *
      go_wp2_with fail
      (with_reducible refine (HF1.out _ HB.out).mono ?_); rintro e w7 ⟨rfl, hb7⟩
      dsimp only
      have HB7 := Lib.hid hb7
      clear hb7 HF1 k0 k1 k2 t0 t1 x0 x1 x2
      go_upto_region 9 with (fail)
      have HG1 := Lib.hid (var3_new w7 (.int .i64 c) (.int .i64 a) (.int .i64 b) 42 w7.heap.size rfl)
      replace HB7 := Lib.hid (bl_trans HB7.out (bl_one w7 (.cells #[.int .i64 c, .int .i64 a, .int .i64 b] 42)))
      generalize w7.alloc (.cells #[.int .i64 c, .int .i64 a, .int .i64 b] 42) = W8 at *
      obtain ⟨x0, x1, x2⟩ := (HX.out.below HB7.out).three
      go_wp2_with fail
      (with_reducible refine (HF2.out _ HB7.out).mono ?_); rintro e w9 ⟨rfl, hb9⟩
      dsimp only
      replace HB7 := Lib.hid (bl_trans HB7.out hb9)
      replace HG1 := Lib.hid (HG1.out.below hb9)
      clear hb9 HF2 x0 x1 x2
      go_upto_region 10 with (fail)
      have HG2 := Lib.hid (var3_new w9 (.int .i64 c') (.int .i64 a') (.int .i64 b') 42 w9.heap.size rfl)
      replace HB7 := Lib.hid (bl_trans HB7.out (bl_one w9 (.cells #[.int .i64 c', .int .i64 a', .int .i64 b'] 42)))
      replace HG1 := Lib.hid (HG1.out.below (bl_one w9 (.cells #[.int .i64 c', .int .i64 a', .int .i64 b'] 42)))
      generalize w9.alloc (.cells #[.int .i64 c', .int .i64 a', .int .i64 b'] 42) = WA at *
      obtain ⟨x0, x1, x2⟩ := (HX.out.below HB7.out).three
      go_wp2_with fail
      (with_reducible refine (HCk.out _ HB7.out).mono ?_); rintro e wb ⟨rfl, hb9⟩
      replace HB7 := Lib.hid (bl_trans HB7.out hb9)
      replace HG1 := Lib.hid (HG1.out.below hb9)
      replace HG2 := Lib.hid (HG2.out.below hb9)
      clear hb9 HCk x0 x1 x2
      obtain ⟨y0, y1, y2⟩ := HG1.out.three
      obtain ⟨z0, z1, z2⟩ := HG2.out.three
      have HBb := Lib.hid (bl_trans HB.out HB7.out)
      by_cases hcq : checkB q l i = true
      · obtain rfl : e' = 0 := by rw [HQE.out, if_pos hcq]
        have heq : Fl.mk c' a' b' = ⟨c, a, b⟩ := by
          have h1 := HQF.out
          rw [if_pos hcq] at h1
          rw [h1, HMv.out (checkB_iff.1 hcq)]
        injection heq with g1 g2 g3
        subst g1 g2 g3
        have q0 := fun W => eqFlG10 c' a' b' W
        clear hcq HQE HQF HMv
        go_wp2_with fail

        (with_reducible refine (KN.out _).mono ?_); rintro e w9 ⟨rfl, hb9⟩
        have HBz := Lib.hid (bl_trans HBb.out hb9)
        clear hb9
        go_wp2_with fail
        go_ret
        exact ⟨rfl, HBz.out⟩
      · obtain rfl : e' = 2 := by rw [HQE.out, if_neg hcq]
        clear hcq HQE HQF HMv
        go_wp2_with fail
        (with_reducible refine (KN.out _).mono ?_); rintro e w9 ⟨rfl, hb9⟩
        have HBz := Lib.hid (bl_trans HBb.out hb9)
        clear hb9
        go_wp2_with fail
        go_ret
        exact ⟨rfl, HBz.out⟩
end Go.Proofs.Ytiebmlhglgpajaa

namespace Go.Proofs.Ytiebmlhglgpajaa.validMoved
open Go.ChangeShapes Go.WideShapes Go.ChangeAt Go.RowKit

theorem own : ownKnob Try.prog.godebug = none := by kernel_rfl

set_option maxRecDepth 100000 in
theorem lifted (os : Os) (started : os.Started) (H : Type) (enc : TypeId × Value → H) :
    ReturnsInHanded {} Try.checked os 7 .any (Rows.validMovedSpec.pre6 enc Try.prog Try.f7 Rows.validMovedRow.domain false) (Rows.validMovedSpec.post enc Try.prog Try.f7 false true false false) := by
  refine returnsInHanded_of_change (C := Try.checked) own started (by kernel_rfl) Try.func7
    (ChangeSpec.witness6 (enc := enc) (C := Try.checked) false ⟨#[], #[.agg #[.slice none 0 0, .slice none 0 0, .slice none 0 0], .agg #[.int .i64 0, .int .i64 0]], []⟩ 8 (by kernel_rfl) (by kernel_rfl) (by kernel_rfl) (by kernel_rfl)) ?_
  intro W base args ds gs before hval0 hW _ _
  have hval : ∀ (j : Nat) t v, Try.f7.params[j]? = some t → args[j]? = some v → Value.okWide Try.prog W .any base t v := hval0
  have hW' := hW
  obtain ⟨p, q, hA0, hV, rfl, -, -⟩ := hW
  have hA : DataW.TrodAll enc Try.prog W 0 (fun _ => true) true Try.f7.params.toList args.toList ds p := hA0
  rw [Try.params7] at hA hval
  obtain ⟨v0, vs0, d0, ds0, p0, q0, hargs0, rfl, rfl, h0, r0⟩ := trodAll_cons hA
  obtain ⟨v1, vs1, d1, ds1, p1, q1, hargs1, rfl, rfl, h1, r1⟩ := trodAll_cons r0
  obtain ⟨rfl, rfl, rfl⟩ := trodAll_nil r1
  obtain rfl : args = #[v0, v1] := by cases args; simp_all
  obtain ⟨rfl, rfl⟩ := trodVars_none hV
  obtain ⟨l0, m0, k0, al0, am0, ak0, cl0, cm0, ck0, rfl, z1, z2, z3, z4, z5, z6, z7, z8, z9⟩ := open_poly (hval 0 38 v0 rfl rfl) h0
  obtain ⟨a1, rfl, rfl, rfl, wx1, wy1⟩ := open_pt (hval 1 49 v1 rfl rfl) h1
  clear hA0 hval0
  have hlt0 : ∀ x ∈ p0, x.block < W.heap.size := fun x hx => by simpa using hW'.lt x (by simpa using hx)
  simp only [List.append_nil] at hW'
  refine (vmoved_l l0 m0 k0 al0 am0 ak0 cl0 cm0 ck0 W z1 z2 z3 z4 z5 z6 z7 z8 z9 a1).mono fun e W' h => ?_
  obtain ⟨he, hb⟩ := h
  subst he
  have hargs9 : DataW.TrodAll enc Try.prog W' 0 (fun b => decide (b < W.heap.size)) true [38, 49] [.agg #[.slice al0 l0.length cl0, .slice am0 m0.length cm0, .slice ak0 k0.length ck0], .agg #[.int .i64 a1.x, .int .i64 a1.y]] [d0, .agg [.lit (.int .i64 a1.x), .lit (.int .i64 a1.y)]] p0 := by
    simpa using trodAll_cons_mk (Below.trod (by kernel_rfl) (by kernel_rfl) (of_decide_eq_true (by kernel_rfl)) h0 hb hlt0) (trodAll_cons_mk (p := []) (shut_pt wx1 wy1) trodAll_mk0)
  exact ⟨_, rfl, _, _, _, [], p0, [], hW', trodAll_cons_mk (shut_bool Try.underlying4 _) trodAll_mk0, hargs9, rfl, hb.frame _, fun h => by cases h⟩

theorem proved : Rows.ValidMovedSaid :=
  OpenClaim.holds_of_wide 7 Try.f7 rfl rfl rfl rfl rfl rfl rfl ⟨rfl, rfl, rfl, rfl, rfl⟩ rfl rfl rfl rfl rfl (by kernel_rfl) Try.func7 (by kernel_rfl)
    (of_decide_eq_true (by kernel_rfl)) (by unfold Func.isWrapper; first | (rw [if_pos (by decide +kernel)]; kernel_rfl) | (rw [if_neg (by decide +kernel)]; exact ⟨rfl, rfl⟩))
    (fun os started H enc _ => lifted os started H enc)
end Go.Proofs.Ytiebmlhglgpajaa.validMoved
