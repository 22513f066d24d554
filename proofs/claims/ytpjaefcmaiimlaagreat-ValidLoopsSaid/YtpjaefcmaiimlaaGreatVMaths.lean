/-
  The plain mathematics of layer 10: inputs, the first flaw.
-/
import Derived.Test.YtpjaefcmaiimlaaGreatWMem
import Derived.Test.YtpjaefcmaiimlaaGreatRMaths
import Derived.Test.YtpjaefcmaiimlaaGreatVSorts
import Derived.Test.YtpjaefcmaiimlaaGreatFirsts0
import Derived.Test.YtpjaefcmaiimlaaGreatTellsMath
import Derived.Test.YtpjaefcmaiimlaaGreatRRndMath
set_option linter.unusedVariables false
set_option linter.unusedSimpArgs false
set_option linter.deprecated false
namespace Go.Proofs.YtpjaefcmaiimlaaGreat

/-- a flaw -/
structure Fl where
  k : Int
  a : Int
  b : Int
theorem Fl.ext' {a b : Fl} (h1 : a.k = b.k) (h2 : a.a = b.a) (h3 : a.b = b.b) : a = b := by cases a; cases b; simp_all
instance : DecidableEq Fl := fun a b => if h : a.k = b.k ∧ a.a = b.a ∧ a.b = b.b then .isTrue (Fl.ext' h.1 h.2.1 h.2.2) else .isFalse (fun e => h (by subst e; exact ⟨rfl, rfl, rfl⟩))
def fl0 : Fl := ⟨0, 0, 0⟩
def fl1 (k : Int) (f : Nat → Bool) (n : Nat) : Fl := if 0 ≤ firstN f n then ⟨k, firstN f n, 0⟩ else fl0
def rowI (f : Nat → Nat → Bool) (n m : Nat) : Int := firstN (fun i => decide (0 ≤ firstN (f i) m)) n
def fl2 (k : Int) (f : Nat → Nat → Bool) (n m : Nat) : Fl := if 0 ≤ rowI f n m then ⟨k, rowI f n m, firstN (f (rowI f n m).toNat) m⟩ else fl0
theorem fl1_no {k : Int} {f : Nat → Bool} {n : Nat} (h : ∀ i, i < n → f i = false) : fl1 k f n = fl0 := by
  unfold fl1; rw [firstN_no h]; rfl
theorem fl1_at {k : Int} {f : Nat → Bool} {n i : Nat} (hi : i < n) (hf : f i = true) (h : ∀ j, j < i → f j = false) : fl1 k f n = ⟨k, i, 0⟩ := by
  unfold fl1; rw [firstN_at hi hf h, if_pos (by omega)]
theorem fl1_cases (k : Int) (f : Nat → Bool) (n : Nat) : (fl1 k f n = fl0 ∧ ∀ i, i < n → f i = false) ∨ ∃ i, i < n ∧ fl1 k f n = ⟨k, i, 0⟩ ∧ f i = true ∧ ∀ j, j < i → f j = false := by
  rcases firstN_cases f n with ⟨-, h⟩ | ⟨i, h1, -, h3, h4⟩
  · exact .inl ⟨fl1_no h, h⟩
  · exact .inr ⟨i, h1, fl1_at h1 h3 h4, h3, h4⟩
theorem rowI_no {f : Nat → Nat → Bool} {n m : Nat} (h : ∀ i j, i < n → j < m → f i j = false) : rowI f n m = -1 :=
  firstN_no fun i hi => by rw [firstN_no fun j hj => h i j hi hj]; rfl
theorem rowI_at {f : Nat → Nat → Bool} {n m i j : Nat} (hi : i < n) (hj : j < m) (hf : f i j = true) (h : ∀ a b, a < i → b < m → f a b = false) : rowI f n m = i := by
  refine firstN_at hi ?_ fun a ha => ?_
  · rcases firstN_cases (f i) m with ⟨-, h⟩ | ⟨c, -, h2, -⟩
    · rw [h j hj] at hf; cases hf
    · rw [h2]; exact decide_eq_true (by omega)
  · rw [firstN_no fun j hj => h a j ha hj]; rfl
theorem fl2_no {k : Int} {f : Nat → Nat → Bool} {n m : Nat} (h : ∀ i j, i < n → j < m → f i j = false) : fl2 k f n m = fl0 := by
  unfold fl2; rw [rowI_no h]; rfl
theorem fl2_at {k : Int} {f : Nat → Nat → Bool} {n m i j : Nat} (hi : i < n) (hj : j < m) (hf : f i j = true) (h : ∀ a b, a < n → b < m → (a < i ∨ a = i ∧ b < j) → f a b = false) : fl2 k f n m = ⟨k, i, j⟩ := by
  unfold fl2
  rw [rowI_at hi hj hf fun a b ha hb => h a b (by omega) hb (.inl ha), if_pos (by omega), Int.toNat_natCast, firstN_at hj hf fun b hb => h i b hi (by omega) (.inr ⟨rfl, hb⟩)]
theorem fl2_cases (k : Int) (f : Nat → Nat → Bool) (n m : Nat) : (fl2 k f n m = fl0 ∧ ∀ i j, i < n → j < m → f i j = false) ∨
    ∃ i j, i < n ∧ j < m ∧ fl2 k f n m = ⟨k, i, j⟩ ∧ f i j = true ∧ ∀ a b, a < n → b < m → (a < i ∨ a = i ∧ b < j) → f a b = false := by
  rcases firstN_cases (fun i => decide (0 ≤ firstN (f i) m)) n with ⟨-, h⟩ | ⟨i, h1, -, h3, h4⟩
  · have hn : ∀ i j, i < n → j < m → f i j = false := fun i j hi hj => by
      rcases firstN_cases (f i) m with ⟨-, k⟩ | ⟨c, -, h2, -⟩
      · exact k j hj
      · have := h i hi
        rw [h2] at this
        exact absurd (of_decide_eq_false this) (by omega)
    exact .inl ⟨fl2_no hn, hn⟩
  · rcases firstN_cases (f i) m with ⟨e, -⟩ | ⟨j, j1, -, j3, j4⟩
    · rw [e] at h3; cases h3
    · have hn : ∀ a b, a < n → b < m → (a < i ∨ a = i ∧ b < j) → f a b = false := fun a b ha hb h => by
        rcases h with h | ⟨rfl, h⟩
        · rcases firstN_cases (f a) m with ⟨-, k⟩ | ⟨c, -, h2, -⟩
          · exact k b hb
          · have := h4 a h
            rw [h2] at this
            exact absurd (of_decide_eq_false this) (by omega)
        · exact j4 b h
      exact .inr ⟨i, j, h1, j1, fl2_at h1 j1 j3 hn, j3, hn⟩
theorem fl1_zero {k : Int} (hk : k ≠ 0) {f : Nat → Bool} {n : Nat} : (fl1 k f n).k = 0 ↔ ∀ i, i < n → f i = false := by
  constructor
  · intro h
    rcases fl1_cases k f n with ⟨-, h1⟩ | ⟨i, -, e, -⟩
    · exact h1
    · rw [e] at h; exact absurd h hk
  · intro h; rw [fl1_no h]; rfl
theorem fl2_zero {k : Int} (hk : k ≠ 0) {f : Nat → Nat → Bool} {n m : Nat} : (fl2 k f n m).k = 0 ↔ ∀ i j, i < n → j < m → f i j = false := by
  constructor
  · intro h
    rcases fl2_cases k f n m with ⟨-, h1⟩ | ⟨i, j, -, -, e, -⟩
    · exact h1
    · rw [e] at h; exact absurd h hk
  · intro h; rw [fl2_no h]; rfl
theorem fl1_vals {k : Int} {f : Nat → Bool} {n : Nat} : fl1 k f n = fl0 ∨ (fl1 k f n).k = k := by
  rcases fl1_cases k f n with ⟨h, -⟩ | ⟨i, -, e, -⟩
  · exact .inl h
  · exact .inr (by rw [e])
theorem fl2_vals {k : Int} {f : Nat → Nat → Bool} {n m : Nat} : fl2 k f n m = fl0 ∨ (fl2 k f n m).k = k := by
  rcases fl2_cases k f n m with ⟨h, -⟩ | ⟨i, j, -, -, e, -⟩
  · exact .inl h
  · exact .inr (by rw [e])

/-! ### what may be -/
def placeB (q : Pt) : Bool := decide (-1048576 ≤ q.x ∧ q.x ≤ 1048576 ∧ -1048576 ≤ q.y ∧ q.y ≤ 1048576)
def sgInB (n : Nat) (s : Pt) : Bool := decide (0 ≤ s.x ∧ s.x < (n : Int) ∧ 0 ≤ s.y ∧ s.y < (n : Int))
def ptsV (p : List Pt) : Bool := !(anyN (fun i => !(placeB (pget p i))) p.length) && decide (p.length ≤ 200)
def segsV (n : Nat) (l : List Pt) : Bool := !(anyN (fun i => !(sgInB n (pget l i))) l.length) && decide (l.length ≤ 400)
def checkB (p l i : List Pt) : Bool := ptsV p && segsV p.length l && segsV p.length i
theorem ptsV_iff {p : List Pt} : ptsV p = true ↔ (∀ i, i < p.length → placeB (pget p i) = true) ∧ p.length ≤ 200 := by
  unfold ptsV
  rw [Bool.and_eq_true, Bool.not_eq_true', anyN_no, decide_eq_true_eq]
  simp
theorem segsV_iff {n : Nat} {l : List Pt} : segsV n l = true ↔ (∀ i, i < l.length → sgInB n (pget l i) = true) ∧ l.length ≤ 400 := by
  unfold segsV
  rw [Bool.and_eq_true, Bool.not_eq_true', anyN_no, decide_eq_true_eq]
  simp
structure ChkOk (p l i : List Pt) : Prop where
  n : p.length ≤ 200
  nl : l.length ≤ 400
  ni : i.length ≤ 400
  pl : ∀ j, j < p.length → placeB (pget p j) = true
  sl : ∀ j, j < l.length → sgInB p.length (pget l j) = true
  si : ∀ j, j < i.length → sgInB p.length (pget i j) = true
theorem checkB_iff {p l i : List Pt} : checkB p l i = true ↔ ChkOk p l i := by
  unfold checkB
  rw [Bool.and_eq_true, Bool.and_eq_true, ptsV_iff, segsV_iff, segsV_iff]
  exact ⟨fun ⟨⟨⟨a, b⟩, c, d⟩, e, f⟩ => ⟨b, d, f, a, c, e⟩, fun h => ⟨⟨⟨h.pl, h.n⟩, h.sl, h.nl⟩, h.si, h.ni⟩⟩
theorem place_iff {q : Pt} : placeB q = true ↔ -1048576 ≤ q.x ∧ q.x ≤ 1048576 ∧ -1048576 ≤ q.y ∧ q.y ≤ 1048576 := by unfold placeB; exact decide_eq_true_iff
theorem sgInB_iff {n : Nat} {s : Pt} : sgInB n s = true ↔ 0 ≤ s.x ∧ s.x < (n : Int) ∧ 0 ≤ s.y ∧ s.y < (n : Int) := by unfold sgInB; exact decide_eq_true_iff
theorem place_fit {q : Pt} (h : placeB q = true) : fitB q = true := by
  rw [place_iff] at h; rw [fitB_iff]; unfold Pt.fits; omega

/-! ### the flaws -/
def segF (p : List Pt) (s : Pt) : Sg := ⟨ptI p s.x, ptI p s.y⟩
def alikeF (p : List Pt) (a b : Nat) : Bool := decide (a < b) && eqB (pget p a) (pget p b)
def shrunkF (s : List Pt) (a : Nat) : Bool := decide ((pget s a).x = (pget s a).y)
def meetF (p s : List Pt) (a b : Nat) : Bool := decide (a < b) && badB (segF p (pget s a)) (segF p (pget s b))
def coverF (p s : List Pt) (a b : Nat) : Bool := insideB (ptI p (pget s b).x) (ptI p (pget s b).y) (pget p a)
def midW (p l : List Pt) (s : Pt) : Bool := decide (midN p l [s.x, s.y] = 1)
def strayF (p l s : List Pt) (a : Nat) : Bool := decide (deg s (a : Int) = 0) && !decide (whereZ 1 p l (pget p a) = 1)
def chk (p l i : List Pt) : Nat → Fl
  | 0 => fl2 1 (alikeF p) p.length p.length
  | 1 => fl1 2 (shrunkF (l ++ i)) (l ++ i).length
  | 2 => fl2 3 (meetF p (l ++ i)) (l ++ i).length (l ++ i).length
  | 3 => fl2 4 (coverF p (l ++ i)) p.length (l ++ i).length
  | 4 => fl1 5 (forkB l) p.length
  | 5 => if l.length = 0 then ⟨6, 0, 0⟩ else fl0
  | 6 => fl1 7 (fun a => !(midW p l (pget i a))) i.length
  | 7 => fl1 8 (strayF p l (l ++ i)) p.length
  | _ => fl0
def flTo (p l i : List Pt) : Nat → Fl
  | 0 => fl0
  | j + 1 => if (flTo p l i j).k = 0 then chk p l i j else flTo p l i j
def firstF (p l i : List Pt) : Fl := if checkB p l i then flTo p l i 8 else fl0
def firstE (p l i : List Pt) : Int := if checkB p l i then 0 else 2
def rightI (p l i : List Pt) : Bool := checkB p l i && decide ((flTo p l i 8).k = 0)
theorem flTo_zero {p l i : List Pt} : ∀ {j : Nat}, (flTo p l i j).k = 0 ↔ ∀ m, m < j → (chk p l i m).k = 0
  | 0 => ⟨fun _ m h => absurd h (Nat.not_lt_zero _), fun _ => rfl⟩
  | j + 1 => by
    rw [flTo]
    constructor
    · intro h m hm
      split at h
      · rename_i h0
        rcases Nat.lt_or_eq_of_le (Nat.le_of_lt_succ hm) with h1 | rfl
        · exact flTo_zero.1 h0 m h1
        · exact h
      · rename_i h0; exact absurd h h0
    · intro h
      rw [if_pos (flTo_zero.2 fun m hm => h m (by omega))]
      exact h j (by omega)
theorem flTo_le {p l i : List Pt} {j m : Nat} (h : (flTo p l i m).k = 0) (hj : j ≤ m) : (flTo p l i j).k = 0 := flTo_zero.2 fun a ha => flTo_zero.1 h a (by omega)
theorem flTo_step {p l i : List Pt} {j : Nat} (h : (flTo p l i j).k = 0) : flTo p l i (j + 1) = chk p l i j := by rw [flTo, if_pos h]
theorem flTo_stay {p l i : List Pt} {j : Nat} (h : (flTo p l i j).k ≠ 0) : ∀ m, j ≤ m → flTo p l i m = flTo p l i j
  | 0, hm => by obtain rfl : j = 0 := by omega
                rfl
  | m + 1, hm => by
    rcases Nat.lt_or_eq_of_le hm with h1 | rfl
    · have := flTo_stay h m (by omega)
      rw [flTo, this, if_neg h]
    · rfl
theorem chk_vals (p l i : List Pt) (j : Nat) : chk p l i j = fl0 ∨ (chk p l i j).k = (j : Int) + 1 := by
  match j with
  | 0 => exact fl2_vals
  | 1 => exact fl1_vals
  | 2 => exact fl2_vals
  | 3 => exact fl2_vals
  | 4 => exact fl1_vals
  | 5 => simp only [chk]; split
         · exact .inr rfl
         · exact .inl rfl
  | 6 => exact fl1_vals
  | 7 => exact fl1_vals
  | _ + 8 => exact .inl rfl
theorem flTo_kind {p l i : List Pt} : ∀ {j : Nat}, (flTo p l i j).k = 0 → flTo p l i j = fl0
  | 0, _ => rfl
  | j + 1, h => by
    have h0 := flTo_le h (Nat.le_succ j)
    rw [flTo_step h0] at h ⊢
    rcases chk_vals p l i j with e | e
    · exact e
    · rw [h] at e; omega

/-! ### what holds once the first checks found nothing -/
theorem pget_left {l i : List Pt} {a : Nat} (h : a < l.length) : pget (l ++ i) a = pget l a := by
  unfold pget; rw [List.getD_eq_getElem?_getD, List.getD_eq_getElem?_getD, List.getElem?_append_left h]
theorem pget_right {l i : List Pt} {a : Nat} (h : l.length ≤ a) : pget (l ++ i) a = pget i (a - l.length) := by
  unfold pget; rw [List.getD_eq_getElem?_getD, List.getD_eq_getElem?_getD, List.getElem?_append_right h]
theorem ptI_at {p : List Pt} {x : Int} (h0 : 0 ≤ x) (h1 : x < (p.length : Int)) : ∃ a : Nat, x = (a : Int) ∧ a < p.length ∧ ptI p x = pget p a := by
  obtain ⟨a, rfl⟩ := Int.eq_ofNat_of_zero_le h0
  exact ⟨a, rfl, by omega, rfl⟩
theorem chk_seg {p l i : List Pt} (hc : ChkOk p l i) {a : Nat} (ha : a < (l ++ i).length) : sgInB p.length (pget (l ++ i) a) = true := by
  rw [List.length_append] at ha
  by_cases h : a < l.length
  · rw [pget_left h]; exact hc.sl a h
  · rw [pget_right (by omega)]; exact hc.si _ (by omega)
theorem alike_no {p l i : List Pt} (h : (chk p l i 0).k = 0) : NoPair p := fun a b hab hb e => by
  have := (fl2_zero (by decide)).1 h a b (by omega) hb
  unfold alikeF at this
  rw [decide_eq_true hab, e] at this
  unfold eqB at this
  rw [decide_eq_true rfl] at this
  cases this
theorem noPair_inj {p : List Pt} (h : NoPair p) {a b : Nat} (ha : a < p.length) (hb : b < p.length) (e : pget p a = pget p b) : a = b := by
  rcases Nat.lt_trichotomy a b with h1 | h1 | h1
  · exact absurd e (h a b h1 hb)
  · exact h1
  · exact absurd e.symm (h b a h1 ha)
theorem shrunk_no {p l i : List Pt} (h : (chk p l i 1).k = 0) {a : Nat} (ha : a < (l ++ i).length) : (pget (l ++ i) a).x ≠ (pget (l ++ i) a).y := by
  have := (fl1_zero (by decide)).1 h a ha
  exact of_decide_eq_false this
theorem ok9_all {p l i : List Pt} (hc : ChkOk p l i) (h : (flTo p l i 2).k = 0) {a : Nat} (ha : a < (l ++ i).length) : okSeg9 p (pget (l ++ i) a) = true := by
  have hz := flTo_zero.1 h
  have h2 := shrunk_no (hz 1 (by omega)) ha
  obtain ⟨x0, x1, y0, y1⟩ := sgInB_iff.1 (chk_seg hc ha)
  rw [ok9_iff, known_iff, known_iff]
  obtain ⟨x, ex, hx, px⟩ := ptI_at x0 x1
  obtain ⟨y, ey, hy, py⟩ := ptI_at y0 y1
  refine ⟨⟨x0, x1, ?_⟩, ⟨y0, y1, ?_⟩, fun e => h2 ?_⟩
  · rw [px]; exact place_fit (hc.pl x hx)
  · rw [py]; exact place_fit (hc.pl y hy)
  · rw [px, py] at e
    rw [ex, ey, noPair_inj (alike_no (hz 0 (by omega))) hx hy e]
theorem proper_l10 {p l i : List Pt} (hc : ChkOk p l i) (h : (flTo p l i 2).k = 0) : properL p l = true := by
  rw [proper_iff]
  intro a ha
  have := ok9_all hc h (a := a) (by rw [List.length_append]; omega)
  rwa [pget_left ha] at this
theorem okB_of9 {p : List Pt} {s : Pt} (h : okSeg9 p s = true) : okB (segF p s) = true := by
  obtain ⟨h1, h2, h3⟩ := ok9_iff.1 h
  unfold okB properB segF eqB
  rw [(known_iff.1 h1).2.2, (known_iff.1 h2).2.2, decide_eq_false h3]
  rfl
end Go.Proofs.YtpjaefcmaiimlaaGreat

/-
  Layer 10: what the later checks may take for granted.
-/
namespace Go.Proofs.YtpjaefcmaiimlaaGreat

theorem segs_self {a b : Pt} (h : properB a b = true) : segsN a b a b = 4 := by
  unfold segsN
  rw [h]
  simp only [Bool.and_self, if_true]
  have h0 : apartB a b a b = false := by
    unfold apartB
    rw [Bool.eq_false_iff]
    simp only [ne_eq, Bool.or_eq_true, decide_eq_true_eq]
    omega
  have o1 : orientZ a b a = 0 := by unfold orientZ; rw [cross_aba]; split <;> rfl
  have o2 : orientZ a b b = 0 := by unfold orientZ; rw [cross_abb]; split <;> rfl
  unfold commonZ sidesZ
  rw [h0, o1, o2]
  simp only [and_self, if_true, Bool.false_eq_true, if_false]
  unfold alongZ sameB
  rw [eqB_self, eqB_self]
  rfl
theorem seg_twice {p : List Pt} {s t : Pt} (hs : okB (segF p s) = true) (h : norm s = norm t) : badB (segF p s) (segF p t) = true := by
  have h4 := segs_self hs
  unfold badB
  have : segsN (segF p s).a (segF p s).b (segF p t).a (segF p t).b = 4 := by
    rcases norm_eq.1 h with ⟨e1, e2⟩ | ⟨e1, e2⟩
    · unfold segF at h4 ⊢
      dsimp only at h4 ⊢
      rw [← e1, ← e2]; exact h4
    · unfold segF at h4 ⊢
      dsimp only at h4 ⊢
      rw [← e1, ← e2, segs_dc]; exact h4
  rw [this]; rfl
theorem meet_no {p l i : List Pt} (h : (chk p l i 2).k = 0) {a b : Nat} (hab : a < b) (hb : b < (l ++ i).length) : badB (segF p (pget (l ++ i) a)) (segF p (pget (l ++ i) b)) = false := by
  have := (fl2_zero (by decide)).1 h a b (by omega) hb
  unfold meetF at this
  rw [decide_eq_true hab] at this
  exact this
theorem pget_getElem {l : List Pt} {i : Nat} (h : i < l.length) : pget l i = l[i] := by
  unfold pget; rw [List.getD_eq_getElem?_getD, List.getElem?_eq_getElem h]; rfl
theorem okL_10 {p l i : List Pt} (hc : ChkOk p l i) (h : (flTo p l i 2).k = 0) : okL (p.length : Int) l := by
  refine ⟨by omega, by have := hc.n; omega, fun s hs => ?_⟩
  obtain ⟨j, hj, rfl⟩ := List.mem_iff_getElem.1 hs
  rw [← pget_getElem hj]
  obtain ⟨a, b, c, d⟩ := sgInB_iff.1 (hc.sl j hj)
  have hz := flTo_zero.1 h
  have := shrunk_no (hz 1 (by omega)) (a := j) (by rw [List.length_append]; omega)
  rw [pget_left hj] at this
  exact ⟨a, c, b, d, this⟩
theorem nod_10 {p l i : List Pt} (hc : ChkOk p l i) (h : (flTo p l i 3).k = 0) : ((l ++ i).map norm).Nodup := by
  refine nodup_norm fun b hb => ?_
  rw [Bool.eq_false_iff]
  intro h2
  obtain ⟨a, hab, e⟩ := (seenB_iff hb).1 h2
  have hz := flTo_zero.1 h
  have h3 := meet_no (hz 2 (by omega)) hab hb
  rw [seg_twice (okB_of9 (ok9_all hc (flTo_le h (by omega)) (by omega))) (by rw [pget_getElem hb, pget_getElem (by omega)]; exact e)] at h3
  cases h3
theorem nodL_10 {p l i : List Pt} (hc : ChkOk p l i) (h : (flTo p l i 3).k = 0) : (l.map norm).Nodup := by
  have := nod_10 hc h
  rw [List.map_append, List.nodup_append] at this
  exact this.1
theorem again_10 {p l i : List Pt} (hc : ChkOk p l i) (h : (flTo p l i 3).k = 0) : againF l = -1 := firstN_no fun _ hj => seen_of_not (nodL_10 hc h) hj
/-- what rings.Rings answers -/
theorem rings_10 {p l i : List Pt} (hc : ChkOk p l i) (h : (flTo p l i 3).k = 0) : ((chk p l i 4).k = 0 ∧ ringsR (p.length : Int) l = (ringsTo (pr l) p.length p.length, 0, 0)) ∨ ∃ j : Nat, chk p l i 4 = ⟨5, j, 0⟩ ∧ ringsR (p.length : Int) l = ([], (j : Int), 81) := by
  unfold ringsR
  rw [if_pos (okL_10 hc (flTo_le h (by omega))), again_10 hc h, if_neg (by omega), Int.toNat_natCast]
  rcases firstN_cases (forkB l) p.length with ⟨e, k⟩ | ⟨j, a, e, b, c⟩
  · refine .inl ⟨?_, ?_⟩
    · show (fl1 5 (forkB l) p.length).k = 0
      rw [fl1_no k]; rfl
    · unfold forkF; rw [e, if_neg (by omega)]
  · refine .inr ⟨j, fl1_at a b c, ?_⟩
    unfold forkF; rw [e, if_pos (by omega)]
/-! ### where points lie -/
theorem fitK_10 {p l i : List Pt} (hc : ChkOk p l i) {k : Int} (h0 : 0 ≤ k) (h3 : k ≤ 3) : fitK k p l = true := by
  rw [fitK_iff]
  intro a ha
  obtain ⟨x0, x1, y0, y1⟩ := sgInB_iff.1 (hc.sl a ha)
  have key : ∀ z : Int, 0 ≤ z → z < (p.length : Int) → fitB (scaleP k (ptI p z)) = true := by
    intro z z0 z1
    obtain ⟨j, -, hj, pj⟩ := ptI_at z0 z1
    have := place_iff.1 (hc.pl j hj)
    rw [pj, fitB_iff]
    unfold Pt.fits scaleP
    have c : k = 0 ∨ k = 1 ∨ k = 2 ∨ k = 3 := by omega
    rcases c with rfl | rfl | rfl | rfl <;> (dsimp only; omega)
  exact ⟨key _ x0 x1, key _ y0 y1⟩
theorem at_10 {p l i : List Pt} (hc : ChkOk p l i) (h : (flTo p l i 2).k = 0) {a : Nat} (ha : a < p.length) : atN 1 p l (pget p a) = whereZ 1 p l (pget p a) := by
  have hb : atB 1 p l (pget p a) = true := by
    unfold atB
    rw [proper_l10 hc h, fitK_10 hc (by omega) (by omega), place_fit (hc.pl a ha)]; rfl
  unfold atN
  rw [if_pos hb]
theorem okS_10 {p l i : List Pt} (hc : ChkOk p l i) (h : (flTo p l i 2).k = 0) : okL (p.length : Int) (l ++ i) := by
  refine ⟨by omega, by have := hc.n; omega, fun s hs => ?_⟩
  obtain ⟨j, hj, rfl⟩ := List.mem_iff_getElem.1 hs
  rw [← pget_getElem hj]
  obtain ⟨a, b, c, d⟩ := sgInB_iff.1 (chk_seg hc hj)
  exact ⟨a, c, b, d, shrunk_no (flTo_zero.1 h 1 (by omega)) hj⟩
end Go.Proofs.YtpjaefcmaiimlaaGreat
