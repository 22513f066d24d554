/-
  The document's digit changes nothing at all.
-/
import Derived.Test.YtpjaefcmaiimlaaRefNums
import Derived.BigQuiet
import Derived.Deep.DeepCutAuto
import Derived.OwnWalk
set_option linter.unusedVariables false
set_option linter.unusedSimpArgs false
set_option linter.deprecated false
namespace Go.Proofs.Ytpjaefcmaiimlaa
open Go.RowKit

theorem DigAt.drewN {W : World} {ad : Option Addr} {n cap : Nat} {f : Nat → Int} (h : DigAt W ad n cap f) (k : Nat) : DigAt (W.drewN k) ad n cap f := h.below (below_drewN' (Below.refl _ _) k)
end Go.Proofs.Ytpjaefcmaiimlaa

/-
  Contract of the document's side: Times.
-/
namespace Go.Proofs.Ytpjaefcmaiimlaa
open Go.RowKit

/-- the frame of Times -/
structure TimesW (w : World) (m m' : Bool) (s s' : Value) (W : World) : Prop where
  sz : w.heap.size + 3 ≤ W.heap.size
  hb : Below w.heap.size w W
  a0 : W.cell? ⟨w.heap.size, 0, none⟩ = some (.bool m)
  a1 : W.cell? ⟨w.heap.size, 1, none⟩ = some s
  b0 : W.cell? ⟨w.heap.size + 1, 0, none⟩ = some (.bool m')
  b1 : W.cell? ⟨w.heap.size + 1, 1, none⟩ = some s'
  f0 : W.frozen? ⟨w.heap.size + 2, 0, none⟩ = false
  f1 : W.frozen? ⟨w.heap.size + 2, 1, none⟩ = false
  z0 : W.cell? ⟨w.heap.size + 2, 0, none⟩ = some (.bool false)
  z1 : W.cell? ⟨w.heap.size + 2, 1, none⟩ = some (.slice none 0 0)
theorem getD_set (ds : List Int) (j i : Nat) (x : Int) (hj : j < ds.length) : (ds.set j x).getD i 0 = if i = j then x else ds.getD i 0 := by
  rw [List.getD_eq_getElem?_getD, List.getD_eq_getElem?_getD, List.getElem?_set]
  by_cases h : j = i
  · subst h; simp [hj]
  · rw [if_neg h, if_neg (fun e => h e.symm)]
theorem dval_put {f h : Nat → Int} (j : Nat) (x : Int) (hj : h j = x) (he : ∀ i, i ≠ j → h i = f i) : ∀ n, dval h n = dval f n + (if j < n then (x - f j) * 65536 ^ j else 0)
  | 0 => by simp [dval]
  | n + 1 => by
    simp only [dval]
    rw [dval_put j x hj he n]
    by_cases h1 : j < n
    · rw [if_pos h1, if_pos (by omega), he n (by omega)]; omega
    · by_cases h2 : j = n
      · subst h2
        rw [if_neg h1, if_pos (by omega), hj, Int.sub_mul]; omega
      · rw [if_neg h1, if_neg (by omega), he n (by omega)]; omega
theorem lval_set (ds : List Int) (j : Nat) (x : Int) (hj : j < ds.length) : lval (ds.set j x) = lval ds + (x - ds.getD j 0) * 65536 ^ j := by
  unfold lval
  rw [List.length_set, dval_put (f := fun i => ds.getD i 0) j x (by rw [getD_set _ _ _ _ hj, if_pos rfl]) (fun i hi => by rw [getD_set _ _ _ _ hj, if_neg hi]), if_pos hj]
theorem bd_set {ds : List Int} {j : Nat} {x : Int} (h : Bd ds) (hj : j < ds.length) (h0 : 0 ≤ x) (h1 : x < 65536) : Bd (ds.set j x) := by
  intro i
  rw [getD_set _ _ _ _ hj]
  have := h i
  split <;> omega
theorem Rw.put {B : Nat} {w W : World} {g n : Nat} {ds : List Int} (h : Rw B w (.slice (some ⟨g, 0, none⟩) n n) ds W) (hn : ds.length = n) (j : Nat) (x : Int) : Rw B w (.slice (some ⟨g, 0, none⟩) n n) (ds.set j x) (W.setCell ⟨g, j, none⟩ (.int .i64 x)) := by
  have ho := h.own
  rw [hn] at ho
  obtain ⟨h1, h2⟩ := ho.stored j (.int .i64 x)
  have hb := (ho.lt g rfl)
  refine ⟨?_, h.hb.setCell hb.1 _, by simpa using h.sz⟩
  rw [List.length_set, hn, List.map_set]
  exact h1
theorem Rw.at {B : Nat} {w W : World} {g n : Nat} {ds : List Int} (h : Rw B w (.slice (some ⟨g, 0, none⟩) n n) ds W) (hn : ds.length = n) : (∀ j, j < n → W.cell? ⟨g, j, none⟩ = some (.int .i64 (ds.getD j 0)) ∧ W.frozen? ⟨g, j, none⟩ = false) ∧ B ≤ g ∧ g < W.heap.size := by
  have ho := h.own
  rw [hn] at ho
  refine ⟨fun j hj => ⟨?_, ho.frozenAt j⟩, ho.lt g rfl⟩
  rw [ho.cellAt j (by omega), List.getElem?_map, List.getD_eq_getElem?_getD, List.getElem?_eq_getElem (by omega)]
  rfl

theorem getD_rep (n j : Nat) : (List.replicate n (0 : Int)).getD j 0 = 0 := by
  rw [List.getD_eq_getElem?_getD, List.getElem?_replicate]
  split <;> rfl
theorem bd_rep (n : Nat) : Bd (List.replicate n 0) := fun j => by rw [getD_rep]; omega
theorem lval_rep (n : Nat) : lval (List.replicate n 0) = 0 := by
  unfold lval
  rw [dval_ext (h := fun _ => 0) _ (fun j _ => getD_rep n j)]
  exact dval_ge (n := 0) (f := fun _ => 0) (fun _ _ => rfl) (Nat.zero_le _)
theorem wrapN (t : Nat) (h : t ≤ 201) : wrap64 (t : Int) = t := by unfold wrap64; omega
theorem wrapK (t : Nat) (h : t ≤ 201) : IntKind.i64.wrap (t : Int) = t := IntWalk.i64_in _ (by omega)
theorem wrapS (t : Nat) (h : t ≤ 101) : wrap64 ((t : Int) + 1) = (t : Int) + 1 := by unfold wrap64; omega
theorem wrapP (p : Int) (h0 : 0 ≤ p) (h1 : p ≤ 4294836225) : IntKind.i64.wrap p = p := IntWalk.i64_in _ (by omega)
theorem wrapQ (p : Int) (h0 : 0 ≤ p) (h1 : p ≤ 4294836225) : wrap64 p = p := by unfold wrap64; omega
theorem xb (d p c : Int) (h0 : 0 ≤ d) (h1 : d < 65536) (h2 : 0 ≤ p) (h3 : p ≤ 4294836225) (h4 : 0 ≤ c) (h5 : c < 65536) : 0 ≤ d + p + c ∧ d + p + c < 4294967296 := by omega
theorem sg_mul (m m' : Bool) (F H : Int) : sg m * F * (sg m' * H) = sg (m != m') * (F * H) := by
  cases m <;> cases m' <;> simp [sg, Int.mul_neg, Int.neg_mul]
theorem measK (kk : Nat) (h : kk ≤ 101) : 102 - ((kk : Int) + 1).toNat < 102 - (kk : Int).toNat := by omega
theorem wrapq (q : Int) (h0 : 0 ≤ q) (h1 : q < 65536) : wrap64 q = q := by unfold wrap64; omega
theorem qb (x : Int) (h0 : 0 ≤ x) (h1 : x < 4294967296) : 0 ≤ x / 65536 ∧ x / 65536 < 65536 := by omega
theorem remK (x : Int) (h0 : 0 ≤ x) (_h1 : x < 4294967296) : x.tmod 65536 = x % 65536 := Int.tmod_eq_emod_of_nonneg h0
theorem quoK (x : Int) (h0 : 0 ≤ x) (_h1 : x < 4294967296) : x.tdiv 65536 = x / 65536 := Int.tdiv_eq_ediv_of_nonneg h0
theorem times_step {ds : List Int} {cy x dj p : Int} {i k kk t : Nat} {f h : Nat → Int} (hq : (∀ j, i + k + 1 ≤ j → ds.getD j 0 = 0) ∧ (kk ≤ k → ds.getD (i + k) 0 = 0) ∧ lval ds + cy * 65536 ^ (i + kk) = dval f i * dval h k + f i * dval h kk * 65536 ^ i)
    (ht : t = i + kk) (htl : t < ds.length) (hdj : dj = ds.getD (i + kk) 0) (hp : p = f i * h kk) (hx : x = dj + p + cy) (hkk : kk ≤ k) :
    (∀ j, i + k + 1 ≤ j → (ds.set t (x % 65536)).getD j 0 = 0) ∧ (kk + 1 ≤ k → (ds.set t (x % 65536)).getD (i + k) 0 = 0) ∧ lval (ds.set t (x % 65536)) + x / 65536 * 65536 ^ (i + (kk + 1)) = dval f i * dval h k + f i * dval h (kk + 1) * 65536 ^ i := by
  subst ht
  refine ⟨fun j hj => ?_, fun hk1 => ?_, ?_⟩
  · rw [getD_set _ _ _ _ htl, if_neg (by omega)]; exact hq.1 j hj
  · rw [getD_set _ _ _ _ htl, if_neg (by omega)]; exact hq.2.1 (by omega)
  · rw [lval_set _ _ _ htl, ← hdj, ← Nat.add_assoc, Int.pow_succ]
    simp only [dval]
    have h3 := hq.2.2
    have e1 : x / 65536 * (65536 ^ (i + kk) * 65536) = x / 65536 * 65536 * 65536 ^ (i + kk) := by
      rw [Int.mul_comm (65536 ^ (i + kk)), Int.mul_assoc]
    have e2 : (x % 65536 - dj) * 65536 ^ (i + kk) + x / 65536 * 65536 * 65536 ^ (i + kk) = (p + cy) * 65536 ^ (i + kk) := by
      rw [← Int.add_mul]; congr 1; omega
    have e3 : f i * (dval h kk + h kk * 65536 ^ kk) * 65536 ^ i = f i * dval h kk * 65536 ^ i + p * 65536 ^ (i + kk) := by
      rw [Int.mul_add, Int.add_mul, hp, Int.pow_add, Int.mul_comm (65536 ^ i)]
      congr 1
      simp only [Int.mul_assoc]
    rw [e1, e3]
    rw [Int.add_mul] at e2
    omega
/-- ahead of row i -/
def TimesO (B : Nat) (W2 : World) (N g n k : Nat) (f h : Nat → Int) (iv : Value) (W : World) : Prop :=
  ∃ (ds : List Int) (i : Nat), iv = .int .i64 i ∧ i ≤ n ∧ Rw B W2 (.slice (some ⟨g, 0, none⟩) N N) ds W ∧ ds.length = N ∧ Bd ds ∧ Hid ((∀ j, i + k ≤ j → ds.getD j 0 = 0) ∧ lval ds = dval f i * dval h k)
/-- in row i, ahead of place kk -/
def TimesI (B : Nat) (W2 : World) (N g k : Nat) (f h : Nat → Int) (i : Nat) (cv kv : Value) (W : World) : Prop :=
  ∃ (ds : List Int) (cy : Int) (kk : Nat), cv = .int .i64 cy ∧ kv = .int .i64 kk ∧ (kk ≤ k ∨ (kk = k + 1 ∧ cy = 0)) ∧ 0 ≤ cy ∧ cy < 65536 ∧ Rw B W2 (.slice (some ⟨g, 0, none⟩) N N) ds W ∧ ds.length = N ∧ Bd ds ∧
    Hid ((∀ j, i + k + 1 ≤ j → ds.getD j 0 = 0) ∧ (kk ≤ k → ds.getD (i + k) 0 = 0) ∧ lval ds + cy * 65536 ^ (i + kk) = dval f i * dval h k + f i * dval h kk * 65536 ^ i)

end Go.Proofs.Ytpjaefcmaiimlaa

/-
  Contract of the document's side: Small.
-/
namespace Go.Proofs.Ytpjaefcmaiimlaa
open Go.RowKit

def SmallI (B : Nat) (W2 : World) (m : Bool) (Z : Int) (dv xv : Value) (W : World) : Prop :=
  ∃ (ds : List Int) (X : Int), xv = .int .i64 (sg m * X) ∧ Rw B W2 dv ds W ∧ Bd ds ∧ Hid (Z = lval ds + X * 65536 ^ ds.length) ∧ 0 ≤ X ∧ X ≤ Z ∧ ds.length ≤ 4

theorem small_len {ds : List Int} {Z X : Int} (hB : Bd ds) (hq : Z = lval ds + X * 65536 ^ ds.length) (hZ : Z ≤ 9223372036854775808) (h0 : 0 < X) : ds.length ≤ 3 := by
  rcases Nat.lt_or_ge 3 ds.length with h | h
  · exfalso
    have c5 : (65536 : Int) ^ 4 ≤ 65536 ^ ds.length := p16_le (by omega)
    have c6 : 1 * (65536 : Int) ^ ds.length ≤ X * 65536 ^ ds.length := Int.mul_le_mul_of_nonneg_right (by omega) (by have := p16_pos ds.length; omega)
    have c7 := (lval_bound hB).1
    rw [show (65536 : Int) ^ 4 = 18446744073709551616 from rfl] at c5
    omega
  · exact h
theorem small_step {ds : List Int} {Z X : Int} (hq : Z = lval ds + X * 65536 ^ ds.length) :
    Z = lval (ds ++ [X % 65536]) + X / 65536 * 65536 ^ (ds ++ [X % 65536]).length := by
  rw [lval_snoc, List.length_append, List.length_singleton, Int.pow_succ, hq]
  have e2 : X / 65536 * (65536 ^ ds.length * 65536) = X / 65536 * 65536 * 65536 ^ ds.length := by
    rw [Int.mul_comm (65536 ^ ds.length), Int.mul_assoc]
  have e3 : X * 65536 ^ ds.length = (X % 65536 + X / 65536 * 65536) * 65536 ^ ds.length := by
    congr 1; omega
  rw [e2, e3, Int.add_mul]
  omega
theorem sg_tdiv (m : Bool) (X : Int) (h : 0 ≤ X) : (sg m * X).tdiv 65536 = sg m * (X / 65536) ∧ (sg m * X).tmod 65536 = sg m * (X % 65536) := by
  cases m
  · simp only [sg, Bool.false_eq_true, if_false, Int.one_mul]
    exact ⟨Int.tdiv_eq_ediv_of_nonneg h, Int.tmod_eq_emod_of_nonneg h⟩
  · have e1 : (-1 : Int) * X = -X := by omega
    have e2 : (-1 : Int) * (X / 65536) = -(X / 65536) := by omega
    have e3 : (-1 : Int) * (X % 65536) = -(X % 65536) := by omega
    simp only [sg, if_true]
    rw [e1, e2, e3, Int.neg_tdiv, Int.neg_tmod, Int.tdiv_eq_ediv_of_nonneg h, Int.tmod_eq_emod_of_nonneg h]
    exact ⟨rfl, rfl⟩

end Go.Proofs.Ytpjaefcmaiimlaa
