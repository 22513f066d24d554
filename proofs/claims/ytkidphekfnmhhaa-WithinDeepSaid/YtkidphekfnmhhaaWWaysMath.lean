/-
  Plain mathematics of WithinWays: a loop, mirrored or swapped.
-/
import Derived.Test.YtkidphekfnmhhaaWRing
namespace Go.Proofs.Ytkidphekfnmhhaa

theorem bool_ext {a b : Bool} (h : a = true ↔ b = true) : a = b := by cases a <;> cases b <;> simp_all
theorem pget_map (f : Pt → Pt) {p : List Pt} {i : Nat} (h : i < p.length) : pget (p.map f) i = f (pget p i) := by
  unfold pget
  simp [List.getD, h]
theorem ptI_nat (p : List Pt) (i : Nat) : ptI p (i : Int) = pget p i := by unfold ptI; rw [Int.toNat_natCast]
theorem ring_ok (p : List Pt) {n i : Nat} (hn : n ≤ p.length) (h : i < n) : okSeg9 p (pget (ringL n) i) = true ↔ fitB (pget p i) = true ∧ fitB (pget p ((i + 1) % n)) = true ∧ pget p i ≠ pget p ((i + 1) % n) := by
  have hm : (i + 1) % n < n := Nat.mod_lt _ (by omega)
  rw [ringL_at h, ok9_iff]
  dsimp only
  rw [known_iff, known_iff, ptI_nat, ptI_nat]
  constructor
  · rintro ⟨⟨-, -, h1⟩, ⟨-, -, h2⟩, h3⟩; exact ⟨h1, h2, h3⟩
  · rintro ⟨h1, h2, h3⟩; exact ⟨⟨by omega, by omega, h1⟩, ⟨by omega, by omega, h2⟩, h3⟩
theorem ring_proper {p : List Pt} {n : Nat} (hn : n ≤ p.length) : properL p (ringL n) = true ↔ ∀ i, i < n → fitB (pget p i) = true ∧ fitB (pget p ((i + 1) % n)) = true ∧ pget p i ≠ pget p ((i + 1) % n) := by
  rw [proper_iff, ringL_len]
  exact ⟨fun h i hi => (ring_ok p hn hi).1 (h i hi), fun h i hi => (ring_ok p hn hi).2 (h i hi)⟩
theorem ring_ends (k : Int) (p : List Pt) {n i : Nat} (h : i < n) : endsOf k p (ringL n) i = (scaleP k (pget p i), scaleP k (pget p ((i + 1) % n))) := by
  unfold endsOf
  rw [ringL_at h]
  dsimp only
  rw [ptI_nat, ptI_nat]
theorem ring_where (p : List Pt) (n : Nat) (q : Pt) : whereZ 1 p (ringL n) q = whereN n (loopE (pget p) n) q := by
  unfold whereZ
  rw [ringL_len]
  refine whereN_congr fun i hi => ?_
  rw [ring_ends 1 p hi, scale_one, scale_one]
  rfl
theorem atB_one (p l : List Pt) (q : Pt) : atB 1 p l q = (properL p l && fitB q) := by
  unfold atB
  cases h : properL p l
  · rfl
  · rw [fitK_one h]; rfl
theorem ways_at {f F : Pt → Pt} {s : Int} (hk : ∀ l, Keeps F s l) {g : Pt → Pt → Bool}
    (hr : ∀ {a b q : Pt}, fitB a = true → fitB b = true → fitB q = true → onB a b q = false → a ≠ b → (rightB a b q != rightB (F a) (F b) (F q)) = (g q a != g q b))
    (hfit : ∀ a : Pt, a.wf → fitB (f a) = fitB a) (hinj : ∀ a b : Pt, a.wf → b.wf → (f a = f b ↔ a = b)) (hex : ∀ a : Pt, fitB a = true → f a = F a)
    {p : List Pt} (hp : ∀ i, i < p.length → (pget p i).wf) {q : Pt} (hq : q.wf) :
    atN 1 (p.map f) (ringL p.length) (f q) = atN 1 p (ringL p.length) q ∧ atE 1 (p.map f) (ringL p.length) (f q) = atE 1 p (ringL p.length) q := by
  have hm : ∀ {i}, i < p.length → (i + 1) % p.length < p.length := fun hi => Nat.mod_lt _ (by omega)
  have hpr : properL (p.map f) (ringL p.length) = properL p (ringL p.length) := by
    refine bool_ext ?_
    rw [ring_proper (by rw [List.length_map]; exact Nat.le_refl _), ring_proper (Nat.le_refl _)]
    refine forall_congr' fun i => forall_congr' fun hi => ?_
    rw [pget_map f hi, pget_map f (hm hi), hfit _ (hp i hi), hfit _ (hp _ (hm hi)), Ne, hinj _ _ (hp i hi) (hp _ (hm hi))]
  have hat : atB 1 (p.map f) (ringL p.length) (f q) = atB 1 p (ringL p.length) q := by
    rw [atB_one, atB_one, hpr, hfit q hq]
  unfold atN atE
  rw [hat]
  cases h : atB 1 p (ringL p.length) q
  · exact ⟨rfl, rfl⟩
  · refine ⟨?_, rfl⟩
    rw [atB_one, Bool.and_eq_true, ring_proper (Nat.le_refl _)] at h
    rw [if_pos rfl, if_pos rfl, ring_where, ring_where, hex q h.2]
    have e : whereN p.length (loopE (pget (p.map f)) p.length) (F q) = whereN p.length (loopE (fun i => F (pget p i)) p.length) (F q) := by
      refine whereN_congr fun i hi => ?_
      unfold loopE
      rw [pget_map f hi, pget_map f (hm hi), hex _ (h.1 i hi).1, hex _ (h.1 i hi).2.1]
    rw [e]
    exact loop_ways hk hr (fun i hi => (h.1 i hi).1) (fun i hi => (h.1 i hi).2.2) h.2
/-- as the machine mirrors -/
def wneg (a : Pt) : Pt := ⟨IntKind.i64.wrap (-a.x), IntKind.i64.wrap (-a.y)⟩
theorem wneg_fit (a : Pt) (h : a.wf) : fitB (wneg a) = fitB a := by
  refine bool_ext ?_
  rw [fitB_iff, fitB_iff]
  unfold Pt.wf at h
  unfold Pt.fits wneg
  simp only [IntKind.wrap_i64]
  omega
theorem wneg_inj (a b : Pt) (ha : a.wf) (hb : b.wf) : wneg a = wneg b ↔ a = b := by
  constructor
  · intro h
    unfold wneg at h
    injection h with h1 h2
    rw [IntKind.wrap_i64, IntKind.wrap_i64] at h1 h2
    unfold Pt.wf at ha hb
    exact Pt.ext' (by omega) (by omega)
  · rintro rfl; rfl
theorem wneg_ex (a : Pt) (h : fitB a = true) : wneg a = negP a := by
  have := fitB_iff.1 h
  unfold Pt.fits at this
  unfold wneg negP
  rw [IntKind.wrap_i64, IntKind.wrap_i64]
  exact Pt.ext' (by dsimp only; omega) (by dsimp only; omega)
theorem swap_inj (a b : Pt) : swapP a = swapP b ↔ a = b := by
  constructor
  · intro h
    unfold swapP at h
    injection h with h1 h2
    exact Pt.ext' h2 h1
  · rintro rfl; rfl
theorem ways_neg {p : List Pt} (hp : ∀ i, i < p.length → (pget p i).wf) {q : Pt} (hq : q.wf) :
    atN 1 (p.map wneg) (ringL p.length) (wneg q) = atN 1 p (ringL p.length) q ∧ atE 1 (p.map wneg) (ringL p.length) (wneg q) = atE 1 p (ringL p.length) q :=
  ways_at neg_keeps right_neg wneg_fit wneg_inj wneg_ex hp hq
theorem ways_swap {p : List Pt} (hp : ∀ i, i < p.length → (pget p i).wf) {q : Pt} (hq : q.wf) :
    atN 1 (p.map swapP) (ringL p.length) (swapP q) = atN 1 p (ringL p.length) q ∧ atE 1 (p.map swapP) (ringL p.length) (swapP q) = atE 1 p (ringL p.length) q :=
  ways_at swap_keeps right_swap (fun a _ => (swap_keeps [a]).fit a (by simp)) (fun a b _ _ => swap_inj a b) (fun _ _ => rfl) hp hq
end Go.Proofs.Ytkidphekfnmhhaa
