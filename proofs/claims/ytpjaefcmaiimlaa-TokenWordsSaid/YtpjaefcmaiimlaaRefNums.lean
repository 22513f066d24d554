/-
  Contracts of the document's side: Num.Wide.
-/
import Derived.Test.YtpjaefcmaiimlaaRefOf
import Derived.Deep.DeepCutAuto
set_option linter.unusedVariables false
set_option linter.unusedSimpArgs false
set_option linter.deprecated false
namespace Go.Proofs.Ytpjaefcmaiimlaa
open Go.RowKit

/-- the k highest of four digits, as a number -/
def hz (g : Nat → Int) : Nat → Int
  | 0 => 0
  | k + 1 => hz g k * 65536 + g (3 - k)
theorem hz_bound (g : Nat → Int) (hg : ∀ t, 0 ≤ g t ∧ g t < 65536) : ∀ k, 0 ≤ hz g k ∧ hz g k < 65536 ^ k
  | 0 => by simp [hz]
  | k + 1 => by
    have h := hz_bound g hg k
    have h2 := hg (3 - k)
    rw [Int.pow_succ]
    simp only [hz]
    omega
theorem hz_zero (g : Nat → Int) : ∀ k, k ≤ 4 → (∀ t, 4 - k ≤ t → t < 4 → g t = 0) → hz g k = 0
  | 0, _, _ => rfl
  | k + 1, hk, h => by
    simp only [hz]
    rw [hz_zero g k (by omega) (fun t h1 h2 => h t (by omega) h2), h (3 - k) (by omega) (by omega)]
    rfl
def kq (r q : Nat) : Nat := 4 - min 4 (r - 4 * q)
/-- limb q, once the digits from r on are taken -/
def LW (f : Nat → Int) (r q : Nat) : Int := hz (fun t => f (4 * q + t)) (kq r q)
theorem LW_same (f : Nat → Int) (r q : Nat) (h : q ≠ r / 4) : LW f r q = LW f (r + 1) q := by
  unfold LW; rw [show kq r q = kq (r + 1) q by unfold kq; omega]
theorem LW_step (f : Nat → Int) (r : Nat) : LW f r (r / 4) = LW f (r + 1) (r / 4) * 65536 + f r := by
  unfold LW
  rw [show kq r (r / 4) = kq (r + 1) (r / 4) + 1 by unfold kq; omega]
  simp only [hz]
  rw [show 4 * (r / 4) + (3 - kq (r + 1) (r / 4)) = r by unfold kq; omega]
theorem LW_bound (f : Nat → Int) (hf : ∀ t, 0 ≤ f t ∧ f t < 65536) (r : Nat) : 0 ≤ LW f (r + 1) (r / 4) ∧ LW f (r + 1) (r / 4) < 281474976710656 := by
  have h := hz_bound (fun t => f (4 * (r / 4) + t)) (fun t => hf _) (kq (r + 1) (r / 4))
  unfold LW
  refine ⟨h.1, Int.lt_of_lt_of_le h.2 ?_⟩
  have : kq (r + 1) (r / 4) = 0 ∨ kq (r + 1) (r / 4) = 1 ∨ kq (r + 1) (r / 4) = 2 ∨ kq (r + 1) (r / 4) = 3 := by unfold kq; omega
  rcases this with h | h | h | h <;> rw [h] <;> decide
theorem LW_start (f : Nat → Int) (n q : Nat) (hz' : ∀ j, n ≤ j → f j = 0) : LW f n q = 0 := by
  unfold LW
  refine hz_zero _ _ (by unfold kq; omega) fun t h1 h2 => hz' _ ?_
  unfold kq at h1; omega

structure WB (w : World) (m : Bool) (g c n : Nat) (L : Nat → Int) (W : World) : Prop where
  s : W.cell? ⟨w.heap.size, 1, none⟩ = some (.slice (some ⟨g, 0, none⟩) n c)
  o : ∀ q, q < 5 → (W.cell? ⟨w.heap.size + 1, q, none⟩).isSome = true ∧ W.frozen? ⟨w.heap.size + 1, q, none⟩ = false
  x : W.cell? ⟨w.heap.size + 2, 0, none⟩ = some (.bool m)
  y : ∀ q, q < 4 → W.cell? ⟨w.heap.size + 2, 1 + q, none⟩ = some (.int .u64 (L q))
  z : ∀ q, q < 4 → W.frozen? ⟨w.heap.size + 2, 1 + q, none⟩ = false
  hb : Below w.heap.size w W
theorem WB.drew {w : World} {m : Bool} {g c n : Nat} {L : Nat → Int} {W : World} (h : WB w m g c n L W) : WB w m g c n L W.drew := ⟨h.s, h.o, h.x, h.y, h.z, h.hb.drew⟩
theorem WB.drewN {w : World} {m : Bool} {g c n : Nat} {L : Nat → Int} {W : World} (h : WB w m g c n L W) (k : Nat) : WB w m g c n L (W.drewN k) := ⟨h.s, h.o, h.x, h.y, h.z, below_drewN' h.hb _⟩
theorem WB.set {w : World} {m : Bool} {g c n : Nat} {L L' : Nat → Int} {W : World} (h : WB w m g c n L W) (q : Nat) (hq : q < 4) (v : Int) (e1 : L' q = v) (e2 : ∀ p, p ≠ q → L' p = L p) : WB w m g c n L' (W.setCell ⟨w.heap.size + 2, 1 + q, none⟩ (.int .u64 v)) := by
  refine ⟨?_, ?_, ?_, ?_, ?_, bl_set h.hb (by dsimp only; omega) _⟩
  · exact (World.cell?_setCell_other _ _ _ _ (by intro e; injection e with e1; omega)).trans h.s
  · intro p hp
    rw [World.frozen?_setCell, World.cell?_setCell_other _ _ _ _ (by intro e; injection e with e1; omega)]
    exact h.o p hp
  · exact (World.cell?_setCell_other _ _ _ _ (by intro e; injection e with e1 e2; omega)).trans h.x
  · intro p hp
    by_cases hpq : p = q
    · subst hpq
      rw [World.cell?_setCell_same _ _ _ (h.y p hp), e1]
    · rw [World.cell?_setCell_other _ _ _ _ (by intro e; injection e with e1 e2; omega), h.y p hp, e2 p hpq]
  · intro p hp
    rw [World.frozen?_setCell]; exact h.z p hp

def WdR (w : World) (m : Bool) (g c n : Nat) (f : Nat → Int) (iv : Value) (W : World) : Prop :=
  ∃ r : Nat, iv = .int .i64 ((r : Int) - 1) ∧ r ≤ n ∧ WB w m g c n (LW f r) W

def RWideP (m : Bool) (f : Nat → Int) (w : World) (e : Ending) (w' : World) : Prop :=
  e = .returned (.tuple #[(.agg #[.bool m, .int .u64 (LW f 0 0), .int .u64 (LW f 0 1), .int .u64 (LW f 0 2), .int .u64 (LW f 0 3)]), .bool true]) ∧ Below w.heap.size w w'

end Go.Proofs.Ytpjaefcmaiimlaa

/-
  A number by the document's Of, and back by its Wide: the number itself, its sign struck where it is nought.
-/
namespace Go.Proofs.Ytpjaefcmaiimlaa
open Go.RowKit

/-- digit j of a number -/
def dgt (a b c d : Int) (j : Nat) : Int := (dsOf a b c d 16).getD j 0
theorem dgt_in (a b c d : Int) (j : Nat) (h : j < 16) : dgt a b c d j = dsF a b c d j := by
  unfold dgt dsOf
  rw [List.getD_eq_getElem?_getD, List.getElem?_map, List.getElem?_range h]; rfl
theorem dgt_out (a b c d : Int) (j : Nat) (h : 16 ≤ j) : dgt a b c d j = 0 := by
  unfold dgt dsOf
  rw [List.getD_eq_getElem?_getD, List.getElem?_eq_none (by simp; omega)]; rfl
theorem dgt_bound (a b c d : Int) (j : Nat) : 0 ≤ dgt a b c d j ∧ dgt a b c d j < 65536 := by
  rcases Nat.lt_or_ge j 16 with h | h
  · rw [dgt_in a b c d j h]; unfold dsF
    exact ⟨Int.emod_nonneg _ (by omega), Int.emod_lt_of_pos _ (by omega)⟩
  · rw [dgt_out a b c d j h]; omega
theorem dgt_at (a b c d : Int) (q t : Nat) (hq : q < 4) (ht : t < 4) : dgt a b c d (4 * q + t) = lim a b c d q / 65536 ^ t % 65536 := by
  rw [dgt_in _ _ _ _ _ (by omega)]; unfold dsF
  rw [show (4 * q + t) / 4 = q by omega, show (4 * q + t) % 4 = t by omega]
theorem LW_dgt (a b c d : Int) (q : Nat) (hq : q < 4) (h : In1 (lim a b c d q)) : LW (dgt a b c d) 0 q = lim a b c d q := by
  unfold In1 at h
  unfold LW
  rw [show kq 0 q = 4 by unfold kq; omega]
  simp only [hz]
  rw [dgt_at _ _ _ _ q _ hq (by omega), dgt_at _ _ _ _ q _ hq (by omega), dgt_at _ _ _ _ q _ hq (by omega), dgt_at _ _ _ _ q _ hq (by omega)]
  simp only [Nat.sub_zero, Nat.reduceSub, show (65536 : Int) ^ 3 = 281474976710656 from rfl, show (65536 : Int) ^ 2 = 4294967296 from rfl, show (65536 : Int) ^ 1 = 65536 from rfl, show (65536 : Int) ^ 0 = 1 from rfl]
  omega
theorem trim_zero (a b c d : Int) (hA : In4 a b c d) (n : Nat) (hn : TrimAt (dsOf a b c d 16) n) : (∀ j, n ≤ j → dgt a b c d j = 0) ∧ (0 < n ↔ V4 a b c d ≠ 0) := by
  obtain ⟨h1, h2, h3⟩ := hn
  rw [dsOf_len] at h1 h2
  have hz' : ∀ j, n ≤ j → dgt a b c d j = 0 := fun j hj => by
    rcases Nat.lt_or_ge j 16 with h | h
    · exact h2 j hj h
    · exact dgt_out _ _ _ _ _ h
  refine ⟨hz', ?_⟩
  obtain ⟨i0, i1, i2, i3⟩ := hA
  have l0 := LW_dgt a b c d 0 (by omega) i0
  have l1 := LW_dgt a b c d 1 (by omega) i1
  have l2 := LW_dgt a b c d 2 (by omega) i2
  have l3 := LW_dgt a b c d 3 (by omega) i3
  constructor
  · intro hp hv
    have := (v4_zero ⟨i0, i1, i2, i3⟩).1 hv
    obtain ⟨rfl, rfl, rfl, rfl⟩ := this
    rcases h3 with h | h
    · omega
    · apply h
      have e : dgt 0 0 0 0 (n - 1) = 0 := by
        rw [dgt_in _ _ _ _ _ (by omega)]; unfold dsF lim
        have : (n - 1) / 4 = 0 ∨ (n - 1) / 4 = 1 ∨ (n - 1) / 4 = 2 ∨ (n - 1) / 4 = 3 := by omega
        rcases this with h | h | h | h <;> rw [h] <;> simp
      exact e
  · intro hv
    rcases Nat.eq_zero_or_pos n with h | h
    · subst h
      exfalso; apply hv
      rw [LW_start _ 0 _ hz'] at l0 l1 l2 l3
      exact (v4_zero ⟨i0, i1, i2, i3⟩).2 ⟨l0.symm, l1.symm, l2.symm, l3.symm⟩
    · exact h

/-- a Num that lies in memory: its sign, its digits -/
def NumAt (v : Value) (m : Bool) (f : Nat → Int) (W : World) : Prop :=
  ∃ n g cap : Nat, v = .agg #[.bool m, .slice (some ⟨g, 0, none⟩) n cap] ∧ n ≤ 16 ∧ n ≤ cap ∧ cap ≤ 9223372036854775807 ∧ g < W.heap.size ∧ Hid ((∀ t, 0 ≤ f t ∧ f t < 65536) ∧ ∀ j, n ≤ j → f j = 0) ∧ Hid (∀ j, j < n → W.cell? ⟨g, j, none⟩ = some (.int .i64 (f j)))
theorem NumAt.below {v : Value} {m : Bool} {f : Nat → Int} {W W' : World} (h : NumAt v m f W) (hb : Below W.heap.size W W') : NumAt v m f W' := by
  obtain ⟨n, g, cap, e, h1, h2, h3, h4, h5, h6⟩ := h
  exact ⟨n, g, cap, e, h1, h2, h3, Nat.lt_of_lt_of_le h4 hb.size, h5, fun j hj => (hb.cell (by exact h4)).trans (h6.out j hj)⟩

end Go.Proofs.Ytpjaefcmaiimlaa

/-
  Contracts of the document's side: digit, Neg, Sign.
-/
namespace Go.Proofs.Ytpjaefcmaiimlaa
open Go.RowKit

end Go.Proofs.Ytpjaefcmaiimlaa

/-
  Contract of the document's side: size.
-/
namespace Go.Proofs.Ytpjaefcmaiimlaa
open Go.RowKit

/-- what size answers of the digits f (n of them) and h (k of them) -/
def SizeIs (f h : Nat → Int) (n k : Nat) (r : Int) : Prop :=
  (n ≠ k ∧ r = (n : Int) - k) ∨ (n = k ∧ ∃ i, i < n ∧ f i ≠ h i ∧ (∀ j, i < j → j < n → f j = h j) ∧ r = f i - h i) ∨ (n = k ∧ (∀ j, j < n → f j = h j) ∧ r = 0)

end Go.Proofs.Ytpjaefcmaiimlaa

/-
  Numbers by their digits to the base 65536: plain facts.
-/
namespace Go.Proofs.Ytpjaefcmaiimlaa
open Go.RowKit

/-- the number of the n lowest digits -/
def dval (f : Nat → Int) : Nat → Int
  | 0 => 0
  | n + 1 => dval f n + f n * 65536 ^ n

theorem p16_pos (n : Nat) : (0 : Int) < 65536 ^ n := Int.pow_pos (by omega)
theorem p16_le {n k : Nat} (h : n ≤ k) : (65536 : Int) ^ n ≤ 65536 ^ k := by
  obtain ⟨d, rfl⟩ := Nat.exists_eq_add_of_le h
  rw [Int.pow_add]
  have h1 := p16_pos n
  have h2 := p16_pos d
  have h3 : (65536 : Int) ^ n * 1 ≤ 65536 ^ n * 65536 ^ d := Int.mul_le_mul_of_nonneg_left (by omega) (by omega)
  omega
theorem dval_bound {f : Nat → Int} (hf : ∀ j, 0 ≤ f j ∧ f j < 65536) : ∀ n, 0 ≤ dval f n ∧ dval f n < 65536 ^ n
  | 0 => by simp [dval]
  | n + 1 => by
    have h := dval_bound hf n
    have h2 := hf n
    have hp := p16_pos n
    have e1 : 0 ≤ f n * 65536 ^ n := Int.mul_nonneg h2.1 (by omega)
    have e2 : f n * 65536 ^ n ≤ 65535 * 65536 ^ n := Int.mul_le_mul_of_nonneg_right (by omega) (by omega)
    rw [Int.pow_succ]
    simp only [dval]
    omega
theorem dval_ext {f h : Nat → Int} : ∀ n, (∀ j, j < n → f j = h j) → dval f n = dval h n
  | 0, _ => rfl
  | n + 1, e => by simp only [dval]; rw [dval_ext n (fun j hj => e j (by omega)), e n (by omega)]
theorem dval_tail {f : Nat → Int} {n : Nat} (h : ∀ j, n ≤ j → f j = 0) : ∀ k, dval f (n + k) = dval f n
  | 0 => rfl
  | k + 1 => by rw [← Nat.add_assoc]; simp only [dval]; rw [dval_tail h k, h (n + k) (by omega)]; omega
theorem dval_ge {f : Nat → Int} {n k : Nat} (h : ∀ j, n ≤ j → f j = 0) (hk : n ≤ k) : dval f k = dval f n := by
  obtain ⟨d, rfl⟩ := Nat.exists_eq_add_of_le hk
  exact dval_tail h d
theorem dval_low {f : Nat → Int} (hf : ∀ j, 0 ≤ f j ∧ f j < 65536) {n : Nat} (hn : 0 < n) (ht : f (n - 1) ≠ 0) : 65536 ^ (n - 1) ≤ dval f n := by
  obtain ⟨m, rfl⟩ : ∃ m, n = m + 1 := ⟨n - 1, by omega⟩
  rw [Nat.add_sub_cancel] at ht ⊢
  have h1 := dval_bound hf m
  have h2 := hf m
  have hp := p16_pos m
  have e : 1 * (65536 : Int) ^ m ≤ f m * 65536 ^ m := Int.mul_le_mul_of_nonneg_right (by omega) (by omega)
  simp only [dval]
  omega
theorem dval_lt {f h : Nat → Int} (hf : ∀ j, 0 ≤ f j ∧ f j < 65536) (hh : ∀ j, 0 ≤ h j ∧ h j < 65536) (i : Nat) (hlt : f i < h i) : ∀ n, i < n → (∀ j, i < j → j < n → f j = h j) → dval f n < dval h n
  | 0, hi, _ => absurd hi (by omega)
  | n + 1, hi, he => by
    simp only [dval]
    by_cases e : i = n
    · subst e
      have h1 := dval_bound hf i
      have h2 := dval_bound hh i
      have hp := p16_pos i
      have e : (f i + 1) * (65536 : Int) ^ i ≤ h i * 65536 ^ i := Int.mul_le_mul_of_nonneg_right (by omega) (by omega)
      rw [Int.add_mul] at e
      omega
    · have := dval_lt hf hh i hlt n (by omega) (fun j a b => he j a (by omega))
      rw [he n (by omega) (by omega)]
      omega
theorem dval_len {f h : Nat → Int} (hf : ∀ j, 0 ≤ f j ∧ f j < 65536) (hh : ∀ j, 0 ≤ h j ∧ h j < 65536) {n k : Nat} (hk : n < k) (ht : h (k - 1) ≠ 0) : dval f n < dval h k := by
  have h1 := dval_bound hf n
  have h2 := dval_low hh (by omega) ht
  have h3 : (65536 : Int) ^ n ≤ 65536 ^ (k - 1) := p16_le (by omega)
  omega
theorem size_sign {f h : Nat → Int} {n k : Nat} {r : Int} (hf : ∀ j, 0 ≤ f j ∧ f j < 65536) (hh : ∀ j, 0 ≤ h j ∧ h j < 65536) (tf : n = 0 ∨ f (n - 1) ≠ 0) (th : k = 0 ∨ h (k - 1) ≠ 0) (hs : SizeIs f h n k r) :
    (r < 0 → dval f n < dval h k) ∧ (0 ≤ r → dval h k ≤ dval f n) := by
  rcases hs with ⟨h1, rfl⟩ | ⟨rfl, i, h1, h2, h3, rfl⟩ | ⟨rfl, h1, rfl⟩
  · constructor
    · intro h
      exact dval_len hf hh (by omega) (by rcases th with h | h; · omega
                                          · exact h)
    · intro h
      exact Int.le_of_lt (dval_len hh hf (by omega) (by rcases tf with h | h; · omega
                                                        · exact h))
  · constructor
    · intro h; exact dval_lt hf hh i (by omega) n h1 h3
    · intro h; exact Int.le_of_lt (dval_lt hh hf i (by omega) n h1 (fun j a b => (h3 j a b).symm))
  · rw [dval_ext n h1]
    exact ⟨fun h => absurd h (by omega), fun _ => Int.le_refl _⟩

def sg (m : Bool) : Int := if m then -1 else 1

/-- the digits of a Num, in memory: none nought behind -/
structure DigAt (W : World) (ad : Option Addr) (n cap : Nat) (f : Nat → Int) : Prop where
  bd : ∀ j, 0 ≤ f j ∧ f j < 65536
  hi : ∀ j, n ≤ j → f j = 0
  top : n = 0 ∨ f (n - 1) ≠ 0
  mem : n = 0 ∨ ∃ g, ad = some ⟨g, 0, none⟩ ∧ n ≤ cap ∧ cap ≤ 9223372036854775807 ∧ g < W.heap.size ∧ Hid (∀ j, j < n → W.cell? ⟨g, j, none⟩ = some (.int .i64 (f j)))
/-- v is a Num, and the number z -/
def NumIs (v : Value) (z : Int) (W : World) : Prop :=
  ∃ (m : Bool) (ad : Option Addr) (n cap : Nat) (f : Nat → Int), v = .agg #[.bool m, .slice ad n cap] ∧ DigAt W ad n cap f ∧ (n = 0 → m = false) ∧ z = sg m * dval f n
theorem DigAt.below {W W' : World} {ad : Option Addr} {n cap : Nat} {f : Nat → Int} (h : DigAt W ad n cap f) (hb : Below W.heap.size W W') : DigAt W' ad n cap f := by
  refine ⟨h.bd, h.hi, h.top, ?_⟩
  rcases h.mem with h | ⟨g, e, h1, h2, h3, h4⟩
  · exact .inl h
  · exact .inr ⟨g, e, h1, h2, Nat.lt_of_lt_of_le h3 hb.size, fun j hj => (hb.cell (by exact h3)).trans (h4.out j hj)⟩
theorem NumIs.below {v : Value} {z : Int} {W W' : World} (h : NumIs v z W) (hb : Below W.heap.size W W') : NumIs v z W' := by
  obtain ⟨m, ad, n, cap, f, e, h1, h2, h3⟩ := h
  exact ⟨m, ad, n, cap, f, e, h1.below hb, h2, h3⟩
/-- the greatest that is told of here -/
def BIG : Int := 65536 ^ 100
theorem len_of {W : World} {ad : Option Addr} {n cap : Nat} {f : Nat → Int} (h : DigAt W ad n cap f) (m : Bool) (h1 : -BIG < sg m * dval f n) (h2 : sg m * dval f n < BIG) : n ≤ 100 := by
  have h3 : dval f n < BIG := by cases m <;> simp [sg] at h1 h2 <;> omega
  rcases Nat.lt_or_ge 100 n with h4 | h4
  · rcases h.top with h5 | h5
    · omega
    · have h6 := dval_low h.bd (by omega) h5
      have h7 : BIG ≤ 65536 ^ (n - 1) := p16_le (by omega)
      omega
  · exact h4
theorem num_zero {W : World} {ad : Option Addr} {n cap : Nat} {f : Nat → Int} (h : DigAt W ad n cap f) : dval f n = 0 ↔ n = 0 := by
  constructor
  · intro e
    rcases h.top with h5 | h5
    · exact h5
    · rcases Nat.eq_zero_or_pos n with h6 | h6
      · exact h6
      · have := dval_low h.bd h6 h5
        have := p16_pos (n - 1)
        omega
  · rintro rfl; rfl
end Go.Proofs.Ytpjaefcmaiimlaa

/-
  Contract of the document's side: Plus.
-/
namespace Go.Proofs.Ytpjaefcmaiimlaa
open Go.RowKit

theorem Rw.kept {B : Nat} {w W W' : World} {v : Value} {ds : List Int} (h : Rw B w v ds W) (hb : Below W.heap.size W W') : Rw B w v ds W' :=
  ⟨by
    obtain ⟨h1, h2⟩ := h.own
    refine ⟨h1, ?_⟩
    rcases h2 with h2 | ⟨g, cap, cur, e1, h3, h4, h5⟩
    · exact .inl h2
    · exact .inr ⟨g, cap, cur, e1, h3, (hb.block g (Array.getElem?_eq_some_iff.1 h4).1).trans h4, h5⟩, h.hb.trans (hb.mono h.sz), Nat.le_trans h.sz hb.size⟩
theorem DigAt.far {W : World} {ad : Option Addr} {n cap : Nat} {f : Nat → Int} (h : DigAt W ad n cap f) {b : Nat} {x : Bool} (hc : W.cell? ⟨b, 0, none⟩ = some (.bool x)) (o : Nat) (v : Value) : DigAt (W.setCell ⟨b, o, none⟩ v) ad n cap f := by
  refine ⟨h.bd, h.hi, h.top, ?_⟩
  rcases h.mem with h | ⟨g, e, h1, h2, h3, h4⟩
  · exact .inl h
  · rcases Nat.eq_zero_or_pos n with h0 | h0
    · exact .inl h0
    · refine .inr ⟨g, e, h1, h2, by simpa using h3, fun j hj => (World.cell?_setCell_far _ _ _ _ ?_).trans (h4.out j hj)⟩
      rintro rfl
      have := h4.out 0 h0
      rw [hc] at this
      cases this
/-- what a call answers is laid into its own variable -/
theorem DigAt.res {W : World} {ad : Option Addr} {n cap : Nat} {f : Nat → Int} (h : DigAt W ad n cap f) {b : Nat} {x : Bool} (hc : W.cell? ⟨b, 0, none⟩ = some (.bool x)) (y : Bool) (v : Value) : DigAt ((W.setCell ⟨b, 0, none⟩ (.bool y)).setCell ⟨b, 1, none⟩ v) ad n cap f :=
  (h.far hc 0 _).far (World.cell?_setCell_same _ _ _ hc) 1 _
/-- digits in a list -/
def Bd (ds : List Int) : Prop := ∀ j, 0 ≤ ds.getD j 0 ∧ ds.getD j 0 < 65536
def lval (ds : List Int) : Int := dval (fun j => ds.getD j 0) ds.length
theorem bd_nil : Bd [] := fun j => by simp
theorem getD_snoc (ds : List Int) (x : Int) (j : Nat) : (ds ++ [x]).getD j 0 = if j < ds.length then ds.getD j 0 else if j = ds.length then x else 0 := by
  rw [List.getD_eq_getElem?_getD, List.getD_eq_getElem?_getD, List.getElem?_append]
  split
  · rfl
  · split
    · rename_i h; rw [h]; simp
    · rename_i h1 h2
      rw [List.getElem?_eq_none (by simp; omega)]; rfl
theorem bd_snoc {ds : List Int} {x : Int} (h : Bd ds) (h0 : 0 ≤ x) (h1 : x < 65536) : Bd (ds ++ [x]) := by
  intro j
  rw [getD_snoc]
  have := h j
  split
  · exact this
  · split <;> omega
theorem lval_snoc (ds : List Int) (x : Int) : lval (ds ++ [x]) = lval ds + x * 65536 ^ ds.length := by
  unfold lval
  rw [List.length_append, List.length_singleton]
  simp only [dval]
  rw [getD_snoc, if_neg (by omega), if_pos rfl]
  congr 1
  exact dval_ext _ fun j hj => by rw [getD_snoc, if_pos hj]
theorem lval_bound {ds : List Int} (h : Bd ds) : 0 ≤ lval ds ∧ lval ds < 65536 ^ ds.length := dval_bound h _

/-- the frame of Plus: its two numbers, and what it will answer -/
structure PlusW (w : World) (m s s' : Value) (W : World) : Prop where
  sz : W.heap.size = w.heap.size + 3
  hb : Below w.heap.size w W
  a0 : W.cell? ⟨w.heap.size, 0, none⟩ = some m
  a1 : W.cell? ⟨w.heap.size, 1, none⟩ = some s
  b1 : W.cell? ⟨w.heap.size + 1, 1, none⟩ = some s'
  f0 : W.frozen? ⟨w.heap.size + 2, 0, none⟩ = false
  f1 : W.frozen? ⟨w.heap.size + 2, 1, none⟩ = false
  z0 : W.cell? ⟨w.heap.size + 2, 0, none⟩ = some (.bool false)
  z1 : W.cell? ⟨w.heap.size + 2, 1, none⟩ = some (.slice none 0 0)
def PlusI (B : Nat) (W2 : World) (n k : Nat) (f h : Nat → Int) (dv cv iv : Value) (W : World) : Prop :=
  ∃ (ds : List Int) (cy : Int), cv = .int .i64 cy ∧ iv = .int .i64 ds.length ∧ Rw B W2 dv ds W ∧ Bd ds ∧ (cy = 0 ∨ cy = 1) ∧ ((ds.length ≤ n ∨ ds.length ≤ k) ∨ (cy = 0 ∧ (ds.length ≤ n + 1 ∨ ds.length ≤ k + 1))) ∧ lval ds + cy * 65536 ^ ds.length = dval f ds.length + dval h ds.length

end Go.Proofs.Ytpjaefcmaiimlaa

/-
  Contract of the document's side: Plus, of two signs.
-/
namespace Go.Proofs.Ytpjaefcmaiimlaa
open Go.RowKit

/-- the frame of Plus, of two signs -/
structure SubW (w : World) (m n : Bool) (s s' : Value) (W : World) : Prop where
  sz : w.heap.size + 5 ≤ W.heap.size
  hb : Below w.heap.size w W
  n0 : W.cell? ⟨w.heap.size, 0, none⟩ = some (.bool m)
  n1 : W.cell? ⟨w.heap.size, 1, none⟩ = some s
  m0 : W.cell? ⟨w.heap.size + 1, 0, none⟩ = some (.bool n)
  m1 : W.cell? ⟨w.heap.size + 1, 1, none⟩ = some s'
  z0 : W.cell? ⟨w.heap.size + 2, 0, none⟩ = some (.bool false)
  z1 : W.cell? ⟨w.heap.size + 2, 1, none⟩ = some (.slice none 0 0)
  a0 : W.cell? ⟨w.heap.size + 3, 0, none⟩ = some (.bool m)
  a1 : W.cell? ⟨w.heap.size + 3, 1, none⟩ = some s
  b0 : W.cell? ⟨w.heap.size + 4, 0, none⟩ = some (.bool n)
  b1 : W.cell? ⟨w.heap.size + 4, 1, none⟩ = some s'
  f0 : W.frozen? ⟨w.heap.size + 2, 0, none⟩ = false
  f1 : W.frozen? ⟨w.heap.size + 2, 1, none⟩ = false
  f2 : W.frozen? ⟨w.heap.size + 3, 0, none⟩ = false
  f3 : W.frozen? ⟨w.heap.size + 3, 1, none⟩ = false
  f4 : W.frozen? ⟨w.heap.size + 4, 0, none⟩ = false
  f5 : W.frozen? ⟨w.heap.size + 4, 1, none⟩ = false
theorem SubW.below {w : World} {m n : Bool} {s s' : Value} {W W' : World} (h : SubW w m n s s' W) (hb : Below W.heap.size W W') : SubW w m n s s' W' := by
  have e := h.sz
  have hc : ∀ b o v, b < w.heap.size + 5 → W.cell? ⟨b, o, none⟩ = v → W'.cell? ⟨b, o, none⟩ = v := fun b o v hl hv => (hb.cell (by exact Nat.lt_of_lt_of_le hl e)).trans hv
  have hf : ∀ b o v, b < w.heap.size + 5 → W.frozen? ⟨b, o, none⟩ = v → W'.frozen? ⟨b, o, none⟩ = v := fun b o v hl hv => (hb.frozen (by exact Nat.lt_of_lt_of_le hl e)).trans hv
  exact ⟨by have := hb.size; omega, bl_trans h.hb hb, hc _ _ _ (by omega) h.n0, hc _ _ _ (by omega) h.n1, hc _ _ _ (by omega) h.m0, hc _ _ _ (by omega) h.m1, hc _ _ _ (by omega) h.z0, hc _ _ _ (by omega) h.z1, hc _ _ _ (by omega) h.a0, hc _ _ _ (by omega) h.a1, hc _ _ _ (by omega) h.b0, hc _ _ _ (by omega) h.b1,
    hf _ _ _ (by omega) h.f0, hf _ _ _ (by omega) h.f1, hf _ _ _ (by omega) h.f2, hf _ _ _ (by omega) h.f3, hf _ _ _ (by omega) h.f4, hf _ _ _ (by omega) h.f5⟩
/-- and the same, once the greater one is ahead -/
structure SubV (w : World) (ma : Bool) (sa sb : Value) (W : World) : Prop where
  sz : w.heap.size + 5 ≤ W.heap.size
  hb : Below w.heap.size w W
  z0 : W.cell? ⟨w.heap.size + 2, 0, none⟩ = some (.bool false)
  z1 : W.cell? ⟨w.heap.size + 2, 1, none⟩ = some (.slice none 0 0)
  a0 : W.cell? ⟨w.heap.size + 3, 0, none⟩ = some (.bool ma)
  a1 : W.cell? ⟨w.heap.size + 3, 1, none⟩ = some sa
  b1 : W.cell? ⟨w.heap.size + 4, 1, none⟩ = some sb
  f0 : W.frozen? ⟨w.heap.size + 2, 0, none⟩ = false
  f1 : W.frozen? ⟨w.heap.size + 2, 1, none⟩ = false
def SubI (B : Nat) (W2 : World) (n : Nat) (f h : Nat → Int) (dv cv iv : Value) (W : World) : Prop :=
  ∃ (ds : List Int) (cy : Int), cv = .int .i64 cy ∧ iv = .int .i64 ds.length ∧ Rw B W2 dv ds W ∧ Bd ds ∧ (cy = 0 ∨ cy = 1) ∧ ds.length ≤ n ∧ lval ds - cy * 65536 ^ ds.length = dval f ds.length - dval h ds.length

theorem dval_short {f h : Nat → Int} (hf : ∀ j, 0 ≤ f j ∧ f j < 65536) (hh : ∀ j, 0 ≤ h j ∧ h j < 65536) {n k : Nat} (th : k = 0 ∨ h (k - 1) ≠ 0) (hle : dval h k ≤ dval f n) : k ≤ n := by
  rcases Nat.lt_or_ge n k with h1 | h1
  · rcases th with h2 | h2
    · omega
    · have := dval_len hf hh h1 h2
      omega
  · exact h1

theorem sub_step {ds : List Int} {f h : Nat → Int} {cy x y bo : Int} (hq : lval ds - cy * 65536 ^ ds.length = dval f ds.length - dval h ds.length) (hx : x = f ds.length - h ds.length - cy) (hy : y - bo * 65536 = x) :
    lval (ds ++ [y]) - bo * 65536 ^ (ds ++ [y]).length = dval f (ds ++ [y]).length - dval h (ds ++ [y]).length := by
  rw [lval_snoc, List.length_append, List.length_singleton, Int.pow_succ]
  simp only [dval]
  have e1 : y * 65536 ^ ds.length - bo * (65536 ^ ds.length * 65536) = x * 65536 ^ ds.length := by
    rw [← hy, Int.sub_mul, Int.mul_assoc, Int.mul_comm 65536 (65536 ^ ds.length)]
  have e2 : x * 65536 ^ ds.length = f ds.length * 65536 ^ ds.length - h ds.length * 65536 ^ ds.length - cy * 65536 ^ ds.length := by
    rw [hx, Int.sub_mul, Int.sub_mul]
  omega

end Go.Proofs.Ytpjaefcmaiimlaa

/-
  The document's numbers: Of, Neg, Sign, Cmp, Wide, of what number a Num is.
-/
namespace Go.Proofs.Ytpjaefcmaiimlaa
open Go.RowKit

/-- its sign -/
def sgZ (z : Int) : Int := if z < 0 then -1 else if z = 0 then 0 else 1
theorem num_pos {W : World} {ad : Option Addr} {n cap : Nat} {f : Nat → Int} (h : DigAt W ad n cap f) (h0 : n ≠ 0) : 0 < dval f n := by
  have h1 := (dval_bound h.bd n).1
  have h2 := num_zero h
  omega

theorem NumIs.shape {v : Value} {z : Int} {W : World} (h : NumIs v z W) : ∃ (m : Bool) (ad : Option Addr) (n c : Nat), v = .agg #[.bool m, .slice ad n c] := by
  obtain ⟨m, ad, n, c, f, e, -⟩ := h
  exact ⟨m, ad, n, c, e⟩
theorem dval_dgt (a b c d : Int) (hA : In4 a b c d) : dval (dgt a b c d) 16 = V4 a b c d := by
  obtain ⟨i0, i1, i2, i3⟩ := hA
  unfold In1 at i0 i1 i2 i3
  have e : ∀ q t, q < 4 → t < 4 → dgt a b c d (4 * q + t) = lim a b c d q / 65536 ^ t % 65536 := fun q t h1 h2 => dgt_at a b c d q t h1 h2
  simp only [dval]
  rw [show dgt a b c d 0 = a / 65536 ^ 0 % 65536 from e 0 0 (by omega) (by omega), show dgt a b c d 1 = a / 65536 ^ 1 % 65536 from e 0 1 (by omega) (by omega), show dgt a b c d 2 = a / 65536 ^ 2 % 65536 from e 0 2 (by omega) (by omega), show dgt a b c d 3 = a / 65536 ^ 3 % 65536 from e 0 3 (by omega) (by omega),
    show dgt a b c d 4 = b / 65536 ^ 0 % 65536 from e 1 0 (by omega) (by omega), show dgt a b c d 5 = b / 65536 ^ 1 % 65536 from e 1 1 (by omega) (by omega), show dgt a b c d 6 = b / 65536 ^ 2 % 65536 from e 1 2 (by omega) (by omega), show dgt a b c d 7 = b / 65536 ^ 3 % 65536 from e 1 3 (by omega) (by omega),
    show dgt a b c d 8 = c / 65536 ^ 0 % 65536 from e 2 0 (by omega) (by omega), show dgt a b c d 9 = c / 65536 ^ 1 % 65536 from e 2 1 (by omega) (by omega), show dgt a b c d 10 = c / 65536 ^ 2 % 65536 from e 2 2 (by omega) (by omega), show dgt a b c d 11 = c / 65536 ^ 3 % 65536 from e 2 3 (by omega) (by omega),
    show dgt a b c d 12 = d / 65536 ^ 0 % 65536 from e 3 0 (by omega) (by omega), show dgt a b c d 13 = d / 65536 ^ 1 % 65536 from e 3 1 (by omega) (by omega), show dgt a b c d 14 = d / 65536 ^ 2 % 65536 from e 3 2 (by omega) (by omega), show dgt a b c d 15 = d / 65536 ^ 3 % 65536 from e 3 3 (by omega) (by omega)]
  have k : ∀ x : Int, 0 ≤ x ∧ x < 18446744073709551616 → x / 65536 ^ 0 % 65536 + x / 65536 ^ 1 % 65536 * 65536 + x / 65536 ^ 2 % 65536 * 4294967296 + x / 65536 ^ 3 % 65536 * 281474976710656 = x := by
    intro x hx
    simp only [show (65536 : Int) ^ 3 = 281474976710656 from rfl, show (65536 : Int) ^ 2 = 4294967296 from rfl, show (65536 : Int) ^ 1 = 65536 from rfl, show (65536 : Int) ^ 0 = 1 from rfl]
    omega
  have ka := k a i0
  have kb := k b i1
  have kc := k c i2
  have kd := k d i3
  generalize a / 65536 ^ 0 % 65536 = a0 at *
  generalize a / 65536 ^ 1 % 65536 = a1 at *
  generalize a / 65536 ^ 2 % 65536 = a2 at *
  generalize a / 65536 ^ 3 % 65536 = a3 at *
  generalize b / 65536 ^ 0 % 65536 = b0 at *
  generalize b / 65536 ^ 1 % 65536 = b1 at *
  generalize b / 65536 ^ 2 % 65536 = b2 at *
  generalize b / 65536 ^ 3 % 65536 = b3 at *
  generalize c / 65536 ^ 0 % 65536 = c0 at *
  generalize c / 65536 ^ 1 % 65536 = c1 at *
  generalize c / 65536 ^ 2 % 65536 = c2 at *
  generalize c / 65536 ^ 3 % 65536 = c3 at *
  generalize d / 65536 ^ 0 % 65536 = d0 at *
  generalize d / 65536 ^ 1 % 65536 = d1 at *
  generalize d / 65536 ^ 2 % 65536 = d2 at *
  generalize d / 65536 ^ 3 % 65536 = d3 at *
  unfold V4
  omega

end Go.Proofs.Ytpjaefcmaiimlaa
