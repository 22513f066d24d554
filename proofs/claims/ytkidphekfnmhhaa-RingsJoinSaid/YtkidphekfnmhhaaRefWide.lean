/-
  Contracts of the document's side: Num.Wide.
-/
import Derived.Test.YtkidphekfnmhhaaRefOf
namespace Go.Proofs.Ytkidphekfnmhhaa
open Go.RowKit

/-- the k highest of four digits, as a number -/
def hz (g : Nat → Int) : Nat → Int
  | 0 => 0
  | k + 1 => hz g k * 65536 + g (3 - k)
theorem hz_bound (g : Nat → Int) (hg : ∀ t, 0 ≤ g t ∧ g t < 65536) : ∀ k, 0 ≤ hz g k ∧ hz g k < 65536 ^ k
  | 0 => by simp [hz]
  | k + 1 => by
    have h := hz_bound g hg k
    have h2 := hg (3 - k)
    rw [Int.pow_succ]
    simp only [hz]
    omega
theorem hz_zero (g : Nat → Int) : ∀ k, k ≤ 4 → (∀ t, 4 - k ≤ t → t < 4 → g t = 0) → hz g k = 0
  | 0, _, _ => rfl
  | k + 1, hk, h => by
    simp only [hz]
    rw [hz_zero g k (by omega) (fun t h1 h2 => h t (by omega) h2), h (3 - k) (by omega) (by omega)]
    rfl
def kq (r q : Nat) : Nat := 4 - min 4 (r - 4 * q)
/-- limb q, once the digits from r on are taken -/
def LW (f : Nat → Int) (r q : Nat) : Int := hz (fun t => f (4 * q + t)) (kq r q)
theorem LW_same (f : Nat → Int) (r q : Nat) (h : q ≠ r / 4) : LW f r q = LW f (r + 1) q := by
  unfold LW; rw [show kq r q = kq (r + 1) q by unfold kq; omega]
theorem LW_step (f : Nat → Int) (r : Nat) : LW f r (r / 4) = LW f (r + 1) (r / 4) * 65536 + f r := by
  unfold LW
  rw [show kq r (r / 4) = kq (r + 1) (r / 4) + 1 by unfold kq; omega]
  simp only [hz]
  rw [show 4 * (r / 4) + (3 - kq (r + 1) (r / 4)) = r by unfold kq; omega]
theorem LW_bound (f : Nat → Int) (hf : ∀ t, 0 ≤ f t ∧ f t < 65536) (r : Nat) : 0 ≤ LW f (r + 1) (r / 4) ∧ LW f (r + 1) (r / 4) < 281474976710656 := by
  have h := hz_bound (fun t => f (4 * (r / 4) + t)) (fun t => hf _) (kq (r + 1) (r / 4))
  unfold LW
  refine ⟨h.1, Int.lt_of_lt_of_le h.2 ?_⟩
  have : kq (r + 1) (r / 4) = 0 ∨ kq (r + 1) (r / 4) = 1 ∨ kq (r + 1) (r / 4) = 2 ∨ kq (r + 1) (r / 4) = 3 := by unfold kq; omega
  rcases this with h | h | h | h <;> rw [h] <;> decide
theorem LW_start (f : Nat → Int) (n q : Nat) (hz' : ∀ j, n ≤ j → f j = 0) : LW f n q = 0 := by
  unfold LW
  refine hz_zero _ _ (by unfold kq; omega) fun t h1 h2 => hz' _ ?_
  unfold kq at h1; omega

structure WB (w : World) (m : Bool) (g c n : Nat) (L : Nat → Int) (W : World) : Prop where
  s : W.cell? ⟨w.heap.size, 1, none⟩ = some (.slice (some ⟨g, 0, none⟩) n c)
  o : ∀ q, q < 5 → (W.cell? ⟨w.heap.size + 1, q, none⟩).isSome = true ∧ W.frozen? ⟨w.heap.size + 1, q, none⟩ = false
  x : W.cell? ⟨w.heap.size + 2, 0, none⟩ = some (.bool m)
  y : ∀ q, q < 4 → W.cell? ⟨w.heap.size + 2, 1 + q, none⟩ = some (.int .u64 (L q))
  z : ∀ q, q < 4 → W.frozen? ⟨w.heap.size + 2, 1 + q, none⟩ = false
  hb : Below w.heap.size w W
theorem WB.drew {w : World} {m : Bool} {g c n : Nat} {L : Nat → Int} {W : World} (h : WB w m g c n L W) : WB w m g c n L W.drew := ⟨h.s, h.o, h.x, h.y, h.z, h.hb.drew⟩
theorem WB.drewN {w : World} {m : Bool} {g c n : Nat} {L : Nat → Int} {W : World} (h : WB w m g c n L W) (k : Nat) : WB w m g c n L (W.drewN k) := ⟨h.s, h.o, h.x, h.y, h.z, below_drewN' h.hb _⟩
theorem WB.set {w : World} {m : Bool} {g c n : Nat} {L L' : Nat → Int} {W : World} (h : WB w m g c n L W) (q : Nat) (hq : q < 4) (v : Int) (e1 : L' q = v) (e2 : ∀ p, p ≠ q → L' p = L p) : WB w m g c n L' (W.setCell ⟨w.heap.size + 2, 1 + q, none⟩ (.int .u64 v)) := by
  refine ⟨?_, ?_, ?_, ?_, ?_, bl_set h.hb (by dsimp only; omega) _⟩
  · exact (World.cell?_setCell_other _ _ _ _ (by intro e; injection e with e1; omega)).trans h.s
  · intro p hp
    rw [World.frozen?_setCell, World.cell?_setCell_other _ _ _ _ (by intro e; injection e with e1; omega)]
    exact h.o p hp
  · exact (World.cell?_setCell_other _ _ _ _ (by intro e; injection e with e1 e2; omega)).trans h.x
  · intro p hp
    by_cases hpq : p = q
    · subst hpq
      rw [World.cell?_setCell_same _ _ _ (h.y p hp), e1]
    · rw [World.cell?_setCell_other _ _ _ _ (by intro e; injection e with e1 e2; omega), h.y p hp, e2 p hpq]
  · intro p hp
    rw [World.frozen?_setCell]; exact h.z p hp

def WdR (w : World) (m : Bool) (g c n : Nat) (f : Nat → Int) (iv : Value) (W : World) : Prop :=
  ∃ r : Nat, iv = .int .i64 ((r : Int) - 1) ∧ r ≤ n ∧ WB w m g c n (LW f r) W

def RWideP (m : Bool) (f : Nat → Int) (w : World) (e : Ending) (w' : World) : Prop :=
  e = .returned (.tuple #[(.agg #[.bool m, .int .u64 (LW f 0 0), .int .u64 (LW f 0 1), .int .u64 (LW f 0 2), .int .u64 (LW f 0 3)]), .bool true]) ∧ Below w.heap.size w w'

end Go.Proofs.Ytkidphekfnmhhaa
