/-
  Contracts of the document's side: Num.Wide.
-/
import Derived.Test.YtpockemjfbaheaaRefOf
namespace Go.Proofs.Ytpockemjfbaheaa
open Go.RowKit

/-- the k highest of four digits, as a number -/
def hz (g : Nat → Int) : Nat → Int
  | 0 => 0
  | k + 1 => hz g k * 65536 + g (3 - k)
theorem hz_bound (g : Nat → Int) (hg : ∀ t, 0 ≤ g t ∧ g t < 65536) : ∀ k, 0 ≤ hz g k ∧ hz g k < 65536 ^ k
  | 0 => by simp [hz]
  | k + 1 => by
    have h := hz_bound g hg k
    have h2 := hg (3 - k)
    rw [Int.pow_succ]
    simp only [hz]
    omega
theorem hz_zero (g : Nat → Int) : ∀ k, k ≤ 4 → (∀ t, 4 - k ≤ t → t < 4 → g t = 0) → hz g k = 0
  | 0, _, _ => rfl
  | k + 1, hk, h => by
    simp only [hz]
    rw [hz_zero g k (by omega) (fun t h1 h2 => h t (by omega) h2), h (3 - k) (by omega) (by omega)]
    rfl
def kq (r q : Nat) : Nat := 4 - min 4 (r - 4 * q)
/-- limb q, once the digits from r on are taken -/
def LW (f : Nat → Int) (r q : Nat) : Int := hz (fun t => f (4 * q + t)) (kq r q)
theorem LW_same (f : Nat → Int) (r q : Nat) (h : q ≠ r / 4) : LW f r q = LW f (r + 1) q := by
  unfold LW; rw [show kq r q = kq (r + 1) q by unfold kq; omega]
theorem LW_step (f : Nat → Int) (r : Nat) : LW f r (r / 4) = LW f (r + 1) (r / 4) * 65536 + f r := by
  unfold LW
  rw [show kq r (r / 4) = kq (r + 1) (r / 4) + 1 by unfold kq; omega]
  simp only [hz]
  rw [show 4 * (r / 4) + (3 - kq (r + 1) (r / 4)) = r by unfold kq; omega]
theorem LW_bound (f : Nat → Int) (hf : ∀ t, 0 ≤ f t ∧ f t < 65536) (r : Nat) : 0 ≤ LW f (r + 1) (r / 4) ∧ LW f (r + 1) (r / 4) < 281474976710656 := by
  have h := hz_bound (fun t => f (4 * (r / 4) + t)) (fun t => hf _) (kq (r + 1) (r / 4))
  unfold LW
  refine ⟨h.1, Int.lt_of_lt_of_le h.2 ?_⟩
  have : kq (r + 1) (r / 4) = 0 ∨ kq (r + 1) (r / 4) = 1 ∨ kq (r + 1) (r / 4) = 2 ∨ kq (r + 1) (r / 4) = 3 := by unfold kq; omega
  rcases this with h | h | h | h <;> rw [h] <;> decide
theorem LW_start (f : Nat → Int) (n q : Nat) (hz' : ∀ j, n ≤ j → f j = 0) : LW f n q = 0 := by
  unfold LW
  refine hz_zero _ _ (by unfold kq; omega) fun t h1 h2 => hz' _ ?_
  unfold kq at h1; omega

structure WB (w : World) (m : Bool) (g c n : Nat) (L : Nat → Int) (W : World) : Prop where
  s : W.cell? ⟨w.heap.size, 1, none⟩ = some (.slice (some ⟨g, 0, none⟩) n c)
  o : ∀ q, q < 5 → (W.cell? ⟨w.heap.size + 1, q, none⟩).isSome = true ∧ W.frozen? ⟨w.heap.size + 1, q, none⟩ = false
  x : W.cell? ⟨w.heap.size + 2, 0, none⟩ = some (.bool m)
  y : ∀ q, q < 4 → W.cell? ⟨w.heap.size + 2, 1 + q, none⟩ = some (.int .u64 (L q))
  z : ∀ q, q < 4 → W.frozen? ⟨w.heap.size + 2, 1 + q, none⟩ = false
  hb : Below w.heap.size w W
theorem WB.drew {w : World} {m : Bool} {g c n : Nat} {L : Nat → Int} {W : World} (h : WB w m g c n L W) : WB w m g c n L W.drew := ⟨h.s, h.o, h.x, h.y, h.z, h.hb.drew⟩
theorem WB.drewN {w : World} {m : Bool} {g c n : Nat} {L : Nat → Int} {W : World} (h : WB w m g c n L W) (k : Nat) : WB w m g c n L (W.drewN k) := ⟨h.s, h.o, h.x, h.y, h.z, below_drewN' h.hb _⟩
theorem WB.set {w : World} {m : Bool} {g c n : Nat} {L L' : Nat → Int} {W : World} (h : WB w m g c n L W) (q : Nat) (hq : q < 4) (v : Int) (e1 : L' q = v) (e2 : ∀ p, p ≠ q → L' p = L p) : WB w m g c n L' (W.setCell ⟨w.heap.size + 2, 1 + q, none⟩ (.int .u64 v)) := by
  refine ⟨?_, ?_, ?_, ?_, ?_, bl_set h.hb (by dsimp only; omega) _⟩
  · exact (World.cell?_setCell_other _ _ _ _ (by intro e; injection e with e1; omega)).trans h.s
  · intro p hp
    rw [World.frozen?_setCell, World.cell?_setCell_other _ _ _ _ (by intro e; injection e with e1; omega)]
    exact h.o p hp
  · exact (World.cell?_setCell_other _ _ _ _ (by intro e; injection e with e1 e2; omega)).trans h.x
  · intro p hp
    by_cases hpq : p = q
    · subst hpq
      rw [World.cell?_setCell_same _ _ _ (h.y p hp), e1]
    · rw [World.cell?_setCell_other _ _ _ _ (by intro e; injection e with e1 e2; omega), h.y p hp, e2 p hpq]
  · intro p hp
    rw [World.frozen?_setCell]; exact h.z p hp

def WdR (w : World) (m : Bool) (g c n : Nat) (f : Nat → Int) (iv : Value) (W : World) : Prop :=
  ∃ r : Nat, iv = .int .i64 ((r : Int) - 1) ∧ r ≤ n ∧ WB w m g c n (LW f r) W

def RWideP (m : Bool) (f : Nat → Int) (w : World) (e : Ending) (w' : World) : Prop :=
  e = .returned (.tuple #[(.agg #[.bool m, .int .u64 (LW f 0 0), .int .u64 (LW f 0 1), .int .u64 (LW f 0 2), .int .u64 (LW f 0 3)]), .bool true]) ∧ Below w.heap.size w w'

set_option maxHeartbeats 1000000 in
set_option maxRecDepth 100000 in
theorem refWide_c (m : Bool) (g c n : Nat) (f : Nat → Int) (hn : n ≤ 16) (hf : Hid ((∀ t, 0 ≤ f t ∧ f t < 65536) ∧ ∀ j, n ≤ j → f j = 0)) (w : World) (hgl : g < w.heap.size) (hcell : Hid (∀ j, j < n → w.cell? ⟨g, j, none⟩ = some (.int .i64 (f j)))) :
    Calls Try.prog 19 #[.agg #[.bool m, .slice (some ⟨g, 0, none⟩) n c]] w (RWideP m f w) := by
  have hlt : decide ((16 : Int) < (n : Int)) = false := by simp; omega
  go_enter Try.func19, Try.ntmps19
  go_wp2
  refine wp_abs (fun W => WB w m g c n (LW f n) W) ?_ ?_
  · have h0 : ∀ q, LW f n q = 0 := fun q => LW_start f n q hf.out.2
    refine ⟨by simp [go_sem], ?_, by simp [go_sem], ?_, ?_, by repeat (first | (with_reducible exact Below.refl _ _) | (with_reducible refine bl_alloc ?_ _) | (with_reducible refine Below.drew ?_) | (with_reducible refine below_drewN' ?_ _) | ((with_reducible refine bl_set ?_ ?_ _); (rotate_left; (dsimp only; omega))))⟩
    · intro q hq
      have : q = 0 ∨ q = 1 ∨ q = 2 ∨ q = 3 ∨ q = 4 := by omega
      rcases this with rfl | rfl | rfl | rfl | rfl <;> constructor <;> simp [go_sem]
    · intro q hq
      rw [h0]
      have : q = 0 ∨ q = 1 ∨ q = 2 ∨ q = 3 := by omega
      rcases this with rfl | rfl | rfl | rfl <;> simp [go_sem]
    · intro q hq
      simp [go_sem]
  intro W0 hW0
  go_loopw [5] (fun iv W => WdR w m g c n f iv W) (fun iv _ => ((intOf iv) + 1).toNat)
  case atStart => exact ⟨n, rfl, by omega, hW0⟩
  case round =>
    obtain ⟨r, rfl, hr, hW⟩ := hrel
    by_cases h0 : r = 0
    · subst h0
      have HW := Lib.hid hW
      have x0 : wr.cell? ⟨w.heap.size + 1 + 1, 0, none⟩ = some (.bool m) := hW.x
      have x1 : wr.cell? ⟨w.heap.size + 1 + 1, 1, none⟩ = some (.int .u64 (LW f 0 0)) := hW.y 0 (by omega)
      have x2 : wr.cell? ⟨w.heap.size + 1 + 1, 2, none⟩ = some (.int .u64 (LW f 0 1)) := hW.y 1 (by omega)
      have x3 : wr.cell? ⟨w.heap.size + 1 + 1, 3, none⟩ = some (.int .u64 (LW f 0 2)) := hW.y 2 (by omega)
      have x4 : wr.cell? ⟨w.heap.size + 1 + 1, 4, none⟩ = some (.int .u64 (LW f 0 3)) := hW.y 3 (by omega)
      obtain ⟨y0, hy0⟩ := Option.isSome_iff_exists.1 (hW.o 0 (by omega)).1
      obtain ⟨y1, hy1⟩ := Option.isSome_iff_exists.1 (hW.o 1 (by omega)).1
      obtain ⟨y2, hy2⟩ := Option.isSome_iff_exists.1 (hW.o 2 (by omega)).1
      obtain ⟨y3, hy3⟩ := Option.isSome_iff_exists.1 (hW.o 3 (by omega)).1
      obtain ⟨y4, hy4⟩ := Option.isSome_iff_exists.1 (hW.o 4 (by omega)).1
      have g0 := (hW.o 0 (by omega)).2
      have g1 := (hW.o 1 (by omega)).2
      have g2 := (hW.o 2 (by omega)).2
      have g3 := (hW.o 3 (by omega)).2
      have g4 := (hW.o 4 (by omega)).2
      have hb := hW.hb
      clear hW hW0
      go_wp2
      refine bodyPost_ret (v := .tuple #[(.agg #[.bool m, .int .u64 (LW f 0 0), .int .u64 (LW f 0 1), .int .u64 (LW f 0 2), .int .u64 (LW f 0 3)]), .bool true]) (by simp [results, Try.results19, go_sem, hy0, hy1, hy2, hy3, hy4]) rfl ⟨rfl, ?_⟩
      repeat (first | (with_reducible exact Below.refl _ _) | (with_reducible refine bl_alloc ?_ _) | (with_reducible refine Below.drew ?_) | (with_reducible refine below_drewN' ?_ _) | ((with_reducible refine bl_set ?_ ?_ _); (rotate_left; (dsimp only; omega))))
      exact hb
    · obtain ⟨i, rfl⟩ : ∃ i, r = i + 1 := ⟨r - 1, by omega⟩
      have hs := hW.s
      have hy : wr.cell? ⟨w.heap.size + 1 + 1, 1 + i / 4, none⟩ = some (.int .u64 (LW f (i + 1) (i / 4))) := hW.y (i / 4) (by omega)
      have hzf : wr.frozen? ⟨w.heap.size + 1 + 1, 1 + i / 4, none⟩ = false := hW.z (i / 4) (by omega)
      have hd : wr.cell? ⟨g, i, none⟩ = some (.int .i64 (f i)) := (hW.hb.cell (by exact hgl)).trans (hcell.out i (by omega))
      have hbd := LW_bound f hf.out.1 i
      have hfb := hf.out.1 i
      have hw1 : IntKind.u64.wrap (f i) = f i := by rw [IntKind.wrap_u64]; omega
      have hw2 : IntKind.u64.wrap (LW f (i + 1) (i / 4) * 65536 + f i) = LW f (i + 1) (i / 4) * 65536 + f i := by rw [IntKind.wrap_u64]; omega
      have HW := Lib.hid hW
      clear hW hW0
      have e1 : (((i + 1 : Nat) : Int) - 1) = (i : Int) := by omega
      have e2 : (i : Int).tdiv 4 = (i : Int) / 4 := Int.tdiv_eq_ediv_of_nonneg (by omega)
      rw [e1]
      go_wp2
      have q2 : (0 : Int) ≤ (i : Int) / 4 := by omega
      have q3 : (i : Int) / 4 < 4 := by omega
      have q4 : ((i : Int) / 4).toNat = i / 4 := by omega
      have q5 : IntKind.i64.wrap ((i : Int) / 4) = (i : Int) / 4 := IntWalk.i64_in _ (by omega)
      go_region_with (fail)
      all_goals clear hy hs hzf hd q2 q3 q4 q5 e2
      all_goals
        go_wp2
        go_roundw
        case rel =>
          refine ⟨i, by first | rfl | (congr 1; omega), by omega, ?_⟩
          first
            | exact (HW.out.set (i / 4) (by omega) _ (LW_step f i) (fun p hp => LW_same f i p hp)).drew
            | exact (HW.out.drew.set (i / 4) (by omega) _ (LW_step f i) (fun p hp => LW_same f i p hp))
        case measure => simp [intOf] <;> omega
end Go.Proofs.Ytpockemjfbaheaa
