/-
  Contracts of the document's side: Num.Wide.
-/
import Derived.Test.YtdpbmkfgolemjaaDoorRefOf
import Derived.Deep.DeepCutAuto
set_option linter.unusedVariables false
set_option linter.unusedSimpArgs false
set_option linter.deprecated false
namespace Go.Proofs.YtdpbmkfgolemjaaDoor
open Go.RowKit

/-- the k highest of four digits, as a number -/
def hz (g : Nat → Int) : Nat → Int
  | 0 => 0
  | k + 1 => hz g k * 65536 + g (3 - k)
theorem hz_bound (g : Nat → Int) (hg : ∀ t, 0 ≤ g t ∧ g t < 65536) : ∀ k, 0 ≤ hz g k ∧ hz g k < 65536 ^ k
  | 0 => by simp [hz]
  | k + 1 => by
    have h := hz_bound g hg k
    have h2 := hg (3 - k)
    rw [Int.pow_succ]
    simp only [hz]
    omega
theorem hz_zero (g : Nat → Int) : ∀ k, k ≤ 4 → (∀ t, 4 - k ≤ t → t < 4 → g t = 0) → hz g k = 0
  | 0, _, _ => rfl
  | k + 1, hk, h => by
    simp only [hz]
    rw [hz_zero g k (by omega) (fun t h1 h2 => h t (by omega) h2), h (3 - k) (by omega) (by omega)]
    rfl
def kq (r q : Nat) : Nat := 4 - min 4 (r - 4 * q)
/-- limb q, once the digits from r on are taken -/
def LW (f : Nat → Int) (r q : Nat) : Int := hz (fun t => f (4 * q + t)) (kq r q)
theorem LW_same (f : Nat → Int) (r q : Nat) (h : q ≠ r / 4) : LW f r q = LW f (r + 1) q := by
  unfold LW; rw [show kq r q = kq (r + 1) q by unfold kq; omega]
theorem LW_step (f : Nat → Int) (r : Nat) : LW f r (r / 4) = LW f (r + 1) (r / 4) * 65536 + f r := by
  unfold LW
  rw [show kq r (r / 4) = kq (r + 1) (r / 4) + 1 by unfold kq; omega]
  simp only [hz]
  rw [show 4 * (r / 4) + (3 - kq (r + 1) (r / 4)) = r by unfold kq; omega]
theorem LW_bound (f : Nat → Int) (hf : ∀ t, 0 ≤ f t ∧ f t < 65536) (r : Nat) : 0 ≤ LW f (r + 1) (r / 4) ∧ LW f (r + 1) (r / 4) < 281474976710656 := by
  have h := hz_bound (fun t => f (4 * (r / 4) + t)) (fun t => hf _) (kq (r + 1) (r / 4))
  unfold LW
  refine ⟨h.1, Int.lt_of_lt_of_le h.2 ?_⟩
  have : kq (r + 1) (r / 4) = 0 ∨ kq (r + 1) (r / 4) = 1 ∨ kq (r + 1) (r / 4) = 2 ∨ kq (r + 1) (r / 4) = 3 := by unfold kq; omega
  rcases this with h | h | h | h <;> rw [h] <;> decide
theorem LW_start (f : Nat → Int) (n q : Nat) (hz' : ∀ j, n ≤ j → f j = 0) : LW f n q = 0 := by
  unfold LW
  refine hz_zero _ _ (by unfold kq; omega) fun t h1 h2 => hz' _ ?_
  unfold kq at h1; omega

structure WB (w : World) (m : Bool) (g c n : Nat) (L : Nat → Int) (W : World) : Prop where
  s : W.cell? ⟨w.heap.size, 1, none⟩ = some (.slice (some ⟨g, 0, none⟩) n c)
  o : ∀ q, q < 5 → (W.cell? ⟨w.heap.size + 1, q, none⟩).isSome = true ∧ W.frozen? ⟨w.heap.size + 1, q, none⟩ = false
  x : W.cell? ⟨w.heap.size + 2, 0, none⟩ = some (.bool m)
  y : ∀ q, q < 4 → W.cell? ⟨w.heap.size + 2, 1 + q, none⟩ = some (.int .u64 (L q))
  z : ∀ q, q < 4 → W.frozen? ⟨w.heap.size + 2, 1 + q, none⟩ = false
  hb : Below w.heap.size w W
theorem WB.drew {w : World} {m : Bool} {g c n : Nat} {L : Nat → Int} {W : World} (h : WB w m g c n L W) : WB w m g c n L W.drew := ⟨h.s, h.o, h.x, h.y, h.z, h.hb.drew⟩
theorem WB.drewN {w : World} {m : Bool} {g c n : Nat} {L : Nat → Int} {W : World} (h : WB w m g c n L W) (k : Nat) : WB w m g c n L (W.drewN k) := ⟨h.s, h.o, h.x, h.y, h.z, below_drewN' h.hb _⟩
theorem WB.set {w : World} {m : Bool} {g c n : Nat} {L L' : Nat → Int} {W : World} (h : WB w m g c n L W) (q : Nat) (hq : q < 4) (v : Int) (e1 : L' q = v) (e2 : ∀ p, p ≠ q → L' p = L p) : WB w m g c n L' (W.setCell ⟨w.heap.size + 2, 1 + q, none⟩ (.int .u64 v)) := by
  refine ⟨?_, ?_, ?_, ?_, ?_, bl_set h.hb (by dsimp only; omega) _⟩
  · exact (World.cell?_setCell_other _ _ _ _ (by intro e; injection e with e1; omega)).trans h.s
  · intro p hp
    rw [World.frozen?_setCell, World.cell?_setCell_other _ _ _ _ (by intro e; injection e with e1; omega)]
    exact h.o p hp
  · exact (World.cell?_setCell_other _ _ _ _ (by intro e; injection e with e1 e2; omega)).trans h.x
  · intro p hp
    by_cases hpq : p = q
    · subst hpq
      rw [World.cell?_setCell_same _ _ _ (h.y p hp), e1]
    · rw [World.cell?_setCell_other _ _ _ _ (by intro e; injection e with e1 e2; omega), h.y p hp, e2 p hpq]
  · intro p hp
    rw [World.frozen?_setCell]; exact h.z p hp

def WdR (w : World) (m : Bool) (g c n : Nat) (f : Nat → Int) (iv : Value) (W : World) : Prop :=
  ∃ r : Nat, iv = .int .i64 ((r : Int) - 1) ∧ r ≤ n ∧ WB w m g c n (LW f r) W

def RWideP (m : Bool) (f : Nat → Int) (w : World) (e : Ending) (w' : World) : Prop :=
  e = .returned (.tuple #[(.agg #[.bool m, .int .u64 (LW f 0 0), .int .u64 (LW f 0 1), .int .u64 (LW f 0 2), .int .u64 (LW f 0 3)]), .bool true]) ∧ Below w.heap.size w w'

end Go.Proofs.YtdpbmkfgolemjaaDoor

/-
  A number by the document's Of, and back by its Wide: the number itself, its sign struck where it is nought.
-/
namespace Go.Proofs.YtdpbmkfgolemjaaDoor
open Go.RowKit

/-- digit j of a number -/
def dgt (a b c d : Int) (j : Nat) : Int := (dsOf a b c d 16).getD j 0
theorem dgt_in (a b c d : Int) (j : Nat) (h : j < 16) : dgt a b c d j = dsF a b c d j := by
  unfold dgt dsOf
  rw [List.getD_eq_getElem?_getD, List.getElem?_map, List.getElem?_range h]; rfl
theorem dgt_out (a b c d : Int) (j : Nat) (h : 16 ≤ j) : dgt a b c d j = 0 := by
  unfold dgt dsOf
  rw [List.getD_eq_getElem?_getD, List.getElem?_eq_none (by simp; omega)]; rfl
theorem dgt_bound (a b c d : Int) (j : Nat) : 0 ≤ dgt a b c d j ∧ dgt a b c d j < 65536 := by
  rcases Nat.lt_or_ge j 16 with h | h
  · rw [dgt_in a b c d j h]; unfold dsF
    exact ⟨Int.emod_nonneg _ (by omega), Int.emod_lt_of_pos _ (by omega)⟩
  · rw [dgt_out a b c d j h]; omega
theorem dgt_at (a b c d : Int) (q t : Nat) (hq : q < 4) (ht : t < 4) : dgt a b c d (4 * q + t) = lim a b c d q / 65536 ^ t % 65536 := by
  rw [dgt_in _ _ _ _ _ (by omega)]; unfold dsF
  rw [show (4 * q + t) / 4 = q by omega, show (4 * q + t) % 4 = t by omega]
theorem LW_dgt (a b c d : Int) (q : Nat) (hq : q < 4) (h : In1 (lim a b c d q)) : LW (dgt a b c d) 0 q = lim a b c d q := by
  unfold In1 at h
  unfold LW
  rw [show kq 0 q = 4 by unfold kq; omega]
  simp only [hz]
  rw [dgt_at _ _ _ _ q _ hq (by omega), dgt_at _ _ _ _ q _ hq (by omega), dgt_at _ _ _ _ q _ hq (by omega), dgt_at _ _ _ _ q _ hq (by omega)]
  simp only [Nat.sub_zero, Nat.reduceSub, show (65536 : Int) ^ 3 = 281474976710656 from rfl, show (65536 : Int) ^ 2 = 4294967296 from rfl, show (65536 : Int) ^ 1 = 65536 from rfl, show (65536 : Int) ^ 0 = 1 from rfl]
  omega
theorem trim_zero (a b c d : Int) (hA : In4 a b c d) (n : Nat) (hn : TrimAt (dsOf a b c d 16) n) : (∀ j, n ≤ j → dgt a b c d j = 0) ∧ (0 < n ↔ V4 a b c d ≠ 0) := by
  obtain ⟨h1, h2, h3⟩ := hn
  rw [dsOf_len] at h1 h2
  have hz' : ∀ j, n ≤ j → dgt a b c d j = 0 := fun j hj => by
    rcases Nat.lt_or_ge j 16 with h | h
    · exact h2 j hj h
    · exact dgt_out _ _ _ _ _ h
  refine ⟨hz', ?_⟩
  obtain ⟨i0, i1, i2, i3⟩ := hA
  have l0 := LW_dgt a b c d 0 (by omega) i0
  have l1 := LW_dgt a b c d 1 (by omega) i1
  have l2 := LW_dgt a b c d 2 (by omega) i2
  have l3 := LW_dgt a b c d 3 (by omega) i3
  constructor
  · intro hp hv
    have := (v4_zero ⟨i0, i1, i2, i3⟩).1 hv
    obtain ⟨rfl, rfl, rfl, rfl⟩ := this
    rcases h3 with h | h
    · omega
    · apply h
      have e : dgt 0 0 0 0 (n - 1) = 0 := by
        rw [dgt_in _ _ _ _ _ (by omega)]; unfold dsF lim
        have : (n - 1) / 4 = 0 ∨ (n - 1) / 4 = 1 ∨ (n - 1) / 4 = 2 ∨ (n - 1) / 4 = 3 := by omega
        rcases this with h | h | h | h <;> rw [h] <;> simp
      exact e
  · intro hv
    rcases Nat.eq_zero_or_pos n with h | h
    · subst h
      exfalso; apply hv
      rw [LW_start _ 0 _ hz'] at l0 l1 l2 l3
      exact (v4_zero ⟨i0, i1, i2, i3⟩).2 ⟨l0.symm, l1.symm, l2.symm, l3.symm⟩
    · exact h

/-- a Num that lies in memory: its sign, its digits -/
def NumAt (v : Value) (m : Bool) (f : Nat → Int) (W : World) : Prop :=
  ∃ n g cap : Nat, v = .agg #[.bool m, .slice (some ⟨g, 0, none⟩) n cap] ∧ n ≤ 16 ∧ n ≤ cap ∧ cap ≤ 9223372036854775807 ∧ g < W.heap.size ∧ Hid ((∀ t, 0 ≤ f t ∧ f t < 65536) ∧ ∀ j, n ≤ j → f j = 0) ∧ Hid (∀ j, j < n → W.cell? ⟨g, j, none⟩ = some (.int .i64 (f j)))
theorem NumAt.below {v : Value} {m : Bool} {f : Nat → Int} {W W' : World} (h : NumAt v m f W) (hb : Below W.heap.size W W') : NumAt v m f W' := by
  obtain ⟨n, g, cap, e, h1, h2, h3, h4, h5, h6⟩ := h
  exact ⟨n, g, cap, e, h1, h2, h3, Nat.lt_of_lt_of_le h4 hb.size, h5, fun j hj => (hb.cell (by exact h4)).trans (h6.out j hj)⟩

end Go.Proofs.YtdpbmkfgolemjaaDoor

/-
  Contracts of the document's side: digit, Neg, Sign.
-/
namespace Go.Proofs.YtdpbmkfgolemjaaDoor
open Go.RowKit

set_option maxHeartbeats 1000000 in
set_option maxRecDepth 100000 in
theorem digit_in (g c n i : Nat) (x : Int) (hi : i < n) (_hn : n ≤ c) (_hc : c ≤ 9223372036854775807) (w : World) (hcell : w.cell? ⟨g, i, none⟩ = some (.int .i64 x)) :
    Calls Tryd.prog 59 #[.slice (some ⟨g, 0, none⟩) n c, .int .i64 i] w fun e w' => e = .returned (.int .i64 x) ∧ Below w.heap.size w w' := by
  have h1 : decide ((i : Int) < (n : Int)) = true := by simp; omega
  go_enter Tryd.func59, Tryd.ntmps59
  go_wp2
  go_ret
  exact ⟨rfl, by repeat (first | (with_reducible exact Below.refl _ _) | (with_reducible refine bl_alloc ?_ _) | (with_reducible refine Below.drew ?_) | (with_reducible refine below_drewN' ?_ _) | ((with_reducible refine bl_set ?_ ?_ _); (rotate_left; (dsimp only; omega))))⟩

set_option maxHeartbeats 1000000 in
set_option maxRecDepth 100000 in
theorem digit_out (ad : Option Addr) (c n i : Nat) (hi : n ≤ i) (w : World) :
    Calls Tryd.prog 59 #[.slice ad n c, .int .i64 i] w fun e w' => e = .returned (.int .i64 0) ∧ Below w.heap.size w w' := by
  have h1 : decide ((i : Int) < (n : Int)) = false := by simp; omega
  go_enter Tryd.func59, Tryd.ntmps59
  go_wp2
  go_ret
  exact ⟨rfl, by repeat (first | (with_reducible exact Below.refl _ _) | (with_reducible refine bl_alloc ?_ _) | (with_reducible refine Below.drew ?_) | (with_reducible refine below_drewN' ?_ _) | ((with_reducible refine bl_set ?_ ?_ _); (rotate_left; (dsimp only; omega))))⟩

set_option maxHeartbeats 1000000 in
set_option maxRecDepth 100000 in
theorem refSign_c (m : Bool) (ad : Option Addr) (c n : Nat) (w : World) :
    Calls Tryd.prog 62 #[.agg #[.bool m, .slice ad n c]] w fun e w' => e = .returned (.int .i64 (if n = 0 then 0 else if m then -1 else 1)) ∧ Below w.heap.size w w' := by
  by_cases h0 : n = 0
  · subst h0
    go_enter Tryd.func62, Tryd.ntmps62
    go_wp2
    go_ret
    exact ⟨by simp, by repeat (first | (with_reducible exact Below.refl _ _) | (with_reducible refine bl_alloc ?_ _) | (with_reducible refine Below.drew ?_) | (with_reducible refine below_drewN' ?_ _) | ((with_reducible refine bl_set ?_ ?_ _); (rotate_left; (dsimp only; omega))))⟩
  · have h1 : ((n : Int) == 0) = false := by simp; omega
    cases m
    all_goals
      go_enter Tryd.func62, Tryd.ntmps62
      go_wp2
      go_ret
      exact ⟨by first | rfl | (simp; done) | (rw [if_neg h0]; rfl), by repeat (first | (with_reducible exact Below.refl _ _) | (with_reducible refine bl_alloc ?_ _) | (with_reducible refine Below.drew ?_) | (with_reducible refine below_drewN' ?_ _) | ((with_reducible refine bl_set ?_ ?_ _); (rotate_left; (dsimp only; omega))))⟩

set_option maxHeartbeats 1000000 in
set_option maxRecDepth 100000 in
theorem refNeg_c (m : Bool) (ad : Option Addr) (c n : Nat) (w : World) :
    Calls Tryd.prog 61 #[.agg #[.bool m, .slice ad n c]] w fun e w' => e = .returned (.agg #[.bool (!m && decide (0 < n)), .slice ad n c]) ∧ Below w.heap.size w w' := by
  by_cases h0 : n = 0
  · subst h0
    cases m
    all_goals
      go_enter Tryd.func61, Tryd.ntmps61
      go_wp2
      refine bodyPost_ret (v := .agg #[.bool false, .slice ad 0 c]) (by simp [results, Tryd.results61, go_sem]) rfl ⟨by simp, by repeat (first | (with_reducible exact Below.refl _ _) | (with_reducible refine bl_alloc ?_ _) | (with_reducible refine Below.drew ?_) | (with_reducible refine below_drewN' ?_ _) | ((with_reducible refine bl_set ?_ ?_ _); (rotate_left; (dsimp only; omega))))⟩
  · have h1 : decide ((0 : Int) < (n : Int)) = true := by simp; omega
    have h2 : decide (0 < n) = true := by simp; omega
    cases m
    · go_enter Tryd.func61, Tryd.ntmps61
      go_wp2
      refine bodyPost_ret (v := .agg #[.bool true, .slice ad n c]) (by simp [results, Tryd.results61, go_sem]) rfl ⟨by simp [h2], by repeat (first | (with_reducible exact Below.refl _ _) | (with_reducible refine bl_alloc ?_ _) | (with_reducible refine Below.drew ?_) | (with_reducible refine below_drewN' ?_ _) | ((with_reducible refine bl_set ?_ ?_ _); (rotate_left; (dsimp only; omega))))⟩
    · go_enter Tryd.func61, Tryd.ntmps61
      go_wp2
      refine bodyPost_ret (v := .agg #[.bool false, .slice ad n c]) (by simp [results, Tryd.results61, go_sem]) rfl ⟨by simp, by repeat (first | (with_reducible exact Below.refl _ _) | (with_reducible refine bl_alloc ?_ _) | (with_reducible refine Below.drew ?_) | (with_reducible refine below_drewN' ?_ _) | ((with_reducible refine bl_set ?_ ?_ _); (rotate_left; (dsimp only; omega))))⟩
end Go.Proofs.YtdpbmkfgolemjaaDoor

/-
  Contract of the document's side: size.
-/
namespace Go.Proofs.YtdpbmkfgolemjaaDoor
open Go.RowKit

/-- what size answers of the digits f (n of them) and h (k of them) -/
def SizeIs (f h : Nat → Int) (n k : Nat) (r : Int) : Prop :=
  (n ≠ k ∧ r = (n : Int) - k) ∨ (n = k ∧ ∃ i, i < n ∧ f i ≠ h i ∧ (∀ j, i < j → j < n → f j = h j) ∧ r = f i - h i) ∨ (n = k ∧ (∀ j, j < n → f j = h j) ∧ r = 0)

set_option maxHeartbeats 1000000 in
set_option maxRecDepth 100000 in
theorem size_ne (ad ad' : Option Addr) (c c' n k : Nat) (f h : Nat → Int) (hn : n ≤ 9223372036854775807) (hk : k ≤ 9223372036854775807) (hne : n ≠ k) (w : World) :
    Calls Tryd.prog 60 #[.slice ad n c, .slice ad' k c'] w fun e w' => ∃ r, SizeIs f h n k r ∧ e = .returned (.int .i64 r) ∧ Below w.heap.size w w' := by
  have h1 : ((n : Int) == (k : Int)) = false := by simp; omega
  go_enter Tryd.func60, Tryd.ntmps60
  go_wp2
  go_ret
  exact ⟨_, .inl ⟨hne, rfl⟩, rfl, by repeat (first | (with_reducible exact Below.refl _ _) | (with_reducible refine bl_alloc ?_ _) | (with_reducible refine Below.drew ?_) | (with_reducible refine below_drewN' ?_ _) | ((with_reducible refine bl_set ?_ ?_ _); (rotate_left; (dsimp only; omega))))⟩

set_option maxHeartbeats 1000000 in
set_option maxRecDepth 100000 in
theorem size_eq (g g' c c' n : Nat) (f h : Nat → Int) (hf : ∀ j, 0 ≤ f j ∧ f j < 65536) (hh : ∀ j, 0 ≤ h j ∧ h j < 65536) (hc : n ≤ c) (_hc' : n ≤ c') (hcm : c ≤ 9223372036854775807) (_hcm' : c' ≤ 9223372036854775807) (w : World) (hg : g < w.heap.size) (hg' : g' < w.heap.size)
    (h1 : Hid (∀ j, j < n → w.cell? ⟨g, j, none⟩ = some (.int .i64 (f j)))) (h2 : Hid (∀ j, j < n → w.cell? ⟨g', j, none⟩ = some (.int .i64 (h j)))) :
    Calls Tryd.prog 60 #[.slice (some ⟨g, 0, none⟩) n c, .slice (some ⟨g', 0, none⟩) n c'] w fun e w' => ∃ r, SizeIs f h n n r ∧ e = .returned (.int .i64 r) ∧ Below w.heap.size w w' := by
  have HF := hid_mk hf
  have HH := hid_mk hh
  clear hf hh
  go_enter Tryd.func60, Tryd.ntmps60
  go_wp2
  go_loopw [5] (fun iv W => ∃ r : Nat, iv = .int .i64 ((r : Int) - 1) ∧ r ≤ n ∧ Hid (∀ j, r ≤ j → j < n → f j = h j) ∧ Below w.heap.size w W) (fun iv _ => ((intOf iv) + 1).toNat)
  case atStart => exact ⟨n, rfl, by omega, fun j a b => absurd b (by omega), Below.refl _ _⟩
  case round =>
    obtain ⟨r, rfl, hr, he, hb⟩ := hrel
    by_cases h0 : r = 0
    · subst h0
      go_wp2
      go_ret
      exact ⟨0, .inr (.inr ⟨rfl, fun j hj => he.out j (by omega) hj, rfl⟩), rfl, hb⟩
    · obtain ⟨i, rfl⟩ : ∃ i, r = i + 1 := ⟨r - 1, by omega⟩
      have c1 : wr.cell? ⟨g, i, none⟩ = some (.int .i64 (f i)) := (hb.cell (by exact hg)).trans (h1.out i (by omega))
      have c2 : wr.cell? ⟨g', i, none⟩ = some (.int .i64 (h i)) := (hb.cell (by exact hg')).trans (h2.out i (by omega))
      have e1 : (((i + 1 : Nat) : Int) - 1) = (i : Int) := by omega
      rw [e1]
      have b1 := HF.out i
      have b2 := HH.out i
      by_cases hx : f i = h i
      · have hx1 : (f i == h i) = true := by simp; exact hx
        go_wp2
        go_region_with (fail)
        all_goals
          go_wp2
          go_roundw
          case rel =>
            refine ⟨i, by first | rfl | (congr 1; omega), by omega, ?_, by first | exact hb.drew | exact hb | exact hb.drew.drew⟩
            intro j a b
            rcases Nat.eq_or_lt_of_le a with e | e
            · subst e; exact hx
            · exact he.out j e b
          case measure => simp [intOf] <;> omega
      · have hx1 : (f i == h i) = false := by simp; exact hx
        have hw : wrap64 (f i - h i) = f i - h i := by unfold wrap64; omega
        have hw' : IntKind.i64.wrap (f i - h i) = f i - h i := IntWalk.i64_in _ (by omega)
        go_wp2
        go_region_with (fail)
        all_goals go_wp2
        all_goals go_region_with (fail)
        all_goals
          go_wp2
          refine bodyPost_ret (v := .int .i64 (f i - h i)) (by simp [results, Tryd.results60, go_sem]) rfl ?_
          exact ⟨f i - h i, .inr (.inl ⟨rfl, i, by omega, hx, fun j a b => he.out j a b, rfl⟩), rfl, by first | exact hb.drew.drew | exact hb.drew | exact hb⟩

set_option maxHeartbeats 1000000 in
set_option maxRecDepth 100000 in
theorem size_zero (ad ad' : Option Addr) (c c' : Nat) (f h : Nat → Int) (w : World) :
    Calls Tryd.prog 60 #[.slice ad 0 c, .slice ad' 0 c'] w fun e w' => ∃ r, SizeIs f h 0 0 r ∧ e = .returned (.int .i64 r) ∧ Below w.heap.size w w' := by
  go_enter Tryd.func60, Tryd.ntmps60
  go_wp2
  refine wp_loop_rounds 1 ?_
  rw [rounds_succ]
  go_wp2
  go_ret
  exact ⟨0, .inr (.inr ⟨rfl, fun j hj => absurd hj (by omega), rfl⟩), rfl, by repeat (first | (with_reducible exact Below.refl _ _) | (with_reducible refine bl_alloc ?_ _) | (with_reducible refine Below.drew ?_) | (with_reducible refine below_drewN' ?_ _) | ((with_reducible refine bl_set ?_ ?_ _); (rotate_left; (dsimp only; omega))))⟩
end Go.Proofs.YtdpbmkfgolemjaaDoor

/-
  Numbers by their digits to the base 65536: plain facts.
-/
namespace Go.Proofs.YtdpbmkfgolemjaaDoor
open Go.RowKit

/-- the number of the n lowest digits -/
def dval (f : Nat → Int) : Nat → Int
  | 0 => 0
  | n + 1 => dval f n + f n * 65536 ^ n

theorem p16_pos (n : Nat) : (0 : Int) < 65536 ^ n := Int.pow_pos (by omega)
theorem p16_le {n k : Nat} (h : n ≤ k) : (65536 : Int) ^ n ≤ 65536 ^ k := by
  obtain ⟨d, rfl⟩ := Nat.exists_eq_add_of_le h
  rw [Int.pow_add]
  have h1 := p16_pos n
  have h2 := p16_pos d
  have h3 : (65536 : Int) ^ n * 1 ≤ 65536 ^ n * 65536 ^ d := Int.mul_le_mul_of_nonneg_left (by omega) (by omega)
  omega
theorem dval_bound {f : Nat → Int} (hf : ∀ j, 0 ≤ f j ∧ f j < 65536) : ∀ n, 0 ≤ dval f n ∧ dval f n < 65536 ^ n
  | 0 => by simp [dval]
  | n + 1 => by
    have h := dval_bound hf n
    have h2 := hf n
    have hp := p16_pos n
    have e1 : 0 ≤ f n * 65536 ^ n := Int.mul_nonneg h2.1 (by omega)
    have e2 : f n * 65536 ^ n ≤ 65535 * 65536 ^ n := Int.mul_le_mul_of_nonneg_right (by omega) (by omega)
    rw [Int.pow_succ]
    simp only [dval]
    omega
theorem dval_ext {f h : Nat → Int} : ∀ n, (∀ j, j < n → f j = h j) → dval f n = dval h n
  | 0, _ => rfl
  | n + 1, e => by simp only [dval]; rw [dval_ext n (fun j hj => e j (by omega)), e n (by omega)]
theorem dval_tail {f : Nat → Int} {n : Nat} (h : ∀ j, n ≤ j → f j = 0) : ∀ k, dval f (n + k) = dval f n
  | 0 => rfl
  | k + 1 => by rw [← Nat.add_assoc]; simp only [dval]; rw [dval_tail h k, h (n + k) (by omega)]; omega
theorem dval_ge {f : Nat → Int} {n k : Nat} (h : ∀ j, n ≤ j → f j = 0) (hk : n ≤ k) : dval f k = dval f n := by
  obtain ⟨d, rfl⟩ := Nat.exists_eq_add_of_le hk
  exact dval_tail h d
theorem dval_low {f : Nat → Int} (hf : ∀ j, 0 ≤ f j ∧ f j < 65536) {n : Nat} (hn : 0 < n) (ht : f (n - 1) ≠ 0) : 65536 ^ (n - 1) ≤ dval f n := by
  obtain ⟨m, rfl⟩ : ∃ m, n = m + 1 := ⟨n - 1, by omega⟩
  rw [Nat.add_sub_cancel] at ht ⊢
  have h1 := dval_bound hf m
  have h2 := hf m
  have hp := p16_pos m
  have e : 1 * (65536 : Int) ^ m ≤ f m * 65536 ^ m := Int.mul_le_mul_of_nonneg_right (by omega) (by omega)
  simp only [dval]
  omega
theorem dval_lt {f h : Nat → Int} (hf : ∀ j, 0 ≤ f j ∧ f j < 65536) (hh : ∀ j, 0 ≤ h j ∧ h j < 65536) (i : Nat) (hlt : f i < h i) : ∀ n, i < n → (∀ j, i < j → j < n → f j = h j) → dval f n < dval h n
  | 0, hi, _ => absurd hi (by omega)
  | n + 1, hi, he => by
    simp only [dval]
    by_cases e : i = n
    · subst e
      have h1 := dval_bound hf i
      have h2 := dval_bound hh i
      have hp := p16_pos i
      have e : (f i + 1) * (65536 : Int) ^ i ≤ h i * 65536 ^ i := Int.mul_le_mul_of_nonneg_right (by omega) (by omega)
      rw [Int.add_mul] at e
      omega
    · have := dval_lt hf hh i hlt n (by omega) (fun j a b => he j a (by omega))
      rw [he n (by omega) (by omega)]
      omega
theorem dval_len {f h : Nat → Int} (hf : ∀ j, 0 ≤ f j ∧ f j < 65536) (hh : ∀ j, 0 ≤ h j ∧ h j < 65536) {n k : Nat} (hk : n < k) (ht : h (k - 1) ≠ 0) : dval f n < dval h k := by
  have h1 := dval_bound hf n
  have h2 := dval_low hh (by omega) ht
  have h3 : (65536 : Int) ^ n ≤ 65536 ^ (k - 1) := p16_le (by omega)
  omega
theorem size_sign {f h : Nat → Int} {n k : Nat} {r : Int} (hf : ∀ j, 0 ≤ f j ∧ f j < 65536) (hh : ∀ j, 0 ≤ h j ∧ h j < 65536) (tf : n = 0 ∨ f (n - 1) ≠ 0) (th : k = 0 ∨ h (k - 1) ≠ 0) (hs : SizeIs f h n k r) :
    (r < 0 → dval f n < dval h k) ∧ (0 ≤ r → dval h k ≤ dval f n) := by
  rcases hs with ⟨h1, rfl⟩ | ⟨rfl, i, h1, h2, h3, rfl⟩ | ⟨rfl, h1, rfl⟩
  · constructor
    · intro h
      exact dval_len hf hh (by omega) (by rcases th with h | h; · omega
                                          · exact h)
    · intro h
      exact Int.le_of_lt (dval_len hh hf (by omega) (by rcases tf with h | h; · omega
                                                        · exact h))
  · constructor
    · intro h; exact dval_lt hf hh i (by omega) n h1 h3
    · intro h; exact Int.le_of_lt (dval_lt hh hf i (by omega) n h1 (fun j a b => (h3 j a b).symm))
  · rw [dval_ext n h1]
    exact ⟨fun h => absurd h (by omega), fun _ => Int.le_refl _⟩

def sg (m : Bool) : Int := if m then -1 else 1

/-- the digits of a Num, in memory: none nought behind -/
structure DigAt (W : World) (ad : Option Addr) (n cap : Nat) (f : Nat → Int) : Prop where
  bd : ∀ j, 0 ≤ f j ∧ f j < 65536
  hi : ∀ j, n ≤ j → f j = 0
  top : n = 0 ∨ f (n - 1) ≠ 0
  mem : n = 0 ∨ ∃ g, ad = some ⟨g, 0, none⟩ ∧ n ≤ cap ∧ cap ≤ 9223372036854775807 ∧ g < W.heap.size ∧ Hid (∀ j, j < n → W.cell? ⟨g, j, none⟩ = some (.int .i64 (f j)))
/-- v is a Num, and the number z -/
def NumIs (v : Value) (z : Int) (W : World) : Prop :=
  ∃ (m : Bool) (ad : Option Addr) (n cap : Nat) (f : Nat → Int), v = .agg #[.bool m, .slice ad n cap] ∧ DigAt W ad n cap f ∧ (n = 0 → m = false) ∧ z = sg m * dval f n
theorem DigAt.below {W W' : World} {ad : Option Addr} {n cap : Nat} {f : Nat → Int} (h : DigAt W ad n cap f) (hb : Below W.heap.size W W') : DigAt W' ad n cap f := by
  refine ⟨h.bd, h.hi, h.top, ?_⟩
  rcases h.mem with h | ⟨g, e, h1, h2, h3, h4⟩
  · exact .inl h
  · exact .inr ⟨g, e, h1, h2, Nat.lt_of_lt_of_le h3 hb.size, fun j hj => (hb.cell (by exact h3)).trans (h4.out j hj)⟩
theorem NumIs.below {v : Value} {z : Int} {W W' : World} (h : NumIs v z W) (hb : Below W.heap.size W W') : NumIs v z W' := by
  obtain ⟨m, ad, n, cap, f, e, h1, h2, h3⟩ := h
  exact ⟨m, ad, n, cap, f, e, h1.below hb, h2, h3⟩
/-- the greatest that is told of here -/
def BIG : Int := 65536 ^ 100
theorem len_of {W : World} {ad : Option Addr} {n cap : Nat} {f : Nat → Int} (h : DigAt W ad n cap f) (m : Bool) (h1 : -BIG < sg m * dval f n) (h2 : sg m * dval f n < BIG) : n ≤ 100 := by
  have h3 : dval f n < BIG := by cases m <;> simp [sg] at h1 h2 <;> omega
  rcases Nat.lt_or_ge 100 n with h4 | h4
  · rcases h.top with h5 | h5
    · omega
    · have h6 := dval_low h.bd (by omega) h5
      have h7 : BIG ≤ 65536 ^ (n - 1) := p16_le (by omega)
      omega
  · exact h4
theorem num_zero {W : World} {ad : Option Addr} {n cap : Nat} {f : Nat → Int} (h : DigAt W ad n cap f) : dval f n = 0 ↔ n = 0 := by
  constructor
  · intro e
    rcases h.top with h5 | h5
    · exact h5
    · rcases Nat.eq_zero_or_pos n with h6 | h6
      · exact h6
      · have := dval_low h.bd h6 h5
        have := p16_pos (n - 1)
        omega
  · rintro rfl; rfl
end Go.Proofs.YtdpbmkfgolemjaaDoor

/-
  Contract of the document's side: Plus.
-/
namespace Go.Proofs.YtdpbmkfgolemjaaDoor
open Go.RowKit

theorem size_num {W : World} {ad ad' : Option Addr} {n k c c' : Nat} {f h : Nat → Int} (d1 : DigAt W ad n c f) (d2 : DigAt W ad' k c' h) (hn : n ≤ 100) (hk : k ≤ 100) :
    Calls Tryd.prog 60 #[.slice ad n c, .slice ad' k c'] W fun e w' => ∃ r, SizeIs f h n k r ∧ e = .returned (.int .i64 r) ∧ Below W.heap.size W w' := by
  by_cases hne : n = k
  · subst hne
    rcases d1.mem with h0 | ⟨g, rfl, a1, a2, a3, a4⟩
    · subst h0; exact size_zero ad ad' c c' f h W
    · rcases d2.mem with h0 | ⟨g', rfl, b1, b2, b3, b4⟩
      · subst h0; exact size_zero _ ad' c c' f h W
      · exact size_eq g g' c c' n f h d1.bd d2.bd a1 b1 a2 b2 W a3 b3 a4 b4
  · exact size_ne ad ad' c c' n k f h (by omega) (by omega) hne W
theorem digit_num {W : World} {ad : Option Addr} {n c : Nat} {f : Nat → Int} (d1 : DigAt W ad n c f) (i : Nat) :
    Calls Tryd.prog 59 #[.slice ad n c, .int .i64 i] W fun e w' => e = .returned (.int .i64 (f i)) ∧ Below W.heap.size W w' := by
  rcases Nat.lt_or_ge i n with h | h
  · rcases d1.mem with h0 | ⟨g, rfl, a1, a2, a3, a4⟩
    · omega
    · exact digit_in g c n i (f i) h a1 a2 W (a4.out i h)
  · rw [d1.hi i h]; exact digit_out ad c n i h W

theorem Rw.kept {B : Nat} {w W W' : World} {v : Value} {ds : List Int} (h : Rw B w v ds W) (hb : Below W.heap.size W W') : Rw B w v ds W' :=
  ⟨by
    obtain ⟨h1, h2⟩ := h.own
    refine ⟨h1, ?_⟩
    rcases h2 with h2 | ⟨g, cap, cur, e1, h3, h4, h5⟩
    · exact .inl h2
    · exact .inr ⟨g, cap, cur, e1, h3, (hb.block g (Array.getElem?_eq_some_iff.1 h4).1).trans h4, h5⟩, h.hb.trans (hb.mono h.sz), Nat.le_trans h.sz hb.size⟩
theorem DigAt.far {W : World} {ad : Option Addr} {n cap : Nat} {f : Nat → Int} (h : DigAt W ad n cap f) {b : Nat} {x : Bool} (hc : W.cell? ⟨b, 0, none⟩ = some (.bool x)) (o : Nat) (v : Value) : DigAt (W.setCell ⟨b, o, none⟩ v) ad n cap f := by
  refine ⟨h.bd, h.hi, h.top, ?_⟩
  rcases h.mem with h | ⟨g, e, h1, h2, h3, h4⟩
  · exact .inl h
  · rcases Nat.eq_zero_or_pos n with h0 | h0
    · exact .inl h0
    · refine .inr ⟨g, e, h1, h2, by simpa using h3, fun j hj => (World.cell?_setCell_far _ _ _ _ ?_).trans (h4.out j hj)⟩
      rintro rfl
      have := h4.out 0 h0
      rw [hc] at this
      cases this
/-- what a call answers is laid into its own variable -/
theorem DigAt.res {W : World} {ad : Option Addr} {n cap : Nat} {f : Nat → Int} (h : DigAt W ad n cap f) {b : Nat} {x : Bool} (hc : W.cell? ⟨b, 0, none⟩ = some (.bool x)) (y : Bool) (v : Value) : DigAt ((W.setCell ⟨b, 0, none⟩ (.bool y)).setCell ⟨b, 1, none⟩ v) ad n cap f :=
  (h.far hc 0 _).far (World.cell?_setCell_same _ _ _ hc) 1 _
/-- digits in a list -/
def Bd (ds : List Int) : Prop := ∀ j, 0 ≤ ds.getD j 0 ∧ ds.getD j 0 < 65536
def lval (ds : List Int) : Int := dval (fun j => ds.getD j 0) ds.length
theorem bd_nil : Bd [] := fun j => by simp
theorem getD_snoc (ds : List Int) (x : Int) (j : Nat) : (ds ++ [x]).getD j 0 = if j < ds.length then ds.getD j 0 else if j = ds.length then x else 0 := by
  rw [List.getD_eq_getElem?_getD, List.getD_eq_getElem?_getD, List.getElem?_append]
  split
  · rfl
  · split
    · rename_i h; rw [h]; simp
    · rename_i h1 h2
      rw [List.getElem?_eq_none (by simp; omega)]; rfl
theorem bd_snoc {ds : List Int} {x : Int} (h : Bd ds) (h0 : 0 ≤ x) (h1 : x < 65536) : Bd (ds ++ [x]) := by
  intro j
  rw [getD_snoc]
  have := h j
  split
  · exact this
  · split <;> omega
theorem lval_snoc (ds : List Int) (x : Int) : lval (ds ++ [x]) = lval ds + x * 65536 ^ ds.length := by
  unfold lval
  rw [List.length_append, List.length_singleton]
  simp only [dval]
  rw [getD_snoc, if_neg (by omega), if_pos rfl]
  congr 1
  exact dval_ext _ fun j hj => by rw [getD_snoc, if_pos hj]
theorem lval_bound {ds : List Int} (h : Bd ds) : 0 ≤ lval ds ∧ lval ds < 65536 ^ ds.length := dval_bound h _

theorem trim_row (m : Bool) {B : Nat} {w0 : World} {v : Value} {ds : List Int} {W : World} (hR : Rw B w0 v ds W) (hd : Bd ds) :
    Calls Tryd.prog 35 #[.bool m, v] W fun e w' => ∃ u, e = .returned u ∧ NumIs u (sg m * lval ds) w' ∧ Below W.heap.size W w' := by
  have key : ∀ (n : Nat), TrimAt ds n → (∀ j, 0 ≤ (fun j => ds.getD j 0) j ∧ (fun j => ds.getD j 0) j < 65536) ∧ (∀ j, n ≤ j → ds.getD j 0 = 0) ∧ (n = 0 ∨ ds.getD (n - 1) 0 ≠ 0) ∧ lval ds = dval (fun j => ds.getD j 0) n := by
    rintro n ⟨h1, h2, h3⟩
    have hz : ∀ j, n ≤ j → ds.getD j 0 = 0 := fun j hj => by
      rcases Nat.lt_or_ge j ds.length with h | h
      · exact h2 j hj h
      · rw [List.getD_eq_getElem?_getD, List.getElem?_eq_none h]; rfl
    exact ⟨hd, hz, h3, dval_ge hz h1⟩
  have fin : ∀ (n : Nat), TrimAt ds n → sg m * lval ds = sg (m && decide (0 < n)) * dval (fun j => ds.getD j 0) n := by
    intro n hn
    rw [(key n hn).2.2.2]
    rcases Nat.eq_zero_or_pos n with h | h
    · subst h; simp [dval]
    · simp [h]
  rcases hR.own.2 with ⟨e1, h0⟩ | ⟨g, cap, cur, e1, h1, h2, h3, h4, -, -⟩
  · have : ds = [] := by simpa using h0
    subst this
    subst e1
    refine (trim_nil m W).mono ?_
    rintro e w' ⟨n, hn, rfl, hb⟩
    have hk := key n hn
    have hn0 : n = 0 := by have := hn.1; simpa using this
    exact ⟨_, rfl, ⟨_, _, n, 0, _, rfl, ⟨hk.1, hk.2.1, hk.2.2.1, .inl hn0⟩, fun h => by simp [h], fin n hn⟩, hb⟩
  · have hlen : g < W.heap.size := (Array.getElem?_eq_some_iff.1 h2).1
    have ho := hR.own
    subst e1
    have hcell : ∀ j, j < ds.length → W.cell? ⟨g, j, none⟩ = some (.int .i64 (ds.getD j 0)) := by
      intro j hj
      rw [ho.cellAt j (by omega), List.getElem?_map, List.getD_eq_getElem?_getD, List.getElem?_eq_getElem hj]
      rfl
    refine (trim_some m g cap ds h3 h4 W hlen hcell).mono ?_
    rintro e w' ⟨n, hn, rfl, hb⟩
    have hk := key n hn
    refine ⟨_, rfl, ⟨_, _, n, cap, _, rfl, ⟨hk.1, hk.2.1, hk.2.2.1, .inr ⟨g, rfl, by have := hn.1; omega, h4, Nat.lt_of_lt_of_le hlen hb.size, ?_⟩⟩, fun h => by simp [h], fin n hn⟩, hb⟩
    intro j hj
    exact (hb.cell (by exact hlen)).trans (hcell j (by have := hn.1; omega))
/-- the frame of Plus: its two numbers, and what it will answer -/
structure PlusW (w : World) (m s s' : Value) (W : World) : Prop where
  sz : W.heap.size = w.heap.size + 3
  hb : Below w.heap.size w W
  a0 : W.cell? ⟨w.heap.size, 0, none⟩ = some m
  a1 : W.cell? ⟨w.heap.size, 1, none⟩ = some s
  b1 : W.cell? ⟨w.heap.size + 1, 1, none⟩ = some s'
  f0 : W.frozen? ⟨w.heap.size + 2, 0, none⟩ = false
  f1 : W.frozen? ⟨w.heap.size + 2, 1, none⟩ = false
  z0 : W.cell? ⟨w.heap.size + 2, 0, none⟩ = some (.bool false)
  z1 : W.cell? ⟨w.heap.size + 2, 1, none⟩ = some (.slice none 0 0)
def PlusI (B : Nat) (W2 : World) (n k : Nat) (f h : Nat → Int) (dv cv iv : Value) (W : World) : Prop :=
  ∃ (ds : List Int) (cy : Int), cv = .int .i64 cy ∧ iv = .int .i64 ds.length ∧ Rw B W2 dv ds W ∧ Bd ds ∧ (cy = 0 ∨ cy = 1) ∧ ((ds.length ≤ n ∨ ds.length ≤ k) ∨ (cy = 0 ∧ (ds.length ≤ n + 1 ∨ ds.length ≤ k + 1))) ∧ lval ds + cy * 65536 ^ ds.length = dval f ds.length + dval h ds.length

set_option maxHeartbeats 1000000 in
set_option maxRecDepth 100000 in
theorem plus_add (m : Bool) (ad ad' : Option Addr) (n k c c' : Nat) (f h : Nat → Int) (hn : n ≤ 100) (hk : k ≤ 100) (w : World) (d1 : DigAt w ad n c f) (d2 : DigAt w ad' k c' h) :
    Calls Tryd.prog 47 #[.agg #[.bool m, .slice ad n c], .agg #[.bool m, .slice ad' k c']] w fun e w' => ∃ u, e = .returned u ∧ NumIs u (sg m * (dval f n + dval h k)) w' ∧ Below w.heap.size w w' := by
  obtain ⟨i0, hi, hz0, hz1, hz2⟩ := info_parts info_int
  have D1 := Lib.hid d1
  have D2 := Lib.hid d2
  clear d1 d2
  go_enter Tryd.func47, Tryd.ntmps47
  go_wp2
  refine wp_abs (fun W => PlusW w (.bool m) (.slice ad n c) (.slice ad' k c') W) ?_ ?_
  · constructor <;> first | (simp [go_sem]; done) | repeat (first | (with_reducible exact Below.refl _ _) | (with_reducible refine bl_alloc ?_ _) | (with_reducible refine Below.drew ?_) | (with_reducible refine below_drewN' ?_ _) | ((with_reducible refine bl_set ?_ ?_ _); (rotate_left; (dsimp only; omega))))
  intro W2 hW
  go_loopw [5, 6, 7] (fun dv cv iv W => PlusI (w.heap.size + 3) W2 n k f h dv cv iv W) (fun _ _ iv _ => 102 - (intOf iv).toNat)
  case atStart => exact ⟨[], 0, rfl, rfl, by rw [← hW.sz]; exact Rw.nil (Nat.le_refl _), bd_nil, .inl rfl, .inl (by simp), by simp [lval, dval]⟩
  case round =>
    obtain ⟨ds, cy, rfl, rfl, hR, hB, hcy, hlen, heq⟩ := hrel
    have hRs := hR.sz
    have c1 : wr.cell? ⟨w.heap.size, 1, none⟩ = some (.slice ad n c) := (hR.hb.cell (by dsimp only; omega)).trans hW.a1
    have c2 : wr.cell? ⟨w.heap.size + 1, 1, none⟩ = some (.slice ad' k c') := (hR.hb.cell (by dsimp only; omega)).trans hW.b1
    have DA : Hid (DigAt wr ad n c f) := D1.out.below (bl_trans hW.hb (by rw [hW.sz]; exact hR.hb))
    have DB : Hid (DigAt wr ad' k c' h) := D2.out.below (bl_trans hW.hb (by rw [hW.sz]; exact hR.hb))
    have HR := Lib.hid hR
    clear hR
    have HB := Lib.hid hB
    clear hB
    have HQ := Lib.hid heq
    clear heq
    have hfb := DA.out.bd ds.length
    have hhb := DB.out.bd ds.length
    by_cases hgo : ds.length < n ∨ ds.length < k ∨ 0 < cy
    · go_upto_region 5 with (fail)
      go_cut [33] (fun bv W => bv = .bool true ∧ wr = W)
      case first =>
        rcases (show (ds.length < n) ∨ (¬ ds.length < n ∧ ds.length < k) ∨ (¬ ds.length < n ∧ ¬ ds.length < k ∧ 0 < cy) by omega) with h1 | ⟨h1, h2⟩ | ⟨h1, h2, h3⟩
        · have b1 : decide ((ds.length : Int) < (n : Int)) = true := by simp; omega
          go_wp2
          go_meet
          case rel => exact ⟨rfl, rfl⟩
        · have b1 : decide ((ds.length : Int) < (n : Int)) = false := by simp; omega
          have b2 : decide ((ds.length : Int) < (k : Int)) = true := by simp; omega
          go_wp2
          go_meet
          case rel => exact ⟨rfl, rfl⟩
        · have b1 : decide ((ds.length : Int) < (n : Int)) = false := by simp; omega
          have b2 : decide ((ds.length : Int) < (k : Int)) = false := by simp; omega
          have b3 : decide (0 < cy) = true := by simp; omega
          go_wp2
          go_meet
          case rel => exact ⟨rfl, rfl⟩
      case rest =>
        obtain ⟨rfl, rfl⟩ := hcut
        go_upto_region 7 with (fail)
        have hw1 : IntKind.i64.wrap (f ds.length + h ds.length) = f ds.length + h ds.length := IntWalk.i64_in _ (by omega)
        have hw2 : IntKind.i64.wrap (f ds.length + h ds.length + cy) = f ds.length + h ds.length + cy := IntWalk.i64_in _ (by omega)
        go_cut [8] (fun xv W => xv = .int .i64 (f ds.length + h ds.length + cy) ∧ Below wr.heap.size wr W)
        case first =>
          go_region_with (first
            | (go_at_call 59; (with_reducible refine (digit_num (DA.out.below (bl_drew1 _)) ds.length).mono ?_); rintro e w1 ⟨rfl, hb1⟩
               have c3 : w1.cell? ⟨w.heap.size + 1, 1, none⟩ = some (.slice ad' k c') := (hb1.cell (by simp; omega)).trans c2
               have DB1 : Hid (DigAt w1 ad' k c' h) := DB.out.below (bl_trans (bl_drew1 _) hb1))
            | (go_at_call 59; (with_reducible refine (digit_num DB1.out ds.length).mono ?_); rintro e w2 ⟨rfl, hb2⟩))
          all_goals
            go_wp2_with fail
            go_meet
            case rel => exact ⟨by first | rfl | simp [hw1, hw2], bl_trans (bl_trans (bl_drew1 _) hb1) hb2⟩
        case rest =>
          obtain ⟨rfl, hb⟩ := hcut
          have RW : Hid (Rw (w.heap.size + 3) W2 u5 ds wc) := HR.out.kept hb
          have hws := hb.size
          clear c1 c2 DA DB HR hw1 hw2
          obtain ⟨x, hx, hxb⟩ : ∃ x, x = f ds.length + h ds.length + cy ∧ (0 ≤ x ∧ x < 131073) := ⟨_, rfl, by omega⟩
          have HX := Lib.hid hx
          rw [← hx]
          clear hx
          have et : IntKind.i64.wrap (x.tmod 65536) = x % 65536 := by
            rw [Int.tmod_eq_emod_of_nonneg hxb.1]; exact IntWalk.i64_in _ (by omega)
          have et' : wrap64 (x.tmod 65536) = x % 65536 := by
            rw [Int.tmod_eq_emod_of_nonneg hxb.1]; unfold wrap64; omega
          have eq : IntKind.i64.wrap (x.tdiv 65536) = x / 65536 := by
            rw [Int.tdiv_eq_ediv_of_nonneg hxb.1]; exact IntWalk.i64_in _ (by omega)
          have eq' : wrap64 (x.tdiv 65536) = x / 65536 := by
            rw [Int.tdiv_eq_ediv_of_nonneg hxb.1]; unfold wrap64; omega
          have hl : ds.length ≤ 101 := by omega
          go_wp2_with (first
            | (at_builtin; refine wpList_append_own _ rfl _ _ 55 rfl (w.heap.size + 3) 3 i0 (.int .i64 0) 1 8 Tryd.underlying55 hi hz0 hz1 hz2 rfl (by decide) _ _ _ rfl (RW.out.alloc _).own ⟨wc.heap.size, 0, none⟩ 1 1 [.int .i64 (x % 65536)] rfl rfl ?c1 ?c2 ?c3 ?c4 ?c5 ?_)
            | go_in)
          case c1 => exact cell_one_new _ _ _
          case c2 => intro u hu; simp at hu; subst hu; rfl
          case c3 => unfold maxLen; omega
          case c4 => omega
          case c5 => simp; omega
          intro v' w1 hown' hgrow _
          have R : Hid (Rw (w.heap.size + 3) W2 v' (ds ++ [x % 65536]) w1) := (RW.out.alloc _).more hown' hgrow
          clear hown' hgrow et et'
          go_wp2
          go_roundw
          case rel =>
            have hx := HX.out
            refine ⟨ds ++ [x % 65536], x / 65536, by first | rfl | trivial, by first | rfl | simp, R.out, bd_snoc HB.out (by omega) (by omega), by omega, ?_, ?_⟩
            · simp only [List.length_append, List.length_singleton]
              by_cases hs : ds.length < n ∨ ds.length < k
              · exact .inl (by omega)
              · right
                have z1 := D1.out.hi ds.length (by omega)
                have z2 := D2.out.hi ds.length (by omega)
                constructor <;> omega
            · rw [lval_snoc, List.length_append, List.length_singleton, Int.pow_succ]
              simp only [dval]
              have hq := HQ.out
              have e1 : x % 65536 * 65536 ^ ds.length + x / 65536 * (65536 ^ ds.length * 65536) = x * 65536 ^ ds.length := by
                have : x = x % 65536 + x / 65536 * 65536 := by omega
                generalize (65536 : Int) ^ ds.length = P
                generalize x % 65536 = r at *
                generalize x / 65536 = q at *
                rw [this, Int.add_mul, Int.mul_assoc, Int.mul_comm 65536 P]
              have e2 : x * 65536 ^ ds.length = f ds.length * 65536 ^ ds.length + h ds.length * 65536 ^ ds.length + cy * 65536 ^ ds.length := by
                rw [hx, Int.add_mul, Int.add_mul]
              omega
          case measure => simp [intOf] <;> omega
    · have b1 : decide ((ds.length : Int) < (n : Int)) = false := by simp; omega
      have b2 : decide ((ds.length : Int) < (k : Int)) = false := by simp; omega
      have ec : cy = 0 := by omega
      subst ec
      have hM : wr.cell? ⟨w.heap.size, 0, none⟩ = some (.bool m) := (HR.out.hb.cell (by dsimp only; omega)).trans hW.a0
      have hbW : Hid (Below w.heap.size w wr ∧ wr.frozen? ⟨w.heap.size + 2, 0, none⟩ = false ∧ wr.frozen? ⟨w.heap.size + 2, 1, none⟩ = false ∧ wr.cell? ⟨w.heap.size + 2, 0, none⟩ = some (.bool false) ∧ wr.cell? ⟨w.heap.size + 2, 1, none⟩ = some (.slice none 0 0)) :=
        ⟨bl_trans hW.hb (by rw [hW.sz]; exact HR.out.hb), (HR.out.hb.frozen (by dsimp only; omega)).trans hW.f0, (HR.out.hb.frozen (by dsimp only; omega)).trans hW.f1, (HR.out.hb.cell (by dsimp only; omega)).trans hW.z0, (HR.out.hb.cell (by dsimp only; omega)).trans hW.z1⟩
      have hdone : lval ds = dval f n + dval h k := by
        have hq := HQ.out
        rw [dval_ge D1.out.hi (by omega), dval_ge D2.out.hi (by omega)] at hq
        omega
      clear hW
      go_wp2_with fail
      refine (trim_row m HR.out HB.out).mono ?_
      rintro e w3 ⟨u, rfl, hN, hb3⟩
      obtain ⟨m3, ad3, n3, cap3, f3, rfl, hD3, hm3, hz3⟩ := hN
      have HD := Lib.hid hD3
      clear hD3
      have f0 : w3.frozen? ⟨w.heap.size + 1 + 1, 0, none⟩ = false := (hb3.frozen (by dsimp only; omega)).trans hbW.out.2.1
      have f1 : w3.frozen? ⟨w.heap.size + 1 + 1, 1, none⟩ = false := (hb3.frozen (by dsimp only; omega)).trans hbW.out.2.2.1
      have z0 : w3.cell? ⟨w.heap.size + 1 + 1, 0, none⟩ = some (.bool false) := (hb3.cell (by dsimp only; omega)).trans hbW.out.2.2.2.1
      have z1 : w3.cell? ⟨w.heap.size + 1 + 1, 1, none⟩ = some (.slice none 0 0) := (hb3.cell (by dsimp only; omega)).trans hbW.out.2.2.2.2
      go_wp2
      refine bodyPost_ret (v := .agg #[.bool m3, .slice ad3 n3 cap3]) (by simp [results, Tryd.results47, go_sem, z0, z1]) rfl ⟨_, rfl, ⟨m3, ad3, n3, cap3, f3, rfl, HD.out.res z0 _ _, hm3, by rw [← hdone]; exact hz3⟩, ?_⟩
      have hb5 : Below w.heap.size w w3 := bl_trans hbW.out.1 hb3
      repeat (first | (with_reducible exact Below.refl _ _) | (with_reducible refine bl_alloc ?_ _) | (with_reducible refine Below.drew ?_) | (with_reducible refine below_drewN' ?_ _) | ((with_reducible refine bl_set ?_ ?_ _); (rotate_left; (dsimp only; omega))))
      exact hb5
end Go.Proofs.YtdpbmkfgolemjaaDoor

/-
  Contract of the document's side: Plus, of two signs.
-/
namespace Go.Proofs.YtdpbmkfgolemjaaDoor
open Go.RowKit

/-- the frame of Plus, of two signs -/
structure SubW (w : World) (m n : Bool) (s s' : Value) (W : World) : Prop where
  sz : w.heap.size + 5 ≤ W.heap.size
  hb : Below w.heap.size w W
  n0 : W.cell? ⟨w.heap.size, 0, none⟩ = some (.bool m)
  n1 : W.cell? ⟨w.heap.size, 1, none⟩ = some s
  m0 : W.cell? ⟨w.heap.size + 1, 0, none⟩ = some (.bool n)
  m1 : W.cell? ⟨w.heap.size + 1, 1, none⟩ = some s'
  z0 : W.cell? ⟨w.heap.size + 2, 0, none⟩ = some (.bool false)
  z1 : W.cell? ⟨w.heap.size + 2, 1, none⟩ = some (.slice none 0 0)
  a0 : W.cell? ⟨w.heap.size + 3, 0, none⟩ = some (.bool m)
  a1 : W.cell? ⟨w.heap.size + 3, 1, none⟩ = some s
  b0 : W.cell? ⟨w.heap.size + 4, 0, none⟩ = some (.bool n)
  b1 : W.cell? ⟨w.heap.size + 4, 1, none⟩ = some s'
  f0 : W.frozen? ⟨w.heap.size + 2, 0, none⟩ = false
  f1 : W.frozen? ⟨w.heap.size + 2, 1, none⟩ = false
  f2 : W.frozen? ⟨w.heap.size + 3, 0, none⟩ = false
  f3 : W.frozen? ⟨w.heap.size + 3, 1, none⟩ = false
  f4 : W.frozen? ⟨w.heap.size + 4, 0, none⟩ = false
  f5 : W.frozen? ⟨w.heap.size + 4, 1, none⟩ = false
theorem SubW.below {w : World} {m n : Bool} {s s' : Value} {W W' : World} (h : SubW w m n s s' W) (hb : Below W.heap.size W W') : SubW w m n s s' W' := by
  have e := h.sz
  have hc : ∀ b o v, b < w.heap.size + 5 → W.cell? ⟨b, o, none⟩ = v → W'.cell? ⟨b, o, none⟩ = v := fun b o v hl hv => (hb.cell (by exact Nat.lt_of_lt_of_le hl e)).trans hv
  have hf : ∀ b o v, b < w.heap.size + 5 → W.frozen? ⟨b, o, none⟩ = v → W'.frozen? ⟨b, o, none⟩ = v := fun b o v hl hv => (hb.frozen (by exact Nat.lt_of_lt_of_le hl e)).trans hv
  exact ⟨by have := hb.size; omega, bl_trans h.hb hb, hc _ _ _ (by omega) h.n0, hc _ _ _ (by omega) h.n1, hc _ _ _ (by omega) h.m0, hc _ _ _ (by omega) h.m1, hc _ _ _ (by omega) h.z0, hc _ _ _ (by omega) h.z1, hc _ _ _ (by omega) h.a0, hc _ _ _ (by omega) h.a1, hc _ _ _ (by omega) h.b0, hc _ _ _ (by omega) h.b1,
    hf _ _ _ (by omega) h.f0, hf _ _ _ (by omega) h.f1, hf _ _ _ (by omega) h.f2, hf _ _ _ (by omega) h.f3, hf _ _ _ (by omega) h.f4, hf _ _ _ (by omega) h.f5⟩
/-- and the same, once the greater one is ahead -/
structure SubV (w : World) (ma : Bool) (sa sb : Value) (W : World) : Prop where
  sz : w.heap.size + 5 ≤ W.heap.size
  hb : Below w.heap.size w W
  z0 : W.cell? ⟨w.heap.size + 2, 0, none⟩ = some (.bool false)
  z1 : W.cell? ⟨w.heap.size + 2, 1, none⟩ = some (.slice none 0 0)
  a0 : W.cell? ⟨w.heap.size + 3, 0, none⟩ = some (.bool ma)
  a1 : W.cell? ⟨w.heap.size + 3, 1, none⟩ = some sa
  b1 : W.cell? ⟨w.heap.size + 4, 1, none⟩ = some sb
  f0 : W.frozen? ⟨w.heap.size + 2, 0, none⟩ = false
  f1 : W.frozen? ⟨w.heap.size + 2, 1, none⟩ = false
def SubI (B : Nat) (W2 : World) (n : Nat) (f h : Nat → Int) (dv cv iv : Value) (W : World) : Prop :=
  ∃ (ds : List Int) (cy : Int), cv = .int .i64 cy ∧ iv = .int .i64 ds.length ∧ Rw B W2 dv ds W ∧ Bd ds ∧ (cy = 0 ∨ cy = 1) ∧ ds.length ≤ n ∧ lval ds - cy * 65536 ^ ds.length = dval f ds.length - dval h ds.length

theorem dval_short {f h : Nat → Int} (hf : ∀ j, 0 ≤ f j ∧ f j < 65536) (hh : ∀ j, 0 ≤ h j ∧ h j < 65536) {n k : Nat} (th : k = 0 ∨ h (k - 1) ≠ 0) (hle : dval h k ≤ dval f n) : k ≤ n := by
  rcases Nat.lt_or_ge n k with h1 | h1
  · rcases th with h2 | h2
    · omega
    · have := dval_len hf hh h1 h2
      omega
  · exact h1

theorem sub_step {ds : List Int} {f h : Nat → Int} {cy x y bo : Int} (hq : lval ds - cy * 65536 ^ ds.length = dval f ds.length - dval h ds.length) (hx : x = f ds.length - h ds.length - cy) (hy : y - bo * 65536 = x) :
    lval (ds ++ [y]) - bo * 65536 ^ (ds ++ [y]).length = dval f (ds ++ [y]).length - dval h (ds ++ [y]).length := by
  rw [lval_snoc, List.length_append, List.length_singleton, Int.pow_succ]
  simp only [dval]
  have e1 : y * 65536 ^ ds.length - bo * (65536 ^ ds.length * 65536) = x * 65536 ^ ds.length := by
    rw [← hy, Int.sub_mul, Int.mul_assoc, Int.mul_comm 65536 (65536 ^ ds.length)]
  have e2 : x * 65536 ^ ds.length = f ds.length * 65536 ^ ds.length - h ds.length * 65536 ^ ds.length - cy * 65536 ^ ds.length := by
    rw [hx, Int.sub_mul, Int.sub_mul]
  omega

set_option maxHeartbeats 4000000 in
set_option maxRecDepth 100000 in
theorem plus_sub (m : Bool) (ad ad' : Option Addr) (n k c c' : Nat) (f h : Nat → Int) (hn : n ≤ 100) (hk : k ≤ 100) (w : World) (d1 : DigAt w ad n c f) (d2 : DigAt w ad' k c' h) :
    Calls Tryd.prog 47 #[.agg #[.bool m, .slice ad n c], .agg #[.bool (!m), .slice ad' k c']] w fun e w' => ∃ u, e = .returned u ∧ NumIs u (sg m * dval f n + sg (!m) * dval h k) w' ∧ Below w.heap.size w w' := by
  obtain ⟨i0, hi, hz0, hz1, hz2⟩ := info_parts info_int
  have D1 := Lib.hid d1
  have D2 := Lib.hid d2
  clear d1 d2
  have hmm : (m == !m) = false := by cases m <;> rfl
  go_enter Tryd.func47, Tryd.ntmps47
  go_upto_region 13 with (fail)
  refine wp_abs (fun W => SubW w m (!m) (.slice ad n c) (.slice ad' k c') W) ?_ ?_
  · constructor <;> first | (simp [go_sem]; done) | repeat (first | (with_reducible exact Below.refl _ _) | (with_reducible refine bl_alloc ?_ _) | (with_reducible refine Below.drew ?_) | (with_reducible refine below_drewN' ?_ _) | ((with_reducible refine bl_set ?_ ?_ _); (rotate_left; (dsimp only; omega))))
  intro W2 hW
  have HW := Lib.hid hW
  have hDa : DigAt W2 ad n c f := D1.out.below hW.hb
  have hDb : DigAt W2 ad' k c' h := D2.out.below hW.hb
  have HDa := Lib.hid hDa
  have HDb := Lib.hid hDb
  clear hDa hDb
  have c1 := hW.n1
  have c2 := hW.m1
  clear hW
  go_cut [65] (fun bv W => ∃ r, SizeIs f h n k r ∧ bv = .bool (decide (r < 0)) ∧ SubW w m (!m) (.slice ad n c) (.slice ad' k c') W)
  case first =>
    go_wp2_with (first
      | (go_at_call 60; (with_reducible refine (size_num HDa.out HDb.out hn hk).mono ?_); rintro e w1 ⟨r, hr, rfl, hb1⟩)
      | go_in)
    go_meet
    case rel => exact ⟨r, hr, rfl, HW.out.below hb1⟩
  case rest =>
    obtain ⟨r, hr, rfl, hW⟩ := hcut
    have hs := size_sign D1.out.bd D2.out.bd D1.out.top D2.out.top hr
    clear hr HDa HDb HW c1 c2
    obtain ⟨-, hwb, g0, g1, g2, g3, g4, g5, g6, g7, g8, g9, p0, p1, p2, p3, p4, p5⟩ := id hW
    have HW := Lib.hid hW
    clear hW
    have hsel : (decide (r < 0) = true ∧ r < 0) ∨ (decide (r < 0) = false ∧ 0 ≤ r) := by
      by_cases h0 : r < 0
      · exact .inl ⟨by simp; omega, h0⟩
      · exact .inr ⟨by simp; omega, by omega⟩
    rcases hsel with ⟨e0, hr0⟩ | ⟨e0, hr0⟩
    case' inl =>
      rw [e0]
      go_upto_region 16 with (fail)
      refine wp_abs (fun W => SubV w (!m) (.slice ad' k c') (.slice ad n c) W) ?_ ?_
      · have hsz := HW.out.sz
        constructor <;> first | (simp [go_sem, *]; done) | (simp; omega) | (refine bl_set (bl_set (bl_set (bl_set hwb ?_ _) ?_ _) ?_ _) ?_ _ <;> (dsimp only; omega))
      intro W3 hV0
      obtain ⟨ma, ada, na, ca, fa, adb, nb, cb, fb, hV, Da, Db, hna, hle, hzz⟩ : ∃ (ma : Bool) (ada : Option Addr) (na ca : Nat) (fa : Nat → Int) (adb : Option Addr) (nb cb : Nat) (fb : Nat → Int), SubV w ma (.slice ada na ca) (.slice adb nb cb) W3 ∧ Hid (DigAt w ada na ca fa) ∧ Hid (DigAt w adb nb cb fb) ∧ na ≤ 100 ∧ Hid (dval fb nb ≤ dval fa na ∧ dval fb (nb + na) = dval fb nb ∧ nb ≤ na) ∧ Hid (sg m * dval f n + sg (!m) * dval h k = sg ma * (dval fa na - dval fb nb)) :=
        ⟨!m, ad', k, c', h, ad, n, c, f, hV0, D2, D1, hk, ⟨Int.le_of_lt (hs.1 hr0), dval_tail D1.out.hi _, dval_short D2.out.bd D1.out.bd D1.out.top (Int.le_of_lt (hs.1 hr0))⟩, by unfold Hid; cases m <;> simp [sg] <;> omega⟩
    case' inr =>
      rw [e0]
      go_upto_region 16 with (fail)
      refine wp_abs (fun W => SubV w m (.slice ad n c) (.slice ad' k c') W) ?_ ?_
      · exact ⟨HW.out.sz, hwb, g4, g5, g6, g7, g9, p0, p1⟩
      intro W3 hV0
      obtain ⟨ma, ada, na, ca, fa, adb, nb, cb, fb, hV, Da, Db, hna, hle, hzz⟩ : ∃ (ma : Bool) (ada : Option Addr) (na ca : Nat) (fa : Nat → Int) (adb : Option Addr) (nb cb : Nat) (fb : Nat → Int), SubV w ma (.slice ada na ca) (.slice adb nb cb) W3 ∧ Hid (DigAt w ada na ca fa) ∧ Hid (DigAt w adb nb cb fb) ∧ na ≤ 100 ∧ Hid (dval fb nb ≤ dval fa na ∧ dval fb (nb + na) = dval fb nb ∧ nb ≤ na) ∧ Hid (sg m * dval f n + sg (!m) * dval h k = sg ma * (dval fa na - dval fb nb)) :=
        ⟨m, ad, n, c, f, ad', k, c', h, hV0, D1, D2, hn, ⟨hs.2 hr0, dval_tail D2.out.hi _, dval_short D1.out.bd D2.out.bd D2.out.top (hs.2 hr0)⟩, by unfold Hid; cases m <;> simp [sg] <;> omega⟩
    all_goals
      clear hV0 hs g0 g1 g2 g3 g4 g5 g6 g7 g8 g9 p0 p1 p2 p3 p4 p5 hwb HW e0 hr0 D1 D2
      have HV := Lib.hid hV
      have hB := hV.sz
      have HDa : Hid (DigAt W3 ada na ca fa) := Da.out.below hV.hb
      have HDb : Hid (DigAt W3 adb nb cb fb) := Db.out.below hV.hb
      clear hV
      go_wp2
      go_loopw [5, 6, 11] (fun dv cv iv W => SubI W3.heap.size W3 na fa fb dv cv iv W) (fun _ _ iv _ => 102 - (intOf iv).toNat)
      case atStart => exact ⟨[], 0, rfl, rfl, Rw.nil (Nat.le_refl _), bd_nil, .inl rfl, by simp, by simp [lval, dval]⟩
      case round =>
        obtain ⟨ds, cy, rfl, rfl, hR, hB0, hcy, hlen, heq⟩ := hrel
        have hRs := hR.sz
        have HR := Lib.hid hR
        clear hR
        have HB := Lib.hid hB0
        clear hB0
        have HQ := Lib.hid heq
        clear heq
        have c1 : wr.cell? ⟨w.heap.size + 1 + 1 + 1, 1, none⟩ = some (.slice ada na ca) := (HR.out.hb.cell (by dsimp only; omega)).trans HV.out.a1
        by_cases hgo : ds.length < na
        · have b1 : decide ((ds.length : Int) < (na : Int)) = true := by simp; omega
          have c2 : wr.cell? ⟨w.heap.size + 1 + 1 + 1 + 1, 1, none⟩ = some (.slice adb nb cb) := (HR.out.hb.cell (by dsimp only; omega)).trans HV.out.b1
          have hfb := HDa.out.bd ds.length
          have hhb := HDb.out.bd ds.length
          have DB : Hid (DigAt wr adb nb cb fb) := HDb.out.below HR.out.hb
          rcases HDa.out.mem with h0 | ⟨ga, rfl, y1, y2, y3, y4⟩
          · omega
          have c3 : wr.cell? ⟨ga, ds.length, none⟩ = some (.int .i64 (fa ds.length)) := (HR.out.hb.cell (by exact y3)).trans (y4.out _ hgo)
          have hg1 := y3
          clear y4 y3
          have hw1 : IntKind.i64.wrap (fa ds.length - fb ds.length) = fa ds.length - fb ds.length := IntWalk.i64_in _ (by omega)
          have hw2 : IntKind.i64.wrap (fa ds.length - fb ds.length - cy) = fa ds.length - fb ds.length - cy := IntWalk.i64_in _ (by omega)
          go_upto_region 19 with (fail)
          go_cut [12] (fun xv W => xv = .int .i64 (fa ds.length - fb ds.length - cy) ∧ Below wr.heap.size wr W)
          case first =>
            go_region_with (first
              | (go_at_call 59; (with_reducible refine (digit_num (DB.out.below (bl_drew1 _)) ds.length).mono ?_); rintro e w1 ⟨rfl, hb1⟩
                 have c4 : w1.cell? ⟨w.heap.size + 1 + 1 + 1, 1, none⟩ = some (.slice (some ⟨ga, 0, none⟩) na ca) := (hb1.cell (by simp; omega)).trans c1
                 have c5 : w1.cell? ⟨ga, ds.length, none⟩ = some (.int .i64 (fa ds.length)) := (hb1.cell (by simp; omega)).trans c3)
              | fail)
            all_goals
              go_wp2_with fail
              go_meet
              case rel => exact ⟨by first | rfl | simp [hw1, hw2], bl_trans (bl_drew1 _) hb1⟩
          case rest =>
            obtain ⟨rfl, hb⟩ := hcut
            have RW : Hid (Rw W3.heap.size W3 u5 ds wc) := HR.out.kept hb
            have hws := hb.size
            clear c1 c2 c3 DB HR hw1 hw2 HDa HDb HV
            obtain ⟨x, hx, hxb⟩ : ∃ x, x = fa ds.length - fb ds.length - cy ∧ (-65536 ≤ x ∧ x < 65536) := ⟨_, rfl, by omega⟩
            have HX := Lib.hid hx
            rw [← hx]
            clear hx
            obtain ⟨y, bo, hsel⟩ : ∃ y bo : Int, (decide (x < 0) = true ∧ x < 0 ∧ IntKind.i64.wrap (x + 65536) = y ∧ y = x + 65536 ∧ bo = 1) ∨ (decide (x < 0) = false ∧ 0 ≤ x ∧ y = x ∧ bo = 0) := by
              by_cases h0 : x < 0
              · exact ⟨x + 65536, 1, .inl ⟨by simp; omega, h0, IntWalk.i64_in _ (by omega), rfl, rfl⟩⟩
              · exact ⟨x, 0, .inr ⟨by simp; omega, by omega, rfl, rfl⟩⟩
            have hy : Hid (0 ≤ y ∧ y < 65536 ∧ y - bo * 65536 = x ∧ (bo = 0 ∨ bo = 1)) := by unfold Hid; omega
            have hl : ds.length ≤ 101 := by omega
            rcases hsel with ⟨s1, s2, s3, -, s5⟩ | ⟨s1, s2, s3, s5⟩
            case' inl => subst s5
            case' inr => subst s3 s5
            all_goals
              go_wp2_with (first
                | (at_builtin; refine wpList_append_own _ rfl _ _ 55 rfl W3.heap.size 3 i0 (.int .i64 0) 1 8 Tryd.underlying55 hi hz0 hz1 hz2 rfl (by decide) _ _ _ rfl (RW.out.alloc _).own ⟨wc.heap.size, 0, none⟩ 1 1 [.int .i64 y] rfl rfl (cell_one_new _ _ _) (by intro u hu; simp at hu; subst hu; rfl) (by unfold maxLen; omega) (by omega) (by simp; omega) ?_)
                | go_in)
              intro v' w1 hown' hgrow _
              have R : Hid (Rw W3.heap.size W3 v' (ds ++ [y]) w1) := (RW.out.alloc _).more hown' hgrow
              clear hown' hgrow
              go_wp2
              go_roundw
              case rel =>
                have hx := HX.out
                obtain ⟨y0, y1', y2', y3'⟩ := hy.out
                refine ⟨ds ++ [y], _, rfl, by first | rfl | simp, R.out, bd_snoc HB.out y0 y1', by omega, by simp; omega, ?_⟩
                exact sub_step HQ.out hx y2'
              case measure => simp [intOf] <;> omega
        · have hln : ds.length = na := by omega
          have b1 : decide ((ds.length : Int) < (na : Int)) = false := by simp; omega
          have hM : wr.cell? ⟨w.heap.size + 1 + 1 + 1, 0, none⟩ = some (.bool ma) := (HR.out.hb.cell (by dsimp only; omega)).trans HV.out.a0
          have hbW : Hid (Below w.heap.size w wr ∧ wr.frozen? ⟨w.heap.size + 2, 0, none⟩ = false ∧ wr.frozen? ⟨w.heap.size + 2, 1, none⟩ = false ∧ wr.cell? ⟨w.heap.size + 2, 0, none⟩ = some (.bool false) ∧ wr.cell? ⟨w.heap.size + 2, 1, none⟩ = some (.slice none 0 0)) :=
            ⟨bl_trans HV.out.hb HR.out.hb, (HR.out.hb.frozen (by dsimp only; omega)).trans HV.out.f0, (HR.out.hb.frozen (by dsimp only; omega)).trans HV.out.f1, (HR.out.hb.cell (by dsimp only; omega)).trans HV.out.z0, (HR.out.hb.cell (by dsimp only; omega)).trans HV.out.z1⟩
          have hdone : Hid (lval ds = dval fa na - dval fb nb) := by
            have hq := HQ.out
            obtain ⟨q1, q2, q3⟩ := hle.out
            have hl := lval_bound HB.out
            have hfn := dval_ge HDb.out.hi q3
            rw [hln] at hq hl
            unfold Hid
            rcases hcy with rfl | rfl <;> omega
          go_wp2_with fail
          refine (trim_row ma HR.out HB.out).mono ?_
          rintro e w3 ⟨u, rfl, hN, hb3⟩
          obtain ⟨m3, ad3, n3, cap3, f3, rfl, hD3, hm3, hz3⟩ := hN
          have HD := Lib.hid hD3
          clear hD3
          have f0 : w3.frozen? ⟨w.heap.size + 1 + 1, 0, none⟩ = false := (hb3.frozen (by dsimp only; omega)).trans hbW.out.2.1
          have f1 : w3.frozen? ⟨w.heap.size + 1 + 1, 1, none⟩ = false := (hb3.frozen (by dsimp only; omega)).trans hbW.out.2.2.1
          have z0 : w3.cell? ⟨w.heap.size + 1 + 1, 0, none⟩ = some (.bool false) := (hb3.cell (by dsimp only; omega)).trans hbW.out.2.2.2.1
          have z1 : w3.cell? ⟨w.heap.size + 1 + 1, 1, none⟩ = some (.slice none 0 0) := (hb3.cell (by dsimp only; omega)).trans hbW.out.2.2.2.2
          go_wp2
          refine bodyPost_ret (v := .agg #[.bool m3, .slice ad3 n3 cap3]) (by simp [results, Tryd.results47, go_sem, z0, z1]) rfl ⟨_, rfl, ⟨m3, ad3, n3, cap3, f3, rfl, HD.out.res z0 _ _, hm3, by rw [hzz.out, ← hdone.out]; exact hz3⟩, ?_⟩
          have hb5 : Below w.heap.size w w3 := bl_trans hbW.out.1 hb3
          exact bl_set (bl_set hb5 (by dsimp only; omega) _) (by dsimp only; omega) _

theorem plus_c (v u : Value) (z y : Int) (w : World) (h1 : NumIs v z w) (h2 : NumIs u y w) (b1 : -BIG < z ∧ z < BIG) (b2 : -BIG < y ∧ y < BIG) :
    Calls Tryd.prog 47 #[v, u] w fun e w' => ∃ x, e = .returned x ∧ NumIs x (z + y) w' ∧ Below w.heap.size w w' := by
  obtain ⟨m, ad, n, c, f, rfl, d1, -, rfl⟩ := h1
  obtain ⟨m', ad', k, c', h, rfl, d2, -, rfl⟩ := h2
  have l1 := len_of d1 m b1.1 b1.2
  have l2 := len_of d2 m' b2.1 b2.2
  by_cases hm : m' = m
  · subst hm
    rw [← Int.mul_add]
    exact plus_add m' ad ad' n k c c' f h l1 l2 w d1 d2
  · obtain rfl : m' = !m := by cases m <;> cases m' <;> simp_all
    exact plus_sub m ad ad' n k c c' f h l1 l2 w d1 d2
end Go.Proofs.YtdpbmkfgolemjaaDoor

/-
  The document's numbers: Of, Neg, Sign, Cmp, Wide, of what number a Num is.
-/
namespace Go.Proofs.YtdpbmkfgolemjaaDoor
open Go.RowKit

/-- its sign -/
def sgZ (z : Int) : Int := if z < 0 then -1 else if z = 0 then 0 else 1
theorem num_pos {W : World} {ad : Option Addr} {n cap : Nat} {f : Nat → Int} (h : DigAt W ad n cap f) (h0 : n ≠ 0) : 0 < dval f n := by
  have h1 := (dval_bound h.bd n).1
  have h2 := num_zero h
  omega

theorem NumIs.shape {v : Value} {z : Int} {W : World} (h : NumIs v z W) : ∃ (m : Bool) (ad : Option Addr) (n c : Nat), v = .agg #[.bool m, .slice ad n c] := by
  obtain ⟨m, ad, n, c, f, e, -⟩ := h
  exact ⟨m, ad, n, c, e⟩
theorem neg_num (v : Value) (z : Int) (w : World) (h : NumIs v z w) :
    Calls Tryd.prog 61 #[v] w fun e w' => ∃ x, e = .returned x ∧ NumIs x (-z) w' ∧ Below w.heap.size w w' := by
  obtain ⟨m, ad, n, c, f, rfl, d, hm, rfl⟩ := h
  refine (refNeg_c m ad c n w).mono ?_
  rintro e w' ⟨rfl, hb⟩
  refine ⟨_, rfl, ⟨_, ad, n, c, f, rfl, d.below hb, fun h => by simp [h], ?_⟩, hb⟩
  rcases Nat.eq_zero_or_pos n with h | h
  · subst h; simp [dval]
  · cases m <;> simp [sg, h]
theorem sign_num (v : Value) (z : Int) (w : World) (h : NumIs v z w) :
    Calls Tryd.prog 62 #[v] w fun e w' => e = .returned (.int .i64 (sgZ z)) ∧ Below w.heap.size w w' := by
  obtain ⟨m, ad, n, c, f, rfl, d, hm, rfl⟩ := h
  refine (refSign_c m ad c n w).mono ?_
  rintro e w' ⟨rfl, hb⟩
  refine ⟨?_, hb⟩
  rcases Nat.eq_zero_or_pos n with h | h
  · subst h; simp [dval, sgZ]
  · have := num_pos d (by omega)
    rw [if_neg (by omega)]
    cases m
    · rw [show sgZ (sg false * dval f n) = 1 by simp [sg, sgZ]; rw [if_neg (by omega), if_neg (by omega)]]; rfl
    · rw [show sgZ (sg true * dval f n) = -1 by simp [sg, sgZ]; omega]; rfl

set_option maxHeartbeats 1000000 in
set_option maxRecDepth 100000 in
theorem cmp_num (v u : Value) (z y : Int) (w : World) (h1 : NumIs v z w) (h2 : NumIs u y w) (b1 : -BIG < z ∧ z < BIG) (b2 : -BIG < y ∧ y < BIG) :
    Calls Tryd.prog 48 #[v, u] w fun e w' => e = .returned (.int .i64 (sgZ (z - y))) ∧ Below w.heap.size w w' := by
  obtain ⟨m, ad, n, c, rfl⟩ := h1.shape
  obtain ⟨m', ad', n', c', rfl⟩ := h2.shape
  have H1 := Lib.hid h1
  have H2 := Lib.hid h2
  clear h1 h2
  go_enter Tryd.func48, Tryd.ntmps48
  go_upto_region 1 with (fail)
  refine wp_abs (fun W => w.heap.size + 2 ≤ W.heap.size ∧ Below w.heap.size w W ∧ W.cell? ⟨w.heap.size, 0, none⟩ = some (.bool m) ∧ W.cell? ⟨w.heap.size, 1, none⟩ = some (.slice ad n c) ∧ W.cell? ⟨w.heap.size + 1, 0, none⟩ = some (.bool m') ∧ W.cell? ⟨w.heap.size + 1, 1, none⟩ = some (.slice ad' n' c')) ?_ ?_
  · refine ⟨by simp, by repeat (first | (with_reducible exact Below.refl _ _) | (with_reducible refine bl_alloc ?_ _) | (with_reducible refine Below.drew ?_) | (with_reducible refine below_drewN' ?_ _) | ((with_reducible refine bl_set ?_ ?_ _); (rotate_left; (dsimp only; omega)))), ?_, ?_, ?_, ?_⟩ <;> simp [go_sem]
  rintro W ⟨hs, hb, c0, c1, c2, c3⟩
  have HB := Lib.hid hb
  clear hb
  go_region_with (first
    | (go_at_call 61; (with_reducible refine (neg_num _ y _ ((H2.out.below HB.out).below (bl_drew1 _))).mono ?_); rintro e w1 ⟨x, rfl, hN, hb1⟩
       have HN := Lib.hid hN
       clear hN
       have c4 : w1.cell? ⟨w.heap.size, 0, none⟩ = some (.bool m) := (hb1.cell (by simp; omega)).trans c0
       have c5 : w1.cell? ⟨w.heap.size, 1, none⟩ = some (.slice ad n c) := (hb1.cell (by simp; omega)).trans c1
       have H3 := Lib.hid ((H1.out.below HB.out).below (bl_trans (bl_drew1 _) hb1)))
    | (go_at_call 47; (with_reducible refine (plus_c _ x z (-y) w1 H3.out HN.out b1 (by omega)).mono ?_); rintro e w2 ⟨x2, rfl, hN2, hb2⟩
       have HN2 := Lib.hid hN2
       clear hN2)
    | (go_at_call 62; (with_reducible refine (sign_num x2 (z + -y) w2 HN2.out).mono ?_); rintro e w3 ⟨rfl, hb3⟩))
  all_goals
    go_wp2
    exact bodyPost_ret (v := .int .i64 (sgZ (z + -y))) (by simp [results, Tryd.results48, go_sem]) rfl ⟨by rw [Int.sub_eq_add_neg], bl_trans (bl_trans (bl_trans (bl_trans HB.out (bl_drew1 _)) hb1) hb2) hb3⟩

theorem dval_dgt (a b c d : Int) (hA : In4 a b c d) : dval (dgt a b c d) 16 = V4 a b c d := by
  obtain ⟨i0, i1, i2, i3⟩ := hA
  unfold In1 at i0 i1 i2 i3
  have e : ∀ q t, q < 4 → t < 4 → dgt a b c d (4 * q + t) = lim a b c d q / 65536 ^ t % 65536 := fun q t h1 h2 => dgt_at a b c d q t h1 h2
  simp only [dval]
  rw [show dgt a b c d 0 = a / 65536 ^ 0 % 65536 from e 0 0 (by omega) (by omega), show dgt a b c d 1 = a / 65536 ^ 1 % 65536 from e 0 1 (by omega) (by omega), show dgt a b c d 2 = a / 65536 ^ 2 % 65536 from e 0 2 (by omega) (by omega), show dgt a b c d 3 = a / 65536 ^ 3 % 65536 from e 0 3 (by omega) (by omega),
    show dgt a b c d 4 = b / 65536 ^ 0 % 65536 from e 1 0 (by omega) (by omega), show dgt a b c d 5 = b / 65536 ^ 1 % 65536 from e 1 1 (by omega) (by omega), show dgt a b c d 6 = b / 65536 ^ 2 % 65536 from e 1 2 (by omega) (by omega), show dgt a b c d 7 = b / 65536 ^ 3 % 65536 from e 1 3 (by omega) (by omega),
    show dgt a b c d 8 = c / 65536 ^ 0 % 65536 from e 2 0 (by omega) (by omega), show dgt a b c d 9 = c / 65536 ^ 1 % 65536 from e 2 1 (by omega) (by omega), show dgt a b c d 10 = c / 65536 ^ 2 % 65536 from e 2 2 (by omega) (by omega), show dgt a b c d 11 = c / 65536 ^ 3 % 65536 from e 2 3 (by omega) (by omega),
    show dgt a b c d 12 = d / 65536 ^ 0 % 65536 from e 3 0 (by omega) (by omega), show dgt a b c d 13 = d / 65536 ^ 1 % 65536 from e 3 1 (by omega) (by omega), show dgt a b c d 14 = d / 65536 ^ 2 % 65536 from e 3 2 (by omega) (by omega), show dgt a b c d 15 = d / 65536 ^ 3 % 65536 from e 3 3 (by omega) (by omega)]
  have k : ∀ x : Int, 0 ≤ x ∧ x < 18446744073709551616 → x / 65536 ^ 0 % 65536 + x / 65536 ^ 1 % 65536 * 65536 + x / 65536 ^ 2 % 65536 * 4294967296 + x / 65536 ^ 3 % 65536 * 281474976710656 = x := by
    intro x hx
    simp only [show (65536 : Int) ^ 3 = 281474976710656 from rfl, show (65536 : Int) ^ 2 = 4294967296 from rfl, show (65536 : Int) ^ 1 = 65536 from rfl, show (65536 : Int) ^ 0 = 1 from rfl]
    omega
  have ka := k a i0
  have kb := k b i1
  have kc := k c i2
  have kd := k d i3
  generalize a / 65536 ^ 0 % 65536 = a0 at *
  generalize a / 65536 ^ 1 % 65536 = a1 at *
  generalize a / 65536 ^ 2 % 65536 = a2 at *
  generalize a / 65536 ^ 3 % 65536 = a3 at *
  generalize b / 65536 ^ 0 % 65536 = b0 at *
  generalize b / 65536 ^ 1 % 65536 = b1 at *
  generalize b / 65536 ^ 2 % 65536 = b2 at *
  generalize b / 65536 ^ 3 % 65536 = b3 at *
  generalize c / 65536 ^ 0 % 65536 = c0 at *
  generalize c / 65536 ^ 1 % 65536 = c1 at *
  generalize c / 65536 ^ 2 % 65536 = c2 at *
  generalize c / 65536 ^ 3 % 65536 = c3 at *
  generalize d / 65536 ^ 0 % 65536 = d0 at *
  generalize d / 65536 ^ 1 % 65536 = d1 at *
  generalize d / 65536 ^ 2 % 65536 = d2 at *
  generalize d / 65536 ^ 3 % 65536 = d3 at *
  unfold V4
  omega

end Go.Proofs.YtdpbmkfgolemjaaDoor
