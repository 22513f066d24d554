/-
  Contract of the document's side: size.
-/
import Derived.Test.YtkidphekfnmhhaaRefSmall
namespace Go.Proofs.Ytkidphekfnmhhaa
open Go.RowKit

/-- what size answers of the digits f (n of them) and h (k of them) -/
def SizeIs (f h : Nat → Int) (n k : Nat) (r : Int) : Prop :=
  (n ≠ k ∧ r = (n : Int) - k) ∨ (n = k ∧ ∃ i, i < n ∧ f i ≠ h i ∧ (∀ j, i < j → j < n → f j = h j) ∧ r = f i - h i) ∨ (n = k ∧ (∀ j, j < n → f j = h j) ∧ r = 0)

set_option maxHeartbeats 1000000 in
set_option maxRecDepth 100000 in
theorem size_ne (ad ad' : Option Addr) (c c' n k : Nat) (f h : Nat → Int) (hn : n ≤ 9223372036854775807) (hk : k ≤ 9223372036854775807) (hne : n ≠ k) (w : World) :
    Calls Try.prog 71 #[.slice ad n c, .slice ad' k c'] w fun e w' => ∃ r, SizeIs f h n k r ∧ e = .returned (.int .i64 r) ∧ Below w.heap.size w w' := by
  have h1 : ((n : Int) == (k : Int)) = false := by simp; omega
  go_enter Try.func71, Try.ntmps71
  go_wp2
  go_ret
  exact ⟨_, .inl ⟨hne, rfl⟩, rfl, by repeat (first | (with_reducible exact Below.refl _ _) | (with_reducible refine bl_alloc ?_ _) | (with_reducible refine Below.drew ?_) | (with_reducible refine below_drewN' ?_ _) | ((with_reducible refine bl_set ?_ ?_ _); (rotate_left; (dsimp only; omega))))⟩

set_option maxHeartbeats 1000000 in
set_option maxRecDepth 100000 in
theorem size_eq (g g' c c' n : Nat) (f h : Nat → Int) (hf : ∀ j, 0 ≤ f j ∧ f j < 65536) (hh : ∀ j, 0 ≤ h j ∧ h j < 65536) (hc : n ≤ c) (_hc' : n ≤ c') (hcm : c ≤ 9223372036854775807) (_hcm' : c' ≤ 9223372036854775807) (w : World) (hg : g < w.heap.size) (hg' : g' < w.heap.size)
    (h1 : Hid (∀ j, j < n → w.cell? ⟨g, j, none⟩ = some (.int .i64 (f j)))) (h2 : Hid (∀ j, j < n → w.cell? ⟨g', j, none⟩ = some (.int .i64 (h j)))) :
    Calls Try.prog 71 #[.slice (some ⟨g, 0, none⟩) n c, .slice (some ⟨g', 0, none⟩) n c'] w fun e w' => ∃ r, SizeIs f h n n r ∧ e = .returned (.int .i64 r) ∧ Below w.heap.size w w' := by
  have HF := hid_mk hf
  have HH := hid_mk hh
  clear hf hh
  go_enter Try.func71, Try.ntmps71
  go_wp2
  go_loopw [5] (fun iv W => ∃ r : Nat, iv = .int .i64 ((r : Int) - 1) ∧ r ≤ n ∧ Hid (∀ j, r ≤ j → j < n → f j = h j) ∧ Below w.heap.size w W) (fun iv _ => ((intOf iv) + 1).toNat)
  case atStart => exact ⟨n, rfl, by omega, fun j a b => absurd b (by omega), Below.refl _ _⟩
  case round =>
    obtain ⟨r, rfl, hr, he, hb⟩ := hrel
    by_cases h0 : r = 0
    · subst h0
      go_wp2
      go_ret
      exact ⟨0, .inr (.inr ⟨rfl, fun j hj => he.out j (by omega) hj, rfl⟩), rfl, hb⟩
    · obtain ⟨i, rfl⟩ : ∃ i, r = i + 1 := ⟨r - 1, by omega⟩
      have c1 : wr.cell? ⟨g, i, none⟩ = some (.int .i64 (f i)) := (hb.cell (by exact hg)).trans (h1.out i (by omega))
      have c2 : wr.cell? ⟨g', i, none⟩ = some (.int .i64 (h i)) := (hb.cell (by exact hg')).trans (h2.out i (by omega))
      have e1 : (((i + 1 : Nat) : Int) - 1) = (i : Int) := by omega
      rw [e1]
      have b1 := HF.out i
      have b2 := HH.out i
      by_cases hx : f i = h i
      · have hx1 : (f i == h i) = true := by simp; exact hx
        go_wp2
        go_region_with (fail)
        all_goals
          go_wp2
          go_roundw
          case rel =>
            refine ⟨i, by first | rfl | (congr 1; omega), by omega, ?_, by first | exact hb.drew | exact hb | exact hb.drew.drew⟩
            intro j a b
            rcases Nat.eq_or_lt_of_le a with e | e
            · subst e; exact hx
            · exact he.out j e b
          case measure => simp [intOf] <;> omega
      · have hx1 : (f i == h i) = false := by simp; exact hx
        have hw : wrap64 (f i - h i) = f i - h i := by unfold wrap64; omega
        have hw' : IntKind.i64.wrap (f i - h i) = f i - h i := IntWalk.i64_in _ (by omega)
        go_wp2
        go_region_with (fail)
        all_goals go_wp2
        all_goals go_region_with (fail)
        all_goals
          go_wp2
          refine bodyPost_ret (v := .int .i64 (f i - h i)) (by simp [results, Try.results71, go_sem]) rfl ?_
          exact ⟨f i - h i, .inr (.inl ⟨rfl, i, by omega, hx, fun j a b => he.out j a b, rfl⟩), rfl, by first | exact hb.drew.drew | exact hb.drew | exact hb⟩

set_option maxHeartbeats 1000000 in
set_option maxRecDepth 100000 in
theorem size_zero (ad ad' : Option Addr) (c c' : Nat) (f h : Nat → Int) (w : World) :
    Calls Try.prog 71 #[.slice ad 0 c, .slice ad' 0 c'] w fun e w' => ∃ r, SizeIs f h 0 0 r ∧ e = .returned (.int .i64 r) ∧ Below w.heap.size w w' := by
  go_enter Try.func71, Try.ntmps71
  go_wp2
  refine wp_loop_rounds 1 ?_
  rw [rounds_succ]
  go_wp2
  go_ret
  exact ⟨0, .inr (.inr ⟨rfl, fun j hj => absurd hj (by omega), rfl⟩), rfl, by repeat (first | (with_reducible exact Below.refl _ _) | (with_reducible refine bl_alloc ?_ _) | (with_reducible refine Below.drew ?_) | (with_reducible refine below_drewN' ?_ _) | ((with_reducible refine bl_set ?_ ?_ _); (rotate_left; (dsimp only; omega))))⟩
end Go.Proofs.Ytkidphekfnmhhaa
