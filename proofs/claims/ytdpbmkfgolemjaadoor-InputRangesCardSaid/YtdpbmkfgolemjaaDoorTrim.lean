/-
  Contracts of the document's side: trim.
-/
import Derived.Test.YtdpbmkfgolemjaaDoorLows
import Derived.Deep.QuietTactic
import Derived.BigQuiet
set_option linter.unusedVariables false
set_option linter.unusedSimpArgs false
set_option linter.deprecated false
namespace Go.Proofs.YtdpbmkfgolemjaaDoor
open Go.RowKit

/-- n is where the digits end, without noughts behind -/
def TrimAt (ds : List Int) (n : Nat) : Prop :=
  n ≤ ds.length ∧ (∀ j, n ≤ j → j < ds.length → ds.getD j 0 = 0) ∧ (n = 0 ∨ ds.getD (n - 1) 0 ≠ 0)

def TrimP (m : Bool) (v : Option Addr) (c : Nat) (ds : List Int) (w : World) (e : Ending) (w' : World) : Prop :=
  ∃ n : Nat, TrimAt ds n ∧ e = .returned (.agg #[.bool (m && decide (0 < n)), .slice v n c]) ∧ Below w.heap.size w w'

set_option maxHeartbeats 1000000 in
set_option maxRecDepth 100000 in
theorem trim_some (m : Bool) (g c : Nat) (ds : List Int) (hc : ds.length ≤ c) (hcm : c ≤ 9223372036854775807) (w : World) (hgw : g < w.heap.size) (hcell : ∀ j, j < ds.length → w.cell? ⟨g, j, none⟩ = some (.int .i64 (ds.getD j 0))) :
    Calls Tryd.prog 35 #[.bool m, .slice (some ⟨g, 0, none⟩) ds.length c] w (TrimP m (some ⟨g, 0, none⟩) c ds w) := by
  have HC := hid_mk hcell
  clear hcell
  go_enter Tryd.func35, Tryd.ntmps35
  go_wp2
  go_loopw [5] (fun kv W => ∃ k : Nat, kv = .int .i64 k ∧ k ≤ ds.length ∧ Hid (∀ j, k ≤ j → j < ds.length → ds.getD j 0 = 0) ∧ W = w.alloc (.cells #[.bool false, .slice none 0 0] 57)) (fun kv _ => (intOf kv).toNat)
  case atStart => exact ⟨ds.length, rfl, by omega, fun j h1 h2 => absurd h2 (by omega), rfl⟩
  case round =>
    obtain ⟨k, rfl, hk, hz, rfl⟩ := hrel
    by_cases h0 : k = 0
    · subst h0
      cases m
      all_goals
        go_wp2
        exact bodyPost_ret (v := .agg #[.bool false, .slice (some ⟨g, 0, none⟩) 0 c]) (by simp [results, Tryd.results35, go_sem]) rfl ⟨0, ⟨by omega, hz.out, .inl rfl⟩, rfl, by repeat (first | (with_reducible exact Below.refl _ _) | (with_reducible refine bl_alloc ?_ _) | (with_reducible refine Below.drew ?_) | (with_reducible refine below_drewN' ?_ _) | ((with_reducible refine bl_set ?_ ?_ _); (rotate_left; (dsimp only; omega))))⟩
    · obtain ⟨i, rfl⟩ : ∃ i, k = i + 1 := ⟨k - 1, by omega⟩
      have hck : (w.alloc (.cells #[.bool false, .slice none 0 0] 57)).cell? ⟨g, i, none⟩ = some (.int .i64 (ds.getD i 0)) := by
        rw [← HC.out i (by omega)]; exact World.cell?_alloc_past _ _ _ hgw
      obtain ⟨x, hx, HX⟩ : ∃ x, ds.getD i 0 = x ∧ Hid (ds.getD i 0 = x) := ⟨_, rfl, rfl⟩
      rw [hx] at hck
      clear hx
      by_cases hx0 : x = 0
      · subst hx0
        go_wp2
        go_roundw
        case rel =>
          refine ⟨i, by first | rfl | (congr 1; omega), by omega, ?_, by first | rfl | trivial⟩
          intro j h1 h2
          rcases Nat.eq_or_lt_of_le h1 with h | h
          · subst h; exact HX.out
          · exact hz.out j h h2
        case measure => simp [intOf] <;> omega
      · have hx1 : (x == 0) = false := by simp; exact hx0
        have hi1 : decide ((0 : Int) < ((i + 1 : Nat) : Int)) = true := by simp <;> omega
        cases m
        · go_wp2
          exact bodyPost_ret (v := .agg #[.bool false, .slice (some ⟨g, 0, none⟩) (i + 1) c]) (by simp [results, Tryd.results35, go_sem]) rfl ⟨i + 1, ⟨by omega, hz.out, .inr (by rw [Nat.add_sub_cancel, HX.out]; exact hx0)⟩, rfl, by repeat (first | (with_reducible exact Below.refl _ _) | (with_reducible refine bl_alloc ?_ _) | (with_reducible refine Below.drew ?_) | (with_reducible refine below_drewN' ?_ _) | ((with_reducible refine bl_set ?_ ?_ _); (rotate_left; (dsimp only; omega))))⟩
        · go_wp2
          exact bodyPost_ret (v := .agg #[.bool true, .slice (some ⟨g, 0, none⟩) (i + 1) c]) (by simp [results, Tryd.results35, go_sem]) rfl ⟨i + 1, ⟨by omega, hz.out, .inr (by rw [Nat.add_sub_cancel, HX.out]; exact hx0)⟩, by simp, by repeat (first | (with_reducible exact Below.refl _ _) | (with_reducible refine bl_alloc ?_ _) | (with_reducible refine Below.drew ?_) | (with_reducible refine below_drewN' ?_ _) | ((with_reducible refine bl_set ?_ ?_ _); (rotate_left; (dsimp only; omega))))⟩

set_option maxHeartbeats 1000000 in
set_option maxRecDepth 100000 in
theorem trim_nil (m : Bool) (w : World) :
    Calls Tryd.prog 35 #[.bool m, .slice none 0 0] w (TrimP m none 0 [] w) := by
  go_enter Tryd.func35, Tryd.ntmps35
  go_wp2
  refine wp_loop_rounds 1 ?_
  rw [rounds_succ]
  cases m
  all_goals
    go_wp2
    exact bodyPost_ret (v := .agg #[.bool false, .slice none 0 0]) (by simp [results, Tryd.results35, go_sem]) rfl ⟨0, ⟨by simp, fun j h1 h2 => absurd h2 (by simp), .inl rfl⟩, rfl, by repeat (first | (with_reducible exact Below.refl _ _) | (with_reducible refine bl_alloc ?_ _) | (with_reducible refine Below.drew ?_) | (with_reducible refine below_drewN' ?_ _) | ((with_reducible refine bl_set ?_ ?_ _); (rotate_left; (dsimp only; omega))))⟩
end Go.Proofs.YtdpbmkfgolemjaaDoor
