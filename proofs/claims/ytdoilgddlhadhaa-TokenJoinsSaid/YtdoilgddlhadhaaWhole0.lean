/-
  What walks over words in memory want.
-/
import Derived.Test.YtdoilgddlhadhaaWholeMath
import Derived.Test.YtdoilgddlhadhaaTCuts
import Derived.Test.YtdoilgddlhadhaaVars
namespace Go.Proofs.Ytdoilgddlhadhaa
open Go.RowKit

set_option maxHeartbeats 1000000 in
set_option maxRecDepth 100000 in
theorem blank_l (c : Int) (w : World) : Calls Try.prog 20 #[.int .u8 c] w fun e w' => e = .returned (.bool (blankZ c)) ∧ w = w' := by
  by_cases h1 : c = 32
  · subst h1
    go_enter Try.func20, Try.ntmps20
    go_wp2
    go_ret
    exact ⟨rfl, rfl⟩
  by_cases h2 : c = 9
  · subst h2
    go_enter Try.func20, Try.ntmps20
    go_wp2
    go_ret
    exact ⟨rfl, rfl⟩
  by_cases h3 : c = 13
  · subst h3
    go_enter Try.func20, Try.ntmps20
    go_wp2
    go_ret
    exact ⟨rfl, rfl⟩
  by_cases h4 : c = 10
  · subst h4
    go_enter Try.func20, Try.ntmps20
    go_wp2
    go_ret
    exact ⟨rfl, rfl⟩
  have HB : Hid (blankZ c = false) := by unfold Hid blankZ; simp [h1, h2, h3, h4]
  have b1 : (c == 32) = false := by simp [h1]
  have b2 : (c == 9) = false := by simp [h2]
  have b3 : (c == 13) = false := by simp [h3]
  have b4 : (c == 10) = false := by simp [h4]
  go_enter Try.func20, Try.ntmps20
  go_wp2
  go_ret
  exact ⟨by rw [HB.out]; first | rfl | simp, by first | rfl | trivial⟩


theorem tokCells_at {W : World} {gt ot : Nat} {ts : List (Nat × ByteArray)} (h : TokCells W (some ⟨gt, ot, none⟩) ts) {i : Nat} (hi : i < ts.length) {a : Nat} {t : ByteArray} (e : ts[i] = (a, t)) :
    W.cell? ⟨gt, ot + i * 2, none⟩ = some (.int .i64 (a : Int)) ∧ W.cell? ⟨gt, ot + i * 2 + 1, none⟩ = some (.string t) := by
  obtain ⟨g, o, e1, h1, h2⟩ := h i hi
  injection e1 with e1
  injection e1 with e2 e3
  subst e2 e3
  rw [e] at h1 h2
  exact ⟨h1, h2⟩
theorem bytes_at {W : World} {g o : Nat} {s : ByteArray} (h : BytesIn W (some ⟨g, o, none⟩) s) {i : Nat} (hi : i < s.size) {c : Nat} (e : (s[i]'hi).toNat = c) : W.cell? ⟨g, o + i, none⟩ = some (.int .u8 (c : Int)) := by
  obtain ⟨g', o', e1, h1⟩ := h i hi
  injection e1 with e1
  injection e1 with e2 e3
  subst e2 e3
  rw [e] at h1
  exact h1
theorem wnum {i : Nat} (hi : i ≤ 10000) : wrap64 (i : Int) = (i : Int) ∧ IntKind.i64.wrap (i : Int) = (i : Int) ∧ wrap64 ((i : Int) + 1) = (i : Int) + 1 ∧ IntKind.i64.wrap ((i : Int) + 1) = (i : Int) + 1 :=
  ⟨by unfold wrap64; omega, IntWalk.i64_in _ (by omega), by unfold wrap64; omega, IntWalk.i64_in _ (by omega)⟩
theorem wsum {a n : Nat} (h : a + n ≤ 10000) : wrap64 ((a : Int) + (n : Int)) = (a : Int) + (n : Int) ∧ IntKind.i64.wrap ((a : Int) + (n : Int)) = (a : Int) + (n : Int) :=
  ⟨by unfold wrap64; omega, IntWalk.i64_in _ (by omega)⟩

end Go.Proofs.Ytdoilgddlhadhaa
