/-
  The law's ring.
-/
import Derived.Test.YtkidphekfnmhhaaWKnown
namespace Go.Proofs.Ytkidphekfnmhhaa
open Go.RowKit

/-- a loop's segments -/
def ringL (n : Nat) : List Pt := (List.range n).map fun i : Nat => ⟨(i : Int), (((i + 1) % n : Nat) : Int)⟩
theorem ringL_len (n : Nat) : (ringL n).length = n := by simp [ringL]
theorem ringL_at {n i : Nat} (h : i < n) : pget (ringL n) i = ⟨(i : Int), (((i + 1) % n : Nat) : Int)⟩ := by
  unfold pget ringL
  simp [List.getD, h]
theorem ringL_snoc {n i : Nat} (h : i < n) : (ringL n).take (i + 1) = (ringL n).take i ++ [⟨(i : Int), (((i + 1) % n : Nat) : Int)⟩] := by
  rw [List.take_succ_eq_append_getElem (by rw [ringL_len]; exact h)]
  simp [ringL]
set_option maxHeartbeats 8000000 in
set_option maxRecDepth 100000 in
theorem ring9_l (n : Nat) (ap : Option Addr) (cp : Nat) (w : World) (hn : n ≤ 10000) :
    Calls Try.prog 22 #[.slice ap n cp] w fun e w' => ∃ v, e = .returned v ∧ Op 51 w v (ringL n) w' := by
  go_enter Try.func22, Try.ntmps22
  go_wp2_with fail
  go_loopw [3, 4] (fun v iv W => ∃ i : Nat, i ≤ n ∧ iv = .int .i64 i ∧ Op 51 w v ((ringL n).take i) W) (fun _ iv _ => n - (intOf iv).toNat)
  case atStart => exact ⟨0, Nat.zero_le _, rfl, by rw [List.take_zero]; exact op_nil _ w⟩
  case round =>
    obtain ⟨i, hi, rfl, hO⟩ := hrel
    have HO := Lib.hid hO
    clear hO
    by_cases hil : i < n
    · have q1 : ((i : Int) < (n : Int)) = True := eq_true (by omega)
      have q2 : (i < n) = True := eq_true hil
      have q3 : ((0 : Int) ≤ (i : Int)) = True := eq_true (by omega)
      obtain ⟨k, hk⟩ : ∃ k, (i + 1) % n = k := ⟨_, rfl⟩
      have hkl : k < n := by rw [← hk]; exact Nat.mod_lt _ (by omega)
      have q4 : ((n : Int) = 0) = False := eq_false (by omega)
      have q5 : ((n : Int) == 0) = false := beq_eq_false_iff_ne.2 (by omega)
      have q6 : ((i : Int) + 1).tmod (n : Int) = (k : Int) := by rw [← hk]; rfl
      have HS : Hid ((ringL n).take (i + 1) = (ringL n).take i ++ [⟨(i : Int), (k : Int)⟩]) := by rw [ringL_snoc hil, hk]; exact rfl
      have hll : ((ringL n).take i).length ≤ 10000 := by
        rw [List.length_take, ringL_len]
        omega
      clear hk
      obtain ⟨m1, m2, m3, m4⟩ := wnum (i := i) (by omega)
      obtain ⟨m5, m6, -, -⟩ := wnum (i := k) (by omega)
      go_wp2_with (at_builtin; refine app_pts rfl Try.underlying23 info_eseg _ _ rfl rfl (HO.out.alloc _) rfl (L := [⟨(i : Int), (k : Int)⟩]) rfl (ptRow_new _ ⟨(i : Int), (k : Int)⟩ _) (fun h => by cases h) ?x1 ?_)
      case x1 => simp only [List.length_singleton]; omega
      intro v1 w1 hO1
      rw [← HS.out] at hO1
      have HO1 := Lib.hid hO1
      obtain ⟨ad1, cp1, rfl, -, -, -⟩ := hO1.slice
      clear hO1 HO
      go_wp2_with fail
      clear m1 m2 m3 m4 m5 m6
      exact ⟨⟨i + 1, hil, by rw [Int.natCast_add]; rfl, HO1.out⟩, by simp [intOf]; omega⟩
    · obtain rfl : i = n := by omega
      have q1 : ((i : Int) < (i : Int)) = False := eq_false (by omega)
      rw [List.take_of_length_le (by rw [ringL_len]; exact Nat.le_refl _)] at HO
      go_wp2_with fail
      go_ret
      exact ⟨_, rfl, HO.out⟩
end Go.Proofs.Ytkidphekfnmhhaa
