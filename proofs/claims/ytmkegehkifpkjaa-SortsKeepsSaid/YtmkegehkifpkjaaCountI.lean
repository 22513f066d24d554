/-
  How often a number is among some.
-/
import Derived.Deep.Cut
import Derived.Test.YtmkegehkifpkjaaSMem
namespace Go.Proofs.Ytmkegehkifpkjaa
open Go.RowKit

/-- how often a number is in a row -/
def cnt (L : List Int) (n : Int) : Nat := L.countP fun x => decide (x = n)
theorem cnt_snoc (L : List Int) (n : Int) {k : Nat} (h : k < L.length) : cnt (L.take (k + 1)) n = cnt (L.take k) n + if L[k] = n then 1 else 0 := by
  unfold cnt
  rw [List.take_succ_eq_append_getElem h, List.countP_append, List.countP_cons, List.countP_nil]
  simp
theorem cnt_le (L : List Int) (n : Int) : cnt L n ≤ L.length := List.countP_le_length
set_option maxHeartbeats 8000000 in
set_option maxRecDepth 100000 in
theorem count_l (A : List Int) (n : Int) (ada : Option Addr) (ca na : Nat) (w : World) (hA : IntRow w ada A) (ea : na = A.length) (hla : A.length ≤ 90000) :
    Calls Try.prog 28 #[.slice ada na ca, .int .i64 n] w (Gives (.int .i64 (cnt A n : Nat)) w) := by
  subst ea
  have HA := Lib.hid hA
  clear hA
  go_enter Try.func28, Try.ntmps28
  go_wp2_with fail
  go_loopw [5, 6] (fun cv iv W => ∃ k c : Nat, k ≤ A.length ∧ iv = .int .i64 k ∧ cv = .int .i64 c ∧ c = cnt (A.take k) n ∧ Below w.heap.size w W) (fun _ iv _ => A.length - (intOf iv).toNat)
  case atStart => exact ⟨0, 0, Nat.zero_le _, rfl, rfl, by simp [cnt], Below.refl _ _⟩
  case round =>
    obtain ⟨k, c, hkl, rfl, rfl, hc, hW⟩ := hrel
    have HC := Lib.hid hc
    have HW := Lib.hid hW
    have hcl : c ≤ A.length := by
      have := cnt_le (A.take k) n
      rw [List.length_take] at this
      omega
    clear hc hW
    by_cases hk : k < A.length
    · have b2 : ((k : Int) < (A.length : Int)) = True := eq_true (by omega)
      have d2 : (k < A.length) = True := eq_true hk
      have c2 : ((0 : Int) ≤ (k : Int)) = True := eq_true (by omega)
      obtain ⟨x, hx⟩ : ∃ x, A[k] = x := ⟨_, rfl⟩
      obtain ⟨g1, o1, rfl⟩ := HA.out.some (by omega)
      have k0 := intRow_at (HA.out.below HW.out) hk hx
      have HS := Lib.hid (cnt_snoc A n hk)
      rw [hx] at HS
      clear hx
      by_cases hxn : x = n
      · subst hxn
        rw [if_pos rfl] at HS
        go_upto_region 6 with (fail)
        obtain ⟨n1, n2, n3, n4⟩ := wnum (i := c) (by omega)
        go_upto_region 4 with (fail)
        clear n1 n2 n3 n4
        obtain ⟨m1, m2, m3, m4⟩ := wnum (i := k) (by omega)
        go_wp2_with fail
        clear m1 m2 m3 m4
        exact ⟨⟨k + 1, c + 1, hk, by rw [Int.natCast_add]; rfl, by rw [Int.natCast_add]; rfl, by rw [HS.out, HC.out], HW.out⟩, by simp [intOf]; omega⟩
      · rw [if_neg hxn] at HS
        have b3 : (x = n) = False := eq_false hxn
        obtain ⟨m1, m2, m3, m4⟩ := wnum (i := k) (by omega)
        go_wp2_with fail
        clear m1 m2 m3 m4
        exact ⟨⟨k + 1, c, hk, by rw [Int.natCast_add]; rfl, rfl, by rw [HS.out, HC.out]; rfl, HW.out⟩, by simp [intOf]; omega⟩
    · obtain rfl : k = A.length := by omega
      have b2 : ((A.length : Int) < (A.length : Int)) = False := eq_false (by omega)
      go_wp2_with fail
      go_ret
      exact ⟨by rw [HC.out, List.take_length]; rfl, HW.out⟩
end Go.Proofs.Ytmkegehkifpkjaa
