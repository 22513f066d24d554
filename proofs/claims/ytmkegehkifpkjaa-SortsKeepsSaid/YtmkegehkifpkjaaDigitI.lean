/-
  A number's last digit; the two relations of law 7.
-/
import Derived.Test.YtmkegehkifpkjaaMergeI
namespace Go.Proofs.Ytmkegehkifpkjaa
open Go.RowKit

/-- a number's last digit, without its sign -/
def dig (n : Int) : Int := if Int.tmod n 10 < 0 then -(Int.tmod n 10) else Int.tmod n 10
theorem tmod_in (n : Int) : -9 ≤ Int.tmod n 10 ∧ Int.tmod n 10 ≤ 9 := by
  have h1 := Int.tmod_lt_of_pos n (b := 10) (by decide)
  have h2 := Int.lt_tmod_of_pos n (b := 10) (by decide)
  omega
theorem dig_in (n : Int) : 0 ≤ dig n ∧ dig n ≤ 9 := by
  have := tmod_in n
  unfold dig
  split <;> omega
def ltD (a b : Int) : Bool := decide (dig a < dig b)
def allD (_ _ : Int) : Bool := true
set_option maxRecDepth 100000 in
theorem digit_l (n : Int) (w : World) : Calls Try.prog 26 #[.int .i64 n] w (Gives (.int .i64 (dig n)) w) := by
  have HD : Hid (dig n = if Int.tmod n 10 < 0 then -(Int.tmod n 10) else Int.tmod n 10) := rfl
  have hr := tmod_in n
  generalize dig n = d at *
  obtain ⟨r, hr0⟩ : ∃ r, Int.tmod n 10 = r := ⟨_, rfl⟩
  rw [hr0] at HD hr
  have w1 : wrap64 r = r := by unfold wrap64; omega
  have w2 : IntKind.i64.wrap r = r := IntWalk.i64_in _ (by omega)
  go_enter Try.func26, Try.ntmps26
  by_cases h : r < 0
  · have b : (r < 0) = True := eq_true h
    have w3 : wrap64 (-r) = -r := by unfold wrap64; omega
    have w4 : IntKind.i64.wrap (-r) = -r := IntWalk.i64_in _ (by omega)
    obtain rfl : d = -r := by rw [HD.out, if_pos h]
    clear HD h hr
    go_wp2_with fail
    go_ret
    exact ⟨rfl, Below.refl _ _⟩
  · have b : (r < 0) = False := eq_false h
    obtain rfl : d = r := by rw [HD.out, if_neg h]
    clear HD h hr
    go_wp2_with fail
    go_ret
    exact ⟨rfl, Below.refl _ _⟩
set_option maxRecDepth 100000 in
theorem digits_l (a b : Int) (w : World) : Calls Try.prog 23 #[.int .i64 a, .int .i64 b] w (Gives (.bool (ltD a b)) w) := by
  have H1 := Lib.hid (fun W => digit_l a W)
  have H2 := Lib.hid (fun W => digit_l b W)
  have HD : Hid (ltD a b = decide (dig a < dig b)) := rfl
  generalize ltD a b = r at *
  generalize dig a = x at *
  generalize dig b = y at *
  go_enter Try.func23, Try.ntmps23
  go_wp2_with fail
  (with_reducible refine (H1.out _).mono ?_); rintro e w1 ⟨rfl, hb1⟩
  go_wp2_with fail
  (with_reducible refine (H2.out _).mono ?_); rintro e w2 ⟨rfl, hb2⟩
  have HB := Lib.hid (bl_trans hb1 hb2)
  clear hb1 hb2
  go_wp2_with fail
  go_ret
  exact ⟨by rw [HD.out]; rfl, HB.out⟩
set_option maxRecDepth 100000 in
theorem always_l (a b : Int) (w : World) : Calls Try.prog 27 #[.int .i64 a, .int .i64 b] w (Gives (.bool true) w) := by
  go_enter Try.func27, Try.ntmps27
  go_wp2_with fail
  go_ret
  exact ⟨rfl, Below.refl _ _⟩
theorem ask_digits (w : World) : AsksI 23 #[] ltD (fun _ => True) w := fun x y W _ _ _ => digits_l x y W
theorem ask_always (w : World) : AsksI 27 #[] allD (fun _ => True) w := fun x y W _ _ _ => always_l x y W
end Go.Proofs.Ytmkegehkifpkjaa
