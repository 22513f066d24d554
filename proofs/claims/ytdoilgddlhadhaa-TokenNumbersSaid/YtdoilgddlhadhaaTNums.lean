/-
  The walk of the law TokenNumbers.
-/
import Derived.Test.YtdoilgddlhadhaaRefNumW
import Derived.Test.YtdoilgddlhadhaaTokKnown
namespace Go.Proofs.Ytdoilgddlhadhaa
open Go.RowKit

theorem numSpec_one {l : List Int} {most v er v' er' : Int} (h : NumSpec l most v er) (k : NumSpec l most v' er') : v = v' ∧ er = er' := by
  rcases h with ⟨rfl, rfl, h⟩ | ⟨rfl, rfl, h, h2⟩ | ⟨rfl, h, h2, rfl⟩ <;> rcases k with ⟨rfl, rfl, k⟩ | ⟨rfl, rfl, k, k2⟩ | ⟨rfl, k, k2, rfl⟩
  · exact ⟨rfl, rfl⟩
  · exact absurd k h
  · exact absurd k h
  · exact absurd h k
  · exact ⟨rfl, rfl⟩
  · omega
  · exact absurd h k
  · omega
  · exact ⟨rfl, rfl⟩
set_option maxHeartbeats 4000000 in
set_option maxRecDepth 100000 in
theorem tnums_l (s : ByteArray) (most : Int) (hm : -9223372036854775808 ≤ most ∧ most ≤ 9223372036854775807) (w : World) : Calls Try.prog 5 #[.string s, .int .i64 most] w (Gives (.bool true) w) := by
  have K := hi (fun W => known_c W)
  go_enter Try.func5, Try.ntmps5
  rcases Nat.lt_or_ge 200 s.size with h | h
  · have b1 : ((200 : Int) < (s.size : Int)) = True := by simp; omega
    go_wp2_with fail
    (with_reducible refine (K.out _).mono ?_); rintro e w1 ⟨rfl, hb1⟩
    go_wp2
    go_ret
    exact ⟨rfl, by repeat (first | (with_reducible exact Below.refl _ _) | (with_reducible refine bl_alloc ?_ _) | (with_reducible refine Below.drew ?_) | (with_reducible refine below_drewN' ?_ _) | (with_reducible refine bl_trans ?_ hb1) | ((with_reducible refine bl_set ?_ ?_ _); (rotate_left; (dsimp only; omega))))⟩
  · have b1 : ((200 : Int) < (s.size : Int)) = False := by simp; omega
    have C1 := hi (fun W => number_c s (by omega) most hm.1 hm.2 W)
    have C2 := hi (fun W => refNumber_c s h most hm W)
    clear hm h
    go_wp2_with fail
    (with_reducible refine (C1.out _).mono ?_); rintro e w1 ⟨v, er, rfl, h1, hb1⟩
    go_wp2_with fail
    (with_reducible refine (C2.out _).mono ?_); rintro e w2 ⟨v', er', rfl, h2, hb2⟩
    obtain ⟨rfl, rfl⟩ := numSpec_one h1.out h2.out
    have HB := hi (bl_trans hb1 hb2)
    clear h1 h2 hb1 hb2 C1 C2
    go_wp2_with fail
    (with_reducible refine (K.out _).mono ?_); rintro e w3 ⟨rfl, hb3⟩
    replace HB := hi (bl_trans HB.out hb3)
    clear hb3
    go_wp2
    go_ret
    exact ⟨rfl, HB.out⟩
end Go.Proofs.Ytdoilgddlhadhaa
