/-
  Proved: for every slice of places and every number the law PredConvexes returns true, and its arguments read as they did. No condition.
-/
import Derived.Test.YtojfggnimmaemaaGeoMath
import Derived.Test.YtojfggnimmaemaaAreas
import Derived.Test.YtojfggnimmaemaaConvexes
import Derived.Test.YtojfggnimmaemaaKnown3
import Derived.Maps.AppendAt
import Derived.Lib.MinMax
import Derived.RangeFuncBox
import Derived.OwnWalk
import Derived.Deep.SlicePairs
import Derived.Carry
/-
  The plain mathematics of Convex: seen from the first place each further to the left, and turning left everywhere: so each three turn left.
-/
namespace Go.Proofs.Ytojfggnimmaemaa

/-- c beyond b, seen from o, and d beyond c: d beyond b (all of them to the left of one way) -/
theorem beyond {o b c d : Pt} (h1 : 0 < crossZ o b c) (h2 : 0 < crossZ o c d) (s : Pt) (hb : 0 ≤ crossZ o s b) (hc : 0 < crossZ o s c) (hd : 0 < crossZ o s d) : 0 < crossZ o b d := by
  have e : crossZ o s c * crossZ o b d = crossZ o s b * crossZ o c d + crossZ o s d * crossZ o b c := by unfold crossZ; grind
  have p1 := Int.mul_nonneg hb (show 0 ≤ crossZ o c d by omega)
  have p2 := Int.mul_pos hd h1
  rcases Int.lt_or_le 0 (crossZ o b d) with k | k
  · exact k
  · have := Int.mul_nonpos_of_nonneg_of_nonpos (show 0 ≤ crossZ o s c by omega) k
    omega
/-- b, c, d in their order, seen from o; both b c d and c d e turn left: so does b c e, and b d e -/
theorem turn_on {o b c d e : Pt} (k1 : 0 < crossZ o b c) (k2 : 0 < crossZ o c d) (_k3 : 0 < crossZ o d e) (k4 : 0 < crossZ o c e) (h1 : 0 < crossZ b c d) (h2 : 0 < crossZ c d e) : 0 < crossZ b c e := by
  have e1 : crossZ o c d * crossZ b c e = crossZ o c e * crossZ b c d + crossZ o b c * crossZ c d e := by unfold crossZ; grind
  have p1 := Int.mul_pos k4 h1
  have p2 := Int.mul_pos k1 h2
  rcases Int.lt_or_le 0 (crossZ b c e) with k | k
  · exact k
  · have := Int.mul_nonpos_of_nonneg_of_nonpos (show 0 ≤ crossZ o c d by omega) k
    omega
end Go.Proofs.Ytojfggnimmaemaa

/-
  The plain mathematics of Convex: what the program looks at is enough for each three; turned round, told backwards.
-/
namespace Go.Proofs.Ytojfggnimmaemaa

/-- the three places number i, k, j turn left -/
def X3 (f : Nat → Pt) (i k j : Nat) : Prop := 0 < crossZ (f i) (f k) (f j)
/-- b, c, d and c, d, e turn left: so does b, d, e -/
theorem turn_on2 {o b c d e : Pt} (k1 : 0 < crossZ o c d) (k2 : 0 < crossZ o b d) (k3 : 0 < crossZ o d e) (h1 : 0 < crossZ b c d) (h2 : 0 < crossZ c d e) : 0 < crossZ b d e := by
  have e1 : crossZ o c d * crossZ b d e = crossZ o b d * crossZ c d e + crossZ o d e * crossZ b c d := by unfold crossZ; grind
  have p1 := Int.mul_pos k2 h2
  have p2 := Int.mul_pos k3 h1
  rcases Int.lt_or_le 0 (crossZ b d e) with k | k
  · exact k
  · have := Int.mul_nonpos_of_nonneg_of_nonpos (show 0 ≤ crossZ o c d by omega) k
    omega
section
variable {f : Nat → Pt} {n : Nat} (hA : ∀ j, 2 ≤ j → j < n → X3 f 0 1 j) (hB : ∀ j, 2 ≤ j → j < n → X3 f 0 (j - 1) j) (hC : ∀ j, 2 ≤ j → j < n → X3 f (j - 2) (j - 1) j)
include hA hB in
theorem from_first : ∀ g k, 1 ≤ k → k + g + 1 < n → X3 f 0 k (k + g + 1)
  | 0, k, h1, hn => by have := hB (k + 1) (by omega) hn; exact this
  | g + 1, k, h1, hn => by
    have i1 := from_first g k h1 (by omega)
    have i2 := hB (k + g + 2) (by omega) (by omega)
    have hd := hA (k + g + 2) (by omega) (by omega)
    have hc := hA (k + g + 1) (by omega) (by omega)
    have hb : 0 ≤ crossZ (f 0) (f 1) (f k) := by
      rcases Nat.eq_or_lt_of_le h1 with h | h
      · rw [← h, cross_abb]; omega
      · have := hA k (by omega) (by omega); unfold X3 at this; omega
    exact beyond (o := f 0) (b := f k) (c := f (k + g + 1)) (d := f (k + g + 2)) i1 i2 (f 1) hb hc hd
include hA hB in
theorem from_first' {k j : Nat} (h1 : 1 ≤ k) (h2 : k < j) (hn : j < n) : X3 f 0 k j := by
  have := from_first hA hB (j - k - 1) k h1 (by omega)
  rw [show k + (j - k - 1) + 1 = j by omega] at this
  exact this
include hA hB hC in
theorem by_gap : ∀ g i, 1 ≤ i → i + g + 2 < n → X3 f i (i + 1) (i + g + 2) ∧ X3 f i (i + g + 1) (i + g + 2)
  | 0, i, h1, hn => by have := hC (i + 2) (by omega) hn; exact ⟨this, this⟩
  | g + 1, i, h1, hn => by
    obtain ⟨p1, p2⟩ := by_gap g i h1 (by omega)
    obtain ⟨q1, q2⟩ := by_gap g (i + 1) (by omega) (by omega)
    rw [show i + 1 + g + 1 = i + g + 2 by omega, show i + 1 + g + 2 = i + g + 3 by omega] at q2
    have F := fun {k j : Nat} (h1 : 1 ≤ k) (h2 : k < j) (hn : j < n) => from_first' hA hB h1 h2 hn
    refine ⟨?_, ?_⟩
    · exact turn_on (o := f 0) (b := f i) (c := f (i + 1)) (d := f (i + g + 2)) (e := f (i + g + 3)) (F (by omega) (by omega) (by omega)) (F (by omega) (by omega) (by omega)) (F (by omega) (by omega) (by omega)) (F (by omega) (by omega) (by omega)) p1 q2
    · exact turn_on2 (o := f 0) (b := f i) (c := f (i + 1)) (d := f (i + g + 2)) (e := f (i + g + 3)) (F (by omega) (by omega) (by omega)) (F (by omega) (by omega) (by omega)) (F (by omega) (by omega) (by omega)) p1 q2
include hA hB hC in
/-- each three -/
theorem each_three {i k j : Nat} (h1 : i < k) (h2 : k < j) (hn : j < n) : X3 f i k j := by
  have F := fun {k j : Nat} (h1 : 1 ≤ k) (h2 : k < j) (hn : j < n) => from_first' hA hB h1 h2 hn
  rcases Nat.eq_zero_or_pos i with rfl | hi
  · exact F (by omega) h2 hn
  · have a1 : X3 f i k (k + 1) := by
      have := (by_gap hA hB hC (k - i - 1) i hi (by omega)).2
      rw [show i + (k - i - 1) + 1 = k by omega, show i + (k - i - 1) + 2 = k + 1 by omega] at this
      exact this
    rcases Nat.eq_or_lt_of_le (show k + 1 ≤ j by omega) with rfl | hj
    · exact a1
    · have a2 : X3 f k (k + 1) j := by
        have := (by_gap hA hB hC (j - k - 2) k (by omega) (by omega)).1
        rw [show k + (j - k - 2) + 2 = j by omega] at this
        exact this
      exact turn_on (o := f 0) (b := f i) (c := f k) (d := f (k + 1)) (e := f j) (F (by omega) (by omega) (by omega)) (F (by omega) (by omega) (by omega)) (F (by omega) (by omega) (by omega)) (F (by omega) (by omega) (by omega)) a1 a2
end
/-- turned round: each three of the places told from number k on, if each three turn left -/
theorem turned_three {f : Nat → Pt} {n k : Nat} (h : ∀ i k j, i < k → k < j → j < n → X3 f i k j) (hk : k < n) {a b c : Nat} (h1 : a < b) (h2 : b < c) (hc : c < n) : X3 (fun i => f ((i + k) % n)) a b c := by
  have m : ∀ i, i < n → (i + k) % n = if i + k < n then i + k else i + k - n := fun i hi => by
    split
    · exact Nat.mod_eq_of_lt (by omega)
    · rw [Nat.mod_eq_sub_mod (by omega), Nat.mod_eq_of_lt (by omega)]
  unfold X3
  simp only
  rw [m a (by omega), m b (by omega), m c hc]
  by_cases k1 : a + k < n <;> by_cases k2 : b + k < n <;> by_cases k3 : c + k < n
  · rw [if_pos k1, if_pos k2, if_pos k3]; exact h _ _ _ (by omega) (by omega) (by omega)
  · rw [if_pos k1, if_pos k2, if_neg k3]
    have := h (c + k - n) (a + k) (b + k) (by omega) (by omega) (by omega)
    unfold X3 at this
    rw [cross_rot (f (c + k - n)) (f (a + k)) (f (b + k))]
    exact this
  · omega
  · rw [if_pos k1, if_neg k2, if_neg k3]
    have := h (b + k - n) (c + k - n) (a + k) (by omega) (by omega) (by omega)
    unfold X3 at this
    rw [← cross_rot]
    exact this
  · omega
  · omega
  · omega
  · rw [if_neg k1, if_neg k2, if_neg k3]; exact h _ _ _ (by omega) (by omega) (by omega)
end Go.Proofs.Ytojfggnimmaemaa

/-
  Contract of the document's Convex (layer 3).
-/
namespace Go.Proofs.Ytojfggnimmaemaa
open Go.RowKit

/-- the three places number i, k, j turn left, by the document -/
def T3 (l : List Pt) (i k j : Nat) : Prop := orientZ (pget l i) (pget l k) (pget l j) = 1
def AllT (l : List Pt) : Prop := ∀ i k j, i < k → k < j → j < l.length → T3 l i k j

set_option maxHeartbeats 8000000 in
set_option maxRecDepth 100000 in
theorem refConvex_l (l : List Pt) (g o cap : Nat) (hbig : l.length ≤ 4611686018427387904) (w : World) (hl : PtsAt w g o l) (b : Bool) (hb : b = true ↔ 3 ≤ l.length ∧ AllT l) :
    Calls Try.prog 27 #[.slice (some ⟨g, o, none⟩) l.length cap] w (Gives (.bool b) w) := by
  have HL := Lib.hid hl
  have HB := Lib.hid hb
  clear hl hb
  go_enter Try.func27, Try.ntmps27
  go_wp2_with fail
  go_loopw [3] (fun kv W => ∃ i : Nat, i ≤ l.length ∧ kv = .int .i64 (i : Int) ∧ Hid (∀ i' k j, i' < i → i' < k → k < j → j < l.length → T3 l i' k j) ∧ Grew w 0 W) (fun kv _ => l.length - (intOf kv).toNat)
  case atStart => exact ⟨0, by omega, rfl, (fun i' k j h => absurd h (Nat.not_lt_zero _)), by repeat (first | (with_reducible exact Below.refl _ _) | (with_reducible refine bl_alloc ?_ _) | (with_reducible refine Below.drew ?_) | (with_reducible refine below_drewN' ?_ _) | ((with_reducible refine bl_set ?_ ?_ _); (rotate_left; (dsimp only; omega)))), by simp⟩
  case round =>
    obtain ⟨i, hi, rfl, HU, hG⟩ := hrel
    by_cases hlt : i < l.length
    · go_wp2_with fail
      go_loopw [4] (fun kv W => ∃ k : Nat, i + 1 ≤ k ∧ k ≤ l.length ∧ kv = .int .i64 (k : Int) ∧ Hid (∀ k' j, i < k' → k' < k → k' < j → j < l.length → T3 l i k' j) ∧ Grew w 0 W) (fun kv _ => l.length - (intOf kv).toNat)
      case atStart => exact ⟨i + 1, by omega, by omega, by go_num, (fun k' j h1 h2 => absurd h2 (by omega)), hG⟩
      case round =>
        obtain ⟨k, hk0, hk, rfl, HK, hG2⟩ := hrel
        by_cases hlk : k < l.length
        · go_wp2_with fail
          go_loopw [5] (fun kv W => ∃ j : Nat, k + 1 ≤ j ∧ j ≤ l.length ∧ kv = .int .i64 (j : Int) ∧ Hid (∀ j', k < j' → j' < j → T3 l i k j') ∧ Grew w 0 W) (fun kv _ => l.length - (intOf kv).toNat)
          case atStart => exact ⟨k + 1, by omega, by omega, by go_num, (fun j' h1 h2 => absurd h2 (by omega)), hG2⟩
          case round =>
            obtain ⟨j, hj0, hj, rfl, HJ, hG3⟩ := hrel
            by_cases hlj : j < l.length
            · have CO := Lib.hid (fun W => refOrient_l (pget l i) (pget l k) (pget l j) W)
              have HT : Hid (T3 l i k j ↔ orientZ (pget l i) (pget l k) (pget l j) = 1) := Iff.rfl
              have hv := orient_vals (pget l i) (pget l k) (pget l j)
              generalize orientZ (pget l i) (pget l k) (pget l j) = z at *
              have HS0 : Hid ((fun W => PtsAt W g o l ∧ Grew w 0 W) _) := ⟨HL.out.below hG3.hb, hG3⟩
              clear hG hG2 hG3
              go_upto_region 10 with (fail)
              go_cut [41] (fun tv W => tv = .bool (z != 1) ∧ (fun W => PtsAt W g o l ∧ Grew w 0 W) W)
              case first =>
                clear HB HU HK HJ HT hv
                refine wp_region_held_drew (S := fun W => PtsAt W g o l ∧ Grew w 0 W) (by kernel_rfl) ?_ (fun q1 => ?_)
                · exact ⟨HS0.out.1.below (bel_drew _), HS0.out.2.below (bel_drew _)⟩
                revert q1
                generalize World.drew _ = W1
                intro q1
                refine tk (i := 0) (v := ?_) rfl (Or.inl ⟨by rfl, ?_⟩) ?_
                rotate_left
                · intro Wq hSw
                  clear hSw
                  go_simp
                  all_goals (with_reducible rfl)
                try simp only [Act.put, x2, x4, x5, x6, x7]
                refine tk (i := 1) (v := ?_) rfl (Or.inl ⟨by rfl, ?_⟩) ?_
                rotate_left
                · intro Wq hSw
                  clear hSw
                  go_simp
                  all_goals (with_reducible rfl)
                try simp only [Act.put, x2, x3, x4, x5, x6, x7]
                refine tk (i := 2) (v := ?_) rfl (Or.inl ⟨by rfl, ?_⟩) ?_
                rotate_left
                · intro Wq hSw
                  clear hSw
                  go_simp
                  all_goals (with_reducible rfl)
                try simp only [Act.put, x2, x3, x4, x5, x6, x7]
                refine tk (i := 3) (v := ?_) rfl (Or.inl ⟨by rfl, ?_⟩) ?_
                rotate_left
                · intro Wq hSw
                  obtain ⟨k0, k1⟩ := (id hSw).1 i (by omega)
                  clear hSw
                  go_simp
                  all_goals (with_reducible rfl)
                try simp only [Act.put, x2, x3, x4, x5, x6, x7]
                refine tk (i := 4) (v := ?_) rfl (Or.inl ⟨by rfl, ?_⟩) ?_
                rotate_left
                · intro Wq hSw
                  clear hSw
                  go_simp
                  all_goals (with_reducible rfl)
                try simp only [Act.put, x2, x3, x4, x5, x6, x7]
                refine tk (i := 5) (v := ?_) rfl (Or.inl ⟨by rfl, ?_⟩) ?_
                rotate_left
                · intro Wq hSw
                  clear hSw
                  go_simp
                  all_goals (with_reducible rfl)
                try simp only [Act.put, x2, x3, x4, x5, x6, x7]
                refine tk (i := 6) (v := ?_) rfl (Or.inl ⟨by rfl, ?_⟩) ?_
                rotate_left
                · intro Wq hSw
                  clear hSw
                  go_simp
                  all_goals (with_reducible rfl)
                try simp only [Act.put, x2, x3, x4, x5, x6, x7]
                refine tk (i := 7) (v := ?_) rfl (Or.inl ⟨by rfl, ?_⟩) ?_
                rotate_left
                · intro Wq hSw
                  obtain ⟨k0, k1⟩ := (id hSw).1 k (by omega)
                  clear hSw
                  go_simp
                  all_goals (with_reducible rfl)
                try simp only [Act.put, x2, x3, x4, x5, x6, x7]
                refine tk (i := 8) (v := ?_) rfl (Or.inl ⟨by rfl, ?_⟩) ?_
                rotate_left
                · intro Wq hSw
                  clear hSw
                  go_simp
                  all_goals (with_reducible rfl)
                try simp only [Act.put, x2, x3, x4, x5, x6, x7]
                refine tk (i := 9) (v := ?_) rfl (Or.inl ⟨by rfl, ?_⟩) ?_
                rotate_left
                · intro Wq hSw
                  clear hSw
                  go_simp
                  all_goals (with_reducible rfl)
                try simp only [Act.put, x2, x3, x4, x5, x6, x7]
                refine tk (i := 10) (v := ?_) rfl (Or.inl ⟨by rfl, ?_⟩) ?_
                rotate_left
                · intro Wq hSw
                  clear hSw
                  go_simp
                  all_goals (with_reducible rfl)
                try simp only [Act.put, x2, x3, x4, x5, x6, x7]
                refine tk (i := 11) (v := ?_) rfl (Or.inl ⟨by rfl, ?_⟩) ?_
                rotate_left
                · intro Wq hSw
                  obtain ⟨k0, k1⟩ := (id hSw).1 j (by omega)
                  clear hSw
                  go_simp
                  all_goals (with_reducible rfl)
                try simp only [Act.put, x2, x3, x4, x5, x6, x7]
                refine r1 (i := 12) rfl (fun K hK => ?_)
                go_simp
                go_at_call 20
                (with_reducible refine (CO.out _).mono ?_); rintro e w1 ⟨rfl, hb1⟩
                go_wp2_with fail
                refine hK.out _ _ ?_ (fun q2 => ?_)
                · exact ⟨(id q1).1.below hb1, (id q1).2.below hb1⟩
                clear hK K q1
                have q1 := q2
                clear q2
                try simp only [Act.put, x2, x3, x4, x5, x6, x7]
                try clear hb1
                refine tk (i := 13) (v := ?_) rfl (Or.inl ⟨by rfl, ?_⟩) ?_
                rotate_left
                · intro Wq hSw
                  clear hSw
                  go_simp
                  all_goals (with_reducible rfl)
                try simp only [Act.put, x2, x3, x4, x5, x6, x7]
                refine wpAnyH_done (by kernel_rfl) ?_ _
                go_wp2_with fail
                go_meet
                case rel => exact ⟨rfl, id q1⟩
              case rest =>
              obtain ⟨rfl, hS⟩ := hcut
              have HG := Lib.hid hS.2
              clear hS HS0 CO
              by_cases hz : z = 1
              · have HTt := Lib.hid (HT.out.2 hz)
                subst hz
                clear HT hv HB HU HK
                go_wp2
                go_roundw
                case rel => exact ⟨j + 1, by omega, by omega, by go_num, (fun j' h1 h2 => by
                  rcases Nat.lt_or_ge j' j with h | h
                  · exact HJ.out j' h1 h
                  · obtain rfl : j' = j := by omega
                    exact HTt.out), HG.out⟩
                case measure => simp [intOf]; omega
              · have hbf : b = false := by
                  cases b
                  · rfl
                  · exact absurd (HT.out.1 ((HB.out.1 rfl).2 i k j (by omega) (by omega) hlj)) hz
                subst hbf
                clear HT HB HU HK HJ
                rcases hv with rfl | rfl | rfl
                · go_wp2
                  go_ret
                  exact ⟨rfl, HG.out.hb⟩
                · go_wp2
                  go_ret
                  exact ⟨rfl, HG.out.hb⟩
                · exact absurd rfl hz
            · obtain rfl : j = l.length := by omega
              clear hG hG2 HB HU
              go_wp2
              go_roundw
              case rel => exact ⟨k + 1, by omega, by omega, by go_num, (fun k' j h1 h2 h3 h4 => by
                rcases Nat.lt_or_ge k' k with h | h
                · exact HK.out k' j h1 h h3 h4
                · obtain rfl : k' = k := by omega
                  exact HJ.out j h3 h4), hG3⟩
              case measure => simp [intOf]; omega
        · obtain rfl : k = l.length := by omega
          clear hG HB
          go_wp2
          go_roundw
          case rel => exact ⟨i + 1, by omega, by go_num, (fun i' k j h1 h2 h3 h4 => by
            rcases Nat.lt_or_ge i' i with h | h
            · exact HU.out i' k j h h2 h3 h4
            · obtain rfl : i' = i := by omega
              exact HK.out k j h2 (by omega) h3 h4), hG2⟩
          case measure => simp [intOf]; omega
    · obtain rfl : i = l.length := by omega
      have hbb : b = decide (3 ≤ l.length) := by
        rw [Bool.eq_iff_iff, decide_eq_true_iff]
        constructor
        · intro h; exact (HB.out.1 h).1
        · intro h; exact HB.out.2 ⟨h, fun i k j h1 h2 h3 => HU.out i k j (by omega) h1 h2 h3⟩
      have HBB := Lib.hid hbb
      have HG := Lib.hid hG
      clear HB HU hbb hG
      go_wp2
      go_ret
      exact ⟨by rw [HBB.out]; simp; omega, HG.out.hb⟩
end Go.Proofs.Ytojfggnimmaemaa

/-
  What the program's Convex looks at is that each three turn left; turned round, told backwards.
-/
namespace Go.Proofs.Ytojfggnimmaemaa

theorem orient_pos {a b c : Pt} : 0 < orientZ a b c ↔ orientZ a b c = 1 := by
  unfold orientZ
  split
  · rcases sg3_vals (crossZ a b c) with ⟨_, e⟩ | ⟨_, e⟩ | ⟨_, e⟩ <;> rw [e] <;> omega
  · omega
theorem orient_one {a b c : Pt} : orientZ a b c = 1 ↔ (fitB a && fitB b && fitB c) = true ∧ 0 < crossZ a b c := by
  unfold orientZ
  split
  · rename_i h
    rcases sg3_vals (crossZ a b c) with ⟨h1, e⟩ | ⟨h1, e⟩ | ⟨h1, e⟩ <;> rw [e] <;> constructor
    all_goals first | (intro k; exact ⟨h, by omega⟩) | (intro k; have := k.2; omega)
  · rename_i h
    constructor
    · intro k; omega
    · intro k; exact absurd k.1 h
theorem cvxTo_iff {l : List Pt} : ∀ n, cvxTo l n = true ↔ ∀ j, j < n → cvxAt l j = true
  | 0 => ⟨fun _ j h => absurd h (Nat.not_lt_zero _), fun _ => rfl⟩
  | n + 1 => by
    unfold cvxTo
    rw [Bool.and_eq_true, cvxTo_iff n]
    constructor
    · intro h j hj
      rcases Nat.lt_or_ge j n with k | k
      · exact h.1 j k
      · obtain rfl : j = n := by omega
        exact h.2
    · intro h
      exact ⟨fun j hj => h j (by omega), h n (by omega)⟩
theorem cvxAt_iff {l : List Pt} {j : Nat} : cvxAt l j = true ↔ T3 l 0 1 (j + 2) ∧ T3 l 0 (j + 1) (j + 2) ∧ T3 l j (j + 1) (j + 2) := by
  unfold cvxAt T3
  rw [Bool.and_eq_true, Bool.and_eq_true, decide_eq_true_iff, decide_eq_true_iff, decide_eq_true_iff, orient_pos, orient_pos, orient_pos, and_assoc]
/-- what the program looks at: each three -/
theorem cvxB_iff {l : List Pt} : cvxB l = true ↔ 3 ≤ l.length ∧ AllT l := by
  unfold cvxB
  rw [Bool.and_eq_true, decide_eq_true_iff, cvxTo_iff]
  constructor
  · rintro ⟨h3, h⟩
    refine ⟨h3, ?_⟩
    have H : ∀ j, 2 ≤ j → j < l.length → T3 l 0 1 j ∧ T3 l 0 (j - 1) j ∧ T3 l (j - 2) (j - 1) j := fun j h1 h2 => by
      have := cvxAt_iff.1 (h (j - 2) (by omega))
      rw [show j - 2 + 2 = j by omega, show j - 2 + 1 = j - 1 by omega] at this
      exact this
    have F : ∀ j, j < l.length → fitB (pget l j) = true := fun j hj => by
      have f2 := (orient_one.1 (H 2 (by omega) (by omega)).1).1
      rw [Bool.and_eq_true, Bool.and_eq_true] at f2
      rcases Nat.eq_zero_or_pos j with rfl | k
      · exact f2.1.1
      · rcases Nat.eq_or_lt_of_le k with k1 | k1
        · obtain rfl : j = 1 := by omega
          exact f2.1.2
        · have fj := (orient_one.1 (H j (by omega) hj).1).1
          rw [Bool.and_eq_true] at fj
          exact fj.2
    have C : ∀ {i k j}, T3 l i k j → X3 (pget l) i k j := fun h => (orient_one.1 h).2
    intro i k j h1 h2 hj
    refine orient_one.2 ⟨?_, ?_⟩
    · rw [F i (by omega), F k (by omega), F j hj]; rfl
    · exact each_three (f := pget l) (n := l.length) (fun j h1 h2 => C (H j h1 h2).1) (fun j h1 h2 => C (H j h1 h2).2.1) (fun j h1 h2 => C (H j h1 h2).2.2) h1 h2 hj
  · rintro ⟨h3, h⟩
    exact ⟨h3, fun j hj => cvxAt_iff.2 ⟨h 0 1 (j + 2) (by omega) (by omega) (by omega), h 0 (j + 1) (j + 2) (by omega) (by omega) (by omega), h j (j + 1) (j + 2) (by omega) (by omega) (by omega)⟩⟩
theorem allT_fit {l : List Pt} (h3 : 3 ≤ l.length) (h : AllT l) {j : Nat} (hj : j < l.length) : fitB (pget l j) = true := by
  have e : ∀ i k j, i < k → k < j → j < l.length → (fitB (pget l i) = true ∧ fitB (pget l k) = true) ∧ fitB (pget l j) = true := fun i k j a b c => by
    have := (orient_one.1 (h i k j a b c)).1
    rw [Bool.and_eq_true, Bool.and_eq_true] at this
    exact this
  rcases Nat.eq_zero_or_pos j with rfl | k
  · exact (e 0 1 2 (by omega) (by omega) (by omega)).1.1
  · rcases Nat.eq_or_lt_of_le k with k1 | k1
    · obtain rfl : j = 1 := by omega
      exact (e 0 1 2 (by omega) (by omega) (by omega)).1.2
    · exact (e 0 1 j (by omega) (by omega) hj).2
/-- told from number k on -/
theorem allT_round {l m : List Pt} {k : Nat} (hlen : m.length = l.length) (hk : k < l.length) (hm : ∀ i, i < l.length → pget m i = pget l ((i + k) % l.length)) (h3 : 3 ≤ l.length) (h : AllT l) : AllT m := by
  intro a b c h1 h2 hc
  rw [hlen] at hc
  unfold T3
  rw [hm a (by omega), hm b (by omega), hm c hc]
  have P := fun i => Nat.mod_lt (i + k) (show 0 < l.length by omega)
  refine orient_one.2 ⟨?_, ?_⟩
  · rw [allT_fit h3 h (P a), allT_fit h3 h (P b), allT_fit h3 h (P c)]; rfl
  · exact turned_three (f := pget l) (n := l.length) (fun i k j a b c => (orient_one.1 (h i k j a b c)).2) hk h1 h2 hc
theorem cvx_round {l m : List Pt} {k : Nat} (hlen : m.length = l.length) (hk : k < l.length) (hm : ∀ i, i < l.length → pget m i = pget l ((i + k) % l.length)) : cvxB m = cvxB l := by
  apply Bool.eq_iff_iff.2
  rw [cvxB_iff, cvxB_iff, hlen]
  constructor
  · rintro ⟨h3, h⟩
    refine ⟨h3, ?_⟩
    rcases Nat.eq_zero_or_pos k with rfl | hp
    · refine allT_round (l := m) (m := l) (k := 0) hlen.symm (by omega) (fun i hi => ?_) (by omega) h
      rw [hlen] at hi ⊢
      rw [Nat.add_zero, Nat.mod_eq_of_lt hi, hm i hi, Nat.add_zero, Nat.mod_eq_of_lt hi]
    · refine allT_round (l := m) (m := l) (k := l.length - k) hlen.symm (by omega) (fun i hi => ?_) (by omega) h
      rw [hlen] at hi ⊢
      rw [hm _ (Nat.mod_lt _ (by omega)), Nat.mod_add_mod, show i + (l.length - k) + k = i + l.length by omega, Nat.add_mod_right, Nat.mod_eq_of_lt hi]
  · rintro ⟨h3, h⟩
    exact ⟨h3, allT_round hlen hk hm h3 h⟩
/-- told backwards -/
theorem cvx_back {l m : List Pt} (hlen : m.length = l.length) (hm : ∀ i, i < l.length → pget m i = pget l (l.length - 1 - i)) (h : cvxB l = true) : cvxB m = false := by
  obtain ⟨h3, h⟩ := cvxB_iff.1 h
  apply Bool.eq_false_iff.2
  intro k
  obtain ⟨_, k⟩ := cvxB_iff.1 k
  have k1 := (orient_one.1 (k 0 1 2 (by omega) (by omega) (by omega))).2
  rw [hm 0 (by omega), hm 1 (by omega), hm 2 (by omega)] at k1
  have h1 := (orient_one.1 (h (l.length - 1 - 2) (l.length - 1 - 1) (l.length - 1 - 0) (by omega) (by omega) (by omega))).2
  rw [← cross_rot, cross_swap] at h1
  rw [← cross_rot] at k1
  rw [show l.length - 1 - 0 = l.length - 1 by omega] at *
  have e : ∀ x y z : Pt, crossZ x y z = - crossZ z y x := fun x y z => by unfold crossZ; grind
  have q := e (pget l (l.length - 1)) (pget l (l.length - 1 - 1)) (pget l (l.length - 1 - 2))
  have r := cross_rot (pget l (l.length - 1)) (pget l (l.length - 1 - 1)) (pget l (l.length - 1 - 2))
  have s := cross_swap (pget l (l.length - 1 - 2)) (pget l (l.length - 1 - 1)) (pget l (l.length - 1))
  have t := cross_rot (pget l (l.length - 1 - 2)) (pget l (l.length - 1 - 1)) (pget l (l.length - 1))
  omega
end Go.Proofs.Ytojfggnimmaemaa

/-
  The walk of the law PredConvexes.
-/
namespace Go.Proofs.Ytojfggnimmaemaa
open Go.RowKit

/-- a slice of places, as it lies in memory -/
def RowAt (W : World) (v : Value) (l : List Pt) : Prop := ∃ ad cap, v = .slice ad l.length cap ∧ (0 < l.length → ∃ g o, ad = some ⟨g, o, none⟩ ∧ PtsAt W g o l)
theorem RowAt.below {W W' : World} {v : Value} {l : List Pt} (h : RowAt W v l) (hb : Below W.heap.size W W') : RowAt W' v l :=
  let ⟨ad, cap, e, f⟩ := h
  ⟨ad, cap, e, fun k => let ⟨g, o, e2, p⟩ := f k; ⟨g, o, e2, p.below hb⟩⟩
def ptVals (l : List Pt) : List Value := l.flatMap fun p => [.int .i64 p.x, .int .i64 p.y]
theorem ptVals_snoc (l : List Pt) (p : Pt) : ptVals (l ++ [p]) = ptVals l ++ [.int .i64 p.x, .int .i64 p.y] := by simp [ptVals]
theorem ptVals_get : ∀ (l : List Pt) (i : Nat), i < l.length → (ptVals l)[i * 2]? = some (.int .i64 (pget l i).x) ∧ (ptVals l)[i * 2 + 1]? = some (.int .i64 (pget l i).y)
  | p :: l, 0, _ => ⟨rfl, rfl⟩
  | p :: l, i + 1, h => by
    have := ptVals_get l i (by simpa using h)
    rw [show (i + 1) * 2 = i * 2 + 1 + 1 by omega]
    exact this
theorem rowAt_owns {W : World} {base : Nat} {e : TypeId} {v : Value} {l : List Pt} (h : W.ownsRow base e 2 v l.length (ptVals l)) : RowAt W v l := by
  rcases h.2 with ⟨rfl, h0⟩ | ⟨g, cap, cur, rfl, _⟩
  · exact ⟨none, 0, by rw [h0], fun k => absurd k (by omega)⟩
  · refine ⟨_, cap, rfl, fun _ => ⟨g, 0, rfl, fun i hi => ?_⟩⟩
    have add : ∀ j, (⟨g, 0, none⟩ : Addr).add j = ⟨g, j, none⟩ := fun j => by unfold Addr.add; split <;> simp_all
    have c := h.cells (g := g) rfl
    have p := ptVals_get l i hi
    have c0 := c _ _ p.1
    have c1 := c _ _ p.2
    rw [add] at c0 c1
    rw [Nat.zero_add]
    exact ⟨c0, c1⟩
theorem owns_kept {W W' : World} {base : Nat} {e : TypeId} {size n : Nat} {v : Value} {xs : List Value} {row : Option Nat} (h : W.ownsRow base e size v n xs) (hg : W.grownBy W' row) (hr : ∀ g, v.ownBlock = some g → row ≠ some g) : W'.ownsRow base e size v n xs := by
  refine ⟨h.1, ?_⟩
  rcases h.2 with h | ⟨g, cap, cur, rfl, hb, hc, rest⟩
  · exact .inl h
  · exact .inr ⟨g, cap, cur, rfl, hb, (hg.block g (Array.getElem?_eq_some_iff.1 hc).1 (fun k => hr g rfl k.symm)).trans hc, rest⟩
theorem owns_lt {W : World} {base : Nat} {e : TypeId} {size n : Nat} {v : Value} {xs : List Value} (h : W.ownsRow base e size v n xs) : ∀ g, v.ownBlock = some g → base ≤ g ∧ g < W.heap.size := by
  intro g hg
  rcases h.2 with ⟨rfl, _⟩ | ⟨g', cap, cur, rfl, hb, hc, rest⟩
  · cases hg
  · cases hg
    exact ⟨hb, (Array.getElem?_eq_some_iff.1 hc).1⟩
theorem cells2_new (w : World) (x y : Value) (t : TypeId) : ∀ j u, [x, y][j]? = some u → (w.alloc (.cells #[x, y] t)).cell? ((⟨w.heap.size, 0, none⟩ : Addr).add j) = some u := by
  intro j u hj
  match j, hj with
  | 0, hj =>
    simp at hj
    subst hj
    simp [Addr.add]
  | 1, hj =>
    simp at hj
    subst hj
    simp [Addr.add]
theorem info_pt : (Try.prog.info? 23).map (fun i => (i.zero, i.size, i.bytes)) = some (some (.agg #[.int .i64 0, .int .i64 0]), 2, 16) := by kernel_rfl
/-- the places from number k on, and backwards: the first i of them -/
def mRow (l : List Pt) (k i : Nat) : List Pt := (List.range i).map fun j => pget l ((j + k) % l.length)
def bRow (l : List Pt) (i : Nat) : List Pt := (List.range i).map fun j => pget l (l.length - 1 - j)
theorem mRow_len (l : List Pt) (k i : Nat) : (mRow l k i).length = i := by simp [mRow]
theorem bRow_len (l : List Pt) (i : Nat) : (bRow l i).length = i := by simp [bRow]
theorem mRow_snoc (l : List Pt) (k i : Nat) : mRow l k (i + 1) = mRow l k i ++ [pget l ((i + k) % l.length)] := by simp [mRow, List.range_succ]
theorem bRow_snoc (l : List Pt) (i : Nat) : bRow l (i + 1) = bRow l i ++ [pget l (l.length - 1 - i)] := by simp [bRow, List.range_succ]
theorem mRow_get (l : List Pt) (k n i : Nat) (h : i < n) : pget (mRow l k n) i = pget l ((i + k) % l.length) := by
  have e : ∀ (m : List Pt) j (hj : j < m.length), pget m j = m[j] := fun m j hj => by unfold pget; simp [List.getD_eq_getElem?_getD, List.getElem?_eq_getElem hj]
  rw [e _ _ (by rw [mRow_len]; exact h)]
  simp [mRow]
theorem bRow_get (l : List Pt) (n i : Nat) (h : i < n) : pget (bRow l n) i = pget l (l.length - 1 - i) := by
  have e : ∀ (m : List Pt) j (hj : j < m.length), pget m j = m[j] := fun m j hj => by unfold pget; simp [List.getD_eq_getElem?_getD, List.getElem?_eq_getElem hj]
  rw [e _ _ (by rw [bRow_len]; exact h)]
  simp [bRow]

set_option maxHeartbeats 4000000 in
set_option maxRecDepth 100000 in
theorem convex_nil (ad : Option Addr) (cap : Nat) (w : World) : Calls Try.prog 26 #[.slice ad 0 cap] w (Gives (.bool false) w) := by
  go_enter Try.func26, Try.ntmps26
  go_wp2
  go_ret
  exact ⟨rfl, by repeat (first | (with_reducible exact Below.refl _ _) | (with_reducible refine bl_alloc ?_ _) | (with_reducible refine Below.drew ?_) | (with_reducible refine below_drewN' ?_ _) | ((with_reducible refine bl_set ?_ ?_ _); (rotate_left; (dsimp only; omega))))⟩
theorem convex_any {v : Value} {l : List Pt} (hbig : l.length ≤ 4611686018427387904) (r : Bool) (hr : cvxB l = r) (w : World) (h : RowAt w v l) : Calls Try.prog 26 #[v] w (Gives (.bool r) w) := by
  subst hr
  obtain ⟨ad, cap, rfl, hf⟩ := h
  rcases Nat.eq_zero_or_pos l.length with h0 | h0
  · obtain rfl := List.eq_nil_of_length_eq_zero h0
    exact convex_nil ad cap w
  · obtain ⟨g, o, rfl, hp⟩ := hf h0
    exact convex_l l g o cap hbig w hp
set_option maxHeartbeats 4000000 in
set_option maxRecDepth 100000 in
theorem refConvex_nil (ad : Option Addr) (cap : Nat) (w : World) : Calls Try.prog 27 #[.slice ad 0 cap] w (Gives (.bool false) w) := by
  go_enter Try.func27, Try.ntmps27
  go_wp2_with fail
  go_loopw [3] (fun kv W => kv = .int .i64 0 ∧ Grew w 0 W) (fun _ _ => 0)
  case atStart => exact ⟨rfl, by repeat (first | (with_reducible exact Below.refl _ _) | (with_reducible refine bl_alloc ?_ _) | (with_reducible refine Below.drew ?_) | (with_reducible refine below_drewN' ?_ _) | ((with_reducible refine bl_set ?_ ?_ _); (rotate_left; (dsimp only; omega)))), by simp⟩
  case round =>
    obtain ⟨rfl, hG⟩ := hrel
    have HG := Lib.hid hG
    clear hG
    go_wp2
    go_ret
    exact ⟨rfl, HG.out.hb⟩
theorem refConvex_any {v : Value} {l : List Pt} (hbig : l.length ≤ 4611686018427387904) (r : Bool) (hr : cvxB l = r) (w : World) (h : RowAt w v l) : Calls Try.prog 27 #[v] w (Gives (.bool r) w) := by
  subst hr
  obtain ⟨ad, cap, rfl, hf⟩ := h
  rcases Nat.eq_zero_or_pos l.length with h0 | h0
  · obtain rfl := List.eq_nil_of_length_eq_zero h0
    exact refConvex_nil ad cap w
  · obtain ⟨g, o, rfl, hp⟩ := hf h0
    exact refConvex_l l g o cap hbig w hp _ cvxB_iff

theorem cvx_m {l : List Pt} {k : Nat} (hk : k < l.length ∨ k = 0) : cvxB (mRow l k l.length) = cvxB l := by
  rcases Nat.eq_zero_or_pos l.length with h | h
  · have := List.eq_nil_of_length_eq_zero h
    subst this
    rfl
  · exact cvx_round (mRow_len l k _) (by omega) (fun i hi => mRow_get l k _ i hi)
theorem idx_facts {n i k x y : Nat} (hn : n ≤ 20) (hi : i < n) (hk : k < n ∨ k = 0) (hx : (i + k) % n = x) (hy : n - 1 - i = y) :
    x < n ∧ y < n ∧ wrap64 ((i : Int) + (k : Int)) = (i : Int) + (k : Int) ∧ IntKind.i64.wrap ((i : Int) + (k : Int)) = (i : Int) + (k : Int) ∧ ((i : Int) + (k : Int)).tmod (n : Int) = (x : Int) ∧
      wrap64 (x : Int) = (x : Int) ∧ IntKind.i64.wrap (x : Int) = (x : Int) ∧ ((n : Int) = 0) = False ∧ ((x : Int) < (n : Int)) = True ∧
      wrap64 ((n : Int) - 1) = (n : Int) - 1 ∧ IntKind.i64.wrap ((n : Int) - 1) = (n : Int) - 1 ∧ wrap64 ((n : Int) - 1 - (i : Int)) = (y : Int) ∧ IntKind.i64.wrap ((n : Int) - 1 - (i : Int)) = (y : Int) ∧
      wrap64 (y : Int) = (y : Int) ∧ IntKind.i64.wrap (y : Int) = (y : Int) ∧ ((y : Int) < (n : Int)) = True := by
  have hx2 : x < n := by rw [← hx]; exact Nat.mod_lt _ (by omega)
  have r1 : ((i : Int) + (k : Int)).tmod (n : Int) = (x : Int) := by rw [Int.tmod_eq_emod_of_nonneg (by omega), ← hx, Int.natCast_emod, Int.natCast_add]
  clear hx
  refine ⟨hx2, by omega, by unfold wrap64; omega, IntWalk.i64_in _ (by omega), r1, by unfold wrap64; omega, IntWalk.i64_in _ (by omega), eq_false (by omega), eq_true (by omega), by unfold wrap64; omega, IntWalk.i64_in _ (by omega), by unfold wrap64; omega, (IntWalk.i64_in _ (by omega)).trans (by omega), by unfold wrap64; omega, IntWalk.i64_in _ (by omega), eq_true (by omega)⟩

set_option maxHeartbeats 8000000 in
set_option maxRecDepth 100000 in
theorem pconvexes_l (v : Value) (l : List Pt) (fr : Int) (_hfr : R64 fr) (w : World) (hv : RowAt w v l) : Calls Try.prog 6 #[v, .int .i64 fr] w (Gives (.bool true) w) := by
  have K := Lib.hid (fun W => known3_l W)
  have HV := Lib.hid hv
  obtain ⟨ad, cap, rfl, had⟩ := hv
  have HAD := Lib.hid had
  clear had
  go_enter Try.func6, Try.ntmps6
  rcases Nat.lt_or_ge 20 l.length with h20 | h20
  · have b20 : ((20 : Int) < (l.length : Int)) = True := by simp; omega
    go_wp2_with fail
    (with_reducible refine (K.out _).mono ?_); rintro e w1 ⟨rfl, hb1⟩
    go_wp2
    go_ret
    exact ⟨rfl, by repeat (first | (with_reducible exact Below.refl _ _) | (with_reducible refine bl_alloc ?_ _) | (with_reducible refine Below.drew ?_) | (with_reducible refine below_drewN' ?_ _) | (with_reducible refine bl_trans ?_ hb1) | ((with_reducible refine bl_set ?_ ?_ _); (rotate_left; (dsimp only; omega))))⟩
  have b20 : ((20 : Int) < (l.length : Int)) = False := by simp; omega
  have hbig : l.length ≤ 4611686018427387904 := by omega
  go_upto_region 5 with (fail)
  go_cut [7] (fun kv W => ∃ k : Nat, kv = .int .i64 k ∧ (k < l.length ∨ k = 0) ∧ Grew w 0 W)
  case first =>
    go_wp2_with fail
    go_meet
    case rel =>
      have h0 : 0 ≤ IntKind.u64.wrap fr := by rw [IntKind.wrap_u64]; exact Int.emod_nonneg _ (by omega)
      generalize IntKind.u64.wrap fr = m at *
      have hd : 1 ≤ max (l.length : Int) 1 ∧ max (l.length : Int) 1 ≤ 20 ∧ (max (l.length : Int) 1 = l.length ∨ max (l.length : Int) 1 = 1) := by rw [Int.max_def]; split <;> omega
      generalize max (l.length : Int) 1 = d at *
      rw [Int.tmod_eq_emod_of_nonneg h0]
      have h1 := Int.emod_nonneg m (show d ≠ 0 by omega)
      have h2 := Int.emod_lt_of_pos m (show 0 < d by omega)
      generalize m % d = r at *
      refine ⟨r.toNat, ?_, by omega, by repeat (first | (with_reducible exact Below.refl _ _) | (with_reducible refine bl_alloc ?_ _) | (with_reducible refine Below.drew ?_) | (with_reducible refine below_drewN' ?_ _) | ((with_reducible refine bl_set ?_ ?_ _); (rotate_left; (dsimp only; omega)))), by simp⟩
      rw [show ((r.toNat : Nat) : Int) = r by omega, show wrap64 r = r by unfold wrap64; omega]
  case rest =>
  obtain ⟨k, rfl, hk, hG⟩ := hcut
  have HG := Lib.hid hG
  clear hG
  go_wp2_with fail
  go_loopw [5, 6, 8] (fun mv bv iv W => ∃ i : Nat, i ≤ l.length ∧ iv = .int .i64 i ∧ W.ownsRow w.heap.size 23 2 mv i (ptVals (mRow l k i)) ∧ W.ownsRow w.heap.size 23 2 bv i (ptVals (bRow l i)) ∧ (∀ g, mv.ownBlock = some g → bv.ownBlock ≠ some g) ∧ Grew w 0 W) (fun _ _ iv _ => l.length - (intOf iv).toNat)
  case atStart => exact ⟨0, by omega, rfl, World.ownsRow_nil _ _ _ _, World.ownsRow_nil _ _ _ _, (fun g h => by cases h), HG.out⟩
  case round =>
    obtain ⟨i, hi, rfl, hm, hb, hap, hG⟩ := hrel
    have HS0 : Hid ((fun W => RowAt W (.slice ad l.length cap) l ∧ Grew w 0 W) _) := ⟨HV.out.below hG.hb, hG⟩
    have HM := Lib.hid hm
    have HB := Lib.hid hb
    have HA := Lib.hid hap
    clear HG hm hb hap hG
    by_cases hlt : i < l.length
    · obtain ⟨g, o, rfl, hp⟩ := HAD.out (by omega)
      have b4 : ((i : Int) < (l.length : Int)) = True := by simp; omega
      obtain ⟨x, hx⟩ : ∃ x, (i + k) % l.length = x := ⟨_, rfl⟩
      obtain ⟨y, hy⟩ : ∃ y, l.length - 1 - i = y := ⟨_, rfl⟩
      obtain ⟨hx2, hy2, n1, n1', r1, n2, n2', z1, i1, n3, n3', n4, n4', n5, n5', i2⟩ := idx_facts h20 hlt hk hx hy
      have HM2 := Lib.hid (mRow_snoc l k i)
      have HB2 := Lib.hid (bRow_snoc l i)
      rw [hx] at HM2
      rw [hy] at HB2
      obtain ⟨c0, c1⟩ := (hp.below HS0.out.2.hb) x hx2
      have CY := Lib.hid (fun W (hb : Below w.heap.size w W) => (hp.below hb) y hy2)
      generalize pget l x = q at *
      generalize pget l y = t at *
      clear hx hp HAD
      obtain ⟨e0, hi0, hz0, hz1, hz2⟩ := info_parts info_pt
      have gsz := HS0.out.2.hb.size
      have lm := mRow_len l k i
      have HY := Lib.hid hy
      clear hy
      clear n3 n3' n4 n4' n5 n5' i2 b4 b20 HV K
      go_wp2_with (first | (at_builtin; refine wpList_append_own_at _ rfl _ _ 29 rfl w.heap.size 23 e0 (.agg #[.int .i64 0, .int .i64 0]) 2 16 Try.underlying29 hi0 hz0 hz1 hz2 rfl (by decide) _ _ _ rfl (HM.out.alloc _) ⟨wr.heap.size, 0, none⟩ 1 1 [.int .i64 q.x, .int .i64 q.y] rfl rfl (cells2_new _ _ _ _) ?c2 ?c3 ?c4 ?c5 ?_) | go_in)
      case c2 => first | (simp [Value.oneCell']; done) | (intro u hu; simp at hu; rcases hu with rfl | rfl <;> rfl)
      case c3 => unfold maxLen; omega
      case c4 => omega
      case c5 => first | omega | (simp; omega) | exact gsz | (rw [World.size_alloc]; omega)
      intro mv w1 hown hgrow _ hat
      have hbl := (HS0.out.2.new _).hb.grown hgrow (by rw [World.size_alloc]; omega) (fun g hg => (owns_lt HM.out g hg).1)
      have hbr := owns_kept (HB.out.alloc _) hgrow (fun g hg e => HA.out g e hg)
      have hap2 : ∀ g, mv.ownBlock = some g → u6.ownBlock ≠ some g := by
        intro g h1 h2
        rcases hat with e | e
        · rw [e] at h1; exact HA.out g h1 h2
        · rw [e] at h1
          have h3 := (owns_lt HB.out g h2).2
          simp at h1
          omega
      have HM3 := Lib.hid hown
      have HB3 := Lib.hid hbr
      have HA3 := Lib.hid hap2
      have HL3 := Lib.hid hbl
      clear HM HB HA HS0 c0 c1 hown hgrow hat hbr hap2 hbl n1 n1' r1 n2 n2' i1
      obtain ⟨c0, c1⟩ := CY.out w1 HL3.out
      rw [← HY.out] at c0 c1
      have gs1 := HL3.out.size
      clear HY CY hy2
      go_wp2_with (first | (at_builtin; refine wpList_append_own_at _ rfl _ _ 29 rfl w.heap.size 23 e0 (.agg #[.int .i64 0, .int .i64 0]) 2 16 Try.underlying29 hi0 hz0 hz1 hz2 rfl (by decide) _ _ _ rfl (HB3.out.alloc _) ⟨w1.heap.size, 0, none⟩ 1 1 [.int .i64 t.x, .int .i64 t.y] rfl rfl (cells2_new _ _ _ _) ?d2 ?d3 ?d4 ?d5 ?_) | go_in)
      case d2 => first | (simp [Value.oneCell']; done) | (intro u hu; simp at hu; rcases hu with rfl | rfl <;> rfl)
      case d3 => unfold maxLen; omega
      case d4 => omega
      case d5 => simp; omega
      intro bv w2 hown hgrow _ hat
      have hbl := (HL3.out.alloc HL3.out.size _).grown hgrow (by first | omega | (simp; omega)) (fun g hg => (owns_lt HB3.out g hg).1)
      have hmr := owns_kept (HM3.out.alloc _) hgrow (fun g hg e => HA3.out g hg e)
      have hap2 : ∀ g, mv.ownBlock = some g → bv.ownBlock ≠ some g := by
        intro g h1 h2
        rcases hat with e | e
        · rw [e] at h2; exact HA3.out g h1 h2
        · rw [e] at h2
          have h3 := (owns_lt HM3.out g h1).2
          simp at h2
          omega
      rw [← ptVals_snoc, ← HM2.out] at hmr
      rw [← ptVals_snoc, ← HB2.out] at hown
      have R1 := Lib.hid hmr
      have R2 := Lib.hid hown
      have R3 := Lib.hid hap2
      have R4 := Lib.hid hbl
      clear hmr hown hap2 hbl hgrow hat HM3 HB3 HA3 HL3 HM2 HB2 c0 c1
      go_wp2_with fail
      go_roundw
      case rel => exact ⟨i + 1, by omega, by go_num, R1.out, R2.out, R3.out, ⟨R4.out, R4.out.size⟩⟩
      case measure => simp [intOf]; omega
    · obtain rfl : i = l.length := by omega
      have b4 : ((l.length : Int) < (l.length : Int)) = False := by simp
      have HS1 : Hid ((fun W => RowAt W (.slice ad l.length cap) l ∧ RowAt W u5 (mRow l k l.length) ∧ RowAt W u6 (bRow l l.length) ∧ Grew w 0 W) wr) := ⟨HS0.out.1, rowAt_owns (by rw [mRow_len]; exact HM.out), rowAt_owns (by rw [bRow_len]; exact HB.out), HS0.out.2⟩
      clear HS0 HM HB HA HAD HV
      have HS0 := HS1
      clear HS1
      obtain ⟨n, hn⟩ : ∃ n, cvxB l = n := ⟨_, rfl⟩
      have C1 := Lib.hid (fun W (h : RowAt W (.slice ad l.length cap) l) => convex_any hbig n hn W h)
      have C2 := Lib.hid (fun W (h : RowAt W (.slice ad l.length cap) l) => refConvex_any hbig n hn W h)
      have C3 := Lib.hid (fun W (h : RowAt W u5 (mRow l k l.length)) => convex_any (by rw [mRow_len]; exact hbig) n ((cvx_m hk).trans hn) W h)
      have C4 := Lib.hid (fun (ht : n = true) W (h : RowAt W u6 (bRow l l.length)) => convex_any (by rw [bRow_len]; exact hbig) false (cvx_back (bRow_len l _) (fun i hi => bRow_get l _ i hi) (hn.trans ht)) W h)
      clear hn hk hi hlt h20 b20 b4 _hfr
      go_upto_region 11 with (fail)
      go_wp2_with fail
      (with_reducible refine (C1.out _ HS0.out.1).mono ?_); rintro e w1 ⟨rfl, hb1⟩
      replace HS0 : Hid ((fun W => RowAt W (.slice ad l.length cap) l ∧ RowAt W u5 (mRow l k l.length) ∧ RowAt W u6 (bRow l l.length) ∧ Grew w 0 W) w1) := ⟨HS0.out.1.below hb1, HS0.out.2.1.below hb1, HS0.out.2.2.1.below hb1, HS0.out.2.2.2.below hb1⟩
      clear hb1 C1
      try dsimp only
      go_upto_region 12 with (fail)
      cases n
      · clear C4
        go_wp2_with fail
        (with_reducible refine (C2.out _ HS0.out.1).mono ?_); rintro e w1 ⟨rfl, hb1⟩
        replace HS0 : Hid ((fun W => RowAt W (.slice ad l.length cap) l ∧ RowAt W u5 (mRow l k l.length) ∧ RowAt W u6 (bRow l l.length) ∧ Grew w 0 W) w1) := ⟨HS0.out.1.below hb1, HS0.out.2.1.below hb1, HS0.out.2.2.1.below hb1, HS0.out.2.2.2.below hb1⟩
        clear hb1
        try dsimp only
        go_wp2_with fail
        (with_reducible refine (C3.out _ HS0.out.2.1).mono ?_); rintro e w1 ⟨rfl, hb1⟩
        replace HS0 : Hid ((fun W => RowAt W (.slice ad l.length cap) l ∧ RowAt W u5 (mRow l k l.length) ∧ RowAt W u6 (bRow l l.length) ∧ Grew w 0 W) w1) := ⟨HS0.out.1.below hb1, HS0.out.2.1.below hb1, HS0.out.2.2.1.below hb1, HS0.out.2.2.2.below hb1⟩
        clear hb1
        try dsimp only
        go_wp2_with fail
        (with_reducible refine (known3_l _).mono ?_); rintro e w1 ⟨rfl, hb1⟩
        replace HS0 : Hid ((fun W => RowAt W (.slice ad l.length cap) l ∧ RowAt W u5 (mRow l k l.length) ∧ RowAt W u6 (bRow l l.length) ∧ Grew w 0 W) w1) := ⟨HS0.out.1.below hb1, HS0.out.2.1.below hb1, HS0.out.2.2.1.below hb1, HS0.out.2.2.2.below hb1⟩
        clear hb1
        try dsimp only
        go_wp2_with fail
        go_ret
        exact ⟨rfl, HS0.out.2.2.2.hb⟩
      · replace C4 := Lib.hid (C4.out rfl)
        go_wp2_with fail
        (with_reducible refine (C2.out _ HS0.out.1).mono ?_); rintro e w1 ⟨rfl, hb1⟩
        replace HS0 : Hid ((fun W => RowAt W (.slice ad l.length cap) l ∧ RowAt W u5 (mRow l k l.length) ∧ RowAt W u6 (bRow l l.length) ∧ Grew w 0 W) w1) := ⟨HS0.out.1.below hb1, HS0.out.2.1.below hb1, HS0.out.2.2.1.below hb1, HS0.out.2.2.2.below hb1⟩
        clear hb1
        try dsimp only
        go_wp2_with fail
        (with_reducible refine (C3.out _ HS0.out.2.1).mono ?_); rintro e w1 ⟨rfl, hb1⟩
        replace HS0 : Hid ((fun W => RowAt W (.slice ad l.length cap) l ∧ RowAt W u5 (mRow l k l.length) ∧ RowAt W u6 (bRow l l.length) ∧ Grew w 0 W) w1) := ⟨HS0.out.1.below hb1, HS0.out.2.1.below hb1, HS0.out.2.2.1.below hb1, HS0.out.2.2.2.below hb1⟩
        clear hb1
        try dsimp only
        go_wp2_with fail
        (with_reducible refine (C4.out _ HS0.out.2.2.1).mono ?_); rintro e w1 ⟨rfl, hb1⟩
        replace HS0 : Hid ((fun W => RowAt W (.slice ad l.length cap) l ∧ RowAt W u5 (mRow l k l.length) ∧ RowAt W u6 (bRow l l.length) ∧ Grew w 0 W) w1) := ⟨HS0.out.1.below hb1, HS0.out.2.1.below hb1, HS0.out.2.2.1.below hb1, HS0.out.2.2.2.below hb1⟩
        clear hb1
        try dsimp only
        go_wp2_with fail
        (with_reducible refine (known3_l _).mono ?_); rintro e w1 ⟨rfl, hb1⟩
        replace HS0 : Hid ((fun W => RowAt W (.slice ad l.length cap) l ∧ RowAt W u5 (mRow l k l.length) ∧ RowAt W u6 (bRow l l.length) ∧ Grew w 0 W) w1) := ⟨HS0.out.1.below hb1, HS0.out.2.1.below hb1, HS0.out.2.2.1.below hb1, HS0.out.2.2.2.below hb1⟩
        clear hb1
        try dsimp only
        go_wp2_with fail
        go_ret
        exact ⟨rfl, HS0.out.2.2.2.hb⟩
end Go.Proofs.Ytojfggnimmaemaa

/-
  A slice of places that comes in: opened.
-/
namespace Go.Proofs.Ytojfggnimmaemaa
open Go.RowKit Go.ChangeShapes Go.WideShapes Go.ChangeAt Go.Deep

instance : Inhabited Pt := ⟨⟨0, 0⟩⟩
set_option maxRecDepth 100000 in
theorem open_pts {H : Type} {enc : TypeId × Value → H} {w : World} {r : Reach} {b0 : Nat} {spare : Nat → Bool} {held : Bool} {v : Value} {d : DataW H} {p : List MemPlace}
    (hv : Value.okWide Try.prog w r b0 29 v) (h : DataW.Trod enc Try.prog w 0 spare held 29 v d p) : ∃ l : List Pt, RowAt w v l := by
  obtain ⟨a0, len0, cap0, rfl⟩ := okWide_slice Try.underlying29 hv
  obtain ⟨fuel, hf⟩ := h
  rcases open_slice_pairs Try.underlying29 Try.underlying23 (by kernel_rfl) rfl rfl (by kernel_rfl) (by kernel_rfl) hf with ⟨hcs, -⟩ | ⟨a, len, cap, m, n, V0, V1, D0, D1, P0, P1, hcs, -, hl, hm, hmm, -, hx⟩
  · simp [Value.cells] at hcs
    obtain ⟨rfl, rfl, rfl⟩ := hcs
    exact ⟨[], none, 0, rfl, fun h => absurd h (by simp)⟩
  simp [Value.cells] at hcs
  obtain ⟨rfl, rfl, rfl⟩ := hcs
  have hlm : len0 ≤ m := by rw [hmm]; split <;> omega
  have key : ∀ i, i < len0 → ∃ q : Pt, w.cell? (a.add (i * 2)) = some (.int .i64 q.x) ∧ w.cell? (a.add (i * 2 + 1)) = some (.int .i64 q.y) := by
    intro i hi
    obtain ⟨h1, h2, h3, h4⟩ := hx i (by omega)
    obtain ⟨x, e, -, -⟩ := DataW.trod_int Try.underlying3 h3
    obtain ⟨y, e2, -, -⟩ := DataW.trod_int Try.underlying3 h4
    simp at e e2
    exact ⟨⟨x, y⟩, by rw [h1, e], by rw [h2, e2]⟩
  obtain ⟨f, hf'⟩ := choose_lt key
  refine ⟨(List.range len0).map f, some a, cap0, by simp, fun h0 => ?_⟩
  obtain ⟨g, o, sp⟩ := a
  have hsp : sp = none := by simpa [Addr.add] using World.cell?_spot (hf' 0 (by simpa using h0)).1
  subst hsp
  refine ⟨g, o, rfl, fun i hi => ?_⟩
  have hi' : i < len0 := by simpa using hi
  have h1 := hf' i hi'
  rw [add_plain, add_plain] at h1
  have e : pget ((List.range len0).map f) i = f i := by unfold pget; simp [List.getD, hi']
  rw [e]
  exact ⟨h1.1, by have := h1.2; rw [show o + (i * 2 + 1) = o + i * 2 + 1 by omega] at this; exact this⟩
end Go.Proofs.Ytojfggnimmaemaa

namespace Go.Proofs.Ytojfggnimmaemaa.predConvexes
open Go.ChangeShapes Go.WideShapes Go.ChangeAt Go.RowKit

theorem own : ownKnob Try.prog.godebug = none := by kernel_rfl

set_option maxRecDepth 100000 in
theorem lifted (os : Os) (started : os.Started) (H : Type) (enc : TypeId × Value → H) :
    ReturnsInHanded {} Try.checked os 6 .any (Rows.predConvexesSpec.pre6 enc Try.prog Try.f6 Rows.predConvexesRow.domain false) (Rows.predConvexesSpec.post enc Try.prog Try.f6 false true false false) := by
  refine returnsInHanded_of_change (C := Try.checked) own started (by kernel_rfl) Try.func6
    (ChangeSpec.witness6 (enc := enc) (C := Try.checked) false ⟨#[], #[.slice none 0 0, .int .i64 0], []⟩ 8 (by kernel_rfl) (by kernel_rfl) (by kernel_rfl) (by kernel_rfl)) ?_
  intro W base args ds gs before hval0 hW _ _
  have hval : ∀ (j : Nat) t v, Try.f6.params[j]? = some t → args[j]? = some v → Value.okWide Try.prog W .any base t v := hval0
  have hW' := hW
  obtain ⟨p, q, hA0, hV, rfl, -, -⟩ := hW
  have hA : DataW.TrodAll enc Try.prog W 0 (fun _ => true) true Try.f6.params.toList args.toList ds p := hA0
  rw [Try.params6] at hA hval
  obtain ⟨v0, vs0, d0, ds0, p0, q0, hargs, rfl, rfl, h0, r0⟩ := trodAll_cons hA
  obtain ⟨v1, vs1, d1, ds1, p1, q1, hargs1, rfl, rfl, h1, r1⟩ := trodAll_cons r0
  obtain ⟨rfl, rfl, rfl⟩ := trodAll_nil r1
  obtain rfl : args = #[v0, v1] := by cases args; simp_all
  obtain ⟨rfl, rfl⟩ := trodVars_none hV
  obtain ⟨l, hB⟩ := open_pts (hval 0 29 v0 rfl rfl) h0
  obtain ⟨n, rfl, rfl, rfl, wn⟩ := open_int Try.underlying3 (hval 1 3 v1 rfl rfl) h1
  clear hA0 hval0
  have hn := bounds_i64 wn
  have hlt : ∀ x ∈ p0, x.block < W.heap.size := fun x hx => by simpa using hW'.lt x (by simpa using hx)
  simp only [List.append_nil] at hW'
  refine (pconvexes_l v0 l n hn W hB).mono fun e W' h => ?_
  obtain ⟨he, hb⟩ := h
  subst he
  have hargs2 : DataW.TrodAll enc Try.prog W' 0 (fun b => decide (b < W.heap.size)) true [29, 3] [v0, .int .i64 n] [d0, .lit (.int .i64 n)] p0 := by simpa using trodAll_cons_mk (Below.trod (by kernel_rfl) (by kernel_rfl) (of_decide_eq_true (by kernel_rfl)) h0 hb hlt) (trodAll_cons_mk (p := []) (p' := []) (shut_int Try.underlying3 wn) trodAll_mk0)
  exact ⟨_, rfl, _, _, _, [], p0, [], hW', trodAll_cons_mk (shut_bool Try.underlying4 _) trodAll_mk0, hargs2, rfl, hb.frame _, fun h => by cases h⟩

theorem proved : Rows.PredConvexesSaid :=
  OpenClaim.holds_of_wide 6 Try.f6 rfl rfl rfl rfl rfl rfl rfl ⟨rfl, rfl, rfl, rfl, rfl⟩ rfl rfl rfl rfl rfl (by kernel_rfl) Try.func6 (by kernel_rfl)
    (of_decide_eq_true (by kernel_rfl)) (by unfold Func.isWrapper; first | (rw [if_pos (by decide +kernel)]; kernel_rfl) | (rw [if_neg (by decide +kernel)]; exact ⟨rfl, rfl⟩))
    (fun os started H enc _ => lifted os started H enc)
end Go.Proofs.Ytojfggnimmaemaa.predConvexes
