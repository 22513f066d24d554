/-
  Contracts of fold, Add and Mul of no number at all (an empty slice, nil or not).
-/
import Derived.Test.YtbgbmimgkhchhaaAddMul
namespace Go.Proofs.Ytbgbmimgkhchhaa
open Go.RowKit

set_option maxHeartbeats 1000000 in
set_option maxRecDepth 100000 in
theorem fold_nil (ad : Option Addr) (cp : Nat) (f : Nat) (m : Bool) (a b c d : Int) (w : World) :
    Calls Try.prog 41 #[(.agg #[.bool m, .int .u64 a, .int .u64 b, .int .u64 c, .int .u64 d]), .slice ad 0 cp, .func (.func f) #[] #[]] w fun e w' => e = .returned (.tuple #[(.agg #[.bool m, .int .u64 a, .int .u64 b, .int .u64 c, .int .u64 d]), .int .i64 0]) ∧ Below w.heap.size w w' := by
  go_enter Try.func41, Try.ntmps41
  go_wp2
  refine wp_loop_rounds 1 ?_
  rw [rounds_succ]
  go_wp2
  refine bodyPost_ret (v := .tuple #[(.agg #[.bool m, .int .u64 a, .int .u64 b, .int .u64 c, .int .u64 d]), .int .i64 0]) (by simp [results, Try.results41, go_sem]) rfl ⟨rfl, by repeat (first | (with_reducible exact Below.refl _ _) | (with_reducible refine bl_alloc ?_ _) | (with_reducible refine Below.drew ?_) | (with_reducible refine below_drewN' ?_ _) | ((with_reducible refine bl_set ?_ ?_ _); (rotate_left; (dsimp only; omega))))⟩

set_option maxHeartbeats 1000000 in
set_option maxRecDepth 100000 in
theorem add_nil (ad : Option Addr) (cp : Nat) (w : World) : Calls Try.prog 25 #[.slice ad 0 cp] w fun e w' => e = .returned (.tuple #[(.agg #[.bool false, .int .u64 0, .int .u64 0, .int .u64 0, .int .u64 0]), .int .i64 0]) ∧ Below w.heap.size w w' := by
  go_enter Try.func25, Try.ntmps25
  go_wp2_with fail
  refine (of_c 0 (by omega) (by omega) _).mono ?_
  rintro e w1 ⟨m, a, ha, hm, rfl, hb⟩
  obtain ⟨rfl, rfl⟩ := hm.out
  simp only [show decide ((0 : Int) < 0) = false from rfl, show (if (0 : Int) < 0 then -0 else 0 : Int) = 0 from rfl] at *
  go_wp2_with fail
  refine (fold_nil ad cp 42 false 0 0 0 0 _).mono ?_
  rintro e w2 ⟨rfl, hb2⟩
  have R1 : At5 w2 w.heap.size 0 ⟨false, 0, 0, 0, 0⟩ := by
    refine At5.below (At5.below ?_ hb (by simp)) hb2 (by have := hb.size; simp at this; omega)
    constructor <;> simp [go_sem]
  have R2 : Free5 w2 w.heap.size 0 := by
    refine Free5.below (Free5.below ?_ hb (by simp)) hb2 (by have := hb.size; simp at this; omega)
    constructor <;> simp [go_sem]
  have HB := Lib.hid (show Below w.heap.size w w2 from bl_trans (bl_trans (bl_alloc (Below.refl _ _) _) hb) hb2)
  obtain ⟨c0, c1, c2, c3, c4⟩ := R1
  obtain ⟨f0, f1, f2, f3, f4⟩ := R2
  simp only [Nat.zero_add] at c1 c2 c3 c4 f1 f2 f3 f4
  clear hb hb2
  go_wp2
  refine bodyPost_ret (v := .tuple #[(.agg #[.bool false, .int .u64 0, .int .u64 0, .int .u64 0, .int .u64 0]), .int .i64 0]) (by simp [results, Try.results25, go_sem, c0, c1, c2, c3, c4]) rfl ⟨rfl, ?_⟩
  have := HB.out
  repeat (first | (with_reducible exact Below.refl _ _) | (with_reducible refine bl_alloc ?_ _) | (with_reducible refine Below.drew ?_) | (with_reducible refine below_drewN' ?_ _) | ((with_reducible refine bl_set ?_ ?_ _); (rotate_left; (dsimp only; omega))))
  exact this

set_option maxHeartbeats 1000000 in
set_option maxRecDepth 100000 in
theorem mul_nil (ad : Option Addr) (cp : Nat) (w : World) : Calls Try.prog 28 #[.slice ad 0 cp] w fun e w' => e = .returned (.tuple #[(.agg #[.bool false, .int .u64 1, .int .u64 0, .int .u64 0, .int .u64 0]), .int .i64 0]) ∧ Below w.heap.size w w' := by
  go_enter Try.func28, Try.ntmps28
  go_wp2_with fail
  refine (of_c 1 (by omega) (by omega) _).mono ?_
  rintro e w1 ⟨m, a, ha, hm, rfl, hb⟩
  obtain ⟨rfl, rfl⟩ := hm.out
  simp only [show decide ((1 : Int) < 0) = false from rfl, show (if (1 : Int) < 0 then -1 else 1 : Int) = 1 from rfl] at *
  go_wp2_with fail
  refine (fold_nil ad cp 44 false 1 0 0 0 _).mono ?_
  rintro e w2 ⟨rfl, hb2⟩
  have R1 : At5 w2 w.heap.size 0 ⟨false, 0, 0, 0, 0⟩ := by
    refine At5.below (At5.below ?_ hb (by simp)) hb2 (by have := hb.size; simp at this; omega)
    constructor <;> simp [go_sem]
  have R2 : Free5 w2 w.heap.size 0 := by
    refine Free5.below (Free5.below ?_ hb (by simp)) hb2 (by have := hb.size; simp at this; omega)
    constructor <;> simp [go_sem]
  have HB := Lib.hid (show Below w.heap.size w w2 from bl_trans (bl_trans (bl_alloc (Below.refl _ _) _) hb) hb2)
  obtain ⟨c0, c1, c2, c3, c4⟩ := R1
  obtain ⟨f0, f1, f2, f3, f4⟩ := R2
  simp only [Nat.zero_add] at c1 c2 c3 c4 f1 f2 f3 f4
  clear hb hb2
  go_wp2
  refine bodyPost_ret (v := .tuple #[(.agg #[.bool false, .int .u64 1, .int .u64 0, .int .u64 0, .int .u64 0]), .int .i64 0]) (by simp [results, Try.results28, go_sem, c0, c1, c2, c3, c4]) rfl ⟨rfl, ?_⟩
  have := HB.out
  repeat (first | (with_reducible exact Below.refl _ _) | (with_reducible refine bl_alloc ?_ _) | (with_reducible refine Below.drew ?_) | (with_reducible refine below_drewN' ?_ _) | ((with_reducible refine bl_set ?_ ?_ _); (rotate_left; (dsimp only; omega))))
  exact this
end Go.Proofs.Ytbgbmimgkhchhaa
