/-
  Contracts: wide.Add, wide.Mul at a slice that is not nil.
-/
import Derived.Test.YtkidphekfnmhhaaFold
namespace Go.Proofs.Ytkidphekfnmhhaa
open Go.RowKit

theorem enter_addTwo (args : Array Value) (w : World) : (callFunc 75 args).run Try.prog w = .ok (.enter 75 args) w := enters_of Try.func75 (by kernel_rfl) rfl args w
theorem enter_mulTwo (args : Array Value) (w : World) : (callFunc 74 args).run Try.prog w = .ok (.enter 74 args) w := enters_of Try.func74 (by kernel_rfl) rfl args w

set_option maxHeartbeats 1000000 in
set_option maxRecDepth 100000 in
theorem add_c (g o n cap : Nat) (l : List Wd) (hn : l.length = n) (hbig : n ≤ 4611686018427387904) (w : World) (hl : WidesAt w g o l) :
    Calls Try.prog 61 #[.slice (some ⟨g, o, none⟩) n cap] w (FoldP (fun x y => x + y) 0 l w) := by
  have HL := Lib.hid hl
  have Hn := Lib.hid hn
  clear hl hn
  go_enter Try.func61, Try.ntmps61
  go_wp2_with fail
  refine (of_c 0 (by omega) (by omega) _).mono ?_
  rintro e w1 ⟨m, a, ha, hm, rfl, hb⟩
  obtain ⟨rfl, rfl⟩ := hm.out
  simp only [show decide ((0 : Int) < 0) = false from rfl, show (if (0 : Int) < 0 then -0 else 0 : Int) = 0 from rfl] at *
  go_wp2_with fail
  refine (fold_c 75 (fun x y => x + y) (fun m n a b c d x y z u h1 h2 w => addTwo_c m n a b c d x y z u h1 h2 w) enter_addTwo false 0 0 0 0 in4_zero (fun h => by cases h) g o n cap l Hn.out hbig _ ?_).mono ?_
  · intro i hi
    have h := HL.out i hi
    have hlt := h.1.lt
    exact ⟨(h.1.alloc _).below hb (by simp; omega), h.2⟩
  rintro e w2 ⟨m', s0, s1, s2, s3, er, hs, hv, rfl, hb2⟩
  have R1 : At5 w2 w.heap.size 0 ⟨false, 0, 0, 0, 0⟩ := by
    refine At5.below (At5.below ?_ hb (by simp)) hb2 (by have := hb.size; simp at this; omega)
    constructor <;> simp [go_sem]
  have R2 : Free5 w2 w.heap.size 0 := by
    refine Free5.below (Free5.below ?_ hb (by simp)) hb2 (by have := hb.size; simp at this; omega)
    constructor <;> simp [go_sem]
  have HB := Lib.hid (show Below w.heap.size w w2 from bl_trans (bl_trans (bl_alloc (Below.refl _ _) _) hb) hb2)
  obtain ⟨c0, c1, c2, c3, c4⟩ := R1
  obtain ⟨f0, f1, f2, f3, f4⟩ := R2
  simp only [Nat.zero_add] at c1 c2 c3 c4 f1 f2 f3 f4
  clear hb hb2
  go_wp2
  refine bodyPost_ret (v := .tuple #[(.agg #[.bool m', .int .u64 s0, .int .u64 s1, .int .u64 s2, .int .u64 s3]), .int .i64 er]) (by simp [results, Try.results61, go_sem, c0, c1, c2, c3, c4]) rfl ⟨m', s0, s1, s2, s3, er, hs, ?_, rfl, ?_⟩
  · have e : WV false 0 0 0 0 = 0 := by unfold WV; simp [v4_zero0]
    rw [e] at hv
    exact hv
  · have := HB.out
    repeat (first | (with_reducible exact Below.refl _ _) | (with_reducible refine bl_alloc ?_ _) | (with_reducible refine Below.drew ?_) | (with_reducible refine below_drewN' ?_ _) | ((with_reducible refine bl_set ?_ ?_ _); (rotate_left; (dsimp only; omega))))
    exact this

set_option maxHeartbeats 1000000 in
set_option maxRecDepth 100000 in
theorem mul_c (g o n cap : Nat) (l : List Wd) (hn : l.length = n) (hbig : n ≤ 4611686018427387904) (w : World) (hl : WidesAt w g o l) :
    Calls Try.prog 60 #[.slice (some ⟨g, o, none⟩) n cap] w (FoldP (fun x y => x * y) 1 l w) := by
  have HL := Lib.hid hl
  have Hn := Lib.hid hn
  clear hl hn
  go_enter Try.func60, Try.ntmps60
  go_wp2_with fail
  refine (of_c 1 (by omega) (by omega) _).mono ?_
  rintro e w1 ⟨m, a, ha, hm, rfl, hb⟩
  obtain ⟨rfl, rfl⟩ := hm.out
  simp only [show decide ((1 : Int) < 0) = false from rfl, show (if (1 : Int) < 0 then -1 else 1 : Int) = 1 from rfl] at *
  go_wp2_with fail
  refine (fold_c 74 (fun x y => x * y) (fun m n a b c d x y z u h1 h2 w => mulTwo_c m n a b c d x y z u h1 h2 w) enter_mulTwo false 1 0 0 0 (in4_small ha) (fun h => by cases h) g o n cap l Hn.out hbig _ ?_).mono ?_
  · intro i hi
    have h := HL.out i hi
    have hlt := h.1.lt
    exact ⟨(h.1.alloc _).below hb (by simp; omega), h.2⟩
  rintro e w2 ⟨m', s0, s1, s2, s3, er, hs, hv, rfl, hb2⟩
  have R1 : At5 w2 w.heap.size 0 ⟨false, 0, 0, 0, 0⟩ := by
    refine At5.below (At5.below ?_ hb (by simp)) hb2 (by have := hb.size; simp at this; omega)
    constructor <;> simp [go_sem]
  have R2 : Free5 w2 w.heap.size 0 := by
    refine Free5.below (Free5.below ?_ hb (by simp)) hb2 (by have := hb.size; simp at this; omega)
    constructor <;> simp [go_sem]
  have HB := Lib.hid (show Below w.heap.size w w2 from bl_trans (bl_trans (bl_alloc (Below.refl _ _) _) hb) hb2)
  obtain ⟨c0, c1, c2, c3, c4⟩ := R1
  obtain ⟨f0, f1, f2, f3, f4⟩ := R2
  simp only [Nat.zero_add] at c1 c2 c3 c4 f1 f2 f3 f4
  clear hb hb2
  go_wp2
  refine bodyPost_ret (v := .tuple #[(.agg #[.bool m', .int .u64 s0, .int .u64 s1, .int .u64 s2, .int .u64 s3]), .int .i64 er]) (by simp [results, Try.results60, go_sem, c0, c1, c2, c3, c4]) rfl ⟨m', s0, s1, s2, s3, er, hs, ?_, rfl, ?_⟩
  · have e : WV false 1 0 0 0 = 1 := by unfold WV; simp [v4_small]
    rw [e] at hv
    exact hv
  · have := HB.out
    repeat (first | (with_reducible exact Below.refl _ _) | (with_reducible refine bl_alloc ?_ _) | (with_reducible refine Below.drew ?_) | (with_reducible refine below_drewN' ?_ _) | ((with_reducible refine bl_set ?_ ?_ _); (rotate_left; (dsimp only; omega))))
    exact this
end Go.Proofs.Ytkidphekfnmhhaa
