/-
  Contracts at the chapter's examples: what known() calls, with its answers written out.
-/
import Derived.Test.YtpockemjfbaheaaAddMul
import Derived.Test.YtpockemjfbaheaaDivMod
import Derived.Test.YtpockemjfbaheaaParseW
import Derived.Test.YtpockemjfbaheaaText
namespace Go.Proofs.Ytpockemjfbaheaa
open Go.RowKit

/-- it answers v, and all that was there is as it was -/
def Gives (v : Value) (w : World) (e : Ending) (w' : World) : Prop := e = .returned v ∧ Below w.heap.size w w'

theorem of_pos (n : Int) (h0 : 0 ≤ n) (h1 : n ≤ 9223372036854775807) (w : World) : Calls Try.prog 32 #[.int .i64 n] w (Gives (.agg #[.bool false, .int .u64 n, .int .u64 0, .int .u64 0, .int .u64 0]) w) := by
  refine (of_c n (by omega) h1 w).mono ?_
  rintro e w1 ⟨m, a, -, k, rfl, hb⟩
  obtain ⟨rfl, rfl⟩ := k.out
  rw [if_neg (by omega)]
  exact ⟨by simp; omega, hb⟩
theorem of_neg (n : Int) (h0 : n < 0) (h1 : -9223372036854775808 ≤ n) (p : Int) (hp : p = -n) (w : World) : Calls Try.prog 32 #[.int .i64 n] w (Gives (.agg #[.bool true, .int .u64 p, .int .u64 0, .int .u64 0, .int .u64 0]) w) := by
  refine (of_c n h1 (by omega) w).mono ?_
  rintro e w1 ⟨m, a, -, k, rfl, hb⟩
  obtain ⟨rfl, rfl⟩ := k.out
  rw [if_pos h0]
  exact ⟨by simp [hp, h0], hb⟩

/-- two Wides in a new block -/
theorem wides2 (w : World) (x y : Wd) (hx : x.ok) (hy : y.ok) (t : TypeId) : WidesAt (w.alloc (.cells #[.bool x.m, .int .u64 x.a, .int .u64 x.b, .int .u64 x.c, .int .u64 x.d, .bool y.m, .int .u64 y.a, .int .u64 y.b, .int .u64 y.c, .int .u64 y.d] t)) w.heap.size 0 [x, y] := by
  intro i hi
  have : i = 0 ∨ i = 1 := by simp at hi; omega
  rcases this with rfl | rfl
  · exact ⟨by constructor <;> simp [go_sem, Wd.get], hx⟩
  · exact ⟨by constructor <;> simp [go_sem, Wd.get], hy⟩
theorem wides3 (w : World) (x y z : Wd) (hx : x.ok) (hy : y.ok) (hz : z.ok) (t : TypeId) : WidesAt (w.alloc (.cells #[.bool x.m, .int .u64 x.a, .int .u64 x.b, .int .u64 x.c, .int .u64 x.d, .bool y.m, .int .u64 y.a, .int .u64 y.b, .int .u64 y.c, .int .u64 y.d, .bool z.m, .int .u64 z.a, .int .u64 z.b, .int .u64 z.c, .int .u64 z.d] t)) w.heap.size 0 [x, y, z] := by
  intro i hi
  have : i = 0 ∨ i = 1 ∨ i = 2 := by simp at hi; omega
  rcases this with rfl | rfl | rfl
  · exact ⟨by constructor <;> simp [go_sem, Wd.get], hx⟩
  · exact ⟨by constructor <;> simp [go_sem, Wd.get], hy⟩
  · exact ⟨by constructor <;> simp [go_sem, Wd.get], hz⟩

/-- a fold's answer, where what it comes to is known -/
theorem fold_val {op : Int → Int → Int} {acc : Int} {l : List Wd} {w : World} {e : Ending} {w' : World} (h : FoldP op acc l w e w') {v : Int} (hv : fres op acc l = some v) :
    ∃ (m : Bool) (a b c d : Int), In4 a b c d ∧ WV m a b c d = v ∧ Norm m a b c d ∧ e = .returned (.tuple #[(.agg #[.bool m, .int .u64 a, .int .u64 b, .int .u64 c, .int .u64 d]), .int .i64 0]) ∧ Below w.heap.size w w' := by
  obtain ⟨m, a, b, c, d, er, hi, hk, rfl, hb⟩ := h
  rcases hk.out with ⟨rfl, h1, h2⟩ | ⟨-, -, h1⟩
  · rw [hv] at h1
    exact ⟨m, a, b, c, d, hi, (Option.some.inj h1).symm, h2, rfl, hb⟩
  · rw [hv] at h1; cases h1
theorem fold_none {op : Int → Int → Int} {acc : Int} {l : List Wd} {w : World} {e : Ending} {w' : World} (h : FoldP op acc l w e w') (hv : fres op acc l = none) :
    e = .returned (.tuple #[(.agg #[.bool false, .int .u64 0, .int .u64 0, .int .u64 0, .int .u64 0]), .int .i64 10]) ∧ Below w.heap.size w w' := by
  obtain ⟨m, a, b, c, d, er, hi, hk, rfl, hb⟩ := h
  rcases hk.out with ⟨rfl, h1, h2⟩ | ⟨rfl, ⟨rfl, rfl, rfl, rfl, rfl⟩, h1⟩
  · rw [hv] at h1; cases h1
  · exact ⟨rfl, hb⟩

theorem in1_lit (n : Int) (h0 : 0 ≤ n) (h1 : n < 18446744073709551616) : In1 n := ⟨h0, h1⟩
theorem in4_b64 : In4 0 1 0 0 := by unfold In4 In1; omega
theorem wv_b64 : WV false 0 1 0 0 = 18446744073709551616 := by unfold WV V4; simp
theorem norm_f (a b c d : Int) : Norm false a b c d := fun h => by cases h

set_option maxRecDepth 100000 in
theorem mul_known (w : World) : Calls Try.prog 33 #[.slice (some ⟨w.heap.size, 0, none⟩) 2 2] (w.alloc (.cells #[.bool false, .int .u64 4611686018427387904, .int .u64 0, .int .u64 0, .int .u64 0, .bool false, .int .u64 4, .int .u64 0, .int .u64 0, .int .u64 0] 44))
    (Gives (.tuple #[(.agg #[.bool false, .int .u64 0, .int .u64 1, .int .u64 0, .int .u64 0]), .int .i64 0]) (w.alloc (.cells #[.bool false, .int .u64 4611686018427387904, .int .u64 0, .int .u64 0, .int .u64 0, .bool false, .int .u64 4, .int .u64 0, .int .u64 0, .int .u64 0] 44))) := by
  have h := mul_c w.heap.size 0 2 2 [⟨false, 4611686018427387904, 0, 0, 0⟩, ⟨false, 4, 0, 0, 0⟩] rfl (by omega) _ (wides2 w ⟨false, 4611686018427387904, 0, 0, 0⟩ ⟨false, 4, 0, 0, 0⟩ (show In4 4611686018427387904 0 0 0 from in4_small (by unfold In1; omega)) (show In4 4 0 0 0 from in4_small (by unfold In1; omega)) 44)
  refine h.mono ?_
  intro e w' hp
  obtain ⟨m, a, b, c, d, hi, hv, hn, rfl, hb⟩ := fold_val hp (v := 18446744073709551616) (by simp [fres, Wd.val, WV, V4, M256])
  obtain ⟨rfl, rfl, rfl, rfl, rfl⟩ := wv_inj hi in4_b64 hn (norm_f _ _ _ _) (by rw [hv, wv_b64])
  exact ⟨rfl, hb⟩

def str20 : ByteArray := ⟨#[49, 56, 52, 52, 54, 55, 52, 52, 48, 55, 51, 55, 48, 57, 53, 53, 49, 54, 49, 54]⟩
theorem size20 : str20.size = 20 := rfl
theorem key20 : ∀ i : Fin 20, 48 ≤ (str20[i.val]'(by rw [size20]; exact i.2)).toNat ∧ (str20[i.val]'(by rw [size20]; exact i.2)).toNat ≤ 57 := by decide +kernel
theorem first20 : (str20[0]'(by rw [size20]; omega)).toNat = 49 := by decide
theorem dec20 : Dec str20 :=
  ⟨by rw [size20]; omega, by rw [size20]; omega, fun _ e => absurd (first20.symm.trans e) (by decide), fun i h => key20 ⟨i, by rw [← size20]; exact h⟩⟩
theorem val20 : decTo str20 str20.size = 18446744073709551616 := by decide +kernel
end Go.Proofs.Ytpockemjfbaheaa
