/-
  Add and Mul of two numbers; answers of the same number are the same.
-/
import Derived.Test.YtkidphekfnmhhaaEnv
namespace Go.Proofs.Ytkidphekfnmhhaa
open Go.RowKit

theorem Env.less {w : World} {p : Nat × Wd} {l : List (Nat × Wd)} {W : World} (h : Env w (p :: l) W) : Env w l W := ⟨fun q hq => h.at5 q (List.mem_cons_of_mem _ hq), h.hb⟩
theorem fold2 {op : Int → Int → Int} {acc : Int} {X Y : Wd} {w : World} {e : Ending} {w' : World} (h0 : op acc X.val = X.val) (hX : X.ok) (h : FoldP op acc [X, Y] w e w') : WideP (op X.val Y.val) w e w' := by
  have hb : -M256 < X.val ∧ X.val < M256 := wv_bounds (m := X.m) hX
  have e1 : fres op acc [X, Y] = if -M256 < op X.val Y.val ∧ op X.val Y.val < M256 then some (op X.val Y.val) else none := by
    simp only [fres, h0]
    rw [if_pos hb]
  by_cases hr : -M256 < op X.val Y.val ∧ op X.val Y.val < M256
  · rw [if_pos hr] at e1
    obtain ⟨m, a, b, c, d, hi, hv, hn, rfl, hb'⟩ := fold_val h e1
    exact wideP_ok hi ⟨hv, hn, hr.1, hr.2⟩ hb'
  · rw [if_neg hr] at e1
    obtain ⟨rfl, hb'⟩ := fold_none h e1
    exact wideP_no (by omega) hb'
theorem add2_c (X Y : Wd) (hX : X.ok) (hY : Y.ok) (g : Nat) (W : World) (t : TypeId) (hg : g = W.heap.size) :
    Calls Try.prog 61 #[.slice (some ⟨g, 0, none⟩) 2 2] (W.alloc (.cells #[.bool X.m, .int .u64 X.a, .int .u64 X.b, .int .u64 X.c, .int .u64 X.d, .bool Y.m, .int .u64 Y.a, .int .u64 Y.b, .int .u64 Y.c, .int .u64 Y.d] t))
      (WideP (X.val + Y.val) (W.alloc (.cells #[.bool X.m, .int .u64 X.a, .int .u64 X.b, .int .u64 X.c, .int .u64 X.d, .bool Y.m, .int .u64 Y.a, .int .u64 Y.b, .int .u64 Y.c, .int .u64 Y.d] t))) :=
  (add_c g 0 2 2 [X, Y] rfl (by omega) _ (wides2' W g hg X Y hX hY t)).mono fun _ _ h => fold2 (by simp) hX h
theorem mul2_c (X Y : Wd) (hX : X.ok) (hY : Y.ok) (g : Nat) (W : World) (t : TypeId) (hg : g = W.heap.size) :
    Calls Try.prog 60 #[.slice (some ⟨g, 0, none⟩) 2 2] (W.alloc (.cells #[.bool X.m, .int .u64 X.a, .int .u64 X.b, .int .u64 X.c, .int .u64 X.d, .bool Y.m, .int .u64 Y.a, .int .u64 Y.b, .int .u64 Y.c, .int .u64 Y.d] t))
      (WideP (X.val * Y.val) (W.alloc (.cells #[.bool X.m, .int .u64 X.a, .int .u64 X.b, .int .u64 X.c, .int .u64 X.d, .bool Y.m, .int .u64 Y.a, .int .u64 Y.b, .int .u64 Y.c, .int .u64 Y.d] t))) :=
  (mul_c g 0 2 2 [X, Y] rfl (by omega) _ (wides2' W g hg X Y hX hY t)).mono fun _ _ h => fold2 (by simp) hX h

theorem ok_same {n k : Int} {m m' : Bool} {a b c d er a' b' c' d' er' : Int} (hi : In4 a b c d) (hi' : In4 a' b' c' d') (h : WideOk n m a b c d er) (h' : WideOk k m' a' b' c' d' er') (hk : n = k) :
    m = m' ∧ a = a' ∧ b = b' ∧ c = c' ∧ d = d' ∧ er = er' := by
  subst hk
  rcases h with ⟨rfl, h1, h2, h3, h4⟩ | ⟨rfl, ⟨rfl, rfl, rfl, rfl, rfl⟩, h1⟩ <;> rcases h' with ⟨rfl, k1, k2, k3, k4⟩ | ⟨rfl, ⟨rfl, rfl, rfl, rfl, rfl⟩, k1⟩
  · obtain ⟨e1, e2, e3, e4, e5⟩ := wv_inj hi hi' h2 k2 (h1.trans k1.symm)
    exact ⟨e1, e2, e3, e4, e5, rfl⟩
  · omega
  · omega
  · exact ⟨rfl, rfl, rfl, rfl, rfl, rfl⟩
theorem ok_err {n : Int} {m : Bool} {a b c d er : Int} (h : WideOk n m a b c d er) : er = 0 ∨ er = 10 := by
  rcases h with ⟨h, -⟩ | ⟨h, -⟩ <;> simp [h]
theorem ok_val {n : Int} {m : Bool} {a b c d er : Int} (h : WideOk n m a b c d er) (h0 : er = 0) : WV m a b c d = n ∧ Norm m a b c d ∧ -M256 < n ∧ n < M256 := by
  rcases h with ⟨-, h⟩ | ⟨h, -⟩
  · exact h
  · omega
end Go.Proofs.Ytkidphekfnmhhaa
