/-
  The law WithinMiddles.
-/
import Derived.Test.YtkidphekfnmhhaaWRef
import Derived.Test.YtkidphekfnmhhaaWKnown
namespace Go.Proofs.Ytkidphekfnmhhaa
open Go.RowKit

theorem mid_swap (p l : List Pt) (a b : Int) : midN p l [b, a] = midN p l [a, b] ∧ midE p l [b, a] = midE p l [a, b] := by
  have e1 : [b, a].all (knownB p) = [a, b].all (knownB p) := by
    simp only [List.all_cons, List.all_nil, Bool.and_true]
    exact Bool.and_comm _ _
  have e2 : sumP p [b, a] = sumP p [a, b] := by
    unfold sumP
    simp only [List.foldl_cons, List.foldl_nil]
    exact Pt.ext' (by dsimp only; omega) (by dsimp only; omega)
  unfold midN midE
  rw [e1, e2]
  exact ⟨rfl, rfl⟩
theorem mid_turn (p l : List Pt) (a b c : Int) : midN p l [c, a, b] = midN p l [a, b, c] ∧ midE p l [c, a, b] = midE p l [a, b, c] := by
  have e1 : [c, a, b].all (knownB p) = [a, b, c].all (knownB p) := by
    simp only [List.all_cons, List.all_nil, Bool.and_true]
    rw [Bool.and_comm, Bool.and_assoc]
  have e2 : sumP p [c, a, b] = sumP p [a, b, c] := by
    unfold sumP
    simp only [List.foldl_cons, List.foldl_nil]
    exact Pt.ext' (by dsimp only; omega) (by dsimp only; omega)
  unfold midN midE
  rw [e1, e2]
  exact ⟨rfl, rfl⟩
set_option maxHeartbeats 8000000 in
set_option maxRecDepth 100000 in
theorem wmids_l (w : World) (p : List Pt) (ap : Option Addr) (cp : Nat) (_ : p.length ≤ cp) (hP : PtRow w ap p) (_ : ap = none → cp = 0) (l : List Pt) (al : Option Addr) (cl : Nat) (_ : l.length ≤ cl) (hL : PtRow w al l) (_ : al = none → cl = 0) (a b c : Int) :
    Calls Try.prog 4 #[.slice ap p.length cp, .slice al l.length cl, .int .i64 a, .int .i64 b, .int .i64 c] w (Gives (.bool true) w) := by
  have KN := Lib.hid (fun W => lawK_l W)
  have HP := Lib.hid hP
  have HL := Lib.hid hL
  clear hP hL
  go_enter Try.func4, Try.ntmps4
  have HM := Lib.hid (many_l p.length l.length ap al cp cl w)
  obtain ⟨r, hr⟩ : ∃ r, (decide (200 < p.length) || decide (200 < l.length)) = r := ⟨_, rfl⟩
  rw [hr] at HM
  have HR := Lib.hid hr
  clear hr
  go_wp2_with fail
  (with_reducible refine HM.out.mono ?_); rintro e w2 ⟨rfl, hb2⟩
  have HB := Lib.hid hb2
  clear hb2 HM
  cases r
  case true =>
    go_wp2_with fail
    (with_reducible refine (KN.out _).mono ?_); rintro e w3 ⟨rfl, hb2⟩
    replace HB := Lib.hid (bl_trans HB.out hb2)
    clear hb2
    go_wp2_with fail
    go_ret
    exact ⟨rfl, HB.out⟩
  case false =>
  have hll : l.length ≤ 10000 := by
    have := HR.out
    simp at this
    omega
  have H1 := Lib.hid (fun W (h : Below w.heap.size w W) => half9_l p l a b ap al cp cl W (HP.out.below h) (HL.out.below h) hll)
  have H2 : Hid (∀ W, Below w.heap.size w W → Calls Try.prog 17 #[.slice ap p.length cp, .slice al l.length cl, .slice (some ⟨W.heap.size, 0, none⟩) 2 2] (W.alloc (.cells #[.int .i64 a, .int .i64 b] 3)) (Gives (.tuple #[.int .i64 (midN p l [a, b]), .int .i64 (midE p l [a, b])]) (W.alloc (.cells #[.int .i64 a, .int .i64 b] 3)))) := fun W h =>
    refMid9_l p l [a, b] ap al W.heap.size 0 cp cl 2 _ (HP.out.below (bl_trans h (bl_one _ _))) (HL.out.below (bl_trans h (bl_one _ _))) (intRow_n2 W a b _) hll (by simp)
  have H3 := Lib.hid (fun W (h : Below w.heap.size w W) => third9_l p l a b c ap al cp cl W (HP.out.below h) (HL.out.below h) hll)
  have H4 : Hid (∀ W, Below w.heap.size w W → Calls Try.prog 17 #[.slice ap p.length cp, .slice al l.length cl, .slice (some ⟨W.heap.size, 0, none⟩) 3 3] (W.alloc (.cells #[.int .i64 a, .int .i64 b, .int .i64 c] 3)) (Gives (.tuple #[.int .i64 (midN p l [a, b, c]), .int .i64 (midE p l [a, b, c])]) (W.alloc (.cells #[.int .i64 a, .int .i64 b, .int .i64 c] 3)))) := fun W h =>
    refMid9_l p l [a, b, c] ap al W.heap.size 0 cp cl 3 _ (HP.out.below (bl_trans h (bl_one _ _))) (HL.out.below (bl_trans h (bl_one _ _))) (intRow_n3 W a b c _) hll (by simp)
  have H5 := Lib.hid (fun W (h : Below w.heap.size w W) => half9_u p l b a (mid_swap p l a b) ap al cp cl W (HP.out.below h) (HL.out.below h) hll)
  have H6 := Lib.hid (fun W (h : Below w.heap.size w W) => third9_u p l c a b (mid_turn p l a b c) ap al cp cl W (HP.out.below h) (HL.out.below h) hll)
  clear hll HR
  generalize midN p l [a, b] = n2 at *
  generalize midE p l [a, b] = e2 at *
  generalize midN p l [a, b, c] = n3 at *
  generalize midE p l [a, b, c] = e3 at *
  go_wp2_with fail
  (with_reducible refine (H1.out _ HB.out).mono ?_); rintro e' w3 ⟨rfl, hb2⟩
  replace HB := Lib.hid (bl_trans HB.out hb2)
  clear hb2 H1
  go_wp2_with fail
  (with_reducible refine (H2.out _ HB.out).mono ?_); rintro e' w4 ⟨rfl, hb2⟩
  replace HB := Lib.hid (bl_trans HB.out (bl_trans (bl_one w3 (.cells #[.int .i64 a, .int .i64 b] 3)) hb2))
  clear hb2 H2
  go_wp2_with fail
  (with_reducible refine (H3.out _ HB.out).mono ?_); rintro e' w5 ⟨rfl, hb2⟩
  replace HB := Lib.hid (bl_trans HB.out hb2)
  clear hb2 H3
  go_wp2_with fail
  (with_reducible refine (H4.out _ HB.out).mono ?_); rintro e' w6 ⟨rfl, hb2⟩
  replace HB := Lib.hid (bl_trans HB.out (bl_trans (bl_one w5 (.cells #[.int .i64 a, .int .i64 b, .int .i64 c] 3)) hb2))
  clear hb2 H4
  go_wp2_with fail
  (with_reducible refine (H5.out _ HB.out).mono ?_); rintro e' w7 ⟨rfl, hb2⟩
  replace HB := Lib.hid (bl_trans HB.out hb2)
  clear hb2 H5
  go_wp2_with fail
  (with_reducible refine (H6.out _ HB.out).mono ?_); rintro e' w8 ⟨rfl, hb2⟩
  replace HB := Lib.hid (bl_trans HB.out hb2)
  clear hb2 H6
  go_wp2_with fail
  (with_reducible refine (KN.out _).mono ?_); rintro e' w9 ⟨rfl, hb2⟩
  replace HB := Lib.hid (bl_trans HB.out hb2)
  clear hb2
  go_wp2_with fail
  go_ret
  exact ⟨rfl, HB.out⟩
end Go.Proofs.Ytkidphekfnmhhaa
