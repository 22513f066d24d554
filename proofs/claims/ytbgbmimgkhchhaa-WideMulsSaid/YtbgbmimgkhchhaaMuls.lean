/-
  The walk of the law WideMuls.
-/
import Derived.Test.YtbgbmimgkhchhaaKnown
import Derived.Test.YtbgbmimgkhchhaaTwo2
import Derived.Test.YtbgbmimgkhchhaaRefNil
import Derived.Test.YtbgbmimgkhchhaaFoldNil
namespace Go.Proofs.Ytbgbmimgkhchhaa
open Go.RowKit

/-- a []Wide as the walk meets it: of no element, or its Wides lie in memory -/
def WSlice (w : World) (ad : Option Addr) (l : List Wd) : Prop := l = [] ∨ ∃ g o, ad = some ⟨g, o, none⟩ ∧ WidesAt w g o l
theorem WSlice.below {w w' : World} {ad : Option Addr} {l : List Wd} (h : WSlice w ad l) (hb : Below w.heap.size w w') : WSlice w' ad l := by
  rcases h with h | ⟨g, o, e, h⟩
  · exact .inl h
  · exact .inr ⟨g, o, e, h.below hb⟩

theorem fold_of_wide {op : Int → Int → Int} {z : Int} (hz : -M256 < z ∧ z < M256) {w : World} {e : Ending} {w' : World} (h : WideP z w e w') : FoldP op z [] w e w' := by
  obtain ⟨m, a, b, c, d, er, hi, hk, he, hb⟩ := h
  refine ⟨m, a, b, c, d, er, hi, ?_, he, hb⟩
  rcases hk.out with ⟨e0, h1, h2, -, -⟩ | ⟨-, -, h1⟩
  · exact .inl ⟨e0, by rw [h1]; rfl, h2⟩
  · omega
theorem mul_any (ad : Option Addr) (cp : Nat) (l : List Wd) (hl : l.length ≤ 200) (w : World) (h : WSlice w ad l) :
    Calls Try.prog 28 #[.slice ad l.length cp] w (FoldP (fun x y => x * y) 1 l w) := by
  rcases h with rfl | ⟨g, o, rfl, h⟩
  · exact (mul_nil ad cp w).mono fun e w' ⟨he, hb⟩ => ⟨false, 1, 0, 0, 0, 0, by unfold In4 In1; omega, .inl ⟨rfl, by simp [fres, WV, V4], by simp [Norm]⟩, he, hb⟩
  · exact mul_c g o l.length cp l rfl (by omega) w h
theorem refMul_any (ad : Option Addr) (cp : Nat) (l : List Wd) (hl : l.length ≤ 200) (w : World) (h : WSlice w ad l) :
    Calls Try.prog 29 #[.slice ad l.length cp] w (FoldP (fun x y => x * y) 1 l w) := by
  rcases h with rfl | ⟨g, o, rfl, h⟩
  · exact (refMul_nil ad cp w).mono fun e w' h => fold_of_wide (by unfold M256; omega) h
  · exact refMul_some g o l.length cp l rfl hl w h
theorem add_any (ad : Option Addr) (cp : Nat) (l : List Wd) (hl : l.length ≤ 200) (w : World) (h : WSlice w ad l) :
    Calls Try.prog 25 #[.slice ad l.length cp] w (FoldP (fun x y => x + y) 0 l w) := by
  rcases h with rfl | ⟨g, o, rfl, h⟩
  · exact (add_nil ad cp w).mono fun e w' ⟨he, hb⟩ => ⟨false, 0, 0, 0, 0, 0, by unfold In4 In1; omega, .inl ⟨rfl, by simp [fres, WV, V4], by simp [Norm]⟩, he, hb⟩
  · exact add_c g o l.length cp l rfl (by omega) w h
theorem refAdd_any (ad : Option Addr) (cp : Nat) (l : List Wd) (hl : l.length ≤ 200) (w : World) (h : WSlice w ad l) :
    Calls Try.prog 26 #[.slice ad l.length cp] w (FoldP (fun x y => x + y) 0 l w) := by
  rcases h with rfl | ⟨g, o, rfl, h⟩
  · exact (refAdd_nil ad cp w).mono fun e w' h => fold_of_wide (by unfold M256; omega) h
  · exact refAdd_some g o l.length cp l rfl hl w h

def FoldIs (op : Int → Int → Int) (acc : Int) (l : List Wd) (m : Bool) (a b c d er : Int) : Prop :=
  (er = 0 ∧ fres op acc l = some (WV m a b c d) ∧ Norm m a b c d) ∨ (er = 10 ∧ (m = false ∧ a = 0 ∧ b = 0 ∧ c = 0 ∧ d = 0) ∧ fres op acc l = none)
/-- what a fold comes to is one thing -/
theorem fold_same {op : Int → Int → Int} {acc : Int} {l : List Wd} {m n : Bool} {a b c d er x y z u er' : Int} (hi : In4 a b c d) (hi' : In4 x y z u)
    (h : FoldIs op acc l m a b c d er) (h' : FoldIs op acc l n x y z u er') : m = n ∧ a = x ∧ b = y ∧ c = z ∧ d = u ∧ er = er' := by
  rcases h with ⟨rfl, h1, h2⟩ | ⟨rfl, ⟨rfl, rfl, rfl, rfl, rfl⟩, h1⟩ <;> rcases h' with ⟨rfl, k1, k2⟩ | ⟨rfl, ⟨rfl, rfl, rfl, rfl, rfl⟩, k1⟩
  · rw [h1] at k1
    obtain ⟨q0, q1, q2, q3, q4⟩ := wv_inj hi hi' h2 k2 (Option.some.inj k1)
    exact ⟨q0, q1, q2, q3, q4, rfl⟩
  · rw [h1] at k1; cases k1
  · rw [h1] at k1; cases k1
  · exact ⟨rfl, rfl, rfl, rfl, rfl, rfl⟩

set_option maxHeartbeats 40000000 in
set_option maxRecDepth 100000 in
theorem muls_c (ad : Option Addr) (cp : Nat) (l : List Wd) (w : World) (hS : WSlice w ad l) :
    Calls Try.prog 6 #[.slice ad l.length cp] w (Gives (.bool true) w) := by
  have HS := Lib.hid hS
  clear hS
  go_enter Try.func6, Try.ntmps6
  by_cases hb : l.length ≤ 200
  · go_upto_region 3 with (fail)
    go_cut [3, 4] (fun pv ev W => ∃ gn nm n0 n1 n2 n3 ne, pv = .pointer (some ⟨gn, 0, none⟩) ∧ ev = .int .i64 ne ∧ Hid (FoldIs (fun x y => x * y) 1 l nm n0 n1 n2 n3 ne) ∧ Hid (In4 n0 n1 n2 n3) ∧ Env w [(gn, (⟨nm, n0, n1, n2, n3⟩ : Wd))] W)
    case first =>
      go_wp2_with (first
        | (go_at_call 28; (with_reducible refine (mul_any ad cp l hb _ HS.out).mono ?_); rintro e w2 ⟨ym, y0, y1, y2, y3, er, hi, hk, rfl, hb2⟩
           have HI := Lib.hid hi
           clear hi
           have HE2 := Lib.hid (show Env w [] w2 from ⟨fun p hp => by simp at hp, hb2⟩))
        | go_in)
      go_meet
      case rel => exact ⟨_, _, _, _, _, _, _, rfl, rfl, hk, HI, by first | exact HE2.out.new _ rfl _ _ _ _ _ _ | exact HE2.out.new _ (by simp) _ _ _ _ _ _⟩
    case rest =>
      obtain ⟨gx, xm, x0, x1, x2, x3, erx, rfl, rfl, Kx, Ix, S⟩ := hcut
      have HE := Lib.hid S
      clear S
      go_upto_region 4 with (fail)
      go_cut [5, 6] (fun pv ev W => ∃ gn nm n0 n1 n2 n3 ne, pv = .pointer (some ⟨gn, 0, none⟩) ∧ ev = .int .i64 ne ∧ Hid (FoldIs (fun x y => x * y) 1 l nm n0 n1 n2 n3 ne) ∧ Hid (In4 n0 n1 n2 n3) ∧ Env w [(gn, (⟨nm, n0, n1, n2, n3⟩ : Wd)), (gx, (⟨xm, x0, x1, x2, x3⟩ : Wd))] W)
      case first =>
        go_wp2_with (first
          | (go_at_call 29; (with_reducible refine (refMul_any ad cp l hb _ (HS.out.below HE.out.hb)).mono ?_); rintro e w2 ⟨ym, y0, y1, y2, y3, er, hi, hk, rfl, hb2⟩
             have HI := Lib.hid hi
             clear hi
             have HE2 := Lib.hid (HE.out.below hb2))
          | go_in)
        go_meet
        case rel => exact ⟨_, _, _, _, _, _, _, rfl, rfl, hk, HI, by first | exact HE2.out.new _ rfl _ _ _ _ _ _ | exact HE2.out.new _ (by simp) _ _ _ _ _ _⟩
      case rest =>
        obtain ⟨gy, ym, y0, y1, y2, y3, ery, rfl, rfl, Ky, Iy, S⟩ := hcut
        clear HE
        have HE := Lib.hid S
        clear S
        obtain ⟨rfl, rfl, rfl, rfl, rfl, rfl⟩ := fold_same Ix.out Iy.out Kx.out Ky.out
        clear Ky Iy Kx Ix
        obtain ⟨c0, c1, c2, c3, c4⟩ := HE.out.cells (g := gx) (m := xm) (a := x0) (b := x1) (c := x2) (d := x3) (List.mem_cons_of_mem _ List.mem_cons_self)
        obtain ⟨d0, d1, d2, d3, d4⟩ := HE.out.cells (g := gy) (m := xm) (a := x0) (b := x1) (c := x2) (d := x3) List.mem_cons_self
        have q1 := eqKnown xm x0 x1 x2 x3
        go_wp2_with (first
          | (go_at_call 23; (with_reducible refine (known_c _).mono ?_); rintro e w1 ⟨rfl, hb1⟩)
          | go_in)
        go_ret
        exact ⟨by first | rfl | simp, bl_trans HE.out.hb hb1⟩
  · go_wp2_with (first
      | (go_at_call 23; (with_reducible refine (known_c _).mono ?_); rintro e w1 ⟨rfl, hb1⟩)
      | go_in)
    go_ret
    exact ⟨by first | rfl | simp, hb1⟩
end Go.Proofs.Ytbgbmimgkhchhaa
