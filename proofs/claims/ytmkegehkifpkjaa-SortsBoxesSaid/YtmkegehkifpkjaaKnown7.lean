/-
  The chapter's example of layer 7.
-/
import Derived.Test.YtmkegehkifpkjaaTwice
import Derived.Test.YtmkegehkifpkjaaBox
import Derived.Test.YtmkegehkifpkjaaSameI
import Derived.Test.YtmkegehkifpkjaaRanks
namespace Go.Proofs.Ytmkegehkifpkjaa
open Go.RowKit

def P4 : List Pt := [⟨4, 0⟩, ⟨0, 9⟩, ⟨0, 1⟩, ⟨4, 0⟩]
theorem order_P4 : msort (ltI P4) (idx P4.length) = [2, 1, 0, 3] := ordered_only (ordered_msort P4) ⟨by decide, by decide⟩
theorem ranks_P4 : ranksM P4 = [2, 1, 0, 2] := by decide
theorem twice_P4 {a b : Int} {ok : Bool} (h : TwiceIs P4 a b ok) : a = 0 ∧ b = 3 ∧ ok = true := by
  have key : ∀ k' < 4, ∀ i' < k', pget P4 i' = pget P4 k' → 0 < i' ∨ (0 = i' ∧ 3 ≤ k') := by decide
  exact twice_only h (.inr ⟨rfl, 0, 3, rfl, rfl, ⟨by decide, by decide, by decide, fun i' k' h1 h2 h3 => key k' h2 i' h1 h3⟩⟩)
theorem box_P4 {lo hi : Pt} {ok : Bool} (h : BoxIs P4 lo hi ok) : lo = ⟨0, 0⟩ ∧ hi = ⟨4, 9⟩ ∧ ok = true := by
  rcases h with ⟨-, h, -⟩ | ⟨e, -, h⟩
  · exact absurd h (by decide)
  · have h2 : BoxTo P4 4 ⟨0, 0⟩ ⟨4, 9⟩ := ⟨⟨1, by decide⟩, ⟨0, by decide⟩, ⟨0, by decide⟩, ⟨1, by decide⟩, by decide⟩
    obtain ⟨a, b⟩ := box_only h h2
    exact ⟨a, b, e⟩
theorem ptRow_P4 (W : World) (t : TypeId) : PtRow (W.alloc (.cells #[.int .i64 4, .int .i64 0, .int .i64 0, .int .i64 9, .int .i64 0, .int .i64 1, .int .i64 4, .int .i64 0] t)) (some ⟨W.heap.size, 0, none⟩) P4 := by
  intro i hi
  refine ⟨_, _, rfl, ?_⟩
  match i, hi with
  | 0, _ => exact ⟨by simp [go_sem, pget, P4], by simp [go_sem, pget, P4]⟩
  | 1, _ => exact ⟨by simp [go_sem, pget, P4], by simp [go_sem, pget, P4]⟩
  | 2, _ => exact ⟨by simp [go_sem, pget, P4], by simp [go_sem, pget, P4]⟩
  | 3, _ => exact ⟨by simp [go_sem, pget, P4], by simp [go_sem, pget, P4]⟩
theorem intRow_new4 (W : World) (a b c d : Int) (t : TypeId) : IntRow (W.alloc (.cells #[.int .i64 a, .int .i64 b, .int .i64 c, .int .i64 d] t)) (some ⟨W.heap.size, 0, none⟩) [a, b, c, d] := by
  intro i hi
  refine ⟨_, _, rfl, ?_⟩
  match i, hi with
  | 0, _ => simp [go_sem]
  | 1, _ => simp [go_sem]
  | 2, _ => simp [go_sem]
  | 3, _ => simp [go_sem]
set_option maxHeartbeats 8000000 in
set_option maxRecDepth 100000 in
theorem known_l (w : World) : Calls Try.prog 10 #[] w (Gives (.bool true) w) := by
  have HT := Lib.hid (fun W a (h : PtRow W a P4) => twice_l P4 a 4 W h (by decide) (by decide))
  have HX := Lib.hid (fun W a (h : PtRow W a P4) => box_l P4 a 4 W h (by decide) (by decide))
  have HO := Lib.hid (fun W a (h : PtRow W a P4) => order_l P4 a 4 W h (by decide) (by decide))
  have HR := Lib.hid (fun W a (h : PtRow W a P4) => ranks_l P4 a 4 W h (by decide) (by decide))
  rw [order_P4] at HO
  rw [ranks_P4] at HR
  simp only [show P4.length = 4 from rfl] at HT HX HO HR
  go_enter Try.func10, Try.ntmps10
  go_wp2_with fail
  have HP := Lib.hid (ptRow_P4 w 28)
  have HB := Lib.hid (bl_one w (.cells #[.int .i64 4, .int .i64 0, .int .i64 0, .int .i64 9, .int .i64 0, .int .i64 1, .int .i64 4, .int .i64 0] 28))
  generalize w.alloc (.cells #[.int .i64 4, .int .i64 0, .int .i64 0, .int .i64 9, .int .i64 0, .int .i64 1, .int .i64 4, .int .i64 0] 28) = W1 at *
  generalize hw9 : w.heap.size = g9 at HP ⊢
  (with_reducible refine (HT.out _ _ HP.out).mono ?_); rintro e w2 ⟨a, b, ok, rfl, hT, hb1⟩
  obtain ⟨rfl, rfl, rfl⟩ := twice_P4 hT
  replace HP := Lib.hid (HP.out.below hb1)
  replace HB := Lib.hid (bl_trans HB.out hb1)
  clear hT hb1
  go_wp2_with fail
  (with_reducible refine (HX.out _ _ HP.out).mono ?_); rintro e w3 ⟨lo, hi, ok, rfl, hT, hb1⟩
  obtain ⟨rfl, rfl, rfl⟩ := box_P4 hT
  replace HP := Lib.hid (HP.out.below hb1)
  replace HB := Lib.hid (bl_trans HB.out hb1)
  clear hT hb1
  go_wp2_with fail
  have HV5 := Lib.hid ((var2_new w3 (.int .i64 0) (.int .i64 0) 28 w3.heap.size rfl).below (bl_one _ (.cells #[.int .i64 4, .int .i64 9] 28)))
  have HV6 := Lib.hid (var2_new (w3.alloc (.cells #[.int .i64 0, .int .i64 0] 28)) (.int .i64 4) (.int .i64 9) 28 (w3.heap.size + 1) (by simp))
  replace HP := Lib.hid (HP.out.below (bl_alloc (bl_one w3 (.cells #[.int .i64 0, .int .i64 0] 28)) (.cells #[.int .i64 4, .int .i64 9] 28)))
  replace HB := Lib.hid (bl_alloc (bl_alloc HB.out (.cells #[.int .i64 0, .int .i64 0] 28)) (.cells #[.int .i64 4, .int .i64 9] 28))
  generalize (w3.alloc (.cells #[.int .i64 0, .int .i64 0] 28)).alloc (.cells #[.int .i64 4, .int .i64 9] 28) = W4 at *
  generalize w3.heap.size + 1 = g6 at *
  generalize w3.heap.size = g5 at *
  (with_reducible refine (HO.out _ _ HP.out).mono ?_); rintro e w4 ⟨v4, rfl, hO⟩
  have hb1 := hO.hb
  obtain ⟨ad4, c4, rfl, -, hI, -⟩ := hO.slice
  replace HV5 := Lib.hid (HV5.out.below hb1)
  replace HV6 := Lib.hid (HV6.out.below hb1)
  replace HP := Lib.hid (HP.out.below hb1)
  replace HB := Lib.hid (bl_trans HB.out hb1)
  have HI := Lib.hid hI
  clear hO hb1 hI
  go_wp2_with fail
  replace HV5 := Lib.hid (HV5.out.below (bl_one w4 (.cells #[.int .i64 2, .int .i64 1, .int .i64 0, .int .i64 3] 3)))
  replace HV6 := Lib.hid (HV6.out.below (bl_one w4 (.cells #[.int .i64 2, .int .i64 1, .int .i64 0, .int .i64 3] 3)))
  replace HP := Lib.hid (HP.out.below (bl_one w4 (.cells #[.int .i64 2, .int .i64 1, .int .i64 0, .int .i64 3] 3)))
  replace HI := Lib.hid (HI.out.below (bl_one w4 (.cells #[.int .i64 2, .int .i64 1, .int .i64 0, .int .i64 3] 3)))
  replace HB := Lib.hid (bl_alloc HB.out (.cells #[.int .i64 2, .int .i64 1, .int .i64 0, .int .i64 3] 3))
  have HN := Lib.hid (intRow_new4 w4 2 1 0 3 3)
  generalize w4.alloc (.cells #[.int .i64 2, .int .i64 1, .int .i64 0, .int .i64 3] 3) = w4a at *
  (with_reducible refine (sameInts_l _ _ _ _ _ _ 4 4 _ HI.out HN.out rfl rfl (by decide)).mono ?_); rintro e w4b ⟨rfl, hb1⟩
  replace HV5 := Lib.hid (HV5.out.below hb1)
  replace HV6 := Lib.hid (HV6.out.below hb1)
  replace HP := Lib.hid (HP.out.below hb1)
  replace HB := Lib.hid (bl_trans HB.out hb1)
  clear HI HN hb1
  go_wp2_with fail
  (with_reducible refine (HR.out _ _ HP.out).mono ?_); rintro e w5 ⟨v5, rfl, hO⟩
  have hb1 := hO.hb
  obtain ⟨ad4, c4, rfl, -, hI, -⟩ := hO.slice
  replace HV5 := Lib.hid (HV5.out.below hb1)
  replace HV6 := Lib.hid (HV6.out.below hb1)
  replace HP := Lib.hid (HP.out.below hb1)
  replace HB := Lib.hid (bl_trans HB.out hb1)
  have HI := Lib.hid hI
  clear hO hb1 hI
  go_wp2_with fail
  replace HV5 := Lib.hid (HV5.out.below (bl_one w5 (.cells #[.int .i64 2, .int .i64 1, .int .i64 0, .int .i64 2] 3)))
  replace HV6 := Lib.hid (HV6.out.below (bl_one w5 (.cells #[.int .i64 2, .int .i64 1, .int .i64 0, .int .i64 2] 3)))
  replace HP := Lib.hid (HP.out.below (bl_one w5 (.cells #[.int .i64 2, .int .i64 1, .int .i64 0, .int .i64 2] 3)))
  replace HI := Lib.hid (HI.out.below (bl_one w5 (.cells #[.int .i64 2, .int .i64 1, .int .i64 0, .int .i64 2] 3)))
  replace HB := Lib.hid (bl_alloc HB.out (.cells #[.int .i64 2, .int .i64 1, .int .i64 0, .int .i64 2] 3))
  have HN := Lib.hid (intRow_new4 w5 2 1 0 2 3)
  generalize w5.alloc (.cells #[.int .i64 2, .int .i64 1, .int .i64 0, .int .i64 2] 3) = w5a at *
  (with_reducible refine (sameInts_l _ _ _ _ _ _ 4 4 _ HI.out HN.out rfl rfl (by decide)).mono ?_); rintro e w5b ⟨rfl, hb1⟩
  replace HV5 := Lib.hid (HV5.out.below hb1)
  replace HV6 := Lib.hid (HV6.out.below hb1)
  replace HP := Lib.hid (HP.out.below hb1)
  replace HB := Lib.hid (bl_trans HB.out hb1)
  clear HI HN hb1
  obtain ⟨k0, k1⟩ := HV5.out.two
  obtain ⟨k2, k3⟩ := HV6.out.two
  go_wp2_with fail
  go_ret
  exact ⟨rfl, HB.out⟩
end Go.Proofs.Ytmkegehkifpkjaa
