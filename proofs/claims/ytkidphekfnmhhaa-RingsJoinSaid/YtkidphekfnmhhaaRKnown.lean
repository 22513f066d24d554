/-
  The chapter's examples of layer 8.
-/
import Derived.Test.YtkidphekfnmhhaaRSegsAll
import Derived.Test.YtkidphekfnmhhaaRAreas
namespace Go.Proofs.Ytkidphekfnmhhaa
open Go.RowKit

def K6 : List Pt := [⟨5, 3⟩, ⟨3, 0⟩, ⟨0, 5⟩, ⟨6, 1⟩, ⟨1, 2⟩, ⟨2, 6⟩]
theorem rings_K6 : ringsR 7 K6 = ([[0, 3, 5], [1, 2, 6]], 0, 0) := by decide
theorem rings_K2 : ringsR 3 [⟨0, 1⟩, ⟨1, 0⟩] = ([], 1, 80) := by decide
theorem rings_K1 : ringsR 3 [⟨2, 1⟩] = ([], 1, 81) := by decide
theorem area_K3 : areaZ [⟨0, 0⟩, ⟨4, 0⟩, ⟨0, 4⟩] [0, 1, 2] = 16 := by decide
theorem ok_K3 : okR [⟨0, 0⟩, ⟨4, 0⟩, ⟨0, 4⟩] [0, 1, 2] := by decide
theorem wide16 : ((.agg #[.bool (QM (16)), .int .u64 (Q0 (16)), .int .u64 (Q1 (16)), .int .u64 (Q2 (16)), .int .u64 (Q3 (16))]) : Value) = .agg #[.bool false, .int .u64 16, .int .u64 0, .int .u64 0, .int .u64 0] := by
  have h0 : Q0 16 = 16 := by decide
  have h1 : Q1 16 = 0 := by decide
  have h2 : Q2 16 = 0 := by decide
  have h3 : Q3 16 = 0 := by decide
  have h4 : QM 16 = false := by decide
  rw [h0, h1, h2, h3, h4]
theorem ptRow_K6 (W : World) (t : TypeId) : PtRow (W.alloc (.cells #[.int .i64 5, .int .i64 3, .int .i64 3, .int .i64 0, .int .i64 0, .int .i64 5, .int .i64 6, .int .i64 1, .int .i64 1, .int .i64 2, .int .i64 2, .int .i64 6] t)) (some ⟨W.heap.size, 0, none⟩) K6 := by
  intro i hi
  refine ⟨_, _, rfl, ?_⟩
  match i, hi with
  | 0, _ => exact ⟨by simp [go_sem, pget, K6], by simp [go_sem, pget, K6]⟩
  | 1, _ => exact ⟨by simp [go_sem, pget, K6], by simp [go_sem, pget, K6]⟩
  | 2, _ => exact ⟨by simp [go_sem, pget, K6], by simp [go_sem, pget, K6]⟩
  | 3, _ => exact ⟨by simp [go_sem, pget, K6], by simp [go_sem, pget, K6]⟩
  | 4, _ => exact ⟨by simp [go_sem, pget, K6], by simp [go_sem, pget, K6]⟩
  | 5, _ => exact ⟨by simp [go_sem, pget, K6], by simp [go_sem, pget, K6]⟩
theorem ptRow_3 (W : World) (a b c : Pt) (t : TypeId) : PtRow (W.alloc (.cells #[.int .i64 a.x, .int .i64 a.y, .int .i64 b.x, .int .i64 b.y, .int .i64 c.x, .int .i64 c.y] t)) (some ⟨W.heap.size, 0, none⟩) [a, b, c] := by
  intro i hi
  refine ⟨_, _, rfl, ?_⟩
  match i, hi with
  | 0, _ => exact ⟨by simp [go_sem, pget], by simp [go_sem, pget]⟩
  | 1, _ => exact ⟨by simp [go_sem, pget], by simp [go_sem, pget]⟩
  | 2, _ => exact ⟨by simp [go_sem, pget], by simp [go_sem, pget]⟩
theorem ptRow_2 (W : World) (a b : Pt) (t : TypeId) : PtRow (W.alloc (.cells #[.int .i64 a.x, .int .i64 a.y, .int .i64 b.x, .int .i64 b.y] t)) (some ⟨W.heap.size, 0, none⟩) [a, b] := by
  intro i hi
  refine ⟨_, _, rfl, ?_⟩
  match i, hi with
  | 0, _ => exact ⟨by simp [go_sem, pget], by simp [go_sem, pget]⟩
  | 1, _ => exact ⟨by simp [go_sem, pget], by simp [go_sem, pget]⟩
theorem intRow_3 (W : World) (a b c : Int) (t : TypeId) : IntRow (W.alloc (.cells #[.int .i64 a, .int .i64 b, .int .i64 c] t)) (some ⟨W.heap.size, 0, none⟩) [a, b, c] := by
  intro i hi
  refine ⟨_, _, rfl, ?_⟩
  match i, hi with
  | 0, _ => simp [go_sem]
  | 1, _ => simp [go_sem]
  | 2, _ => simp [go_sem]
theorem rowsAt_lit (W : World) (t u v : TypeId) : RowsAt (((W.alloc (.cells #[.int .i64 0, .int .i64 3, .int .i64 5] t)).alloc (.cells #[.int .i64 1, .int .i64 2, .int .i64 6] u)).alloc (.cells #[.slice (some ⟨W.heap.size, 0, none⟩) 3 3, .slice (some ⟨W.heap.size + 1, 0, none⟩) 3 3] v)) (some ⟨W.heap.size + 1 + 1, 0, none⟩) [[0, 3, 5], [1, 2, 6]] := by
  have e1 : (W.alloc (.cells #[.int .i64 0, .int .i64 3, .int .i64 5] t)).heap.size = W.heap.size + 1 := by simp
  have h1 := (intRow_3 W 0 3 5 t).below (bl_one _ (.cells #[.int .i64 1, .int .i64 2, .int .i64 6] u))
  have h2 := intRow_3 (W.alloc (.cells #[.int .i64 0, .int .i64 3, .int .i64 5] t)) 1 2 6 u
  rw [e1] at h2
  have e2 : ((W.alloc (.cells #[.int .i64 0, .int .i64 3, .int .i64 5] t)).alloc (.cells #[.int .i64 1, .int .i64 2, .int .i64 6] u)).heap.size = W.heap.size + 1 + 1 := by simp
  intro i hi
  match i, hi with
  | 0, _ => exact ⟨_, 0, _, 3, rfl, by rw [← e2]; simp [go_sem], Nat.le_refl 3, h1.below (bl_one _ _), fun h => by cases h⟩
  | 1, _ => exact ⟨_, 0, _, 3, rfl, by rw [← e2]; simp [go_sem], Nat.le_refl 3, h2.below (bl_one _ _), fun h => by cases h⟩
/-- what Rings answers, taken apart -/
theorem rings_at {n : Int} {l : List Pt} {L : List (List Int)} {i e : Int} (h : ringsR n l = (L, i, e)) (ad : Option Addr) (cap : Nat) (w : World) (hP : PtRow w ad l) (hn : n ≤ 10000 ∨ 1048576 < n) (hlen : l.length ≤ 10000) :
    Calls Try.prog 27 #[.int .i64 n, .slice ad l.length cap] w fun en w' => ∃ ar cr, en = .returned (.tuple #[.slice ar L.length cr, .int .i64 i, .int .i64 e]) ∧ RowsAt w' ar L ∧ L.length ≤ cr ∧ (ar = none → cr = 0) ∧ Below w.heap.size w w' := by
  refine (rings_l n l ad cap w hP hn hlen).mono ?_
  rintro en w' ⟨v, rfl, hR, hB⟩
  rw [h] at hR ⊢
  obtain ⟨ar, cr, rfl, h1, h2, h3⟩ := hR
  exact ⟨ar, cr, rfl, h2, h1, h3, hB⟩
set_option maxHeartbeats 8000000 in
set_option maxRecDepth 100000 in
theorem known_l (w : World) : Calls Try.prog 26 #[] w (Gives (.bool true) w) := by
  have H1 := Lib.hid (fun W a (h : PtRow W a K6) => rings_at rings_K6 a 6 W h (by decide) (by decide))
  have H2 := Lib.hid (fun W a (h : PtRow W a [⟨0, 1⟩, ⟨1, 0⟩]) => rings_at rings_K2 a 2 W h (by decide) (by decide))
  have H3 := Lib.hid (fun W a (h : PtRow W a [⟨2, 1⟩]) => rings_at rings_K1 a 1 W h (by decide) (by decide))
  have HA := Lib.hid (fun W a b (h : PtRow W a [⟨0, 0⟩, ⟨4, 0⟩, ⟨0, 4⟩]) (h2 : IntRow W (some b) [0, 1, 2]) => area_l [⟨0, 0⟩, ⟨4, 0⟩, ⟨0, 4⟩] [0, 1, 2] a (some b) 3 3 W h h2 (by decide) (fun h => by cases h) (by decide) (by decide) |>.mono (fun e w' h => show e = .returned (.tuple #[.agg #[.bool false, .int .u64 16, .int .u64 0, .int .u64 0, .int .u64 0], .int .i64 0]) ∧ Below W.heap.size W w' from ⟨by have := h.2; rwa [if_pos ok_K3, area_K3, wide16] at this, h.1⟩))
  simp only [show K6.length = 6 from rfl, List.length_cons, List.length_nil, Nat.zero_add, Nat.reduceAdd] at H1 H2 H3 HA
  go_enter Try.func26, Try.ntmps26
  go_wp2_with fail
  have HP := Lib.hid (ptRow_K6 w 51)
  have HB := Lib.hid (bl_one w (.cells #[.int .i64 5, .int .i64 3, .int .i64 3, .int .i64 0, .int .i64 0, .int .i64 5, .int .i64 6, .int .i64 1, .int .i64 1, .int .i64 2, .int .i64 2, .int .i64 6] 51))
  generalize w.alloc (.cells #[.int .i64 5, .int .i64 3, .int .i64 3, .int .i64 0, .int .i64 0, .int .i64 5, .int .i64 6, .int .i64 1, .int .i64 1, .int .i64 2, .int .i64 2, .int .i64 6] 51) = W1 at *
  generalize hw9 : w.heap.size = g9 at HP ⊢
  (with_reducible refine (H1.out _ _ HP.out).mono ?_); rintro e w2 ⟨a1, c1, rfl, hR, -, -, hb1⟩
  have HR := Lib.hid hR
  replace HB := Lib.hid (bl_trans HB.out hb1)
  clear hR hb1 HP
  go_wp2_with fail
  have HP := Lib.hid ((ptRow_3 w2 ⟨0, 0⟩ ⟨4, 0⟩ ⟨0, 4⟩ 25).below (bl_one _ (.cells #[.int .i64 0, .int .i64 1, .int .i64 2] 3)))
  have HI := Lib.hid (intRow_3 (w2.alloc (.cells #[.int .i64 0, .int .i64 0, .int .i64 4, .int .i64 0, .int .i64 0, .int .i64 4] 25)) 0 1 2 3)
  have hsz : (w2.alloc (.cells #[.int .i64 0, .int .i64 0, .int .i64 4, .int .i64 0, .int .i64 0, .int .i64 4] 25)).heap.size = w2.heap.size + 1 := by simp
  rw [hsz] at HI
  clear hsz
  have hb2 := bl_alloc (bl_one w2 (.cells #[.int .i64 0, .int .i64 0, .int .i64 4, .int .i64 0, .int .i64 0, .int .i64 4] 25)) (.cells #[.int .i64 0, .int .i64 1, .int .i64 2] 3)
  replace HB := Lib.hid (bl_trans HB.out hb2)
  replace HR := Lib.hid (HR.out.below hb2)
  clear hb2
  generalize (w2.alloc (.cells #[.int .i64 0, .int .i64 0, .int .i64 4, .int .i64 0, .int .i64 0, .int .i64 4] 25)).alloc (.cells #[.int .i64 0, .int .i64 1, .int .i64 2] 3) = w3 at *
  generalize w2.heap.size + 1 = gI at *
  generalize w2.heap.size = gP at *
  (with_reducible refine (HA.out _ _ _ HP.out HI.out).mono ?_); rintro e w4 ⟨rfl, hb1⟩
  replace HB := Lib.hid (bl_trans HB.out hb1)
  replace HR := Lib.hid (HR.out.below hb1)
  clear hb1 HP HI HA
  go_upto_region 3 with (fail)
  have HV := Lib.hid (var5_new w4 (.bool false) (.int .u64 16) (.int .u64 0) (.int .u64 0) (.int .u64 0) 80 w4.heap.size rfl)
  have hb2 := bl_one w4 (.cells #[.bool false, .int .u64 16, .int .u64 0, .int .u64 0, .int .u64 0] 80)
  replace HB := Lib.hid (bl_trans HB.out hb2)
  replace HR := Lib.hid (HR.out.below hb2)
  clear hb2
  generalize w4.alloc (.cells #[.bool false, .int .u64 16, .int .u64 0, .int .u64 0, .int .u64 0] 80) = w5 at *
  generalize w4.heap.size = gA at *
  go_wp2_with fail
  have HP := Lib.hid (ptRow_2 w5 ⟨0, 1⟩ ⟨1, 0⟩ 51)
  have hb2 := bl_one w5 (.cells #[.int .i64 0, .int .i64 1, .int .i64 1, .int .i64 0] 51)
  replace HB := Lib.hid (bl_trans HB.out hb2)
  replace HR := Lib.hid (HR.out.below hb2)
  replace HV := Lib.hid (HV.out.below hb2)
  clear hb2
  generalize w5.alloc (.cells #[.int .i64 0, .int .i64 1, .int .i64 1, .int .i64 0] 51) = w6 at *
  generalize w5.heap.size = gQ at *
  (with_reducible refine (H2.out _ _ HP.out).mono ?_); rintro e w7 ⟨a2, c2, rfl, -, -, -, hb1⟩
  replace HB := Lib.hid (bl_trans HB.out hb1)
  replace HR := Lib.hid (HR.out.below hb1)
  replace HV := Lib.hid (HV.out.below hb1)
  clear hb1 HP H2
  go_wp2_with fail
  have HP := Lib.hid (ptRow_new w7 ⟨2, 1⟩ 51)
  have hb2 := bl_one w7 (.cells #[.int .i64 2, .int .i64 1] 51)
  replace HB := Lib.hid (bl_trans HB.out hb2)
  replace HR := Lib.hid (HR.out.below hb2)
  replace HV := Lib.hid (HV.out.below hb2)
  clear hb2
  generalize w7.alloc (.cells #[.int .i64 2, .int .i64 1] 51) = w8 at *
  generalize w7.heap.size = gR at *
  (with_reducible refine (H3.out _ _ HP.out).mono ?_); rintro e w9 ⟨a3, c3, rfl, -, -, -, hb1⟩
  replace HB := Lib.hid (bl_trans HB.out hb1)
  replace HR := Lib.hid (HR.out.below hb1)
  replace HV := Lib.hid (HV.out.below hb1)
  clear hb1 HP H3 H1
  go_upto_region 5 with (fail)
  have HE := eqW false false 16 0 0 0 16 0 0 0
  have HSM := Lib.hid (fun W a b (h : RowsAt W a [[0, 3, 5], [1, 2, 6]]) (h2 : RowsAt W b [[0, 3, 5], [1, 2, 6]]) (ca cb : Nat) => same_l [[0, 3, 5], [1, 2, 6]] [[0, 3, 5], [1, 2, 6]] a b ca cb 2 2 W h h2 rfl rfl (by decide) (by decide))
  go_wp2_with fail
  have hb2 := bl_alloc (bl_alloc (bl_one w9 (.cells #[.int .i64 0, .int .i64 3, .int .i64 5] 3)) (.cells #[.int .i64 1, .int .i64 2, .int .i64 6] 3)) (.cells #[.slice (some ⟨w9.heap.size, 0, none⟩) 3 3, .slice (some ⟨w9.heap.size + 1, 0, none⟩) 3 3] 36)
  have HL := Lib.hid (rowsAt_lit w9 3 3 36)
  replace HB := Lib.hid (bl_trans HB.out hb2)
  replace HR := Lib.hid (HR.out.below hb2)
  replace HV := Lib.hid (HV.out.below hb2)
  clear hb2
  generalize ((w9.alloc (.cells #[.int .i64 0, .int .i64 3, .int .i64 5] 3)).alloc (.cells #[.int .i64 1, .int .i64 2, .int .i64 6] 3)).alloc (.cells #[.slice (some ⟨w9.heap.size, 0, none⟩) 3 3, .slice (some ⟨w9.heap.size + 1, 0, none⟩) 3 3] 36) = wa at *
  generalize w9.heap.size + 1 + 1 = gs at *
  generalize w9.heap.size + 1 = gt at *
  generalize w9.heap.size = gu at *
  (with_reducible refine (HSM.out _ _ _ HR.out HL.out _ _).mono ?_); rintro e wb ⟨rfl, hb1⟩
  replace HB := Lib.hid (bl_trans HB.out hb1)
  replace HV := Lib.hid (HV.out.below hb1)
  clear hb1 HR HL HSM
  obtain ⟨k0, k1, k2, k3, k4⟩ := HV.out.five
  clear HV
  go_wp2_with fail
  go_ret
  exact ⟨rfl, HB.out⟩
end Go.Proofs.Ytkidphekfnmhhaa
