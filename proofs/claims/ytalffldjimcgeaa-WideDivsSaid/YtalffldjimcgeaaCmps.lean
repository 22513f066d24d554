/-
  The walk of the law WideCmps.
-/
import Derived.Test.YtalffldjimcgeaaKnown
import Derived.Test.YtalffldjimcgeaaWCmp2
namespace Go.Proofs.Ytalffldjimcgeaa
open Go.RowKit

theorem m256_big : M256 < BIG := by unfold M256 BIG; decide
theorem wv_big {m : Bool} {a b c d : Int} (h : In4 a b c d) : -BIG < WV m a b c d ∧ WV m a b c d < BIG := by
  have := wv_bounds (m := m) h
  have := m256_big
  omega

theorem sgZ_neg (A B : Int) : sgZ (A - B) = - sgZ (B - A) := by
  rcases Int.lt_trichotomy A B with h | h | h
  · rw [sgZ_lt (by omega), sgZ_gt (by omega)]
  · rw [sgZ_eq (by omega), sgZ_eq (by omega)]; rfl
  · rw [sgZ_gt (by omega), sgZ_lt (by omega)]; rfl

set_option maxHeartbeats 40000000 in
set_option maxRecDepth 100000 in
theorem cmps_c (am bm : Bool) (a0 a1 a2 a3 b0 b1 b2 b3 : Int) (hA : In4 a0 a1 a2 a3) (hB : In4 b0 b1 b2 b3) (w : World) :
    Calls Try.prog 4 #[(.agg #[.bool am, .int .u64 a0, .int .u64 a1, .int .u64 a2, .int .u64 a3]), (.agg #[.bool bm, .int .u64 b0, .int .u64 b1, .int .u64 b2, .int .u64 b3])] w (Gives (.bool true) w) := by
  have HA := Lib.hid hA
  have HB := Lib.hid hB
  clear hA hB
  obtain ⟨t, et⟩ : ∃ t, t = sgZ (WV am a0 a1 a2 a3 - WV bm b0 b1 b2 b3) := ⟨_, rfl⟩
  have ht := sgZ_vals (WV am a0 a1 a2 a3 - WV bm b0 b1 b2 b3)
  have C1 := Lib.hid (wcmp_c am bm a0 a1 a2 a3 b0 b1 b2 b3 HA.out HB.out)
  have C2 := Lib.hid (wcmp_c bm am b0 b1 b2 b3 a0 a1 a2 a3 HB.out HA.out)
  rw [sgZ_neg (WV bm b0 b1 b2 b3) (WV am a0 a1 a2 a3)] at C2
  rw [← et] at C1 C2 ht
  have HT := Lib.hid et
  clear et
  have hw : IntKind.i64.wrap (-t) = -t := IntWalk.i64_in _ (by omega)
  have hw' : wrap64 (-t) = -t := by unfold wrap64; omega
  go_enter Try.func4, Try.ntmps4
  go_upto_region 1 with (fail)
  refine wp_abs (fun W => w.heap.size + 2 ≤ W.heap.size ∧ Env w [(w.heap.size, (⟨am, a0, a1, a2, a3⟩ : Wd)), (w.heap.size + 1, (⟨bm, b0, b1, b2, b3⟩ : Wd))] W) ?_ ?_
  · refine ⟨by simp, Env.push (Env.push ⟨fun p hp => by simp at hp, by repeat (first | (with_reducible exact Below.refl _ _) | (with_reducible refine bl_alloc ?_ _) | (with_reducible refine Below.drew ?_) | (with_reducible refine below_drewN' ?_ _) | ((with_reducible refine bl_set ?_ ?_ _); (rotate_left; (dsimp only; omega))))⟩ ?_) ?_⟩ <;> (constructor <;> simp [go_sem])
  rintro W0 ⟨hs0, hE⟩
  have HE := Lib.hid hE
  clear hE
  obtain ⟨c0, c1, c2, c3, c4⟩ := HE.out.cells (g := w.heap.size) (m := am) (a := a0) (b := a1) (c := a2) (d := a3) List.mem_cons_self
  obtain ⟨d0, d1, d2, d3, d4⟩ := HE.out.cells (g := w.heap.size + 1) (m := bm) (a := b0) (b := b1) (c := b2) (d := b3) (List.mem_cons_of_mem _ List.mem_cons_self)
  go_cut [5] (fun nv W => nv = .int .i64 t ∧ Env w [(w.heap.size, (⟨am, a0, a1, a2, a3⟩ : Wd)), (w.heap.size + 1, (⟨bm, b0, b1, b2, b3⟩ : Wd))] W)
  case first =>
    go_region_with (first
      | (go_at_call 11; (with_reducible refine (of_num am a0 a1 a2 a3 HA.out _).mono ?_); rintro e w1 ⟨v1, rfl, hN1, hb1⟩
         have HN1 := Lib.hid hN1
         clear hN1
         have HE1 := Lib.hid (HE.out.below (bl_trans (bl_drew1 _) hb1))
         obtain ⟨e0, e1, e2, e3, e4⟩ := HE1.out.cells (g := w.heap.size + 1) (m := bm) (a := b0) (b := b1) (c := b2) (d := b3) (List.mem_cons_of_mem _ List.mem_cons_self))
      | (go_at_call 11; (with_reducible refine (of_num bm b0 b1 b2 b3 HB.out _).mono ?_); rintro e w2 ⟨v2, rfl, hN2, hb2⟩
         have HN2 := Lib.hid hN2
         clear hN2
         have HN3 := Lib.hid (HN1.out.below hb2))
      | (go_at_call 18; (with_reducible refine (cmp_num v1 v2 _ _ w2 HN3.out HN2.out (wv_big HA.out) (wv_big HB.out)).mono ?_); rintro e w3 ⟨rfl, hb3⟩; rw [← HT.out]))
    all_goals
      go_wp2_with fail
      go_meet
      case rel => exact ⟨by first | rfl | rw [← HT.out], (HE1.out.below hb2).below hb3⟩
  case rest =>
    obtain ⟨rfl, S⟩ := hcut
    clear c0 c1 c2 c3 c4 d0 d1 d2 d3 d4 HE
    have HE := Lib.hid S
    clear S
    obtain ⟨c0, c1, c2, c3, c4⟩ := HE.out.cells (g := w.heap.size) (m := am) (a := a0) (b := a1) (c := a2) (d := a3) List.mem_cons_self
    obtain ⟨d0, d1, d2, d3, d4⟩ := HE.out.cells (g := w.heap.size + 1) (m := bm) (a := b0) (b := b1) (c := b2) (d := b3) (List.mem_cons_of_mem _ List.mem_cons_self)
    go_wp2_with (first
      | (go_at_call 24; (with_reducible refine (C1.out _).mono ?_); rintro e w1 ⟨rfl, hb1⟩
         have HE1 := Lib.hid (HE.out.below hb1)
         obtain ⟨e0, e1, e2, e3, e4⟩ := HE1.out.cells (g := w.heap.size + 1) (m := bm) (a := b0) (b := b1) (c := b2) (d := b3) (List.mem_cons_of_mem _ List.mem_cons_self)
         obtain ⟨f0, f1, f2, f3, f4⟩ := HE1.out.cells (g := w.heap.size) (m := am) (a := a0) (b := a1) (c := a2) (d := a3) List.mem_cons_self)
      | (go_at_call 24; (with_reducible refine (C2.out _).mono ?_); rintro e w2 ⟨rfl, hb2⟩)
      | (go_at_call 23; (with_reducible refine (known_c _).mono ?_); rintro e w3 ⟨rfl, hb3⟩)
      | go_in)
    go_ret
    exact ⟨by first | rfl | simp, bl_trans (bl_trans HE1.out.hb hb2) hb3⟩
end Go.Proofs.Ytalffldjimcgeaa
