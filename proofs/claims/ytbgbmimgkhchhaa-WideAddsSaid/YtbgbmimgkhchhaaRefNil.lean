/-
  The document's Mul and Add of no number at all (an empty slice, nil or not).
-/
import Derived.Test.YtbgbmimgkhchhaaRefAdd
namespace Go.Proofs.Ytbgbmimgkhchhaa
open Go.RowKit

set_option maxHeartbeats 4000000 in
set_option maxRecDepth 100000 in
theorem refMul_nil (ad : Option Addr) (cp : Nat) (w : World) : Calls Try.prog 29 #[.slice ad 0 cp] w (WideP 1 w) := by
  go_enter Try.func29, Try.ntmps29
  go_upto_region 2 with (first
    | (go_at_call 14; (with_reducible refine (small_num 1 (by omega) (by omega) _).mono ?_); rintro e w1 ⟨v, rfl, hN, hb1⟩
       obtain ⟨nm, nad, nn, nc, rfl⟩ := hN.shape
       have HN := Lib.hid hN
       clear hN))
  generalize hgo : w1.heap.size = go at *
  have HGO := Lib.hid hgo
  clear hgo
  refine wp_abs (fun W => MulS w go ⟨nm, nad, nn, nc, 1⟩ W) ?_ ?_
  · have eg := HGO.out
    subst eg
    have hs1 : w.heap.size < w1.heap.size := (by have := hb1.size; (try simp at this); omega)
    have hv := (var_new w.heap.size w (Nat.le_refl _) w.heap.size rfl 25).below (bl_trans hb1 (bl_one _ (.cells #[.bool nm, .slice nad nn nc] 28)))
    exact ⟨⟨by simp [go_sem], by simp [go_sem], HN.out.below (bl_one _ _)⟩, by simp [go_sem], by simp [go_sem], hv, hs1, bl_trans (bl_trans (bl_one _ _) hb1) (bl_one _ _)⟩
  clear HN HGO hb1
  intro wr hS0
  have HS := Lib.hid hS0
  clear hS0
  have k0 := HS.out.nv.c0
  have k1 := HS.out.nv.c1
  dsimp only at k0 k1
  have HX2 : Hid (NumIs (.agg #[.bool nm, .slice nad nn nc]) 1 wr) := HS.out.nv.hN
  go_wp2
  refine wp_loop_rounds 1 ?_
  rw [rounds_succ]
  go_wp2_with fail
  refine (told_num _ 1 _ HX2.out).mono ?_
  rintro e w1 ⟨rm, r0, r1, r2, r3, er, hi', hk, rfl, hb1⟩
  have HI := Lib.hid hi'
  clear hi'
  have HS1 := HS.out.below hb1
  obtain ⟨-, ⟨v0, v1, v2, v3, v4⟩, ⟨f0, f1, f2, f3, f4⟩⟩ := HS1.r
  simp only [Nat.zero_add] at v1 v2 v3 v4 f1 f2 f3 f4
  have hbw := Lib.hid HS1.hb
  clear HS1
  go_wp2
  refine bodyPost_ret (v := .tuple #[(.agg #[.bool rm, .int .u64 r0, .int .u64 r1, .int .u64 r2, .int .u64 r3]), .int .i64 er]) (by simp [results, Try.results29, go_sem, v0, v1, v2, v3, v4]) rfl ?_
  refine ⟨rm, r0, r1, r2, r3, er, HI.out, hk, rfl, ?_⟩
  have hb := hbw.out
  repeat (first | (with_reducible exact Below.refl _ _) | (with_reducible refine bl_alloc ?_ _) | (with_reducible refine Below.drew ?_) | (with_reducible refine below_drewN' ?_ _) | ((with_reducible refine bl_set ?_ ?_ _); (rotate_left; (dsimp only; omega))))
  exact hb

set_option maxHeartbeats 4000000 in
set_option maxRecDepth 100000 in
theorem refAdd_nil (ad : Option Addr) (cp : Nat) (w : World) : Calls Try.prog 26 #[.slice ad 0 cp] w (WideP 0 w) := by
  go_enter Try.func26, Try.ntmps26
  go_upto_region 2 with (fail)
  generalize hgo : w.heap.size + 1 = go at *
  have HGO := Lib.hid hgo
  clear hgo
  refine wp_abs (fun W => MulS w go ⟨false, none, 0, 0, 0⟩ W) ?_ ?_
  · have eg := HGO.out
    subst eg
    have hv := (var_new w.heap.size w (Nat.le_refl _) w.heap.size rfl 25).below (bl_one _ (.cells #[.bool false, .slice none 0 0] 28))
    exact ⟨⟨by simp [go_sem], by simp [go_sem], ⟨false, none, 0, 0, fun _ => 0, rfl, ⟨fun _ => by omega, fun _ _ => rfl, .inl rfl, .inl rfl⟩, fun _ => rfl, by simp [sg, dval]⟩⟩, by simp [go_sem], by simp [go_sem], hv, by omega, bl_trans (bl_one _ _) (bl_one _ _)⟩
  clear HGO
  intro wr hS0
  have HS := Lib.hid hS0
  clear hS0
  have k0 := HS.out.nv.c0
  have k1 := HS.out.nv.c1
  dsimp only at k0 k1
  have HX2 : Hid (NumIs (.agg #[.bool false, .slice none 0 0]) 0 wr) := HS.out.nv.hN
  go_wp2
  refine wp_loop_rounds 1 ?_
  rw [rounds_succ]
  go_wp2_with fail
  refine (told_num _ 0 _ HX2.out).mono ?_
  rintro e w1 ⟨rm, r0, r1, r2, r3, er, hi', hk, rfl, hb1⟩
  have HI := Lib.hid hi'
  clear hi'
  have HS1 := HS.out.below hb1
  obtain ⟨-, ⟨v0, v1, v2, v3, v4⟩, ⟨f0, f1, f2, f3, f4⟩⟩ := HS1.r
  simp only [Nat.zero_add] at v1 v2 v3 v4 f1 f2 f3 f4
  have hbw := Lib.hid HS1.hb
  clear HS1
  go_wp2
  refine bodyPost_ret (v := .tuple #[(.agg #[.bool rm, .int .u64 r0, .int .u64 r1, .int .u64 r2, .int .u64 r3]), .int .i64 er]) (by simp [results, Try.results26, go_sem, v0, v1, v2, v3, v4]) rfl ?_
  refine ⟨rm, r0, r1, r2, r3, er, HI.out, hk, rfl, ?_⟩
  have hb := hbw.out
  repeat (first | (with_reducible exact Below.refl _ _) | (with_reducible refine bl_alloc ?_ _) | (with_reducible refine Below.drew ?_) | (with_reducible refine below_drewN' ?_ _) | ((with_reducible refine bl_set ?_ ?_ _); (rotate_left; (dsimp only; omega))))
  exact hb
end Go.Proofs.Ytbgbmimgkhchhaa
