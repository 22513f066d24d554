/-
  The walk of the law WideOrder.
-/
import Derived.Test.YtalffldjimcgeaaKnown
import Derived.Test.YtalffldjimcgeaaTwo2
import Derived.Test.YtalffldjimcgeaaRefBack
namespace Go.Proofs.Ytalffldjimcgeaa
open Go.RowKit

set_option maxHeartbeats 40000000 in
set_option maxRecDepth 100000 in
theorem order_c (am bm km : Bool) (a0 a1 a2 a3 b0 b1 b2 b3 k0 k1 k2 k3 : Int) (hA : In4 a0 a1 a2 a3) (hB : In4 b0 b1 b2 b3) (hC : In4 k0 k1 k2 k3) (w : World) :
    Calls Try.prog 9 #[(.agg #[.bool am, .int .u64 a0, .int .u64 a1, .int .u64 a2, .int .u64 a3]), (.agg #[.bool bm, .int .u64 b0, .int .u64 b1, .int .u64 b2, .int .u64 b3]), (.agg #[.bool km, .int .u64 k0, .int .u64 k1, .int .u64 k2, .int .u64 k3])] w (Gives (.bool true) w) := by
  have HA := Lib.hid hA
  have HB := Lib.hid hB
  have HC := Lib.hid hC
  clear hA hB hC
  go_enter Try.func9, Try.ntmps9
  go_upto_region 1 with (fail)
  generalize hg : w.heap.size = ga at *
  have HG := Lib.hid hg
  clear hg
  refine wp_abs (fun W => Env w [(ga, (⟨am, a0, a1, a2, a3⟩ : Wd)), (ga + 1, (⟨bm, b0, b1, b2, b3⟩ : Wd)), (ga + 1 + 1, (⟨km, k0, k1, k2, k3⟩ : Wd))] W) ?_ ?_
  · have eg := HG.out
    subst eg
    refine Env.push (Env.push (Env.push ⟨fun p hp => by simp at hp, by repeat (first | (with_reducible exact Below.refl _ _) | (with_reducible refine bl_alloc ?_ _) | (with_reducible refine Below.drew ?_) | (with_reducible refine below_drewN' ?_ _) | ((with_reducible refine bl_set ?_ ?_ _); (rotate_left; (dsimp only; omega))))⟩ ?_) ?_) ?_ <;> (constructor <;> simp [go_sem])
  clear HG
  intro W0 S0
  have HE := Lib.hid S0
  clear S0
  go_upto_region 1 with (fail)
  obtain ⟨c0, c1, c2, c3, c4⟩ := HE.out.cells (g := ga) (m := am) (a := a0) (b := a1) (c := a2) (d := a3) List.mem_cons_self
  obtain ⟨d0, d1, d2, d3, d4⟩ := HE.out.cells (g := ga + 1) (m := bm) (a := b0) (b := b1) (c := b2) (d := b3) (List.mem_cons_of_mem _ List.mem_cons_self)
  go_cut [7, 8] (fun pv ev W => ∃ gn nm n0 n1 n2 n3 ne, pv = .pointer (some ⟨gn, 0, none⟩) ∧ ev = .int .i64 ne ∧ Hid (WideOk (WV am a0 a1 a2 a3 + WV bm b0 b1 b2 b3) nm n0 n1 n2 n3 ne) ∧ Hid (In4 n0 n1 n2 n3) ∧ Env w ((gn, (⟨nm, n0, n1, n2, n3⟩ : Wd)) :: [(ga, (⟨am, a0, a1, a2, a3⟩ : Wd)), (ga + 1, (⟨bm, b0, b1, b2, b3⟩ : Wd)), (ga + 1 + 1, (⟨km, k0, k1, k2, k3⟩ : Wd))]) W)
  case first =>
    go_wp2_with (first
      | (go_at_call 25; refine (add2_c ⟨am, a0, a1, a2, a3⟩ ⟨bm, b0, b1, b2, b3⟩ HA.out HB.out _ _ _ (by first | rfl | simp)).mono ?_; rintro e w2 ⟨ym, y0, y1, y2, y3, er, hi, hk, rfl, hb2⟩
         have HI := Lib.hid hi
         clear hi
         have HE2 := Lib.hid (show Env w [(ga, (⟨am, a0, a1, a2, a3⟩ : Wd)), (ga + 1, (⟨bm, b0, b1, b2, b3⟩ : Wd)), (ga + 1 + 1, (⟨km, k0, k1, k2, k3⟩ : Wd))] w2 from HE.out.below (bl_trans (bl_one _ _) hb2)))
      | go_in)
    go_meet
    case rel => exact ⟨_, _, _, _, _, _, _, rfl, rfl, hk, HI, by first | exact HE2.out.new _ rfl _ _ _ _ _ _ | exact HE2.out.new _ (by simp) _ _ _ _ _ _⟩
  case rest =>
    obtain ⟨gx, xm, x0, x1, x2, x3, erx, rfl, rfl, Kx, Ix, S⟩ := hcut
    clear c0 c1 c2 c3 c4 d0 d1 d2 d3 d4 HE
    have HE := Lib.hid S
    clear S
    go_upto_region 2 with (fail)
    obtain ⟨c0, c1, c2, c3, c4⟩ := HE.out.cells (g := ga + 1) (m := bm) (a := b0) (b := b1) (c := b2) (d := b3) (List.mem_cons_of_mem _ (List.mem_cons_of_mem _ List.mem_cons_self))
    obtain ⟨d0, d1, d2, d3, d4⟩ := HE.out.cells (g := ga) (m := am) (a := a0) (b := a1) (c := a2) (d := a3) (List.mem_cons_of_mem _ List.mem_cons_self)
    go_cut [9, 10] (fun pv ev W => ∃ gn nm n0 n1 n2 n3 ne, pv = .pointer (some ⟨gn, 0, none⟩) ∧ ev = .int .i64 ne ∧ Hid (WideOk (WV bm b0 b1 b2 b3 + WV am a0 a1 a2 a3) nm n0 n1 n2 n3 ne) ∧ Hid (In4 n0 n1 n2 n3) ∧ Env w ((gn, (⟨nm, n0, n1, n2, n3⟩ : Wd)) :: [(gx, (⟨xm, x0, x1, x2, x3⟩ : Wd)), (ga, (⟨am, a0, a1, a2, a3⟩ : Wd)), (ga + 1, (⟨bm, b0, b1, b2, b3⟩ : Wd)), (ga + 1 + 1, (⟨km, k0, k1, k2, k3⟩ : Wd))]) W)
    case first =>
      go_wp2_with (first
        | (go_at_call 25; refine (add2_c ⟨bm, b0, b1, b2, b3⟩ ⟨am, a0, a1, a2, a3⟩ HB.out HA.out _ _ _ (by first | rfl | simp)).mono ?_; rintro e w2 ⟨ym, y0, y1, y2, y3, er, hi, hk, rfl, hb2⟩
           have HI := Lib.hid hi
           clear hi
           have HE2 := Lib.hid (show Env w [(gx, (⟨xm, x0, x1, x2, x3⟩ : Wd)), (ga, (⟨am, a0, a1, a2, a3⟩ : Wd)), (ga + 1, (⟨bm, b0, b1, b2, b3⟩ : Wd)), (ga + 1 + 1, (⟨km, k0, k1, k2, k3⟩ : Wd))] w2 from HE.out.below (bl_trans (bl_one _ _) hb2)))
        | go_in)
      go_meet
      case rel => exact ⟨_, _, _, _, _, _, _, rfl, rfl, hk, HI, by first | exact HE2.out.new _ rfl _ _ _ _ _ _ | exact HE2.out.new _ (by simp) _ _ _ _ _ _⟩
    case rest =>
      obtain ⟨gy, ym, y0, y1, y2, y3, ery, rfl, rfl, Ky, Iy, S⟩ := hcut
      clear c0 c1 c2 c3 c4 d0 d1 d2 d3 d4 HE
      have HE := Lib.hid S
      clear S
      obtain ⟨rfl, rfl, rfl, rfl, rfl, rfl⟩ := ok_same Ix.out Iy.out Kx.out Ky.out (by omega)
      clear Iy Ky
      go_upto_region 3 with (fail)
      obtain ⟨c0, c1, c2, c3, c4⟩ := HE.out.cells (g := ga) (m := am) (a := a0) (b := a1) (c := a2) (d := a3) (List.mem_cons_of_mem _ (List.mem_cons_of_mem _ List.mem_cons_self))
      obtain ⟨d0, d1, d2, d3, d4⟩ := HE.out.cells (g := ga + 1) (m := bm) (a := b0) (b := b1) (c := b2) (d := b3) (List.mem_cons_of_mem _ (List.mem_cons_of_mem _ (List.mem_cons_of_mem _ List.mem_cons_self)))
      go_cut [11, 12] (fun pv ev W => ∃ gn nm n0 n1 n2 n3 ne, pv = .pointer (some ⟨gn, 0, none⟩) ∧ ev = .int .i64 ne ∧ Hid (WideOk (WV am a0 a1 a2 a3 * WV bm b0 b1 b2 b3) nm n0 n1 n2 n3 ne) ∧ Hid (In4 n0 n1 n2 n3) ∧ Env w ((gn, (⟨nm, n0, n1, n2, n3⟩ : Wd)) :: [(gy, (⟨xm, x0, x1, x2, x3⟩ : Wd)), (gx, (⟨xm, x0, x1, x2, x3⟩ : Wd)), (ga, (⟨am, a0, a1, a2, a3⟩ : Wd)), (ga + 1, (⟨bm, b0, b1, b2, b3⟩ : Wd)), (ga + 1 + 1, (⟨km, k0, k1, k2, k3⟩ : Wd))]) W)
      case first =>
        go_wp2_with (first
          | (go_at_call 28; refine (mul2_c ⟨am, a0, a1, a2, a3⟩ ⟨bm, b0, b1, b2, b3⟩ HA.out HB.out _ _ _ (by first | rfl | simp)).mono ?_; rintro e w2 ⟨ym, y0, y1, y2, y3, er, hi, hk, rfl, hb2⟩
             have HI := Lib.hid hi
             clear hi
             have HE2 := Lib.hid (show Env w [(gy, (⟨xm, x0, x1, x2, x3⟩ : Wd)), (gx, (⟨xm, x0, x1, x2, x3⟩ : Wd)), (ga, (⟨am, a0, a1, a2, a3⟩ : Wd)), (ga + 1, (⟨bm, b0, b1, b2, b3⟩ : Wd)), (ga + 1 + 1, (⟨km, k0, k1, k2, k3⟩ : Wd))] w2 from HE.out.below (bl_trans (bl_one _ _) hb2)))
          | go_in)
        go_meet
        case rel => exact ⟨_, _, _, _, _, _, _, rfl, rfl, hk, HI, by first | exact HE2.out.new _ rfl _ _ _ _ _ _ | exact HE2.out.new _ (by simp) _ _ _ _ _ _⟩
      case rest =>
        obtain ⟨gp, pm, p0, p1, p2, p3, erp, rfl, rfl, Kp, Ip, S⟩ := hcut
        clear c0 c1 c2 c3 c4 d0 d1 d2 d3 d4 HE
        have HE := Lib.hid S
        clear S
        go_upto_region 4 with (fail)
        obtain ⟨c0, c1, c2, c3, c4⟩ := HE.out.cells (g := ga + 1) (m := bm) (a := b0) (b := b1) (c := b2) (d := b3) (List.mem_cons_of_mem _ (List.mem_cons_of_mem _ (List.mem_cons_of_mem _ (List.mem_cons_of_mem _ List.mem_cons_self))))
        obtain ⟨d0, d1, d2, d3, d4⟩ := HE.out.cells (g := ga) (m := am) (a := a0) (b := a1) (c := a2) (d := a3) (List.mem_cons_of_mem _ (List.mem_cons_of_mem _ (List.mem_cons_of_mem _ List.mem_cons_self)))
        go_cut [13, 14] (fun pv ev W => ∃ gn nm n0 n1 n2 n3 ne, pv = .pointer (some ⟨gn, 0, none⟩) ∧ ev = .int .i64 ne ∧ Hid (WideOk (WV bm b0 b1 b2 b3 * WV am a0 a1 a2 a3) nm n0 n1 n2 n3 ne) ∧ Hid (In4 n0 n1 n2 n3) ∧ Env w ((gn, (⟨nm, n0, n1, n2, n3⟩ : Wd)) :: [(gp, (⟨pm, p0, p1, p2, p3⟩ : Wd)), (gy, (⟨xm, x0, x1, x2, x3⟩ : Wd)), (gx, (⟨xm, x0, x1, x2, x3⟩ : Wd)), (ga, (⟨am, a0, a1, a2, a3⟩ : Wd)), (ga + 1, (⟨bm, b0, b1, b2, b3⟩ : Wd)), (ga + 1 + 1, (⟨km, k0, k1, k2, k3⟩ : Wd))]) W)
        case first =>
          go_wp2_with (first
            | (go_at_call 28; refine (mul2_c ⟨bm, b0, b1, b2, b3⟩ ⟨am, a0, a1, a2, a3⟩ HB.out HA.out _ _ _ (by first | rfl | simp)).mono ?_; rintro e w2 ⟨ym, y0, y1, y2, y3, er, hi, hk, rfl, hb2⟩
               have HI := Lib.hid hi
               clear hi
               have HE2 := Lib.hid (show Env w [(gp, (⟨pm, p0, p1, p2, p3⟩ : Wd)), (gy, (⟨xm, x0, x1, x2, x3⟩ : Wd)), (gx, (⟨xm, x0, x1, x2, x3⟩ : Wd)), (ga, (⟨am, a0, a1, a2, a3⟩ : Wd)), (ga + 1, (⟨bm, b0, b1, b2, b3⟩ : Wd)), (ga + 1 + 1, (⟨km, k0, k1, k2, k3⟩ : Wd))] w2 from HE.out.below (bl_trans (bl_one _ _) hb2)))
            | go_in)
          go_meet
          case rel => exact ⟨_, _, _, _, _, _, _, rfl, rfl, hk, HI, by first | exact HE2.out.new _ rfl _ _ _ _ _ _ | exact HE2.out.new _ (by simp) _ _ _ _ _ _⟩
        case rest =>
          obtain ⟨gq, qm, q0, q1, q2, q3, erq, rfl, rfl, Kq, Iq, S⟩ := hcut
          clear c0 c1 c2 c3 c4 d0 d1 d2 d3 d4 HE
          have HE := Lib.hid S
          clear S
          obtain ⟨rfl, rfl, rfl, rfl, rfl, rfl⟩ := ok_same Ip.out Iq.out Kp.out Kq.out (Int.mul_comm _ _)
          clear Iq Kq
          go_upto_region 5 with (fail)
          obtain ⟨c0, c1, c2, c3, c4⟩ := HE.out.cells (g := gx) (m := xm) (a := x0) (b := x1) (c := x2) (d := x3) (List.mem_cons_of_mem _ (List.mem_cons_of_mem _ (List.mem_cons_of_mem _ List.mem_cons_self)))
          obtain ⟨d0, d1, d2, d3, d4⟩ := HE.out.cells (g := gy) (m := xm) (a := x0) (b := x1) (c := x2) (d := x3) (List.mem_cons_of_mem _ (List.mem_cons_of_mem _ List.mem_cons_self))
          obtain ⟨e0, e1, e2, e3, e4⟩ := HE.out.cells (g := gp) (m := pm) (a := p0) (b := p1) (c := p2) (d := p3) (List.mem_cons_of_mem _ List.mem_cons_self)
          obtain ⟨f0, f1, f2, f3, f4⟩ := HE.out.cells (g := gq) (m := pm) (a := p0) (b := p1) (c := p2) (d := p3) List.mem_cons_self
          have q1 := eqKnown xm x0 x1 x2 x3
          have q2 := eqKnown pm p0 p1 p2 p3
          go_cut [72] (fun bv W => bv = .bool false ∧ Env w [(gq, (⟨pm, p0, p1, p2, p3⟩ : Wd)), (gp, (⟨pm, p0, p1, p2, p3⟩ : Wd)), (gy, (⟨xm, x0, x1, x2, x3⟩ : Wd)), (gx, (⟨xm, x0, x1, x2, x3⟩ : Wd)), (ga, (⟨am, a0, a1, a2, a3⟩ : Wd)), (ga + 1, (⟨bm, b0, b1, b2, b3⟩ : Wd)), (ga + 1 + 1, (⟨km, k0, k1, k2, k3⟩ : Wd))] W)
          case first =>
            go_wp2
            go_meet
            case rel => exact ⟨by first | rfl | simp, HE.out⟩
          case rest =>
            obtain ⟨rfl, S⟩ := hcut
            clear q1 q2 c0 c1 c2 c3 c4 d0 d1 d2 d3 d4 e0 e1 e2 e3 e4 f0 f1 f2 f3 f4 HE
            have HE' := Lib.hid S.less
            clear S
            have HE := Lib.hid HE'.out.less
            clear HE' Kp Ip
            have HE' := Lib.hid HE.out.less
            clear HE
            have HE := HE'
            clear HE'
            go_upto_region 7 with (fail)
            obtain ⟨c0, c1, c2, c3, c4⟩ := HE.out.cells (g := gx) (m := xm) (a := x0) (b := x1) (c := x2) (d := x3) List.mem_cons_self
            obtain ⟨d0, d1, d2, d3, d4⟩ := HE.out.cells (g := ga + 1 + 1) (m := km) (a := k0) (b := k1) (c := k2) (d := k3) (List.mem_cons_of_mem _ (List.mem_cons_of_mem _ (List.mem_cons_of_mem _ List.mem_cons_self)))
            go_cut [15, 16] (fun pv ev W => ∃ gn nm n0 n1 n2 n3 ne, pv = .pointer (some ⟨gn, 0, none⟩) ∧ ev = .int .i64 ne ∧ Hid (WideOk (WV xm x0 x1 x2 x3 * WV km k0 k1 k2 k3) nm n0 n1 n2 n3 ne) ∧ Hid (In4 n0 n1 n2 n3) ∧ Env w ((gn, (⟨nm, n0, n1, n2, n3⟩ : Wd)) :: [(gx, (⟨xm, x0, x1, x2, x3⟩ : Wd)), (ga, (⟨am, a0, a1, a2, a3⟩ : Wd)), (ga + 1, (⟨bm, b0, b1, b2, b3⟩ : Wd)), (ga + 1 + 1, (⟨km, k0, k1, k2, k3⟩ : Wd))]) W)
            case first =>
              go_wp2_with (first
                | (go_at_call 28; refine (mul2_c ⟨xm, x0, x1, x2, x3⟩ ⟨km, k0, k1, k2, k3⟩ Ix.out HC.out _ _ _ (by first | rfl | simp)).mono ?_; rintro e w2 ⟨ym, y0, y1, y2, y3, er, hi, hk, rfl, hb2⟩
                   have HI := Lib.hid hi
                   clear hi
                   have HE2 := Lib.hid (show Env w [(gx, (⟨xm, x0, x1, x2, x3⟩ : Wd)), (ga, (⟨am, a0, a1, a2, a3⟩ : Wd)), (ga + 1, (⟨bm, b0, b1, b2, b3⟩ : Wd)), (ga + 1 + 1, (⟨km, k0, k1, k2, k3⟩ : Wd))] w2 from HE.out.below (bl_trans (bl_one _ _) hb2)))
                | go_in)
              go_meet
              case rel => exact ⟨_, _, _, _, _, _, _, rfl, rfl, hk, HI, by first | exact HE2.out.new _ rfl _ _ _ _ _ _ | exact HE2.out.new _ (by simp) _ _ _ _ _ _⟩
            case rest =>
              obtain ⟨gs, sm, s0, s1, s2, s3, ers, rfl, rfl, Ks, Is, S⟩ := hcut
              clear c0 c1 c2 c3 c4 d0 d1 d2 d3 d4 HE
              have HE := Lib.hid S
              clear S
              go_upto_region 8 with (fail)
              obtain ⟨c0, c1, c2, c3, c4⟩ := HE.out.cells (g := ga) (m := am) (a := a0) (b := a1) (c := a2) (d := a3) (List.mem_cons_of_mem _ (List.mem_cons_of_mem _ List.mem_cons_self))
              obtain ⟨d0, d1, d2, d3, d4⟩ := HE.out.cells (g := ga + 1 + 1) (m := km) (a := k0) (b := k1) (c := k2) (d := k3) (List.mem_cons_of_mem _ (List.mem_cons_of_mem _ (List.mem_cons_of_mem _ (List.mem_cons_of_mem _ List.mem_cons_self))))
              go_cut [17, 18] (fun pv ev W => ∃ gn nm n0 n1 n2 n3 ne, pv = .pointer (some ⟨gn, 0, none⟩) ∧ ev = .int .i64 ne ∧ Hid (WideOk (WV am a0 a1 a2 a3 * WV km k0 k1 k2 k3) nm n0 n1 n2 n3 ne) ∧ Hid (In4 n0 n1 n2 n3) ∧ Env w ((gn, (⟨nm, n0, n1, n2, n3⟩ : Wd)) :: [(gs, (⟨sm, s0, s1, s2, s3⟩ : Wd)), (gx, (⟨xm, x0, x1, x2, x3⟩ : Wd)), (ga, (⟨am, a0, a1, a2, a3⟩ : Wd)), (ga + 1, (⟨bm, b0, b1, b2, b3⟩ : Wd)), (ga + 1 + 1, (⟨km, k0, k1, k2, k3⟩ : Wd))]) W)
              case first =>
                go_wp2_with (first
                  | (go_at_call 28; refine (mul2_c ⟨am, a0, a1, a2, a3⟩ ⟨km, k0, k1, k2, k3⟩ HA.out HC.out _ _ _ (by first | rfl | simp)).mono ?_; rintro e w2 ⟨ym, y0, y1, y2, y3, er, hi, hk, rfl, hb2⟩
                     have HI := Lib.hid hi
                     clear hi
                     have HE2 := Lib.hid (show Env w [(gs, (⟨sm, s0, s1, s2, s3⟩ : Wd)), (gx, (⟨xm, x0, x1, x2, x3⟩ : Wd)), (ga, (⟨am, a0, a1, a2, a3⟩ : Wd)), (ga + 1, (⟨bm, b0, b1, b2, b3⟩ : Wd)), (ga + 1 + 1, (⟨km, k0, k1, k2, k3⟩ : Wd))] w2 from HE.out.below (bl_trans (bl_one _ _) hb2)))
                  | go_in)
                go_meet
                case rel => exact ⟨_, _, _, _, _, _, _, rfl, rfl, hk, HI, by first | exact HE2.out.new _ rfl _ _ _ _ _ _ | exact HE2.out.new _ (by simp) _ _ _ _ _ _⟩
              case rest =>
                obtain ⟨gt, tm, t0, t1, t2, t3, ert, rfl, rfl, Kt, It, S⟩ := hcut
                clear c0 c1 c2 c3 c4 d0 d1 d2 d3 d4 HE
                have HE := Lib.hid S
                clear S
                go_upto_region 9 with (fail)
                obtain ⟨c0, c1, c2, c3, c4⟩ := HE.out.cells (g := ga + 1) (m := bm) (a := b0) (b := b1) (c := b2) (d := b3) (List.mem_cons_of_mem _ (List.mem_cons_of_mem _ (List.mem_cons_of_mem _ (List.mem_cons_of_mem _ List.mem_cons_self))))
                obtain ⟨d0, d1, d2, d3, d4⟩ := HE.out.cells (g := ga + 1 + 1) (m := km) (a := k0) (b := k1) (c := k2) (d := k3) (List.mem_cons_of_mem _ (List.mem_cons_of_mem _ (List.mem_cons_of_mem _ (List.mem_cons_of_mem _ (List.mem_cons_of_mem _ List.mem_cons_self)))))
                go_cut [19, 20] (fun pv ev W => ∃ gn nm n0 n1 n2 n3 ne, pv = .pointer (some ⟨gn, 0, none⟩) ∧ ev = .int .i64 ne ∧ Hid (WideOk (WV bm b0 b1 b2 b3 * WV km k0 k1 k2 k3) nm n0 n1 n2 n3 ne) ∧ Hid (In4 n0 n1 n2 n3) ∧ Env w ((gn, (⟨nm, n0, n1, n2, n3⟩ : Wd)) :: [(gt, (⟨tm, t0, t1, t2, t3⟩ : Wd)), (gs, (⟨sm, s0, s1, s2, s3⟩ : Wd)), (gx, (⟨xm, x0, x1, x2, x3⟩ : Wd)), (ga, (⟨am, a0, a1, a2, a3⟩ : Wd)), (ga + 1, (⟨bm, b0, b1, b2, b3⟩ : Wd)), (ga + 1 + 1, (⟨km, k0, k1, k2, k3⟩ : Wd))]) W)
                case first =>
                  go_wp2_with (first
                    | (go_at_call 28; refine (mul2_c ⟨bm, b0, b1, b2, b3⟩ ⟨km, k0, k1, k2, k3⟩ HB.out HC.out _ _ _ (by first | rfl | simp)).mono ?_; rintro e w2 ⟨ym, y0, y1, y2, y3, er, hi, hk, rfl, hb2⟩
                       have HI := Lib.hid hi
                       clear hi
                       have HE2 := Lib.hid (show Env w [(gt, (⟨tm, t0, t1, t2, t3⟩ : Wd)), (gs, (⟨sm, s0, s1, s2, s3⟩ : Wd)), (gx, (⟨xm, x0, x1, x2, x3⟩ : Wd)), (ga, (⟨am, a0, a1, a2, a3⟩ : Wd)), (ga + 1, (⟨bm, b0, b1, b2, b3⟩ : Wd)), (ga + 1 + 1, (⟨km, k0, k1, k2, k3⟩ : Wd))] w2 from HE.out.below (bl_trans (bl_one _ _) hb2)))
                    | go_in)
                  go_meet
                  case rel => exact ⟨_, _, _, _, _, _, _, rfl, rfl, hk, HI, by first | exact HE2.out.new _ rfl _ _ _ _ _ _ | exact HE2.out.new _ (by simp) _ _ _ _ _ _⟩
                case rest =>
                  obtain ⟨gu, um, u0, u1, u2, u3, eru, rfl, rfl, Ku, Iu, S⟩ := hcut
                  clear c0 c1 c2 c3 c4 d0 d1 d2 d3 d4 HE
                  have HE := Lib.hid S
                  clear S
                  go_upto_region 10 with (fail)
                  obtain ⟨c0, c1, c2, c3, c4⟩ := HE.out.cells (g := gt) (m := tm) (a := t0) (b := t1) (c := t2) (d := t3) (List.mem_cons_of_mem _ List.mem_cons_self)
                  obtain ⟨d0, d1, d2, d3, d4⟩ := HE.out.cells (g := gu) (m := um) (a := u0) (b := u1) (c := u2) (d := u3) List.mem_cons_self
                  go_cut [21, 22] (fun pv ev W => ∃ gn nm n0 n1 n2 n3 ne, pv = .pointer (some ⟨gn, 0, none⟩) ∧ ev = .int .i64 ne ∧ Hid (WideOk (WV tm t0 t1 t2 t3 + WV um u0 u1 u2 u3) nm n0 n1 n2 n3 ne) ∧ Hid (In4 n0 n1 n2 n3) ∧ Env w ((gn, (⟨nm, n0, n1, n2, n3⟩ : Wd)) :: [(gu, (⟨um, u0, u1, u2, u3⟩ : Wd)), (gt, (⟨tm, t0, t1, t2, t3⟩ : Wd)), (gs, (⟨sm, s0, s1, s2, s3⟩ : Wd)), (gx, (⟨xm, x0, x1, x2, x3⟩ : Wd)), (ga, (⟨am, a0, a1, a2, a3⟩ : Wd)), (ga + 1, (⟨bm, b0, b1, b2, b3⟩ : Wd)), (ga + 1 + 1, (⟨km, k0, k1, k2, k3⟩ : Wd))]) W)
                  case first =>
                    go_wp2_with (first
                      | (go_at_call 25; refine (add2_c ⟨tm, t0, t1, t2, t3⟩ ⟨um, u0, u1, u2, u3⟩ It.out Iu.out _ _ _ (by first | rfl | simp)).mono ?_; rintro e w2 ⟨ym, y0, y1, y2, y3, er, hi, hk, rfl, hb2⟩
                         have HI := Lib.hid hi
                         clear hi
                         have HE2 := Lib.hid (show Env w [(gu, (⟨um, u0, u1, u2, u3⟩ : Wd)), (gt, (⟨tm, t0, t1, t2, t3⟩ : Wd)), (gs, (⟨sm, s0, s1, s2, s3⟩ : Wd)), (gx, (⟨xm, x0, x1, x2, x3⟩ : Wd)), (ga, (⟨am, a0, a1, a2, a3⟩ : Wd)), (ga + 1, (⟨bm, b0, b1, b2, b3⟩ : Wd)), (ga + 1 + 1, (⟨km, k0, k1, k2, k3⟩ : Wd))] w2 from HE.out.below (bl_trans (bl_one _ _) hb2)))
                      | go_in)
                    go_meet
                    case rel => exact ⟨_, _, _, _, _, _, _, rfl, rfl, hk, HI, by first | exact HE2.out.new _ rfl _ _ _ _ _ _ | exact HE2.out.new _ (by simp) _ _ _ _ _ _⟩
                  case rest =>
                    obtain ⟨gv, vm, v0, v1, v2, v3, erv, rfl, rfl, Kv, Iv, S⟩ := hcut
                    clear c0 c1 c2 c3 c4 d0 d1 d2 d3 d4 HE
                    have HE := Lib.hid S
                    clear S
                    go_upto_region 11 with (fail)
                    obtain ⟨c0, c1, c2, c3, c4⟩ := HE.out.cells (g := gs) (m := sm) (a := s0) (b := s1) (c := s2) (d := s3) (List.mem_cons_of_mem _ (List.mem_cons_of_mem _ (List.mem_cons_of_mem _ List.mem_cons_self)))
                    obtain ⟨d0, d1, d2, d3, d4⟩ := HE.out.cells (g := gv) (m := vm) (a := v0) (b := v1) (c := v2) (d := v3) List.mem_cons_self
                    go_cut [123] (fun bv W => bv = .bool false ∧ Env w [(gv, (⟨vm, v0, v1, v2, v3⟩ : Wd)), (gu, (⟨um, u0, u1, u2, u3⟩ : Wd)), (gt, (⟨tm, t0, t1, t2, t3⟩ : Wd)), (gs, (⟨sm, s0, s1, s2, s3⟩ : Wd)), (gx, (⟨xm, x0, x1, x2, x3⟩ : Wd)), (ga, (⟨am, a0, a1, a2, a3⟩ : Wd)), (ga + 1, (⟨bm, b0, b1, b2, b3⟩ : Wd)), (ga + 1 + 1, (⟨km, k0, k1, k2, k3⟩ : Wd))] W)
                    case first =>
                      have hx := ok_err Kx.out
                      have hs := ok_err Ks.out
                      have ht := ok_err Kt.out
                      have hu := ok_err Ku.out
                      have hv := ok_err Kv.out
                      have q1 := eqKnown sm s0 s1 s2 s3
                      have hall : erx = 0 → ers = 0 → ert = 0 → eru = 0 → erv = 0 → (sm = vm ∧ s0 = v0 ∧ s1 = v1 ∧ s2 = v2 ∧ s3 = v3) := by
                        intro e1 e2 e3 e4 e5
                        have k1 := ok_val Kx.out e1
                        have k2 := ok_val Ks.out e2
                        have k3 := ok_val Kt.out e3
                        have k4 := ok_val Ku.out e4
                        have k5 := ok_val Kv.out e5
                        refine wv_inj Is.out Iv.out k2.2.1 k5.2.1 ?_
                        rw [k2.1, k5.1, k3.1, k4.1, k1.1, Int.add_mul]
                      clear Kx Ks Kt Ku Kv
                      rcases hx with rfl | rfl
                      · rcases hs with rfl | rfl
                        · rcases ht with rfl | rfl
                          · rcases hu with rfl | rfl
                            · rcases hv with rfl | rfl
                              · obtain ⟨rfl, rfl, rfl, rfl, rfl⟩ := hall rfl rfl rfl rfl rfl
                                clear hall
                                go_wp2
                                go_meet
                                case rel => exact ⟨by first | rfl | simp, HE.out⟩
                              · clear hall
                                go_wp2
                                go_meet
                                case rel => exact ⟨by first | rfl | simp, HE.out⟩
                            · clear hall
                              go_wp2
                              go_meet
                              case rel => exact ⟨by first | rfl | simp, HE.out⟩
                          · clear hall
                            go_wp2
                            go_meet
                            case rel => exact ⟨by first | rfl | simp, HE.out⟩
                        · clear hall
                          go_wp2
                          go_meet
                          case rel => exact ⟨by first | rfl | simp, HE.out⟩
                      · clear hall
                        go_wp2
                        go_meet
                        case rel => exact ⟨by first | rfl | simp, HE.out⟩
                    case rest =>
                      obtain ⟨rfl, S⟩ := hcut
                      clear c0 c1 c2 c3 c4 d0 d1 d2 d3 d4 HE Ks Kt Ku Kv Is It Iu Iv
                      have HE := Lib.hid S.less
                      clear S
                      have HE' := Lib.hid HE.out.less
                      clear HE
                      have HE := Lib.hid HE'.out.less
                      clear HE'
                      have HE' := Lib.hid HE.out.less
                      clear HE
                      have HE := HE'
                      clear HE'
                      go_upto_region 13 with (fail)
                      obtain ⟨c0, c1, c2, c3, c4⟩ := HE.out.cells (g := gx) (m := xm) (a := x0) (b := x1) (c := x2) (d := x3) List.mem_cons_self
                      obtain ⟨d0, d1, d2, d3, d4⟩ := HE.out.cells (g := ga + 1) (m := bm) (a := b0) (b := b1) (c := b2) (d := b3) (List.mem_cons_of_mem _ (List.mem_cons_of_mem _ List.mem_cons_self))
                      go_cut [23, 24] (fun pv ev W => ∃ gn nm n0 n1 n2 n3 ne, pv = .pointer (some ⟨gn, 0, none⟩) ∧ ev = .int .i64 ne ∧ Hid (WideOk (WV xm x0 x1 x2 x3 - WV bm b0 b1 b2 b3) nm n0 n1 n2 n3 ne) ∧ Hid (In4 n0 n1 n2 n3) ∧ Env w ((gn, (⟨nm, n0, n1, n2, n3⟩ : Wd)) :: [(gx, (⟨xm, x0, x1, x2, x3⟩ : Wd)), (ga, (⟨am, a0, a1, a2, a3⟩ : Wd)), (ga + 1, (⟨bm, b0, b1, b2, b3⟩ : Wd)), (ga + 1 + 1, (⟨km, k0, k1, k2, k3⟩ : Wd))]) W)
                      case first =>
                        go_wp2_with (first
                          | (go_at_call 27; refine (sub_c xm bm x0 x1 x2 x3 b0 b1 b2 b3 Ix.out HB.out _).mono ?_; rintro e w2 ⟨ym, y0, y1, y2, y3, er, hi, hk, rfl, hb2⟩
                             have HI := Lib.hid hi
                             clear hi
                             have HE2 := Lib.hid (show Env w [(gx, (⟨xm, x0, x1, x2, x3⟩ : Wd)), (ga, (⟨am, a0, a1, a2, a3⟩ : Wd)), (ga + 1, (⟨bm, b0, b1, b2, b3⟩ : Wd)), (ga + 1 + 1, (⟨km, k0, k1, k2, k3⟩ : Wd))] w2 from HE.out.below hb2))
                          | go_in)
                        go_meet
                        case rel => exact ⟨_, _, _, _, _, _, _, rfl, rfl, hk, HI, by first | exact HE2.out.new _ rfl _ _ _ _ _ _ | exact HE2.out.new _ (by simp) _ _ _ _ _ _⟩
                      case rest =>
                        obtain ⟨gz, zm, z0, z1, z2, z3, erz, rfl, rfl, Kz, Iz, S⟩ := hcut
                        clear c0 c1 c2 c3 c4 d0 d1 d2 d3 d4 HE
                        have HE := Lib.hid S
                        clear S
                        go_upto_region 14 with (fail)
                        obtain ⟨c0, c1, c2, c3, c4⟩ := HE.out.cells (g := ga) (m := am) (a := a0) (b := a1) (c := a2) (d := a3) (List.mem_cons_of_mem _ (List.mem_cons_of_mem _ List.mem_cons_self))
                        go_cut [25] (fun pv W => ∃ gn nm, pv = .pointer (some ⟨gn, 0, none⟩) ∧ Hid (nm = (am && decide (V4 a0 a1 a2 a3 ≠ 0))) ∧ Env w ((gn, (⟨nm, a0, a1, a2, a3⟩ : Wd)) :: [(gz, (⟨zm, z0, z1, z2, z3⟩ : Wd)), (gx, (⟨xm, x0, x1, x2, x3⟩ : Wd)), (ga, (⟨am, a0, a1, a2, a3⟩ : Wd)), (ga + 1, (⟨bm, b0, b1, b2, b3⟩ : Wd)), (ga + 1 + 1, (⟨km, k0, k1, k2, k3⟩ : Wd))]) W)
                        case first =>
                          obtain ⟨rm, hrm⟩ : ∃ rm, rm = (am && decide (V4 a0 a1 a2 a3 ≠ 0)) := ⟨_, rfl⟩
                          have HRM := Lib.hid hrm
                          clear hrm
                          go_wp2_with (first
                            | (go_at_call 11; (with_reducible refine (refOf_num am a0 a1 a2 a3 HA.out _).mono ?_); rintro e w1 ⟨v, rfl, hN, hb1⟩
                               rw [← HRM.out] at hN
                               have HN := Lib.hid hN
                               clear hN)
                            | (go_at_call 13; (with_reducible refine (refWide_num v rm a0 a1 a2 a3 HA.out _ HN.out).mono ?_); rintro e w2 ⟨rfl, hb2⟩
                               have HE2 := Lib.hid (show Env w [(gz, (⟨zm, z0, z1, z2, z3⟩ : Wd)), (gx, (⟨xm, x0, x1, x2, x3⟩ : Wd)), (ga, (⟨am, a0, a1, a2, a3⟩ : Wd)), (ga + 1, (⟨bm, b0, b1, b2, b3⟩ : Wd)), (ga + 1 + 1, (⟨km, k0, k1, k2, k3⟩ : Wd))] w2 from (HE.out.below hb1).below hb2))
                            | go_in)
                          go_meet
                          case rel => exact ⟨_, rm, rfl, HRM, by first | exact HE2.out.new _ rfl _ _ _ _ _ _ | exact HE2.out.new _ (by simp) _ _ _ _ _ _⟩
                        case rest =>
                          obtain ⟨gr, rm, rfl, Kr, S⟩ := hcut
                          clear c0 c1 c2 c3 c4 HE
                          have HE := Lib.hid S
                          clear S
                          obtain ⟨c0, c1, c2, c3, c4⟩ := HE.out.cells (g := gr) (m := rm) (a := a0) (b := a1) (c := a2) (d := a3) List.mem_cons_self
                          obtain ⟨d0, d1, d2, d3, d4⟩ := HE.out.cells (g := gz) (m := zm) (a := z0) (b := z1) (c := z2) (d := z3) (List.mem_cons_of_mem _ List.mem_cons_self)
                          have q1 := eqKnown rm a0 a1 a2 a3
                          have hx := ok_err Kx.out
                          have hz : erx = 0 → erz = 0 ∧ (zm = rm ∧ z0 = a0 ∧ z1 = a1 ∧ z2 = a2 ∧ z3 = a3) := by
                            intro e1
                            have k1 := ok_val Kx.out e1
                            have ha := wv_bounds (m := am) HA.out
                            have kn := norm_of Kr.out
                            have e2 : erz = 0 := by
                              rcases Kz.out with ⟨e, -⟩ | ⟨-, -, h⟩
                              · exact e
                              · rw [k1.1] at h; omega
                            have k2 := ok_val Kz.out e2
                            refine ⟨e2, wv_inj Iz.out HA.out k2.2.1 kn.2 ?_⟩
                            rw [k2.1, k1.1, kn.1, ← wv_eq]; omega
                          clear Kx Kz Kr
                          rcases hx with rfl | rfl
                          · obtain ⟨rfl, rfl, rfl, rfl, rfl, rfl⟩ := hz rfl
                            clear hz
                            go_wp2_with (first
                              | (go_at_call 23; (with_reducible refine (known_c _).mono ?_); rintro e w1 ⟨rfl, hb1⟩)
                              | go_in)
                            go_ret
                            exact ⟨by first | rfl | simp, bl_trans HE.out.hb hb1⟩
                          · clear hz
                            go_wp2_with (first
                              | (go_at_call 23; (with_reducible refine (known_c _).mono ?_); rintro e w1 ⟨rfl, hb1⟩)
                              | go_in)
                            go_ret
                            exact ⟨by first | rfl | simp, bl_trans HE.out.hb hb1⟩
end Go.Proofs.Ytalffldjimcgeaa
