/-
  The walk of the law WideAdds.
-/
import Derived.Test.YtbgbmimgkhchhaaMuls
import Derived.Test.YtbgbmimgkhchhaaEnvN
import Derived.Test.YtbgbmimgkhchhaaSub
namespace Go.Proofs.Ytbgbmimgkhchhaa
open Go.RowKit

theorem fold_two {x y z : Int} {X Y : Wd} (hX : X.ok) (hx : X.val = x) (hy : Y.val = y) (hz : x + y = z) {m : Bool} {a b c d er : Int} (h : FoldIs (fun x y => x + y) 0 [X, Y] m a b c d er) : WideOk z m a b c d er := by
  have hb := wv_bounds (m := X.m) hX
  have e0 : fres (fun x y => x + y) 0 [X, Y] = if -M256 < z ∧ z < M256 then some z else none := by
    have e1 : 0 + X.val = x := by omega
    have e2 : x + Y.val = z := by omega
    have hx2 : -M256 < x ∧ x < M256 := by rw [← hx]; exact hb
    simp only [fres, e1, e2, if_pos hx2]
  rcases h with ⟨rfl, h1, h2⟩ | ⟨rfl, h0, h1⟩
  · rw [e0] at h1
    by_cases hin : -M256 < z ∧ z < M256
    · rw [if_pos hin] at h1
      exact .inl ⟨rfl, (Option.some.inj h1).symm, h2, hin.1, hin.2⟩
    · rw [if_neg hin] at h1; cases h1
  · rw [e0] at h1
    by_cases hin : -M256 < z ∧ z < M256
    · rw [if_pos hin] at h1; cases h1
    · exact .inr ⟨rfl, h0, by omega⟩

theorem refAdd2_c (x y : Wd) (hx : x.ok) (hy : y.ok) (w0 : World) (g : Nat) (t : TypeId) (hg : g = w0.heap.size) :
    Calls Try.prog 26 #[.slice (some ⟨g, 0, none⟩) 2 2] (w0.alloc (.cells #[.bool x.m, .int .u64 x.a, .int .u64 x.b, .int .u64 x.c, .int .u64 x.d, .bool y.m, .int .u64 y.a, .int .u64 y.b, .int .u64 y.c, .int .u64 y.d] t)) (FoldP (fun x y => x + y) 0 [x, y] (w0.alloc (.cells #[.bool x.m, .int .u64 x.a, .int .u64 x.b, .int .u64 x.c, .int .u64 x.d, .bool y.m, .int .u64 y.a, .int .u64 y.b, .int .u64 y.c, .int .u64 y.d] t))) :=
  refAdd_some g 0 2 2 [x, y] rfl (by omega) _ (wides2' w0 g hg x y hx hy t)

set_option maxHeartbeats 40000000 in
set_option maxRecDepth 100000 in
theorem adds_c (ad : Option Addr) (cp : Nat) (l : List Wd) (am bm : Bool) (a0 a1 a2 a3 b0 b1 b2 b3 : Int) (hA : In4 a0 a1 a2 a3) (hB : In4 b0 b1 b2 b3) (w : World) (hS : WSlice w ad l) :
    Calls Try.prog 5 #[.slice ad l.length cp, (.agg #[.bool am, .int .u64 a0, .int .u64 a1, .int .u64 a2, .int .u64 a3]), (.agg #[.bool bm, .int .u64 b0, .int .u64 b1, .int .u64 b2, .int .u64 b3])] w (Gives (.bool true) w) := by
  have HS := Lib.hid hS
  have HA := Lib.hid hA
  have HB := Lib.hid hB
  clear hS hA hB
  go_enter Try.func5, Try.ntmps5
  go_upto_region 1 with (fail)
  generalize hg : w.heap.size = ga at *
  have HG := Lib.hid hg
  clear hg
  refine wp_abs (fun W => Env w [(ga, (⟨am, a0, a1, a2, a3⟩ : Wd)), (ga + 1, (⟨bm, b0, b1, b2, b3⟩ : Wd))] W) ?_ ?_
  · have eg := HG.out
    subst eg
    refine Env.push (Env.push ⟨fun p hp => by simp at hp, by repeat (first | (with_reducible exact Below.refl _ _) | (with_reducible refine bl_alloc ?_ _) | (with_reducible refine Below.drew ?_) | (with_reducible refine below_drewN' ?_ _) | ((with_reducible refine bl_set ?_ ?_ _); (rotate_left; (dsimp only; omega))))⟩ ?_) ?_ <;> (constructor <;> simp [go_sem])
  clear HG
  intro W0 S0
  have HE := Lib.hid S0
  clear S0
  by_cases hb : l.length ≤ 200
  · go_upto_region 3 with (fail)
    go_cut [7, 8] (fun pv ev W => ∃ gn nm n0 n1 n2 n3 ne, pv = .pointer (some ⟨gn, 0, none⟩) ∧ ev = .int .i64 ne ∧ Hid (FoldIs (fun x y => x + y) 0 l nm n0 n1 n2 n3 ne) ∧ Hid (In4 n0 n1 n2 n3) ∧ Env w ((gn, (⟨nm, n0, n1, n2, n3⟩ : Wd)) :: [(ga, (⟨am, a0, a1, a2, a3⟩ : Wd)), (ga + 1, (⟨bm, b0, b1, b2, b3⟩ : Wd))]) W)
    case first =>
      go_wp2_with (first
        | (go_at_call 25; (with_reducible refine (add_any ad cp l hb _ (HS.out.below HE.out.hb)).mono ?_); rintro e w2 ⟨ym, y0, y1, y2, y3, er, hi, hk, rfl, hb2⟩
           have HI := Lib.hid hi
           clear hi
           have HE2 := Lib.hid (HE.out.below hb2))
        | go_in)
      go_meet
      case rel => exact ⟨_, _, _, _, _, _, _, rfl, rfl, hk, HI, by first | exact HE2.out.new _ rfl _ _ _ _ _ _ | exact HE2.out.new _ (by simp) _ _ _ _ _ _⟩
    case rest =>
      obtain ⟨gx, xm, x0, x1, x2, x3, erx, rfl, rfl, Kx, Ix, S⟩ := hcut
      clear HE
      have HE := Lib.hid S
      clear S
      go_upto_region 4 with (fail)
      go_cut [9, 10] (fun pv ev W => ∃ gn nm n0 n1 n2 n3 ne, pv = .pointer (some ⟨gn, 0, none⟩) ∧ ev = .int .i64 ne ∧ Hid (FoldIs (fun x y => x + y) 0 l nm n0 n1 n2 n3 ne) ∧ Hid (In4 n0 n1 n2 n3) ∧ Env w ((gn, (⟨nm, n0, n1, n2, n3⟩ : Wd)) :: [(gx, (⟨xm, x0, x1, x2, x3⟩ : Wd)), (ga, (⟨am, a0, a1, a2, a3⟩ : Wd)), (ga + 1, (⟨bm, b0, b1, b2, b3⟩ : Wd))]) W)
      case first =>
        go_wp2_with (first
          | (go_at_call 26; (with_reducible refine (refAdd_any ad cp l hb _ (HS.out.below HE.out.hb)).mono ?_); rintro e w2 ⟨ym, y0, y1, y2, y3, er, hi, hk, rfl, hb2⟩
             have HI := Lib.hid hi
             clear hi
             have HE2 := Lib.hid (HE.out.below hb2))
          | go_in)
        go_meet
        case rel => exact ⟨_, _, _, _, _, _, _, rfl, rfl, hk, HI, by first | exact HE2.out.new _ rfl _ _ _ _ _ _ | exact HE2.out.new _ (by simp) _ _ _ _ _ _⟩
      case rest =>
        obtain ⟨gy, ym, y0, y1, y2, y3, ery, rfl, rfl, Ky, Iy, S⟩ := hcut
        clear HE
        have HE := Lib.hid S
        clear S
        obtain ⟨rfl, rfl, rfl, rfl, rfl, rfl⟩ := fold_same Ix.out Iy.out Kx.out Ky.out
        clear Ky Iy Kx Ix
        go_upto_region 5 with (fail)
        obtain ⟨c0, c1, c2, c3, c4⟩ := HE.out.cells (g := ga + 1) (m := bm) (a := b0) (b := b1) (c := b2) (d := b3) (List.mem_cons_of_mem _ (List.mem_cons_of_mem _ (List.mem_cons_of_mem _ List.mem_cons_self)))
        go_cut [11, 12] (fun pv ev W => ∃ gn nm n0 n1 n2 n3, pv = .pointer (some ⟨gn, 0, none⟩) ∧ ev = .bool true ∧ Hid (WV nm n0 n1 n2 n3 = - WV bm b0 b1 b2 b3) ∧ Hid (In4 n0 n1 n2 n3) ∧ Env w ((gn, (⟨nm, n0, n1, n2, n3⟩ : Wd)) :: [(gy, (⟨xm, x0, x1, x2, x3⟩ : Wd)), (gx, (⟨xm, x0, x1, x2, x3⟩ : Wd)), (ga, (⟨am, a0, a1, a2, a3⟩ : Wd)), (ga + 1, (⟨bm, b0, b1, b2, b3⟩ : Wd))]) W)
        case first =>
          go_wp2_with (first
            | (go_at_call 11; (with_reducible refine (of_num bm b0 b1 b2 b3 HB.out _).mono ?_); rintro e w2 ⟨v, rfl, hN, hb2⟩
               have HN := Lib.hid hN
               clear hN
               have HE2 := Lib.hid (HE.out.below hb2))
            | (go_at_call 12; (with_reducible refine (neg_num v _ _ HN.out).mono ?_); rintro e w3 ⟨v2, rfl, hN2, hb3⟩
               have HN2 := Lib.hid hN2
               clear hN2
               have HE3 := Lib.hid (HE2.out.below hb3))
            | (go_at_call 13; (with_reducible refine (wide_num v2 _ _ HN2.out).mono ?_); rintro e w4 ⟨ym, y0, y1, y2, y3, ok, hi, hk, rfl, hb4⟩
               obtain ⟨rfl, hv⟩ : ok = true ∧ WV ym y0 y1 y2 y3 = - WV bm b0 b1 b2 b3 := by
                 have := wv_bounds (m := bm) HB.out
                 rcases hk.out with ⟨h1, h2, -⟩ | ⟨-, -, h2⟩
                 · exact ⟨h1, h2⟩
                 · omega
               have HV := Lib.hid hv
               have HI := Lib.hid hi
               clear hi hv hk
               have HE4 := Lib.hid (HE3.out.below hb4))
            | go_in)
          go_meet
          case rel => exact ⟨_, _, _, _, _, _, rfl, rfl, HV, HI, by first | exact HE4.out.new _ rfl _ _ _ _ _ _ | exact HE4.out.new _ (by simp) _ _ _ _ _ _⟩
        case rest =>
          obtain ⟨gw, wm, z0, z1, z2, z3, rfl, rfl, Kw, Iw, S⟩ := hcut
          clear c0 c1 c2 c3 c4 HE
          have HE := Lib.hid S
          clear S
          go_upto_region 6 with (fail)
          obtain ⟨c0, c1, c2, c3, c4⟩ := HE.out.cells (g := ga) (m := am) (a := a0) (b := a1) (c := a2) (d := a3) (List.mem_cons_of_mem _ (List.mem_cons_of_mem _ (List.mem_cons_of_mem _ List.mem_cons_self)))
          obtain ⟨d0, d1, d2, d3, d4⟩ := HE.out.cells (g := ga + 1) (m := bm) (a := b0) (b := b1) (c := b2) (d := b3) (List.mem_cons_of_mem _ (List.mem_cons_of_mem _ (List.mem_cons_of_mem _ (List.mem_cons_of_mem _ List.mem_cons_self))))
          go_cut [13, 14] (fun pv ev W => ∃ gn nm n0 n1 n2 n3 ne, pv = .pointer (some ⟨gn, 0, none⟩) ∧ ev = .int .i64 ne ∧ Hid (WideOk (WV am a0 a1 a2 a3 - WV bm b0 b1 b2 b3) nm n0 n1 n2 n3 ne) ∧ Hid (In4 n0 n1 n2 n3) ∧ Env w ((gn, (⟨nm, n0, n1, n2, n3⟩ : Wd)) :: [(gw, (⟨wm, z0, z1, z2, z3⟩ : Wd)), (gy, (⟨xm, x0, x1, x2, x3⟩ : Wd)), (gx, (⟨xm, x0, x1, x2, x3⟩ : Wd)), (ga, (⟨am, a0, a1, a2, a3⟩ : Wd)), (ga + 1, (⟨bm, b0, b1, b2, b3⟩ : Wd))]) W)
          case first =>
            go_wp2_with (first
              | (go_at_call 27; (with_reducible refine (sub_c am bm a0 a1 a2 a3 b0 b1 b2 b3 HA.out HB.out _).mono ?_); rintro e w2 ⟨ym, y0, y1, y2, y3, er, hi, hk, rfl, hb2⟩
                 have HI := Lib.hid hi
                 clear hi
                 have HE2 := Lib.hid (HE.out.below hb2))
              | go_in)
            go_meet
            case rel => exact ⟨_, _, _, _, _, _, _, rfl, rfl, hk, HI, by first | exact HE2.out.new _ rfl _ _ _ _ _ _ | exact HE2.out.new _ (by simp) _ _ _ _ _ _⟩
          case rest =>
            obtain ⟨gd, dm, e0, e1, e2, e3, erd, rfl, rfl, Kd, Id, S⟩ := hcut
            clear c0 c1 c2 c3 c4 d0 d1 d2 d3 d4 HE
            have HE := Lib.hid S
            clear S
            go_upto_region 7 with (fail)
            obtain ⟨c0, c1, c2, c3, c4⟩ := HE.out.cells (g := ga) (m := am) (a := a0) (b := a1) (c := a2) (d := a3) (List.mem_cons_of_mem _ (List.mem_cons_of_mem _ (List.mem_cons_of_mem _ (List.mem_cons_of_mem _ List.mem_cons_self))))
            obtain ⟨d0, d1, d2, d3, d4⟩ := HE.out.cells (g := gw) (m := wm) (a := z0) (b := z1) (c := z2) (d := z3) (List.mem_cons_of_mem _ List.mem_cons_self)
            go_cut [15, 16] (fun pv ev W => ∃ gn nm n0 n1 n2 n3 ne, pv = .pointer (some ⟨gn, 0, none⟩) ∧ ev = .int .i64 ne ∧ Hid (WideOk (WV am a0 a1 a2 a3 - WV bm b0 b1 b2 b3) nm n0 n1 n2 n3 ne) ∧ Hid (In4 n0 n1 n2 n3) ∧ Env w ((gn, (⟨nm, n0, n1, n2, n3⟩ : Wd)) :: [(gd, (⟨dm, e0, e1, e2, e3⟩ : Wd)), (gw, (⟨wm, z0, z1, z2, z3⟩ : Wd)), (gy, (⟨xm, x0, x1, x2, x3⟩ : Wd)), (gx, (⟨xm, x0, x1, x2, x3⟩ : Wd)), (ga, (⟨am, a0, a1, a2, a3⟩ : Wd)), (ga + 1, (⟨bm, b0, b1, b2, b3⟩ : Wd))]) W)
            case first =>
              go_wp2_with (first
                | (go_at_call 26
                   refine (refAdd2_c ⟨am, a0, a1, a2, a3⟩ ⟨wm, z0, z1, z2, z3⟩ HA.out Iw.out _ _ _ (by first | rfl | simp)).mono ?_; rintro e w2 ⟨ym, y0, y1, y2, y3, er, hi, hk, rfl, hb2⟩
                   have hk2 := Lib.hid (fold_two (X := ⟨am, a0, a1, a2, a3⟩) (Y := ⟨wm, z0, z1, z2, z3⟩) HA.out rfl Kw.out (z := WV am a0 a1 a2 a3 - WV bm b0 b1 b2 b3) (by show WV am a0 a1 a2 a3 + _ = _; omega) hk.out)
                   have HI := Lib.hid hi
                   clear hi
                   have HE2 := Lib.hid (HE.out.below (bl_trans (bl_one _ _) hb2)))
                | go_in)
              go_meet
              case rel => exact ⟨_, _, _, _, _, _, _, rfl, rfl, hk2, HI, by first | exact HE2.out.new _ rfl _ _ _ _ _ _ | exact HE2.out.new _ (by simp) _ _ _ _ _ _⟩
            case rest =>
              obtain ⟨gc, cm, f0, f1, f2, f3, erc, rfl, rfl, Kc, Ic, S⟩ := hcut
              clear c0 c1 c2 c3 c4 d0 d1 d2 d3 d4 HE
              have HE := Lib.hid S
              clear S
              obtain ⟨rfl, rfl, rfl, rfl, rfl, rfl⟩ := ok_same Id.out Ic.out Kd.out Kc.out rfl
              clear Kc Ic Kd Id Kw Iw
              obtain ⟨c0, c1, c2, c3, c4⟩ := HE.out.cells (g := gx) (m := xm) (a := x0) (b := x1) (c := x2) (d := x3) (List.mem_cons_of_mem _ (List.mem_cons_of_mem _ (List.mem_cons_of_mem _ (List.mem_cons_of_mem _ List.mem_cons_self))))
              obtain ⟨d0, d1, d2, d3, d4⟩ := HE.out.cells (g := gy) (m := xm) (a := x0) (b := x1) (c := x2) (d := x3) (List.mem_cons_of_mem _ (List.mem_cons_of_mem _ (List.mem_cons_of_mem _ List.mem_cons_self)))
              obtain ⟨g0, g1, g2, g3, g4⟩ := HE.out.cells (g := gd) (m := dm) (a := e0) (b := e1) (c := e2) (d := e3) (List.mem_cons_of_mem _ List.mem_cons_self)
              obtain ⟨h0, h1, h2, h3, h4⟩ := HE.out.cells (g := gc) (m := dm) (a := e0) (b := e1) (c := e2) (d := e3) List.mem_cons_self
              have q1 := eqKnown xm x0 x1 x2 x3
              have q2 := eqKnown dm e0 e1 e2 e3
              go_wp2_with (first
                | (go_at_call 23; (with_reducible refine (known_c _).mono ?_); rintro e w1 ⟨rfl, hb1⟩)
                | go_in)
              go_ret
              exact ⟨by first | rfl | simp, bl_trans HE.out.hb hb1⟩
  · go_wp2_with (first
      | (go_at_call 23; (with_reducible refine (known_c _).mono ?_); rintro e w1 ⟨rfl, hb1⟩)
      | go_in)
    go_ret
    exact ⟨by first | rfl | simp, bl_trans HE.out.hb hb1⟩
end Go.Proofs.Ytbgbmimgkhchhaa
