/-
  The walk of the law WideDivs.
-/
import Derived.Test.YtalffldjimcgeaaKnown
import Derived.Test.YtalffldjimcgeaaCmps
import Derived.Test.YtalffldjimcgeaaRefLit
import Derived.Test.YtalffldjimcgeaaEnvN
import Derived.Deep.RegionHeld3
namespace Go.Proofs.Ytalffldjimcgeaa
open Go.RowKit

theorem divs_big {am bm qm rm : Bool} {a0 a1 a2 a3 b0 b1 b2 b3 q0 q1 q2 q3 r0 r1 r2 r3 : Int} (hA : In4 a0 a1 a2 a3) (hB : In4 b0 b1 b2 b3) (hQ : In4 q0 q1 q2 q3) (hR : In4 r0 r1 r2 r3) (hd : WV am a0 a1 a2 a3 = WV qm q0 q1 q2 q3 * WV bm b0 b1 b2 b3 + WV rm r0 r1 r2 r3) (h0 : 0 ≤ WV rm r0 r1 r2 r3) (_h1 : WV rm r0 r1 r2 r3 < (if WV bm b0 b1 b2 b3 < 0 then -(WV bm b0 b1 b2 b3) else WV bm b0 b1 b2 b3)) :
    (-BIG < WV rm r0 r1 r2 r3 ∧ WV rm r0 r1 r2 r3 < BIG) ∧ (-BIG < WV qm q0 q1 q2 q3 ∧ WV qm q0 q1 q2 q3 < BIG) ∧ (-BIG < WV qm q0 q1 q2 q3 * WV bm b0 b1 b2 b3 ∧ WV qm q0 q1 q2 q3 * WV bm b0 b1 b2 b3 < BIG) ∧ (-BIG < (WV qm q0 q1 q2 q3 * WV bm b0 b1 b2 b3 + WV rm r0 r1 r2 r3) ∧ (WV qm q0 q1 q2 q3 * WV bm b0 b1 b2 b3 + WV rm r0 r1 r2 r3) < BIG) ∧ (-BIG < (if WV bm b0 b1 b2 b3 < 0 then -(WV bm b0 b1 b2 b3) else WV bm b0 b1 b2 b3) ∧ (if WV bm b0 b1 b2 b3 < 0 then -(WV bm b0 b1 b2 b3) else WV bm b0 b1 b2 b3) < BIG) := by
  have ba := wv_bounds (m := am) hA
  have bb := wv_bounds (m := bm) hB
  have br := wv_bounds (m := rm) hR
  have bq := wv_bounds (m := qm) hQ
  have big : 4 * M256 < BIG := by unfold M256 BIG; decide
  have pos : 0 < M256 := by unfold M256; omega
  generalize WV qm q0 q1 q2 q3 * WV bm b0 b1 b2 b3 = p at *
  refine ⟨by omega, by omega, by omega, by omega, ?_⟩
  split <;> omega

set_option maxHeartbeats 40000000 in
set_option maxRecDepth 100000 in
theorem divs_c (am bm : Bool) (a0 a1 a2 a3 b0 b1 b2 b3 : Int) (hA : In4 a0 a1 a2 a3) (hB : In4 b0 b1 b2 b3) (w : World) :
    Calls Try.prog 7 #[(.agg #[.bool am, .int .u64 a0, .int .u64 a1, .int .u64 a2, .int .u64 a3]), (.agg #[.bool bm, .int .u64 b0, .int .u64 b1, .int .u64 b2, .int .u64 b3])] w (Gives (.bool true) w) := by
  have HA := Lib.hid hA
  have HB := Lib.hid hB
  clear hA hB
  go_enter Try.func7, Try.ntmps7
  go_upto_region 1 with (fail)
  generalize hg : w.heap.size = ga at *
  have HG := Lib.hid hg
  clear hg
  refine wp_abs (fun W => Env w [(ga, (⟨am, a0, a1, a2, a3⟩ : Wd)), (ga + 1, (⟨bm, b0, b1, b2, b3⟩ : Wd))] W) ?_ ?_
  · have eg := HG.out
    subst eg
    refine Env.push (Env.push ⟨fun p hp => by simp at hp, by repeat (first | (with_reducible exact Below.refl _ _) | (with_reducible refine bl_alloc ?_ _) | (with_reducible refine Below.drew ?_) | (with_reducible refine below_drewN' ?_ _) | ((with_reducible refine bl_set ?_ ?_ _); (rotate_left; (dsimp only; omega))))⟩ ?_) ?_ <;> (constructor <;> simp [go_sem])
  clear HG
  intro W0 S0
  have HE := Lib.hid S0
  clear S0
  obtain ⟨c0, c1, c2, c3, c4⟩ := HE.out.cells (g := ga) (m := am) (a := a0) (b := a1) (c := a2) (d := a3) List.mem_cons_self
  obtain ⟨d0, d1, d2, d3, d4⟩ := HE.out.cells (g := ga + 1) (m := bm) (a := b0) (b := b1) (c := b2) (d := b3) (List.mem_cons_of_mem _ List.mem_cons_self)
  go_cut [5, 6, 7] (fun qv rv ev W => ∃ gq gr qm q0 q1 q2 q3 rm r0 r1 r2 r3 er, qv = .pointer (some ⟨gq, 0, none⟩) ∧ rv = .pointer (some ⟨gr, 0, none⟩) ∧ ev = .int .i64 er ∧ Hid (DivOk (WV am a0 a1 a2 a3) (WV bm b0 b1 b2 b3) qm q0 q1 q2 q3 rm r0 r1 r2 r3 er) ∧ Hid (In4 q0 q1 q2 q3) ∧ Hid (In4 r0 r1 r2 r3) ∧ Env w [(gr, (⟨rm, r0, r1, r2, r3⟩ : Wd)), (gq, (⟨qm, q0, q1, q2, q3⟩ : Wd)), (ga, (⟨am, a0, a1, a2, a3⟩ : Wd)), (ga + 1, (⟨bm, b0, b1, b2, b3⟩ : Wd))] W)
  case first =>
    go_wp2_with (first
      | (go_at_call 30; (with_reducible refine (divMod_c am bm a0 a1 a2 a3 b0 b1 b2 b3 HA.out HB.out _).mono ?_); rintro e w2 ⟨qm, q0, q1, q2, q3, rm, r0, r1, r2, r3, er, hi, hj, hk, rfl, hb2⟩
         have HI := Lib.hid hi
         have HJ := Lib.hid hj
         clear hi hj
         have HE2 := Lib.hid (HE.out.below hb2))
      | go_in)
    go_meet
    case rel =>
      exact ⟨_, _, _, _, _, _, _, _, _, _, _, _, _, rfl, rfl, rfl, hk, HI, HJ, (HE2.out.new _ rfl _ _ _ _ _ _).new _ (by simp) _ _ _ _ _ _⟩
  case rest =>
    obtain ⟨gq, gr, qm, q0, q1, q2, q3, rm, r0, r1, r2, r3, er, rfl, rfl, rfl, KD, IQ, IR, S⟩ := hcut
    clear c0 c1 c2 c3 c4 d0 d1 d2 d3 d4 HE
    have HE : Hid (EnvN w [(gr, (⟨rm, r0, r1, r2, r3⟩ : Wd)), (gq, (⟨qm, q0, q1, q2, q3⟩ : Wd)), (ga, (⟨am, a0, a1, a2, a3⟩ : Wd)), (ga + 1, (⟨bm, b0, b1, b2, b3⟩ : Wd))] [] wc) := ⟨S, fun p hp => by simp at hp⟩
    clear S
    go_upto_region 2 with (fail)
    obtain ⟨c0, c1, c2, c3, c4⟩ := HE.out.e.cells (g := ga) (m := am) (a := a0) (b := a1) (c := a2) (d := a3) (List.mem_cons_of_mem _ (List.mem_cons_of_mem _ List.mem_cons_self))
    go_cut [8] (fun pv W => ∃ gn nm nad nn nc, pv = .pointer (some ⟨gn, 0, none⟩) ∧ EnvN w [(gr, (⟨rm, r0, r1, r2, r3⟩ : Wd)), (gq, (⟨qm, q0, q1, q2, q3⟩ : Wd)), (ga, (⟨am, a0, a1, a2, a3⟩ : Wd)), (ga + 1, (⟨bm, b0, b1, b2, b3⟩ : Wd))] ((gn, (⟨nm, nad, nn, nc, WV am a0 a1 a2 a3⟩ : Nv)) :: []) W)
    case first =>
      go_wp2_with (first
        | (go_at_call 11; (with_reducible refine (of_num am a0 a1 a2 a3 HA.out _).mono ?_); rintro e w1 ⟨v, rfl, hN, hb1⟩
           obtain ⟨nm, nad, nn, nc, rfl⟩ := hN.shape
           have HN := Lib.hid hN
           clear hN
           have HE1 := Lib.hid (HE.out.below hb1))
        | go_in)
      go_meet
      case rel => exact ⟨_, _, _, _, _, rfl, HE1.out.new _ rfl _ _ _ _ _ HN.out _⟩
    case rest =>
      obtain ⟨gx, xm, xad, xn, xc, rfl, S⟩ := hcut
      clear c0 c1 c2 c3 c4 HE
      have HE := Lib.hid S
      clear S
      go_upto_region 3 with (fail)
      obtain ⟨c0, c1, c2, c3, c4⟩ := HE.out.e.cells (g := ga + 1) (m := bm) (a := b0) (b := b1) (c := b2) (d := b3) (List.mem_cons_of_mem _ (List.mem_cons_of_mem _ (List.mem_cons_of_mem _ List.mem_cons_self)))
      go_cut [9] (fun pv W => ∃ gn nm nad nn nc, pv = .pointer (some ⟨gn, 0, none⟩) ∧ EnvN w [(gr, (⟨rm, r0, r1, r2, r3⟩ : Wd)), (gq, (⟨qm, q0, q1, q2, q3⟩ : Wd)), (ga, (⟨am, a0, a1, a2, a3⟩ : Wd)), (ga + 1, (⟨bm, b0, b1, b2, b3⟩ : Wd))] ((gn, (⟨nm, nad, nn, nc, WV bm b0 b1 b2 b3⟩ : Nv)) :: [(gx, (⟨xm, xad, xn, xc, WV am a0 a1 a2 a3⟩ : Nv))]) W)
      case first =>
        go_wp2_with (first
          | (go_at_call 11; (with_reducible refine (of_num bm b0 b1 b2 b3 HB.out _).mono ?_); rintro e w1 ⟨v, rfl, hN, hb1⟩
             obtain ⟨nm, nad, nn, nc, rfl⟩ := hN.shape
             have HN := Lib.hid hN
             clear hN
             have HE1 := Lib.hid (HE.out.below hb1))
          | go_in)
        go_meet
        case rel => exact ⟨_, _, _, _, _, rfl, HE1.out.new _ rfl _ _ _ _ _ HN.out _⟩
      case rest =>
        obtain ⟨gy, ym, yad, yn, yc, rfl, S⟩ := hcut
        clear c0 c1 c2 c3 c4 HE
        have HE := Lib.hid S
        clear S
        have ba := wv_big (m := am) HA.out
        have bb := wv_big (m := bm) HB.out
        have HBA := Lib.hid ba
        have HBB := Lib.hid bb
        clear ba bb
        obtain ⟨y0, y1, HY⟩ := HE.out.num (g := gy) (m := ym) (ad := yad) (n := yn) (c := yc) (z := WV bm b0 b1 b2 b3) List.mem_cons_self
        by_cases hB0 : WV bm b0 b1 b2 b3 = 0
        · obtain ⟨rfl, ⟨rfl, rfl, rfl, rfl, rfl⟩, ⟨rfl, rfl, rfl, rfl, rfl⟩⟩ : er = 2 ∧ (qm = false ∧ q0 = 0 ∧ q1 = 0 ∧ q2 = 0 ∧ q3 = 0) ∧ (rm = false ∧ r0 = 0 ∧ r1 = 0 ∧ r2 = 0 ∧ r3 = 0) := by
            rcases KD.out with ⟨h, -⟩ | ⟨-, h⟩
            · exact absurd hB0 h
            · exact h
          have e0 := sgZ_eq hB0
          have HS := Lib.hid (fun W h => sign_is (.agg #[.bool ym, .slice yad yn yc]) _ 0 W h e0)
          clear e0 hB0
          have q1 := eqKnown false 0 0 0 0
          go_wp2_with (first
            | (go_at_call 17; (with_reducible refine (HS.out _ HY.out).mono ?_); rintro e w1 ⟨rfl, hb1⟩
               have HE1 := Lib.hid (HE.out.below hb1)
               obtain ⟨c0, c1, c2, c3, c4⟩ := HE1.out.e.cells (g := gr) (m := false) (a := 0) (b := 0) (c := 0) (d := 0) List.mem_cons_self
               obtain ⟨d0, d1, d2, d3, d4⟩ := HE1.out.e.cells (g := gq) (m := false) (a := 0) (b := 0) (c := 0) (d := 0) (List.mem_cons_of_mem _ List.mem_cons_self))
            | (go_at_call 23; (with_reducible refine (known_c _).mono ?_); rintro e w3 ⟨rfl, hb3⟩)
            | go_in)
          go_ret
          exact ⟨by first | rfl | simp, bl_trans HE1.out.e.hb hb3⟩
        · obtain ⟨rfl, hdiv, hr0, hr1⟩ : er = 0 ∧ WV am a0 a1 a2 a3 = WV qm q0 q1 q2 q3 * WV bm b0 b1 b2 b3 + WV rm r0 r1 r2 r3 ∧ 0 ≤ WV rm r0 r1 r2 r3 ∧ WV rm r0 r1 r2 r3 < (if WV bm b0 b1 b2 b3 < 0 then -(WV bm b0 b1 b2 b3) else WV bm b0 b1 b2 b3) := by
            rcases KD.out with ⟨-, h1, h2, h3, h4, -⟩ | ⟨h, -⟩
            · exact ⟨h1, h2, h3, h4⟩
            · exact absurd h hB0
          have HDV := Lib.hid hdiv
          have HR0 := Lib.hid hr0
          have HR1 := Lib.hid hr1
          clear hdiv hr0 hr1 KD
          obtain ⟨sb, hsb⟩ : ∃ sb, sb = sgZ (WV bm b0 b1 b2 b3) := ⟨_, rfl⟩
          have hs1 : (sb == 0) = false := by
            rw [hsb]; simp
            rcases Int.lt_trichotomy (WV bm b0 b1 b2 b3) 0 with h | h | h
            · rw [sgZ_lt h]; omega
            · exact absurd h hB0
            · rw [sgZ_gt h]; omega
          have HSB := Lib.hid hsb
          have HNZ := Lib.hid hB0
          clear hsb hB0
          go_upto_region 4 with (fail)
          go_cut [27] (fun bv W => bv = .bool false ∧ EnvN w [(gr, (⟨rm, r0, r1, r2, r3⟩ : Wd)), (gq, (⟨qm, q0, q1, q2, q3⟩ : Wd)), (ga, (⟨am, a0, a1, a2, a3⟩ : Wd)), (ga + 1, (⟨bm, b0, b1, b2, b3⟩ : Wd))] [(gy, (⟨ym, yad, yn, yc, WV bm b0 b1 b2 b3⟩ : Nv)), (gx, (⟨xm, xad, xn, xc, WV am a0 a1 a2 a3⟩ : Nv))] W)
          case first =>
            go_wp2_with (first
              | (go_at_call 17; (with_reducible refine (sign_is _ _ sb _ HY.out HSB.out.symm).mono ?_); rintro e w1 ⟨rfl, hb1⟩)
              | go_in)
            go_meet
            case rel => exact ⟨by first | rfl | simp, HE.out.below hb1⟩
          case rest =>
            obtain ⟨rfl, S⟩ := hcut
            clear y0 y1 HY HE hs1
            have HE := Lib.hid S
            clear S
            go_upto_region 9 with (fail)

            obtain ⟨c0, c1, c2, c3, c4⟩ := HE.out.e.cells (g := gr) (m := rm) (a := r0) (b := r1) (c := r2) (d := r3) List.mem_cons_self
            go_cut [11] (fun pv W => ∃ gn nm nad nn nc, pv = .pointer (some ⟨gn, 0, none⟩) ∧ EnvN w [(gr, (⟨rm, r0, r1, r2, r3⟩ : Wd)), (gq, (⟨qm, q0, q1, q2, q3⟩ : Wd)), (ga, (⟨am, a0, a1, a2, a3⟩ : Wd)), (ga + 1, (⟨bm, b0, b1, b2, b3⟩ : Wd))] ((gn, (⟨nm, nad, nn, nc, WV rm r0 r1 r2 r3⟩ : Nv)) :: [(gy, (⟨ym, yad, yn, yc, WV bm b0 b1 b2 b3⟩ : Nv)), (gx, (⟨xm, xad, xn, xc, WV am a0 a1 a2 a3⟩ : Nv))]) W)
            case first =>
              go_wp2_with (first
                | (go_at_call 11; (with_reducible refine (of_num rm r0 r1 r2 r3 IR.out _).mono ?_); rintro e w1 ⟨v, rfl, hN, hb1⟩
                   obtain ⟨nm, nad, nn, nc, rfl⟩ := hN.shape
                   have HN := Lib.hid hN
                   clear hN
                   have HE1 := Lib.hid (HE.out.below hb1))
                | go_in)
              go_meet
              case rel => exact ⟨_, _, _, _, _, rfl, HE1.out.new _ rfl _ _ _ _ _ HN.out _⟩
            case rest =>
              obtain ⟨gm, mm, mad, mn, mc, rfl, S⟩ := hcut
              clear c0 c1 c2 c3 c4 HE
              have HE := Lib.hid S
              clear S
              go_upto_region 10 with (fail)
              obtain ⟨y0, y1, HY⟩ := HE.out.num (g := gy) (m := ym) (ad := yad) (n := yn) (c := yc) (z := WV bm b0 b1 b2 b3) (List.mem_cons_of_mem _ List.mem_cons_self)
              have hsel : (decide (sb < 0) = true ∧ WV bm b0 b1 b2 b3 < 0) ∨ (decide (sb < 0) = false ∧ ¬ WV bm b0 b1 b2 b3 < 0) := by
                have e := HSB.out
                by_cases h : WV bm b0 b1 b2 b3 < 0
                · rw [sgZ_lt h] at e; exact .inl ⟨by rw [e]; rfl, h⟩
                · rw [sgZ_gt (by have := HNZ.out; omega)] at e; exact .inr ⟨by rw [e]; rfl, h⟩
              go_cut [12] (fun pv W => ∃ gs, pv = .pointer (some ⟨gs, 0, none⟩) ∧ Hid ((∀ p ∈ [(gr, (⟨rm, r0, r1, r2, r3⟩ : Wd)), (gq, (⟨qm, q0, q1, q2, q3⟩ : Wd)), (ga, (⟨am, a0, a1, a2, a3⟩ : Wd)), (ga + 1, (⟨bm, b0, b1, b2, b3⟩ : Wd))], p.1 ≠ gs) ∧ (∀ p ∈ [(gm, (⟨mm, mad, mn, mc, WV rm r0 r1 r2 r3⟩ : Nv)), (gy, (⟨ym, yad, yn, yc, WV bm b0 b1 b2 b3⟩ : Nv)), (gx, (⟨xm, xad, xn, xc, WV am a0 a1 a2 a3⟩ : Nv))], p.1 ≠ gs) ∧ w.heap.size ≤ gs) ∧ (W.frozen? ⟨gs, 0, none⟩ = false ∧ W.frozen? ⟨gs, 1, none⟩ = false) ∧ EnvN w [(gr, (⟨rm, r0, r1, r2, r3⟩ : Wd)), (gq, (⟨qm, q0, q1, q2, q3⟩ : Wd)), (ga, (⟨am, a0, a1, a2, a3⟩ : Wd)), (ga + 1, (⟨bm, b0, b1, b2, b3⟩ : Wd))] ((gs, (⟨ym, yad, yn, yc, WV bm b0 b1 b2 b3⟩ : Nv)) :: [(gm, (⟨mm, mad, mn, mc, WV rm r0 r1 r2 r3⟩ : Nv)), (gy, (⟨ym, yad, yn, yc, WV bm b0 b1 b2 b3⟩ : Nv)), (gx, (⟨xm, xad, xn, xc, WV am a0 a1 a2 a3⟩ : Nv))]) W)
              case first =>
                go_wp2_with fail
                go_meet
                case rel =>
                  refine ⟨_, rfl, ⟨fun p hp => Nat.ne_of_lt (HE.out.e.at5 p hp).lt, fun p hp => Nat.ne_of_lt (HE.out.v p hp).lt, HE.out.e.hb.size⟩, ⟨by simp [go_sem], by simp [go_sem]⟩, HE.out.new _ rfl _ _ _ _ _ HY.out _⟩
              case rest =>
                obtain ⟨gs, rfl, HFR, ⟨fz0, fz1⟩, S⟩ := hcut
                clear y0 y1 HY HE
                have HE := Lib.hid S
                clear S
                obtain ⟨y0, y1, HY⟩ := HE.out.num (g := gy) (m := ym) (ad := yad) (n := yn) (c := yc) (z := WV bm b0 b1 b2 b3) (List.mem_cons_of_mem _ (List.mem_cons_of_mem _ List.mem_cons_self))
                have hgl := (HE.out.v _ List.mem_cons_self).lt
                rcases hsel with ⟨hs2, hlt⟩ | ⟨hs2, hlt⟩
                case' inl =>
                  go_upto_region 13 with (first
                    | (go_at_call 17; (with_reducible refine (sign_is _ _ sb _ HY.out HSB.out.symm).mono ?_); rintro e w1 ⟨rfl, hb1⟩
                       have HE1 := Lib.hid (HE.out.below hb1)
                       obtain ⟨z0, z1, HY1⟩ := HE1.out.num (g := gy) (m := ym) (ad := yad) (n := yn) (c := yc) (z := WV bm b0 b1 b2 b3) (List.mem_cons_of_mem _ (List.mem_cons_of_mem _ List.mem_cons_self))
                       have hgl1 : gs < w1.heap.size := Nat.lt_of_lt_of_le hgl hb1.size
                       have gz0 : w1.frozen? ⟨gs, 0, none⟩ = false := (hb1.frozen (by exact hgl)).trans fz0
                       have gz1 : w1.frozen? ⟨gs, 1, none⟩ = false := (hb1.frozen (by exact hgl)).trans fz1)
                    | (go_at_call 12; (with_reducible refine (neg_num _ (WV bm b0 b1 b2 b3) _ HY1.out).mono ?_); rintro e w2 ⟨v, rfl, hN, hb2⟩
                       obtain ⟨nm, nad, nn, nc, rfl⟩ := hN.shape
                       have HN := Lib.hid hN
                       clear hN
                       have HE2 := Lib.hid (HE1.out.below hb2)
                       obtain ⟨k0, k1, HK⟩ := HE2.out.num (g := gs) (m := ym) (ad := yad) (n := yn) (c := yc) (z := WV bm b0 b1 b2 b3) List.mem_cons_self
                       have hz0 : w2.frozen? ⟨gs, 0, none⟩ = false := (hb2.frozen (by exact hgl1)).trans gz0
                       have hz1 : w2.frozen? ⟨gs, 1, none⟩ = false := (hb2.frozen (by exact hgl1)).trans gz1))
                  refine wp_abs (fun W => ∃ sm sad sn sc, EnvN w [(gr, (⟨rm, r0, r1, r2, r3⟩ : Wd)), (gq, (⟨qm, q0, q1, q2, q3⟩ : Wd)), (ga, (⟨am, a0, a1, a2, a3⟩ : Wd)), (ga + 1, (⟨bm, b0, b1, b2, b3⟩ : Wd))] ((gs, (⟨sm, sad, sn, sc, (if WV bm b0 b1 b2 b3 < 0 then -(WV bm b0 b1 b2 b3) else WV bm b0 b1 b2 b3)⟩ : Nv)) :: [(gm, (⟨mm, mad, mn, mc, WV rm r0 r1 r2 r3⟩ : Nv)), (gy, (⟨ym, yad, yn, yc, WV bm b0 b1 b2 b3⟩ : Nv)), (gx, (⟨xm, xad, xn, xc, WV am a0 a1 a2 a3⟩ : Nv))]) W) ⟨nm, nad, nn, nc, ?_⟩ ?_
                  · rw [if_pos hlt]
                    exact EnvN.store (k := [(gm, (⟨mm, mad, mn, mc, WV rm r0 r1 r2 r3⟩ : Nv)), (gy, (⟨ym, yad, yn, yc, WV bm b0 b1 b2 b3⟩ : Nv)), (gx, (⟨xm, xad, xn, xc, WV am a0 a1 a2 a3⟩ : Nv))]) ⟨HE2.out.e, fun p hp => HE2.out.v p (List.mem_cons_of_mem _ hp)⟩ k0 k1 HFR.out.2.2 HFR.out.1 HFR.out.2.1 nm nad nn nc _ HN.out
                case' inr =>
                  go_upto_region 13 with (first
                    | (go_at_call 17; (with_reducible refine (sign_is _ _ sb _ HY.out HSB.out.symm).mono ?_); rintro e w1 ⟨rfl, hb1⟩))
                  refine wp_abs (fun W => ∃ sm sad sn sc, EnvN w [(gr, (⟨rm, r0, r1, r2, r3⟩ : Wd)), (gq, (⟨qm, q0, q1, q2, q3⟩ : Wd)), (ga, (⟨am, a0, a1, a2, a3⟩ : Wd)), (ga + 1, (⟨bm, b0, b1, b2, b3⟩ : Wd))] ((gs, (⟨sm, sad, sn, sc, (if WV bm b0 b1 b2 b3 < 0 then -(WV bm b0 b1 b2 b3) else WV bm b0 b1 b2 b3)⟩ : Nv)) :: [(gm, (⟨mm, mad, mn, mc, WV rm r0 r1 r2 r3⟩ : Nv)), (gy, (⟨ym, yad, yn, yc, WV bm b0 b1 b2 b3⟩ : Nv)), (gx, (⟨xm, xad, xn, xc, WV am a0 a1 a2 a3⟩ : Nv))]) W) ⟨ym, yad, yn, yc, ?_⟩ ?_
                  · rw [if_neg (by omega)]
                    exact HE.out.below hb1
                all_goals
                  clear hs2 hlt HE y0 y1 HY hgl fz0 fz1 HFR
                  try clear HE1 HE2 HN z0 z1 HY1 hgl1 gz0 gz1 k0 k1 HK hz0 hz1
                  rintro W5 ⟨sm, sad, sn, sc, S⟩
                  have HE := Lib.hid S
                  clear S
                  have HBD : Hid ((-BIG < WV rm r0 r1 r2 r3 ∧ WV rm r0 r1 r2 r3 < BIG) ∧ (-BIG < WV qm q0 q1 q2 q3 ∧ WV qm q0 q1 q2 q3 < BIG) ∧ (-BIG < WV qm q0 q1 q2 q3 * WV bm b0 b1 b2 b3 ∧ WV qm q0 q1 q2 q3 * WV bm b0 b1 b2 b3 < BIG) ∧ (-BIG < (WV qm q0 q1 q2 q3 * WV bm b0 b1 b2 b3 + WV rm r0 r1 r2 r3) ∧ (WV qm q0 q1 q2 q3 * WV bm b0 b1 b2 b3 + WV rm r0 r1 r2 r3) < BIG) ∧ (-BIG < (if WV bm b0 b1 b2 b3 < 0 then -(WV bm b0 b1 b2 b3) else WV bm b0 b1 b2 b3) ∧ (if WV bm b0 b1 b2 b3 < 0 then -(WV bm b0 b1 b2 b3) else WV bm b0 b1 b2 b3) < BIG)) := divs_big HA.out HB.out IQ.out IR.out HDV.out HR0.out HR1.out
                  have hcq : Hid (sgZ ((WV qm q0 q1 q2 q3 * WV bm b0 b1 b2 b3 + WV rm r0 r1 r2 r3) - WV am a0 a1 a2 a3) = 0 ∧ sgZ (WV rm r0 r1 r2 r3 - (if WV bm b0 b1 b2 b3 < 0 then -(WV bm b0 b1 b2 b3) else WV bm b0 b1 b2 b3)) = -1) := ⟨sgZ_eq (by have := HDV.out; omega), sgZ_lt (by have := HR1.out; omega)⟩
                  obtain ⟨c0, c1, c2, c3, c4⟩ := HE.out.e.cells (g := gq) (m := qm) (a := q0) (b := q1) (c := q2) (d := q3) (List.mem_cons_of_mem _ List.mem_cons_self)
                  obtain ⟨y0, y1, HY⟩ := HE.out.num (g := gy) (m := ym) (ad := yad) (n := yn) (c := yc) (z := WV bm b0 b1 b2 b3) (List.mem_cons_of_mem _ (List.mem_cons_of_mem _ List.mem_cons_self))
                  obtain ⟨m0, m1, HM⟩ := HE.out.num (g := gm) (m := mm) (ad := mad) (n := mn) (c := mc) (z := WV rm r0 r1 r2 r3) (List.mem_cons_of_mem _ List.mem_cons_self)
                  have hlq := (HE.out.e.at5 _ (List.mem_cons_of_mem _ List.mem_cons_self)).lt
                  have hlm := (HE.out.v _ (List.mem_cons_of_mem _ List.mem_cons_self)).lt
                  have hly := (HE.out.v _ (List.mem_cons_of_mem _ (List.mem_cons_of_mem _ List.mem_cons_self))).lt
                  dsimp only at hlq hlm hly
                  go_cut [13] (fun pv W => ∃ gn nm nad nn nc, pv = .pointer (some ⟨gn, 0, none⟩) ∧ EnvN w [(gr, (⟨rm, r0, r1, r2, r3⟩ : Wd)), (gq, (⟨qm, q0, q1, q2, q3⟩ : Wd)), (ga, (⟨am, a0, a1, a2, a3⟩ : Wd)), (ga + 1, (⟨bm, b0, b1, b2, b3⟩ : Wd))] ((gn, (⟨nm, nad, nn, nc, (WV qm q0 q1 q2 q3 * WV bm b0 b1 b2 b3 + WV rm r0 r1 r2 r3)⟩ : Nv)) :: ((gs, (⟨sm, sad, sn, sc, (if WV bm b0 b1 b2 b3 < 0 then -(WV bm b0 b1 b2 b3) else WV bm b0 b1 b2 b3)⟩ : Nv)) :: [(gm, (⟨mm, mad, mn, mc, WV rm r0 r1 r2 r3⟩ : Nv)), (gy, (⟨ym, yad, yn, yc, WV bm b0 b1 b2 b3⟩ : Nv)), (gx, (⟨xm, xad, xn, xc, WV am a0 a1 a2 a3⟩ : Nv))])) W)
                  case first =>
                    go_region_held3 (fun w' => w'.cell? ⟨gq, 0, none⟩ = some (.bool qm) ∧ w'.cell? ⟨gq, 1, none⟩ = some (.int .u64 q0) ∧ w'.cell? ⟨gq, 2, none⟩ = some (.int .u64 q1) ∧ w'.cell? ⟨gq, 3, none⟩ = some (.int .u64 q2) ∧ w'.cell? ⟨gq, 4, none⟩ = some (.int .u64 q3) ∧ w'.cell? ⟨gy, 0, none⟩ = some (.bool ym) ∧ w'.cell? ⟨gy, 1, none⟩ = some (.slice yad yn yc) ∧ w'.cell? ⟨gm, 0, none⟩ = some (.bool mm) ∧ w'.cell? ⟨gm, 1, none⟩ = some (.slice mad mn mc)) (first | go_keep | (refine ⟨?_, ?_, ?_, ?_, ?_, ?_, ?_, ?_, ?_⟩ <;> first | assumption | (simp [go_sem, *]; done))) (first
                      | (go_at_call 11; (with_reducible refine (of_num qm q0 q1 q2 q3 IQ.out _).mono ?_); rintro e w1 ⟨v1, rfl, hN1, hb1⟩
                         have HN1 := Lib.hid hN1
                         clear hN1
                         have HE1 := Lib.hid (HE.out.below (by first | exact bl_trans (bl_drew1 _) hb1 | exact bl_trans (bl_trans (bl_one _ _) (bl_drew1 _)) hb1 | exact bl_trans (bl_trans (bl_drew1 _) (bl_one _ _)) hb1))
                         have hs1 : W5.heap.size ≤ w1.heap.size := (by have := hb1.size; (try simp at this); omega)
                         obtain ⟨qa0, qa1, qa2, qa3, qa4⟩ := HE1.out.e.cells (g := gq) (m := qm) (a := q0) (b := q1) (c := q2) (d := q3) (List.mem_cons_of_mem _ List.mem_cons_self)
                         have hly1 : gy < w1.heap.size := (by omega)
                         have hlm1 : gm < w1.heap.size := (by omega)
                         try (have HV1 := Lib.hid (show VarN W5.heap.size w1 W5.heap.size from ((varN_new W5.heap.size W5 (Nat.le_refl _) W5.heap.size rfl 28).below (bl_trans (bl_drew1 _) hb1))))
                         obtain ⟨z0, z1, HY1⟩ := HE1.out.num (g := gy) (m := ym) (ad := yad) (n := yn) (c := yc) (z := WV bm b0 b1 b2 b3) (List.mem_cons_of_mem _ (List.mem_cons_of_mem _ List.mem_cons_self))
                         obtain ⟨n0, n1, HM1⟩ := HE1.out.num (g := gm) (m := mm) (ad := mad) (n := mn) (c := mc) (z := WV rm r0 r1 r2 r3) (List.mem_cons_of_mem _ List.mem_cons_self))
                      | (go_at_call 31; (with_reducible refine (times_num v1 _ _ _ _ (HN1.out.below (by first | exact Below.refl _ _ | exact bl_one _ _)) (HY1.out.below (by first | exact Below.refl _ _ | exact bl_one _ _)) HBD.out.2.1 HBB.out).mono ?_); rintro e w2 ⟨v2, rfl, hN2, hb2⟩
                         have HN2 := Lib.hid hN2
                         clear hN2
                         have HE2 := Lib.hid (HE1.out.below (by first | exact hb2 | exact bl_trans (bl_one _ _) hb2))
                         have hs2 : W5.heap.size ≤ w2.heap.size := (by have := hb2.size; (try simp at this); omega)
                         obtain ⟨qb0, qb1, qb2, qb3, qb4⟩ := HE2.out.e.cells (g := gq) (m := qm) (a := q0) (b := q1) (c := q2) (d := q3) (List.mem_cons_of_mem _ List.mem_cons_self)
                         obtain ⟨yb0, yb1, -⟩ := HE2.out.num (g := gy) (m := ym) (ad := yad) (n := yn) (c := yc) (z := WV bm b0 b1 b2 b3) (List.mem_cons_of_mem _ (List.mem_cons_of_mem _ List.mem_cons_self))
                         have hlm2 : gm < w2.heap.size := (by omega)
                         first
                           | have HV2 := Lib.hid (show VarN W5.heap.size w2 W5.heap.size from HV1.out.below hb2)
                           | have HV2 := Lib.hid (show VarN W5.heap.size w2 w1.heap.size from (varN_new W5.heap.size w1 hs1 w1.heap.size rfl 28).below hb2)
                           | skip
                         obtain ⟨p0, p1, HM2⟩ := HE2.out.num (g := gm) (m := mm) (ad := mad) (n := mn) (c := mc) (z := WV rm r0 r1 r2 r3) (List.mem_cons_of_mem _ List.mem_cons_self))
                      | (go_at_call 32; (with_reducible refine (plus_c v2 _ _ _ _ (HN2.out.below (by first | exact Below.refl _ _ | exact bl_one _ _)) (HM2.out.below (by first | exact Below.refl _ _ | exact bl_one _ _)) HBD.out.2.2.1 HBD.out.1).mono ?_); rintro e w3 ⟨v3, rfl, hN3, hb3⟩
                         obtain ⟨nm, nad, nn, nc, rfl⟩ := hN3.shape
                         have HN3 := Lib.hid hN3
                         clear hN3
                         have HE3 := Lib.hid (HE2.out.below (by first | exact hb3 | exact bl_trans (bl_one _ _) hb3))
                         obtain ⟨qc0, qc1, qc2, qc3, qc4⟩ := HE3.out.e.cells (g := gq) (m := qm) (a := q0) (b := q1) (c := q2) (d := q3) (List.mem_cons_of_mem _ List.mem_cons_self)
                         obtain ⟨yc0, yc1, -⟩ := HE3.out.num (g := gy) (m := ym) (ad := yad) (n := yn) (c := yc) (z := WV bm b0 b1 b2 b3) (List.mem_cons_of_mem _ (List.mem_cons_of_mem _ List.mem_cons_self))
                         obtain ⟨mc0, mc1, -⟩ := HE3.out.num (g := gm) (m := mm) (ad := mad) (n := mn) (c := mc) (z := WV rm r0 r1 r2 r3) (List.mem_cons_of_mem _ List.mem_cons_self)
                         first
                           | have HV3 := Lib.hid (show VarN W5.heap.size w3 W5.heap.size from HV2.out.below hb3)
                           | have HV3 := Lib.hid (show VarN W5.heap.size w3 w1.heap.size from HV2.out.below hb3)
                           | have HV3 := Lib.hid (show VarN W5.heap.size w3 w2.heap.size from (varN_new W5.heap.size w2 hs2 w2.heap.size rfl 28).below hb3)
                           | skip
                         try (obtain ⟨-, k0, k1, k2, k3⟩ := HV3.out)))
                    all_goals
                      go_wp2_with fail
                      go_meet
                      case rel => first | exact ⟨_, _, _, _, _, rfl, HE3.out.new _ rfl _ _ _ _ _ HN3.out _⟩ | exact ⟨_, _, _, _, _, rfl, EnvN.fill HE.out HE3.out rfl HV3.out _ _ _ _ _ HN3.out⟩
                  case rest =>
                    obtain ⟨gk, km, kad, kn, kc, rfl, S⟩ := hcut
                    clear c0 c1 c2 c3 c4 y0 y1 HY m0 m1 HM HE hlq hlm hly
                    have HE := Lib.hid S
                    clear S
                    obtain ⟨sr, hsr⟩ : ∃ sr, sr = sgZ (WV rm r0 r1 r2 r3) := ⟨_, rfl⟩
                    have hs3 : decide (0 ≤ sr) = true := by
                      rw [hsr]; simp
                      rcases Int.lt_trichotomy (WV rm r0 r1 r2 r3) 0 with h | h | h
                      · exact absurd HR0.out (by omega)
                      · rw [sgZ_eq h]; omega
                      · rw [sgZ_gt h]; omega
                    have HSR := Lib.hid hsr
                    clear hsr
                    obtain ⟨k0, k1, HK⟩ := HE.out.num (g := gk) (m := km) (ad := kad) (n := kn) (c := kc) (z := (WV qm q0 q1 q2 q3 * WV bm b0 b1 b2 b3 + WV rm r0 r1 r2 r3)) List.mem_cons_self
                    obtain ⟨x0, x1, HX⟩ := HE.out.num (g := gx) (m := xm) (ad := xad) (n := xn) (c := xc) (z := WV am a0 a1 a2 a3) (List.mem_cons_of_mem _ (List.mem_cons_of_mem _ (List.mem_cons_of_mem _ (List.mem_cons_of_mem _ List.mem_cons_self))))
                    go_wp2_with (first
                      | (go_at_call 18; (with_reducible refine (cmp_is _ _ _ _ 0 _ HK.out HX.out HBD.out.2.2.2.1 HBA.out hcq.out.1).mono ?_); rintro e w1 ⟨rfl, hb1⟩
                         have HE1 := Lib.hid (HE.out.below hb1)
                         obtain ⟨m0, m1, HM1⟩ := HE1.out.num (g := gm) (m := mm) (ad := mad) (n := mn) (c := mc) (z := WV rm r0 r1 r2 r3) (List.mem_cons_of_mem _ (List.mem_cons_of_mem _ List.mem_cons_self)))
                      | (go_at_call 17; (with_reducible refine (sign_is _ _ sr _ HM1.out HSR.out.symm).mono ?_); rintro e w2 ⟨rfl, hb2⟩
                         have HE2 := Lib.hid (HE1.out.below hb2)
                         obtain ⟨n0, n1, HM2⟩ := HE2.out.num (g := gm) (m := mm) (ad := mad) (n := mn) (c := mc) (z := WV rm r0 r1 r2 r3) (List.mem_cons_of_mem _ (List.mem_cons_of_mem _ List.mem_cons_self))
                         obtain ⟨s0, s1, HS2⟩ := HE2.out.num (g := gs) (m := sm) (ad := sad) (n := sn) (c := sc) (z := (if WV bm b0 b1 b2 b3 < 0 then -(WV bm b0 b1 b2 b3) else WV bm b0 b1 b2 b3)) (List.mem_cons_of_mem _ List.mem_cons_self))
                      | (go_at_call 18; (with_reducible refine (cmp_is _ _ _ _ (-1) _ HM2.out HS2.out HBD.out.1 HBD.out.2.2.2.2 hcq.out.2).mono ?_); rintro e w3 ⟨rfl, hb3⟩
                         have HE3 := Lib.hid (HE2.out.below hb3))
                      | (go_at_call 23; (with_reducible refine (known_c _).mono ?_); rintro e w4 ⟨rfl, hb4⟩)
                      | go_in)
                    go_ret
                    exact ⟨by first | rfl | simp, bl_trans HE3.out.e.hb hb4⟩
end Go.Proofs.Ytalffldjimcgeaa
