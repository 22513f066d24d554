/-
  The walk of the law WideTexts.
-/
import Derived.Test.YtbgbmimgkhchhaaRefParse
import Derived.Test.YtbgbmimgkhchhaaKnown
import Derived.Test.YtbgbmimgkhchhaaRefBack
import Derived.Test.YtbgbmimgkhchhaaRefTold
namespace Go.Proofs.Ytbgbmimgkhchhaa
open Go.RowKit

theorem eqErr (x : Int) : (x == x) = true := by simp
/-- a number's text is that number's -/
theorem pspec_text {m m' : Bool} {a b c d a' b' c' d' er : Int} {z : Int} (hz : -M256 < z ∧ z < M256) (hi : In4 a b c d) (hi' : In4 a' b' c' d') (h : PSpec (strOfNums (textZ z)) m a b c d er) (h1 : WV m' a' b' c' d' = z) (h2 : Norm m' a' b' c' d') :
    m = m' ∧ a = a' ∧ b = b' ∧ c = c' ∧ d = d' ∧ er = 0 := by
  have hB := m256_big2
  refine pspec_same hi hi' h (.inl ⟨z, by omega, by omega, nums_str _ (textZ_range z (by omega) (by omega)), .inl ⟨rfl, h1, h2, hz.1, hz.2⟩⟩)

set_option maxHeartbeats 40000000 in
set_option maxRecDepth 100000 in
theorem texts_c (s : ByteArray) (am : Bool) (a0 a1 a2 a3 : Int) (hA : In4 a0 a1 a2 a3) (w : World) :
    Calls Try.prog 8 #[.string s, (.agg #[.bool am, .int .u64 a0, .int .u64 a1, .int .u64 a2, .int .u64 a3])] w (Gives (.bool true) w) := by
  have HA := Lib.hid hA
  clear hA
  go_enter Try.func8, Try.ntmps8
  go_upto_region 1 with (fail)
  generalize hg : w.heap.size = ga at *
  have HG := Lib.hid hg
  clear hg
  refine wp_abs (fun W => Env w [(ga, (⟨am, a0, a1, a2, a3⟩ : Wd))] W) ?_ ?_
  · have eg := HG.out
    subst eg
    refine Env.push ⟨fun p hp => by simp at hp, by repeat (first | (with_reducible exact Below.refl _ _) | (with_reducible refine bl_alloc ?_ _) | (with_reducible refine Below.drew ?_) | (with_reducible refine below_drewN' ?_ _) | ((with_reducible refine bl_set ?_ ?_ _); (rotate_left; (dsimp only; omega))))⟩ ?_ <;> (constructor <;> simp [go_sem])
  clear HG
  intro W0 S0
  have HE := Lib.hid S0
  clear S0
  by_cases hb : s.size ≤ 300
  · have hb' : (s.size : Int) ≤ 300 := by omega
    go_upto_region 3 with (fail)
    go_cut [5, 6] (fun pv ev W => ∃ gn nm n0 n1 n2 n3 ne, pv = .pointer (some ⟨gn, 0, none⟩) ∧ ev = .int .i64 ne ∧ Hid (PSpec s nm n0 n1 n2 n3 ne) ∧ Hid (In4 n0 n1 n2 n3) ∧ Env w ((gn, (⟨nm, n0, n1, n2, n3⟩ : Wd)) :: [(ga, (⟨am, a0, a1, a2, a3⟩ : Wd))]) W)
    case first =>
      go_wp2_with (first
        | (go_at_call 33; (with_reducible refine (parse_any s (by omega) _).mono ?_); rintro e w2 ⟨ym, y0, y1, y2, y3, er, hi, hk, rfl, hb2⟩
           have HI := Lib.hid hi
           clear hi
           have HE2 := Lib.hid (HE.out.below hb2))
        | go_in)
      go_meet
      case rel => exact ⟨_, _, _, _, _, _, _, rfl, rfl, hk, HI, by first | exact HE2.out.new _ rfl _ _ _ _ _ _ | exact HE2.out.new _ (by simp) _ _ _ _ _ _⟩
    case rest =>
      obtain ⟨gx, xm, x0, x1, x2, x3, erx, rfl, rfl, Kx, Ix, S⟩ := hcut
      clear HE
      have HE := Lib.hid S
      clear S
      go_upto_region 4 with (fail)
      go_cut [7, 8] (fun pv ev W => ∃ gn nm n0 n1 n2 n3 ne, pv = .pointer (some ⟨gn, 0, none⟩) ∧ ev = .int .i64 ne ∧ Hid (PSpec s nm n0 n1 n2 n3 ne) ∧ Hid (In4 n0 n1 n2 n3) ∧ Env w ((gn, (⟨nm, n0, n1, n2, n3⟩ : Wd)) :: [(gx, (⟨xm, x0, x1, x2, x3⟩ : Wd)), (ga, (⟨am, a0, a1, a2, a3⟩ : Wd))]) W)
      case first =>
        go_wp2_with (first
          | (go_at_call 34; (with_reducible refine (refParse_any s hb _).mono ?_); rintro e w2 ⟨ym, y0, y1, y2, y3, er, hi, hk, rfl, hb2⟩
             have HI := Lib.hid hi
             clear hi
             have HE2 := Lib.hid (HE.out.below hb2))
          | go_in)
        go_meet
        case rel => exact ⟨_, _, _, _, _, _, _, rfl, rfl, hk, HI, by first | exact HE2.out.new _ rfl _ _ _ _ _ _ | exact HE2.out.new _ (by simp) _ _ _ _ _ _⟩
      case rest =>
        obtain ⟨gy, ym, y0, y1, y2, y3, ery, rfl, rfl, Ky, Iy, S⟩ := hcut
        clear HE
        have HE := Lib.hid S
        clear S
        obtain ⟨rfl, rfl, rfl, rfl, rfl, rfl⟩ := pspec_same Ix.out Iy.out Kx.out Ky.out
        clear Ky Iy Kx Ix
        go_upto_region 5 with (fail)
        obtain ⟨c0, c1, c2, c3, c4⟩ := HE.out.cells (g := ga) (m := am) (a := a0) (b := a1) (c := a2) (d := a3) (List.mem_cons_of_mem _ (List.mem_cons_of_mem _ List.mem_cons_self))
        have HT : Hid (textOf am (V4 a0 a1 a2 a3).toNat = textZ (WV am a0 a1 a2 a3)) := textOf_Z am _ (v4_bounds HA.out).1 (v4_bounds HA.out).2
        have hts : ∃ st, st = strOfNums (textOf am (V4 a0 a1 a2 a3).toNat) ∧ st.size ≤ 400 := ⟨_, rfl, by
          rw [strOfNums_size]
          unfold textOf
          split
          · simp
          · have := digs_length 80 (V4 a0 a1 a2 a3).toNat
            simp only [List.length_append]
            split <;> simp <;> omega⟩
        obtain ⟨st, hst, hs4⟩ := hts
        have HST := Lib.hid hst
        clear hst
        go_cut [9, 10] (fun pv ev W => ∃ gn nm n0 n1 n2 n3 ne, pv = .pointer (some ⟨gn, 0, none⟩) ∧ ev = .int .i64 ne ∧ Hid (PSpec st nm n0 n1 n2 n3 ne) ∧ Hid (In4 n0 n1 n2 n3) ∧ Env w ((gn, (⟨nm, n0, n1, n2, n3⟩ : Wd)) :: [(gy, (⟨xm, x0, x1, x2, x3⟩ : Wd)), (gx, (⟨xm, x0, x1, x2, x3⟩ : Wd)), (ga, (⟨am, a0, a1, a2, a3⟩ : Wd))]) W)
        case first =>
          go_wp2_with (first
            | (go_at_call 21; (with_reducible refine (text_c am a0 a1 a2 a3 HA.out _).mono ?_); rintro e w2 ⟨rfl, hb2⟩
               rw [← HST.out]
               have HE2 := Lib.hid (HE.out.below hb2))
            | (go_at_call 33; (with_reducible refine (parse_any st hs4 _).mono ?_); rintro e w3 ⟨ym, y0, y1, y2, y3, er, hi, hk, rfl, hb3⟩
               have HI := Lib.hid hi
               clear hi
               have HE3 := Lib.hid (HE2.out.below hb3))
            | go_in)
          go_meet
          case rel => exact ⟨_, _, _, _, _, _, _, rfl, rfl, hk, HI, by first | exact HE3.out.new _ rfl _ _ _ _ _ _ | exact HE3.out.new _ (by simp) _ _ _ _ _ _⟩
        case rest =>
          obtain ⟨gz, zm, z0, z1, z2, z3, erz, rfl, rfl, Kz, Iz, S⟩ := hcut
          clear c0 c1 c2 c3 c4 HE
          have HE := Lib.hid S
          clear S
          go_upto_region 6 with (fail)
          obtain ⟨c0, c1, c2, c3, c4⟩ := HE.out.cells (g := ga) (m := am) (a := a0) (b := a1) (c := a2) (d := a3) (List.mem_cons_of_mem _ (List.mem_cons_of_mem _ (List.mem_cons_of_mem _ List.mem_cons_self)))
          go_cut [11, 12] (fun pv _ W => ∃ gn nm n0 n1 n2 n3, pv = .pointer (some ⟨gn, 0, none⟩) ∧ Hid (WV nm n0 n1 n2 n3 = WV am a0 a1 a2 a3 ∧ Norm nm n0 n1 n2 n3) ∧ Hid (In4 n0 n1 n2 n3) ∧ Env w ((gn, (⟨nm, n0, n1, n2, n3⟩ : Wd)) :: [(gz, (⟨zm, z0, z1, z2, z3⟩ : Wd)), (gy, (⟨xm, x0, x1, x2, x3⟩ : Wd)), (gx, (⟨xm, x0, x1, x2, x3⟩ : Wd)), (ga, (⟨am, a0, a1, a2, a3⟩ : Wd))]) W)
          case first =>
            go_wp2_with (first
              | (go_at_call 11; (with_reducible refine (of_num am a0 a1 a2 a3 HA.out _).mono ?_); rintro e w2 ⟨v, rfl, hN, hb2⟩
                 have HN := Lib.hid hN
                 clear hN
                 have HE2 := Lib.hid (HE.out.below hb2))
              | (go_at_call 13; (with_reducible refine (wide_num v _ _ HN.out).mono ?_); rintro e w4 ⟨ym, y0, y1, y2, y3, ok, hi, hk, rfl, hb4⟩
                 have hv : WV ym y0 y1 y2 y3 = WV am a0 a1 a2 a3 ∧ Norm ym y0 y1 y2 y3 := by
                   have := wv_bounds (m := am) HA.out
                   rcases hk.out with ⟨-, h2, h3, -⟩ | ⟨-, -, h2⟩
                   · exact ⟨h2, h3⟩
                   · omega
                 have HV := Lib.hid hv
                 have HI := Lib.hid hi
                 clear hi hv hk
                 have HE4 := Lib.hid (HE2.out.below hb4))
              | go_in)
            go_meet
            case rel => exact ⟨_, _, _, _, _, _, rfl, HV, HI, by first | exact HE4.out.new _ rfl _ _ _ _ _ _ | exact HE4.out.new _ (by simp) _ _ _ _ _ _⟩
          case rest =>
            obtain ⟨gb, bm, b0, b1, b2, b3, rfl, Kb, Ib, S⟩ := hcut
            clear c0 c1 c2 c3 c4 HE
            have HE := Lib.hid S
            clear S
            obtain ⟨rfl, rfl, rfl, rfl, rfl, rfl⟩ := pspec_text (z := WV am a0 a1 a2 a3) (wv_bounds HA.out) Iz.out Ib.out (by have := Kz.out; rw [HST.out, HT.out] at this; exact this) Kb.out.1 Kb.out.2
            clear Kz Iz Kb Ib HT HST hs4
            obtain ⟨c0, c1, c2, c3, c4⟩ := HE.out.cells (g := gx) (m := xm) (a := x0) (b := x1) (c := x2) (d := x3) (List.mem_cons_of_mem _ (List.mem_cons_of_mem _ (List.mem_cons_of_mem _ List.mem_cons_self)))
            obtain ⟨d0, d1, d2, d3, d4⟩ := HE.out.cells (g := gy) (m := xm) (a := x0) (b := x1) (c := x2) (d := x3) (List.mem_cons_of_mem _ (List.mem_cons_of_mem _ List.mem_cons_self))
            obtain ⟨g0, g1, g2, g3, g4⟩ := HE.out.cells (g := gz) (m := zm) (a := z0) (b := z1) (c := z2) (d := z3) (List.mem_cons_of_mem _ List.mem_cons_self)
            obtain ⟨h0, h1, h2, h3, h4⟩ := HE.out.cells (g := gb) (m := zm) (a := z0) (b := z1) (c := z2) (d := z3) List.mem_cons_self
            have q1 := eqKnown xm x0 x1 x2 x3
            have q2 := eqKnown zm z0 z1 z2 z3
            go_wp2_with (first
              | (go_at_call 23; (with_reducible refine (known_c _).mono ?_); rintro e w1 ⟨rfl, hb1⟩)
              | go_in)
            go_ret
            exact ⟨by first | rfl | simp, bl_trans HE.out.hb hb1⟩
  · have hb' : (300 : Int) < (s.size : Int) := by omega
    go_wp2_with (first
      | (go_at_call 23; (with_reducible refine (known_c _).mono ?_); rintro e w1 ⟨rfl, hb1⟩)
      | go_in)
    go_ret
    exact ⟨by first | rfl | simp, bl_trans HE.out.hb hb1⟩
end Go.Proofs.Ytbgbmimgkhchhaa
