/-
  Contract of wide.divLimbs: quotient and remainder.
-/
import Derived.Test.YtojfggnimmaemaaDivMath
import Derived.Test.YtojfggnimmaemaaAt4
import Derived.Deep.DeepCutAuto
namespace Go.Proofs.Ytojfggnimmaemaa
open Go.RowKit
attribute [local go_sem ↓] Go.wp_at_zero Go.wp_at_succ

def DivP (X Y : Int) (w : World) (e : Ending) (w' : World) : Prop :=
  ∃ q0 q1 q2 q3 r0 r1 r2 r3 : Int, In4 q0 q1 q2 q3 ∧ In4 r0 r1 r2 r3 ∧ Hid (X = V4 q0 q1 q2 q3 * Y + V4 r0 r1 r2 r3 ∧ V4 r0 r1 r2 r3 < Y) ∧ e = .returned (.tuple #[(.agg #[.int .u64 q0, .int .u64 q1, .int .u64 q2, .int .u64 q3]), (.agg #[.int .u64 r0, .int .u64 r1, .int .u64 r2, .int .u64 r3])]) ∧ Below w.heap.size w w'

/-- divLimbs' memory: the arguments' boxes, the quotient, the rest -/
structure DW (w : World) (a b c d x y z u q0 q1 q2 q3 r0 r1 r2 r3 : Int) (W : World) : Prop where
  a1 : At4 W w.heap.size a b c d
  x1 : At4 W (w.heap.size + 1) x y z u
  q1 : At4 W (w.heap.size + 1 + 1) q0 q1 q2 q3
  q2 : Free4 W (w.heap.size + 1 + 1)
  r1 : At4 W (w.heap.size + 1 + 1 + 1) r0 r1 r2 r3
  r2 : Free4 W (w.heap.size + 1 + 1 + 1)
  hb : Below w.heap.size w W
theorem DW.below {w : World} {a b c d x y z u q0 q1 q2 q3 r0 r1 r2 r3 : Int} {W W' : World} (h : DW w a b c d x y z u q0 q1 q2 q3 r0 r1 r2 r3 W) (hb : Below W.heap.size W W') : DW w a b c d x y z u q0 q1 q2 q3 r0 r1 r2 r3 W' :=
  ⟨h.a1.below hb, h.x1.below hb, h.q1.below hb, h.q2.below h.q1.lt hb, h.r1.below hb, h.r2.below h.r1.lt hb, bl_trans h.hb hb⟩

theorem DW.rest {w : World} {a b c d x y z u q0 q1 q2 q3 r0 r1 r2 r3 : Int} {W : World} (h : DW w a b c d x y z u q0 q1 q2 q3 r0 r1 r2 r3 W) (s0 s1 s2 s3 : Int) :
    DW w a b c d x y z u q0 q1 q2 q3 s0 s1 s2 s3 ((((W.setCell ⟨w.heap.size + 1 + 1 + 1, 0, none⟩ (.int .u64 s0)).setCell ⟨w.heap.size + 1 + 1 + 1, 1, none⟩ (.int .u64 s1)).setCell ⟨w.heap.size + 1 + 1 + 1, 2, none⟩ (.int .u64 s2)).setCell ⟨w.heap.size + 1 + 1 + 1, 3, none⟩ (.int .u64 s3)) :=
  ⟨(((h.a1.far (by omega) _ _).far (by omega) _ _).far (by omega) _ _).far (by omega) _ _, (((h.x1.far (by omega) _ _).far (by omega) _ _).far (by omega) _ _).far (by omega) _ _, (((h.q1.far (by omega) _ _).far (by omega) _ _).far (by omega) _ _).far (by omega) _ _, (((h.q2.far _ _).far _ _).far _ _).far _ _, h.r1.store s0 s1 s2 s3, (((h.r2.far _ _).far _ _).far _ _).far _ _,
    bl_set (bl_set (bl_set (bl_set h.hb (by dsimp only; omega) _) (by dsimp only; omega) _) (by dsimp only; omega) _) (by dsimp only; omega) _⟩
theorem DW.quo0 {w : World} {a b c d x y z u q0 q1 q2 q3 r0 r1 r2 r3 : Int} {W : World} (h : DW w a b c d x y z u q0 q1 q2 q3 r0 r1 r2 r3 W) (v : Int) :
    DW w a b c d x y z u v q1 q2 q3 r0 r1 r2 r3 (W.setCell ⟨w.heap.size + 1 + 1, 0, none⟩ (.int .u64 v)) :=
  ⟨h.a1.far (by omega) _ _, h.x1.far (by omega) _ _, h.q1.set0 v, h.q2.far _ _, h.r1.far (by omega) _ _, h.r2.far _ _, bl_set h.hb (by dsimp only; omega) _⟩
theorem DW.quo1 {w : World} {a b c d x y z u q0 q1 q2 q3 r0 r1 r2 r3 : Int} {W : World} (h : DW w a b c d x y z u q0 q1 q2 q3 r0 r1 r2 r3 W) (v : Int) :
    DW w a b c d x y z u q0 v q2 q3 r0 r1 r2 r3 (W.setCell ⟨w.heap.size + 1 + 1, 1, none⟩ (.int .u64 v)) :=
  ⟨h.a1.far (by omega) _ _, h.x1.far (by omega) _ _, h.q1.set1 v, h.q2.far _ _, h.r1.far (by omega) _ _, h.r2.far _ _, bl_set h.hb (by dsimp only; omega) _⟩
theorem DW.quo2 {w : World} {a b c d x y z u q0 q1 q2 q3 r0 r1 r2 r3 : Int} {W : World} (h : DW w a b c d x y z u q0 q1 q2 q3 r0 r1 r2 r3 W) (v : Int) :
    DW w a b c d x y z u q0 q1 v q3 r0 r1 r2 r3 (W.setCell ⟨w.heap.size + 1 + 1, 2, none⟩ (.int .u64 v)) :=
  ⟨h.a1.far (by omega) _ _, h.x1.far (by omega) _ _, h.q1.set2 v, h.q2.far _ _, h.r1.far (by omega) _ _, h.r2.far _ _, bl_set h.hb (by dsimp only; omega) _⟩
theorem DW.quo3 {w : World} {a b c d x y z u q0 q1 q2 q3 r0 r1 r2 r3 : Int} {W : World} (h : DW w a b c d x y z u q0 q1 q2 q3 r0 r1 r2 r3 W) (v : Int) :
    DW w a b c d x y z u q0 q1 q2 v r0 r1 r2 r3 (W.setCell ⟨w.heap.size + 1 + 1, 3, none⟩ (.int .u64 v)) :=
  ⟨h.a1.far (by omega) _ _, h.x1.far (by omega) _ _, h.q1.set3 v, h.q2.far _ _, h.r1.far (by omega) _ _, h.r2.far _ _, bl_set h.hb (by dsimp only; omega) _⟩
theorem DW.far {w : World} {a b c d x y z u q0 q1 q2 q3 r0 r1 r2 r3 : Int} {W : World} (h : DW w a b c d x y z u q0 q1 q2 q3 r0 r1 r2 r3 W) {D : Nat} (hD : w.heap.size + 1 + 1 + 1 < D) (o : Nat) (v : Value) :
    DW w a b c d x y z u q0 q1 q2 q3 r0 r1 r2 r3 (W.setCell ⟨D, o, none⟩ v) :=
  ⟨h.a1.far (by omega) _ _, h.x1.far (by omega) _ _, h.q1.far (by omega) _ _, h.q2.far _ _, h.r1.far (by omega) _ _, h.r2.far _ _, bl_set h.hb (by dsimp only; omega) _⟩
theorem wrap_pow (r : Nat) (hr : r < 64) : IntKind.u64.wrap (2 ^ r) = 2 ^ r := by
  have h1 : (0 : Int) < 2 ^ r := Int.pow_pos (by omega)
  have h2 : (2 : Int) ^ r ≤ 2 ^ 63 := pow_mono (by omega)
  rw [show (2 : Int) ^ 63 = 9223372036854775808 from rfl] at h2
  rw [IntKind.wrap_u64]; omega

/-- behind 'shift := length(x) - length(y)' -/
def DivCut (w : World) (a b c d x y z u : Int) (s6 : Value) (W : World) : Prop :=
  ∃ n k : Int, Hid (LenOf (V4 a b c d) n ∧ LenOf (V4 x y z u) k) ∧ 0 ≤ n ∧ n ≤ 256 ∧ 0 ≤ k ∧ k ≤ 256 ∧ s6 = .int .i64 (n - k) ∧ DW w a b c d x y z u 0 0 0 0 a b c d W

def DivR (w : World) (a b c d x y z u : Int) (D : Nat) (bv : Value) (W : World) : Prop :=
  ∃ (bit : Int) (q0 q1 q2 q3 r0 r1 r2 r3 v0 v1 v2 v3 : Int), -1 ≤ bit ∧ bit ≤ 255 ∧ bv = .int .i64 bit ∧ In4 q0 q1 q2 q3 ∧ In4 r0 r1 r2 r3 ∧ In4 v0 v1 v2 v3 ∧
    DW w a b c d x y z u q0 q1 q2 q3 r0 r1 r2 r3 W ∧ At4 W D v0 v1 v2 v3 ∧ Free4 W D ∧ DivM (V4 a b c d) (V4 x y z u) (V4 q0 q1 q2 q3) (V4 r0 r1 r2 r3) (V4 v0 v1 v2 v3) bit

/-- behind the round's test -/
def DivC (w : World) (a b c d x y z u v0 v1 v2 v3 bit : Int) (D : Nat) (W : World) : Prop :=
  ∃ q0 q1 q2 q3 r0 r1 r2 r3 : Int, In4 q0 q1 q2 q3 ∧ In4 r0 r1 r2 r3 ∧ DW w a b c d x y z u q0 q1 q2 q3 r0 r1 r2 r3 W ∧ At4 W D v0 v1 v2 v3 ∧ Free4 W D ∧ DivM (V4 a b c d) (V4 x y z u) (V4 q0 q1 q2 q3) (V4 r0 r1 r2 r3) (V4 v0 v1 v2 v3 / 2) (bit - 1)

set_option maxHeartbeats 4000000 in
set_option maxRecDepth 100000 in
theorem divLimbs_c (a b c d x y z u : Int) (hA : In4 a b c d) (hX : In4 x y z u) (hY : V4 x y z u ≠ 0) (w : World) :
    Calls Try.prog 107 #[(.agg #[.int .u64 a, .int .u64 b, .int .u64 c, .int .u64 d]), (.agg #[.int .u64 x, .int .u64 y, .int .u64 z, .int .u64 u])] w (DivP (V4 a b c d) (V4 x y z u) w) := by
  have HA := hid_mk hA
  have HX := hid_mk hX
  have HY := hid_mk hY
  clear hA hX hY
  go_enter Try.func107, Try.ntmps107
  go_wp2
  refine wp_abs (fun W => DW w a b c d x y z u 0 0 0 0 a b c d W) ?_ ?_
  · refine ⟨?_, ?_, ?_, ?_, ?_, ?_, by repeat (first | (with_reducible exact Below.refl _ _) | (with_reducible refine bl_alloc ?_ _) | (with_reducible refine Below.drew ?_) | (with_reducible refine below_drewN' ?_ _) | ((with_reducible refine bl_set ?_ ?_ _); (rotate_left; (dsimp only; omega))))⟩
    all_goals (constructor <;> simp [go_sem])
  intro W0 S0
  have HS := Lib.hid S0
  obtain ⟨⟨a0, a1, a2, a3⟩, ⟨x0, x1, x2, x3⟩, -, -, -, -, -⟩ := S0
  go_cut [6] (fun s6 W => DivCut w a b c d x y z u s6 W)
  case first =>
    go_region_with (first | (go_at_call_of 114 a; refine (length_c a b c d HA.out _).mono ?_; rintro e w1 ⟨n, hn, rfl, hb⟩; have hn0 : 0 ≤ n := hn.out.1.1; have hn1 : n ≤ 256 := hn.out.2; obtain ⟨⟨a0', a1', a2', a3'⟩, ⟨x0', x1', x2', x3'⟩, -, -, -, -, -⟩ := (show DW w a b c d x y z u 0 0 0 0 a b c d w1 from (HS.out.below (by first | exact bl_trans (bl_drew1 _) hb | exact bl_trans (bl_trans (bl_drew1 _) hb2) hb)))) | (go_at_call_of 114 x; refine (length_c x y z u HX.out _).mono ?_; rintro e w2 ⟨k, hk, rfl, hb2⟩; have hk0 : 0 ≤ k := hk.out.1.1; have hk1 : k ≤ 256 := hk.out.2; obtain ⟨⟨a0'', a1'', a2'', a3''⟩, ⟨x0'', x1'', x2'', x3''⟩, -, -, -, -, -⟩ := (show DW w a b c d x y z u 0 0 0 0 a b c d w2 from (HS.out.below (by first | exact bl_trans (bl_drew1 _) hb2 | exact bl_trans (bl_trans (bl_drew1 _) hb) hb2)))))
    all_goals
      go_wp2_with fail
      go_meet
      case rel =>
        refine ⟨n, k, ⟨hn.out.1, hk.out.1⟩, hn0, hn1, hk0, hk1, by rw [IntWalk.i64_in (n - k) (by omega)], ?_⟩
        first | exact HS.out.below (bl_trans (bl_trans (bl_drew1 _) hb) hb2) | exact HS.out.below (bl_trans (bl_trans (bl_drew1 _) hb2) hb)
  case rest =>
    obtain ⟨n, k, hnk, hn0, hn1, hk0, hk1, rfl, S1⟩ := hcut
    clear a0 a1 a2 a3 x0 x1 x2 x3 HS
    by_cases hlt : n - k < 0
    · have H1 := Lib.hid S1
      obtain ⟨-, -, ⟨q0, q1, q2, q3⟩, ⟨g0, g1, g2, g3⟩, ⟨r0, r1, r2, r3⟩, ⟨k0, k1, k2, k3⟩, -⟩ := S1
      go_wp2
      go_region
      go_wp2
      refine bodyPost_ret (v := .tuple #[(.agg #[.int .u64 0, .int .u64 0, .int .u64 0, .int .u64 0]), (.agg #[.int .u64 a, .int .u64 b, .int .u64 c, .int .u64 d])]) (by simp [results, Try.results107, go_sem, q0, q1, q2, q3, r0, r1, r2, r3]) rfl ⟨0, 0, 0, 0, a, b, c, d, in4_zero, HA.out, ?_, rfl, ?_⟩
      · rw [v4_zero0]
        have h1 := v4_bounds HA.out
        have h2 := v4_bounds HX.out
        have h3 := HY.out
        exact ⟨by omega, len_lt h1.1 (by omega) hnk.out.1 hnk.out.2 hlt⟩
      · have := H1.out.hb
        repeat (first | (with_reducible exact Below.refl _ _) | (with_reducible refine bl_alloc ?_ _) | (with_reducible refine Below.drew ?_) | (with_reducible refine below_drewN' ?_ _) | ((with_reducible refine bl_set ?_ ?_ _); (rotate_left; (dsimp only; omega))))
        exact this
    · have H1 := Lib.hid S1
      obtain ⟨-, ⟨x0, x1, x2, x3⟩, -, -, -, -, -⟩ := S1
      have hy0 : 0 < V4 x y z u := by have h2 := v4_bounds HX.out; have h3 := HY.out; omega
      have Hy0 := Lib.hid hy0
      clear hy0
      go_wp2_with fail
      refine (shifted_c x y z u HX.out (n - k) (by omega) (shift_lt Hy0.out hnk.out.2 hn1) _).mono ?_
      rintro e w1 ⟨v0, v1, v2, v3, hv, hvv, rfl, hb⟩
      have S2 := H1.out.below hb
      have H2 := Lib.hid S2
      clear S2 x0 x1 x2 x3 hb H1
      have hD : w.heap.size + 1 + 1 + 1 < w1.heap.size := H2.out.r1.lt
      go_wp2
      generalize hDD : w1.heap.size = D at *
      have HD := Lib.hid hDD
      clear hDD
      go_loopw [8] (fun bv W => DivR w a b c d x y z u D bv W) (fun bv _ => ((intOf bv) + 1).toNat)
      case atStart =>
        have eD := HD.out
        subst eD
        refine ⟨n - k, 0, 0, 0, 0, a, b, c, d, v0, v1, v2, v3, by omega, by have := shift_lt Hy0.out hnk.out.2 hn1; omega, rfl, in4_zero, HA.out, hv, H2.out.below (bl_one _ _), ?_, ?_, ?_⟩
        · constructor <;> simp [go_sem]
        · constructor <;> simp [go_sem]
        · rw [v4_zero0]
          exact divM_start (shl_fits (v4_bounds HA.out).1 Hy0.out hnk.out.1 hnk.out.2 hn1 (by omega) (v4_bounds hv).1 hvv.out)
      case round =>
        obtain ⟨bit, q0, q1, q2, q3, r0, r1, r2, r3, v0, v1, v2, v3, hb0, hb1, rfl, hq, hr, hv, S, D1, D2, hM⟩ := hrel
        have HS := Lib.hid S
        have H3 := Lib.hid (And.intro hq (And.intro hr (And.intro hv (And.intro D1 (And.intro D2 hM)))))
        obtain ⟨-, -, -, -, ⟨c0, c1, c2, c3⟩, -, -⟩ := S
        obtain ⟨d0, d1, d2, d3⟩ := D1
        clear hq hr hv D2 hM
        by_cases hge : 0 ≤ bit
        · go_wp2_with fail
          refine (subLimbs_c r0 r1 r2 r3 v0 v1 v2 v3 H3.out.2.1 H3.out.2.2.1 _).mono ?_
          rintro e w2 ⟨s0, s1, s2, s3, co, hs, hsv, rfl, hbb⟩
          have HS2 := Lib.hid (HS.out.below hbb)
          have HD2 := Lib.hid (And.intro (H3.out.2.2.2.1.below hbb) (H3.out.2.2.2.2.1.below H3.out.2.2.2.1.lt hbb))
          clear HS c0 c1 c2 c3 d0 d1 d2 d3 hbb
          have hz : w.heap.size + 1 + 1 + 1 < w2.heap.size := HS2.out.r1.lt
          have hz1 : w.heap.size + 1 + 1 < w2.heap.size := HS2.out.q1.lt
          have hzD : D < w2.heap.size := HD2.out.1.lt
          obtain ⟨⟨c0, c1, c2, c3⟩, ⟨f0, f1, f2, f3⟩⟩ := And.intro HS2.out.r1 HS2.out.r2
          obtain ⟨⟨p0, p1, p2, p3⟩, ⟨g0, g1, g2, g3⟩⟩ := And.intro HS2.out.q1 HS2.out.q2
          obtain ⟨d0, d1, d2, d3⟩ := HD2.out.1
          have hnD1 : ¬ (w.heap.size + 1 + 1 = D) := by omega
          have hnD2 : ¬ (w.heap.size + 1 + 1 + 1 = D) := by omega
          go_upto_if 36 with (fail)
          go_cut [] (fun W => DivC w a b c d x y z u v0 v1 v2 v3 bit D W)
          case first =>
            obtain ⟨r, hr⟩ : ∃ r : Nat, bit % 64 = (r : Int) := ⟨(bit % 64).toNat, by omega⟩
            have hi4 : bit / 64 = 0 ∨ bit / 64 = 1 ∨ bit / 64 = 2 ∨ bit / 64 = 3 := by omega
            rcases hsv.out.1 with rfl | rfl
            · have hr64 : r < 64 := by omega
              have wp := Lib.hid (wrap_pow r hr64)
              rcases hi4 with hi | hi | hi | hi
              · go_wp2
                go_region
                go_wp2_with fail
                go_meet
                case rel =>
                  obtain ⟨l1, l2, l3⟩ := limb_at0 H3.out.2.2.2.2.2 H3.out.1 hge hi hr
                  rw [wp.out, l1]
                  refine ⟨q0 + 2 ^ r, q1, q2, q3, s0, s1, s2, s3, l2, hs, (((HS2.out.rest s0 s1 s2 s3).quo0 _).below (bl_one _ _)).below (bl_drew1 _), ?_, ?_, ?_⟩
                  · exact (((((((HD2.out.1.far (by omega) _ _).far (by omega) _ _).far (by omega) _ _).far (by omega) _ _).far (by omega) _ _).below (bl_one _ _)).below (bl_drew1 _))
                  · exact ((((((HD2.out.2.far _ _).far _ _).far _ _).far _ _).far _ _).below (((((HD2.out.1.far (by omega) _ _).far (by omega) _ _).far (by omega) _ _).far (by omega) _ _).far (by omega) _ _).lt (bl_one _ _)).below ((((((HD2.out.1.far (by omega) _ _).far (by omega) _ _).far (by omega) _ _).far (by omega) _ _).far (by omega) _ _).below (bl_one _ _)).lt (bl_drew1 _)
                  · rw [l3]
                    exact divM_yes H3.out.2.2.2.2.2 hge hsv.out.2 rfl
              · go_wp2
                go_region
                go_wp2_with fail
                go_meet
                case rel =>
                  obtain ⟨l1, l2, l3⟩ := limb_at1 H3.out.2.2.2.2.2 H3.out.1 hge hi hr
                  rw [wp.out, l1]
                  refine ⟨q0, q1 + 2 ^ r, q2, q3, s0, s1, s2, s3, l2, hs, (((HS2.out.rest s0 s1 s2 s3).quo1 _).below (bl_one _ _)).below (bl_drew1 _), ?_, ?_, ?_⟩
                  · exact (((((((HD2.out.1.far (by omega) _ _).far (by omega) _ _).far (by omega) _ _).far (by omega) _ _).far (by omega) _ _).below (bl_one _ _)).below (bl_drew1 _))
                  · exact ((((((HD2.out.2.far _ _).far _ _).far _ _).far _ _).far _ _).below (((((HD2.out.1.far (by omega) _ _).far (by omega) _ _).far (by omega) _ _).far (by omega) _ _).far (by omega) _ _).lt (bl_one _ _)).below ((((((HD2.out.1.far (by omega) _ _).far (by omega) _ _).far (by omega) _ _).far (by omega) _ _).far (by omega) _ _).below (bl_one _ _)).lt (bl_drew1 _)
                  · rw [l3]
                    exact divM_yes H3.out.2.2.2.2.2 hge hsv.out.2 rfl
              · go_wp2
                go_region
                go_wp2_with fail
                go_meet
                case rel =>
                  obtain ⟨l1, l2, l3⟩ := limb_at2 H3.out.2.2.2.2.2 H3.out.1 hge hi hr
                  rw [wp.out, l1]
                  refine ⟨q0, q1, q2 + 2 ^ r, q3, s0, s1, s2, s3, l2, hs, (((HS2.out.rest s0 s1 s2 s3).quo2 _).below (bl_one _ _)).below (bl_drew1 _), ?_, ?_, ?_⟩
                  · exact (((((((HD2.out.1.far (by omega) _ _).far (by omega) _ _).far (by omega) _ _).far (by omega) _ _).far (by omega) _ _).below (bl_one _ _)).below (bl_drew1 _))
                  · exact ((((((HD2.out.2.far _ _).far _ _).far _ _).far _ _).far _ _).below (((((HD2.out.1.far (by omega) _ _).far (by omega) _ _).far (by omega) _ _).far (by omega) _ _).far (by omega) _ _).lt (bl_one _ _)).below ((((((HD2.out.1.far (by omega) _ _).far (by omega) _ _).far (by omega) _ _).far (by omega) _ _).far (by omega) _ _).below (bl_one _ _)).lt (bl_drew1 _)
                  · rw [l3]
                    exact divM_yes H3.out.2.2.2.2.2 hge hsv.out.2 rfl
              · go_wp2
                go_region
                go_wp2_with fail
                go_meet
                case rel =>
                  obtain ⟨l1, l2, l3⟩ := limb_at3 H3.out.2.2.2.2.2 H3.out.1 hge hi hr
                  rw [wp.out, l1]
                  refine ⟨q0, q1, q2, q3 + 2 ^ r, s0, s1, s2, s3, l2, hs, (((HS2.out.rest s0 s1 s2 s3).quo3 _).below (bl_one _ _)).below (bl_drew1 _), ?_, ?_, ?_⟩
                  · exact (((((((HD2.out.1.far (by omega) _ _).far (by omega) _ _).far (by omega) _ _).far (by omega) _ _).far (by omega) _ _).below (bl_one _ _)).below (bl_drew1 _))
                  · exact ((((((HD2.out.2.far _ _).far _ _).far _ _).far _ _).far _ _).below (((((HD2.out.1.far (by omega) _ _).far (by omega) _ _).far (by omega) _ _).far (by omega) _ _).far (by omega) _ _).lt (bl_one _ _)).below ((((((HD2.out.1.far (by omega) _ _).far (by omega) _ _).far (by omega) _ _).far (by omega) _ _).far (by omega) _ _).below (bl_one _ _)).lt (bl_drew1 _)
                  · rw [l3]
                    exact divM_yes H3.out.2.2.2.2.2 hge hsv.out.2 rfl
            · go_wp2
              go_meet
              case rel =>
                refine ⟨q0, q1, q2, q3, r0, r1, r2, r3, H3.out.1, H3.out.2.1, HS2.out.below (bl_one _ _), HD2.out.1.below (bl_one _ _), HD2.out.2.below HD2.out.1.lt (bl_one _ _), ?_⟩
                exact divM_no H3.out.2.2.2.2.2 hge (v4_bounds hs).2 hsv.out.2 rfl
          case rest =>
            obtain ⟨q0', q1', q2', q3', r0', r1', r2', r3', hq', hr', S', D1', D2', hM'⟩ := hcut
            have H4 := Lib.hid (And.intro hq' (And.intro hr' (And.intro S' (And.intro D1' (And.intro D2' hM')))))
            obtain ⟨d0', d1', d2', d3'⟩ := D1'
            clear hq' hr' S' D2' hM' c0 c1 c2 c3 f0 f1 f2 f3 p0 p1 p2 p3 g0 g1 g2 g3 d0 d1 d2 d3 HS2 HD2 hz hz1 hzD
            go_wp2_with fail
            refine (halved_c v0 v1 v2 v3 H3.out.2.2.1 _).mono ?_
            rintro e w3 ⟨h0, h1, h2, h3, hh, hhv, rfl, hb3⟩
            have HS3 := Lib.hid (H4.out.2.2.1.below hb3)
            have D13 := H4.out.2.2.2.1.below hb3
            have D23 := H4.out.2.2.2.2.1.below H4.out.2.2.2.1.lt hb3
            have HD3 := Lib.hid (And.intro D13 D23)
            obtain ⟨d0, d1, d2, d3⟩ := D13
            obtain ⟨g0, g1, g2, g3⟩ := D23
            clear d0' d1' d2' d3' hb3
            go_wp2
            go_roundw
            case rel =>
              refine ⟨bit - 1, q0', q1', q2', q3', r0', r1', r2', r3', h0, h1, h2, h3, by omega, by omega, rfl, H4.out.1, H4.out.2.1, hh, (((HS3.out.far hD _ _).far hD _ _).far hD _ _).far hD _ _, HD3.out.1.store h0 h1 h2 h3, (((HD3.out.2.far _ _).far _ _).far _ _).far _ _, ?_⟩
              rw [hhv.out]
              exact H4.out.2.2.2.2.2
            case measure => simp [intOf]; omega
        · obtain rfl : bit = -1 := by omega
          obtain ⟨⟨p0, p1, p2, p3⟩, ⟨g0, g1, g2, g3⟩⟩ := And.intro HS.out.q1 HS.out.q2
          obtain ⟨f0, f1, f2, f3⟩ := HS.out.r2
          clear d0 d1 d2 d3
          go_wp2
          go_region
          go_wp2
          refine bodyPost_ret (v := .tuple #[(.agg #[.int .u64 q0, .int .u64 q1, .int .u64 q2, .int .u64 q3]), (.agg #[.int .u64 r0, .int .u64 r1, .int .u64 r2, .int .u64 r3])]) (by simp [results, Try.results107, go_sem, c0, c1, c2, c3, p0, p1, p2, p3]) rfl ⟨q0, q1, q2, q3, r0, r1, r2, r3, H3.out.1, H3.out.2.1, ?_, rfl, ?_⟩
          · exact divM_end H3.out.2.2.2.2.2
          · have := HS.out.hb
            repeat (first | (with_reducible exact Below.refl _ _) | (with_reducible refine bl_alloc ?_ _) | (with_reducible refine Below.drew ?_) | (with_reducible refine below_drewN' ?_ _) | ((with_reducible refine bl_set ?_ ?_ _); (rotate_left; (dsimp only; omega))))
            exact this
end Go.Proofs.Ytojfggnimmaemaa
