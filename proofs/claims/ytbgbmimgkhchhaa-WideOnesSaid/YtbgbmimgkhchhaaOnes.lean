/-
  The walk of the law WideOnes.
-/
import Derived.Test.YtbgbmimgkhchhaaIntC
import Derived.Test.YtbgbmimgkhchhaaRefText
import Derived.Test.YtbgbmimgkhchhaaKnown
import Derived.Test.YtbgbmimgkhchhaaOnes0
import Derived.Test.YtbgbmimgkhchhaaRefTold
import Derived.Test.YtbgbmimgkhchhaaRefMul
import Derived.Test.YtbgbmimgkhchhaaWCmp
import Derived.Deep.RegionHeld3
namespace Go.Proofs.Ytbgbmimgkhchhaa
open Go.RowKit

/-- a Wide that is the number z, without a nought below nought -/
def NormIs (z : Int) (m : Bool) (a b c d : Int) : Prop := WV m a b c d = z ∧ Norm m a b c d
theorem normIs_same {z : Int} {m m' : Bool} {a b c d a' b' c' d' : Int} (hi : In4 a b c d) (hi' : In4 a' b' c' d') (h : NormIs z m a b c d) (h' : NormIs z m' a' b' c' d') : m = m' ∧ a = a' ∧ b = b' ∧ c = c' ∧ d = d' :=
  wv_inj hi hi' h.2 h'.2 (h.1.trans h'.1.symm)
theorem told_norm {z : Int} (hz : -M256 < z ∧ z < M256) {w : World} {e : Ending} {w' : World} (h : ToldP z w e w') : ∃ m a b c d, In4 a b c d ∧ Hid (NormIs z m a b c d) ∧ e = .returned (.tuple #[(.agg #[.bool m, .int .u64 a, .int .u64 b, .int .u64 c, .int .u64 d]), .bool true]) ∧ Below w.heap.size w w' := by
  obtain ⟨m, a, b, c, d, ok, hi, hk, he, hb⟩ := h
  rcases hk.out with ⟨rfl, h1, h2, -⟩ | ⟨-, -, h1⟩
  · exact ⟨m, a, b, c, d, hi, ⟨h1, h2⟩, he, hb⟩
  · omega
theorem neg_norm (m : Bool) (a b c d : Int) (hA : In4 a b c d) (w : World) : Calls Try.prog 19 #[(.agg #[.bool m, .int .u64 a, .int .u64 b, .int .u64 c, .int .u64 d])] w fun e w' => ∃ m', Hid (NormIs (- WV m a b c d) m' a b c d) ∧ e = .returned (.agg #[.bool m', .int .u64 a, .int .u64 b, .int .u64 c, .int .u64 d]) ∧ Below w.heap.size w w' := by
  refine (neg_c m a b c d hA w).mono ?_
  rintro e w' ⟨m', hk, he, hb⟩
  refine ⟨m', ?_, he, hb⟩
  have := norm_of hk.out
  refine ⟨?_, this.2⟩
  rw [this.1, wv_eq]
  cases m <;> simp
theorem of_norm (n : Int) (h0 : -9223372036854775808 ≤ n) (h1 : n ≤ 9223372036854775807) (w : World) : Calls Try.prog 16 #[.int .i64 n] w fun e w' => ∃ m a, In4 a 0 0 0 ∧ Hid (NormIs n m a 0 0 0) ∧ e = .returned (.agg #[.bool m, .int .u64 a, .int .u64 0, .int .u64 0, .int .u64 0]) ∧ Below w.heap.size w w' := by
  refine (of_c n h0 h1 w).mono ?_
  rintro e w' ⟨m, a, ha, hk, he, hb⟩
  obtain ⟨rfl, rfl⟩ := hk.out
  refine ⟨_, _, in4_small ha, ?_, he, hb⟩
  unfold Hid NormIs WV Norm
  rw [v4_small]
  by_cases h : n < 0
  · simp [h]; omega
  · simp [h]
theorem sgn_sgZ (m : Bool) (a b c d : Int) (hA : In4 a b c d) : sgn m (V4 a b c d) = sgZ (WV m a b c d) := by
  have := v4_bounds hA
  unfold sgn sgZ WV
  cases m <;> simp <;> split <;> simp_all <;> omega

set_option maxHeartbeats 40000000 in
set_option maxRecDepth 100000 in
theorem ones_c (am : Bool) (a0 a1 a2 a3 n : Int) (hA : In4 a0 a1 a2 a3) (hn0 : -9223372036854775808 ≤ n) (hn1 : n ≤ 9223372036854775807) (w : World) :
    Calls Try.prog 3 #[(.agg #[.bool am, .int .u64 a0, .int .u64 a1, .int .u64 a2, .int .u64 a3]), .int .i64 n] w (Gives (.bool true) w) := by
  have HA := Lib.hid hA
  have HN := Lib.hid (And.intro hn0 hn1)
  obtain ⟨z, hz⟩ : ∃ z, z = WV am a0 a1 a2 a3 := ⟨_, rfl⟩
  have HZ := Lib.hid hz
  have HZB : Hid (-M256 < z ∧ z < M256) := by rw [hz]; exact wv_bounds hA
  have HBB : Hid (-BIG < z ∧ z < BIG) := by have := m256_big2; have := HZB.out; unfold Hid; omega
  clear hA hn0 hn1 hz
  go_enter Try.func3, Try.ntmps3
  go_upto_region 1 with (fail)
  generalize hg : w.heap.size = ga at *
  have HG := Lib.hid hg
  clear hg
  refine wp_abs (fun W => EnvN w [(ga, (⟨am, a0, a1, a2, a3⟩ : Wd))] [] W) ?_ ?_
  · have eg := HG.out
    subst eg
    refine ⟨Env.push ⟨fun p hp => by simp at hp, by repeat (first | (with_reducible exact Below.refl _ _) | (with_reducible refine bl_alloc ?_ _) | (with_reducible refine Below.drew ?_) | (with_reducible refine below_drewN' ?_ _) | ((with_reducible refine bl_set ?_ ?_ _); (rotate_left; (dsimp only; omega))))⟩ ?_, fun p hp => by simp at hp⟩ <;> (constructor <;> simp [go_sem])
  clear HG
  intro W0 S0
  have HE := Lib.hid S0
  clear S0
  obtain ⟨c0, c1, c2, c3, c4⟩ := HE.out.e.cells (g := ga) (m := am) (a := a0) (b := a1) (c := a2) (d := a3) List.mem_cons_self
  go_cut [5] (fun pv W => ∃ gx xm xad xn xc, pv = .pointer (some ⟨gx, 0, none⟩) ∧ EnvN w [(ga, (⟨am, a0, a1, a2, a3⟩ : Wd))] [(gx, (⟨xm, xad, xn, xc, z⟩ : Nv))] W)
  case first =>
    go_wp2_with (first
      | (go_at_call 11; (with_reducible refine (of_num am a0 a1 a2 a3 HA.out _).mono ?_); rintro e w1 ⟨v, rfl, hN, hb1⟩
         obtain ⟨xm, xad, xn, xc, rfl⟩ := hN.shape
         rw [← HZ.out] at hN
         have HN1 := Lib.hid hN
         clear hN
         have HE1 := Lib.hid (HE.out.below hb1))
      | go_in)
    go_meet
    case rel => exact ⟨_, xm, xad, xn, xc, rfl, by first | exact HE1.out.new _ rfl _ _ _ _ _ HN1.out _ | exact HE1.out.new _ (by simp) _ _ _ _ _ HN1.out _⟩
  case rest =>
  obtain ⟨gx, xm, xad, xn, xc, rfl, S⟩ := hcut
  clear c0 c1 c2 c3 c4 HE
  have HE := Lib.hid S
  clear S
  obtain ⟨x0, x1, HX⟩ := HE.out.num (g := gx) (m := xm) (ad := xad) (n := xn) (c := xc) (z := z) List.mem_cons_self
  go_upto_region 2 with (fail)
  go_cut [6, 7] (fun pv _ W => ∃ gw wm w0 w1 w2 w3, pv = .pointer (some ⟨gw, 0, none⟩) ∧ Hid (NormIs (-z) wm w0 w1 w2 w3) ∧ Hid (In4 w0 w1 w2 w3) ∧ EnvN w [(gw, (⟨wm, w0, w1, w2, w3⟩ : Wd)), (ga, (⟨am, a0, a1, a2, a3⟩ : Wd))] [(gx, (⟨xm, xad, xn, xc, z⟩ : Nv))] W)
  case first =>
    go_wp2_with (first
      | (go_at_call 12; (with_reducible refine (neg_num _ z _ HX.out).mono ?_); rintro e w1 ⟨v, rfl, hN, hb1⟩
         have HN1 := Lib.hid hN
         clear hN
         have HE1 := Lib.hid (HE.out.below hb1))
      | (go_at_call 13; (with_reducible refine (wide_num v _ _ HN1.out).mono ?_)
         intro e w2 ht
         obtain ⟨ym, y0, y1, y2, y3, hi, hk, rfl, hb2⟩ := told_norm (by have := HZB.out; omega) ht
         have HI := Lib.hid hi
         clear hi ht
         have HE2 := Lib.hid (HE1.out.below hb2))
      | go_in)
    go_meet
    case rel => exact ⟨_, ym, y0, y1, y2, y3, rfl, hk, HI, HE2.out.newW _ (by first | rfl | simp) _ _ _ _ _ _⟩
  case rest =>
  obtain ⟨gw, wm, w0, w1, w2, w3, rfl, Kw, Iw, S⟩ := hcut
  clear x0 x1 HX HE
  have HE := Lib.hid S
  clear S
  obtain ⟨x0, x1, HX⟩ := HE.out.num (g := gx) (m := xm) (ad := xad) (n := xn) (c := xc) (z := z) List.mem_cons_self
  go_upto_region 3 with (fail)
  go_cut [8, 9] (fun pv _ W => ∃ gb bm b0 b1 b2 b3, pv = .pointer (some ⟨gb, 0, none⟩) ∧ Hid (NormIs z bm b0 b1 b2 b3) ∧ Hid (In4 b0 b1 b2 b3) ∧ EnvN w [(gb, (⟨bm, b0, b1, b2, b3⟩ : Wd)), (gw, (⟨wm, w0, w1, w2, w3⟩ : Wd)), (ga, (⟨am, a0, a1, a2, a3⟩ : Wd))] [(gx, (⟨xm, xad, xn, xc, z⟩ : Nv))] W)
  case first =>
    go_wp2_with (first
      | (go_at_call 13; (with_reducible refine (wide_num _ _ _ HX.out).mono ?_)
         intro e w2 ht
         obtain ⟨ym, y0, y1, y2, y3, hi, hk, rfl, hb2⟩ := told_norm HZB.out ht
         have HI := Lib.hid hi
         clear hi ht
         have HE2 := Lib.hid (HE.out.below hb2))
      | go_in)
    go_meet
    case rel => exact ⟨_, ym, y0, y1, y2, y3, rfl, hk, HI, HE2.out.newW _ (by first | rfl | simp) _ _ _ _ _ _⟩
  case rest =>
  obtain ⟨gb, bm, b0, b1, b2, b3, rfl, Kb, Ib, S⟩ := hcut
  clear x0 x1 HX HE
  have HE := Lib.hid S
  clear S
  go_upto_region 4 with (fail)
  go_cut [10, 11] (fun pv ov W => ∃ gs sm s0 s1 s2 s3, pv = .pointer (some ⟨gs, 0, none⟩) ∧ ov = .bool true ∧ Hid (NormIs n sm s0 s1 s2 s3) ∧ Hid (In4 s0 s1 s2 s3) ∧ EnvN w [(gs, (⟨sm, s0, s1, s2, s3⟩ : Wd)), (gb, (⟨bm, b0, b1, b2, b3⟩ : Wd)), (gw, (⟨wm, w0, w1, w2, w3⟩ : Wd)), (ga, (⟨am, a0, a1, a2, a3⟩ : Wd))] [(gx, (⟨xm, xad, xn, xc, z⟩ : Nv))] W)
  case first =>
    go_wp2_with (first
      | (go_at_call 14; (with_reducible refine (small_num n HN.out.1 HN.out.2 _).mono ?_); rintro e w1 ⟨v, rfl, hN, hb1⟩
         have HN1 := Lib.hid hN
         clear hN
         have HE1 := Lib.hid (HE.out.below hb1))
      | (go_at_call 13; (with_reducible refine (wide_num v _ _ HN1.out).mono ?_)
         intro e w2 ht
         obtain ⟨ym, y0, y1, y2, y3, hi, hk, rfl, hb2⟩ := told_norm (by have := HN.out; unfold M256; omega) ht
         have HI := Lib.hid hi
         clear hi ht
         have HE2 := Lib.hid (HE1.out.below hb2))
      | go_in)
    go_meet
    case rel => exact ⟨_, ym, y0, y1, y2, y3, rfl, rfl, hk, HI, HE2.out.newW _ (by first | rfl | simp) _ _ _ _ _ _⟩
  case rest =>
  obtain ⟨gs, sm, s0, s1, s2, s3, rfl, rfl, Ks, Is, S⟩ := hcut
  clear HE
  have HE := Lib.hid S
  clear S
  obtain ⟨c0, c1, c2, c3, c4⟩ := HE.out.e.cells (g := ga) (m := am) (a := a0) (b := a1) (c := a2) (d := a3) (List.mem_cons_of_mem _ (List.mem_cons_of_mem _ (List.mem_cons_of_mem _ List.mem_cons_self)))
  go_upto_region 5 with (fail)
  go_cut [12, 13] (fun iv ev W => ∃ i er, iv = .int .i64 i ∧ ev = .int .i64 er ∧ Hid (IntIs i er z) ∧ EnvN w [(gs, (⟨sm, s0, s1, s2, s3⟩ : Wd)), (gb, (⟨bm, b0, b1, b2, b3⟩ : Wd)), (gw, (⟨wm, w0, w1, w2, w3⟩ : Wd)), (ga, (⟨am, a0, a1, a2, a3⟩ : Wd))] [(gx, (⟨xm, xad, xn, xc, z⟩ : Nv))] W)
  case first =>
    go_wp2_with (first
      | (go_at_call 15; (with_reducible refine (int_c am a0 a1 a2 a3 HA.out _).mono ?_); rintro e w1 ⟨i, er, rfl, hk, hb1⟩
         rw [← HZ.out] at hk
         have HE1 := Lib.hid (HE.out.below hb1))
      | go_in)
    go_meet
    case rel => exact ⟨i, er, rfl, rfl, hk, HE1.out⟩
  case rest =>
  obtain ⟨i, er, rfl, rfl, Ki, S⟩ := hcut
  clear c0 c1 c2 c3 c4 HE
  have HE := Lib.hid S
  clear S
  go_upto_region 6 with (fail)
  go_cut [14, 15] (fun jv fv W => jv = .int .i64 n ∧ fv = .int .i64 0 ∧ EnvN w [(gs, (⟨sm, s0, s1, s2, s3⟩ : Wd)), (gb, (⟨bm, b0, b1, b2, b3⟩ : Wd)), (gw, (⟨wm, w0, w1, w2, w3⟩ : Wd)), (ga, (⟨am, a0, a1, a2, a3⟩ : Wd))] [(gx, (⟨xm, xad, xn, xc, z⟩ : Nv))] W)
  case first =>
    go_wp2_with (first
      | (go_at_call 16; (with_reducible refine (of_norm n HN.out.1 HN.out.2 _).mono ?_); rintro e w1 ⟨m', a', hi, hk, rfl, hb1⟩
         have HI := Lib.hid hi
         clear hi
         have HE1 := Lib.hid (HE.out.below hb1))
      | (go_at_call 15; (with_reducible refine (int_c m' a' 0 0 0 HI.out _).mono ?_); rintro e w2 ⟨j, er', rfl, hk2, hb2⟩
         obtain ⟨rfl, rfl⟩ : er' = 0 ∧ j = n := by
           have h1 := hk2.out
           rw [hk.out.1] at h1
           have := HN.out
           rcases h1 with ⟨h2, h3, -⟩ | ⟨-, -, h2⟩
           · exact ⟨h2, h3⟩
           · omega
         have HE2 := Lib.hid (HE1.out.below hb2))
      | go_in)
    go_meet
    case rel => exact ⟨rfl, rfl, HE2.out⟩
  case rest =>
  obtain ⟨rfl, rfl, S⟩ := hcut
  clear HE
  have HE := Lib.hid S
  clear S
  obtain ⟨c0, c1, c2, c3, c4⟩ := HE.out.e.cells (g := ga) (m := am) (a := a0) (b := a1) (c := a2) (d := a3) (List.mem_cons_of_mem _ (List.mem_cons_of_mem _ (List.mem_cons_of_mem _ List.mem_cons_self)))
  go_upto_region 7 with (fail)
  go_cut [16] (fun bv W => ∃ fb : Bool, bv = .bool fb ∧ Hid (er = 0 → fb = true) ∧ EnvN w [(gs, (⟨sm, s0, s1, s2, s3⟩ : Wd)), (gb, (⟨bm, b0, b1, b2, b3⟩ : Wd)), (gw, (⟨wm, w0, w1, w2, w3⟩ : Wd)), (ga, (⟨am, a0, a1, a2, a3⟩ : Wd))] [(gx, (⟨xm, xad, xn, xc, z⟩ : Nv))] W)
  case first =>
    by_cases hi0 : i = 0
    · have HIZ := Lib.hid hi0
      have hi1 : (i != 0) = false := by simp [hi0]
      clear hi0
      obtain ⟨sg0, hsg, HSG⟩ : ∃ s, sgZ z = s ∧ Hid (sgZ z = s) := ⟨_, rfl, rfl⟩
      go_wp2_with (first
        | (go_at_call 11; (with_reducible refine (of_num am a0 a1 a2 a3 HA.out _).mono ?_); rintro e w1 ⟨v, rfl, hN, hb1⟩
           rw [← HZ.out] at hN
           have HN1 := Lib.hid hN
           clear hN
           have HE1 := Lib.hid (HE.out.below hb1))
        | (go_at_call 17; (with_reducible refine (sign_is v z sg0 _ HN1.out hsg).mono ?_); rintro e w2 ⟨rfl, hb2⟩
           have HE2 := Lib.hid (HE1.out.below hb2))
        | go_in)
      go_meet
      case rel =>
        refine ⟨_, rfl, ?_, HE2.out⟩
        intro h0
        rcases Ki.out with ⟨-, h1, -⟩ | ⟨h1, -⟩
        · rw [← HSG.out, ← h1, HIZ.out]; rfl
        · omega
    · have hi1 : (i != 0) = true := by simp [hi0]
      clear hi0
      go_wp2
      go_meet
      case rel => exact ⟨true, by first | rfl | simp, fun _ => rfl, HE.out⟩
  case rest =>
  obtain ⟨fb, rfl, Kf, S⟩ := hcut
  clear c0 c1 c2 c3 c4 HE
  have HE := Lib.hid S
  clear S
  obtain ⟨x0, x1, HX⟩ := HE.out.num (g := gx) (m := xm) (ad := xad) (n := xn) (c := xc) (z := z) List.mem_cons_self
  go_upto_region 8 with (fail)
  go_cut [81] (fun bv W => bv = .bool false ∧ EnvN w [(gs, (⟨sm, s0, s1, s2, s3⟩ : Wd)), (gb, (⟨bm, b0, b1, b2, b3⟩ : Wd)), (gw, (⟨wm, w0, w1, w2, w3⟩ : Wd)), (ga, (⟨am, a0, a1, a2, a3⟩ : Wd))] [(gx, (⟨xm, xad, xn, xc, z⟩ : Nv))] W)
  case first =>
    rcases (show (er = 0 ∧ i = z ∧ fb = true) ∨ (er = 10 ∧ i = 0) by
      rcases Ki.out with ⟨h1, h2, -⟩ | ⟨h1, h2, -⟩
      · exact .inl ⟨h1, h2, Kf.out h1⟩
      · exact .inr ⟨h1, h2⟩) with ⟨rfl, hiz, rfl⟩ | ⟨rfl, rfl⟩
    · have HIZ := Lib.hid hiz
      have HIB : Hid (-9223372036854775808 ≤ i ∧ i ≤ 9223372036854775807) := by
        rcases Ki.out with ⟨-, h2, h3, h4⟩ | ⟨h1, -⟩
        · unfold Hid; omega
        · omega
      have HIG : Hid (-BIG < i ∧ i < BIG) := by rw [hiz]; exact HBB.out
      have HSZ : Hid (sgZ (i - z) = 0) := sgZ_eq (by omega)
      clear hiz
      refine wp_region_held_drew (S := fun w' => w'.cell? ⟨gx, 0, none⟩ = some (.bool xm) ∧ w'.cell? ⟨gx, 1, none⟩ = some (.slice xad xn xc)) (by kernel_rfl) ?_ (fun hHeld => ?_)
      · exact ⟨x0, x1⟩
      refine wpAnyH_take (i := 0) (v := ?_) rfl (by kernel_rfl) (by kernel_rfl) (by kernel_rfl) (fun _ _ _ h => h) (Or.inl ⟨by rfl, ?_⟩) (by assumption) ?_
      rotate_left
      · intro w hSw
        try dsimp only at hSw
        go_simp
        all_goals (with_reducible rfl)
      try simp only [Act.put, List.getElem_toArray, List.getElem_cons_zero, List.setIfInBounds_toArray, List.set_cons_zero, List.set_cons_succ]
      refine wpAnyH_take (i := 1) (v := ?_) rfl (by kernel_rfl) (by kernel_rfl) (by kernel_rfl) (fun _ _ _ h => h) (Or.inl ⟨by rfl, ?_⟩) (by assumption) ?_
      rotate_left
      · intro w hSw
        try dsimp only at hSw
        go_simp
        all_goals (with_reducible rfl)
      try simp only [Act.put, List.getElem_toArray, List.getElem_cons_succ, List.getElem_cons_zero, List.setIfInBounds_toArray, List.set_cons_zero, List.set_cons_succ]
      refine wpAnyH_take (i := 2) (v := ?_) rfl (by kernel_rfl) (by kernel_rfl) (by kernel_rfl) (fun _ _ _ h => h) (Or.inl ⟨by rfl, ?_⟩) (by assumption) ?_
      rotate_left
      · intro w hSw
        try dsimp only at hSw
        go_simp
        all_goals (with_reducible rfl)
      try simp only [Act.put, List.getElem_toArray, List.getElem_cons_succ, List.getElem_cons_zero, List.setIfInBounds_toArray, List.set_cons_zero, List.set_cons_succ]
      refine wpAnyH_take (i := 3) (v := ?_) rfl (by kernel_rfl) (by kernel_rfl) (by kernel_rfl) (fun _ _ _ h => h) (Or.inl ⟨by rfl, ?_⟩) (by assumption) ?_
      rotate_left
      · intro w hSw
        try dsimp only at hSw
        go_simp
        all_goals (with_reducible rfl)
      try simp only [Act.put, List.getElem_toArray, List.getElem_cons_succ, List.getElem_cons_zero, List.setIfInBounds_toArray, List.set_cons_zero, List.set_cons_succ]
      refine wpAnyH_take (i := 4) (v := ?_) rfl (by kernel_rfl) (by kernel_rfl) (by kernel_rfl) (fun _ _ _ h => h) (Or.inl ⟨by rfl, ?_⟩) (by assumption) ?_
      rotate_left
      · intro w hSw
        try dsimp only at hSw
        go_simp
        all_goals (with_reducible rfl)
      try simp only [Act.put, List.getElem_toArray, List.getElem_cons_succ, List.getElem_cons_zero, List.setIfInBounds_toArray, List.set_cons_zero, List.set_cons_succ]
      refine wpAnyH_take (i := 5) (v := ?_) rfl (by kernel_rfl) (by kernel_rfl) (by kernel_rfl) (fun _ _ _ h => h) (Or.inl ⟨by rfl, ?_⟩) (by assumption) ?_
      rotate_left
      · intro w hSw
        try dsimp only at hSw
        go_simp
        all_goals (with_reducible rfl)
      try simp only [Act.put, List.getElem_toArray, List.getElem_cons_succ, List.getElem_cons_zero, List.setIfInBounds_toArray, List.set_cons_zero, List.set_cons_succ]
      refine wpAnyH_take (i := 6) (v := ?_) rfl (by kernel_rfl) (by kernel_rfl) (by kernel_rfl) (fun _ _ _ h => h) (Or.inl ⟨by rfl, ?_⟩) (by assumption) ?_
      rotate_left
      · intro w hSw
        try dsimp only at hSw
        go_simp
        all_goals (with_reducible rfl)
      try simp only [Act.put, List.getElem_toArray, List.getElem_cons_succ, List.getElem_cons_zero, List.setIfInBounds_toArray, List.set_cons_zero, List.set_cons_succ]
      refine wpAnyH_take (i := 8) (v := ?_) rfl (by kernel_rfl) (by kernel_rfl) (by kernel_rfl) (fun _ _ _ h => h) (Or.inl ⟨by rfl, ?_⟩) (by assumption) ?_
      rotate_left
      · intro w hSw
        try dsimp only at hSw
        go_simp
        all_goals (with_reducible rfl)
      try simp only [Act.put, List.getElem_toArray, List.getElem_cons_succ, List.getElem_cons_zero, List.setIfInBounds_toArray, List.set_cons_zero, List.set_cons_succ]
      refine wpAnyH_ready (rs := [7]) (by kernel_rfl) (by simp) ?_
      refine AllReadyH.cons rfl (fun K hK => ?_) AllReadyH.nil
      rw [if_pos (by rfl)]
      go_simp
      go_at_call 14
      (with_reducible refine (small_num i HIB.out.1 HIB.out.2 _).mono ?_); rintro e w1 ⟨v1, rfl, hN1, hb1⟩
      have HN1 := Lib.hid hN1
      clear hN1
      have HE1 := Lib.hid (HE.out.below (bl_trans (bl_drew1 _) hb1))
      obtain ⟨y1, z1, HX1⟩ := HE1.out.num (g := gx) (m := xm) (ad := xad) (n := xn) (c := xc) (z := z) List.mem_cons_self
      go_wp2_with fail
      refine hK.out _ _ ?_ (fun hHeld2 => ?_)
      · exact ⟨y1, z1⟩
      clear hK K hHeld
      have hHeld := hHeld2
      clear hHeld2
      try simp only [Act.put, List.getElem_toArray, List.getElem_cons_succ, List.getElem_cons_zero, List.setIfInBounds_toArray, List.set_cons_zero, List.set_cons_succ]
      refine wpAnyH_ready (rs := [9]) (by kernel_rfl) (by simp) ?_
      refine AllReadyH.cons rfl (fun K hK => ?_) AllReadyH.nil
      rw [if_pos (by rfl)]
      go_simp
      go_at_call 18
      (with_reducible refine (cmp_is v1 _ i z 0 w1 HN1.out HX1.out HIG.out HBB.out HSZ.out).mono ?_); rintro e w2 ⟨rfl, hb2⟩
      have HE2 := Lib.hid (HE1.out.below hb2)
      obtain ⟨y2, z2, HX2⟩ := HE2.out.num (g := gx) (m := xm) (ad := xad) (n := xn) (c := xc) (z := z) List.mem_cons_self
      go_wp2_with fail
      refine hK.out _ _ ?_ (fun hHeld2 => ?_)
      · exact ⟨y2, z2⟩
      clear hK K hHeld
      have hHeld := hHeld2
      clear hHeld2
      try simp only [Act.put, List.getElem_toArray, List.getElem_cons_succ, List.getElem_cons_zero, List.setIfInBounds_toArray, List.set_cons_zero, List.set_cons_succ]
      refine wpAnyH_take (i := 10) (v := ?_) rfl (by kernel_rfl) (by kernel_rfl) (by kernel_rfl) (fun _ _ _ h => h) (Or.inl ⟨by rfl, ?_⟩) (by assumption) ?_
      rotate_left
      · intro w hSw
        try dsimp only at hSw
        go_simp
        all_goals (with_reducible rfl)
      try simp only [Act.put, List.getElem_toArray, List.getElem_cons_succ, List.getElem_cons_zero, List.setIfInBounds_toArray, List.set_cons_zero, List.set_cons_succ]
      refine wpAnyH_take (i := 11) (v := ?_) rfl (by kernel_rfl) (by kernel_rfl) (by kernel_rfl) (fun _ _ _ h => h) (Or.inl ⟨by rfl, ?_⟩) (by assumption) ?_
      rotate_left
      · intro w hSw
        try dsimp only at hSw
        go_simp
        all_goals (with_reducible rfl)
      try simp only [Act.put, List.getElem_toArray, List.getElem_cons_succ, List.getElem_cons_zero, List.setIfInBounds_toArray, List.set_cons_zero, List.set_cons_succ]
      refine wpAnyH_take (i := 12) (v := ?_) rfl (by kernel_rfl) (by kernel_rfl) (by kernel_rfl) (fun _ _ _ h => h) (Or.inl ⟨by rfl, ?_⟩) (by assumption) ?_
      rotate_left
      · intro w hSw
        try dsimp only at hSw
        go_simp
        all_goals (with_reducible rfl)
      try simp only [Act.put, List.getElem_toArray, List.getElem_cons_succ, List.getElem_cons_zero, List.setIfInBounds_toArray, List.set_cons_zero, List.set_cons_succ]
      refine wpAnyH_take (i := 13) (v := ?_) rfl (by kernel_rfl) (by kernel_rfl) (by kernel_rfl) (fun _ _ _ h => h) (Or.inl ⟨by rfl, ?_⟩) (by assumption) ?_
      rotate_left
      · intro w hSw
        try dsimp only at hSw
        go_simp
        all_goals (with_reducible rfl)
      try simp only [Act.put, List.getElem_toArray, List.getElem_cons_succ, List.getElem_cons_zero, List.setIfInBounds_toArray, List.set_cons_zero, List.set_cons_succ]
      refine wpAnyH_take (i := 14) (v := ?_) rfl (by kernel_rfl) (by kernel_rfl) (by kernel_rfl) (fun _ _ _ h => h) (Or.inl ⟨by rfl, ?_⟩) (by assumption) ?_
      rotate_left
      · intro w hSw
        try dsimp only at hSw
        go_simp
        all_goals (with_reducible rfl)
      try simp only [Act.put, List.getElem_toArray, List.getElem_cons_succ, List.getElem_cons_zero, List.setIfInBounds_toArray, List.set_cons_zero, List.set_cons_succ]
      refine wpAnyH_take (i := 15) (v := ?_) rfl (by kernel_rfl) (by kernel_rfl) (by kernel_rfl) (fun _ _ _ h => h) (Or.inl ⟨by rfl, ?_⟩) (by assumption) ?_
      rotate_left
      · intro w hSw
        try dsimp only at hSw
        go_simp
        all_goals (with_reducible rfl)
      try simp only [Act.put, List.getElem_toArray, List.getElem_cons_succ, List.getElem_cons_zero, List.setIfInBounds_toArray, List.set_cons_zero, List.set_cons_succ]
      refine wpAnyH_take (i := 16) (v := ?_) rfl (by kernel_rfl) (by kernel_rfl) (by kernel_rfl) (fun _ _ _ h => h) (Or.inl ⟨by rfl, ?_⟩) (by assumption) ?_
      rotate_left
      · intro w hSw
        try dsimp only at hSw
        go_simp
        all_goals (with_reducible rfl)
      try simp only [Act.put, List.getElem_toArray, List.getElem_cons_succ, List.getElem_cons_zero, List.setIfInBounds_toArray, List.set_cons_zero, List.set_cons_succ]
      refine wpAnyH_take (i := 17) (v := _) rfl (by kernel_rfl) (by kernel_rfl) (by kernel_rfl) (fun _ _ _ h => h) (Or.inr ⟨by rfl, rfl⟩) (by assumption) ?_
      try simp only [Act.put, List.getElem_toArray, List.getElem_cons_succ, List.getElem_cons_zero, List.setIfInBounds_toArray, List.set_cons_zero, List.set_cons_succ]
      refine wpAnyH_take (i := 18) (v := _) rfl (by kernel_rfl) (by kernel_rfl) (by kernel_rfl) (fun _ _ _ h => h) (Or.inr ⟨by rfl, rfl⟩) (by assumption) ?_
      try simp only [Act.put, List.getElem_toArray, List.getElem_cons_succ, List.getElem_cons_zero, List.setIfInBounds_toArray, List.set_cons_zero, List.set_cons_succ]
      refine wpAnyH_take (i := 19) (v := _) rfl (by kernel_rfl) (by kernel_rfl) (by kernel_rfl) (fun _ _ _ h => h) (Or.inr ⟨by rfl, rfl⟩) (by assumption) ?_
      try simp only [Act.put, List.getElem_toArray, List.getElem_cons_succ, List.getElem_cons_zero, List.setIfInBounds_toArray, List.set_cons_zero, List.set_cons_succ]
      refine wpAnyH_take (i := 20) (v := _) rfl (by kernel_rfl) (by kernel_rfl) (by kernel_rfl) (fun _ _ _ h => h) (Or.inr ⟨by rfl, rfl⟩) (by assumption) ?_
      try simp only [Act.put, List.getElem_toArray, List.getElem_cons_succ, List.getElem_cons_zero, List.setIfInBounds_toArray, List.set_cons_zero, List.set_cons_succ]
      refine wpAnyH_take (i := 21) (v := _) rfl (by kernel_rfl) (by kernel_rfl) (by kernel_rfl) (fun _ _ _ h => h) (Or.inr ⟨by rfl, rfl⟩) (by assumption) ?_
      try simp only [Act.put, List.getElem_toArray, List.getElem_cons_succ, List.getElem_cons_zero, List.setIfInBounds_toArray, List.set_cons_zero, List.set_cons_succ]
      refine wpAnyH_take (i := 22) (v := _) rfl (by kernel_rfl) (by kernel_rfl) (by kernel_rfl) (fun _ _ _ h => h) (Or.inr ⟨by rfl, rfl⟩) (by assumption) ?_
      try simp only [Act.put, List.getElem_toArray, List.getElem_cons_succ, List.getElem_cons_zero, List.setIfInBounds_toArray, List.set_cons_zero, List.set_cons_succ]
      refine wpAnyH_take (i := 23) (v := ?_) rfl (by kernel_rfl) (by kernel_rfl) (by kernel_rfl) (fun _ _ _ h => h) (Or.inl ⟨by rfl, ?_⟩) (by assumption) ?_
      rotate_left
      · intro w hSw
        try dsimp only at hSw
        go_simp
        all_goals (with_reducible rfl)
      try simp only [Act.put, List.getElem_toArray, List.getElem_cons_succ, List.getElem_cons_zero, List.setIfInBounds_toArray, List.set_cons_zero, List.set_cons_succ]
      refine wpAnyH_take (i := 24) (v := ?_) rfl (by kernel_rfl) (by kernel_rfl) (by kernel_rfl) (fun _ _ _ h => h) (Or.inl ⟨by rfl, ?_⟩) (by assumption) ?_
      rotate_left
      · intro w hSw
        try dsimp only at hSw
        go_simp
        all_goals (with_reducible rfl)
      try simp only [Act.put, List.getElem_toArray, List.getElem_cons_succ, List.getElem_cons_zero, List.setIfInBounds_toArray, List.set_cons_zero, List.set_cons_succ]
      refine wpAnyH_done (by kernel_rfl) ?_ _
      go_wp2_with fail
      go_meet
      case rel => exact ⟨by first | rfl | simp, HE2.out⟩
    · skip
      refine wp_region_held_drew (S := fun w' => w'.cell? ⟨gx, 0, none⟩ = some (.bool xm) ∧ w'.cell? ⟨gx, 1, none⟩ = some (.slice xad xn xc)) (by kernel_rfl) ?_ (fun hHeld => ?_)
      · exact ⟨x0, x1⟩
      refine wpAnyH_take (i := 0) (v := ?_) rfl (by kernel_rfl) (by kernel_rfl) (by kernel_rfl) (fun _ _ _ h => h) (Or.inl ⟨by rfl, ?_⟩) (by assumption) ?_
      rotate_left
      · intro w hSw
        try dsimp only at hSw
        go_simp
        all_goals (with_reducible rfl)
      try simp only [Act.put, List.getElem_toArray, List.getElem_cons_zero, List.setIfInBounds_toArray, List.set_cons_zero, List.set_cons_succ]
      refine wpAnyH_take (i := 1) (v := ?_) rfl (by kernel_rfl) (by kernel_rfl) (by kernel_rfl) (fun _ _ _ h => h) (Or.inl ⟨by rfl, ?_⟩) (by assumption) ?_
      rotate_left
      · intro w hSw
        try dsimp only at hSw
        go_simp
        all_goals (with_reducible rfl)
      try simp only [Act.put, List.getElem_toArray, List.getElem_cons_succ, List.getElem_cons_zero, List.setIfInBounds_toArray, List.set_cons_zero, List.set_cons_succ]
      refine wpAnyH_take (i := 2) (v := ?_) rfl (by kernel_rfl) (by kernel_rfl) (by kernel_rfl) (fun _ _ _ h => h) (Or.inl ⟨by rfl, ?_⟩) (by assumption) ?_
      rotate_left
      · intro w hSw
        try dsimp only at hSw
        go_simp
        all_goals (with_reducible rfl)
      try simp only [Act.put, List.getElem_toArray, List.getElem_cons_succ, List.getElem_cons_zero, List.setIfInBounds_toArray, List.set_cons_zero, List.set_cons_succ]
      refine wpAnyH_take (i := 3) (v := _) rfl (by kernel_rfl) (by kernel_rfl) (by kernel_rfl) (fun _ _ _ h => h) (Or.inr ⟨by rfl, rfl⟩) (by assumption) ?_
      try simp only [Act.put, List.getElem_toArray, List.getElem_cons_succ, List.getElem_cons_zero, List.setIfInBounds_toArray, List.set_cons_zero, List.set_cons_succ]
      refine wpAnyH_take (i := 4) (v := _) rfl (by kernel_rfl) (by kernel_rfl) (by kernel_rfl) (fun _ _ _ h => h) (Or.inr ⟨by rfl, rfl⟩) (by assumption) ?_
      try simp only [Act.put, List.getElem_toArray, List.getElem_cons_succ, List.getElem_cons_zero, List.setIfInBounds_toArray, List.set_cons_zero, List.set_cons_succ]
      refine wpAnyH_take (i := 5) (v := _) rfl (by kernel_rfl) (by kernel_rfl) (by kernel_rfl) (fun _ _ _ h => h) (Or.inr ⟨by rfl, rfl⟩) (by assumption) ?_
      try simp only [Act.put, List.getElem_toArray, List.getElem_cons_succ, List.getElem_cons_zero, List.setIfInBounds_toArray, List.set_cons_zero, List.set_cons_succ]
      refine wpAnyH_take (i := 6) (v := _) rfl (by kernel_rfl) (by kernel_rfl) (by kernel_rfl) (fun _ _ _ h => h) (Or.inr ⟨by rfl, rfl⟩) (by assumption) ?_
      try simp only [Act.put, List.getElem_toArray, List.getElem_cons_succ, List.getElem_cons_zero, List.setIfInBounds_toArray, List.set_cons_zero, List.set_cons_succ]
      refine wpAnyH_take (i := 7) (v := _) rfl (by kernel_rfl) (by kernel_rfl) (by kernel_rfl) (fun _ _ _ h => h) (Or.inr ⟨by rfl, rfl⟩) (by assumption) ?_
      try simp only [Act.put, List.getElem_toArray, List.getElem_cons_succ, List.getElem_cons_zero, List.setIfInBounds_toArray, List.set_cons_zero, List.set_cons_succ]
      refine wpAnyH_take (i := 8) (v := _) rfl (by kernel_rfl) (by kernel_rfl) (by kernel_rfl) (fun _ _ _ h => h) (Or.inr ⟨by rfl, rfl⟩) (by assumption) ?_
      try simp only [Act.put, List.getElem_toArray, List.getElem_cons_succ, List.getElem_cons_zero, List.setIfInBounds_toArray, List.set_cons_zero, List.set_cons_succ]
      refine wpAnyH_take (i := 9) (v := _) rfl (by kernel_rfl) (by kernel_rfl) (by kernel_rfl) (fun _ _ _ h => h) (Or.inr ⟨by rfl, rfl⟩) (by assumption) ?_
      try simp only [Act.put, List.getElem_toArray, List.getElem_cons_succ, List.getElem_cons_zero, List.setIfInBounds_toArray, List.set_cons_zero, List.set_cons_succ]
      refine wpAnyH_take (i := 10) (v := _) rfl (by kernel_rfl) (by kernel_rfl) (by kernel_rfl) (fun _ _ _ h => h) (Or.inr ⟨by rfl, rfl⟩) (by assumption) ?_
      try simp only [Act.put, List.getElem_toArray, List.getElem_cons_succ, List.getElem_cons_zero, List.setIfInBounds_toArray, List.set_cons_zero, List.set_cons_succ]
      refine wpAnyH_take (i := 11) (v := _) rfl (by kernel_rfl) (by kernel_rfl) (by kernel_rfl) (fun _ _ _ h => h) (Or.inr ⟨by rfl, rfl⟩) (by assumption) ?_
      try simp only [Act.put, List.getElem_toArray, List.getElem_cons_succ, List.getElem_cons_zero, List.setIfInBounds_toArray, List.set_cons_zero, List.set_cons_succ]
      refine wpAnyH_take (i := 12) (v := ?_) rfl (by kernel_rfl) (by kernel_rfl) (by kernel_rfl) (fun _ _ _ h => h) (Or.inl ⟨by rfl, ?_⟩) (by assumption) ?_
      rotate_left
      · intro w hSw
        try dsimp only at hSw
        go_simp
        all_goals (with_reducible rfl)
      try simp only [Act.put, List.getElem_toArray, List.getElem_cons_succ, List.getElem_cons_zero, List.setIfInBounds_toArray, List.set_cons_zero, List.set_cons_succ]
      refine wpAnyH_take (i := 13) (v := ?_) rfl (by kernel_rfl) (by kernel_rfl) (by kernel_rfl) (fun _ _ _ h => h) (Or.inl ⟨by rfl, ?_⟩) (by assumption) ?_
      rotate_left
      · intro w hSw
        try dsimp only at hSw
        go_simp
        all_goals (with_reducible rfl)
      try simp only [Act.put, List.getElem_toArray, List.getElem_cons_succ, List.getElem_cons_zero, List.setIfInBounds_toArray, List.set_cons_zero, List.set_cons_succ]
      refine wpAnyH_take (i := 14) (v := ?_) rfl (by kernel_rfl) (by kernel_rfl) (by kernel_rfl) (fun _ _ _ h => h) (Or.inl ⟨by rfl, ?_⟩) (by assumption) ?_
      rotate_left
      · intro w hSw
        try dsimp only at hSw
        go_simp
        all_goals (with_reducible rfl)
      try simp only [Act.put, List.getElem_toArray, List.getElem_cons_succ, List.getElem_cons_zero, List.setIfInBounds_toArray, List.set_cons_zero, List.set_cons_succ]
      refine wpAnyH_take (i := 15) (v := ?_) rfl (by kernel_rfl) (by kernel_rfl) (by kernel_rfl) (fun _ _ _ h => h) (Or.inl ⟨by rfl, ?_⟩) (by assumption) ?_
      rotate_left
      · intro w hSw
        try dsimp only at hSw
        go_simp
        all_goals (with_reducible rfl)
      try simp only [Act.put, List.getElem_toArray, List.getElem_cons_succ, List.getElem_cons_zero, List.setIfInBounds_toArray, List.set_cons_zero, List.set_cons_succ]
      refine wpAnyH_take (i := 16) (v := ?_) rfl (by kernel_rfl) (by kernel_rfl) (by kernel_rfl) (fun _ _ _ h => h) (Or.inl ⟨by rfl, ?_⟩) (by assumption) ?_
      rotate_left
      · intro w hSw
        try dsimp only at hSw
        go_simp
        all_goals (with_reducible rfl)
      try simp only [Act.put, List.getElem_toArray, List.getElem_cons_succ, List.getElem_cons_zero, List.setIfInBounds_toArray, List.set_cons_zero, List.set_cons_succ]
      refine wpAnyH_take (i := 17) (v := ?_) rfl (by kernel_rfl) (by kernel_rfl) (by kernel_rfl) (fun _ _ _ h => h) (Or.inl ⟨by rfl, ?_⟩) (by assumption) ?_
      rotate_left
      · intro w hSw
        try dsimp only at hSw
        go_simp
        all_goals (with_reducible rfl)
      try simp only [Act.put, List.getElem_toArray, List.getElem_cons_succ, List.getElem_cons_zero, List.setIfInBounds_toArray, List.set_cons_zero, List.set_cons_succ]
      refine wpAnyH_take (i := 18) (v := ?_) rfl (by kernel_rfl) (by kernel_rfl) (by kernel_rfl) (fun _ _ _ h => h) (Or.inl ⟨by rfl, ?_⟩) (by assumption) ?_
      rotate_left
      · intro w hSw
        try dsimp only at hSw
        go_simp
        all_goals (with_reducible rfl)
      try simp only [Act.put, List.getElem_toArray, List.getElem_cons_succ, List.getElem_cons_zero, List.setIfInBounds_toArray, List.set_cons_zero, List.set_cons_succ]
      refine wpAnyH_take (i := 19) (v := ?_) rfl (by kernel_rfl) (by kernel_rfl) (by kernel_rfl) (fun _ _ _ h => h) (Or.inl ⟨by rfl, ?_⟩) (by assumption) ?_
      rotate_left
      · intro w hSw
        try dsimp only at hSw
        go_simp
        all_goals (with_reducible rfl)
      try simp only [Act.put, List.getElem_toArray, List.getElem_cons_succ, List.getElem_cons_zero, List.setIfInBounds_toArray, List.set_cons_zero, List.set_cons_succ]
      refine wpAnyH_take (i := 20) (v := ?_) rfl (by kernel_rfl) (by kernel_rfl) (by kernel_rfl) (fun _ _ _ h => h) (Or.inl ⟨by rfl, ?_⟩) (by assumption) ?_
      rotate_left
      · intro w hSw
        try dsimp only at hSw
        go_simp
        all_goals (with_reducible rfl)
      try simp only [Act.put, List.getElem_toArray, List.getElem_cons_succ, List.getElem_cons_zero, List.setIfInBounds_toArray, List.set_cons_zero, List.set_cons_succ]
      refine wpAnyH_take (i := 21) (v := ?_) rfl (by kernel_rfl) (by kernel_rfl) (by kernel_rfl) (fun _ _ _ h => h) (Or.inl ⟨by rfl, ?_⟩) (by assumption) ?_
      rotate_left
      · intro w hSw
        try dsimp only at hSw
        go_simp
        all_goals (with_reducible rfl)
      try simp only [Act.put, List.getElem_toArray, List.getElem_cons_succ, List.getElem_cons_zero, List.setIfInBounds_toArray, List.set_cons_zero, List.set_cons_succ]
      refine wpAnyH_take (i := 22) (v := ?_) rfl (by kernel_rfl) (by kernel_rfl) (by kernel_rfl) (fun _ _ _ h => h) (Or.inl ⟨by rfl, ?_⟩) (by assumption) ?_
      rotate_left
      · intro w hSw
        try dsimp only at hSw
        go_simp
        all_goals (with_reducible rfl)
      try simp only [Act.put, List.getElem_toArray, List.getElem_cons_succ, List.getElem_cons_zero, List.setIfInBounds_toArray, List.set_cons_zero, List.set_cons_succ]
      refine wpAnyH_take (i := 23) (v := ?_) rfl (by kernel_rfl) (by kernel_rfl) (by kernel_rfl) (fun _ _ _ h => h) (Or.inl ⟨by rfl, ?_⟩) (by assumption) ?_
      rotate_left
      · intro w hSw
        try dsimp only at hSw
        go_simp
        all_goals (with_reducible rfl)
      try simp only [Act.put, List.getElem_toArray, List.getElem_cons_succ, List.getElem_cons_zero, List.setIfInBounds_toArray, List.set_cons_zero, List.set_cons_succ]
      refine wpAnyH_take (i := 24) (v := ?_) rfl (by kernel_rfl) (by kernel_rfl) (by kernel_rfl) (fun _ _ _ h => h) (Or.inl ⟨by rfl, ?_⟩) (by assumption) ?_
      rotate_left
      · intro w hSw
        try dsimp only at hSw
        go_simp
        all_goals (with_reducible rfl)
      try simp only [Act.put, List.getElem_toArray, List.getElem_cons_succ, List.getElem_cons_zero, List.setIfInBounds_toArray, List.set_cons_zero, List.set_cons_succ]
      refine wpAnyH_done (by kernel_rfl) ?_ _
      go_wp2_with fail
      go_meet
      case rel => exact ⟨by first | rfl | simp, HE.out.below (bl_drew1 _)⟩
  case rest =>
  obtain ⟨rfl, S⟩ := hcut
  clear x0 x1 HX HE
  have HE := Lib.hid S
  clear S
  obtain ⟨x0, x1, HX⟩ := HE.out.num (g := gx) (m := xm) (ad := xad) (n := xn) (c := xc) (z := z) List.mem_cons_self
  go_upto_region 10 with (fail)
  obtain ⟨ib, hib, HIB2⟩ : ∃ ib, (er == 0) = ib ∧ Hid ((er == 0) = ib) := ⟨_, rfl, rfl⟩
  go_cut [17] (fun bv W => bv = .bool ib ∧ EnvN w [(gs, (⟨sm, s0, s1, s2, s3⟩ : Wd)), (gb, (⟨bm, b0, b1, b2, b3⟩ : Wd)), (gw, (⟨wm, w0, w1, w2, w3⟩ : Wd)), (ga, (⟨am, a0, a1, a2, a3⟩ : Wd))] [(gx, (⟨xm, xad, xn, xc, z⟩ : Nv))] W)
  case first =>
    have HM1 : Hid (-BIG < (9223372036854775807 : Int) ∧ (9223372036854775807 : Int) < BIG) := by have := m256_big2; unfold M256 at this; unfold Hid; omega
    have HM2 : Hid (-BIG < (-9223372036854775808 : Int) ∧ (-9223372036854775808 : Int) < BIG) := by have := m256_big2; unfold M256 at this; unfold Hid; omega
    obtain ⟨r1, er1, HR1⟩ : ∃ r, sgZ (z - 9223372036854775807) = r ∧ Hid (sgZ (z - 9223372036854775807) = r) := ⟨_, rfl, rfl⟩
    obtain ⟨r2, er2, HR2⟩ : ∃ r, sgZ (z - (-9223372036854775808)) = r ∧ Hid (sgZ (z - (-9223372036854775808)) = r) := ⟨_, rfl, rfl⟩
    clear er1 er2
    have hres : Hid (ib = (decide (r1 ≤ 0) && decide (0 ≤ r2))) := by
      unfold Hid
      have h1 : r1 ≤ 0 ↔ z ≤ 9223372036854775807 := by
        rw [← HR1.out]; unfold sgZ; split
        · omega
        · split <;> omega
      have h2 : 0 ≤ r2 ↔ -9223372036854775808 ≤ z := by
        rw [← HR2.out]; unfold sgZ; split
        · omega
        · split <;> omega
      rw [← hib, Bool.eq_iff_iff]
      simp only [decide_eq_true_eq, Bool.and_eq_true, beq_iff_eq]
      rw [h1, h2]
      rcases Ki.out with ⟨h3, -, h4, h5⟩ | ⟨h3, -, h4⟩ <;> omega
    by_cases hr1 : r1 ≤ 0
    · skip
      refine wp_region_held_drew (S := fun w' => w'.cell? ⟨gx, 0, none⟩ = some (.bool xm) ∧ w'.cell? ⟨gx, 1, none⟩ = some (.slice xad xn xc)) (by kernel_rfl) ?_ (fun hHeld => ?_)
      · exact ⟨x0, x1⟩
      refine wpAnyH_take (i := 0) (v := ?_) rfl (by kernel_rfl) (by kernel_rfl) (by kernel_rfl) (fun _ _ _ h => h) (Or.inl ⟨by rfl, ?_⟩) (by assumption) ?_
      rotate_left
      · intro w hSw
        try dsimp only at hSw
        go_simp
        all_goals (with_reducible rfl)
      try simp only [Act.put, List.getElem_toArray, List.getElem_cons_zero, List.setIfInBounds_toArray, List.set_cons_zero, List.set_cons_succ]
      refine wpAnyH_ready (rs := [1]) (by kernel_rfl) (by simp) ?_
      refine AllReadyH.cons rfl (fun K hK => ?_) AllReadyH.nil
      rw [if_pos (by rfl)]
      go_simp
      go_at_call 14
      (with_reducible refine (small_num 9223372036854775807 (by omega) (by omega) _).mono ?_); rintro e w1 ⟨v1, rfl, hN1, hb1⟩
      have HN1 := Lib.hid hN1
      clear hN1
      have HE1 := Lib.hid (HE.out.below (bl_trans (bl_drew1 _) hb1))
      obtain ⟨y1, z1, HX1⟩ := HE1.out.num (g := gx) (m := xm) (ad := xad) (n := xn) (c := xc) (z := z) List.mem_cons_self
      go_wp2_with fail
      refine hK.out _ _ ?_ (fun hHeld2 => ?_)
      · exact ⟨y1, z1⟩
      clear hK K hHeld
      have hHeld := hHeld2
      clear hHeld2
      try simp only [Act.put, List.getElem_toArray, List.getElem_cons_succ, List.getElem_cons_zero, List.setIfInBounds_toArray, List.set_cons_zero, List.set_cons_succ]
      refine wpAnyH_ready (rs := [2]) (by kernel_rfl) (by simp) ?_
      refine AllReadyH.cons rfl (fun K hK => ?_) AllReadyH.nil
      rw [if_pos (by rfl)]
      go_simp
      go_at_call 18
      (with_reducible refine (cmp_is _ v1 z 9223372036854775807 r1 w1 HX1.out HN1.out HBB.out HM1.out HR1.out).mono ?_); rintro e w2 ⟨rfl, hb2⟩
      have HE2 := Lib.hid (HE1.out.below hb2)
      obtain ⟨y2, z2, HX2⟩ := HE2.out.num (g := gx) (m := xm) (ad := xad) (n := xn) (c := xc) (z := z) List.mem_cons_self
      go_wp2_with fail
      refine hK.out _ _ ?_ (fun hHeld2 => ?_)
      · exact ⟨y2, z2⟩
      clear hK K hHeld
      have hHeld := hHeld2
      clear hHeld2
      try simp only [Act.put, List.getElem_toArray, List.getElem_cons_succ, List.getElem_cons_zero, List.setIfInBounds_toArray, List.set_cons_zero, List.set_cons_succ]
      refine wpAnyH_take (i := 3) (v := ?_) rfl (by kernel_rfl) (by kernel_rfl) (by kernel_rfl) (fun _ _ _ h => h) (Or.inl ⟨by rfl, ?_⟩) (by assumption) ?_
      rotate_left
      · intro w hSw
        try dsimp only at hSw
        go_simp
        all_goals (with_reducible rfl)
      try simp only [Act.put, List.getElem_toArray, List.getElem_cons_succ, List.getElem_cons_zero, List.setIfInBounds_toArray, List.set_cons_zero, List.set_cons_succ]
      refine wpAnyH_take (i := 4) (v := ?_) rfl (by kernel_rfl) (by kernel_rfl) (by kernel_rfl) (fun _ _ _ h => h) (Or.inl ⟨by rfl, ?_⟩) (by assumption) ?_
      rotate_left
      · intro w hSw
        try dsimp only at hSw
        go_simp
        all_goals (with_reducible rfl)
      try simp only [Act.put, List.getElem_toArray, List.getElem_cons_succ, List.getElem_cons_zero, List.setIfInBounds_toArray, List.set_cons_zero, List.set_cons_succ]
      refine wpAnyH_take (i := 5) (v := ?_) rfl (by kernel_rfl) (by kernel_rfl) (by kernel_rfl) (fun _ _ _ h => h) (Or.inl ⟨by rfl, ?_⟩) (by assumption) ?_
      rotate_left
      · intro w hSw
        try dsimp only at hSw
        go_simp
        all_goals (with_reducible rfl)
      try simp only [Act.put, List.getElem_toArray, List.getElem_cons_succ, List.getElem_cons_zero, List.setIfInBounds_toArray, List.set_cons_zero, List.set_cons_succ]
      refine wpAnyH_ready (rs := [6]) (by kernel_rfl) (by simp) ?_
      refine AllReadyH.cons rfl (fun K hK => ?_) AllReadyH.nil
      rw [if_pos (by rfl)]
      go_simp
      go_at_call 14
      (with_reducible refine (small_num (-9223372036854775808) (by omega) (by omega) _).mono ?_); rintro e w3 ⟨v3, rfl, hN3, hb3⟩
      have HN3 := Lib.hid hN3
      clear hN3
      have HE3 := Lib.hid (HE2.out.below hb3)
      obtain ⟨y3, z3, HX3⟩ := HE3.out.num (g := gx) (m := xm) (ad := xad) (n := xn) (c := xc) (z := z) List.mem_cons_self
      go_wp2_with fail
      refine hK.out _ _ ?_ (fun hHeld2 => ?_)
      · exact ⟨y3, z3⟩
      clear hK K hHeld
      have hHeld := hHeld2
      clear hHeld2
      try simp only [Act.put, List.getElem_toArray, List.getElem_cons_succ, List.getElem_cons_zero, List.setIfInBounds_toArray, List.set_cons_zero, List.set_cons_succ]
      refine wpAnyH_ready (rs := [7]) (by kernel_rfl) (by simp) ?_
      refine AllReadyH.cons rfl (fun K hK => ?_) AllReadyH.nil
      rw [if_pos (by rfl)]
      go_simp
      go_at_call 18
      (with_reducible refine (cmp_is _ v3 z (-9223372036854775808) r2 w3 HX3.out HN3.out HBB.out HM2.out HR2.out).mono ?_); rintro e w4 ⟨rfl, hb4⟩
      have HE4 := Lib.hid (HE3.out.below hb4)
      obtain ⟨y4, z4, HX4⟩ := HE4.out.num (g := gx) (m := xm) (ad := xad) (n := xn) (c := xc) (z := z) List.mem_cons_self
      go_wp2_with fail
      refine hK.out _ _ ?_ (fun hHeld2 => ?_)
      · exact ⟨y4, z4⟩
      clear hK K hHeld
      have hHeld := hHeld2
      clear hHeld2
      try simp only [Act.put, List.getElem_toArray, List.getElem_cons_succ, List.getElem_cons_zero, List.setIfInBounds_toArray, List.set_cons_zero, List.set_cons_succ]
      refine wpAnyH_take (i := 8) (v := ?_) rfl (by kernel_rfl) (by kernel_rfl) (by kernel_rfl) (fun _ _ _ h => h) (Or.inl ⟨by rfl, ?_⟩) (by assumption) ?_
      rotate_left
      · intro w hSw
        try dsimp only at hSw
        go_simp
        all_goals (with_reducible rfl)
      try simp only [Act.put, List.getElem_toArray, List.getElem_cons_succ, List.getElem_cons_zero, List.setIfInBounds_toArray, List.set_cons_zero, List.set_cons_succ]
      refine wpAnyH_take (i := 9) (v := ?_) rfl (by kernel_rfl) (by kernel_rfl) (by kernel_rfl) (fun _ _ _ h => h) (Or.inl ⟨by rfl, ?_⟩) (by assumption) ?_
      rotate_left
      · intro w hSw
        try dsimp only at hSw
        go_simp
        all_goals (with_reducible rfl)
      try simp only [Act.put, List.getElem_toArray, List.getElem_cons_succ, List.getElem_cons_zero, List.setIfInBounds_toArray, List.set_cons_zero, List.set_cons_succ]
      refine wpAnyH_take (i := 10) (v := ?_) rfl (by kernel_rfl) (by kernel_rfl) (by kernel_rfl) (fun _ _ _ h => h) (Or.inl ⟨by rfl, ?_⟩) (by assumption) ?_
      rotate_left
      · intro w hSw
        try dsimp only at hSw
        go_simp
        all_goals (with_reducible rfl)
      try simp only [Act.put, List.getElem_toArray, List.getElem_cons_succ, List.getElem_cons_zero, List.setIfInBounds_toArray, List.set_cons_zero, List.set_cons_succ]
      refine wpAnyH_done (by kernel_rfl) ?_ _
      go_wp2_with fail
      go_meet
      case rel =>
        refine ⟨?_, HE4.out⟩
        rw [hres.out]
        first | rfl | (congr 1; simp [hr1]) | simp [hr1]
    · have hr2 : decide (r1 ≤ 0) = false := by simp; omega
      refine wp_region_held_drew (S := fun w' => w'.cell? ⟨gx, 0, none⟩ = some (.bool xm) ∧ w'.cell? ⟨gx, 1, none⟩ = some (.slice xad xn xc)) (by kernel_rfl) ?_ (fun hHeld => ?_)
      · exact ⟨x0, x1⟩
      refine wpAnyH_take (i := 0) (v := ?_) rfl (by kernel_rfl) (by kernel_rfl) (by kernel_rfl) (fun _ _ _ h => h) (Or.inl ⟨by rfl, ?_⟩) (by assumption) ?_
      rotate_left
      · intro w hSw
        try dsimp only at hSw
        go_simp
        all_goals (with_reducible rfl)
      try simp only [Act.put, List.getElem_toArray, List.getElem_cons_zero, List.setIfInBounds_toArray, List.set_cons_zero, List.set_cons_succ]
      refine wpAnyH_ready (rs := [1]) (by kernel_rfl) (by simp) ?_
      refine AllReadyH.cons rfl (fun K hK => ?_) AllReadyH.nil
      rw [if_pos (by rfl)]
      go_simp
      go_at_call 14
      (with_reducible refine (small_num 9223372036854775807 (by omega) (by omega) _).mono ?_); rintro e w1 ⟨v1, rfl, hN1, hb1⟩
      have HN1 := Lib.hid hN1
      clear hN1
      have HE1 := Lib.hid (HE.out.below (bl_trans (bl_drew1 _) hb1))
      obtain ⟨y1, z1, HX1⟩ := HE1.out.num (g := gx) (m := xm) (ad := xad) (n := xn) (c := xc) (z := z) List.mem_cons_self
      go_wp2_with fail
      refine hK.out _ _ ?_ (fun hHeld2 => ?_)
      · exact ⟨y1, z1⟩
      clear hK K hHeld
      have hHeld := hHeld2
      clear hHeld2
      try simp only [Act.put, List.getElem_toArray, List.getElem_cons_succ, List.getElem_cons_zero, List.setIfInBounds_toArray, List.set_cons_zero, List.set_cons_succ]
      refine wpAnyH_ready (rs := [2]) (by kernel_rfl) (by simp) ?_
      refine AllReadyH.cons rfl (fun K hK => ?_) AllReadyH.nil
      rw [if_pos (by rfl)]
      go_simp
      go_at_call 18
      (with_reducible refine (cmp_is _ v1 z 9223372036854775807 r1 w1 HX1.out HN1.out HBB.out HM1.out HR1.out).mono ?_); rintro e w2 ⟨rfl, hb2⟩
      have HE2 := Lib.hid (HE1.out.below hb2)
      obtain ⟨y2, z2, HX2⟩ := HE2.out.num (g := gx) (m := xm) (ad := xad) (n := xn) (c := xc) (z := z) List.mem_cons_self
      go_wp2_with fail
      refine hK.out _ _ ?_ (fun hHeld2 => ?_)
      · exact ⟨y2, z2⟩
      clear hK K hHeld
      have hHeld := hHeld2
      clear hHeld2
      try simp only [Act.put, List.getElem_toArray, List.getElem_cons_succ, List.getElem_cons_zero, List.setIfInBounds_toArray, List.set_cons_zero, List.set_cons_succ]
      refine wpAnyH_take (i := 3) (v := ?_) rfl (by kernel_rfl) (by kernel_rfl) (by kernel_rfl) (fun _ _ _ h => h) (Or.inl ⟨by rfl, ?_⟩) (by assumption) ?_
      rotate_left
      · intro w hSw
        try dsimp only at hSw
        go_simp
        all_goals (with_reducible rfl)
      try simp only [Act.put, List.getElem_toArray, List.getElem_cons_succ, List.getElem_cons_zero, List.setIfInBounds_toArray, List.set_cons_zero, List.set_cons_succ]
      refine wpAnyH_take (i := 4) (v := ?_) rfl (by kernel_rfl) (by kernel_rfl) (by kernel_rfl) (fun _ _ _ h => h) (Or.inl ⟨by rfl, ?_⟩) (by assumption) ?_
      rotate_left
      · intro w hSw
        try dsimp only at hSw
        go_simp
        all_goals (with_reducible rfl)
      try simp only [Act.put, List.getElem_toArray, List.getElem_cons_succ, List.getElem_cons_zero, List.setIfInBounds_toArray, List.set_cons_zero, List.set_cons_succ]
      refine wpAnyH_take (i := 5) (v := _) rfl (by kernel_rfl) (by kernel_rfl) (by kernel_rfl) (fun _ _ _ h => h) (Or.inr ⟨by rfl, rfl⟩) (by assumption) ?_
      try simp only [Act.put, List.getElem_toArray, List.getElem_cons_succ, List.getElem_cons_zero, List.setIfInBounds_toArray, List.set_cons_zero, List.set_cons_succ]
      refine wpAnyH_take (i := 6) (v := _) rfl (by kernel_rfl) (by kernel_rfl) (by kernel_rfl) (fun _ _ _ h => h) (Or.inr ⟨by rfl, rfl⟩) (by assumption) ?_
      try simp only [Act.put, List.getElem_toArray, List.getElem_cons_succ, List.getElem_cons_zero, List.setIfInBounds_toArray, List.set_cons_zero, List.set_cons_succ]
      refine wpAnyH_take (i := 7) (v := _) rfl (by kernel_rfl) (by kernel_rfl) (by kernel_rfl) (fun _ _ _ h => h) (Or.inr ⟨by rfl, rfl⟩) (by assumption) ?_
      try simp only [Act.put, List.getElem_toArray, List.getElem_cons_succ, List.getElem_cons_zero, List.setIfInBounds_toArray, List.set_cons_zero, List.set_cons_succ]
      refine wpAnyH_take (i := 8) (v := _) rfl (by kernel_rfl) (by kernel_rfl) (by kernel_rfl) (fun _ _ _ h => h) (Or.inr ⟨by rfl, rfl⟩) (by assumption) ?_
      try simp only [Act.put, List.getElem_toArray, List.getElem_cons_succ, List.getElem_cons_zero, List.setIfInBounds_toArray, List.set_cons_zero, List.set_cons_succ]
      refine wpAnyH_take (i := 9) (v := ?_) rfl (by kernel_rfl) (by kernel_rfl) (by kernel_rfl) (fun _ _ _ h => h) (Or.inl ⟨by rfl, ?_⟩) (by assumption) ?_
      rotate_left
      · intro w hSw
        try dsimp only at hSw
        go_simp
        all_goals (with_reducible rfl)
      try simp only [Act.put, List.getElem_toArray, List.getElem_cons_succ, List.getElem_cons_zero, List.setIfInBounds_toArray, List.set_cons_zero, List.set_cons_succ]
      refine wpAnyH_take (i := 10) (v := ?_) rfl (by kernel_rfl) (by kernel_rfl) (by kernel_rfl) (fun _ _ _ h => h) (Or.inl ⟨by rfl, ?_⟩) (by assumption) ?_
      rotate_left
      · intro w hSw
        try dsimp only at hSw
        go_simp
        all_goals (with_reducible rfl)
      try simp only [Act.put, List.getElem_toArray, List.getElem_cons_succ, List.getElem_cons_zero, List.setIfInBounds_toArray, List.set_cons_zero, List.set_cons_succ]
      refine wpAnyH_done (by kernel_rfl) ?_ _
      go_wp2_with fail
      go_meet
      case rel =>
        refine ⟨?_, HE2.out⟩
        rw [hres.out, hr2]
        rfl
  case rest =>
  obtain ⟨rfl, S⟩ := hcut
  clear x0 x1 HX HE
  obtain ⟨mN, KN⟩ : ∃ mN, Hid (NormIs (-z) mN a0 a1 a2 a3) := by
    have h := norm_of (m := !am) (a := a0) (b := a1) (c := a2) (d := a3) rfl
    refine ⟨_, ?_, h.2⟩
    rw [h.1, HZ.out, wv_eq]
    cases am <;> simp
  obtain ⟨rfl, rfl, rfl, rfl, rfl⟩ := normIs_same HA.out Iw.out KN.out Kw.out
  obtain ⟨mB, KB⟩ : ∃ mB, Hid (NormIs z mB a0 a1 a2 a3) := by
    have h := norm_of (m := am) (a := a0) (b := a1) (c := a2) (d := a3) rfl
    refine ⟨_, ?_, h.2⟩
    rw [h.1, HZ.out, wv_eq]
  obtain ⟨rfl, rfl, rfl, rfl, rfl⟩ := normIs_same HA.out Ib.out KB.out Kb.out
  obtain ⟨m0, v0, I0, K0⟩ : ∃ m0 v0, Hid (In4 v0 0 0 0) ∧ Hid (NormIs n m0 v0 0 0 0) := by
    have hn := HN.out
    rcases Int.lt_or_le n 0 with h | h
    · refine ⟨true, -n, by unfold Hid In4 In1; omega, ?_⟩
      unfold Hid NormIs WV Norm
      rw [v4_small]
      simp; omega
    · refine ⟨false, n, by unfold Hid In4 In1; omega, ?_⟩
      unfold Hid NormIs WV Norm
      rw [v4_small]
      simp
  obtain ⟨rfl, rfl, rfl, rfl, rfl⟩ := normIs_same I0.out Is.out K0.out Ks.out
  clear Iw Kw Ib Kb Is Ks Ki Kf
  have HE := Lib.hid S
  clear S
  obtain ⟨c0, c1, c2, c3, c4⟩ := HE.out.e.cells (g := ga) (m := am) (a := a0) (b := a1) (c := a2) (d := a3) (List.mem_cons_of_mem _ (List.mem_cons_of_mem _ (List.mem_cons_of_mem _ List.mem_cons_self)))
  go_upto_region 11 with (fail)
  go_cut [18] (fun pv W => ∃ gn, pv = .pointer (some ⟨gn, 0, none⟩) ∧ EnvN w [(gn, (⟨mB, a0, a1, a2, a3⟩ : Wd)), (gs, (⟨m0, v0, 0, 0, 0⟩ : Wd)), (gb, (⟨mB, a0, a1, a2, a3⟩ : Wd)), (gw, (⟨mN, a0, a1, a2, a3⟩ : Wd)), (ga, (⟨am, a0, a1, a2, a3⟩ : Wd))] [(gx, (⟨xm, xad, xn, xc, z⟩ : Nv))] W)
  case first =>
    go_wp2_with (first
      | (go_at_call 19; (with_reducible refine (neg_norm am a0 a1 a2 a3 HA.out _).mono ?_); rintro e w1 ⟨m1, hk, rfl, hb1⟩
         have HE1 := Lib.hid (HE.out.below hb1))
      | (go_at_call 19; (with_reducible refine (neg_norm m1 a0 a1 a2 a3 HA.out _).mono ?_); rintro e w2 ⟨m2, hk2, rfl, hb2⟩
         have HE2 := Lib.hid (HE1.out.below hb2)
         have hz2 : NormIs z m2 a0 a1 a2 a3 := by
           have h1 := hk.out.1
           have h2 := hk2.out
           rw [h1, ← HZ.out, Int.neg_neg] at h2
           exact h2
         obtain ⟨rfl, -⟩ := normIs_same HA.out HA.out KB.out hz2)
      | go_in)
    go_meet
    case rel => exact ⟨_, rfl, HE2.out.newW _ (by first | rfl | simp) _ _ _ _ _ _⟩
  case rest =>
  obtain ⟨gn, rfl, S⟩ := hcut
  clear c0 c1 c2 c3 c4 HE
  have HE := Lib.hid S
  clear S
  obtain ⟨sg0, hsg⟩ : ∃ s, sgZ z = s := ⟨_, rfl⟩
  have HSG := Lib.hid hsg
  clear hsg
  obtain ⟨st, hst⟩ : ∃ st, st = strOfNums (textZ z) := ⟨_, rfl⟩
  have HST := Lib.hid hst
  clear hst
  have HTZ : Hid (strOfNums (textOf am (V4 a0 a1 a2 a3).toNat) = st) := by
    unfold Hid
    rw [HST.out, textOf_Z am _ (v4_bounds HA.out).1 (v4_bounds HA.out).2, HZ.out]
    rfl
  have q1 := eqKnown mN a0 a1 a2 a3
  have q2 := eqKnown mB a0 a1 a2 a3
  have q3 := eqKnown m0 v0 0 0 0
  have hib : (er == 0) = ib := HIB2.out
  have ones_S : ∀ W : World, EnvN w [(gn, (⟨mB, a0, a1, a2, a3⟩ : Wd)), (gs, (⟨m0, v0, 0, 0, 0⟩ : Wd)), (gb, (⟨mB, a0, a1, a2, a3⟩ : Wd)), (gw, (⟨mN, a0, a1, a2, a3⟩ : Wd)), (ga, (⟨am, a0, a1, a2, a3⟩ : Wd))] [(gx, (⟨xm, xad, xn, xc, z⟩ : Nv))] W → (W.cell? ⟨ga, 0, none⟩ = some (.bool am) ∧ W.cell? ⟨ga, 1, none⟩ = some (.int .u64 a0) ∧ W.cell? ⟨ga, 2, none⟩ = some (.int .u64 a1) ∧ W.cell? ⟨ga, 3, none⟩ = some (.int .u64 a2) ∧ W.cell? ⟨ga, 4, none⟩ = some (.int .u64 a3)) ∧ (W.cell? ⟨gw, 0, none⟩ = some (.bool mN) ∧ W.cell? ⟨gw, 1, none⟩ = some (.int .u64 a0) ∧ W.cell? ⟨gw, 2, none⟩ = some (.int .u64 a1) ∧ W.cell? ⟨gw, 3, none⟩ = some (.int .u64 a2) ∧ W.cell? ⟨gw, 4, none⟩ = some (.int .u64 a3)) ∧ (W.cell? ⟨gn, 0, none⟩ = some (.bool mB) ∧ W.cell? ⟨gn, 1, none⟩ = some (.int .u64 a0) ∧ W.cell? ⟨gn, 2, none⟩ = some (.int .u64 a1) ∧ W.cell? ⟨gn, 3, none⟩ = some (.int .u64 a2) ∧ W.cell? ⟨gn, 4, none⟩ = some (.int .u64 a3)) ∧ (W.cell? ⟨gb, 0, none⟩ = some (.bool mB) ∧ W.cell? ⟨gb, 1, none⟩ = some (.int .u64 a0) ∧ W.cell? ⟨gb, 2, none⟩ = some (.int .u64 a1) ∧ W.cell? ⟨gb, 3, none⟩ = some (.int .u64 a2) ∧ W.cell? ⟨gb, 4, none⟩ = some (.int .u64 a3)) ∧ (W.cell? ⟨gx, 0, none⟩ = some (.bool xm) ∧ W.cell? ⟨gx, 1, none⟩ = some (.slice xad xn xc)) ∧ W.cell? ⟨gs, 0, none⟩ = some (.bool m0) ∧ W.cell? ⟨gs, 1, none⟩ = some (.int .u64 v0) ∧ W.cell? ⟨gs, 2, none⟩ = some (.int .u64 0) ∧ W.cell? ⟨gs, 3, none⟩ = some (.int .u64 0) ∧ W.cell? ⟨gs, 4, none⟩ = some (.int .u64 0) := by
    intro W h
    obtain ⟨p0, p1, p2, p3, p4⟩ := h.e.cells (g := ga) (m := am) (a := a0) (b := a1) (c := a2) (d := a3) (List.mem_cons_of_mem _ (List.mem_cons_of_mem _ (List.mem_cons_of_mem _ (List.mem_cons_of_mem _ List.mem_cons_self))))
    obtain ⟨r0, r1, r2, r3, r4⟩ := h.e.cells (g := gw) (m := mN) (a := a0) (b := a1) (c := a2) (d := a3) (List.mem_cons_of_mem _ (List.mem_cons_of_mem _ (List.mem_cons_of_mem _ List.mem_cons_self)))
    obtain ⟨t0, t1, t2, t3, t4⟩ := h.e.cells (g := gn) (m := mB) (a := a0) (b := a1) (c := a2) (d := a3) List.mem_cons_self
    obtain ⟨y0, y1, y2, y3, y4⟩ := h.e.cells (g := gb) (m := mB) (a := a0) (b := a1) (c := a2) (d := a3) (List.mem_cons_of_mem _ (List.mem_cons_of_mem _ List.mem_cons_self))
    obtain ⟨x0, x1, -⟩ := h.num (g := gx) (m := xm) (ad := xad) (n := xn) (c := xc) (z := z) List.mem_cons_self
    obtain ⟨k0, k1, k2, k3, k4⟩ := h.e.cells (g := gs) (m := m0) (a := v0) (b := 0) (c := 0) (d := 0) (List.mem_cons_of_mem _ List.mem_cons_self)
    exact ⟨⟨p0, p1, p2, p3, p4⟩, ⟨r0, r1, r2, r3, r4⟩, ⟨t0, t1, t2, t3, t4⟩, ⟨y0, y1, y2, y3, y4⟩, ⟨x0, x1⟩, k0, k1, k2, k3, k4⟩
  have ONES := Lib.hid ones_S
  clear ones_S
  go_upto_region 12 with (fail)
  refine wp_region_held_drew (S := fun w' => (w'.cell? ⟨ga, 0, none⟩ = some (.bool am) ∧ w'.cell? ⟨ga, 1, none⟩ = some (.int .u64 a0) ∧ w'.cell? ⟨ga, 2, none⟩ = some (.int .u64 a1) ∧ w'.cell? ⟨ga, 3, none⟩ = some (.int .u64 a2) ∧ w'.cell? ⟨ga, 4, none⟩ = some (.int .u64 a3)) ∧ (w'.cell? ⟨gw, 0, none⟩ = some (.bool mN) ∧ w'.cell? ⟨gw, 1, none⟩ = some (.int .u64 a0) ∧ w'.cell? ⟨gw, 2, none⟩ = some (.int .u64 a1) ∧ w'.cell? ⟨gw, 3, none⟩ = some (.int .u64 a2) ∧ w'.cell? ⟨gw, 4, none⟩ = some (.int .u64 a3)) ∧ (w'.cell? ⟨gn, 0, none⟩ = some (.bool mB) ∧ w'.cell? ⟨gn, 1, none⟩ = some (.int .u64 a0) ∧ w'.cell? ⟨gn, 2, none⟩ = some (.int .u64 a1) ∧ w'.cell? ⟨gn, 3, none⟩ = some (.int .u64 a2) ∧ w'.cell? ⟨gn, 4, none⟩ = some (.int .u64 a3)) ∧ (w'.cell? ⟨gb, 0, none⟩ = some (.bool mB) ∧ w'.cell? ⟨gb, 1, none⟩ = some (.int .u64 a0) ∧ w'.cell? ⟨gb, 2, none⟩ = some (.int .u64 a1) ∧ w'.cell? ⟨gb, 3, none⟩ = some (.int .u64 a2) ∧ w'.cell? ⟨gb, 4, none⟩ = some (.int .u64 a3)) ∧ (w'.cell? ⟨gx, 0, none⟩ = some (.bool xm) ∧ w'.cell? ⟨gx, 1, none⟩ = some (.slice xad xn xc)) ∧ w'.cell? ⟨gs, 0, none⟩ = some (.bool m0) ∧ w'.cell? ⟨gs, 1, none⟩ = some (.int .u64 v0) ∧ w'.cell? ⟨gs, 2, none⟩ = some (.int .u64 0) ∧ w'.cell? ⟨gs, 3, none⟩ = some (.int .u64 0) ∧ w'.cell? ⟨gs, 4, none⟩ = some (.int .u64 0)) (by kernel_rfl) ?_ (fun hHeld => ?_)
  · exact ONES.out _ (HE.out.below (bl_drew1 _))
  refine wpAnyH_take (i := 0) (v := ?_) rfl (by kernel_rfl) (by kernel_rfl) (by kernel_rfl) (fun _ _ _ h => h) (Or.inl ⟨by rfl, ?_⟩) (by assumption) ?_
  rotate_left
  · intro w hSw
    try dsimp only at hSw
    go_simp
    all_goals (with_reducible rfl)
  try simp only [Act.put, List.getElem_toArray, List.getElem_cons_zero, List.setIfInBounds_toArray, List.set_cons_zero, List.set_cons_succ]
  refine wpAnyH_take (i := 2) (v := ?_) rfl (by kernel_rfl) (by kernel_rfl) (by kernel_rfl) (fun _ _ _ h => h) (Or.inl ⟨by rfl, ?_⟩) (by assumption) ?_
  rotate_left
  · intro w hSw
    try dsimp only at hSw
    go_simp
    all_goals (with_reducible rfl)
  try simp only [Act.put, List.getElem_toArray, List.getElem_cons_succ, List.getElem_cons_zero, List.setIfInBounds_toArray, List.set_cons_zero, List.set_cons_succ]
  refine wpAnyH_ready (rs := [1]) (by kernel_rfl) (by simp) ?_
  refine AllReadyH.cons rfl (fun K hK => ?_) AllReadyH.nil
  rw [if_pos (by rfl)]
  go_simp
  go_at_call 19
  (with_reducible refine (neg_norm am a0 a1 a2 a3 HA.out _).mono ?_); rintro e w1 ⟨m', hk, rfl, hb1⟩
  rw [← HZ.out] at hk
  obtain ⟨rfl, -⟩ := normIs_same HA.out HA.out KN.out hk.out
  have HE1 := Lib.hid (HE.out.below (bl_trans (bl_drew1 _) hb1))
  have HX1 := (HE1.out.num (g := gx) (m := xm) (ad := xad) (n := xn) (c := xc) (z := z) List.mem_cons_self).2.2
  go_wp2_with fail
  refine hK.out _ _ ?_ (fun hHeld2 => ?_)
  · exact ONES.out _ HE1.out
  clear hK K hHeld
  have hHeld := hHeld2
  clear hHeld2
  try simp only [Act.put, List.getElem_toArray, List.getElem_cons_succ, List.getElem_cons_zero, List.setIfInBounds_toArray, List.set_cons_zero, List.set_cons_succ]
  refine wpAnyH_take (i := 3) (v := ?_) rfl (by kernel_rfl) (by kernel_rfl) (by kernel_rfl) (fun _ _ _ h => h) (Or.inl ⟨by rfl, ?_⟩) (by assumption) ?_
  rotate_left
  · intro w hSw
    try dsimp only at hSw
    go_simp
    all_goals (with_reducible rfl)
  try simp only [Act.put, List.getElem_toArray, List.getElem_cons_succ, List.getElem_cons_zero, List.setIfInBounds_toArray, List.set_cons_zero, List.set_cons_succ]
  refine wpAnyH_take (i := 4) (v := ?_) rfl (by kernel_rfl) (by kernel_rfl) (by kernel_rfl) (fun _ _ _ h => h) (Or.inl ⟨by rfl, ?_⟩) (by assumption) ?_
  rotate_left
  · intro w hSw
    try dsimp only at hSw
    go_simp
    all_goals (with_reducible rfl)
  try simp only [Act.put, List.getElem_toArray, List.getElem_cons_succ, List.getElem_cons_zero, List.setIfInBounds_toArray, List.set_cons_zero, List.set_cons_succ]
  refine wpAnyH_take (i := 5) (v := ?_) rfl (by kernel_rfl) (by kernel_rfl) (by kernel_rfl) (fun _ _ _ h => h) (Or.inl ⟨by rfl, ?_⟩) (by assumption) ?_
  rotate_left
  · intro w hSw
    try dsimp only at hSw
    go_simp
    all_goals (with_reducible rfl)
  try simp only [Act.put, List.getElem_toArray, List.getElem_cons_succ, List.getElem_cons_zero, List.setIfInBounds_toArray, List.set_cons_zero, List.set_cons_succ]
  refine wpAnyH_take (i := 6) (v := ?_) rfl (by kernel_rfl) (by kernel_rfl) (by kernel_rfl) (fun _ _ _ h => h) (Or.inl ⟨by rfl, ?_⟩) (by assumption) ?_
  rotate_left
  · intro w hSw
    try dsimp only at hSw
    go_simp
    all_goals (with_reducible rfl)
  try simp only [Act.put, List.getElem_toArray, List.getElem_cons_succ, List.getElem_cons_zero, List.setIfInBounds_toArray, List.set_cons_zero, List.set_cons_succ]
  refine wpAnyH_take (i := 7) (v := ?_) rfl (by kernel_rfl) (by kernel_rfl) (by kernel_rfl) (fun _ _ _ h => h) (Or.inl ⟨by rfl, ?_⟩) (by assumption) ?_
  rotate_left
  · intro w hSw
    try dsimp only at hSw
    go_simp
    all_goals (with_reducible rfl)
  try simp only [Act.put, List.getElem_toArray, List.getElem_cons_succ, List.getElem_cons_zero, List.setIfInBounds_toArray, List.set_cons_zero, List.set_cons_succ]
  refine wpAnyH_take (i := 8) (v := ?_) rfl (by kernel_rfl) (by kernel_rfl) (by kernel_rfl) (fun _ _ _ h => h) (Or.inl ⟨by rfl, ?_⟩) (by assumption) ?_
  rotate_left
  · intro w hSw
    try dsimp only at hSw
    go_simp
    all_goals (with_reducible rfl)
  try simp only [Act.put, List.getElem_toArray, List.getElem_cons_succ, List.getElem_cons_zero, List.setIfInBounds_toArray, List.set_cons_zero, List.set_cons_succ]
  refine wpAnyH_take (i := 9) (v := ?_) rfl (by kernel_rfl) (by kernel_rfl) (by kernel_rfl) (fun _ _ _ h => h) (Or.inl ⟨by rfl, ?_⟩) (by assumption) ?_
  rotate_left
  · intro w hSw
    try dsimp only at hSw
    go_simp
    all_goals (with_reducible rfl)
  try simp only [Act.put, List.getElem_toArray, List.getElem_cons_succ, List.getElem_cons_zero, List.setIfInBounds_toArray, List.set_cons_zero, List.set_cons_succ]
  refine wpAnyH_take (i := 10) (v := ?_) rfl (by kernel_rfl) (by kernel_rfl) (by kernel_rfl) (fun _ _ _ h => h) (Or.inl ⟨by rfl, ?_⟩) (by assumption) ?_
  rotate_left
  · intro w hSw
    try dsimp only at hSw
    go_simp
    all_goals (with_reducible rfl)
  try simp only [Act.put, List.getElem_toArray, List.getElem_cons_succ, List.getElem_cons_zero, List.setIfInBounds_toArray, List.set_cons_zero, List.set_cons_succ]
  refine wpAnyH_take (i := 12) (v := ?_) rfl (by kernel_rfl) (by kernel_rfl) (by kernel_rfl) (fun _ _ _ h => h) (Or.inl ⟨by rfl, ?_⟩) (by assumption) ?_
  rotate_left
  · intro w hSw
    try dsimp only at hSw
    go_simp
    all_goals (with_reducible rfl)
  try simp only [Act.put, List.getElem_toArray, List.getElem_cons_succ, List.getElem_cons_zero, List.setIfInBounds_toArray, List.set_cons_zero, List.set_cons_succ]
  refine wpAnyH_ready (rs := [11]) (by kernel_rfl) (by simp) ?_
  refine AllReadyH.cons rfl (fun K hK => ?_) AllReadyH.nil
  rw [if_pos (by rfl)]
  go_simp
  go_at_call 20
  (with_reducible refine (sign_c am a0 a1 a2 a3 HA.out _).mono ?_); rintro e w2 ⟨rfl, hb2⟩
  rw [sgn_sgZ am a0 a1 a2 a3 HA.out, ← HZ.out, HSG.out]
  have HE2 := Lib.hid (HE1.out.below hb2)
  have HX2 := (HE2.out.num (g := gx) (m := xm) (ad := xad) (n := xn) (c := xc) (z := z) List.mem_cons_self).2.2
  go_wp2_with fail
  refine hK.out _ _ ?_ (fun hHeld2 => ?_)
  · exact ONES.out _ HE2.out
  clear hK K hHeld
  have hHeld := hHeld2
  clear hHeld2
  try simp only [Act.put, List.getElem_toArray, List.getElem_cons_succ, List.getElem_cons_zero, List.setIfInBounds_toArray, List.set_cons_zero, List.set_cons_succ]
  refine wpAnyH_ready (rs := [13]) (by kernel_rfl) (by simp) ?_
  refine AllReadyH.cons rfl (fun K hK => ?_) AllReadyH.nil
  rw [if_pos (by rfl)]
  go_simp
  go_at_call 17
  (with_reducible refine (sign_is _ z sg0 _ HX2.out HSG.out).mono ?_); rintro e w3 ⟨rfl, hb3⟩
  have HE3 := Lib.hid (HE2.out.below hb3)
  go_wp2_with fail
  refine hK.out _ _ ?_ (fun hHeld2 => ?_)
  · exact ONES.out _ HE3.out
  clear hK K hHeld
  have hHeld := hHeld2
  clear hHeld2
  try simp only [Act.put, List.getElem_toArray, List.getElem_cons_succ, List.getElem_cons_zero, List.setIfInBounds_toArray, List.set_cons_zero, List.set_cons_succ]
  refine wpAnyH_take (i := 14) (v := ?_) rfl (by kernel_rfl) (by kernel_rfl) (by kernel_rfl) (fun _ _ _ h => h) (Or.inl ⟨by rfl, ?_⟩) (by assumption) ?_
  rotate_left
  · intro w hSw
    try dsimp only at hSw
    go_simp
    all_goals (with_reducible rfl)
  try simp only [Act.put, List.getElem_toArray, List.getElem_cons_succ, List.getElem_cons_zero, List.setIfInBounds_toArray, List.set_cons_zero, List.set_cons_succ]
  refine wpAnyH_take (i := 15) (v := ?_) rfl (by kernel_rfl) (by kernel_rfl) (by kernel_rfl) (fun _ _ _ h => h) (Or.inl ⟨by rfl, ?_⟩) (by assumption) ?_
  rotate_left
  · intro w hSw
    try dsimp only at hSw
    go_simp
    all_goals (with_reducible rfl)
  try simp only [Act.put, List.getElem_toArray, List.getElem_cons_succ, List.getElem_cons_zero, List.setIfInBounds_toArray, List.set_cons_zero, List.set_cons_succ]
  refine wpAnyH_take (i := 16) (v := ?_) rfl (by kernel_rfl) (by kernel_rfl) (by kernel_rfl) (fun _ _ _ h => h) (Or.inl ⟨by rfl, ?_⟩) (by assumption) ?_
  rotate_left
  · intro w hSw
    try dsimp only at hSw
    go_simp
    all_goals (with_reducible rfl)
  try simp only [Act.put, List.getElem_toArray, List.getElem_cons_succ, List.getElem_cons_zero, List.setIfInBounds_toArray, List.set_cons_zero, List.set_cons_succ]
  refine wpAnyH_take (i := 17) (v := ?_) rfl (by kernel_rfl) (by kernel_rfl) (by kernel_rfl) (fun _ _ _ h => h) (Or.inl ⟨by rfl, ?_⟩) (by assumption) ?_
  rotate_left
  · intro w hSw
    try dsimp only at hSw
    go_simp
    all_goals (with_reducible rfl)
  try simp only [Act.put, List.getElem_toArray, List.getElem_cons_succ, List.getElem_cons_zero, List.setIfInBounds_toArray, List.set_cons_zero, List.set_cons_succ]
  refine wpAnyH_take (i := 19) (v := ?_) rfl (by kernel_rfl) (by kernel_rfl) (by kernel_rfl) (fun _ _ _ h => h) (Or.inl ⟨by rfl, ?_⟩) (by assumption) ?_
  rotate_left
  · intro w hSw
    try dsimp only at hSw
    go_simp
    all_goals (with_reducible rfl)
  try simp only [Act.put, List.getElem_toArray, List.getElem_cons_succ, List.getElem_cons_zero, List.setIfInBounds_toArray, List.set_cons_zero, List.set_cons_succ]
  refine wpAnyH_ready (rs := [18]) (by kernel_rfl) (by simp) ?_
  refine AllReadyH.cons rfl (fun K hK => ?_) AllReadyH.nil
  rw [if_pos (by rfl)]
  go_simp
  go_at_call 21
  (with_reducible refine (text_c am a0 a1 a2 a3 HA.out _).mono ?_); rintro e w4 ⟨rfl, hb4⟩
  rw [HTZ.out]
  have HE4 := Lib.hid (HE3.out.below hb4)
  have HX4 := (HE4.out.num (g := gx) (m := xm) (ad := xad) (n := xn) (c := xc) (z := z) List.mem_cons_self).2.2
  go_wp2_with fail
  refine hK.out _ _ ?_ (fun hHeld2 => ?_)
  · exact ONES.out _ HE4.out
  clear hK K hHeld
  have hHeld := hHeld2
  clear hHeld2
  try simp only [Act.put, List.getElem_toArray, List.getElem_cons_succ, List.getElem_cons_zero, List.setIfInBounds_toArray, List.set_cons_zero, List.set_cons_succ]
  refine wpAnyH_ready (rs := [20]) (by kernel_rfl) (by simp) ?_
  refine AllReadyH.cons rfl (fun K hK => ?_) AllReadyH.nil
  rw [if_pos (by rfl)]
  go_simp
  go_at_call 22
  (with_reducible refine (refText_num _ z _ HX4.out HBB.out).mono ?_); rintro e w5 ⟨rfl, hb5⟩
  rw [← HST.out]
  have HE5 := Lib.hid (HE4.out.below hb5)
  go_wp2_with fail
  refine hK.out _ _ ?_ (fun hHeld2 => ?_)
  · exact ONES.out _ HE5.out
  clear hK K hHeld
  have hHeld := hHeld2
  clear hHeld2
  try simp only [Act.put, List.getElem_toArray, List.getElem_cons_succ, List.getElem_cons_zero, List.setIfInBounds_toArray, List.set_cons_zero, List.set_cons_succ]
  refine wpAnyH_take (i := 21) (v := ?_) rfl (by kernel_rfl) (by kernel_rfl) (by kernel_rfl) (fun _ _ _ h => h) (Or.inl ⟨by rfl, ?_⟩) (by assumption) ?_
  rotate_left
  · intro w hSw
    try dsimp only at hSw
    go_simp
    all_goals (with_reducible rfl)
  try simp only [Act.put, List.getElem_toArray, List.getElem_cons_succ, List.getElem_cons_zero, List.setIfInBounds_toArray, List.set_cons_zero, List.set_cons_succ]
  refine wpAnyH_take (i := 22) (v := ?_) rfl (by kernel_rfl) (by kernel_rfl) (by kernel_rfl) (fun _ _ _ h => h) (Or.inl ⟨by rfl, ?_⟩) (by assumption) ?_
  rotate_left
  · intro w hSw
    try dsimp only at hSw
    go_simp
    all_goals (with_reducible rfl)
  try simp only [Act.put, List.getElem_toArray, List.getElem_cons_succ, List.getElem_cons_zero, List.setIfInBounds_toArray, List.set_cons_zero, List.set_cons_succ]
  refine wpAnyH_take (i := 23) (v := ?_) rfl (by kernel_rfl) (by kernel_rfl) (by kernel_rfl) (fun _ _ _ h => h) (Or.inl ⟨by rfl, ?_⟩) (by assumption) ?_
  rotate_left
  · intro w hSw
    try dsimp only at hSw
    go_simp
    all_goals (with_reducible rfl)
  try simp only [Act.put, List.getElem_toArray, List.getElem_cons_succ, List.getElem_cons_zero, List.setIfInBounds_toArray, List.set_cons_zero, List.set_cons_succ]
  refine wpAnyH_take (i := 24) (v := ?_) rfl (by kernel_rfl) (by kernel_rfl) (by kernel_rfl) (fun _ _ _ h => h) (Or.inl ⟨by rfl, ?_⟩) (by assumption) ?_
  rotate_left
  · intro w hSw
    try dsimp only at hSw
    go_simp
    all_goals (with_reducible rfl)
  try simp only [Act.put, List.getElem_toArray, List.getElem_cons_succ, List.getElem_cons_zero, List.setIfInBounds_toArray, List.set_cons_zero, List.set_cons_succ]
  refine wpAnyH_take (i := 25) (v := ?_) rfl (by kernel_rfl) (by kernel_rfl) (by kernel_rfl) (fun _ _ _ h => h) (Or.inl ⟨by rfl, ?_⟩) (by assumption) ?_
  rotate_left
  · intro w hSw
    try dsimp only at hSw
    go_simp
    all_goals (with_reducible rfl)
  try simp only [Act.put, List.getElem_toArray, List.getElem_cons_succ, List.getElem_cons_zero, List.setIfInBounds_toArray, List.set_cons_zero, List.set_cons_succ]
  refine wpAnyH_take (i := 26) (v := ?_) rfl (by kernel_rfl) (by kernel_rfl) (by kernel_rfl) (fun _ _ _ h => h) (Or.inl ⟨by rfl, ?_⟩) (by assumption) ?_
  rotate_left
  · intro w hSw
    try dsimp only at hSw
    go_simp
    all_goals (with_reducible rfl)
  try simp only [Act.put, List.getElem_toArray, List.getElem_cons_succ, List.getElem_cons_zero, List.setIfInBounds_toArray, List.set_cons_zero, List.set_cons_succ]
  refine wpAnyH_take (i := 27) (v := ?_) rfl (by kernel_rfl) (by kernel_rfl) (by kernel_rfl) (fun _ _ _ h => h) (Or.inl ⟨by rfl, ?_⟩) (by assumption) ?_
  rotate_left
  · intro w hSw
    try dsimp only at hSw
    go_simp
    all_goals (with_reducible rfl)
  try simp only [Act.put, List.getElem_toArray, List.getElem_cons_succ, List.getElem_cons_zero, List.setIfInBounds_toArray, List.set_cons_zero, List.set_cons_succ]
  refine wpAnyH_take (i := 29) (v := ?_) rfl (by kernel_rfl) (by kernel_rfl) (by kernel_rfl) (fun _ _ _ h => h) (Or.inl ⟨by rfl, ?_⟩) (by assumption) ?_
  rotate_left
  · intro w hSw
    try dsimp only at hSw
    go_simp
    all_goals (with_reducible rfl)
  try simp only [Act.put, List.getElem_toArray, List.getElem_cons_succ, List.getElem_cons_zero, List.setIfInBounds_toArray, List.set_cons_zero, List.set_cons_succ]
  refine wpAnyH_ready (rs := [28]) (by kernel_rfl) (by simp) ?_
  refine AllReadyH.cons rfl (fun K hK => ?_) AllReadyH.nil
  rw [if_pos (by rfl)]
  go_simp
  go_at_call 16
  (with_reducible refine (of_norm n HN.out.1 HN.out.2 _).mono ?_); rintro e w6 ⟨m', a', hi', hk, rfl, hb6⟩
  obtain ⟨rfl, rfl, -⟩ := normIs_same I0.out hi' K0.out hk.out
  have HE6 := Lib.hid (HE5.out.below hb6)
  go_wp2_with fail
  refine hK.out _ _ ?_ (fun hHeld2 => ?_)
  · exact ONES.out _ HE6.out
  clear hK K hHeld
  have hHeld := hHeld2
  clear hHeld2
  try simp only [Act.put, List.getElem_toArray, List.getElem_cons_succ, List.getElem_cons_zero, List.setIfInBounds_toArray, List.set_cons_zero, List.set_cons_succ]
  refine wpAnyH_take (i := 30) (v := ?_) rfl (by kernel_rfl) (by kernel_rfl) (by kernel_rfl) (fun _ _ _ h => h) (Or.inl ⟨by rfl, ?_⟩) (by assumption) ?_
  rotate_left
  · intro w hSw
    try dsimp only at hSw
    go_simp
    all_goals (with_reducible rfl)
  try simp only [Act.put, List.getElem_toArray, List.getElem_cons_succ, List.getElem_cons_zero, List.setIfInBounds_toArray, List.set_cons_zero, List.set_cons_succ]
  refine wpAnyH_take (i := 31) (v := ?_) rfl (by kernel_rfl) (by kernel_rfl) (by kernel_rfl) (fun _ _ _ h => h) (Or.inl ⟨by rfl, ?_⟩) (by assumption) ?_
  rotate_left
  · intro w hSw
    try dsimp only at hSw
    go_simp
    all_goals (with_reducible rfl)
  try simp only [Act.put, List.getElem_toArray, List.getElem_cons_succ, List.getElem_cons_zero, List.setIfInBounds_toArray, List.set_cons_zero, List.set_cons_succ]
  refine wpAnyH_take (i := 32) (v := ?_) rfl (by kernel_rfl) (by kernel_rfl) (by kernel_rfl) (fun _ _ _ h => h) (Or.inl ⟨by rfl, ?_⟩) (by assumption) ?_
  rotate_left
  · intro w hSw
    try dsimp only at hSw
    go_simp
    all_goals (with_reducible rfl)
  try simp only [Act.put, List.getElem_toArray, List.getElem_cons_succ, List.getElem_cons_zero, List.setIfInBounds_toArray, List.set_cons_zero, List.set_cons_succ]
  refine wpAnyH_take (i := 33) (v := ?_) rfl (by kernel_rfl) (by kernel_rfl) (by kernel_rfl) (fun _ _ _ h => h) (Or.inl ⟨by rfl, ?_⟩) (by assumption) ?_
  rotate_left
  · intro w hSw
    try dsimp only at hSw
    go_simp
    all_goals (with_reducible rfl)
  try simp only [Act.put, List.getElem_toArray, List.getElem_cons_succ, List.getElem_cons_zero, List.setIfInBounds_toArray, List.set_cons_zero, List.set_cons_succ]
  refine wpAnyH_take (i := 34) (v := ?_) rfl (by kernel_rfl) (by kernel_rfl) (by kernel_rfl) (fun _ _ _ h => h) (Or.inl ⟨by rfl, ?_⟩) (by assumption) ?_
  rotate_left
  · intro w hSw
    try dsimp only at hSw
    go_simp
    all_goals (with_reducible rfl)
  try simp only [Act.put, List.getElem_toArray, List.getElem_cons_succ, List.getElem_cons_zero, List.setIfInBounds_toArray, List.set_cons_zero, List.set_cons_succ]
  refine wpAnyH_take (i := 35) (v := ?_) rfl (by kernel_rfl) (by kernel_rfl) (by kernel_rfl) (fun _ _ _ h => h) (Or.inl ⟨by rfl, ?_⟩) (by assumption) ?_
  rotate_left
  · intro w hSw
    try dsimp only at hSw
    go_simp
    all_goals (with_reducible rfl)
  try simp only [Act.put, List.getElem_toArray, List.getElem_cons_succ, List.getElem_cons_zero, List.setIfInBounds_toArray, List.set_cons_zero, List.set_cons_succ]
  refine wpAnyH_take (i := 36) (v := ?_) rfl (by kernel_rfl) (by kernel_rfl) (by kernel_rfl) (fun _ _ _ h => h) (Or.inl ⟨by rfl, ?_⟩) (by assumption) ?_
  rotate_left
  · intro w hSw
    try dsimp only at hSw
    go_simp
    all_goals (with_reducible rfl)
  try simp only [Act.put, List.getElem_toArray, List.getElem_cons_succ, List.getElem_cons_zero, List.setIfInBounds_toArray, List.set_cons_zero, List.set_cons_succ]
  refine wpAnyH_take (i := 37) (v := ?_) rfl (by kernel_rfl) (by kernel_rfl) (by kernel_rfl) (fun _ _ _ h => h) (Or.inl ⟨by rfl, ?_⟩) (by assumption) ?_
  rotate_left
  · intro w hSw
    try dsimp only at hSw
    go_simp
    all_goals (with_reducible rfl)
  try simp only [Act.put, List.getElem_toArray, List.getElem_cons_succ, List.getElem_cons_zero, List.setIfInBounds_toArray, List.set_cons_zero, List.set_cons_succ]
  refine wpAnyH_take (i := 38) (v := ?_) rfl (by kernel_rfl) (by kernel_rfl) (by kernel_rfl) (fun _ _ _ h => h) (Or.inl ⟨by rfl, ?_⟩) (by assumption) ?_
  rotate_left
  · intro w hSw
    try dsimp only at hSw
    go_simp
    all_goals (with_reducible rfl)
  try simp only [Act.put, List.getElem_toArray, List.getElem_cons_succ, List.getElem_cons_zero, List.setIfInBounds_toArray, List.set_cons_zero, List.set_cons_succ]
  refine wpAnyH_take (i := 39) (v := ?_) rfl (by kernel_rfl) (by kernel_rfl) (by kernel_rfl) (fun _ _ _ h => h) (Or.inl ⟨by rfl, ?_⟩) (by assumption) ?_
  rotate_left
  · intro w hSw
    try dsimp only at hSw
    go_simp
    all_goals (with_reducible rfl)
  try simp only [Act.put, List.getElem_toArray, List.getElem_cons_succ, List.getElem_cons_zero, List.setIfInBounds_toArray, List.set_cons_zero, List.set_cons_succ]
  refine wpAnyH_take (i := 40) (v := ?_) rfl (by kernel_rfl) (by kernel_rfl) (by kernel_rfl) (fun _ _ _ h => h) (Or.inl ⟨by rfl, ?_⟩) (by assumption) ?_
  rotate_left
  · intro w hSw
    try dsimp only at hSw
    go_simp
    all_goals (with_reducible rfl)
  try simp only [Act.put, List.getElem_toArray, List.getElem_cons_succ, List.getElem_cons_zero, List.setIfInBounds_toArray, List.set_cons_zero, List.set_cons_succ]
  refine wpAnyH_take (i := 41) (v := ?_) rfl (by kernel_rfl) (by kernel_rfl) (by kernel_rfl) (fun _ _ _ h => h) (Or.inl ⟨by rfl, ?_⟩) (by assumption) ?_
  rotate_left
  · intro w hSw
    try dsimp only at hSw
    go_simp
    all_goals (with_reducible rfl)
  try simp only [Act.put, List.getElem_toArray, List.getElem_cons_succ, List.getElem_cons_zero, List.setIfInBounds_toArray, List.set_cons_zero, List.set_cons_succ]
  refine wpAnyH_take (i := 42) (v := ?_) rfl (by kernel_rfl) (by kernel_rfl) (by kernel_rfl) (fun _ _ _ h => h) (Or.inl ⟨by rfl, ?_⟩) (by assumption) ?_
  rotate_left
  · intro w hSw
    try dsimp only at hSw
    go_simp
    all_goals (with_reducible rfl)
  try simp only [Act.put, List.getElem_toArray, List.getElem_cons_succ, List.getElem_cons_zero, List.setIfInBounds_toArray, List.set_cons_zero, List.set_cons_succ]
  refine wpAnyH_take (i := 43) (v := ?_) rfl (by kernel_rfl) (by kernel_rfl) (by kernel_rfl) (fun _ _ _ h => h) (Or.inl ⟨by rfl, ?_⟩) (by assumption) ?_
  rotate_left
  · intro w hSw
    try dsimp only at hSw
    go_simp
    all_goals (with_reducible rfl)
  try simp only [Act.put, List.getElem_toArray, List.getElem_cons_succ, List.getElem_cons_zero, List.setIfInBounds_toArray, List.set_cons_zero, List.set_cons_succ]
  refine wpAnyH_take (i := 44) (v := ?_) rfl (by kernel_rfl) (by kernel_rfl) (by kernel_rfl) (fun _ _ _ h => h) (Or.inl ⟨by rfl, ?_⟩) (by assumption) ?_
  rotate_left
  · intro w hSw
    try dsimp only at hSw
    go_simp
    all_goals (with_reducible rfl)
  try simp only [Act.put, List.getElem_toArray, List.getElem_cons_succ, List.getElem_cons_zero, List.setIfInBounds_toArray, List.set_cons_zero, List.set_cons_succ]
  refine wpAnyH_take (i := 45) (v := ?_) rfl (by kernel_rfl) (by kernel_rfl) (by kernel_rfl) (fun _ _ _ h => h) (Or.inl ⟨by rfl, ?_⟩) (by assumption) ?_
  rotate_left
  · intro w hSw
    try dsimp only at hSw
    go_simp
    all_goals (with_reducible rfl)
  try simp only [Act.put, List.getElem_toArray, List.getElem_cons_succ, List.getElem_cons_zero, List.setIfInBounds_toArray, List.set_cons_zero, List.set_cons_succ]
  refine wpAnyH_take (i := 46) (v := ?_) rfl (by kernel_rfl) (by kernel_rfl) (by kernel_rfl) (fun _ _ _ h => h) (Or.inl ⟨by rfl, ?_⟩) (by assumption) ?_
  rotate_left
  · intro w hSw
    try dsimp only at hSw
    go_simp
    all_goals (with_reducible rfl)
  try simp only [Act.put, List.getElem_toArray, List.getElem_cons_succ, List.getElem_cons_zero, List.setIfInBounds_toArray, List.set_cons_zero, List.set_cons_succ]
  refine wpAnyH_take (i := 47) (v := ?_) rfl (by kernel_rfl) (by kernel_rfl) (by kernel_rfl) (fun _ _ _ h => h) (Or.inl ⟨by rfl, ?_⟩) (by assumption) ?_
  rotate_left
  · intro w hSw
    try dsimp only at hSw
    go_simp
    all_goals (with_reducible rfl)
  try simp only [Act.put, List.getElem_toArray, List.getElem_cons_succ, List.getElem_cons_zero, List.setIfInBounds_toArray, List.set_cons_zero, List.set_cons_succ]
  refine wpAnyH_ready (rs := [48]) (by kernel_rfl) (by simp) ?_
  refine AllReadyH.cons rfl (fun K hK => ?_) AllReadyH.nil
  rw [if_pos (by rfl)]
  go_simp
  go_at_call 23
  (with_reducible refine (known_c _).mono ?_); rintro e w7 ⟨rfl, hb7⟩
  have HE7 := Lib.hid (HE6.out.below hb7)
  go_wp2_with fail
  refine hK.out _ _ ?_ (fun hHeld2 => ?_)
  · exact ONES.out _ HE7.out
  clear hK K hHeld
  have hHeld := hHeld2
  clear hHeld2
  try simp only [Act.put, List.getElem_toArray, List.getElem_cons_succ, List.getElem_cons_zero, List.setIfInBounds_toArray, List.set_cons_zero, List.set_cons_succ]
  refine wpAnyH_take (i := 49) (v := ?_) rfl (by kernel_rfl) (by kernel_rfl) (by kernel_rfl) (fun _ _ _ h => h) (Or.inl ⟨by rfl, ?_⟩) (by assumption) ?_
  rotate_left
  · intro w hSw
    try dsimp only at hSw
    go_simp
    all_goals (with_reducible rfl)
  try simp only [Act.put, List.getElem_toArray, List.getElem_cons_succ, List.getElem_cons_zero, List.setIfInBounds_toArray, List.set_cons_zero, List.set_cons_succ]
  refine wpAnyH_take (i := 50) (v := ?_) rfl (by kernel_rfl) (by kernel_rfl) (by kernel_rfl) (fun _ _ _ h => h) (Or.inl ⟨by rfl, ?_⟩) (by assumption) ?_
  rotate_left
  · intro w hSw
    try dsimp only at hSw
    go_simp
    all_goals (with_reducible rfl)
  try simp only [Act.put, List.getElem_toArray, List.getElem_cons_succ, List.getElem_cons_zero, List.setIfInBounds_toArray, List.set_cons_zero, List.set_cons_succ]
  refine wpAnyH_done (by kernel_rfl) ?_ _
  go_wp2_with fail
  go_ret
  exact ⟨by first | rfl | simp, HE7.out.e.hb⟩
end Go.Proofs.Ytbgbmimgkhchhaa
