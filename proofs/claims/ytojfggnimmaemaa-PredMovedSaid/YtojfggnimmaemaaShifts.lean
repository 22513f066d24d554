/-
  The plain mathematics of Centre.
-/
import Derived.Test.YtojfggnimmaemaaGeoMath
import Derived.Test.YtojfggnimmaemaaGeoAll
import Derived.Test.YtojfggnimmaemaaDivMod
namespace Go.Proofs.Ytojfggnimmaemaa

def isI (z : Int) : Bool := decide (-9223372036854775808 ≤ z) && decide (z ≤ 9223372036854775807)
def intV (z : Int) : Int := if isI z then z else 0
def intE (z : Int) : Int := if isI z then 0 else 10
theorem isI_e (z : Int) : decide (intE z = 0) = isI z := by unfold intE; cases isI z <;> rfl
/-- how far a rounded centre lies from a place, along one way -/
def shiftZ (k n d : Int) : Int := (n + d) / (d + d) + k
def ctrX (a b c : Pt) : Int := shiftZ a.x (sqZ a b * (c.y - a.y) - sqZ a c * (b.y - a.y)) (crossZ a b c)
def ctrY (a b c : Pt) : Int := shiftZ a.y (sqZ a c * (b.x - a.x) - sqZ a b * (c.x - a.x)) (crossZ a b c)
/-- the rounded centre of three places that turn left, and 0; or why there is none -/
def ctrP (a b c : Pt) : Pt := if fitB ⟨ctrX a b c, ctrY a b c⟩ then ⟨ctrX a b c, ctrY a b c⟩ else ⟨0, 0⟩
def ctrE (a b c : Pt) : Int := if fitB ⟨ctrX a b c, ctrY a b c⟩ then 0 else 10
def centreP (a b c : Pt) : Pt := if orientZ a b c = 0 then ⟨0, 0⟩ else if orientZ a b c < 0 then ctrP a c b else ctrP a b c
def centreE (a b c : Pt) : Int := if orientZ a b c = 0 then 2 else if orientZ a b c < 0 then ctrE a c b else ctrE a b c
end Go.Proofs.Ytojfggnimmaemaa

/-
  The program's DivMod and Int by the numbers that they say; what a rounded centre is.
-/
namespace Go.Proofs.Ytojfggnimmaemaa
open Go.RowKit

theorem dmQ (x y : Int) (hx : BW x) (hy : BW y) (h0 : 0 < y) (W : World) : Calls Try.prog 92 #[(.agg #[.bool (QM (x)), .int .u64 (Q0 (x)), .int .u64 (Q1 (x)), .int .u64 (Q2 (x)), .int .u64 (Q3 (x))]), (.agg #[.bool (QM (y)), .int .u64 (Q0 (y)), .int .u64 (Q1 (y)), .int .u64 (Q2 (y)), .int .u64 (Q3 (y))])] W (Gives (.tuple #[(.agg #[.bool (QM (x / y)), .int .u64 (Q0 (x / y)), .int .u64 (Q1 (x / y)), .int .u64 (Q2 (x / y)), .int .u64 (Q3 (x / y))]), (.agg #[.bool (QM (x % y)), .int .u64 (Q0 (x % y)), .int .u64 (Q1 (x % y)), .int .u64 (Q2 (x % y)), .int .u64 (Q3 (x % y))]), .int .i64 0]) W) := by
  refine (divMod_c (QM x) (QM y) (Q0 x) (Q1 x) (Q2 x) (Q3 x) (Q0 y) (Q1 y) (Q2 y) (Q3 y) (q_in x) (q_in y) W).mono ?_
  rintro e w' ⟨mq, q0, q1, q2, q3, mr, r0, r1, r2, r3, er, hq, hr, hk, rfl, hb⟩
  have hk := hk.out
  unfold DivOk at hk
  rw [q_val hx, q_val hy] at hk
  rcases hk with ⟨-, rfl, h1, h2, h3, nq, nr⟩ | ⟨h1, -⟩
  · rw [if_neg (by omega)] at h3
    have hu : x / y = WV mq q0 q1 q2 q3 ∧ x % y = WV mr r0 r1 r2 r3 := (Int.ediv_emod_unique h0).2 ⟨by rw [Int.mul_comm y, Int.add_comm]; exact h1.symm, h2, h3⟩
    obtain ⟨rfl, rfl, rfl, rfl, rfl⟩ := q_of hq nq hu.1.symm
    obtain ⟨rfl, rfl, rfl, rfl, rfl⟩ := q_of hr nr hu.2.symm
    exact ⟨rfl, hb⟩
  · omega
theorem intQ (x : Int) (hx : BW x) (W : World) : Calls Try.prog 93 #[(.agg #[.bool (QM (x)), .int .u64 (Q0 (x)), .int .u64 (Q1 (x)), .int .u64 (Q2 (x)), .int .u64 (Q3 (x))])] W (Gives (.tuple #[.int .i64 (intV x), .int .i64 (intE x)]) W) := by
  refine (int_c (QM x) (Q0 x) (Q1 x) (Q2 x) (Q3 x) (q_in x) W).mono ?_
  rintro e w' ⟨v, er, rfl, hk, hb⟩
  have hk := hk.out
  unfold IntIs at hk
  rw [q_val hx] at hk
  rcases hk with ⟨hv, he, h1, h2⟩ | ⟨hv, he, h1⟩
  · have : isI x = true := by unfold isI; simp [h1, h2]
    unfold intV intE
    rw [this, hv, he]
    exact ⟨rfl, hb⟩
  · have : isI x = false := by unfold isI; simp; omega
    unfold intV intE
    rw [this, hv, he]
    exact ⟨rfl, hb⟩
end Go.Proofs.Ytojfggnimmaemaa

/-
  Contracts of pred.difference, pred.shifted.
-/
namespace Go.Proofs.Ytojfggnimmaemaa
open Go.RowKit

set_option maxHeartbeats 1000000 in
set_option maxRecDepth 100000 in
theorem difference_l (x y : Int) (hx : BW x) (hy : BW y) (hxy : BW (x - y)) (w : World) : Calls Try.prog 72 #[(.agg #[.bool (QM (x)), .int .u64 (Q0 (x)), .int .u64 (Q1 (x)), .int .u64 (Q2 (x)), .int .u64 (Q3 (x))]), (.agg #[.bool (QM (y)), .int .u64 (Q0 (y)), .int .u64 (Q1 (y)), .int .u64 (Q2 (y)), .int .u64 (Q3 (y))])] w (Gives (.agg #[.bool (QM (x - y)), .int .u64 (Q0 (x - y)), .int .u64 (Q1 (x - y)), .int .u64 (Q2 (x - y)), .int .u64 (Q3 (x - y))]) w) := by
  have C := hi (fun W => subQ x y hx hy hxy W)
  clear hx hy hxy
  go_enter Try.func72, Try.ntmps72
  go_upto_region 1 with (fail)
  refine wp_abs (fun W => Var W w.heap.size [.bool (QM (x)), .int .u64 (Q0 (x)), .int .u64 (Q1 (x)), .int .u64 (Q2 (x)), .int .u64 (Q3 (x))] ∧ Var W (w.heap.size + 1) [.bool (QM (y)), .int .u64 (Q0 (y)), .int .u64 (Q1 (y)), .int .u64 (Q2 (y)), .int .u64 (Q3 (y))] ∧ Slot5 W (w.heap.size + 1 + 1) ∧ Grew w 3 W) ?_ ?_
  · exact ⟨(var5_new _ _ _ _ _ _ _ _ rfl).below (bl_alloc (bl_one _ _) _), (var5_new _ _ _ _ _ _ _ _ (by simp)).below (bl_one _ _), ⟨_, _, _, _, _, var5_new _ _ _ _ _ _ _ _ (by simp)⟩, by repeat (first | (with_reducible exact Below.refl _ _) | (with_reducible refine bl_alloc ?_ _) | (with_reducible refine Below.drew ?_) | (with_reducible refine below_drewN' ?_ _) | ((with_reducible refine bl_set ?_ ?_ _); (rotate_left; (dsimp only; omega)))), by simp⟩
  rintro W0 hS0
  have HS0 := hi hS0
  obtain ⟨c0, c1, c2, c3, c4⟩ := hS0.1.five
  obtain ⟨d0, d1, d2, d3, d4⟩ := hS0.2.1.five
  clear hS0
  go_wp2_with fail
  (with_reducible refine (C.out _).mono ?_); rintro e w1 ⟨rfl, hb1⟩
  clear c0 c1 c2 c3 c4 d0 d1 d2 d3 d4
  obtain ⟨r0, r1, r2, r3, r4, vr⟩ := HS0.out.2.2.1.below hb1
  have HG := hi (HS0.out.2.2.2.below hb1)
  clear HS0 hb1 C
  generalize x - y = z at *
  go_upto_region 2 with (fail)
  refine wp_abs (fun W => Var W w1.heap.size [.bool (QM (z)), .int .u64 (Q0 (z)), .int .u64 (Q1 (z)), .int .u64 (Q2 (z)), .int .u64 (Q3 (z))] ∧ Slot5 W (w.heap.size + 1 + 1) ∧ Grew w 3 W) ?_ ?_
  · exact ⟨var5_new _ _ _ _ _ _ _ _ rfl, ⟨_, _, _, _, _, vr.below (bl_one _ _)⟩, HG.out.new _⟩
  rintro W2 ⟨v1, ⟨s0, s1, s2, s3, s4, vs⟩, hG⟩
  replace HG := hi hG
  obtain ⟨c0, c1, c2, c3, c4⟩ := v1.five
  obtain ⟨k0, k1, k2, k3, k4⟩ := vs.five
  obtain ⟨f0, f1, f2, f3, f4⟩ := vs.free5
  clear v1 vs vr hG
  go_wp2
  refine bodyPost_ret (v := (.agg #[.bool (QM (z)), .int .u64 (Q0 (z)), .int .u64 (Q1 (z)), .int .u64 (Q2 (z)), .int .u64 (Q3 (z))])) (by simp [results, Try.results72, go_sem, k0, k1, k2, k3, k4]; done) rfl ⟨rfl, ?_⟩
  repeat (first | (with_reducible exact Below.refl _ _) | (with_reducible refine bl_alloc ?_ _) | (with_reducible refine Below.drew ?_) | (with_reducible refine below_drewN' ?_ _) | ((with_reducible refine bl_set ?_ ?_ _); (rotate_left; (dsimp only; omega))))
  exact HG.out.hb

theorem div_ab {m d A : Int} (hm : Ab m A) (hd : 0 < d) : Ab (m / (d + d)) A := by
  unfold Ab at *
  constructor
  · apply Int.le_ediv_of_mul_le (by omega)
    have := Int.mul_le_mul_of_nonneg_left (show (1 : Int) ≤ d + d by omega) (show 0 ≤ A by omega)
    rw [Int.neg_mul]
    omega
  · rcases Int.lt_or_le m 0 with h | h
    · have := Int.ediv_neg_of_neg_of_pos h (show 0 < d + d by omega); omega
    · have := Int.ediv_le_self (d + d) h; omega

set_option maxHeartbeats 8000000 in
set_option maxRecDepth 100000 in
theorem shifted_l (k n d : Int) (hk : Ab k 4294967296) (hn : Ab n 5070602400912917605986812821504) (h0 : 0 < d) (hd : Ab d 147573952589676412928) (w : World) :
    Calls Try.prog 71 #[.int .i64 k, (.agg #[.bool (QM (n)), .int .u64 (Q0 (n)), .int .u64 (Q1 (n)), .int .u64 (Q2 (n)), .int .u64 (Q3 (n))]), (.agg #[.int .u64 (LH (d)), .int .u64 (LL (d))])] w (Gives (.tuple #[.int .i64 (intV (shiftZ k n d)), .bool (isI (shiftZ k n d))]) w) := by
  have Bd := hi (hd.b127 (by decide))
  have Bdd := hi ((hd.add hd).b127 (by decide))
  have Wn := hi (hn.bw (by decide))
  have Wd' := hi (hd.bw (by decide))
  have Wdd := hi ((hd.add hd).bw (by decide))
  have Wm := (hn.add hd).bw (by decide)
  have hq := div_ab (hn.add hd) h0
  have Wq := hq.bw (by decide)
  have Wk := hi (hk.bw (by decide))
  have Rk : Hid (-9223372036854775808 ≤ k ∧ k ≤ 9223372036854775807) := hk.r64 (by decide)
  have Ws := (hq.add hk).bw (by decide)
  have H0 : Hid (0 < d + d) := by unfold Hid; omega
  unfold shiftZ
  clear hk hn h0 hd hq
  go_enter Try.func71, Try.ntmps71
  go_upto_region 1 with (fail)
  refine wp_abs (fun W => Var W (w.heap.size) [.bool (QM (n)), .int .u64 (Q0 (n)), .int .u64 (Q1 (n)), .int .u64 (Q2 (n)), .int .u64 (Q3 (n))] ∧ Var W (w.heap.size + 1) [.int .u64 (LH (d)), .int .u64 (LL (d))] ∧ Grew w 2 W) ?_ ?_
  · exact ⟨(var5_new _ _ _ _ _ _ _ _ rfl).below (bl_one _ _), var2_new _ _ _ _ _ (by simp), by repeat (first | (with_reducible exact Below.refl _ _) | (with_reducible refine bl_alloc ?_ _) | (with_reducible refine Below.drew ?_) | (with_reducible refine below_drewN' ?_ _) | ((with_reducible refine bl_set ?_ ?_ _); (rotate_left; (dsimp only; omega)))), by simp⟩
  rintro W0 hS0
  have HS0 := hi hS0
  clear hS0
  have Wm := hi Wm
  have Wq := hi Wq
  have Ws := hi Ws
  go_cut [8] (fun pm W => ∃ g8 : Nat, pm = .pointer (some ⟨g8, 0, none⟩) ∧ Var W (g8) [.bool (QM (n + d)), .int .u64 (Q0 (n + d)), .int .u64 (Q1 (n + d)), .int .u64 (Q2 (n + d)), .int .u64 (Q3 (n + d))] ∧ Var W (w.heap.size + 1) [.int .u64 (LH (d)), .int .u64 (LL (d))] ∧ Grew w 2 W)
  case first =>
    refine wp_region_held_drew (S := fun W => Var W (w.heap.size) [.bool (QM (n)), .int .u64 (Q0 (n)), .int .u64 (Q1 (n)), .int .u64 (Q2 (n)), .int .u64 (Q3 (n))] ∧ Var W (w.heap.size + 1) [.int .u64 (LH (d)), .int .u64 (LL (d))] ∧ Grew w 2 W) (by kernel_rfl) ?_ (fun q1 => ?_)
    · exact ⟨HS0.out.1.below (bel_drew _), HS0.out.2.1.below (bel_drew _), HS0.out.2.2.below (bel_drew _)⟩
    revert q1
    generalize World.drew _ = W1
    intro q1 
    refine tk (i := 0) (v := ?_) rfl (Or.inl ⟨by rfl, ?_⟩) ?_
    rotate_left
    · intro Wq hSw
      obtain ⟨k0, k1, k2, k3, k4⟩ := (id hSw).1.five
      clear hSw
      go_simp
      all_goals (with_reducible rfl)
    try simp only [Act.put, x2, x4, x5, x6, x7]
    refine tk (i := 1) (v := ?_) rfl (Or.inl ⟨by rfl, ?_⟩) ?_
    rotate_left
    · intro Wq hSw
      obtain ⟨k0, k1⟩ := (id hSw).2.1.two
      clear hSw
      go_simp
      all_goals (with_reducible rfl)
    try simp only [Act.put, x2, x3, x4, x5, x6, x7]
    refine r2 (i := 2) (j := 8) rfl (fun K hK => ?_) rfl (fun K hK => ?_)
    · go_simp
      go_at_call 87
      (with_reducible refine (longWide_l d Bd.out _).mono ?_); rintro e w1 ⟨rfl, hb1⟩
      go_wp2_with fail
      refine hK.out _ _ ?_ (fun q2 => ?_)
      · exact ⟨(id q1).1.below hb1, (id q1).2.1.below hb1, (id q1).2.2.below hb1⟩
      clear hK K q1 hb1
      have q1 := q2
      clear q2
      try simp only [Act.put, x2, x3, x4, x5, x6, x7]
      refine r2 (i := 3) (j := 8) rfl (fun K hK => ?_) rfl (fun K hK => ?_)
      · go_simp
        refine hK.out _ _ ?_ (fun q2 => ?_)
        · exact ⟨(id q1).1.below (bl_one _ _), (id q1).2.1.below (bl_one _ _), (id q1).2.2.below (bl_one _ _)⟩
        have HL := hL_of (id q1).2.2 (fun W => wides2_wd W n d 73)
        clear hK K q1
        have q1 := q2
        clear q2
        try simp only [Act.put, x2, x3, x4, x5, x6, x7]
        revert HL
        revert q1
        generalize World.alloc _ _ = W2
        intro q1 HL
        refine r2 (i := 4) (j := 8) rfl (fun K hK => ?_) rfl (fun K hK => ?_)
        · go_simp
          go_at_call 83
          (with_reducible refine (addQ2 n d Wn.out Wd'.out Wm.out _ _ _ HL.out).mono ?_); rintro e w1 ⟨rfl, hb1⟩
          go_wp2_with fail
          refine hK.out _ _ ?_ (fun q2 => ?_)
          · exact ⟨(id q1).1.below hb1, (id q1).2.1.below hb1, (id q1).2.2.below hb1⟩
          replace HL := hi (HL.out.below hb1)
          clear hK K q1 hb1
          have q1 := q2
          clear q2
          try simp only [Act.put, x2, x3, x4, x5, x6, x7]
          refine tk (i := 5) (v := ?_) rfl (Or.inl ⟨by rfl, ?_⟩) ?_
          rotate_left
          · intro Wq hSw
            clear hSw
            go_simp
            all_goals (with_reducible rfl)
          try simp only [Act.put, x2, x3, x4, x5, x6, x7]
          refine tk (i := 6) (v := ?_) rfl (Or.inl ⟨by rfl, ?_⟩) ?_
          rotate_left
          · intro Wq hSw
            clear hSw
            go_simp
            all_goals (with_reducible rfl)
          try simp only [Act.put, x2, x3, x4, x5, x6, x7]
          refine tk (i := 7) (v := ?_) rfl (Or.inl ⟨by rfl, ?_⟩) ?_
          rotate_left
          · intro Wq hSw
            clear hSw
            go_simp
            all_goals (with_reducible rfl)
          try simp only [Act.put, x2, x3, x4, x5, x6, x7]
          refine r1 (i := 8) rfl (fun K hK => ?_)
          go_simp
          refine hK.out _ _ ?_ (fun q2 => ?_)
          · exact ⟨(id q1).1.below (bl_one _ _), (id q1).2.1.below (bl_one _ _), (id q1).2.2.below (bl_one _ _)⟩
          replace HL := hi (HL.out.below (al_of (id q2).2.2 (bl_one _ _)))
          have hge := (id q1).2.2.sz
          have HN := hi ((id q1).2.2.var5 (.bool false) (.int .u64 0) (.int .u64 0) (.int .u64 0) (.int .u64 0) 73)
          clear hK K q1
          have q1 := q2
          clear q2
          try simp only [Act.put, x2, x3, x4, x5, x6, x7]
          revert HL
          revert HN
          revert q1
          generalize World.alloc _ _ = W2
          intro q1 HN HL
          refine r1 (i := 9) rfl (fun K hK => ?_)
          obtain ⟨k0, k1, k2, k3, k4⟩ := HN.out.five
          obtain ⟨f0, f1, f2, f3, f4⟩ := HN.out.free5
          go_simp
          refine hK.out _ _ ?_ (fun q2 => ?_)
          · exact ⟨((((((id q1).1.far (by dsimp only; omega) _).far (by dsimp only; omega) _).far (by dsimp only; omega) _).far (by dsimp only; omega) _).far (by dsimp only; omega) _), ((((((id q1).2.1.far (by dsimp only; omega) _).far (by dsimp only; omega) _).far (by dsimp only; omega) _).far (by dsimp only; omega) _).far (by dsimp only; omega) _), ((((((id q1).2.2.set (by dsimp only; omega) _).set (by dsimp only; omega) _).set (by dsimp only; omega) _).set (by dsimp only; omega) _).set (by dsimp only; omega) _)⟩
          have VN := hi (HN.out.set5 (.bool (QM (n + d))) (.int .u64 (Q0 (n + d))) (.int .u64 (Q1 (n + d))) (.int .u64 (Q2 (n + d))) (.int .u64 (Q3 (n + d))))
          clear HL
          clear hK K q1 HN k0 k1 k2 k3 k4 f0 f1 f2 f3 f4
          have q1 := q2
          clear q2
          try simp only [Act.put, x2, x3, x4, x5, x6, x7]
          refine tk (i := 10) (v := ?_) rfl (Or.inl ⟨by rfl, ?_⟩) ?_
          rotate_left
          · intro Wq hSw
            clear hSw
            go_simp
            all_goals (with_reducible rfl)
          try simp only [Act.put, x2, x3, x4, x5, x6, x7]
          refine wpAnyH_done (by kernel_rfl) ?_ _
          go_wp2_with fail
          go_meet
          case rel => exact ⟨_, rfl, VN.out, (id q1).2.1, (id q1).2.2⟩
        · go_simp
          refine hK.out _ _ ?_ (fun q2 => ?_)
          · exact ⟨(id q1).1.below (bl_one _ _), (id q1).2.1.below (bl_one _ _), (id q1).2.2.below (bl_one _ _)⟩
          replace HL := hi (HL.out.below (al_of (id q2).2.2 (bl_one _ _)))
          have hge := (id q1).2.2.sz
          have HN := hi ((id q1).2.2.var5 (.bool false) (.int .u64 0) (.int .u64 0) (.int .u64 0) (.int .u64 0) 73)
          clear hK K q1
          have q1 := q2
          clear q2
          try simp only [Act.put, x2, x3, x4, x5, x6, x7]
          revert HL
          revert HN
          revert q1
          generalize World.alloc _ _ = W2
          intro q1 HN HL
          refine r1 (i := 4) rfl (fun K hK => ?_)
          go_simp
          go_at_call 83
          (with_reducible refine (addQ2 n d Wn.out Wd'.out Wm.out _ _ _ HL.out).mono ?_); rintro e w1 ⟨rfl, hb1⟩
          go_wp2_with fail
          refine hK.out _ _ ?_ (fun q2 => ?_)
          · exact ⟨(id q1).1.below hb1, (id q1).2.1.below hb1, (id q1).2.2.below hb1⟩
          replace HL := hi (HL.out.below hb1)
          replace HN := hi (HN.out.below hb1)
          clear hK K q1 hb1
          have q1 := q2
          clear q2
          try simp only [Act.put, x2, x3, x4, x5, x6, x7]
          refine tk (i := 5) (v := ?_) rfl (Or.inl ⟨by rfl, ?_⟩) ?_
          rotate_left
          · intro Wq hSw
            clear hSw
            go_simp
            all_goals (with_reducible rfl)
          try simp only [Act.put, x2, x3, x4, x5, x6, x7]
          refine tk (i := 6) (v := ?_) rfl (Or.inl ⟨by rfl, ?_⟩) ?_
          rotate_left
          · intro Wq hSw
            clear hSw
            go_simp
            all_goals (with_reducible rfl)
          try simp only [Act.put, x2, x3, x4, x5, x6, x7]
          refine tk (i := 7) (v := ?_) rfl (Or.inl ⟨by rfl, ?_⟩) ?_
          rotate_left
          · intro Wq hSw
            clear hSw
            go_simp
            all_goals (with_reducible rfl)
          try simp only [Act.put, x2, x3, x4, x5, x6, x7]
          refine r1 (i := 9) rfl (fun K hK => ?_)
          obtain ⟨k0, k1, k2, k3, k4⟩ := HN.out.five
          obtain ⟨f0, f1, f2, f3, f4⟩ := HN.out.free5
          go_simp
          refine hK.out _ _ ?_ (fun q2 => ?_)
          · exact ⟨((((((id q1).1.far (by dsimp only; omega) _).far (by dsimp only; omega) _).far (by dsimp only; omega) _).far (by dsimp only; omega) _).far (by dsimp only; omega) _), ((((((id q1).2.1.far (by dsimp only; omega) _).far (by dsimp only; omega) _).far (by dsimp only; omega) _).far (by dsimp only; omega) _).far (by dsimp only; omega) _), ((((((id q1).2.2.set (by dsimp only; omega) _).set (by dsimp only; omega) _).set (by dsimp only; omega) _).set (by dsimp only; omega) _).set (by dsimp only; omega) _)⟩
          have VN := hi (HN.out.set5 (.bool (QM (n + d))) (.int .u64 (Q0 (n + d))) (.int .u64 (Q1 (n + d))) (.int .u64 (Q2 (n + d))) (.int .u64 (Q3 (n + d))))
          clear HL
          clear hK K q1 HN k0 k1 k2 k3 k4 f0 f1 f2 f3 f4
          have q1 := q2
          clear q2
          try simp only [Act.put, x2, x3, x4, x5, x6, x7]
          refine tk (i := 10) (v := ?_) rfl (Or.inl ⟨by rfl, ?_⟩) ?_
          rotate_left
          · intro Wq hSw
            clear hSw
            go_simp
            all_goals (with_reducible rfl)
          try simp only [Act.put, x2, x3, x4, x5, x6, x7]
          refine wpAnyH_done (by kernel_rfl) ?_ _
          go_wp2_with fail
          go_meet
          case rel => exact ⟨_, rfl, VN.out, (id q1).2.1, (id q1).2.2⟩
      · go_simp
        refine hK.out _ _ ?_ (fun q2 => ?_)
        · exact ⟨(id q1).1.below (bl_one _ _), (id q1).2.1.below (bl_one _ _), (id q1).2.2.below (bl_one _ _)⟩
        have hge := (id q1).2.2.sz
        have HN := hi ((id q1).2.2.var5 (.bool false) (.int .u64 0) (.int .u64 0) (.int .u64 0) (.int .u64 0) 73)
        clear hK K q1
        have q1 := q2
        clear q2
        try simp only [Act.put, x2, x3, x4, x5, x6, x7]
        revert HN
        revert q1
        generalize World.alloc _ _ = W2
        intro q1 HN
        refine r1 (i := 3) rfl (fun K hK => ?_)
        go_simp
        refine hK.out _ _ ?_ (fun q2 => ?_)
        · exact ⟨(id q1).1.below (bl_one _ _), (id q1).2.1.below (bl_one _ _), (id q1).2.2.below (bl_one _ _)⟩
        replace HN := hi (HN.out.below (al_of (id q2).2.2 (bl_one _ _)))
        have HL := hL_of (id q1).2.2 (fun W => wides2_wd W n d 73)
        clear hK K q1
        have q1 := q2
        clear q2
        try simp only [Act.put, x2, x3, x4, x5, x6, x7]
        revert HN
        revert HL
        revert q1
        generalize World.alloc _ _ = W2
        intro q1 HL HN
        refine r1 (i := 4) rfl (fun K hK => ?_)
        go_simp
        go_at_call 83
        (with_reducible refine (addQ2 n d Wn.out Wd'.out Wm.out _ _ _ HL.out).mono ?_); rintro e w1 ⟨rfl, hb1⟩
        go_wp2_with fail
        refine hK.out _ _ ?_ (fun q2 => ?_)
        · exact ⟨(id q1).1.below hb1, (id q1).2.1.below hb1, (id q1).2.2.below hb1⟩
        replace HN := hi (HN.out.below hb1)
        replace HL := hi (HL.out.below hb1)
        clear hK K q1 hb1
        have q1 := q2
        clear q2
        try simp only [Act.put, x2, x3, x4, x5, x6, x7]
        refine tk (i := 5) (v := ?_) rfl (Or.inl ⟨by rfl, ?_⟩) ?_
        rotate_left
        · intro Wq hSw
          clear hSw
          go_simp
          all_goals (with_reducible rfl)
        try simp only [Act.put, x2, x3, x4, x5, x6, x7]
        refine tk (i := 6) (v := ?_) rfl (Or.inl ⟨by rfl, ?_⟩) ?_
        rotate_left
        · intro Wq hSw
          clear hSw
          go_simp
          all_goals (with_reducible rfl)
        try simp only [Act.put, x2, x3, x4, x5, x6, x7]
        refine tk (i := 7) (v := ?_) rfl (Or.inl ⟨by rfl, ?_⟩) ?_
        rotate_left
        · intro Wq hSw
          clear hSw
          go_simp
          all_goals (with_reducible rfl)
        try simp only [Act.put, x2, x3, x4, x5, x6, x7]
        refine r1 (i := 9) rfl (fun K hK => ?_)
        obtain ⟨k0, k1, k2, k3, k4⟩ := HN.out.five
        obtain ⟨f0, f1, f2, f3, f4⟩ := HN.out.free5
        go_simp
        refine hK.out _ _ ?_ (fun q2 => ?_)
        · exact ⟨((((((id q1).1.far (by dsimp only; omega) _).far (by dsimp only; omega) _).far (by dsimp only; omega) _).far (by dsimp only; omega) _).far (by dsimp only; omega) _), ((((((id q1).2.1.far (by dsimp only; omega) _).far (by dsimp only; omega) _).far (by dsimp only; omega) _).far (by dsimp only; omega) _).far (by dsimp only; omega) _), ((((((id q1).2.2.set (by dsimp only; omega) _).set (by dsimp only; omega) _).set (by dsimp only; omega) _).set (by dsimp only; omega) _).set (by dsimp only; omega) _)⟩
        have VN := hi (HN.out.set5 (.bool (QM (n + d))) (.int .u64 (Q0 (n + d))) (.int .u64 (Q1 (n + d))) (.int .u64 (Q2 (n + d))) (.int .u64 (Q3 (n + d))))
        clear HL
        clear hK K q1 HN k0 k1 k2 k3 k4 f0 f1 f2 f3 f4
        have q1 := q2
        clear q2
        try simp only [Act.put, x2, x3, x4, x5, x6, x7]
        refine tk (i := 10) (v := ?_) rfl (Or.inl ⟨by rfl, ?_⟩) ?_
        rotate_left
        · intro Wq hSw
          clear hSw
          go_simp
          all_goals (with_reducible rfl)
        try simp only [Act.put, x2, x3, x4, x5, x6, x7]
        refine wpAnyH_done (by kernel_rfl) ?_ _
        go_wp2_with fail
        go_meet
        case rel => exact ⟨_, rfl, VN.out, (id q1).2.1, (id q1).2.2⟩
    · go_simp
      refine hK.out _ _ ?_ (fun q2 => ?_)
      · exact ⟨(id q1).1.below (bl_one _ _), (id q1).2.1.below (bl_one _ _), (id q1).2.2.below (bl_one _ _)⟩
      have hge := (id q1).2.2.sz
      have HN := hi ((id q1).2.2.var5 (.bool false) (.int .u64 0) (.int .u64 0) (.int .u64 0) (.int .u64 0) 73)
      clear hK K q1
      have q1 := q2
      clear q2
      try simp only [Act.put, x2, x3, x4, x5, x6, x7]
      revert HN
      revert q1
      generalize World.alloc _ _ = W2
      intro q1 HN
      refine r1 (i := 2) rfl (fun K hK => ?_)
      go_simp
      go_at_call 87
      (with_reducible refine (longWide_l d Bd.out _).mono ?_); rintro e w1 ⟨rfl, hb1⟩
      go_wp2_with fail
      refine hK.out _ _ ?_ (fun q2 => ?_)
      · exact ⟨(id q1).1.below hb1, (id q1).2.1.below hb1, (id q1).2.2.below hb1⟩
      replace HN := hi (HN.out.below hb1)
      clear hK K q1 hb1
      have q1 := q2
      clear q2
      try simp only [Act.put, x2, x3, x4, x5, x6, x7]
      refine r1 (i := 3) rfl (fun K hK => ?_)
      go_simp
      refine hK.out _ _ ?_ (fun q2 => ?_)
      · exact ⟨(id q1).1.below (bl_one _ _), (id q1).2.1.below (bl_one _ _), (id q1).2.2.below (bl_one _ _)⟩
      replace HN := hi (HN.out.below (al_of (id q2).2.2 (bl_one _ _)))
      have HL := hL_of (id q1).2.2 (fun W => wides2_wd W n d 73)
      clear hK K q1
      have q1 := q2
      clear q2
      try simp only [Act.put, x2, x3, x4, x5, x6, x7]
      revert HN
      revert HL
      revert q1
      generalize World.alloc _ _ = W2
      intro q1 HL HN
      refine r1 (i := 4) rfl (fun K hK => ?_)
      go_simp
      go_at_call 83
      (with_reducible refine (addQ2 n d Wn.out Wd'.out Wm.out _ _ _ HL.out).mono ?_); rintro e w1 ⟨rfl, hb1⟩
      go_wp2_with fail
      refine hK.out _ _ ?_ (fun q2 => ?_)
      · exact ⟨(id q1).1.below hb1, (id q1).2.1.below hb1, (id q1).2.2.below hb1⟩
      replace HN := hi (HN.out.below hb1)
      replace HL := hi (HL.out.below hb1)
      clear hK K q1 hb1
      have q1 := q2
      clear q2
      try simp only [Act.put, x2, x3, x4, x5, x6, x7]
      refine tk (i := 5) (v := ?_) rfl (Or.inl ⟨by rfl, ?_⟩) ?_
      rotate_left
      · intro Wq hSw
        clear hSw
        go_simp
        all_goals (with_reducible rfl)
      try simp only [Act.put, x2, x3, x4, x5, x6, x7]
      refine tk (i := 6) (v := ?_) rfl (Or.inl ⟨by rfl, ?_⟩) ?_
      rotate_left
      · intro Wq hSw
        clear hSw
        go_simp
        all_goals (with_reducible rfl)
      try simp only [Act.put, x2, x3, x4, x5, x6, x7]
      refine tk (i := 7) (v := ?_) rfl (Or.inl ⟨by rfl, ?_⟩) ?_
      rotate_left
      · intro Wq hSw
        clear hSw
        go_simp
        all_goals (with_reducible rfl)
      try simp only [Act.put, x2, x3, x4, x5, x6, x7]
      refine r1 (i := 9) rfl (fun K hK => ?_)
      obtain ⟨k0, k1, k2, k3, k4⟩ := HN.out.five
      obtain ⟨f0, f1, f2, f3, f4⟩ := HN.out.free5
      go_simp
      refine hK.out _ _ ?_ (fun q2 => ?_)
      · exact ⟨((((((id q1).1.far (by dsimp only; omega) _).far (by dsimp only; omega) _).far (by dsimp only; omega) _).far (by dsimp only; omega) _).far (by dsimp only; omega) _), ((((((id q1).2.1.far (by dsimp only; omega) _).far (by dsimp only; omega) _).far (by dsimp only; omega) _).far (by dsimp only; omega) _).far (by dsimp only; omega) _), ((((((id q1).2.2.set (by dsimp only; omega) _).set (by dsimp only; omega) _).set (by dsimp only; omega) _).set (by dsimp only; omega) _).set (by dsimp only; omega) _)⟩
      have VN := hi (HN.out.set5 (.bool (QM (n + d))) (.int .u64 (Q0 (n + d))) (.int .u64 (Q1 (n + d))) (.int .u64 (Q2 (n + d))) (.int .u64 (Q3 (n + d))))
      clear HL
      clear hK K q1 HN k0 k1 k2 k3 k4 f0 f1 f2 f3 f4
      have q1 := q2
      clear q2
      try simp only [Act.put, x2, x3, x4, x5, x6, x7]
      refine tk (i := 10) (v := ?_) rfl (Or.inl ⟨by rfl, ?_⟩) ?_
      rotate_left
      · intro Wq hSw
        clear hSw
        go_simp
        all_goals (with_reducible rfl)
      try simp only [Act.put, x2, x3, x4, x5, x6, x7]
      refine wpAnyH_done (by kernel_rfl) ?_ _
      go_wp2_with fail
      go_meet
      case rel => exact ⟨_, rfl, VN.out, (id q1).2.1, (id q1).2.2⟩
  case rest =>
  obtain ⟨g8, rfl, v8, v5, hG⟩ := hcut
  generalize n + d = m at *
  have HS1 : Hid ((fun W => Var W (w.heap.size + 1) [.int .u64 (LH (d)), .int .u64 (LL (d))] ∧ Var W (g8) [.bool (QM (m)), .int .u64 (Q0 (m)), .int .u64 (Q1 (m)), .int .u64 (Q2 (m)), .int .u64 (Q3 (m))] ∧ Grew w 2 W) _) := ⟨v5, v8, hG⟩
  clear v8 v5 hG HS0
  go_upto_region 2 with (fail)
  go_cut [10] (fun pq W => ∃ g10 : Nat, pq = .pointer (some ⟨g10, 0, none⟩) ∧ Var W (g10) [.bool (QM (m / (d + d))), .int .u64 (Q0 (m / (d + d))), .int .u64 (Q1 (m / (d + d))), .int .u64 (Q2 (m / (d + d))), .int .u64 (Q3 (m / (d + d)))] ∧ Grew w 2 W)
  case first =>
    refine wp_region_held_drew (S := fun W => Var W (w.heap.size + 1) [.int .u64 (LH (d)), .int .u64 (LL (d))] ∧ Var W (g8) [.bool (QM (m)), .int .u64 (Q0 (m)), .int .u64 (Q1 (m)), .int .u64 (Q2 (m)), .int .u64 (Q3 (m))] ∧ Grew w 2 W) (by kernel_rfl) ?_ (fun q1 => ?_)
    · exact ⟨HS1.out.1.below (bel_drew _), HS1.out.2.1.below (bel_drew _), HS1.out.2.2.below (bel_drew _)⟩
    revert q1
    generalize World.drew _ = W1
    intro q1
    refine tk (i := 0) (v := ?_) rfl (Or.inl ⟨by rfl, ?_⟩) ?_
    rotate_left
    · intro Wq hSw
      obtain ⟨k0, k1, k2, k3, k4⟩ := (id hSw).2.1.five
      clear hSw
      go_simp
      all_goals (with_reducible rfl)
    try simp only [Act.put, x2, x4, x5, x6, x7]
    refine tk (i := 1) (v := ?_) rfl (Or.inl ⟨by rfl, ?_⟩) ?_
    rotate_left
    · intro Wq hSw
      obtain ⟨k0, k1⟩ := (id hSw).1.two
      clear hSw
      go_simp
      all_goals (with_reducible rfl)
    try simp only [Act.put, x2, x3, x4, x5, x6, x7]
    refine tk (i := 2) (v := ?_) rfl (Or.inl ⟨by rfl, ?_⟩) ?_
    rotate_left
    · intro Wq hSw
      obtain ⟨k0, k1⟩ := (id hSw).1.two
      clear hSw
      go_simp
      all_goals (with_reducible rfl)
    try simp only [Act.put, x2, x3, x4, x5, x6, x7]
    refine wpAnyH_named (fun ops0 Qx a0 S0 e1 e2 e3 e4 => ?_)
    obtain ⟨v29_, f29_⟩ : ∃ v : Value, .agg #[.int .u64 (LH (d + d)), .int .u64 (LL (d + d))] = v := ⟨_, rfl⟩
    obtain ⟨v30_, f30_⟩ : ∃ v : Value, .agg #[.bool (QM (d + d)), .int .u64 (Q0 (d + d)), .int .u64 (Q1 (d + d)), .int .u64 (Q2 (d + d)), .int .u64 (Q3 (d + d))] = v := ⟨_, rfl⟩
    obtain ⟨v31_, f31_⟩ : ∃ v : Value, .tuple #[.agg #[.bool (QM (m / (d + d))), .int .u64 (Q0 (m / (d + d))), .int .u64 (Q1 (m / (d + d))), .int .u64 (Q2 (m / (d + d))), .int .u64 (Q3 (m / (d + d)))], .agg #[.bool (QM (m % (d + d))), .int .u64 (Q0 (m % (d + d))), .int .u64 (Q1 (m % (d + d))), .int .u64 (Q2 (m % (d + d))), .int .u64 (Q3 (m % (d + d)))], .int .i64 0] = v := ⟨_, rfl⟩
    obtain ⟨v25_, f25_⟩ : ∃ v : Value, .tuple #[.agg #[.bool (QM (m / (d + d))), .int .u64 (Q0 (m / (d + d))), .int .u64 (Q1 (m / (d + d))), .int .u64 (Q2 (m / (d + d))), .int .u64 (Q3 (m / (d + d)))], .agg #[.bool (QM (m % (d + d))), .int .u64 (Q0 (m % (d + d))), .int .u64 (Q1 (m % (d + d))), .int .u64 (Q2 (m % (d + d))), .int .u64 (Q3 (m % (d + d)))], .int .i64 0] = v := ⟨_, rfl⟩
    obtain ⟨v32_, f32_⟩ : ∃ v : Value, .agg #[.bool (QM (m / (d + d))), .int .u64 (Q0 (m / (d + d))), .int .u64 (Q1 (m / (d + d))), .int .u64 (Q2 (m / (d + d))), .int .u64 (Q3 (m / (d + d)))] = v := ⟨_, rfl⟩
    obtain ⟨v33_, f33_⟩ : ∃ v : Value, .agg #[.bool (QM (m % (d + d))), .int .u64 (Q0 (m % (d + d))), .int .u64 (Q1 (m % (d + d))), .int .u64 (Q2 (m % (d + d))), .int .u64 (Q3 (m % (d + d)))] = v := ⟨_, rfl⟩
    obtain ⟨v34_, f34_⟩ : ∃ v : Value, .int .i64 0 = v := ⟨_, rfl⟩
    have s0_ : Hid (∀ (W : World) (gHQ : Nat) (gHR : Nat), S0 W → g8 ≠ gHQ → g8 ≠ gHR → Hid (Var W gHQ [.bool false, .int .u64 0, .int .u64 0, .int .u64 0, .int .u64 0]) → w.heap.size + 2 ≤ gHQ → Hid (Var W gHR [.bool false, .int .u64 0, .int .u64 0, .int .u64 0, .int .u64 0]) → w.heap.size + 2 ≤ gHR → gHQ ≠ gHR → wpAnyH Try.prog .any ops0 Qx S0 3 #[true, true, true, true, true, true, true, true, true, true, true, true, false, false, false] (Act.put (Act.put (Act.put (Act.put (Act.put (Act.put (Act.put (Act.put (Act.put a0 (some 29) v29_) (some 30) v30_) (some 31) v31_) (some 25) v25_) (some 32) v32_) (some 33) v33_) (some 34) v34_) (some 10) (.pointer (some ⟨gHQ, 0, none⟩))) (some 11) (.pointer (some ⟨gHR, 0, none⟩))) W) := by
      refine hi ?_
      intro W1 gHQ gHR q1 ne_8_HQ ne_8_HR HQ geHQ HR geHR neHQHR
      cases e1; cases e2; cases e3; cases e4; cases f29_; cases f30_; cases f31_; cases f25_; cases f32_; cases f33_; cases f34_
      try simp only [Act.put, x5, x6, x7]
      refine r1 (i := 12) rfl (fun K hK => ?_)
      obtain ⟨k0, k1, k2, k3, k4⟩ := HQ.out.five
      obtain ⟨f0, f1, f2, f3, f4⟩ := HQ.out.free5
      go_simp
      refine hK.out _ _ ?_ (fun q2 => ?_)
      · exact ⟨((((((id q1).1.far (by dsimp only; omega) _).far (by dsimp only; omega) _).far (by dsimp only; omega) _).far (by dsimp only; omega) _).far (by dsimp only; omega) _), ((((((id q1).2.1.far (by dsimp only; omega) _).far (by dsimp only; omega) _).far (by dsimp only; omega) _).far (by dsimp only; omega) _).far (by dsimp only; omega) _), ((((((id q1).2.2.set (by dsimp only; omega) _).set (by dsimp only; omega) _).set (by dsimp only; omega) _).set (by dsimp only; omega) _).set (by dsimp only; omega) _)⟩
      replace HR := hi ((id q2).2.2.far5 HR.out (by dsimp only; omega) (by dsimp only; omega) (by dsimp only; omega) (by dsimp only; omega) (by dsimp only; omega))
      replace HQ := hi (HQ.out.set5 (.bool (QM (m / (d + d)))) (.int .u64 (Q0 (m / (d + d)))) (.int .u64 (Q1 (m / (d + d)))) (.int .u64 (Q2 (m / (d + d)))) (.int .u64 (Q3 (m / (d + d)))))
      clear hK K q1 k0 k1 k2 k3 k4 f0 f1 f2 f3 f4
      have q1 := q2
      clear q2
      try simp only [x5, x6, x7]
      refine r1 (i := 13) rfl (fun K hK => ?_)
      obtain ⟨k0, k1, k2, k3, k4⟩ := HR.out.five
      obtain ⟨f0, f1, f2, f3, f4⟩ := HR.out.free5
      go_simp
      refine hK.out _ _ ?_ (fun q2 => ?_)
      · exact ⟨((((((id q1).1.far (by dsimp only; omega) _).far (by dsimp only; omega) _).far (by dsimp only; omega) _).far (by dsimp only; omega) _).far (by dsimp only; omega) _), ((((((id q1).2.1.far (by dsimp only; omega) _).far (by dsimp only; omega) _).far (by dsimp only; omega) _).far (by dsimp only; omega) _).far (by dsimp only; omega) _), ((((((id q1).2.2.set (by dsimp only; omega) _).set (by dsimp only; omega) _).set (by dsimp only; omega) _).set (by dsimp only; omega) _).set (by dsimp only; omega) _)⟩
      replace HQ := hi ((id q2).2.2.far5 HQ.out (by dsimp only; omega) (by dsimp only; omega) (by dsimp only; omega) (by dsimp only; omega) (by dsimp only; omega))
      replace HR := hi (HR.out.set5 (.bool (QM (m % (d + d)))) (.int .u64 (Q0 (m % (d + d)))) (.int .u64 (Q1 (m % (d + d)))) (.int .u64 (Q2 (m % (d + d)))) (.int .u64 (Q3 (m % (d + d)))))
      clear hK K q1 k0 k1 k2 k3 k4 f0 f1 f2 f3 f4
      have q1 := q2
      clear q2
      try simp only [x5, x6, x7]
      refine tk (i := 14) (v := ?_) rfl (Or.inl ⟨by rfl, ?_⟩) ?_
      rotate_left
      · intro Wq hSw
        clear hSw
        go_simp
        all_goals (with_reducible rfl)
      try simp only [Act.put, x2, x3, x4, x5, x6, x7]
      refine wpAnyH_done (by kernel_rfl) ?_ _
      go_wp2_with fail
      go_meet
      case rel => exact ⟨gHQ, rfl, HQ.out, (id q1).2.2⟩
    have s1_ : Hid (∀ (W : World) (gHQ : Nat), S0 W → g8 ≠ gHQ → Hid (Var W gHQ [.bool false, .int .u64 0, .int .u64 0, .int .u64 0, .int .u64 0]) → w.heap.size + 2 ≤ gHQ → wpAnyH Try.prog .any ops0 Qx S0 4 #[true, true, true, true, true, true, true, true, true, true, true, false, false, false, false] (Act.put (Act.put (Act.put (Act.put (Act.put (Act.put (Act.put (Act.put a0 (some 29) v29_) (some 30) v30_) (some 31) v31_) (some 25) v25_) (some 32) v32_) (some 33) v33_) (some 34) v34_) (some 10) (.pointer (some ⟨gHQ, 0, none⟩))) W) := by
      refine hi ?_
      intro W1 gHQ q1 ne_8_HQ HQ geHQ
      cases e1; cases e2; cases e3; cases e4; cases f29_; cases f30_; cases f31_; cases f25_; cases f32_; cases f33_; cases f34_
      try simp only [Act.put, x5, x6, x7]
      refine r1 (i := 11) rfl (fun K hK => ?_)
      · go_simp
        refine hK.out _ _ ?_ (fun q2 => ?_)
        · exact ⟨(id q1).1.below (bl_one _ _), (id q1).2.1.below (bl_one _ _), (id q1).2.2.below (bl_one _ _)⟩
        refine wpAnyH_as (s0_.out _ gHQ _ q2 ne_8_HQ (Nat.ne_of_lt (id q1).2.1.lt) (hi (HQ.out.below (al_of (id q2).2.2 (bl_one _ _)))) geHQ (hi ((id q1).2.2.var5 (.bool false) (.int .u64 0) (.int .u64 0) (.int .u64 0) (.int .u64 0) 73)) (id q1).2.2.sz (Nat.ne_of_lt HQ.out.lt)) (by kernel_rfl) (by kernel_rfl) (by kernel_rfl)
    have s2_ : Hid (∀ (W : World) (gHR : Nat), S0 W → g8 ≠ gHR → Hid (Var W gHR [.bool false, .int .u64 0, .int .u64 0, .int .u64 0, .int .u64 0]) → w.heap.size + 2 ≤ gHR → wpAnyH Try.prog .any ops0 Qx S0 4 #[true, true, true, true, true, true, true, true, true, true, false, true, false, false, false] (Act.put (Act.put (Act.put (Act.put (Act.put (Act.put (Act.put (Act.put a0 (some 29) v29_) (some 30) v30_) (some 31) v31_) (some 25) v25_) (some 32) v32_) (some 33) v33_) (some 34) v34_) (some 11) (.pointer (some ⟨gHR, 0, none⟩))) W) := by
      clear s1_
      refine hi ?_
      intro W1 gHR q1 ne_8_HR HR geHR
      cases e1; cases e2; cases e3; cases e4; cases f29_; cases f30_; cases f31_; cases f25_; cases f32_; cases f33_; cases f34_
      try simp only [Act.put, x5, x6, x7]
      refine r1 (i := 10) rfl (fun K hK => ?_)
      · go_simp
        refine hK.out _ _ ?_ (fun q2 => ?_)
        · exact ⟨(id q1).1.below (bl_one _ _), (id q1).2.1.below (bl_one _ _), (id q1).2.2.below (bl_one _ _)⟩
        refine wpAnyH_as (s0_.out _ _ gHR q2 (Nat.ne_of_lt (id q1).2.1.lt) ne_8_HR (hi ((id q1).2.2.var5 (.bool false) (.int .u64 0) (.int .u64 0) (.int .u64 0) (.int .u64 0) 73)) (id q1).2.2.sz (hi (HR.out.below (al_of (id q2).2.2 (bl_one _ _)))) geHR (Nat.ne_of_gt HR.out.lt)) (by kernel_rfl) (by kernel_rfl) (by kernel_rfl)
    have s3_ : Hid (∀ (W : World), S0 W → wpAnyH Try.prog .any ops0 Qx S0 5 #[true, true, true, true, true, true, true, true, true, true, false, false, false, false, false] (Act.put (Act.put (Act.put (Act.put (Act.put (Act.put (Act.put a0 (some 29) v29_) (some 30) v30_) (some 31) v31_) (some 25) v25_) (some 32) v32_) (some 33) v33_) (some 34) v34_) W) := by
      clear s0_
      refine hi ?_
      intro W1  q1 
      cases e1; cases e2; cases e3; cases e4; cases f29_; cases f30_; cases f31_; cases f25_; cases f32_; cases f33_; cases f34_
      try simp only [Act.put, x5, x6, x7]
      refine r2 (i := 10) (j := 11) rfl (fun K hK => ?_) rfl (fun K hK => ?_)
      · go_simp
        refine hK.out _ _ ?_ (fun q2 => ?_)
        · exact ⟨(id q1).1.below (bl_one _ _), (id q1).2.1.below (bl_one _ _), (id q1).2.2.below (bl_one _ _)⟩
        refine wpAnyH_as (s1_.out _ _ q2 (Nat.ne_of_lt (id q1).2.1.lt) (hi ((id q1).2.2.var5 (.bool false) (.int .u64 0) (.int .u64 0) (.int .u64 0) (.int .u64 0) 73)) (id q1).2.2.sz) (by kernel_rfl) (by kernel_rfl) (by kernel_rfl)
      · go_simp
        refine hK.out _ _ ?_ (fun q2 => ?_)
        · exact ⟨(id q1).1.below (bl_one _ _), (id q1).2.1.below (bl_one _ _), (id q1).2.2.below (bl_one _ _)⟩
        refine wpAnyH_as (s2_.out _ _ q2 (Nat.ne_of_lt (id q1).2.1.lt) (hi ((id q1).2.2.var5 (.bool false) (.int .u64 0) (.int .u64 0) (.int .u64 0) (.int .u64 0) 73)) (id q1).2.2.sz) (by kernel_rfl) (by kernel_rfl) (by kernel_rfl)
    have s4_ : Hid (∀ (W : World) (gHQ : Nat) (gHR : Nat), S0 W → g8 ≠ gHQ → g8 ≠ gHR → Hid (Var W gHQ [.bool false, .int .u64 0, .int .u64 0, .int .u64 0, .int .u64 0]) → w.heap.size + 2 ≤ gHQ → Hid (Var W gHR [.bool false, .int .u64 0, .int .u64 0, .int .u64 0, .int .u64 0]) → w.heap.size + 2 ≤ gHR → gHQ ≠ gHR → wpAnyH Try.prog .any ops0 Qx S0 8 #[true, true, true, true, true, false, false, false, false, false, true, true, false, false, false] (Act.put (Act.put (Act.put (Act.put a0 (some 29) v29_) (some 30) v30_) (some 10) (.pointer (some ⟨gHQ, 0, none⟩))) (some 11) (.pointer (some ⟨gHR, 0, none⟩))) W) := by
      clear s1_ s2_ s3_
      refine hi ?_
      intro W1 gHQ gHR q1 ne_8_HQ ne_8_HR HQ geHQ HR geHR neHQHR
      cases e1; cases e2; cases e3; cases e4; cases f29_; cases f30_; cases f31_; cases f25_; cases f32_; cases f33_; cases f34_
      try simp only [Act.put, x5, x6, x7]
      refine r1 (i := 5) rfl (fun K hK => ?_)
      · go_simp
        go_at_call 92
        (with_reducible refine (dmQ m (d + d) Wm.out Wdd.out H0.out _).mono ?_); rintro e w1 ⟨rfl, hb1⟩
        go_wp2_with fail
        refine hK.out _ _ ?_ (fun q2 => ?_)
        · exact ⟨(id q1).1.below hb1, (id q1).2.1.below hb1, (id q1).2.2.below hb1⟩
        have q19 := q2
        try simp only [x5, x6, x7]
        refine tk (i := 6) (v := ?_) rfl (Or.inl ⟨by rfl, ?_⟩) ?_
        rotate_left
        · intro Wq hSw
          clear hSw
          go_simp
          all_goals (with_reducible rfl)
        try simp only [Act.put, x2, x3, x4, x5, x6, x7]
        refine tk (i := 7) (v := ?_) rfl (Or.inl ⟨by rfl, ?_⟩) ?_
        rotate_left
        · intro Wq hSw
          clear hSw
          go_simp
          all_goals (with_reducible rfl)
        try simp only [Act.put, x2, x3, x4, x5, x6, x7]
        refine tk (i := 8) (v := ?_) rfl (Or.inl ⟨by rfl, ?_⟩) ?_
        rotate_left
        · intro Wq hSw
          clear hSw
          go_simp
          all_goals (with_reducible rfl)
        try simp only [Act.put, x2, x3, x4, x5, x6, x7]
        refine tk (i := 9) (v := ?_) rfl (Or.inl ⟨by rfl, ?_⟩) ?_
        rotate_left
        · intro Wq hSw
          clear hSw
          go_simp
          all_goals (with_reducible rfl)
        try simp only [Act.put, x2, x3, x4, x5, x6, x7]
        refine wpAnyH_as (s0_.out _ gHQ gHR q2 ne_8_HQ ne_8_HR (hi (HQ.out.below hb1)) geHQ (hi (HR.out.below hb1)) geHR neHQHR) (by kernel_rfl) (by kernel_rfl) (by kernel_rfl)
    have s5_ : Hid (∀ (W : World) (gHQ : Nat), S0 W → g8 ≠ gHQ → Hid (Var W gHQ [.bool false, .int .u64 0, .int .u64 0, .int .u64 0, .int .u64 0]) → w.heap.size + 2 ≤ gHQ → wpAnyH Try.prog .any ops0 Qx S0 9 #[true, true, true, true, true, false, false, false, false, false, true, false, false, false, false] (Act.put (Act.put (Act.put a0 (some 29) v29_) (some 30) v30_) (some 10) (.pointer (some ⟨gHQ, 0, none⟩))) W) := by
      clear s0_ s2_ s3_
      refine hi ?_
      intro W1 gHQ q1 ne_8_HQ HQ geHQ
      cases e1; cases e2; cases e3; cases e4; cases f29_; cases f30_; cases f31_; cases f25_; cases f32_; cases f33_; cases f34_
      try simp only [Act.put, x5, x6, x7]
      refine r2 (i := 5) (j := 11) rfl (fun K hK => ?_) rfl (fun K hK => ?_)
      · go_simp
        go_at_call 92
        (with_reducible refine (dmQ m (d + d) Wm.out Wdd.out H0.out _).mono ?_); rintro e w1 ⟨rfl, hb1⟩
        go_wp2_with fail
        refine hK.out _ _ ?_ (fun q2 => ?_)
        · exact ⟨(id q1).1.below hb1, (id q1).2.1.below hb1, (id q1).2.2.below hb1⟩
        have q19 := q2
        try simp only [x5, x6, x7]
        refine tk (i := 6) (v := ?_) rfl (Or.inl ⟨by rfl, ?_⟩) ?_
        rotate_left
        · intro Wq hSw
          clear hSw
          go_simp
          all_goals (with_reducible rfl)
        try simp only [Act.put, x2, x3, x4, x5, x6, x7]
        refine tk (i := 7) (v := ?_) rfl (Or.inl ⟨by rfl, ?_⟩) ?_
        rotate_left
        · intro Wq hSw
          clear hSw
          go_simp
          all_goals (with_reducible rfl)
        try simp only [Act.put, x2, x3, x4, x5, x6, x7]
        refine tk (i := 8) (v := ?_) rfl (Or.inl ⟨by rfl, ?_⟩) ?_
        rotate_left
        · intro Wq hSw
          clear hSw
          go_simp
          all_goals (with_reducible rfl)
        try simp only [Act.put, x2, x3, x4, x5, x6, x7]
        refine tk (i := 9) (v := ?_) rfl (Or.inl ⟨by rfl, ?_⟩) ?_
        rotate_left
        · intro Wq hSw
          clear hSw
          go_simp
          all_goals (with_reducible rfl)
        try simp only [Act.put, x2, x3, x4, x5, x6, x7]
        refine wpAnyH_as (s1_.out _ gHQ q2 ne_8_HQ (hi (HQ.out.below hb1)) geHQ) (by kernel_rfl) (by kernel_rfl) (by kernel_rfl)
      · go_simp
        refine hK.out _ _ ?_ (fun q2 => ?_)
        · exact ⟨(id q1).1.below (bl_one _ _), (id q1).2.1.below (bl_one _ _), (id q1).2.2.below (bl_one _ _)⟩
        refine wpAnyH_as (s4_.out _ gHQ _ q2 ne_8_HQ (Nat.ne_of_lt (id q1).2.1.lt) (hi (HQ.out.below (al_of (id q2).2.2 (bl_one _ _)))) geHQ (hi ((id q1).2.2.var5 (.bool false) (.int .u64 0) (.int .u64 0) (.int .u64 0) (.int .u64 0) 73)) (id q1).2.2.sz (Nat.ne_of_lt HQ.out.lt)) (by kernel_rfl) (by kernel_rfl) (by kernel_rfl)
    have s6_ : Hid (∀ (W : World) (gHR : Nat), S0 W → g8 ≠ gHR → Hid (Var W gHR [.bool false, .int .u64 0, .int .u64 0, .int .u64 0, .int .u64 0]) → w.heap.size + 2 ≤ gHR → wpAnyH Try.prog .any ops0 Qx S0 9 #[true, true, true, true, true, false, false, false, false, false, false, true, false, false, false] (Act.put (Act.put (Act.put a0 (some 29) v29_) (some 30) v30_) (some 11) (.pointer (some ⟨gHR, 0, none⟩))) W) := by
      clear s0_ s1_ s3_ s5_
      refine hi ?_
      intro W1 gHR q1 ne_8_HR HR geHR
      cases e1; cases e2; cases e3; cases e4; cases f29_; cases f30_; cases f31_; cases f25_; cases f32_; cases f33_; cases f34_
      try simp only [Act.put, x5, x6, x7]
      refine r2 (i := 5) (j := 10) rfl (fun K hK => ?_) rfl (fun K hK => ?_)
      · go_simp
        go_at_call 92
        (with_reducible refine (dmQ m (d + d) Wm.out Wdd.out H0.out _).mono ?_); rintro e w1 ⟨rfl, hb1⟩
        go_wp2_with fail
        refine hK.out _ _ ?_ (fun q2 => ?_)
        · exact ⟨(id q1).1.below hb1, (id q1).2.1.below hb1, (id q1).2.2.below hb1⟩
        have q19 := q2
        try simp only [x5, x6, x7]
        refine tk (i := 6) (v := ?_) rfl (Or.inl ⟨by rfl, ?_⟩) ?_
        rotate_left
        · intro Wq hSw
          clear hSw
          go_simp
          all_goals (with_reducible rfl)
        try simp only [Act.put, x2, x3, x4, x5, x6, x7]
        refine tk (i := 7) (v := ?_) rfl (Or.inl ⟨by rfl, ?_⟩) ?_
        rotate_left
        · intro Wq hSw
          clear hSw
          go_simp
          all_goals (with_reducible rfl)
        try simp only [Act.put, x2, x3, x4, x5, x6, x7]
        refine tk (i := 8) (v := ?_) rfl (Or.inl ⟨by rfl, ?_⟩) ?_
        rotate_left
        · intro Wq hSw
          clear hSw
          go_simp
          all_goals (with_reducible rfl)
        try simp only [Act.put, x2, x3, x4, x5, x6, x7]
        refine tk (i := 9) (v := ?_) rfl (Or.inl ⟨by rfl, ?_⟩) ?_
        rotate_left
        · intro Wq hSw
          clear hSw
          go_simp
          all_goals (with_reducible rfl)
        try simp only [Act.put, x2, x3, x4, x5, x6, x7]
        refine wpAnyH_as (s2_.out _ gHR q2 ne_8_HR (hi (HR.out.below hb1)) geHR) (by kernel_rfl) (by kernel_rfl) (by kernel_rfl)
      · go_simp
        refine hK.out _ _ ?_ (fun q2 => ?_)
        · exact ⟨(id q1).1.below (bl_one _ _), (id q1).2.1.below (bl_one _ _), (id q1).2.2.below (bl_one _ _)⟩
        refine wpAnyH_as (s4_.out _ _ gHR q2 (Nat.ne_of_lt (id q1).2.1.lt) ne_8_HR (hi ((id q1).2.2.var5 (.bool false) (.int .u64 0) (.int .u64 0) (.int .u64 0) (.int .u64 0) 73)) (id q1).2.2.sz (hi (HR.out.below (al_of (id q2).2.2 (bl_one _ _)))) geHR (Nat.ne_of_gt HR.out.lt)) (by kernel_rfl) (by kernel_rfl) (by kernel_rfl)
    have s7_ : Hid (∀ (W : World), S0 W → wpAnyH Try.prog .any ops0 Qx S0 10 #[true, true, true, true, true, false, false, false, false, false, false, false, false, false, false] (Act.put (Act.put a0 (some 29) v29_) (some 30) v30_) W) := by
      clear s0_ s1_ s2_ s4_
      refine hi ?_
      intro W1  q1 
      cases e1; cases e2; cases e3; cases e4; cases f29_; cases f30_; cases f31_; cases f25_; cases f32_; cases f33_; cases f34_
      try simp only [Act.put, x5, x6, x7]
      refine wpAnyH_ready (rs := [5, 10, 11]) (by kernel_rfl) (by simp) ?_
      refine (AllReadyH.cons rfl (fun K hK => ?_) (AllReadyH.cons rfl (fun K hK => ?_) (AllReadyH.cons rfl (fun K hK => ?_) AllReadyH.nil)))
      · rw [if_pos (by rfl)]
        go_simp
        go_at_call 92
        (with_reducible refine (dmQ m (d + d) Wm.out Wdd.out H0.out _).mono ?_); rintro e w1 ⟨rfl, hb1⟩
        go_wp2_with fail
        refine hK.out _ _ ?_ (fun q2 => ?_)
        · exact ⟨(id q1).1.below hb1, (id q1).2.1.below hb1, (id q1).2.2.below hb1⟩
        have q19 := q2
        try simp only [x5, x6, x7]
        refine tk (i := 6) (v := ?_) rfl (Or.inl ⟨by rfl, ?_⟩) ?_
        rotate_left
        · intro Wq hSw
          clear hSw
          go_simp
          all_goals (with_reducible rfl)
        try simp only [Act.put, x2, x3, x4, x5, x6, x7]
        refine tk (i := 7) (v := ?_) rfl (Or.inl ⟨by rfl, ?_⟩) ?_
        rotate_left
        · intro Wq hSw
          clear hSw
          go_simp
          all_goals (with_reducible rfl)
        try simp only [Act.put, x2, x3, x4, x5, x6, x7]
        refine tk (i := 8) (v := ?_) rfl (Or.inl ⟨by rfl, ?_⟩) ?_
        rotate_left
        · intro Wq hSw
          clear hSw
          go_simp
          all_goals (with_reducible rfl)
        try simp only [Act.put, x2, x3, x4, x5, x6, x7]
        refine tk (i := 9) (v := ?_) rfl (Or.inl ⟨by rfl, ?_⟩) ?_
        rotate_left
        · intro Wq hSw
          clear hSw
          go_simp
          all_goals (with_reducible rfl)
        try simp only [Act.put, x2, x3, x4, x5, x6, x7]
        refine wpAnyH_as (s3_.out _ q2) (by kernel_rfl) (by kernel_rfl) (by kernel_rfl)
      · rw [if_pos (by rfl)]
        go_simp
        refine hK.out _ _ ?_ (fun q2 => ?_)
        · exact ⟨(id q1).1.below (bl_one _ _), (id q1).2.1.below (bl_one _ _), (id q1).2.2.below (bl_one _ _)⟩
        refine wpAnyH_as (s5_.out _ _ q2 (Nat.ne_of_lt (id q1).2.1.lt) (hi ((id q1).2.2.var5 (.bool false) (.int .u64 0) (.int .u64 0) (.int .u64 0) (.int .u64 0) 73)) (id q1).2.2.sz) (by kernel_rfl) (by kernel_rfl) (by kernel_rfl)
      · rw [if_pos (by rfl)]
        go_simp
        refine hK.out _ _ ?_ (fun q2 => ?_)
        · exact ⟨(id q1).1.below (bl_one _ _), (id q1).2.1.below (bl_one _ _), (id q1).2.2.below (bl_one _ _)⟩
        refine wpAnyH_as (s6_.out _ _ q2 (Nat.ne_of_lt (id q1).2.1.lt) (hi ((id q1).2.2.var5 (.bool false) (.int .u64 0) (.int .u64 0) (.int .u64 0) (.int .u64 0) 73)) (id q1).2.2.sz) (by kernel_rfl) (by kernel_rfl) (by kernel_rfl)
    have s8_ : Hid (∀ (W : World) (gHQ : Nat) (gHR : Nat), S0 W → g8 ≠ gHQ → g8 ≠ gHR → Hid (Var W gHQ [.bool false, .int .u64 0, .int .u64 0, .int .u64 0, .int .u64 0]) → w.heap.size + 2 ≤ gHQ → Hid (Var W gHR [.bool false, .int .u64 0, .int .u64 0, .int .u64 0, .int .u64 0]) → w.heap.size + 2 ≤ gHR → gHQ ≠ gHR → wpAnyH Try.prog .any ops0 Qx S0 9 #[true, true, true, true, false, false, false, false, false, false, true, true, false, false, false] (Act.put (Act.put (Act.put a0 (some 29) v29_) (some 10) (.pointer (some ⟨gHQ, 0, none⟩))) (some 11) (.pointer (some ⟨gHR, 0, none⟩))) W) := by
      clear s0_ s1_ s2_ s3_ s5_ s6_ s7_
      refine hi ?_
      intro W1 gHQ gHR q1 ne_8_HQ ne_8_HR HQ geHQ HR geHR neHQHR
      cases e1; cases e2; cases e3; cases e4; cases f29_; cases f30_; cases f31_; cases f25_; cases f32_; cases f33_; cases f34_
      try simp only [Act.put, x5, x6, x7]
      refine r1 (i := 4) rfl (fun K hK => ?_)
      · go_simp
        go_at_call 87
        (with_reducible refine (longWide_l (d + d) Bdd.out _).mono ?_); rintro e w1 ⟨rfl, hb1⟩
        go_wp2_with fail
        refine hK.out _ _ ?_ (fun q2 => ?_)
        · exact ⟨(id q1).1.below hb1, (id q1).2.1.below hb1, (id q1).2.2.below hb1⟩
        refine wpAnyH_as (s4_.out _ gHQ gHR q2 ne_8_HQ ne_8_HR (hi (HQ.out.below hb1)) geHQ (hi (HR.out.below hb1)) geHR neHQHR) (by kernel_rfl) (by kernel_rfl) (by kernel_rfl)
    have s9_ : Hid (∀ (W : World) (gHQ : Nat), S0 W → g8 ≠ gHQ → Hid (Var W gHQ [.bool false, .int .u64 0, .int .u64 0, .int .u64 0, .int .u64 0]) → w.heap.size + 2 ≤ gHQ → wpAnyH Try.prog .any ops0 Qx S0 10 #[true, true, true, true, false, false, false, false, false, false, true, false, false, false, false] (Act.put (Act.put a0 (some 29) v29_) (some 10) (.pointer (some ⟨gHQ, 0, none⟩))) W) := by
      clear s0_ s1_ s2_ s3_ s4_ s6_ s7_
      refine hi ?_
      intro W1 gHQ q1 ne_8_HQ HQ geHQ
      cases e1; cases e2; cases e3; cases e4; cases f29_; cases f30_; cases f31_; cases f25_; cases f32_; cases f33_; cases f34_
      try simp only [Act.put, x5, x6, x7]
      refine r2 (i := 4) (j := 11) rfl (fun K hK => ?_) rfl (fun K hK => ?_)
      · go_simp
        go_at_call 87
        (with_reducible refine (longWide_l (d + d) Bdd.out _).mono ?_); rintro e w1 ⟨rfl, hb1⟩
        go_wp2_with fail
        refine hK.out _ _ ?_ (fun q2 => ?_)
        · exact ⟨(id q1).1.below hb1, (id q1).2.1.below hb1, (id q1).2.2.below hb1⟩
        refine wpAnyH_as (s5_.out _ gHQ q2 ne_8_HQ (hi (HQ.out.below hb1)) geHQ) (by kernel_rfl) (by kernel_rfl) (by kernel_rfl)
      · go_simp
        refine hK.out _ _ ?_ (fun q2 => ?_)
        · exact ⟨(id q1).1.below (bl_one _ _), (id q1).2.1.below (bl_one _ _), (id q1).2.2.below (bl_one _ _)⟩
        refine wpAnyH_as (s8_.out _ gHQ _ q2 ne_8_HQ (Nat.ne_of_lt (id q1).2.1.lt) (hi (HQ.out.below (al_of (id q2).2.2 (bl_one _ _)))) geHQ (hi ((id q1).2.2.var5 (.bool false) (.int .u64 0) (.int .u64 0) (.int .u64 0) (.int .u64 0) 73)) (id q1).2.2.sz (Nat.ne_of_lt HQ.out.lt)) (by kernel_rfl) (by kernel_rfl) (by kernel_rfl)
    have s10_ : Hid (∀ (W : World) (gHR : Nat), S0 W → g8 ≠ gHR → Hid (Var W gHR [.bool false, .int .u64 0, .int .u64 0, .int .u64 0, .int .u64 0]) → w.heap.size + 2 ≤ gHR → wpAnyH Try.prog .any ops0 Qx S0 10 #[true, true, true, true, false, false, false, false, false, false, false, true, false, false, false] (Act.put (Act.put a0 (some 29) v29_) (some 11) (.pointer (some ⟨gHR, 0, none⟩))) W) := by
      clear s0_ s1_ s2_ s3_ s4_ s5_ s7_ s9_
      refine hi ?_
      intro W1 gHR q1 ne_8_HR HR geHR
      cases e1; cases e2; cases e3; cases e4; cases f29_; cases f30_; cases f31_; cases f25_; cases f32_; cases f33_; cases f34_
      try simp only [Act.put, x5, x6, x7]
      refine r2 (i := 4) (j := 10) rfl (fun K hK => ?_) rfl (fun K hK => ?_)
      · go_simp
        go_at_call 87
        (with_reducible refine (longWide_l (d + d) Bdd.out _).mono ?_); rintro e w1 ⟨rfl, hb1⟩
        go_wp2_with fail
        refine hK.out _ _ ?_ (fun q2 => ?_)
        · exact ⟨(id q1).1.below hb1, (id q1).2.1.below hb1, (id q1).2.2.below hb1⟩
        refine wpAnyH_as (s6_.out _ gHR q2 ne_8_HR (hi (HR.out.below hb1)) geHR) (by kernel_rfl) (by kernel_rfl) (by kernel_rfl)
      · go_simp
        refine hK.out _ _ ?_ (fun q2 => ?_)
        · exact ⟨(id q1).1.below (bl_one _ _), (id q1).2.1.below (bl_one _ _), (id q1).2.2.below (bl_one _ _)⟩
        refine wpAnyH_as (s8_.out _ _ gHR q2 (Nat.ne_of_lt (id q1).2.1.lt) ne_8_HR (hi ((id q1).2.2.var5 (.bool false) (.int .u64 0) (.int .u64 0) (.int .u64 0) (.int .u64 0) 73)) (id q1).2.2.sz (hi (HR.out.below (al_of (id q2).2.2 (bl_one _ _)))) geHR (Nat.ne_of_gt HR.out.lt)) (by kernel_rfl) (by kernel_rfl) (by kernel_rfl)
    have s11_ : Hid (∀ (W : World), S0 W → wpAnyH Try.prog .any ops0 Qx S0 11 #[true, true, true, true, false, false, false, false, false, false, false, false, false, false, false] (Act.put a0 (some 29) v29_) W) := by
      clear s0_ s1_ s2_ s3_ s4_ s5_ s6_ s8_
      refine hi ?_
      intro W1  q1 
      cases e1; cases e2; cases e3; cases e4; cases f29_; cases f30_; cases f31_; cases f25_; cases f32_; cases f33_; cases f34_
      try simp only [Act.put, x5, x6, x7]
      refine wpAnyH_ready (rs := [4, 10, 11]) (by kernel_rfl) (by simp) ?_
      refine (AllReadyH.cons rfl (fun K hK => ?_) (AllReadyH.cons rfl (fun K hK => ?_) (AllReadyH.cons rfl (fun K hK => ?_) AllReadyH.nil)))
      · rw [if_pos (by rfl)]
        go_simp
        go_at_call 87
        (with_reducible refine (longWide_l (d + d) Bdd.out _).mono ?_); rintro e w1 ⟨rfl, hb1⟩
        go_wp2_with fail
        refine hK.out _ _ ?_ (fun q2 => ?_)
        · exact ⟨(id q1).1.below hb1, (id q1).2.1.below hb1, (id q1).2.2.below hb1⟩
        refine wpAnyH_as (s7_.out _ q2) (by kernel_rfl) (by kernel_rfl) (by kernel_rfl)
      · rw [if_pos (by rfl)]
        go_simp
        refine hK.out _ _ ?_ (fun q2 => ?_)
        · exact ⟨(id q1).1.below (bl_one _ _), (id q1).2.1.below (bl_one _ _), (id q1).2.2.below (bl_one _ _)⟩
        refine wpAnyH_as (s9_.out _ _ q2 (Nat.ne_of_lt (id q1).2.1.lt) (hi ((id q1).2.2.var5 (.bool false) (.int .u64 0) (.int .u64 0) (.int .u64 0) (.int .u64 0) 73)) (id q1).2.2.sz) (by kernel_rfl) (by kernel_rfl) (by kernel_rfl)
      · rw [if_pos (by rfl)]
        go_simp
        refine hK.out _ _ ?_ (fun q2 => ?_)
        · exact ⟨(id q1).1.below (bl_one _ _), (id q1).2.1.below (bl_one _ _), (id q1).2.2.below (bl_one _ _)⟩
        refine wpAnyH_as (s10_.out _ _ q2 (Nat.ne_of_lt (id q1).2.1.lt) (hi ((id q1).2.2.var5 (.bool false) (.int .u64 0) (.int .u64 0) (.int .u64 0) (.int .u64 0) 73)) (id q1).2.2.sz) (by kernel_rfl) (by kernel_rfl) (by kernel_rfl)
    have s12_ : Hid (∀ (W : World) (gHQ : Nat) (gHR : Nat), S0 W → g8 ≠ gHQ → g8 ≠ gHR → Hid (Var W gHQ [.bool false, .int .u64 0, .int .u64 0, .int .u64 0, .int .u64 0]) → w.heap.size + 2 ≤ gHQ → Hid (Var W gHR [.bool false, .int .u64 0, .int .u64 0, .int .u64 0, .int .u64 0]) → w.heap.size + 2 ≤ gHR → gHQ ≠ gHR → wpAnyH Try.prog .any ops0 Qx S0 10 #[true, true, true, false, false, false, false, false, false, false, true, true, false, false, false] (Act.put (Act.put a0 (some 10) (.pointer (some ⟨gHQ, 0, none⟩))) (some 11) (.pointer (some ⟨gHR, 0, none⟩))) W) := by
      clear s0_ s1_ s2_ s3_ s4_ s5_ s6_ s7_ s9_ s10_ s11_
      refine hi ?_
      intro W1 gHQ gHR q1 ne_8_HQ ne_8_HR HQ geHQ HR geHR neHQHR
      cases e1; cases e2; cases e3; cases e4; cases f29_; cases f30_; cases f31_; cases f25_; cases f32_; cases f33_; cases f34_
      try simp only [Act.put, x5, x6, x7]
      refine r1 (i := 3) rfl (fun K hK => ?_)
      · go_simp
        go_at_call 85
        (with_reducible refine (plus_l d d _).mono ?_); rintro e w1 ⟨rfl, hb1⟩
        go_wp2_with fail
        refine hK.out _ _ ?_ (fun q2 => ?_)
        · exact ⟨(id q1).1.below hb1, (id q1).2.1.below hb1, (id q1).2.2.below hb1⟩
        refine wpAnyH_as (s8_.out _ gHQ gHR q2 ne_8_HQ ne_8_HR (hi (HQ.out.below hb1)) geHQ (hi (HR.out.below hb1)) geHR neHQHR) (by kernel_rfl) (by kernel_rfl) (by kernel_rfl)
    have s13_ : Hid (∀ (W : World) (gHQ : Nat), S0 W → g8 ≠ gHQ → Hid (Var W gHQ [.bool false, .int .u64 0, .int .u64 0, .int .u64 0, .int .u64 0]) → w.heap.size + 2 ≤ gHQ → wpAnyH Try.prog .any ops0 Qx S0 11 #[true, true, true, false, false, false, false, false, false, false, true, false, false, false, false] (Act.put a0 (some 10) (.pointer (some ⟨gHQ, 0, none⟩))) W) := by
      clear s0_ s1_ s2_ s3_ s4_ s5_ s6_ s7_ s8_ s10_ s11_
      refine hi ?_
      intro W1 gHQ q1 ne_8_HQ HQ geHQ
      cases e1; cases e2; cases e3; cases e4; cases f29_; cases f30_; cases f31_; cases f25_; cases f32_; cases f33_; cases f34_
      try simp only [Act.put, x5, x6, x7]
      refine r2 (i := 3) (j := 11) rfl (fun K hK => ?_) rfl (fun K hK => ?_)
      · go_simp
        go_at_call 85
        (with_reducible refine (plus_l d d _).mono ?_); rintro e w1 ⟨rfl, hb1⟩
        go_wp2_with fail
        refine hK.out _ _ ?_ (fun q2 => ?_)
        · exact ⟨(id q1).1.below hb1, (id q1).2.1.below hb1, (id q1).2.2.below hb1⟩
        refine wpAnyH_as (s9_.out _ gHQ q2 ne_8_HQ (hi (HQ.out.below hb1)) geHQ) (by kernel_rfl) (by kernel_rfl) (by kernel_rfl)
      · go_simp
        refine hK.out _ _ ?_ (fun q2 => ?_)
        · exact ⟨(id q1).1.below (bl_one _ _), (id q1).2.1.below (bl_one _ _), (id q1).2.2.below (bl_one _ _)⟩
        refine wpAnyH_as (s12_.out _ gHQ _ q2 ne_8_HQ (Nat.ne_of_lt (id q1).2.1.lt) (hi (HQ.out.below (al_of (id q2).2.2 (bl_one _ _)))) geHQ (hi ((id q1).2.2.var5 (.bool false) (.int .u64 0) (.int .u64 0) (.int .u64 0) (.int .u64 0) 73)) (id q1).2.2.sz (Nat.ne_of_lt HQ.out.lt)) (by kernel_rfl) (by kernel_rfl) (by kernel_rfl)
    have s14_ : Hid (∀ (W : World) (gHR : Nat), S0 W → g8 ≠ gHR → Hid (Var W gHR [.bool false, .int .u64 0, .int .u64 0, .int .u64 0, .int .u64 0]) → w.heap.size + 2 ≤ gHR → wpAnyH Try.prog .any ops0 Qx S0 11 #[true, true, true, false, false, false, false, false, false, false, false, true, false, false, false] (Act.put a0 (some 11) (.pointer (some ⟨gHR, 0, none⟩))) W) := by
      clear s0_ s1_ s2_ s3_ s4_ s5_ s6_ s7_ s8_ s9_ s11_ s13_
      refine hi ?_
      intro W1 gHR q1 ne_8_HR HR geHR
      cases e1; cases e2; cases e3; cases e4; cases f29_; cases f30_; cases f31_; cases f25_; cases f32_; cases f33_; cases f34_
      try simp only [Act.put, x5, x6, x7]
      refine r2 (i := 3) (j := 10) rfl (fun K hK => ?_) rfl (fun K hK => ?_)
      · go_simp
        go_at_call 85
        (with_reducible refine (plus_l d d _).mono ?_); rintro e w1 ⟨rfl, hb1⟩
        go_wp2_with fail
        refine hK.out _ _ ?_ (fun q2 => ?_)
        · exact ⟨(id q1).1.below hb1, (id q1).2.1.below hb1, (id q1).2.2.below hb1⟩
        refine wpAnyH_as (s10_.out _ gHR q2 ne_8_HR (hi (HR.out.below hb1)) geHR) (by kernel_rfl) (by kernel_rfl) (by kernel_rfl)
      · go_simp
        refine hK.out _ _ ?_ (fun q2 => ?_)
        · exact ⟨(id q1).1.below (bl_one _ _), (id q1).2.1.below (bl_one _ _), (id q1).2.2.below (bl_one _ _)⟩
        refine wpAnyH_as (s12_.out _ _ gHR q2 (Nat.ne_of_lt (id q1).2.1.lt) ne_8_HR (hi ((id q1).2.2.var5 (.bool false) (.int .u64 0) (.int .u64 0) (.int .u64 0) (.int .u64 0) 73)) (id q1).2.2.sz (hi (HR.out.below (al_of (id q2).2.2 (bl_one _ _)))) geHR (Nat.ne_of_gt HR.out.lt)) (by kernel_rfl) (by kernel_rfl) (by kernel_rfl)
    clear s0_ s1_ s2_ s3_ s4_ s5_ s6_ s7_ s8_ s9_ s10_ s12_
    cases e1; cases e2; cases e3; cases e4; cases f29_; cases f30_; cases f31_; cases f25_; cases f32_; cases f33_; cases f34_
    refine wpAnyH_ready (rs := [3, 10, 11]) (by kernel_rfl) (by simp) ?_
    refine (AllReadyH.cons rfl (fun K hK => ?_) (AllReadyH.cons rfl (fun K hK => ?_) (AllReadyH.cons rfl (fun K hK => ?_) AllReadyH.nil)))
    · rw [if_pos (by rfl)]
      go_simp
      go_at_call 85
      (with_reducible refine (plus_l d d _).mono ?_); rintro e w1 ⟨rfl, hb1⟩
      go_wp2_with fail
      refine hK.out _ _ ?_ (fun q2 => ?_)
      · exact ⟨(id q1).1.below hb1, (id q1).2.1.below hb1, (id q1).2.2.below hb1⟩
      refine wpAnyH_as (s11_.out _ q2) (by kernel_rfl) (by kernel_rfl) (by kernel_rfl)
    · rw [if_pos (by rfl)]
      go_simp
      refine hK.out _ _ ?_ (fun q2 => ?_)
      · exact ⟨(id q1).1.below (bl_one _ _), (id q1).2.1.below (bl_one _ _), (id q1).2.2.below (bl_one _ _)⟩
      refine wpAnyH_as (s13_.out _ _ q2 (Nat.ne_of_lt (id q1).2.1.lt) (hi ((id q1).2.2.var5 (.bool false) (.int .u64 0) (.int .u64 0) (.int .u64 0) (.int .u64 0) 73)) (id q1).2.2.sz) (by kernel_rfl) (by kernel_rfl) (by kernel_rfl)
    · rw [if_pos (by rfl)]
      go_simp
      refine hK.out _ _ ?_ (fun q2 => ?_)
      · exact ⟨(id q1).1.below (bl_one _ _), (id q1).2.1.below (bl_one _ _), (id q1).2.2.below (bl_one _ _)⟩
      refine wpAnyH_as (s14_.out _ _ q2 (Nat.ne_of_lt (id q1).2.1.lt) (hi ((id q1).2.2.var5 (.bool false) (.int .u64 0) (.int .u64 0) (.int .u64 0) (.int .u64 0) 73)) (id q1).2.2.sz) (by kernel_rfl) (by kernel_rfl) (by kernel_rfl)
  case rest =>
  obtain ⟨g10, rfl, v10, hG⟩ := hcut
  generalize m / (d + d) = q at *
  have HS2 : Hid ((fun W => Var W (g10) [.bool (QM (q)), .int .u64 (Q0 (q)), .int .u64 (Q1 (q)), .int .u64 (Q2 (q)), .int .u64 (Q3 (q))] ∧ Grew w 2 W) _) := ⟨v10, hG⟩
  clear v10 hG HS1
  go_upto_region 3 with (fail)
  go_cut [13] (fun ps W => ∃ g13 : Nat, ps = .pointer (some ⟨g13, 0, none⟩) ∧ Var W (g13) [.bool (QM (q + k)), .int .u64 (Q0 (q + k)), .int .u64 (Q1 (q + k)), .int .u64 (Q2 (q + k)), .int .u64 (Q3 (q + k))] ∧ Grew w 2 W)
  case first =>
    refine wp_region_held_drew (S := fun W => Var W (g10) [.bool (QM (q)), .int .u64 (Q0 (q)), .int .u64 (Q1 (q)), .int .u64 (Q2 (q)), .int .u64 (Q3 (q))] ∧ Grew w 2 W) (by kernel_rfl) ?_ (fun q1 => ?_)
    · exact ⟨HS2.out.1.below (bel_drew _), HS2.out.2.below (bel_drew _)⟩
    revert q1
    generalize World.drew _ = W1
    intro q1 
    refine tk (i := 0) (v := ?_) rfl (Or.inl ⟨by rfl, ?_⟩) ?_
    rotate_left
    · intro Wq hSw
      obtain ⟨k0, k1, k2, k3, k4⟩ := (id hSw).1.five
      clear hSw
      go_simp
      all_goals (with_reducible rfl)
    try simp only [Act.put, x2, x4, x5, x6, x7]
    refine tk (i := 1) (v := ?_) rfl (Or.inl ⟨by rfl, ?_⟩) ?_
    rotate_left
    · intro Wq hSw
      clear hSw
      go_simp
      all_goals (with_reducible rfl)
    try simp only [Act.put, x2, x3, x4, x5, x6, x7]
    refine r2 (i := 2) (j := 8) rfl (fun K hK => ?_) rfl (fun K hK => ?_)
    · go_simp
      go_at_call 68
      (with_reducible refine (ofQ k Rk.out.1 Rk.out.2 _).mono ?_); rintro e w1 ⟨rfl, hb1⟩
      go_wp2_with fail
      refine hK.out _ _ ?_ (fun q2 => ?_)
      · exact ⟨(id q1).1.below hb1, (id q1).2.below hb1⟩
      clear hK K q1 hb1
      have q1 := q2
      clear q2
      try simp only [Act.put, x2, x3, x4, x5, x6, x7]
      refine r2 (i := 3) (j := 8) rfl (fun K hK => ?_) rfl (fun K hK => ?_)
      · go_simp
        refine hK.out _ _ ?_ (fun q2 => ?_)
        · exact ⟨(id q1).1.below (bl_one _ _), (id q1).2.below (bl_one _ _)⟩
        have HL := hL_of (id q1).2 (fun W => wides2_wd W q k 73)
        clear hK K q1
        have q1 := q2
        clear q2
        try simp only [Act.put, x2, x3, x4, x5, x6, x7]
        revert HL
        revert q1
        generalize World.alloc _ _ = W2
        intro q1 HL
        refine r2 (i := 4) (j := 8) rfl (fun K hK => ?_) rfl (fun K hK => ?_)
        · go_simp
          go_at_call 83
          (with_reducible refine (addQ2 q k Wq.out Wk.out Ws.out _ _ _ HL.out).mono ?_); rintro e w1 ⟨rfl, hb1⟩
          go_wp2_with fail
          refine hK.out _ _ ?_ (fun q2 => ?_)
          · exact ⟨(id q1).1.below hb1, (id q1).2.below hb1⟩
          replace HL := hi (HL.out.below hb1)
          clear hK K q1 hb1
          have q1 := q2
          clear q2
          try simp only [Act.put, x2, x3, x4, x5, x6, x7]
          refine tk (i := 5) (v := ?_) rfl (Or.inl ⟨by rfl, ?_⟩) ?_
          rotate_left
          · intro Wq hSw
            clear hSw
            go_simp
            all_goals (with_reducible rfl)
          try simp only [Act.put, x2, x3, x4, x5, x6, x7]
          refine tk (i := 6) (v := ?_) rfl (Or.inl ⟨by rfl, ?_⟩) ?_
          rotate_left
          · intro Wq hSw
            clear hSw
            go_simp
            all_goals (with_reducible rfl)
          try simp only [Act.put, x2, x3, x4, x5, x6, x7]
          refine tk (i := 7) (v := ?_) rfl (Or.inl ⟨by rfl, ?_⟩) ?_
          rotate_left
          · intro Wq hSw
            clear hSw
            go_simp
            all_goals (with_reducible rfl)
          try simp only [Act.put, x2, x3, x4, x5, x6, x7]
          refine r1 (i := 8) rfl (fun K hK => ?_)
          go_simp
          refine hK.out _ _ ?_ (fun q2 => ?_)
          · exact ⟨(id q1).1.below (bl_one _ _), (id q1).2.below (bl_one _ _)⟩
          replace HL := hi (HL.out.below (al_of (id q2).2 (bl_one _ _)))
          have hge := (id q1).2.sz
          have hlt0 := (id q1).1.lt
          have HN := hi ((id q1).2.var5 (.bool false) (.int .u64 0) (.int .u64 0) (.int .u64 0) (.int .u64 0) 73)
          clear hK K q1
          have q1 := q2
          clear q2
          try simp only [Act.put, x2, x3, x4, x5, x6, x7]
          revert HL
          revert HN
          revert q1
          generalize World.alloc _ _ = W2
          intro q1 HN HL
          refine r1 (i := 9) rfl (fun K hK => ?_)
          obtain ⟨k0, k1, k2, k3, k4⟩ := HN.out.five
          obtain ⟨f0, f1, f2, f3, f4⟩ := HN.out.free5
          go_simp
          refine hK.out _ _ ?_ (fun q2 => ?_)
          · exact ⟨((((((id q1).1.far (by dsimp only; omega) _).far (by dsimp only; omega) _).far (by dsimp only; omega) _).far (by dsimp only; omega) _).far (by dsimp only; omega) _), ((((((id q1).2.set (by dsimp only; omega) _).set (by dsimp only; omega) _).set (by dsimp only; omega) _).set (by dsimp only; omega) _).set (by dsimp only; omega) _)⟩
          have VN := hi (HN.out.set5 (.bool (QM (q + k))) (.int .u64 (Q0 (q + k))) (.int .u64 (Q1 (q + k))) (.int .u64 (Q2 (q + k))) (.int .u64 (Q3 (q + k))))
          clear HL
          clear hK K q1 HN k0 k1 k2 k3 k4 f0 f1 f2 f3 f4
          have q1 := q2
          clear q2
          try simp only [Act.put, x2, x3, x4, x5, x6, x7]
          refine tk (i := 10) (v := ?_) rfl (Or.inl ⟨by rfl, ?_⟩) ?_
          rotate_left
          · intro Wq hSw
            clear hSw
            go_simp
            all_goals (with_reducible rfl)
          try simp only [Act.put, x2, x3, x4, x5, x6, x7]
          refine wpAnyH_done (by kernel_rfl) ?_ _
          go_wp2_with fail
          go_meet
          case rel => exact ⟨_, rfl, VN.out, (id q1).2⟩
        · go_simp
          refine hK.out _ _ ?_ (fun q2 => ?_)
          · exact ⟨(id q1).1.below (bl_one _ _), (id q1).2.below (bl_one _ _)⟩
          replace HL := hi (HL.out.below (al_of (id q2).2 (bl_one _ _)))
          have hge := (id q1).2.sz
          have hlt0 := (id q1).1.lt
          have HN := hi ((id q1).2.var5 (.bool false) (.int .u64 0) (.int .u64 0) (.int .u64 0) (.int .u64 0) 73)
          clear hK K q1
          have q1 := q2
          clear q2
          try simp only [Act.put, x2, x3, x4, x5, x6, x7]
          revert HL
          revert HN
          revert q1
          generalize World.alloc _ _ = W2
          intro q1 HN HL
          refine r1 (i := 4) rfl (fun K hK => ?_)
          go_simp
          go_at_call 83
          (with_reducible refine (addQ2 q k Wq.out Wk.out Ws.out _ _ _ HL.out).mono ?_); rintro e w1 ⟨rfl, hb1⟩
          go_wp2_with fail
          refine hK.out _ _ ?_ (fun q2 => ?_)
          · exact ⟨(id q1).1.below hb1, (id q1).2.below hb1⟩
          replace HL := hi (HL.out.below hb1)
          replace HN := hi (HN.out.below hb1)
          clear hK K q1 hb1
          have q1 := q2
          clear q2
          try simp only [Act.put, x2, x3, x4, x5, x6, x7]
          refine tk (i := 5) (v := ?_) rfl (Or.inl ⟨by rfl, ?_⟩) ?_
          rotate_left
          · intro Wq hSw
            clear hSw
            go_simp
            all_goals (with_reducible rfl)
          try simp only [Act.put, x2, x3, x4, x5, x6, x7]
          refine tk (i := 6) (v := ?_) rfl (Or.inl ⟨by rfl, ?_⟩) ?_
          rotate_left
          · intro Wq hSw
            clear hSw
            go_simp
            all_goals (with_reducible rfl)
          try simp only [Act.put, x2, x3, x4, x5, x6, x7]
          refine tk (i := 7) (v := ?_) rfl (Or.inl ⟨by rfl, ?_⟩) ?_
          rotate_left
          · intro Wq hSw
            clear hSw
            go_simp
            all_goals (with_reducible rfl)
          try simp only [Act.put, x2, x3, x4, x5, x6, x7]
          refine r1 (i := 9) rfl (fun K hK => ?_)
          obtain ⟨k0, k1, k2, k3, k4⟩ := HN.out.five
          obtain ⟨f0, f1, f2, f3, f4⟩ := HN.out.free5
          go_simp
          refine hK.out _ _ ?_ (fun q2 => ?_)
          · exact ⟨((((((id q1).1.far (by dsimp only; omega) _).far (by dsimp only; omega) _).far (by dsimp only; omega) _).far (by dsimp only; omega) _).far (by dsimp only; omega) _), ((((((id q1).2.set (by dsimp only; omega) _).set (by dsimp only; omega) _).set (by dsimp only; omega) _).set (by dsimp only; omega) _).set (by dsimp only; omega) _)⟩
          have VN := hi (HN.out.set5 (.bool (QM (q + k))) (.int .u64 (Q0 (q + k))) (.int .u64 (Q1 (q + k))) (.int .u64 (Q2 (q + k))) (.int .u64 (Q3 (q + k))))
          clear HL
          clear hK K q1 HN k0 k1 k2 k3 k4 f0 f1 f2 f3 f4
          have q1 := q2
          clear q2
          try simp only [Act.put, x2, x3, x4, x5, x6, x7]
          refine tk (i := 10) (v := ?_) rfl (Or.inl ⟨by rfl, ?_⟩) ?_
          rotate_left
          · intro Wq hSw
            clear hSw
            go_simp
            all_goals (with_reducible rfl)
          try simp only [Act.put, x2, x3, x4, x5, x6, x7]
          refine wpAnyH_done (by kernel_rfl) ?_ _
          go_wp2_with fail
          go_meet
          case rel => exact ⟨_, rfl, VN.out, (id q1).2⟩
      · go_simp
        refine hK.out _ _ ?_ (fun q2 => ?_)
        · exact ⟨(id q1).1.below (bl_one _ _), (id q1).2.below (bl_one _ _)⟩
        have hge := (id q1).2.sz
        have hlt0 := (id q1).1.lt
        have HN := hi ((id q1).2.var5 (.bool false) (.int .u64 0) (.int .u64 0) (.int .u64 0) (.int .u64 0) 73)
        clear hK K q1
        have q1 := q2
        clear q2
        try simp only [Act.put, x2, x3, x4, x5, x6, x7]
        revert HN
        revert q1
        generalize World.alloc _ _ = W2
        intro q1 HN
        refine r1 (i := 3) rfl (fun K hK => ?_)
        go_simp
        refine hK.out _ _ ?_ (fun q2 => ?_)
        · exact ⟨(id q1).1.below (bl_one _ _), (id q1).2.below (bl_one _ _)⟩
        replace HN := hi (HN.out.below (al_of (id q2).2 (bl_one _ _)))
        have HL := hL_of (id q1).2 (fun W => wides2_wd W q k 73)
        clear hK K q1
        have q1 := q2
        clear q2
        try simp only [Act.put, x2, x3, x4, x5, x6, x7]
        revert HN
        revert HL
        revert q1
        generalize World.alloc _ _ = W2
        intro q1 HL HN
        refine r1 (i := 4) rfl (fun K hK => ?_)
        go_simp
        go_at_call 83
        (with_reducible refine (addQ2 q k Wq.out Wk.out Ws.out _ _ _ HL.out).mono ?_); rintro e w1 ⟨rfl, hb1⟩
        go_wp2_with fail
        refine hK.out _ _ ?_ (fun q2 => ?_)
        · exact ⟨(id q1).1.below hb1, (id q1).2.below hb1⟩
        replace HN := hi (HN.out.below hb1)
        replace HL := hi (HL.out.below hb1)
        clear hK K q1 hb1
        have q1 := q2
        clear q2
        try simp only [Act.put, x2, x3, x4, x5, x6, x7]
        refine tk (i := 5) (v := ?_) rfl (Or.inl ⟨by rfl, ?_⟩) ?_
        rotate_left
        · intro Wq hSw
          clear hSw
          go_simp
          all_goals (with_reducible rfl)
        try simp only [Act.put, x2, x3, x4, x5, x6, x7]
        refine tk (i := 6) (v := ?_) rfl (Or.inl ⟨by rfl, ?_⟩) ?_
        rotate_left
        · intro Wq hSw
          clear hSw
          go_simp
          all_goals (with_reducible rfl)
        try simp only [Act.put, x2, x3, x4, x5, x6, x7]
        refine tk (i := 7) (v := ?_) rfl (Or.inl ⟨by rfl, ?_⟩) ?_
        rotate_left
        · intro Wq hSw
          clear hSw
          go_simp
          all_goals (with_reducible rfl)
        try simp only [Act.put, x2, x3, x4, x5, x6, x7]
        refine r1 (i := 9) rfl (fun K hK => ?_)
        obtain ⟨k0, k1, k2, k3, k4⟩ := HN.out.five
        obtain ⟨f0, f1, f2, f3, f4⟩ := HN.out.free5
        go_simp
        refine hK.out _ _ ?_ (fun q2 => ?_)
        · exact ⟨((((((id q1).1.far (by dsimp only; omega) _).far (by dsimp only; omega) _).far (by dsimp only; omega) _).far (by dsimp only; omega) _).far (by dsimp only; omega) _), ((((((id q1).2.set (by dsimp only; omega) _).set (by dsimp only; omega) _).set (by dsimp only; omega) _).set (by dsimp only; omega) _).set (by dsimp only; omega) _)⟩
        have VN := hi (HN.out.set5 (.bool (QM (q + k))) (.int .u64 (Q0 (q + k))) (.int .u64 (Q1 (q + k))) (.int .u64 (Q2 (q + k))) (.int .u64 (Q3 (q + k))))
        clear HL
        clear hK K q1 HN k0 k1 k2 k3 k4 f0 f1 f2 f3 f4
        have q1 := q2
        clear q2
        try simp only [Act.put, x2, x3, x4, x5, x6, x7]
        refine tk (i := 10) (v := ?_) rfl (Or.inl ⟨by rfl, ?_⟩) ?_
        rotate_left
        · intro Wq hSw
          clear hSw
          go_simp
          all_goals (with_reducible rfl)
        try simp only [Act.put, x2, x3, x4, x5, x6, x7]
        refine wpAnyH_done (by kernel_rfl) ?_ _
        go_wp2_with fail
        go_meet
        case rel => exact ⟨_, rfl, VN.out, (id q1).2⟩
    · go_simp
      refine hK.out _ _ ?_ (fun q2 => ?_)
      · exact ⟨(id q1).1.below (bl_one _ _), (id q1).2.below (bl_one _ _)⟩
      have hge := (id q1).2.sz
      have hlt0 := (id q1).1.lt
      have HN := hi ((id q1).2.var5 (.bool false) (.int .u64 0) (.int .u64 0) (.int .u64 0) (.int .u64 0) 73)
      clear hK K q1
      have q1 := q2
      clear q2
      try simp only [Act.put, x2, x3, x4, x5, x6, x7]
      revert HN
      revert q1
      generalize World.alloc _ _ = W2
      intro q1 HN
      refine r1 (i := 2) rfl (fun K hK => ?_)
      go_simp
      go_at_call 68
      (with_reducible refine (ofQ k Rk.out.1 Rk.out.2 _).mono ?_); rintro e w1 ⟨rfl, hb1⟩
      go_wp2_with fail
      refine hK.out _ _ ?_ (fun q2 => ?_)
      · exact ⟨(id q1).1.below hb1, (id q1).2.below hb1⟩
      replace HN := hi (HN.out.below hb1)
      clear hK K q1 hb1
      have q1 := q2
      clear q2
      try simp only [Act.put, x2, x3, x4, x5, x6, x7]
      refine r1 (i := 3) rfl (fun K hK => ?_)
      go_simp
      refine hK.out _ _ ?_ (fun q2 => ?_)
      · exact ⟨(id q1).1.below (bl_one _ _), (id q1).2.below (bl_one _ _)⟩
      replace HN := hi (HN.out.below (al_of (id q2).2 (bl_one _ _)))
      have HL := hL_of (id q1).2 (fun W => wides2_wd W q k 73)
      clear hK K q1
      have q1 := q2
      clear q2
      try simp only [Act.put, x2, x3, x4, x5, x6, x7]
      revert HN
      revert HL
      revert q1
      generalize World.alloc _ _ = W2
      intro q1 HL HN
      refine r1 (i := 4) rfl (fun K hK => ?_)
      go_simp
      go_at_call 83
      (with_reducible refine (addQ2 q k Wq.out Wk.out Ws.out _ _ _ HL.out).mono ?_); rintro e w1 ⟨rfl, hb1⟩
      go_wp2_with fail
      refine hK.out _ _ ?_ (fun q2 => ?_)
      · exact ⟨(id q1).1.below hb1, (id q1).2.below hb1⟩
      replace HN := hi (HN.out.below hb1)
      replace HL := hi (HL.out.below hb1)
      clear hK K q1 hb1
      have q1 := q2
      clear q2
      try simp only [Act.put, x2, x3, x4, x5, x6, x7]
      refine tk (i := 5) (v := ?_) rfl (Or.inl ⟨by rfl, ?_⟩) ?_
      rotate_left
      · intro Wq hSw
        clear hSw
        go_simp
        all_goals (with_reducible rfl)
      try simp only [Act.put, x2, x3, x4, x5, x6, x7]
      refine tk (i := 6) (v := ?_) rfl (Or.inl ⟨by rfl, ?_⟩) ?_
      rotate_left
      · intro Wq hSw
        clear hSw
        go_simp
        all_goals (with_reducible rfl)
      try simp only [Act.put, x2, x3, x4, x5, x6, x7]
      refine tk (i := 7) (v := ?_) rfl (Or.inl ⟨by rfl, ?_⟩) ?_
      rotate_left
      · intro Wq hSw
        clear hSw
        go_simp
        all_goals (with_reducible rfl)
      try simp only [Act.put, x2, x3, x4, x5, x6, x7]
      refine r1 (i := 9) rfl (fun K hK => ?_)
      obtain ⟨k0, k1, k2, k3, k4⟩ := HN.out.five
      obtain ⟨f0, f1, f2, f3, f4⟩ := HN.out.free5
      go_simp
      refine hK.out _ _ ?_ (fun q2 => ?_)
      · exact ⟨((((((id q1).1.far (by dsimp only; omega) _).far (by dsimp only; omega) _).far (by dsimp only; omega) _).far (by dsimp only; omega) _).far (by dsimp only; omega) _), ((((((id q1).2.set (by dsimp only; omega) _).set (by dsimp only; omega) _).set (by dsimp only; omega) _).set (by dsimp only; omega) _).set (by dsimp only; omega) _)⟩
      have VN := hi (HN.out.set5 (.bool (QM (q + k))) (.int .u64 (Q0 (q + k))) (.int .u64 (Q1 (q + k))) (.int .u64 (Q2 (q + k))) (.int .u64 (Q3 (q + k))))
      clear HL
      clear hK K q1 HN k0 k1 k2 k3 k4 f0 f1 f2 f3 f4
      have q1 := q2
      clear q2
      try simp only [Act.put, x2, x3, x4, x5, x6, x7]
      refine tk (i := 10) (v := ?_) rfl (Or.inl ⟨by rfl, ?_⟩) ?_
      rotate_left
      · intro Wq hSw
        clear hSw
        go_simp
        all_goals (with_reducible rfl)
      try simp only [Act.put, x2, x3, x4, x5, x6, x7]
      refine wpAnyH_done (by kernel_rfl) ?_ _
      go_wp2_with fail
      go_meet
      case rel => exact ⟨_, rfl, VN.out, (id q1).2⟩
  case rest =>
  obtain ⟨g13, rfl, v13, hG⟩ := hcut
  generalize q + k = s at *
  have HG := hi hG
  obtain ⟨c0, c1, c2, c3, c4⟩ := v13.five
  clear v13 hG HS2
  go_wp2_with fail
  (with_reducible refine (intQ s Ws.out _).mono ?_); rintro e w1 ⟨rfl, hb1⟩
  have HI := hi (isI_e s)
  replace HG := hi (HG.out.below hb1)
  clear c0 c1 c2 c3 c4 hb1 Ws
  generalize intV s = v at *
  generalize intE s = e at *
  generalize isI s = b at *
  go_wp2
  go_ret2
  exact ⟨by rw [← HI.out]; rfl, HG.out.hb⟩
end Go.Proofs.Ytojfggnimmaemaa
