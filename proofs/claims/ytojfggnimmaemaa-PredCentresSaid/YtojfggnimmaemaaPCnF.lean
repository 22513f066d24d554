/-
  The walk of the law PredCentres, part 6.
-/
import Derived.Test.YtojfggnimmaemaaPCnE
namespace Go.Proofs.Ytojfggnimmaemaa
open Go.RowKit

set_option maxHeartbeats 32000000 in
set_option maxRecDepth 100000 in
noncomputable def pcF (a b c : Pt) (w : World) : {P : Prop // Tail P → (pcE a b c w).val} := ⟨_, fun hP => by
  intro p re g7 b' c' zp zq zd ux uy vx vy g9 m9 ad9 n9 c9 g10 m10 ad10 n10 c10 g11 m11 ad11 n11 c11 g12 m12 ad12 n12 c12 g13 m13 ad13 n13 c13 wc ge9 ge10 ge11 ge12 ge13 EZ BD hK HF hpp hee WX W2 Ux Uy Vx Vy GP GQ GD Gux Guy Gvx Gvy GPvy GQuy GnQuy GQux GPvx GnPvx AX AY hz HS0
  intros
  clear WX Ux Uy Vx Vy GP GQ Gux Guy Gvx Gvy GPvy GQuy GnQuy GQux GPvx GnPvx
  generalize zp * vy + -(zq * uy) = zx at *
  generalize zq * ux + -(zp * vx) = zy at *
  have HS1 : Hid ((fun W => Var W (w.heap.size) [.int .i64 a.x, .int .i64 a.y] ∧ Var W (g7) [.int .i64 p.x, .int .i64 p.y] ∧ Var W (g11) [.bool m11, .slice ad11 n11 c11] ∧ Var W (g12) [.bool m12, .slice ad12 n12 c12] ∧ Var W (g13) [.bool m13, .slice ad13 n13 c13] ∧ NumIs (.agg #[.bool m11, .slice ad11 n11 c11]) (zd) W ∧ NumIs (.agg #[.bool m12, .slice ad12 n12 c12]) (zx) W ∧ NumIs (.agg #[.bool m13, .slice ad13 n13 c13]) (zy) W ∧ Grew w 3 W) _) := ⟨HS0.out.1, HS0.out.2.2.2.1, HS0.out.2.2.2.2.2.2.1, HS0.out.2.2.2.2.2.2.2.1, HS0.out.2.2.2.2.2.2.2.2.1, HS0.out.2.2.2.2.2.2.2.2.2.2.2.1, HS0.out.2.2.2.2.2.2.2.2.2.2.2.2.1, HS0.out.2.2.2.2.2.2.2.2.2.2.2.2.2.1, HS0.out.2.2.2.2.2.2.2.2.2.2.2.2.2.2⟩
  clear HS0
  have HS0 := HS1
  clear HS1
  have GX := hi (AX.big (by decide))
  have GY := hi (AY.big (by decide))
  obtain ⟨fz, hfz⟩ : ∃ r, fitB ⟨shiftZ a.x zx zd, shiftZ a.y zy zd⟩ = r := ⟨_, rfl⟩
  rw [hfz] at hpp hee
  cases fz
  case false =>
    try (rename_i K aK; refine aK _ _ ?_; clear aK K)
    repeat revert ‹Value›
    revert HS0
    revert ge13
    revert ge12
    revert ge11
    revert ge10
    revert ge9
    revert GD
    revert W2
    revert EZ
    revert HF
    revert hK
    revert hz
    revert BD
    revert AY
    revert AX
    revert GY
    revert GX
    revert hee
    revert hpp
    revert hfz
    revert wc
    revert c13
    revert n13
    revert ad13
    revert m13
    revert g13
    revert c12
    revert n12
    revert ad12
    revert m12
    revert g12
    revert c11
    revert n11
    revert ad11
    revert m11
    revert g11
    revert g10
    revert g9
    revert zd
    revert zy
    revert zx
    revert g7
    revert re
    revert p
    exact hP.out
  case true =>
    obtain ⟨hpx, hpy, rfl⟩ : p.x - a.x = (zx + zd) / (zd + zd) ∧ p.y - a.y = (zy + zd) / (zd + zd) ∧ re = 0 := by
      refine ⟨?_, ?_, hee⟩ <;> rw [hpp] <;> unfold shiftZ <;> simp only [if_true] <;> omega
    have hfp : fitB p = true := by rw [hpp]; exact hfz
    have bp := fitB_iff.1 hfp
    unfold Pt.fits at bp
    have H1 := half_ok (n := zx) hz
    have H2 := half_ok (n := zy) hz
    rw [← hpx] at H1
    rw [← hpy] at H2
    have rx : R64 (p.x - a.x) := by have := hK.1; unfold Ab at this; unfold R64; omega
    have ry : R64 (p.y - a.y) := by have := hK.2; unfold Ab at this; unfold R64; omega
    have wx : IntKind.i64.wrap (p.x - a.x) = p.x - a.x := IntWalk.i64_in _ rx
    have wy : IntKind.i64.wrap (p.y - a.y) = p.y - a.y := IntWalk.i64_in _ ry
    have FP := hi (fun W => show Calls Try.prog 33 #[.agg #[.int .i64 p.x, .int .i64 p.y]] W (Gives (.bool true) W) from by have := HF.out W; rw [hfp] at this; exact this)
    have BX := hi (AX.le (show (5070602400912917605986812821504 : Int) ≤ 1606938044258990275541962092341162602522202993782792835301376 by decide))
    have BY := hi (AY.le (show (5070602400912917605986812821504 : Int) ≤ 1606938044258990275541962092341162602522202993782792835301376 by decide))
    have RX := hi rx
    have RY := hi ry
    have BD2 := hi BD
    have HH1 := hi H1
    have HH2 := hi H2
    generalize hox : p.x - a.x = ox at *
    generalize hoy : p.y - a.y = oy at *
    have wx2 : IntKind.i64.wrap (p.x - a.x) = ox := by rw [hox]; exact wx
    have wy2 : IntKind.i64.wrap (p.y - a.y) = oy := by rw [hoy]; exact wy
    clear wx wy hox hoy
    clear hpp hee hfz AX AY BD hz hK HF EZ GX GY GD W2 hfp bp H1 H2 hpx hpy rx ry
    obtain ⟨c0_, d0_⟩ := HS0.out.1.two
    obtain ⟨c1_, d1_⟩ := HS0.out.2.1.two
    obtain ⟨c2_, d2_⟩ := HS0.out.2.2.1.two
    obtain ⟨c3_, d3_⟩ := HS0.out.2.2.2.1.two
    obtain ⟨c4_, d4_⟩ := HS0.out.2.2.2.2.1.two
    go_upto_region 17 with (fail)
    try dsimp only [List.append]
    go_wp2_with fail
    (with_reducible refine (FP.out _).mono ?_); rintro e w1 ⟨rfl, hb1⟩
    replace HS0 : Hid ((fun W => Var W (w.heap.size) [.int .i64 a.x, .int .i64 a.y] ∧ Var W (g7) [.int .i64 p.x, .int .i64 p.y] ∧ Var W (g11) [.bool m11, .slice ad11 n11 c11] ∧ Var W (g12) [.bool m12, .slice ad12 n12 c12] ∧ Var W (g13) [.bool m13, .slice ad13 n13 c13] ∧ NumIs (.agg #[.bool m11, .slice ad11 n11 c11]) (zd) W ∧ NumIs (.agg #[.bool m12, .slice ad12 n12 c12]) (zx) W ∧ NumIs (.agg #[.bool m13, .slice ad13 n13 c13]) (zy) W ∧ Grew w 3 W) w1) := ⟨HS0.out.1.below hb1, HS0.out.2.1.below hb1, HS0.out.2.2.1.below hb1, HS0.out.2.2.2.1.below hb1, HS0.out.2.2.2.2.1.below hb1, HS0.out.2.2.2.2.2.1.below hb1, HS0.out.2.2.2.2.2.2.1.below hb1, HS0.out.2.2.2.2.2.2.2.1.below hb1, HS0.out.2.2.2.2.2.2.2.2.below hb1⟩
    clear c0_ d0_ c1_ d1_ c2_ d2_ c3_ d3_ c4_ d4_ hb1
    try dsimp only
    obtain ⟨c0_, d0_⟩ := HS0.out.1.two
    obtain ⟨c1_, d1_⟩ := HS0.out.2.1.two
    obtain ⟨c2_, d2_⟩ := HS0.out.2.2.1.two
    obtain ⟨c3_, d3_⟩ := HS0.out.2.2.2.1.two
    obtain ⟨c4_, d4_⟩ := HS0.out.2.2.2.2.1.two
    go_wp2_with fail
    (with_reducible refine (half_l ox RX.out _ _ zx zd BX.out BD2.out _ HS0.out.2.2.2.2.2.2.1 HS0.out.2.2.2.2.2.1).mono ?_); rintro e w1 ⟨rfl, hb1⟩
    rw [HH1.out]
    replace HS0 : Hid ((fun W => Var W (w.heap.size) [.int .i64 a.x, .int .i64 a.y] ∧ Var W (g7) [.int .i64 p.x, .int .i64 p.y] ∧ Var W (g11) [.bool m11, .slice ad11 n11 c11] ∧ Var W (g12) [.bool m12, .slice ad12 n12 c12] ∧ Var W (g13) [.bool m13, .slice ad13 n13 c13] ∧ NumIs (.agg #[.bool m11, .slice ad11 n11 c11]) (zd) W ∧ NumIs (.agg #[.bool m12, .slice ad12 n12 c12]) (zx) W ∧ NumIs (.agg #[.bool m13, .slice ad13 n13 c13]) (zy) W ∧ Grew w 3 W) w1) := ⟨HS0.out.1.below hb1, HS0.out.2.1.below hb1, HS0.out.2.2.1.below hb1, HS0.out.2.2.2.1.below hb1, HS0.out.2.2.2.2.1.below hb1, HS0.out.2.2.2.2.2.1.below hb1, HS0.out.2.2.2.2.2.2.1.below hb1, HS0.out.2.2.2.2.2.2.2.1.below hb1, HS0.out.2.2.2.2.2.2.2.2.below hb1⟩
    clear c0_ d0_ c1_ d1_ c2_ d2_ c3_ d3_ c4_ d4_ hb1
    try dsimp only
    obtain ⟨c0_, d0_⟩ := HS0.out.1.two
    obtain ⟨c1_, d1_⟩ := HS0.out.2.1.two
    obtain ⟨c2_, d2_⟩ := HS0.out.2.2.1.two
    obtain ⟨c3_, d3_⟩ := HS0.out.2.2.2.1.two
    obtain ⟨c4_, d4_⟩ := HS0.out.2.2.2.2.1.two
    go_wp2_with fail
    (with_reducible refine (half_l oy RY.out _ _ zy zd BY.out BD2.out _ HS0.out.2.2.2.2.2.2.2.1 HS0.out.2.2.2.2.2.1).mono ?_); rintro e w1 ⟨rfl, hb1⟩
    rw [HH2.out]
    replace HS0 : Hid ((fun W => Var W (w.heap.size) [.int .i64 a.x, .int .i64 a.y] ∧ Var W (g7) [.int .i64 p.x, .int .i64 p.y] ∧ Var W (g11) [.bool m11, .slice ad11 n11 c11] ∧ Var W (g12) [.bool m12, .slice ad12 n12 c12] ∧ Var W (g13) [.bool m13, .slice ad13 n13 c13] ∧ NumIs (.agg #[.bool m11, .slice ad11 n11 c11]) (zd) W ∧ NumIs (.agg #[.bool m12, .slice ad12 n12 c12]) (zx) W ∧ NumIs (.agg #[.bool m13, .slice ad13 n13 c13]) (zy) W ∧ Grew w 3 W) w1) := ⟨HS0.out.1.below hb1, HS0.out.2.1.below hb1, HS0.out.2.2.1.below hb1, HS0.out.2.2.2.1.below hb1, HS0.out.2.2.2.2.1.below hb1, HS0.out.2.2.2.2.2.1.below hb1, HS0.out.2.2.2.2.2.2.1.below hb1, HS0.out.2.2.2.2.2.2.2.1.below hb1, HS0.out.2.2.2.2.2.2.2.2.below hb1⟩
    clear c0_ d0_ c1_ d1_ c2_ d2_ c3_ d3_ c4_ d4_ hb1
    try dsimp only
    obtain ⟨c0_, d0_⟩ := HS0.out.1.two
    obtain ⟨c1_, d1_⟩ := HS0.out.2.1.two
    obtain ⟨c2_, d2_⟩ := HS0.out.2.2.1.two
    obtain ⟨c3_, d3_⟩ := HS0.out.2.2.2.1.two
    obtain ⟨c4_, d4_⟩ := HS0.out.2.2.2.2.1.two
    have HG := hi HS0.out.2.2.2.2.2.2.2.2
    go_wp2_with (first
      | (go_at_call 21; (with_reducible refine (known3_l _).mono ?_); rintro e w2 ⟨rfl, hb2⟩)
      | go_in)
    go_ret
    exact ⟨rfl, (HG.out.below hb2).hb⟩⟩
end Go.Proofs.Ytojfggnimmaemaa
