/-
  The walk of the law PredCentres, part 9.
-/
import Derived.Test.YtojfggnimmaemaaPCnH
namespace Go.Proofs.Ytojfggnimmaemaa
open Go.RowKit

set_option maxHeartbeats 32000000 in
set_option maxRecDepth 100000 in
noncomputable def pcI (a b c : Pt) (w : World) : {P : Prop // Tail P → (pcH a b c w).val} := ⟨_, fun hP => by
    intro p g7 zx zy zd g9 g10 g11 m11 ad11 n11 c11 g12 m12 ad12 n12 c12 g13 m13 ad13 n13 c13 g14 m14 ad14 n14 c14 g15 m15 ad15 n15 c15 g16 m16 ad16 n16 c16 K0 aK0 wc HO HP0 EZ Gfd Gnfd GX GY GD Gf G2x G2y Gd2x Gd2y Gpx Gpy R2x R2y W2 ge9 ge10 ge11 ge12 ge13 ge14 ge15 ge16 HS0
    intros
    clear GX GY GD Gf G2x G2y Gd2x Gd2y R2x R2y W2
    have K1 := dec_ge (zx + zd * (2 * a.x)) (8589934593 * zd)
    have K2 := dec_ge (zy + zd * (2 * a.y)) (8589934593 * zd)
    have K3 := dec_lt (zx + zd * (2 * a.x)) (-(8589934593 * zd))
    have K4 := dec_lt (zy + zd * (2 * a.y)) (-(8589934593 * zd))
    have ho := HO.out
    clear HO
    generalize zx + zd * (2 * a.x) = px at *
    generalize zy + zd * (2 * a.y) = py at *
    generalize 8589934593 * zd = fr at *
    have HS1 : Hid ((fun W => Var W (g7) [.int .i64 p.x, .int .i64 p.y] ∧ Var W (g14) [.bool m14, .slice ad14 n14 c14] ∧ Var W (g15) [.bool m15, .slice ad15 n15 c15] ∧ Var W (g16) [.bool m16, .slice ad16 n16 c16] ∧ NumIs (.agg #[.bool m14, .slice ad14 n14 c14]) (fr) W ∧ NumIs (.agg #[.bool m15, .slice ad15 n15 c15]) (px) W ∧ NumIs (.agg #[.bool m16, .slice ad16 n16 c16]) (py) W ∧ Grew w 3 W) _) := ⟨HS0.out.2.1, HS0.out.2.2.2.2.2.1, HS0.out.2.2.2.2.2.2.1, HS0.out.2.2.2.2.2.2.2.1, HS0.out.2.2.2.2.2.2.2.2.2.2.2.1, HS0.out.2.2.2.2.2.2.2.2.2.2.2.2.1, HS0.out.2.2.2.2.2.2.2.2.2.2.2.2.2.1, HS0.out.2.2.2.2.2.2.2.2.2.2.2.2.2.2⟩
    clear HS0
    have HS0 := HS1
    clear HS1
    try (rename_i K aK; refine aK _ _ ?_; clear aK K)
    repeat revert ‹Value›
    revert HS0
    revert ge16
    revert ge15
    revert ge14
    revert ge13
    revert ge12
    revert ge11
    revert ge10
    revert ge9
    revert ho
    revert K4
    revert K3
    revert K2
    revert K1
    revert Gpy
    revert Gpx
    revert Gnfd
    revert Gfd
    revert EZ
    revert HP0
    revert wc
    revert aK0
    revert K0
    revert c16
    revert n16
    revert ad16
    revert m16
    revert g16
    revert c15
    revert n15
    revert ad15
    revert m15
    revert g15
    revert c14
    revert n14
    revert ad14
    revert m14
    revert g14
    revert g13
    revert g12
    revert g11
    revert g10
    revert g9
    revert fr
    revert py
    revert px
    revert g7
    revert p
    exact hP.out⟩
end Go.Proofs.Ytojfggnimmaemaa
