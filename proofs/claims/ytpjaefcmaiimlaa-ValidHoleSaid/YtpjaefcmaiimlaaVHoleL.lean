/-
  The law ValidHole.
-/
import Derived.Test.YtpjaefcmaiimlaaVLawK
import Derived.Test.YtpjaefcmaiimlaaVFirsts
import Derived.Test.YtpjaefcmaiimlaaVHoleM
import Derived.Test.YtpjaefcmaiimlaaVHurtP
set_option linter.unusedVariables false
set_option linter.unusedSimpArgs false
set_option linter.deprecated false
namespace Go.Proofs.Ytpjaefcmaiimlaa
open Go.RowKit

theorem ptRow_cells (W : World) (L : List Pt) (cs : Array Value) (t : TypeId) (hc : cs.toList = pv L) (hl : L.length ≤ 1000) : PtRow (W.alloc (.cells cs t)) (some ⟨W.heap.size, 0, none⟩) L := by
  obtain ⟨ad, c, e, -, hr, -⟩ := (op_new10 t W L cs hc hl).slice
  cases e
  exact hr
theorem OwnV.new2 {W0 W : World} {g : Nat} {u v x x' : Value} {p l i i' : List Pt} (h : OwnV W0 g u v x p l i W) (hO : Op 57 W0 x' i' W) (h0 : Apart10 u x') (h1 : Apart10 v x') (hn : x'.ownBlock ≠ some g) :
    OwnV W0 g u v x' p l i' (W.setCell ⟨g, 2, none⟩ x') := by
  have o : Own3 W0 u v x' p l i' W := ⟨h.o.o0, h.o.o1, hO, h.o.d01, h0, h1⟩
  exact ⟨o.set h.hg h.n0 h.n1 hn 2 x', h.var.setAt10 (k := 2) (by simp) x', h.n0, h.n1, hn, h.hg⟩
/-- 8 and what is left of a number of eight bits by fifty -/
theorem side8 (z : Int) (h0 : 0 ≤ z) (h1 : z < 256) : ∃ r a : Int, Int.tmod z 50 = r ∧ IntKind.u8.wrap r = r ∧ IntKind.i64.wrap r = r ∧ 8 + r = a ∧ wrap64 a = a ∧ IntKind.i64.wrap a = a ∧ 8 ≤ a ∧ a ≤ 57 ∧ a - 6 = r + 2 ∧ wrap64 (r + 2) = r + 2 ∧ IntKind.i64.wrap (r + 2) = r + 2 := by
  refine ⟨z % 50, 8 + z % 50, Int.tmod_eq_emod_of_nonneg h0, ?_, IntWalk.i64_in _ (by omega), rfl, by unfold wrap64; omega, IntWalk.i64_in _ (by omega), by omega, by omega, by omega, by unfold wrap64; omega, IntWalk.i64_in _ (by omega)⟩
  rw [IntKind.wrap_u8]; omega
theorem place8 (z m : Int) (h0 : 0 ≤ z) (h1 : z < 256) (m0 : 2 ≤ m) (m1 : m ≤ 51) : ∃ r c : Int, Int.tmod z m = r ∧ IntKind.i64.wrap z = z ∧ 1 + r = c ∧ wrap64 c = c ∧ IntKind.i64.wrap c = c ∧ 1 ≤ c ∧ c ≤ m ∧ wrap64 (c + 4) = c + 4 ∧ wrap64 (c + 2) = c + 2 ∧ wrap64 (c + 1) = c + 1 ∧ wrap64 (c + 3) = c + 3 := by
  have h2 := Int.emod_nonneg z (show m ≠ 0 by omega)
  have h3 := Int.emod_lt_of_pos z (show 0 < m by omega)
  exact ⟨z % m, 1 + z % m, Int.tmod_eq_emod_of_nonneg h0, IntWalk.i64_in _ (by omega), rfl, by unfold wrap64; omega, IntWalk.i64_in _ (by omega), by omega, by omega, by unfold wrap64; omega, by unfold wrap64; omega, by unfold wrap64; omega, by unfold wrap64; omega⟩
theorem seg8 {j : Nat} (h : j < 8) : ∃ q r z : Int, Int.tdiv (j : Int) 4 = q ∧ wrap64 q = q ∧ wrap64 r = r ∧ wrap64 (q * 4) = q * 4 ∧ Int.tmod ((j : Int) + 1) 4 = r ∧ wrap64 z = z ∧ q * 4 + r = z ∧ hL.take j ++ [⟨(j : Int), z⟩] = hL.take (j + 1) := by
  have : j = 0 ∨ j = 1 ∨ j = 2 ∨ j = 3 ∨ j = 4 ∨ j = 5 ∨ j = 6 ∨ j = 7 := by omega
  rcases this with rfl | rfl | rfl | rfl | rfl | rfl | rfl | rfl <;> exact ⟨_, _, _, rfl, by decide +kernel, by decide +kernel, by decide +kernel, rfl, by decide +kernel, rfl, by decide +kernel⟩
theorem hole_is {z w x y a b c d r s t u : Int} (h1 : 8 ≤ a) (h2 : a ≤ 57) (h3 : 8 ≤ b) (h4 : b ≤ 57) (h5 : 1 ≤ c) (h6 : c ≤ a - 6) (h7 : 1 ≤ d) (h8 : d ≤ b - 6) : HoleOk a b c d := ⟨h1, h2, h3, h4, h5, by omega, h7, by omega⟩
set_option maxHeartbeats 16000000 in
set_option maxRecDepth 100000 in
theorem vhole_l (z0 z1 z2 z3 : Int) (p0 : 0 ≤ z0 ∧ z0 < 256) (p1 : 0 ≤ z1 ∧ z1 < 256) (p2 : 0 ≤ z2 ∧ z2 < 256) (p3 : 0 ≤ z3 ∧ z3 < 256) (w : World) :
    Calls Try.prog 8 #[.int .u8 z0, .int .u8 z1, .int .u8 z2, .int .u8 z3] w (Gives (.bool true) w) := by
  have KN := Lib.hid (fun W => known10_l W)
  obtain ⟨r0, a, a1, a2, a3, a4, a5, a6, a7, a8, a9, a10, a11⟩ := side8 z0 p0.1 p0.2
  obtain ⟨r1, b, b1, b2, b3, b4, b5, b6, b7, b8, b9, b10, b11⟩ := side8 z1 p1.1 p1.2
  obtain ⟨r2, c, c1, c2, c3, c4, c5, c6, c7, c8, c9, c10, c11⟩ := place8 z2 (r0 + 2) p2.1 p2.2 (by omega) (by omega)
  obtain ⟨r3, d, d1, d2, d3, d4, d5, d6, d7, d8, d9, d10, d11⟩ := place8 z3 (r1 + 2) p3.1 p3.2 (by omega) (by omega)
  have HH : Hid (HoleOk a b c d) := ⟨a7, a8, b7, b8, c6, by omega, d6, by omega⟩
  have na : (r0 + 2 = 0) = False := eq_false (by omega)
  have nb : (r1 + 2 = 0) = False := eq_false (by omega)
  clear p0 p1 p2 p3 a7 a8 b7 b8 c6 c7 d6 d7
  go_enter Try.func8, Try.ntmps8
  go_upto_region 6 with (fail)
  have HO := Lib.hid (own_new (⟨op_nil 49 w, op_nil 57 w, op_nil 57 w, apart_nil _, apart_nil _, apart_nil _⟩ : Own3 w (.slice none 0 0) (.slice none 0 0) (.slice none 0 0) [] [] [] w))
  generalize w.alloc (.cells #[.slice none 0 0, .slice none 0 0, .slice none 0 0] 38) = W1 at *
  generalize hgp : w.heap.size = gp at *
  go_upto_region 7 with (fail)
  have HBx := Lib.hid (ptRow_cells W1 (hP a b c d) #[.int .i64 0, .int .i64 0, .int .i64 a, .int .i64 0, .int .i64 a, .int .i64 b, .int .i64 0, .int .i64 b, .int .i64 c, .int .i64 d, .int .i64 (c + 4), .int .i64 d, .int .i64 (c + 4), .int .i64 (d + 4), .int .i64 c, .int .i64 (d + 4)] 49 rfl (show 8 ≤ 1000 by decide))
  have hln : (hP a b c d).length = 8 := rfl
  replace HO := Lib.hid (HO.out.below (bl_one W1 (.cells #[.int .i64 0, .int .i64 0, .int .i64 a, .int .i64 0, .int .i64 a, .int .i64 b, .int .i64 0, .int .i64 b, .int .i64 c, .int .i64 d, .int .i64 (c + 4), .int .i64 d, .int .i64 (c + 4), .int .i64 (d + 4), .int .i64 c, .int .i64 (d + 4)] 49)))
  generalize W1.alloc (.cells #[.int .i64 0, .int .i64 0, .int .i64 a, .int .i64 0, .int .i64 a, .int .i64 b, .int .i64 0, .int .i64 b, .int .i64 c, .int .i64 d, .int .i64 (c + 4), .int .i64 d, .int .i64 (c + 4), .int .i64 (d + 4), .int .i64 c, .int .i64 (d + 4)] 49) = W2 at *
  generalize W1.heap.size = gb at *
  clear a1 a2 a3 a4 a5 a6 a9 a10 a11 b1 b2 b3 b4 b5 b6 b9 b10 b11 c1 c2 c3 c4 c5 d1 d2 d3 d4 d5 na nb
  obtain ⟨x0, x1, x2⟩ := HO.out.var.three
  go_wp2_with (at_builtin; refine app_pts10 rfl Try.underlying35 info_pt10 _ _ rfl rfl HO.out.o.o0 rfl (L := hP a b c d) rfl HBx.out (fun h => by cases h) (by show 0 + 8 ≤ 1000000; decide) ?_)
  intro u' W3 hO2 hg2 hloc2
  have hX4 := HO.out.var.grown10 hg2 (fun k e e' => HO.out.n0 (by rw [e, e']))
  have hO3 := HO.out.put0 hO2 hg2 hloc2
  try rw [List.nil_append] at hO2 hO3
  obtain ⟨P, hP9⟩ : ∃ P, hP a b c d = P := ⟨_, rfl⟩
  have HP := Lib.hid hP9
  rw [hP9] at hO2 hO3 hln
  obtain ⟨au, cu, ev2, -⟩ := hO2.slice
  subst ev2
  obtain ⟨x0, x1, x2⟩ := hX4.three
  obtain ⟨y0, y1, y2⟩ := hX4.free3
  replace HO := Lib.hid hO3
  have HLn := Lib.hid hln
  clear hln hX4 hO2 hO3 hg2 hloc2 HBx hP9
  go_upto_region 8 with (fail)
  clear x0 x1 x2 y0 y1 y2
  generalize W3.setCell ⟨gp, 0, none⟩ (.slice au P.length cu) = W4 at *
  have HW2 := Lib.hid (And.intro (And.intro c8 (And.intro c9 (And.intro c10 c11))) (And.intro d8 (And.intro d9 (And.intro d10 d11))))
  clear c8 c9 c10 c11 d8 d9 d10 d11
  go_wp2_with fail
  go_loopw [15] (fun iv W => ∃ j : Nat, j ≤ 8 ∧ iv = .int .i64 j ∧ ∃ v, OwnV w gp (.slice au P.length cu) v (.slice none 0 0) P (hL.take j) [] W) (fun iv _ => 8 - (intOf iv).toNat)
  case atStart => exact ⟨0, Nat.zero_le _, rfl, _, by rw [List.take_zero]; exact HO.out⟩
  case round =>
    obtain ⟨j, hj, rfl, v, hO⟩ := hrel
    clear HO
    have HO := Lib.hid hO
    clear hO
    obtain ⟨n1, n3, n2, n4⟩ := wnum (i := j) (by omega)
    by_cases hlt : j < 8
    · have b1 : ((j : Int) < 8) = True := eq_true (by omega)
      have b2 : (j < 8) = True := eq_true hlt
      obtain ⟨q, r, z, q1, q7, q8, q2, q3, q4, q5, q6⟩ := seg8 hlt
      have htl : (hL.take j).length = j := by rw [List.length_take]; exact Nat.min_eq_left (by show j ≤ 8; omega)
      obtain ⟨M, hM⟩ : ∃ M, hL.take j = M := ⟨_, rfl⟩
      rw [hM] at q6 HO htl
      have HS8 := Lib.hid q6
      have HTL := Lib.hid htl
      clear hM
      obtain ⟨av, cv, ev, -⟩ := HO.out.o.o1.slice
      subst ev
      obtain ⟨x0, x1, x2⟩ := HO.out.var.three
      have HOa := Lib.hid (HO.out.below (bl_one wr (.cells #[.int .i64 (j : Int), .int .i64 z] 57)))
      clear q6 htl
      go_wp2_with (at_builtin; refine app_pts10 rfl Try.underlying36 info_eseg10 _ _ rfl rfl HOa.out.o.o1 rfl (L := [⟨(j : Int), z⟩]) rfl (row1_new wr ⟨(j : Int), z⟩ _) (fun h => by cases h) (by rw [HTL.out]; show j + 1 ≤ 1000000; omega) ?_)
      intro v' W5 hO2 hg2 hloc2
      have hX4 := HOa.out.var.grown10 hg2 (fun k e e' => HOa.out.n1 (by rw [e, e']))
      obtain ⟨M2, hM2⟩ : ∃ M2, hL.take (j + 1) = M2 := ⟨_, rfl⟩
      have HM2 := Lib.hid hM2
      rw [HS8.out, hM2] at hO2
      have HO3 := Lib.hid (HOa.out.put1 hO2 hg2 (hloc2.imp id (fun e => by rw [e]; simp)))
      obtain ⟨a2, c2', ev2, -⟩ := hO2.slice
      clear hM2
      subst ev2
      obtain ⟨x0, x1, x2⟩ := hX4.three
      obtain ⟨y0, y1, y2⟩ := hX4.free3
      clear hX4 hO2 hg2 hloc2 HOa HO
      go_wp2_with fail
      go_roundw
      case rel => exact ⟨j + 1, hlt, by simp, _, by rw [HM2.out]; exact HO3.out⟩
      case measure => simp [intOf] <;> omega
    · obtain rfl : j = 8 := by omega
      have b1 : (((8 : Nat) : Int) < 8) = False := eq_false (by decide)
      have et : hL.take 8 = hL := rfl
      rw [et] at HO
      obtain ⟨L, hL9⟩ : ∃ L, hL = L := ⟨_, rfl⟩
      have HLq := Lib.hid hL9
      rw [hL9] at HO
      clear hL9 et hj hlt n1 n2 n3 n4
      obtain ⟨av, cv, ev, -⟩ := HO.out.o.o1.slice
      subst ev
      have HB : Hid (Below w.heap.size w wr) := HO.out.o.hb
      have HLl : Hid (L.length = 8) := by rw [← HLq.out]; rfl
      have HV := Lib.hid HO.out.var
      have hpl : Pol wr au av none cu cv 0 P L [] := by
        obtain ⟨_, _, _, _, _, _, e0, e1, e2, h⟩ := HO.out.pol (by have := HLn.out; omega) (by have := HLl.out; omega) (Nat.zero_le _)
        cases e0
        cases e1
        cases e2
        exact h
      have HPol := Lib.hid hpl
      obtain ⟨WD, eWD⟩ : ∃ W, W = wr := ⟨_, rfl⟩
      subst eWD
      have HCk : Hid (ChkOk P L []) := by
        have h := hole_ok HH.out [] [] (fun z hz => by cases hz) (by simp) (fun s hs => by cases hs) (by simp)
        rw [List.append_nil, HP.out, HLq.out] at h
        exact h
      have HFl : Hid (flTo P L [] 8 = ⟨0, 0, 0⟩) := by
        have h := flTo_kind (hole_zero HH.out)
        rw [HP.out, HLq.out] at h
        exact h
      have HY1 : Hid (firstF P L [] = ⟨0, 0, 0⟩) := by unfold Hid firstF; rw [if_pos (checkB_iff.2 HCk.out)]; exact HFl.out
      have HY2 : Hid (firstE P L [] = 0) := by unfold Hid firstE; rw [if_pos (checkB_iff.2 HCk.out)]
      have hF := first10_l P L [] au av none cu cv 0 _ hpl
      rw [HY1.out, HY2.out] at hF
      simp only [List.length_nil] at hF
      have HF := Lib.hid hF
      clear hF hpl HO b1
      obtain ⟨x0, x1, x2⟩ := HV.out.three
      go_wp2_with fail
      (with_reducible refine HF.out.mono ?_); rintro e w21 ⟨rfl, hb7⟩
      dsimp only
      replace HB := Lib.hid (bl_trans HB.out hb7)
      replace HV := Lib.hid (HV.out.below hb7)
      replace HPol := Lib.hid (HPol.out.below hb7)
      clear hb7 HF x0 x1 x2
      go_upto_region 13 with (fail)
      have G1 := Lib.hid (var3_new w21 (.int .i64 0) (.int .i64 0) (.int .i64 0) 42 w21.heap.size rfl)
      replace HB := Lib.hid (bl_trans HB.out (bl_one w21 (.cells #[.int .i64 0, .int .i64 0, .int .i64 0] 42)))
      replace HV := Lib.hid (HV.out.below (bl_one w21 (.cells #[.int .i64 0, .int .i64 0, .int .i64 0] 42)))
      replace HPol := Lib.hid (HPol.out.below (bl_one w21 (.cells #[.int .i64 0, .int .i64 0, .int .i64 0] 42)))
      generalize w21.alloc (.cells #[.int .i64 0, .int .i64 0, .int .i64 0] 42) = W7 at *
      generalize w21.heap.size = g16 at *
      obtain ⟨k0, k1, k2⟩ := HV.out.three
      have hCp := copy10_l P L [] au av none cu cv 0 W7 HPol.out
      simp only [List.length_nil] at hCp
      have HCp := Lib.hid hCp
      clear hCp
      go_wp2_with fail
      (with_reducible refine HCp.out.mono ?_); rintro e w9 ⟨u, v, x, rfl, hO⟩
      obtain ⟨bu, bv, bx, du, dv, dx, e0, e1, e2, -⟩ := hO.pol (by have := HLn.out; omega) (by have := HLl.out; omega) (Nat.zero_le _)
      rw [List.length_nil] at e2
      subst e0 e1 e2
      go_upto_region 14 with (fail)
      clear k0 k1 k2 HCp
      have HO := Lib.hid (own_new hO)
      generalize w9.alloc (.cells #[.slice bu P.length du, .slice bv L.length dv, .slice bx 0 dx] 38) = WA at *
      generalize w9.heap.size = gi at *
      clear hO
      obtain ⟨x0, x1, x2⟩ := HO.out.var.three
      obtain ⟨P1, hP1⟩ : ∃ q, P ++ [(⟨c + 2, d + 2⟩ : Pt)] = q := ⟨_, rfl⟩
      have HN := Lib.hid hP1
      clear hP1
      have c9 := HW2.out.1.2.1
      have d9 := HW2.out.2.2.1
      have HOa := Lib.hid (HO.out.below (bl_one WA (.cells #[.int .i64 (c + 2), .int .i64 (d + 2)] 49)))
      go_wp2_with (at_builtin; refine app_pts10 rfl Try.underlying35 info_pt10 _ _ rfl rfl HOa.out.o.o0 rfl (L := [⟨c + 2, d + 2⟩]) rfl (row1_new WA ⟨c + 2, d + 2⟩ _) (fun h => by cases h) (by rw [HLn.out]; show 8 + 1 ≤ 1000000; decide) ?_)
      intro u' W6 hO2 hg2 hloc2
      have hX4 := HOa.out.var.grown10 hg2 (fun k e e' => HOa.out.n0 (by rw [e, e']))
      rw [HN.out] at hO2
      have hO3 := HOa.out.put0 hO2 hg2 (hloc2.imp id (fun e => by rw [e]; try simp))
      obtain ⟨a2, c2', ev2, -⟩ := hO2.slice
      subst ev2
      obtain ⟨x0, x1, x2⟩ := hX4.three
      obtain ⟨y0, y1, y2⟩ := hX4.free3
      clear hX4 hO2 hg2 hloc2 HOa HO
      clear c9 d9
      go_upto_region 15 with (fail)
      clear x0 x1 x2 y0 y1 y2
      generalize W6.setCell ⟨gi, 0, none⟩ (.slice a2 P1.length c2') = W8 at *
      have hO := hO3
      clear hO3
      have hc1 : ChkOk P1 L [] := (by rw [← HN.out, ← HP.out, ← HLq.out]; exact hole_ok HH.out [⟨c + 2, d + 2⟩] [] (fun z hz => by obtain rfl := List.mem_singleton.1 hz; obtain ⟨e0, e1, e2, e3, e4, e5, e6, e7⟩ := HH.out; exact place_of (by omega)) (by simp) (fun s hs => by cases hs) (by simp))
      have hk1 : flTo P1 L [] 8 = ⟨8, 8, 0⟩ := (by rw [← HN.out, ← HP.out, ← HLq.out]; exact hole_stray HH.out)
      obtain ⟨bu, bv, bx, du, dv, dx, e0, e1, e2, hPol1⟩ := hO.pol (by have := hc1.n; omega) (by have := hc1.nl; omega) (by have := hc1.ni; omega)
      first | subst e0 | cases e0
      first | subst e1 | cases e1
      first | subst e2 | cases e2
      have HY1 : Hid (firstF P1 L [] = ⟨8, 8, 0⟩) := by unfold Hid firstF; rw [if_pos (checkB_iff.2 hc1)]; exact hk1
      have HY2 : Hid (firstE P1 L [] = 0) := by unfold Hid firstE; rw [if_pos (checkB_iff.2 hc1)]
      have hF := first10_l _ _ _ _ _ _ _ _ _ _ hPol1
      rw [HY1.out, HY2.out] at hF
      try simp only [List.length_nil, List.length_cons] at hF
      have HF := Lib.hid hF
      have hbO := hO.o.hb
      replace HB := Lib.hid (bl_trans HB.out hbO)
      replace HV := Lib.hid (HV.out.below hbO)
      replace HPol := Lib.hid (HPol.out.below hbO)
      replace G1 := Lib.hid (G1.out.below hbO)
      obtain ⟨x0, x1, x2⟩ := hO.var.three
      clear hc1 hk1 HY1 HY2 hPol1 hO hbO hF
      go_wp2_with fail
      (with_reducible refine HF.out.mono ?_); rintro e w21 ⟨rfl, hb7⟩
      dsimp only
      replace HB := Lib.hid (bl_trans HB.out hb7)
      replace HV := Lib.hid (HV.out.below hb7)
      replace HPol := Lib.hid (HPol.out.below hb7)
      replace G1 := Lib.hid (G1.out.below hb7)
      clear hb7 HF x0 x1 x2
      go_upto_region 16 with (fail)
      have G2 := Lib.hid (var3_new w21 (.int .i64 8) (.int .i64 8) (.int .i64 0) 42 w21.heap.size rfl)
      replace HB := Lib.hid (bl_trans HB.out (bl_one w21 (.cells #[.int .i64 8, .int .i64 8, .int .i64 0] 42)))
      replace HV := Lib.hid (HV.out.below (bl_one w21 (.cells #[.int .i64 8, .int .i64 8, .int .i64 0] 42)))
      replace HPol := Lib.hid (HPol.out.below (bl_one w21 (.cells #[.int .i64 8, .int .i64 8, .int .i64 0] 42)))
      replace G1 := Lib.hid (G1.out.below (bl_one w21 (.cells #[.int .i64 8, .int .i64 8, .int .i64 0] 42)))
      generalize w21.alloc (.cells #[.int .i64 8, .int .i64 8, .int .i64 0] 42) = WE at *
      generalize w21.heap.size = g19 at *
      clear HN
      obtain ⟨W9, eW9⟩ : ∃ W, W = WE := ⟨_, rfl⟩
      subst eW9
      obtain ⟨k0, k1, k2⟩ := HV.out.three
      have hCp := copy10_l P L [] au av none cu cv 0 W9 HPol.out
      simp only [List.length_nil] at hCp
      have HCp := Lib.hid hCp
      clear hCp
      go_wp2_with fail
      (with_reducible refine HCp.out.mono ?_); rintro e w9 ⟨u, v, x, rfl, hO⟩
      obtain ⟨bu, bv, bx, du, dv, dx, e0, e1, e2, -⟩ := hO.pol (by have := HLn.out; omega) (by have := HLl.out; omega) (Nat.zero_le _)
      rw [List.length_nil] at e2
      subst e0 e1 e2
      go_upto_region 17 with (fail)
      clear k0 k1 k2 HCp
      have HO := Lib.hid (own_new hO)
      generalize w9.alloc (.cells #[.slice bu P.length du, .slice bv L.length dv, .slice bx 0 dx] 38) = WA at *
      generalize w9.heap.size = gt at *
      clear hO
      obtain ⟨x0, x1, x2⟩ := HO.out.var.three
      obtain ⟨P2, hP2⟩ : ∃ q, P ++ hQ c d = q := ⟨_, rfl⟩
      have HN := Lib.hid hP2
      have HP2 := Lib.hid hP2
      clear hP2
      have c10 := HW2.out.1.2.2.1
      have c11 := HW2.out.1.2.2.2
      have d10 := HW2.out.2.2.2.1
      have d11 := HW2.out.2.2.2.2
      have HOa := Lib.hid (HO.out.below (bl_one WA (.cells #[.int .i64 (c + 1), .int .i64 (d + 1), .int .i64 (c + 3), .int .i64 (d + 1), .int .i64 (c + 3), .int .i64 (d + 3)] 49)))
      go_wp2_with (at_builtin; refine app_pts10 rfl Try.underlying35 info_pt10 _ _ rfl rfl HOa.out.o.o0 rfl (L := hQ c d) rfl (ptRow_cells WA (hQ c d) #[.int .i64 (c + 1), .int .i64 (d + 1), .int .i64 (c + 3), .int .i64 (d + 1), .int .i64 (c + 3), .int .i64 (d + 3)] _ rfl (show 3 ≤ 1000 by decide)) (fun h => by cases h) (by rw [HLn.out]; show 8 + 3 ≤ 1000000; decide) ?_)
      intro u' W6 hO2 hg2 hloc2
      have hX4 := HOa.out.var.grown10 hg2 (fun k e e' => HOa.out.n0 (by rw [e, e']))
      rw [HN.out] at hO2
      have hO3 := HOa.out.put0 hO2 hg2 (hloc2.imp id (fun e => by rw [e]; try simp))
      obtain ⟨a2, c2', ev2, -⟩ := hO2.slice
      subst ev2
      obtain ⟨x0, x1, x2⟩ := hX4.three
      obtain ⟨y0, y1, y2⟩ := hX4.free3
      clear hX4 hO2 hg2 hloc2 HOa HO
      clear c10 c11 d10 d11
      go_upto_region 18 with (fail)
      clear x0 x1 x2 y0 y1 y2
      generalize W6.setCell ⟨gt, 0, none⟩ (.slice a2 P2.length c2') = W8 at *
      have HO := Lib.hid hO3
      clear hO3 HN
      obtain ⟨L2, hL2⟩ : ∃ q, L ++ hT = q := ⟨_, rfl⟩
      have HN := Lib.hid hL2
      have HL2 := Lib.hid hL2
      clear hL2
      obtain ⟨x0, x1, x2⟩ := HO.out.var.three
      have HOa := Lib.hid (HO.out.below (bl_one W8 (.cells #[.int .i64 8, .int .i64 9, .int .i64 9, .int .i64 10, .int .i64 10, .int .i64 8] 57)))
      go_wp2_with (at_builtin; refine app_pts10 rfl Try.underlying36 info_eseg10 _ _ rfl rfl HOa.out.o.o1 rfl (L := hT) rfl (ptRow_cells W8 hT #[.int .i64 8, .int .i64 9, .int .i64 9, .int .i64 10, .int .i64 10, .int .i64 8] _ rfl (show 3 ≤ 1000 by decide)) (fun h => by cases h) (by rw [HLl.out]; show 8 + 3 ≤ 1000000; decide) ?_)
      intro u' W6 hO2 hg2 hloc2
      have hX4 := HOa.out.var.grown10 hg2 (fun k e e' => HOa.out.n1 (by rw [e, e']))
      rw [HN.out] at hO2
      have hO3 := HOa.out.put1 hO2 hg2 (hloc2.imp id (fun e => by rw [e]; try simp))
      obtain ⟨a2, c2', ev2, -⟩ := hO2.slice
      subst ev2
      obtain ⟨x0, x1, x2⟩ := hX4.three
      obtain ⟨y0, y1, y2⟩ := hX4.free3
      clear hX4 hO2 hg2 hloc2 HOa HO

      go_upto_region 19 with (fail)
      clear x0 x1 x2 y0 y1 y2
      generalize W6.setCell ⟨gt, 1, none⟩ (.slice a2 L2.length c2') = WB at *
      have hO := hO3
      have HTwo := Lib.hid hO3
      clear hO3 HN
      have HC2 : Hid (ChkOk P2 L2 []) := by rw [← HP2.out, ← HL2.out, ← HP.out, ← HLq.out]; exact two_ok HH.out
      have hc1 : ChkOk P2 L2 [] := HC2.out
      have hk1 : flTo P2 L2 [] 8 = ⟨0, 0, 0⟩ := (by rw [← HP2.out, ← HL2.out, ← HP.out, ← HLq.out]; exact flTo_kind (two_zero HH.out))
      obtain ⟨bu, bv, bx, du, dv, dx, e0, e1, e2, hPol1⟩ := hO.pol (by have := hc1.n; omega) (by have := hc1.nl; omega) (by have := hc1.ni; omega)
      first | subst e0 | cases e0
      first | subst e1 | cases e1
      first | subst e2 | cases e2
      have HY1 : Hid (firstF P2 L2 [] = ⟨0, 0, 0⟩) := by unfold Hid firstF; rw [if_pos (checkB_iff.2 hc1)]; exact hk1
      have HY2 : Hid (firstE P2 L2 [] = 0) := by unfold Hid firstE; rw [if_pos (checkB_iff.2 hc1)]
      have hF := first10_l _ _ _ _ _ _ _ _ _ _ hPol1
      rw [HY1.out, HY2.out] at hF
      try simp only [List.length_nil, List.length_cons] at hF
      have HF := Lib.hid hF
      have hbO := hO.o.hb
      replace HB := Lib.hid (bl_trans HB.out hbO)
      replace HV := Lib.hid (HV.out.below hbO)
      replace HPol := Lib.hid (HPol.out.below hbO)
      replace G1 := Lib.hid (G1.out.below hbO)
      replace G2 := Lib.hid (G2.out.below hbO)
      obtain ⟨x0, x1, x2⟩ := hO.var.three
      clear hc1 hk1 HY1 HY2 hPol1 hO hbO hF
      go_wp2_with fail
      (with_reducible refine HF.out.mono ?_); rintro e w21 ⟨rfl, hb7⟩
      dsimp only
      replace HB := Lib.hid (bl_trans HB.out hb7)
      replace HV := Lib.hid (HV.out.below hb7)
      replace HPol := Lib.hid (HPol.out.below hb7)
      replace G1 := Lib.hid (G1.out.below hb7)
      replace G2 := Lib.hid (G2.out.below hb7)
      replace HTwo := Lib.hid (HTwo.out.below hb7)
      clear hb7 HF x0 x1 x2
      go_upto_region 20 with (fail)
      have G3 := Lib.hid (var3_new w21 (.int .i64 0) (.int .i64 0) (.int .i64 0) 42 w21.heap.size rfl)
      replace HB := Lib.hid (bl_trans HB.out (bl_one w21 (.cells #[.int .i64 0, .int .i64 0, .int .i64 0] 42)))
      replace HV := Lib.hid (HV.out.below (bl_one w21 (.cells #[.int .i64 0, .int .i64 0, .int .i64 0] 42)))
      replace HPol := Lib.hid (HPol.out.below (bl_one w21 (.cells #[.int .i64 0, .int .i64 0, .int .i64 0] 42)))
      replace G1 := Lib.hid (G1.out.below (bl_one w21 (.cells #[.int .i64 0, .int .i64 0, .int .i64 0] 42)))
      replace G2 := Lib.hid (G2.out.below (bl_one w21 (.cells #[.int .i64 0, .int .i64 0, .int .i64 0] 42)))
      replace HTwo := Lib.hid (HTwo.out.below (bl_one w21 (.cells #[.int .i64 0, .int .i64 0, .int .i64 0] 42)))
      generalize w21.alloc (.cells #[.int .i64 0, .int .i64 0, .int .i64 0] 42) = WE at *
      generalize w21.heap.size = g22 at *
      obtain ⟨WF, eWF⟩ : ∃ W, W = WE := ⟨_, rfl⟩
      subst eWF
      obtain ⟨k0, k1, k2⟩ := HV.out.three
      have hCp := copy10_l P L [] au av none cu cv 0 WF HPol.out
      simp only [List.length_nil] at hCp
      have HCp := Lib.hid hCp
      clear hCp
      go_wp2_with fail
      (with_reducible refine HCp.out.mono ?_); rintro e w9 ⟨u, v, x, rfl, hO⟩
      obtain ⟨bu, bv, bx, du, dv, dx, e0, e1, e2, -⟩ := hO.pol (by have := HLn.out; omega) (by have := HLl.out; omega) (Nat.zero_le _)
      rw [List.length_nil] at e2
      subst e0 e1 e2
      go_upto_region 21 with (fail)
      clear k0 k1 k2 HCp
      have HO := Lib.hid (own_new hO)
      generalize w9.alloc (.cells #[.slice bu P.length du, .slice bv L.length dv, .slice bx 0 dx] 38) = WA at *
      generalize w9.heap.size = gs at *
      clear hO
      obtain ⟨x0, x1, x2⟩ := HO.out.var.three
      have hOa := HO.out.below (bl_one WA (.cells #[.int .i64 4, .int .i64 6] 57))
      have hO8 := hOa.new2 ((op_new10 57 WA [⟨4, 6⟩] #[.int .i64 4, .int .i64 6] rfl (by decide)).base HO.out.o.hb) (fun g e e' => by have := (HO.out.o.o0.own.lt g e).2; have := Option.some.inj (show some WA.heap.size = some g from e'); omega) (fun g e e' => by have := (HO.out.o.o1.own.lt g e).2; have := Option.some.inj (show some WA.heap.size = some g from e'); omega) (fun e => by have := HO.out.var.lt; have := Option.some.inj (show some WA.heap.size = some gs from e); omega)
      have hX4 := hOa.var
      obtain ⟨m0, m1, m2⟩ := hX4.three
      obtain ⟨y0, y1, y2⟩ := hX4.free3
      clear hOa HO hX4
      go_upto_region 22 with (fail)
      clear x0 x1 x2 y0 y1 y2 m0 m1 m2
      have hO := hO8
      clear hO8
      generalize (WA.alloc (.cells #[.int .i64 4, .int .i64 6] 57)).setCell ⟨gs, 2, none⟩ (.slice (some ⟨WA.heap.size, 0, none⟩) 1 1) = W8 at *
      have hc1 : ChkOk P L [⟨4, 6⟩] := (by have h := hole_ok HH.out [] [⟨4, 6⟩] (fun z hz => by cases hz) (by simp) (by decide) (by simp); rw [List.append_nil, HP.out, HLq.out] at h; exact h)
      have hk1 : flTo P L [⟨4, 6⟩] 8 = ⟨7, 0, 0⟩ := (by rw [← HP.out, ← HLq.out]; exact hole_out HH.out)
      obtain ⟨bu, bv, bx, du, dv, dx, e0, e1, e2, hPol1⟩ := hO.pol (by have := hc1.n; omega) (by have := hc1.nl; omega) (by have := hc1.ni; omega)
      first | subst e0 | cases e0
      first | subst e1 | cases e1
      first | subst e2 | cases e2
      have HY1 : Hid (firstF P L [⟨4, 6⟩] = ⟨7, 0, 0⟩) := by unfold Hid firstF; rw [if_pos (checkB_iff.2 hc1)]; exact hk1
      have HY2 : Hid (firstE P L [⟨4, 6⟩] = 0) := by unfold Hid firstE; rw [if_pos (checkB_iff.2 hc1)]
      have hF := first10_l _ _ _ _ _ _ _ _ _ _ hPol1
      rw [HY1.out, HY2.out] at hF
      try simp only [List.length_nil, List.length_cons] at hF
      have HF := Lib.hid hF
      have hbO := hO.o.hb
      replace HB := Lib.hid (bl_trans HB.out hbO)
      replace HV := Lib.hid (HV.out.below hbO)
      replace HPol := Lib.hid (HPol.out.below hbO)
      replace G1 := Lib.hid (G1.out.below hbO)
      replace G2 := Lib.hid (G2.out.below hbO)
      replace G3 := Lib.hid (G3.out.below hbO)
      replace HTwo := Lib.hid (HTwo.out.below hbO)
      obtain ⟨x0, x1, x2⟩ := hO.var.three
      clear hc1 hk1 HY1 HY2 hPol1 hO hbO hF
      go_wp2_with fail
      (with_reducible refine HF.out.mono ?_); rintro e w21 ⟨rfl, hb7⟩
      dsimp only
      replace HB := Lib.hid (bl_trans HB.out hb7)
      replace HV := Lib.hid (HV.out.below hb7)
      replace HPol := Lib.hid (HPol.out.below hb7)
      replace G1 := Lib.hid (G1.out.below hb7)
      replace G2 := Lib.hid (G2.out.below hb7)
      replace G3 := Lib.hid (G3.out.below hb7)
      replace HTwo := Lib.hid (HTwo.out.below hb7)
      clear hb7 HF x0 x1 x2
      go_upto_region 23 with (fail)
      have G4 := Lib.hid (var3_new w21 (.int .i64 7) (.int .i64 0) (.int .i64 0) 42 w21.heap.size rfl)
      replace HB := Lib.hid (bl_trans HB.out (bl_one w21 (.cells #[.int .i64 7, .int .i64 0, .int .i64 0] 42)))
      replace HV := Lib.hid (HV.out.below (bl_one w21 (.cells #[.int .i64 7, .int .i64 0, .int .i64 0] 42)))
      replace HPol := Lib.hid (HPol.out.below (bl_one w21 (.cells #[.int .i64 7, .int .i64 0, .int .i64 0] 42)))
      replace G1 := Lib.hid (G1.out.below (bl_one w21 (.cells #[.int .i64 7, .int .i64 0, .int .i64 0] 42)))
      replace G2 := Lib.hid (G2.out.below (bl_one w21 (.cells #[.int .i64 7, .int .i64 0, .int .i64 0] 42)))
      replace G3 := Lib.hid (G3.out.below (bl_one w21 (.cells #[.int .i64 7, .int .i64 0, .int .i64 0] 42)))
      replace HTwo := Lib.hid (HTwo.out.below (bl_one w21 (.cells #[.int .i64 7, .int .i64 0, .int .i64 0] 42)))
      generalize w21.alloc (.cells #[.int .i64 7, .int .i64 0, .int .i64 0] 42) = WE at *
      generalize w21.heap.size = g25 at *
      obtain ⟨WH, eWH⟩ : ∃ W, W = WE := ⟨_, rfl⟩
      subst eWH
      obtain ⟨k0, k1, k2⟩ := HV.out.three
      have hI := inside10_l P L [] 0 4 au av none cu cv 0 WH HPol.out
      have hin : insideF P L [] 0 4 = true := by rw [← HP.out, ← HLq.out]; exact hole_in HH.out
      rw [hin] at hI
      simp only [List.length_nil] at hI
      have HI := Lib.hid hI
      clear hI hin
      go_wp2_with fail
      (with_reducible refine HI.out.mono ?_); rintro e w22 ⟨rfl, hb7⟩
      replace HB := Lib.hid (bl_trans HB.out hb7)
      replace G1 := Lib.hid (G1.out.below hb7)
      replace G2 := Lib.hid (G2.out.below hb7)
      replace G3 := Lib.hid (G3.out.below hb7)
      replace G4 := Lib.hid (G4.out.below hb7)
      replace HTwo := Lib.hid (HTwo.out.below hb7)
      clear hb7 HI k0 k1 k2
      obtain ⟨bu, bv, bx, du, dv, dx, e0, e1, e2, hPol2⟩ := HTwo.out.pol (by have := HC2.out.n; omega) (by have := HC2.out.nl; omega) (Nat.zero_le _)
      first | subst e0 | cases e0
      first | subst e1 | cases e1
      first | subst e2 | cases e2
      have hLo := loops10_l _ _ _ _ _ _ _ _ _ _ hPol2
      have h3 : (loopsL P2 L2 []).length = 3 := by rw [← HP2.out, ← HL2.out, ← HP.out, ← HLq.out]; exact two_rings HH.out
      rw [h3] at hLo
      simp only [List.length_nil] at hLo
      have HLo := Lib.hid hLo
      obtain ⟨x0, x1, x2⟩ := HTwo.out.var.three
      clear hLo h3 hPol2
      go_wp2_with fail
      (with_reducible refine HLo.out.mono ?_); rintro e w23 ⟨ad9, cp9, rfl, -, -, -, hb7⟩
      replace HB := Lib.hid (bl_trans HB.out hb7)
      replace G1 := Lib.hid (G1.out.below hb7)
      replace G2 := Lib.hid (G2.out.below hb7)
      replace G3 := Lib.hid (G3.out.below hb7)
      replace G4 := Lib.hid (G4.out.below hb7)
      clear hb7 HLo x0 x1 x2
      obtain ⟨r0, r1, r2⟩ := G1.out.three
      obtain ⟨s0, s1, s2⟩ := G2.out.three
      obtain ⟨t0, t1, t2⟩ := G3.out.three
      obtain ⟨v0, v1, v2⟩ := G4.out.three
      have q0 := fun W => eqFlG11 0 0 0 W
      have q1 := fun W => eqFlG11 8 8 0 W
      have q2 := fun W => eqFlG11 7 0 0 W
      go_wp2_with fail
      (with_reducible refine (KN.out _).mono ?_); rintro e w9 ⟨rfl, hb9⟩
      have HBz := Lib.hid (bl_trans HB.out hb9)
      clear hb9
      go_wp2_with fail
      go_ret
      exact ⟨rfl, HBz.out⟩
theorem vhole_u (W : World) (m0 : Nat) (h0 : m0 < 256) (m1 : Nat) (h1 : m1 < 256) (m2 : Nat) (h2 : m2 < 256) (m3 : Nat) (h3 : m3 < 256) :
    Calls Try.prog 8 #[.int .u8 (m0 : Int), .int .u8 (m1 : Int), .int .u8 (m2 : Int), .int .u8 (m3 : Int)] W (Gives (.bool true) W) :=
  vhole_l m0 m1 m2 m3 ⟨by omega, by omega⟩ ⟨by omega, by omega⟩ ⟨by omega, by omega⟩ ⟨by omega, by omega⟩ W
end Go.Proofs.Ytpjaefcmaiimlaa
