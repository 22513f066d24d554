/-
  The walk of the law ValidHurt, part 2.
-/
import Derived.Test.YtpjaefcmaiimlaaVHurtA
set_option linter.unusedVariables false
set_option linter.unusedSimpArgs false
set_option linter.deprecated false
namespace Go.Proofs.Ytpjaefcmaiimlaa
open Go.RowKit

set_option maxHeartbeats 16000000 in
set_option maxRecDepth 100000 in
noncomputable def vhB (p l i : List Pt) (gp op gm om : Nat) (ai : Option Addr) (cp cl ci : Nat) (w : World) (hA0 : Hid (p.length ≤ 10000 → l.length ≤ 10000 → i.length ≤ 10000 → Pol w (some ⟨gp, op, none⟩) (some ⟨gm, om, none⟩) ai cp cl ci p l i)) (h3p : Hid (3 ≤ p.length)) (h3l : Hid (3 ≤ l.length)) (t : Int) : {P : Prop // Tail11 P → (vhA p l i gp op gm om ai cp cl ci w hA0 h3p h3l t).val} := ⟨_, fun hP => by
  intro k m g5 a b W5 gy au av ax cu cv cx qx qy P wc K0 aK0 KN HC HA HFew HU HU2 HKl HMl HPol HCp HB HV HQ HPA hcut
  intros
  obtain ⟨u', hO⟩ := hcut
  obtain ⟨W8, eW8⟩ : ∃ W, W = wc := ⟨_, rfl⟩
  subst eW8
  have h1 : ChkOk (p ++ [⟨qx, qy⟩]) l i := more_chk11 HC.out (by have := HFew.out; omega) (by rw [← HQ.out]; exact HC.out.pl k HKl.out)
  have h2 : (flTo (p ++ [⟨qx, qy⟩]) l i 8).k = 1 := by rw [← HQ.out]; exact hurt_alike k HKl.out
  rw [HPA.out] at h1 h2
  have hc1 : ChkOk P l i := h1
  have hk1 : (flTo P l i 8).k = 1 := h2
  obtain ⟨bu, bv, bx, du, dv, dx, e0, e1, e2, hPol⟩ := hO.pol (by have := hc1.n; omega) (by have := hc1.nl; omega) (by have := hc1.ni; omega)
  first | subst e0 | cases e0
  first | subst e1 | cases e1
  first | subst e2 | cases e2
  obtain ⟨⟨G10, G11, G12⟩, hf1⟩ : ∃ f, flTo P l i 8 = f := ⟨_, rfl⟩
  rw [hf1] at hk1
  obtain rfl : G10 = 1 := hk1

  have HY1 : Hid (firstF P l i = ⟨1, G11, G12⟩) := by unfold Hid firstF; rw [if_pos (checkB_iff.2 hc1)]; exact hf1
  have HY2 : Hid (firstE P l i = 0) := by unfold Hid firstE; rw [if_pos (checkB_iff.2 hc1)]
  have hF := first10_l _ _ _ _ _ _ _ _ _ _ hPol
  rw [HY1.out, HY2.out] at hF
  try simp only [List.length_nil] at hF
  have HF := Lib.hid hF
  clear hF
  have hbO := hO.o.hb
  replace HB := Lib.hid (bl_trans HB.out hbO)
  replace HV := Lib.hid (HV.out.below hbO)
  obtain ⟨x0, x1, x2⟩ := hO.var.three
  clear hc1 hf1 HY1 HY2 hPol hO hbO
  go_wp2_with fail
  (with_reducible refine HF.out.mono ?_); rintro e w21 ⟨rfl, hb7⟩
  dsimp only
  replace HB := Lib.hid (bl_trans HB.out hb7)
  replace HV := Lib.hid (HV.out.below hb7)
  clear hb7 HF x0 x1 x2
  go_upto_region 9 with (fail)
  have G1 := Lib.hid (var3_new w21 (.int .i64 1) (.int .i64 G11) (.int .i64 G12) 42 w21.heap.size rfl)

  replace HB := Lib.hid (bl_trans HB.out (bl_one w21 (.cells #[.int .i64 1, .int .i64 G11, .int .i64 G12] 42)))
  replace HV := Lib.hid (HV.out.below (bl_one w21 (.cells #[.int .i64 1, .int .i64 G11, .int .i64 G12] 42)))
  generalize w21.alloc (.cells #[.int .i64 1, .int .i64 G11, .int .i64 G12] 42) = WD at *
  generalize w21.heap.size = g8 at *
  clear h1 h2 HQ HPA
  obtain ⟨W6, eW6⟩ : ∃ W, W = WD := ⟨_, rfl⟩
  subst eW6
  obtain ⟨k0, k1, k2⟩ := HV.out.three
  go_wp2_with fail
  (with_reducible refine (HCp.out _ HB.out).mono ?_); rintro e w9 ⟨u, v, x, rfl, hO⟩
  obtain ⟨au, av, ax, cu, cv, cx, e0, e1, e2, -⟩ := hO.pol HPol.out.lenP HPol.out.lenL HPol.out.lenI
  subst e0 e1 e2
  go_upto_region 10 with (fail)
  clear k0 k1 k2
  have HO := Lib.hid (own_new hO)
  generalize w9.alloc (.cells #[.slice au p.length cu, .slice av l.length cv, .slice ax i.length cx] 38) = WA at *
  generalize w9.heap.size = gz at *
  clear hO
  obtain ⟨⟨qx, qy⟩, hq⟩ : ∃ q, pget l m = q := ⟨_, rfl⟩
  have HQ := Lib.hid hq
  have HLim : Hid (l.length + [(⟨qx, qy⟩ : Pt)].length ≤ 1000000) := by have := HFew.out; show l.length + 1 ≤ 1000000; omega
  obtain ⟨P, hPA⟩ : ∃ P, l ++ [(⟨qx, qy⟩ : Pt)] = P := ⟨_, rfl⟩
  have HPA := Lib.hid hPA
  clear hq hPA
  go_cut [] (fun W => ∃ v', OwnV W6 gz (.slice au p.length cu) v' (.slice ax i.length cx) p P i W)
  case first =>
    refine wp_region_held_drew (S := fun V => Below W6.heap.size W6 V) (by kernel_rfl) ?_ (fun hHeld => ?_)
    · exact HO.out.o.hb.drew
    replace HO := Lib.hid (HO.out.below (bel_drew _))
    revert hHeld
    revert HO
    generalize World.drew _ = W9
    intro HO hHeld
    refine tk (i := 0) (v := ?_) rfl (Or.inl ⟨by rfl, ?_⟩) ?_
    rotate_left; · intro Wq hSw; clear hSw; go_simp; all_goals (with_reducible rfl)
    try simp only [Act.put, x2, x4, x5, x6, x7]
    refine tk (i := 2) (v := ?_) rfl (Or.inl ⟨by rfl, ?_⟩) ?_
    rotate_left; · intro Wq hSw; clear hSw; go_simp; all_goals (with_reducible rfl)
    try simp only [Act.put, x2, x3, x4, x5, x6, x7]
    refine tk (i := 3) (v := ?_) rfl (Or.inl ⟨by rfl, ?_⟩) ?_
    rotate_left
    · intro Wq hSw
      obtain ⟨k0, k1, k2⟩ := (HV.out.below hSw).three
      clear hSw
      go_simp; all_goals (with_reducible rfl)
    try simp only [Act.put, x2, x3, x4, x5, x6, x7]
    refine tk (i := 4) (v := ?_) rfl (Or.inl ⟨by rfl, ?_⟩) ?_
    rotate_left; · intro Wq hSw; clear hSw; go_simp; all_goals (with_reducible rfl)
    try simp only [Act.put, x2, x3, x4, x5, x6, x7]
    refine tk (i := 5) (v := ?_) rfl (Or.inl ⟨by rfl, ?_⟩) ?_
    rotate_left; · intro Wq hSw; clear hSw; go_simp; all_goals (with_reducible rfl)
    try simp only [Act.put, x2, x3, x4, x5, x6, x7]
    refine tk (i := 6) (v := ?_) rfl (Or.inl ⟨by rfl, ?_⟩) ?_
    rotate_left; · intro Wq hSw; clear hSw; go_simp; all_goals (with_reducible rfl)
    try simp only [Act.put, x2, x3, x4, x5, x6, x7]
    refine tk (i := 7) (v := ?_) rfl (Or.inl ⟨by rfl, ?_⟩) ?_
    rotate_left
    · intro Wq hSw
      obtain ⟨k0, k1, k2⟩ := (HV.out.below hSw).three
      clear hSw
      go_simp; all_goals (with_reducible rfl)
    try simp only [Act.put, x2, x3, x4, x5, x6, x7]
    refine tk (i := 8) (v := ?_) rfl (Or.inl ⟨by rfl, ?_⟩) ?_
    rotate_left; · intro Wq hSw; clear hSw; go_simp; all_goals (with_reducible rfl)
    try simp only [Act.put, x2, x3, x4, x5, x6, x7]
    refine tk (i := 9) (v := ?_) rfl (Or.inl ⟨by rfl, ?_⟩) ?_
    rotate_left
    · intro Wq hSw
      obtain ⟨u1, u2, u3⟩ := HU2.out
      clear hSw
      go_simp; all_goals (with_reducible rfl)
    try simp only [Act.put, x2, x3, x4, x5, x6, x7]
    refine tk (i := 10) (v := ?_) rfl (Or.inl ⟨by rfl, ?_⟩) ?_
    rotate_left
    · intro Wq hSw
      obtain ⟨u1, u2, u3⟩ := HU2.out
      have b6 : (l = []) = False := eq_false (fun e => by have h := HMl.out; rw [e] at h; exact absurd h (Nat.not_lt_zero _))
      clear hSw
      go_simp; all_goals (with_reducible rfl)
    try simp only [Act.put, x2, x3, x4, x5, x6, x7]
    refine tk (i := 11) (v := ?_) rfl (Or.inl ⟨by rfl, ?_⟩) ?_
    rotate_left
    · intro Wq hSw
      obtain ⟨u1, u2, u3⟩ := HU2.out
      clear hSw
      go_simp; all_goals (with_reducible rfl)
    try simp only [Act.put, x2, x3, x4, x5, x6, x7]
    refine tk (i := 12) (v := ?_) rfl (Or.inl ⟨by rfl, ?_⟩) ?_
    rotate_left
    · intro Wq hSw
      have hml := HMl.out
      have c1 : ((m : Int) < (l.length : Int)) = True := eq_true (by omega)
      have c2 : ((0 : Int) ≤ (m : Int)) = True := eq_true (by omega)
      have c3 : (m < l.length) = True := eq_true hml
      clear hSw
      go_simp; all_goals (with_reducible rfl)
    try simp only [Act.put, x2, x3, x4, x5, x6, x7]
    refine tk (i := 13) (v := ?_) rfl (Or.inl ⟨by rfl, ?_⟩) ?_
    rotate_left
    · intro Wq hSw
      obtain ⟨c0, c1⟩ := ptRow_at (HPol.out.ll.below (bl_trans HB.out hSw)) HMl.out HQ.out
      dsimp only at c0 c1
      clear hSw
      go_simp; all_goals (with_reducible rfl)
    try simp only [Act.put, x2, x3, x4, x5, x6, x7]
    refine r2 (i := 1) (j := 14) rfl (fun K hK => ?_) rfl (fun K hK => ?_)
    · obtain ⟨x0, x1, x2⟩ := HO.out.var.three
      go_simp
      refine hK.out _ _ hHeld (fun hHeld2 => ?_)
      clear hK K hHeld x0 x1 x2
      have hHeld := hHeld2
      clear hHeld2
      try simp only [Act.put, x2, x3, x4, x5, x6, x7]
      refine r1 (i := 14) rfl (fun K hK => ?_)
      go_simp
      have HN := Lib.hid (row1_new W9 ⟨qx, qy⟩ 57)
      have hB8 := Nat.le_trans HO.out.hg (Nat.le_of_lt HO.out.var.lt)
      replace HO := Lib.hid (HO.out.below (bl_one W9 (.cells #[.int .i64 qx, .int .i64 qy] 57)))
      refine hK.out _ _ (hHeld.alloc hB8 _) (fun hHeld2 => ?_)
      clear hK K hHeld hB8
      generalize W9.alloc (.cells #[.int .i64 qx, .int .i64 qy] 57) = W8 at *
      have hHeld := hHeld2
      clear hHeld2
      try simp only [Act.put, x2, x3, x4, x5, x6, x7]
      refine r1 (i := 15) rfl (fun K hK => ?_)
      refine app_pts10_wp Try.underlying36 info_eseg10 (.tmp 92) (.tmp 105) rfl (by rfl) HO.out.o.o1 (L := [⟨qx, qy⟩]) (by rfl) HN.out ?lim (fun v2 w4 hO2 hg2 hloc2 => ?_)
      case lim => exact HLim.out
      rw [HPA.out] at hO2
      have hB8 := Nat.le_trans HO.out.hg (Nat.le_of_lt HO.out.var.lt)
      have HX4 := Lib.hid (HO.out.var.grown10 hg2 (fun k e e' => HO.out.n1 (by rw [e, e'])))
      have HO3 := Lib.hid (HO.out.put1 hO2 hg2 hloc2)
      have hgl := HO.out.hg
      refine hK.out _ _ (hHeld.grown hg2 hB8 (fun k e => (HO.out.o.o1.own.lt k e).1)) (fun hHeld2 => ?_)
      obtain ⟨a2, c2, ev2, -⟩ := hO2.slice
      clear hK K hHeld hO2 hg2 hloc2 hB8 HN HO
      subst ev2
      have hHeld := hHeld2
      clear hHeld2
      try simp only [Act.put, x2, x3, x4, x5, x6, x7]
      refine tk (i := 16) (v := ?_) rfl (Or.inl ⟨by rfl, ?_⟩) ?_
      rotate_left; · intro Wq hSw; clear hSw; go_simp; all_goals (with_reducible rfl)
      try simp only [Act.put, x2, x3, x4, x5, x6, x7]
      refine r1 (i := 17) rfl (fun K hK => ?_)
      obtain ⟨x0, x1, x2⟩ := HX4.out.three
      obtain ⟨y0, y1, y2⟩ := HX4.out.free3
      go_simp
      refine hK.out _ _ (hHeld.setCell hgl _) (fun hHeld2 => ?_)
      clear hK K hHeld x0 x1 x2 y0 y1 y2 HX4
      have hHeld := hHeld2
      clear hHeld2
      try simp only [Act.put, x2, x3, x4, x5, x6, x7]
      refine wpAnyH_done (by kernel_rfl) ?_ _
      go_wp2_with fail
      go_meet
      case rel => exact ⟨_, HO3.out⟩
    · go_simp
      have HN := Lib.hid (row1_new W9 ⟨qx, qy⟩ 57)
      have hB8 := Nat.le_trans HO.out.hg (Nat.le_of_lt HO.out.var.lt)
      replace HO := Lib.hid (HO.out.below (bl_one W9 (.cells #[.int .i64 qx, .int .i64 qy] 57)))
      refine hK.out _ _ (hHeld.alloc hB8 _) (fun hHeld2 => ?_)
      clear hK K hHeld hB8
      generalize W9.alloc (.cells #[.int .i64 qx, .int .i64 qy] 57) = W8 at *
      have hHeld := hHeld2
      clear hHeld2
      try simp only [Act.put, x2, x3, x4, x5, x6, x7]
      refine r1 (i := 1) rfl (fun K hK => ?_)
      obtain ⟨x0, x1, x2⟩ := HO.out.var.three
      go_simp
      refine hK.out _ _ hHeld (fun hHeld2 => ?_)
      clear hK K hHeld x0 x1 x2
      have hHeld := hHeld2
      clear hHeld2
      try simp only [Act.put, x2, x3, x4, x5, x6, x7]
      refine r1 (i := 15) rfl (fun K hK => ?_)
      refine app_pts10_wp Try.underlying36 info_eseg10 (.tmp 92) (.tmp 105) rfl (by rfl) HO.out.o.o1 (L := [⟨qx, qy⟩]) (by rfl) HN.out ?lim (fun v2 w4 hO2 hg2 hloc2 => ?_)
      case lim => exact HLim.out
      rw [HPA.out] at hO2
      have hB8 := Nat.le_trans HO.out.hg (Nat.le_of_lt HO.out.var.lt)
      have HX4 := Lib.hid (HO.out.var.grown10 hg2 (fun k e e' => HO.out.n1 (by rw [e, e'])))
      have HO3 := Lib.hid (HO.out.put1 hO2 hg2 hloc2)
      have hgl := HO.out.hg
      refine hK.out _ _ (hHeld.grown hg2 hB8 (fun k e => (HO.out.o.o1.own.lt k e).1)) (fun hHeld2 => ?_)
      obtain ⟨a2, c2, ev2, -⟩ := hO2.slice
      clear hK K hHeld hO2 hg2 hloc2 hB8 HN HO
      subst ev2
      have hHeld := hHeld2
      clear hHeld2
      try simp only [Act.put, x2, x3, x4, x5, x6, x7]
      refine tk (i := 16) (v := ?_) rfl (Or.inl ⟨by rfl, ?_⟩) ?_
      rotate_left; · intro Wq hSw; clear hSw; go_simp; all_goals (with_reducible rfl)
      try simp only [Act.put, x2, x3, x4, x5, x6, x7]
      refine r1 (i := 17) rfl (fun K hK => ?_)
      obtain ⟨x0, x1, x2⟩ := HX4.out.three
      obtain ⟨y0, y1, y2⟩ := HX4.out.free3
      go_simp
      refine hK.out _ _ (hHeld.setCell hgl _) (fun hHeld2 => ?_)
      clear hK K hHeld x0 x1 x2 y0 y1 y2 HX4
      have hHeld := hHeld2
      clear hHeld2
      try simp only [Act.put, x2, x3, x4, x5, x6, x7]
      refine wpAnyH_done (by kernel_rfl) ?_ _
      go_wp2_with fail
      go_meet
      case rel => exact ⟨_, HO3.out⟩
  case rest =>
  rename_i K0 aK0
  clear HO HLim HU HKl
  repeat revert ‹Value›
  revert hcut
  revert HPA
  revert HQ
  revert G1
  revert HV
  revert HB
  revert HCp
  revert HPol
  revert HMl
  revert HU2
  revert HFew
  revert HA
  revert HC
  revert KN
  revert aK0
  revert K0
  revert wc
  revert P
  revert qy
  revert qx
  revert cx
  revert cv
  revert cu
  revert ax
  revert av
  revert au
  revert gz
  revert W6
  revert G12
  revert G11
  revert g8
  revert gy
  revert g5
  revert m
  exact hP.out⟩
end Go.Proofs.Ytpjaefcmaiimlaa
