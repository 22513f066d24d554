/-
  Proved: for every input (a slice of points and two slices of segments) and every number the law ValidSame returns true, and its arguments read as they did. No condition.
-/
import Derived.Test.YtiebmlhglgpajaaVSameK
import Derived.Test.YtiebmlhglgpajaaVLawK
import Derived.Test.YtiebmlhglgpajaaVMany
import Derived.Test.YtiebmlhglgpajaaVRefCA
import Derived.Test.YtiebmlhglgpajaaVRen
import Derived.Test.YtiebmlhglgpajaaOpenPoly
import Derived.Test.YtiebmlhglgpajaaKnown3
/-
  The law ValidSame.
-/
namespace Go.Proofs.Ytiebmlhglgpajaa
open Go.RowKit

theorem stored10 {W5 W7 : World} {g7 : Nat} {u v x a b c : Value} {P L I : List Pt} (hO : Own3 W5 u v x P L I W7) (hg : W5.heap.size ≤ g7) (h0 : u.ownBlock ≠ some g7) (h1 : v.ownBlock ≠ some g7) (h2 : x.ownBlock ≠ some g7) (hX : Var W7 g7 [a, b, c]) :
    Own3 W5 u v x P L I (((W7.setCell ⟨g7, 0, none⟩ u).setCell ⟨g7, 1, none⟩ v).setCell ⟨g7, 2, none⟩ x) ∧ Var (((W7.setCell ⟨g7, 0, none⟩ u).setCell ⟨g7, 1, none⟩ v).setCell ⟨g7, 2, none⟩ x) g7 [u, v, x] :=
  ⟨((hO.set hg h0 h1 h2 0 u).set hg h0 h1 h2 1 v).set hg h0 h1 h2 2 x, hX.set3 u v x⟩
theorem wneg10 {a s : Int} (h : -a = s) (ha : -4000000 ≤ a ∧ a ≤ 4000000) : wrap64 (-a) = s ∧ IntKind.i64.wrap (-a) = s := by
  subst h
  exact ⟨by unfold wrap64; omega, IntWalk.i64_in _ (by omega)⟩
theorem wurem10 (t : Int) {n : Nat} (h0 : 0 < n) (hn : n ≤ 200) : ∃ b : Nat, b < n ∧ IntKind.u64.wrap (n : Int) = (n : Int) ∧ Int.tmod (IntKind.u64.wrap t) (n : Int) = (b : Int) ∧ IntKind.i64.wrap (b : Int) = (b : Int) := by
  have h1 : 0 ≤ IntKind.u64.wrap t := by rw [IntKind.wrap_u64]; exact Int.emod_nonneg _ (by omega)
  generalize IntKind.u64.wrap t = m at *
  have h2 := Int.emod_nonneg m (show (n : Int) ≠ 0 by omega)
  have h3 := Int.emod_lt_of_pos m (show (0 : Int) < (n : Int) by omega)
  refine ⟨(m % (n : Int)).toNat, by omega, by rw [IntKind.wrap_u64]; omega, ?_, IntWalk.i64_in _ (by omega)⟩
  rw [Int.tmod_eq_emod_of_nonneg h1]
  omega
set_option maxHeartbeats 16000000 in
set_option maxRecDepth 100000 in
theorem vsame_l (p l i : List Pt) (ap al ai : Option Addr) (cp cl ci : Nat) (w : World) (hA : PtRow w ap p) (hB0 : PtRow w al l) (hC0 : PtRow w ai i) (q1 : p.length ≤ cp) (q2 : l.length ≤ cl) (q3 : i.length ≤ ci) (n1 : ap = none → cp = 0) (n2 : al = none → cl = 0) (n3 : ai = none → ci = 0) (t : Int) :
    Calls Try.prog 4 #[.agg #[.slice ap p.length cp, .slice al l.length cl, .slice ai i.length ci], .int .i64 t] w (Gives (.bool true) w) := by
  have KN := Lib.hid (fun W => known10_l W)
  have HPol0 : Hid (p.length ≤ 10000 → l.length ≤ 10000 → i.length ≤ 10000 → Pol w ap al ai cp cl ci p l i) := fun a b c => ⟨hA, hB0, hC0, q1, q2, q3, n1, n2, n3, a, b, c⟩
  have HM := Lib.hid (fun W => many10_l p.length l.length i.length ap al ai cp cl ci W)
  clear hA hB0 hC0 q1 q2 q3 n1 n2 n3
  obtain ⟨r, hr⟩ : ∃ r, many10 p.length l.length i.length = r := ⟨_, rfl⟩
  rw [hr] at HM
  have HR := Lib.hid hr
  clear hr
  go_enter Try.func4, Try.ntmps4
  go_upto_region 1 with (fail)
  have HV := Lib.hid (var3_new w (.slice ap p.length cp) (.slice al l.length cl) (.slice ai i.length ci) 38 w.heap.size rfl)
  have HB := Lib.hid (bl_one w (.cells #[.slice ap p.length cp, .slice al l.length cl, .slice ai i.length ci] 38))
  generalize w.alloc (.cells #[.slice ap p.length cp, .slice al l.length cl, .slice ai i.length ci] 38) = W1 at *
  obtain ⟨k0, k1, k2⟩ := HV.out.three
  cases r
  case true =>
    go_wp2_with fail
    (with_reducible refine (HM.out _).mono ?_); rintro e w2 ⟨rfl, hb2⟩
    replace HB := Lib.hid (bl_trans HB.out hb2)
    clear hb2 HM k0 k1 k2
    go_wp2_with fail
    (with_reducible refine (KN.out _).mono ?_); rintro e w9 ⟨rfl, hb9⟩
    have HBz := Lib.hid (bl_trans HB.out hb9)
    clear hb9
    go_wp2_with fail
    go_ret
    exact ⟨rfl, HBz.out⟩
  case false =>
  have hA : Pol w ap al ai cp cl ci p l i := by
    obtain ⟨a, b, c⟩ := many_no HR.out
    exact HPol0.out (by omega) (by omega) (by omega)
  have HPol := Lib.hid hA
  have HCk := Lib.hid (fun W h => refCheck10_l p l i ap al ai cp cl ci W (hA.below h))
  have HCE : Hid (firstE p l i = if checkB p l i = true then 0 else 2) := rfl
  clear HPol0 HR hA
  obtain ⟨e9, he⟩ : ∃ e, firstE p l i = e := ⟨_, rfl⟩
  rw [he] at HCk HCE
  have HE9 := Lib.hid he
  clear he
  by_cases hp0 : p = []
  · have hpe : (p = []) = True := eq_true hp0
    have hpl : p.length = 0 := by rw [hp0]; rfl
    rw [hpl] at HM
    go_wp2_with fail
    (with_reducible refine (HM.out _).mono ?_); rintro e w2 ⟨rfl, hb2⟩
    replace HV := Lib.hid (HV.out.below hb2)
    replace HB := Lib.hid (bl_trans HB.out hb2)
    clear hb2 HM k0 k1 k2
    obtain ⟨k0, k1, k2⟩ := HV.out.three
    go_wp2_with fail
    (with_reducible refine (KN.out _).mono ?_); rintro e w9 ⟨rfl, hb9⟩
    have HBz := Lib.hid (bl_trans HB.out hb9)
    clear hb9
    go_wp2_with fail
    go_ret
    exact ⟨rfl, HBz.out⟩
  have hpe : (p = []) = False := eq_false hp0
  have hb0 : 0 < p.length := by cases p with | nil => exact absurd rfl hp0 | cons _ _ => simp
  clear hp0
  go_wp2_with fail
  (with_reducible refine (HM.out _).mono ?_); rintro e w2 ⟨rfl, hb2⟩
  replace HV := Lib.hid (HV.out.below hb2)
  replace HB := Lib.hid (bl_trans HB.out hb2)
  clear hb2 HM k0 k1 k2
  obtain ⟨k0, k1, k2⟩ := HV.out.three
  go_wp2_with fail
  (with_reducible refine (HCk.out _ HB.out).mono ?_); rintro e w3 ⟨rfl, hb2⟩
  replace HB := Lib.hid (bl_trans HB.out hb2)
  replace HV := Lib.hid (HV.out.below hb2)
  clear hb2 HCk k0 k1 k2
  obtain ⟨k0, k1, k2⟩ := HV.out.three
  by_cases hck : checkB p l i = true
  case neg =>
    obtain rfl : e9 = 2 := by rw [HCE.out, if_neg hck]
    clear hck HCE
    go_wp2_with fail
    (with_reducible refine (KN.out _).mono ?_); rintro e w9 ⟨rfl, hb9⟩
    have HBz := Lib.hid (bl_trans HB.out hb9)
    clear hb9
    go_wp2_with fail
    go_ret
    exact ⟨rfl, HBz.out⟩
  case pos =>
  have hez : e9 = 0 := by rw [HCE.out, if_pos hck]
  subst hez
  have hc := checkB_iff.1 hck
  have HC := Lib.hid hc
  have HF1 := Lib.hid (fun W (h : Below w.heap.size w W) => first10_l p l i ap al ai cp cl ci W (HPol.out.below h))
  have hf1 : firstF p l i = flTo p l i 8 := by unfold firstF; rw [if_pos hck]
  rw [hf1, HE9.out] at HF1
  clear hck HCE hc hf1
  obtain ⟨⟨c, a, b⟩, hf⟩ : ∃ f, flTo p l i 8 = f := ⟨_, rfl⟩
  rw [hf] at HF1
  have HFl := Lib.hid hf
  clear hf
  go_wp2_with fail
  (with_reducible refine (HF1.out _ HB.out).mono ?_); rintro e w4 ⟨rfl, hb2⟩
  dsimp only
  replace HB := Lib.hid (bl_trans HB.out hb2)
  replace HV := Lib.hid (HV.out.below hb2)
  clear hb2 k0 k1 k2
  go_upto_region 4 with (fail)
  have HG := Lib.hid (var3_new w4 (.int .i64 c) (.int .i64 a) (.int .i64 b) 42 w4.heap.size rfl)
  replace HB := Lib.hid (bl_trans HB.out (bl_one w4 (.cells #[.int .i64 c, .int .i64 a, .int .i64 b] 42)))
  replace HV := Lib.hid (HV.out.below (bl_one w4 (.cells #[.int .i64 c, .int .i64 a, .int .i64 b] 42)))
  generalize hg5 : w4.heap.size = g5 at *
  generalize w4.alloc (.cells #[.int .i64 c, .int .i64 a, .int .i64 b] 42) = W5 at *
  go_upto_region 6 with (fail)
  have hpn := HC.out.n
  obtain ⟨b0, hbl, hu⟩ := wurem10 t hb0 hpn
  have HU := Lib.hid hu
  have HRn := Lib.hid (fun W (h : Below w.heap.size w W) => renamed10_l p l i b0 hbl HC.out ap al ai cp cl ci W (HPol.out.below h))
  have HCP := Lib.hid (ren_chk HC.out hbl)
  have HKP := Lib.hid (ren_kind HC.out hbl)
  obtain ⟨P, hP⟩ : ∃ q, renP p b0 = q := ⟨_, rfl⟩
  obtain ⟨L, hL⟩ : ∃ q, renL p.length b0 l = q := ⟨_, rfl⟩
  obtain ⟨I, hI⟩ : ∃ q, renI p.length b0 i = q := ⟨_, rfl⟩
  rw [hP, hL, hI] at HCP HKP
  simp only [hP, hL, hI] at HRn
  rw [HFl.out] at HKP
  obtain ⟨⟨c', a', b'⟩, hf'⟩ : ∃ f, flTo P L I 8 = f := ⟨_, rfl⟩
  rw [hf'] at HKP
  obtain rfl : c' = c := HKP.out
  have HFP := Lib.hid hf'
  have HE1 : Hid (firstE P L I = 0) := by unfold Hid firstE; rw [if_pos (checkB_iff.2 HCP.out)]
  have HE2 : Hid (firstF P L I = ⟨c', a', b'⟩) := by unfold Hid firstF; rw [if_pos (checkB_iff.2 HCP.out)]; exact HFP.out
  have HPl := Lib.hid (⟨HCP.out.n, HCP.out.nl, HCP.out.ni⟩ : P.length ≤ 200 ∧ L.length ≤ 400 ∧ I.length ≤ 400)
  clear hu hP hL hI hf' HKP HFP HCP
  have hsz5 := HG.out.lt
  go_cut [7] (fun pv W => ∃ (g7 : Nat) (xu xv xx : Option Addr) (yu yv yx : Nat), pv = .pointer (some ⟨g7, 0, none⟩) ∧ Below W5.heap.size W5 W ∧ Pol W xu xv xx yu yv yx P L I ∧ Var W g7 [.slice xu P.length yu, .slice xv L.length yv, .slice xx I.length yx])
  case first =>
    refine wp_region_held_drew (S := fun V => Below W5.heap.size W5 V) (by kernel_rfl) ?_ (fun hHeld => ?_)
    · exact bel_drew W5
    revert hHeld
    generalize World.drew _ = W1
    intro hHeld
    refine wpAnyH_take (i := 0) (v := ?_) rfl (by kernel_rfl) (by kernel_rfl) (by kernel_rfl) (fun _ _ _ h => h) (Or.inl ⟨by rfl, ?_⟩) (by assumption) ?_
    rotate_left
    · intro Wq hSw
      obtain ⟨k0, k1, k2⟩ := (HV.out.below hSw).three
      clear hSw
      go_simp
      all_goals (with_reducible rfl)
    try simp only [Act.put, List.getElem_toArray, List.getElem_cons_zero, List.setIfInBounds_toArray, List.set_cons_zero, List.set_cons_succ]
    refine wpAnyH_take (i := 1) (v := ?_) rfl (by kernel_rfl) (by kernel_rfl) (by kernel_rfl) (fun _ _ _ h => h) (Or.inl ⟨by rfl, ?_⟩) (by assumption) ?_
    rotate_left
    · intro Wq hSw
      clear hSw
      go_simp
      all_goals (with_reducible rfl)
    try simp only [Act.put, List.getElem_toArray, List.getElem_cons_succ, List.getElem_cons_zero, List.setIfInBounds_toArray, List.set_cons_zero, List.set_cons_succ]
    refine wpAnyH_take (i := 2) (v := ?_) rfl (by kernel_rfl) (by kernel_rfl) (by kernel_rfl) (fun _ _ _ h => h) (Or.inl ⟨by rfl, ?_⟩) (by assumption) ?_
    rotate_left
    · intro Wq hSw
      clear hSw
      go_simp
      all_goals (with_reducible rfl)
    try simp only [Act.put, List.getElem_toArray, List.getElem_cons_succ, List.getElem_cons_zero, List.setIfInBounds_toArray, List.set_cons_zero, List.set_cons_succ]
    refine wpAnyH_take (i := 3) (v := ?_) rfl (by kernel_rfl) (by kernel_rfl) (by kernel_rfl) (fun _ _ _ h => h) (Or.inl ⟨by rfl, ?_⟩) (by assumption) ?_
    rotate_left
    · intro Wq hSw
      clear hSw
      go_simp
      all_goals (with_reducible rfl)
    try simp only [Act.put, List.getElem_toArray, List.getElem_cons_succ, List.getElem_cons_zero, List.setIfInBounds_toArray, List.set_cons_zero, List.set_cons_succ]
    refine wpAnyH_take (i := 4) (v := ?_) rfl (by kernel_rfl) (by kernel_rfl) (by kernel_rfl) (fun _ _ _ h => h) (Or.inl ⟨by rfl, ?_⟩) (by assumption) ?_
    rotate_left
    · intro Wq hSw
      obtain ⟨k0, k1, k2⟩ := (HV.out.below hSw).three
      clear hSw
      go_simp
      all_goals (with_reducible rfl)
    try simp only [Act.put, List.getElem_toArray, List.getElem_cons_succ, List.getElem_cons_zero, List.setIfInBounds_toArray, List.set_cons_zero, List.set_cons_succ]
    refine wpAnyH_take (i := 5) (v := ?_) rfl (by kernel_rfl) (by kernel_rfl) (by kernel_rfl) (fun _ _ _ h => h) (Or.inl ⟨by rfl, ?_⟩) (by assumption) ?_
    rotate_left
    · intro Wq hSw
      clear hSw
      go_simp
      all_goals (with_reducible rfl)
    try simp only [Act.put, List.getElem_toArray, List.getElem_cons_succ, List.getElem_cons_zero, List.setIfInBounds_toArray, List.set_cons_zero, List.set_cons_succ]
    refine wpAnyH_take (i := 6) (v := ?_) rfl (by kernel_rfl) (by kernel_rfl) (by kernel_rfl) (fun _ _ _ h => h) (Or.inl ⟨by rfl, ?_⟩) (by assumption) ?_
    rotate_left
    · intro Wq hSw
      obtain ⟨u1, u2, u3⟩ := HU.out
      clear hSw
      go_simp
      all_goals (with_reducible rfl)
    try simp only [Act.put, List.getElem_toArray, List.getElem_cons_succ, List.getElem_cons_zero, List.setIfInBounds_toArray, List.set_cons_zero, List.set_cons_succ]
    refine wpAnyH_take (i := 7) (v := ?_) rfl (by kernel_rfl) (by kernel_rfl) (by kernel_rfl) (fun _ _ _ h => h) (Or.inl ⟨by rfl, ?_⟩) (by assumption) ?_
    rotate_left
    · intro Wq hSw
      obtain ⟨u1, u2, u3⟩ := HU.out
      clear hSw
      go_simp
      all_goals (with_reducible rfl)
    try simp only [Act.put, List.getElem_toArray, List.getElem_cons_succ, List.getElem_cons_zero, List.setIfInBounds_toArray, List.set_cons_zero, List.set_cons_succ]
    refine wpAnyH_take (i := 8) (v := ?_) rfl (by kernel_rfl) (by kernel_rfl) (by kernel_rfl) (fun _ _ _ h => h) (Or.inl ⟨by rfl, ?_⟩) (by assumption) ?_
    rotate_left
    · intro Wq hSw
      obtain ⟨u1, u2, u3⟩ := HU.out
      clear hSw
      go_simp
      all_goals (with_reducible rfl)
    try simp only [Act.put, List.getElem_toArray, List.getElem_cons_succ, List.getElem_cons_zero, List.setIfInBounds_toArray, List.set_cons_zero, List.set_cons_succ]
    refine r2 (i := 9) (j := 10) rfl (fun K hK => ?_) rfl (fun K hK => ?_)
    · go_simp
      (with_reducible refine (HRn.out _ (bl_trans HB.out hHeld)).mono ?_)
      rintro e w6 ⟨u, v, x, rfl, hO⟩
      obtain ⟨xu, yu, e0, -, -, -⟩ := hO.o0.slice
      obtain ⟨xv, yv, e1, -, -, -⟩ := hO.o1.slice
      obtain ⟨xx, yx, e2, -, -, -⟩ := hO.o2.slice
      subst e0 e1 e2
      have hle := (bl_trans hHeld hO.hb).size
      have HN0 := Lib.hid (hO.o0.ne10 (Nat.le_refl _))
      have HN1 := Lib.hid (hO.o1.ne10 (Nat.le_refl _))
      have HN2 := Lib.hid (hO.o2.ne10 (Nat.le_refl _))
      have HO := Lib.hid ((hO.base hHeld).below (bl_one w6 (.cells #[.slice none 0 0, .slice none 0 0, .slice none 0 0] 38)))
      have HX0 := Lib.hid (var3_new w6 (.slice none 0 0) (.slice none 0 0) (.slice none 0 0) 38 w6.heap.size rfl)
      refine hK.out _ _ (bl_trans hHeld hO.hb) (fun hHeld2 => ?_)
      clear hK K hHeld hO
      have hHeld := hHeld2
      clear hHeld2
      try simp only [Act.put, List.getElem_toArray, List.getElem_cons_succ, List.getElem_cons_zero, List.setIfInBounds_toArray, List.set_cons_zero, List.set_cons_succ]
      refine r1 (i := 10) rfl (fun K hK => ?_)
      go_simp
      refine hK.out _ _ (bl_alloc hHeld _) (fun hHeld2 => ?_)
      clear hK K hHeld
      have hge : W5.heap.size ≤ w6.heap.size := hle
      clear hle
      generalize hg7 : w6.heap.size = g7 at *
      generalize w6.alloc (.cells #[.slice none 0 0, .slice none 0 0, .slice none 0 0] 38) = W7 at *
      have hHeld := hHeld2
      clear hHeld2
      try simp only [Act.put, List.getElem_toArray, List.getElem_cons_succ, List.getElem_cons_zero, List.setIfInBounds_toArray, List.set_cons_zero, List.set_cons_succ]
      refine r1 (i := 11) rfl (fun K hK => ?_)
      obtain ⟨x0, x1, x2⟩ := HX0.out.three
      obtain ⟨y0, y1, y2⟩ := HX0.out.free3
      obtain ⟨hO8, hX8⟩ := stored10 HO.out hge HN0.out HN1.out HN2.out HX0.out
      go_simp
      refine hK.out _ _ (((hHeld.setCell hge _).setCell hge _).setCell hge _) (fun hHeld2 => ?_)
      clear hK K hHeld x0 x1 x2 y0 y1 y2 HX0
      have hHeld := hHeld2
      clear hHeld2
      try simp only [Act.put, List.getElem_toArray, List.getElem_cons_succ, List.getElem_cons_zero, List.setIfInBounds_toArray, List.set_cons_zero, List.set_cons_succ]
      obtain ⟨_, _, _, _, _, _, e0, e1, e2, hPx⟩ := hO8.pol (by have := HPl.out; omega) (by have := HPl.out; omega) (by have := HPl.out; omega)
      cases e0
      cases e1
      cases e2
      refine wpAnyH_done (by kernel_rfl) ?_ _
      go_wp2_with fail
      go_meet
      case rel => exact ⟨_, _, _, _, _, _, _, rfl, hHeld, hPx, hX8⟩
    · go_simp
      have HX0 := Lib.hid (var3_new W1 (.slice none 0 0) (.slice none 0 0) (.slice none 0 0) 38 W1.heap.size rfl)
      have hge : W5.heap.size ≤ W1.heap.size := hHeld.size
      have hsz : W1.heap.size < (W1.alloc (.cells #[.slice none 0 0, .slice none 0 0, .slice none 0 0] 38)).heap.size := by simp
      refine hK.out _ _ (bl_alloc hHeld _) (fun hHeld2 => ?_)
      clear hK K hHeld
      generalize hg7 : W1.heap.size = g7 at *
      generalize W1.alloc (.cells #[.slice none 0 0, .slice none 0 0, .slice none 0 0] 38) = W7 at *
      have hHeld := hHeld2
      clear hHeld2
      try simp only [Act.put, List.getElem_toArray, List.getElem_cons_succ, List.getElem_cons_zero, List.setIfInBounds_toArray, List.set_cons_zero, List.set_cons_succ]
      refine r1 (i := 9) rfl (fun K hK => ?_)
      go_simp
      (with_reducible refine (HRn.out _ (bl_trans HB.out hHeld)).mono ?_)
      rintro e w6 ⟨u, v, x, rfl, hO⟩
      obtain ⟨xu, yu, e0, -, -, -⟩ := hO.o0.slice
      obtain ⟨xv, yv, e1, -, -, -⟩ := hO.o1.slice
      obtain ⟨xx, yx, e2, -, -, -⟩ := hO.o2.slice
      subst e0 e1 e2
      have HN0 : Hid (Value.ownBlock (.slice xu P.length yu) ≠ some g7) := fun e => by have := (hO.o0.own.lt _ e).1; omega
      have HN1 : Hid (Value.ownBlock (.slice xv L.length yv) ≠ some g7) := fun e => by have := (hO.o1.own.lt _ e).1; omega
      have HN2 : Hid (Value.ownBlock (.slice xx I.length yx) ≠ some g7) := fun e => by have := (hO.o2.own.lt _ e).1; omega
      have HO := Lib.hid (hO.base hHeld)
      replace HX0 := Lib.hid (HX0.out.below hO.hb)
      refine hK.out _ _ (bl_trans hHeld hO.hb) (fun hHeld2 => ?_)
      clear hK K hHeld hO hsz
      have hHeld := hHeld2
      clear hHeld2
      try simp only [Act.put, List.getElem_toArray, List.getElem_cons_succ, List.getElem_cons_zero, List.setIfInBounds_toArray, List.set_cons_zero, List.set_cons_succ]
      refine r1 (i := 11) rfl (fun K hK => ?_)
      obtain ⟨x0, x1, x2⟩ := HX0.out.three
      obtain ⟨y0, y1, y2⟩ := HX0.out.free3
      obtain ⟨hO8, hX8⟩ := stored10 HO.out hge HN0.out HN1.out HN2.out HX0.out
      go_simp
      refine hK.out _ _ (((hHeld.setCell hge _).setCell hge _).setCell hge _) (fun hHeld2 => ?_)
      clear hK K hHeld x0 x1 x2 y0 y1 y2 HX0
      have hHeld := hHeld2
      clear hHeld2
      try simp only [Act.put, List.getElem_toArray, List.getElem_cons_succ, List.getElem_cons_zero, List.setIfInBounds_toArray, List.set_cons_zero, List.set_cons_succ]
      obtain ⟨_, _, _, _, _, _, e0, e1, e2, hPx⟩ := hO8.pol (by have := HPl.out; omega) (by have := HPl.out; omega) (by have := HPl.out; omega)
      cases e0
      cases e1
      cases e2
      refine wpAnyH_done (by kernel_rfl) ?_ _
      go_wp2_with fail
      go_meet
      case rel => exact ⟨_, _, _, _, _, _, _, rfl, hHeld, hPx, hX8⟩
  case rest =>
  obtain ⟨g7, xu, xv, xx, yu, yv, yx, rfl, hb6, hPx, hX⟩ := hcut
  have HPx := Lib.hid hPx
  have HX := Lib.hid hX
  replace HB := Lib.hid (bl_trans HB.out hb6)
  replace HV := Lib.hid (HV.out.below hb6)
  replace HG := Lib.hid (HG.out.below hb6)
  obtain ⟨W8, eW8⟩ : ∃ W, W = wc := ⟨_, rfl⟩
  subst eW8
  clear hPx hX hb6 hsz5 HRn HU
  obtain ⟨k0, k1, k2⟩ := HV.out.three
  have HCp := Lib.hid (fun W (h : Below w.heap.size w W) => copy10_l p l i ap al ai cp cl ci W (HPol.out.below h))
  go_wp2_with fail
  (with_reducible refine (HCp.out _ HB.out).mono ?_); rintro e w9 ⟨u, v, x, rfl, hO⟩
  obtain ⟨au, av, ax, cu, cv, cx, e0, e1, e2, -⟩ := hO.pol HPol.out.lenP HPol.out.lenL HPol.out.lenI
  subst e0 e1 e2
  have HN0 := Lib.hid (hO.o0.ne10 (Nat.le_refl _))
  have HN1 := Lib.hid (hO.o1.ne10 (Nat.le_refl _))
  have HN2 := Lib.hid (hO.o2.ne10 (Nat.le_refl _))
  have HBy := Lib.hid hO.hb
  go_upto_region 8 with (fail)
  clear k0 k1 k2
  have HY := Lib.hid (var3_new w9 (.slice au p.length cu) (.slice av l.length cv) (.slice ax i.length cx) 38 w9.heap.size rfl)
  have HO := Lib.hid (hO.below (bl_one w9 (.cells #[.slice au p.length cu, .slice av l.length cv, .slice ax i.length cx] 38)))
  replace HBy := Lib.hid (bl_trans HBy.out (bl_one w9 (.cells #[.slice au p.length cu, .slice av l.length cv, .slice ax i.length cx] 38)))
  generalize w9.alloc (.cells #[.slice au p.length cu, .slice av l.length cv, .slice ax i.length cx] 38) = WA at *
  generalize hgy : w9.heap.size = gy at *
  clear hO
  have HBA := Lib.hid (bl_trans HB.out HBy.out)
  obtain ⟨k0, k1, k2⟩ := (HV.out.below HBy.out).three
  go_wp2_with fail
  (with_reducible refine (HCp.out _ HBA.out).mono ?_); rintro e w10 ⟨u, v, x, rfl, hZ⟩
  obtain ⟨bu, bv, bx, du, dv, dx, e0, e1, e2, -⟩ := hZ.pol HPol.out.lenP HPol.out.lenL HPol.out.lenI
  subst e0 e1 e2
  have HM0 := Lib.hid (hZ.o0.ne10 (Nat.le_refl _))
  have HM1 := Lib.hid (hZ.o1.ne10 (Nat.le_refl _))
  have HM2 := Lib.hid (hZ.o2.ne10 (Nat.le_refl _))
  have HG0 : Hid (∀ g, Value.ownBlock (.slice bu p.length du) = some g → WA.heap.size ≤ g) := fun g e => (hZ.o0.own.lt g e).1
  have HG1 : Hid (∀ g, Value.ownBlock (.slice bv l.length dv) = some g → WA.heap.size ≤ g) := fun g e => (hZ.o1.own.lt g e).1
  have HG2 : Hid (∀ g, Value.ownBlock (.slice bx i.length dx) = some g → WA.heap.size ≤ g) := fun g e => (hZ.o2.own.lt g e).1
  have HL0 : Hid (∀ g, Value.ownBlock (.slice au p.length cu) = some g → g < WA.heap.size) := fun g e => (HO.out.o0.own.lt g e).2
  have HL1 : Hid (∀ g, Value.ownBlock (.slice av l.length cv) = some g → g < WA.heap.size) := fun g e => (HO.out.o1.own.lt g e).2
  have HL2 : Hid (∀ g, Value.ownBlock (.slice ax i.length cx) = some g → g < WA.heap.size) := fun g e => (HO.out.o2.own.lt g e).2
  have hgA := HY.out.lt
  have hgB := hZ.hb.size
  replace HO := Lib.hid (HO.out.below hZ.hb)
  replace HY := Lib.hid (HY.out.below hZ.hb)
  have HZ := Lib.hid (hZ.base HBy.out)
  replace HBy := Lib.hid (bl_trans HBy.out hZ.hb)
  clear hZ HBA HCp
  go_upto_region 9 with (fail)
  clear k0 k1 k2
  have HW := Lib.hid (var3_new w10 (.slice bu p.length du) (.slice bv l.length dv) (.slice bx i.length dx) 38 w10.heap.size rfl)
  replace HO := Lib.hid (HO.out.below (bl_one w10 (.cells #[.slice bu p.length du, .slice bv l.length dv, .slice bx i.length dx] 38)))
  replace HZ := Lib.hid (HZ.out.below (bl_one w10 (.cells #[.slice bu p.length du, .slice bv l.length dv, .slice bx i.length dx] 38)))
  replace HY := Lib.hid (HY.out.below (bl_one w10 (.cells #[.slice bu p.length du, .slice bv l.length dv, .slice bx i.length dx] 38)))
  generalize w10.alloc (.cells #[.slice bu p.length du, .slice bv l.length dv, .slice bx i.length dx] 38) = WB at *
  generalize hgz : w10.heap.size = gz at *
  generalize hsA : WA.heap.size = sA at *
  clear HBy
  go_wp2_with fail
  go_loopw [10] (fun iv W => ∃ k : Nat, k ≤ p.length ∧ iv = .int .i64 k ∧ Own3 W8 (.slice au p.length cu) (.slice av l.length cv) (.slice ax i.length cx) (mapTo rotP p k) l i W ∧ Own3 W8 (.slice bu p.length du) (.slice bv l.length dv) (.slice bx i.length dx) (mapTo mirP p k) l i W ∧ Var W gy [.slice au p.length cu, .slice av l.length cv, .slice ax i.length cx] ∧ Var W gz [.slice bu p.length du, .slice bv l.length dv, .slice bx i.length dx]) (fun iv _ => p.length - (intOf iv).toNat)
  case atStart => exact ⟨0, Nat.zero_le _, rfl, by rw [mapTo_zero]; exact HO.out, by rw [mapTo_zero]; exact HZ.out, HY.out, HW.out⟩
  case round =>
    obtain ⟨k, hk, rfl, hO, hZ, hy, hw⟩ := hrel
    clear HO HZ HY HW
    have HO := Lib.hid hO
    have HZ := Lib.hid hZ
    have HY := Lib.hid hy
    have HW := Lib.hid hw
    have HBw := Lib.hid hO.hb
    clear hO hZ hy hw
    obtain ⟨k0, k1, k2⟩ := (HV.out.below HBw.out).three
    by_cases hlt : k < p.length
    · have b2 : ((k : Int) < (p.length : Int)) = True := eq_true (by omega)
      have d2 : (k < p.length) = True := eq_true hlt
      have c2 : ((0 : Int) ≤ (k : Int)) = True := eq_true (by omega)
      obtain ⟨gp, op, rfl⟩ := HPol.out.pp.some (by omega)
      obtain ⟨⟨qx, qy⟩, hq⟩ : ∃ q, pget p k = q := ⟨_, rfl⟩
      obtain ⟨c0, c1⟩ := ptRow_at (HPol.out.pp.below (bl_trans HB.out HBw.out)) hlt hq
      dsimp only at c0 c1
      have hpl := place_iff.1 (HC.out.pl k hlt)
      rw [hq] at hpl
      dsimp only at hpl
      obtain ⟨sx, hsx⟩ : ∃ s, -qx = s := ⟨_, rfl⟩
      obtain ⟨sy, hsy⟩ : ∃ s, -qy = s := ⟨_, rfl⟩
      have HW1 := Lib.hid (wneg10 hsx (by omega))
      have HW2 := Lib.hid (wneg10 hsy (by omega))
      have HQ1 : Hid ((mapTo rotP p k).set k ⟨sy, qx⟩ = mapTo rotP p (k + 1)) := by
        unfold Hid
        rw [← mapTo_step _ p hlt, hq, ← hsy]; rfl
      have HQ2 : Hid ((mapTo mirP p k).set k ⟨sx, qy⟩ = mapTo mirP p (k + 1)) := by
        unfold Hid
        rw [← mapTo_step _ p hlt, hq, ← hsx]; rfl
      have HQ := Lib.hid hq
      clear hq hpl hsx hsy
      have hlen := mapTo_len rotP p hk
      obtain ⟨aq, cq, eq, -, hrow, -⟩ := HO.out.o0.slice
      rw [hlen] at eq
      cases eq
      obtain ⟨gu, ou, eu⟩ := hrow.some (by omega)
      subst eu
      have hou : ou = 0 := by
        rcases HO.out.o0.own.2 with ⟨h, -⟩ | ⟨g, cap, cur, h, -⟩
        · cases h
        · injection h with h1 _ _
          injection h1 with h4
          injection h4 with _ h6 _
      subst hou
      have hun : gu ≠ gy := fun h => HN0.out (by rw [h]; rfl)
      have hon : gu ≠ gz := by have := HL0.out gu rfl; omega
      have hge := (HO.out.o0.own.lt gu rfl).1
      obtain ⟨s0, s1⟩ := ptRow_at hrow (i := k) (by omega) rfl
      have f0 := HO.out.o0.frozen hlen.symm (k * 2)
      have f1 := HO.out.o0.frozen hlen.symm (k * 2 + 1)
      rw [Nat.zero_add] at s0 s1
      have HST := Lib.hid (HO.out.o0.store hlen.symm k (by omega) ⟨sy, qx⟩)
      have HS1 := Lib.hid (fun (y z : Value) => (HO.out.o1.set10 (g := gu) (fun e => HO.out.d01 gu rfl e) hge (k * 2) y).set10 (fun e => HO.out.d01 gu rfl e) hge (k * 2 + 1) z)
      have HS2 := Lib.hid (fun (y z : Value) => (HO.out.o2.set10 (g := gu) (fun e => HO.out.d02 gu rfl e) hge (k * 2) y).set10 (fun e => HO.out.d02 gu rfl e) hge (k * 2 + 1) z)
      have HS3 := Lib.hid (fun (y z : Value) => (HZ.out.set (g := gu) hge (fun e => by have := HG0.out gu e; have := HL0.out gu rfl; omega) (fun e => by have := HG1.out gu e; have := HL0.out gu rfl; omega) (fun e => by have := HG2.out gu e; have := HL0.out gu rfl; omega) (k * 2) y).set hge (fun e => by have := HG0.out gu e; have := HL0.out gu rfl; omega) (fun e => by have := HG1.out gu e; have := HL0.out gu rfl; omega) (fun e => by have := HG2.out gu e; have := HL0.out gu rfl; omega) (k * 2 + 1) z)
      have HVX := Lib.hid (fun (y z : Value) => (HY.out.far (p := ⟨gu, k * 2, none⟩) hun y).far (p := ⟨gu, k * 2 + 1, none⟩) hun z)
      have HVW := Lib.hid (fun (y z : Value) => (HW.out.far (p := ⟨gu, k * 2, none⟩) hon y).far (p := ⟨gu, k * 2 + 1, none⟩) hon z)
      have hgw := (HO.out.o0.own.lt gu rfl).2
      have HD := Lib.hid (⟨HO.out.d01, HO.out.d02, HO.out.d12⟩ : Apart10 (.slice (some ⟨gu, 0, none⟩) p.length cu) (.slice av l.length cv) ∧ Apart10 (.slice (some ⟨gu, 0, none⟩) p.length cu) (.slice ax i.length cx) ∧ Apart10 (.slice av l.length cv) (.slice ax i.length cx))
      obtain ⟨w1, w1'⟩ := HW2.out
      obtain ⟨x0, x1, x2⟩ := HY.out.three
      clear hlen hrow hun hon
      go_upto_region 12 with (fail)
      go_region
      clear s0 s1 f0 f1 w1 w1' x0 x1 x2 c0 c1 k0 k1 k2 hgw
      have HO2 := Lib.hid (Own3.mk (W0 := W8) (by have h := HST.out; rw [HQ1.out] at h; exact h.drew) (HS1.out (.int .i64 sy) (.int .i64 qx)).drew (HS2.out (.int .i64 sy) (.int .i64 qx)).drew HD.out.1 HD.out.2.1 HD.out.2.2)
      have HZ2 := Lib.hid ((HS3.out (.int .i64 sy) (.int .i64 qx)).below (bel_drew _))
      have HY2 := Lib.hid ((HVX.out (.int .i64 sy) (.int .i64 qx)).below (bel_drew _))
      have HWv := Lib.hid ((HVW.out (.int .i64 sy) (.int .i64 qx)).below (bel_drew _))
      clear HO HZ HY HW HST HS1 HS2 HS3 HVX HVW HD hge
      generalize ((wr.setCell _ _).setCell _ _).drew = WX at *
      have HO := HO2
      have HZ := HZ2
      have HY := HY2
      have HW := HWv
      clear HO2 HZ2 HY2 HWv HBw
      have HBw := Lib.hid HO.out.hb
      obtain ⟨k0, k1, k2⟩ := (HV.out.below HBw.out).three
      obtain ⟨c0, c1⟩ := ptRow_at (HPol.out.pp.below (bl_trans HB.out HBw.out)) hlt HQ.out
      dsimp only at c0 c1
      have hlen := mapTo_len mirP p hk
      obtain ⟨aq, cq, eq, -, hrow, -⟩ := HZ.out.o0.slice
      rw [hlen] at eq
      cases eq
      obtain ⟨gu, ou, eu⟩ := hrow.some (by omega)
      subst eu
      have hou : ou = 0 := by
        rcases HZ.out.o0.own.2 with ⟨h, -⟩ | ⟨g, cap, cur, h, -⟩
        · cases h
        · injection h with h1 _ _
          injection h1 with h4
          injection h4 with _ h6 _
      subst hou
      have hun : gu ≠ gz := fun h => HM0.out (by rw [h]; rfl)
      have hon : gu ≠ gy := by have := HG0.out gu rfl; omega
      have hge := (HZ.out.o0.own.lt gu rfl).1
      obtain ⟨s0, s1⟩ := ptRow_at hrow (i := k) (by omega) rfl
      have f0 := HZ.out.o0.frozen hlen.symm (k * 2)
      have f1 := HZ.out.o0.frozen hlen.symm (k * 2 + 1)
      rw [Nat.zero_add] at s0 s1
      have HST := Lib.hid (HZ.out.o0.store hlen.symm k (by omega) ⟨sx, qy⟩)
      have HS1 := Lib.hid (fun (y z : Value) => (HZ.out.o1.set10 (g := gu) (fun e => HZ.out.d01 gu rfl e) hge (k * 2) y).set10 (fun e => HZ.out.d01 gu rfl e) hge (k * 2 + 1) z)
      have HS2 := Lib.hid (fun (y z : Value) => (HZ.out.o2.set10 (g := gu) (fun e => HZ.out.d02 gu rfl e) hge (k * 2) y).set10 (fun e => HZ.out.d02 gu rfl e) hge (k * 2 + 1) z)
      have HS3 := Lib.hid (fun (y z : Value) => (HO.out.set (g := gu) hge (fun e => by have := HL0.out gu e; have := HG0.out gu rfl; omega) (fun e => by have := HL1.out gu e; have := HG0.out gu rfl; omega) (fun e => by have := HL2.out gu e; have := HG0.out gu rfl; omega) (k * 2) y).set hge (fun e => by have := HL0.out gu e; have := HG0.out gu rfl; omega) (fun e => by have := HL1.out gu e; have := HG0.out gu rfl; omega) (fun e => by have := HL2.out gu e; have := HG0.out gu rfl; omega) (k * 2 + 1) z)
      have HVX := Lib.hid (fun (y z : Value) => (HY.out.far (p := ⟨gu, k * 2, none⟩) hon y).far (p := ⟨gu, k * 2 + 1, none⟩) hon z)
      have HVW := Lib.hid (fun (y z : Value) => (HW.out.far (p := ⟨gu, k * 2, none⟩) hun y).far (p := ⟨gu, k * 2 + 1, none⟩) hun z)
      have hgw := (HZ.out.o0.own.lt gu rfl).2
      have HD := Lib.hid (⟨HZ.out.d01, HZ.out.d02, HZ.out.d12⟩ : Apart10 (.slice (some ⟨gu, 0, none⟩) p.length du) (.slice bv l.length dv) ∧ Apart10 (.slice (some ⟨gu, 0, none⟩) p.length du) (.slice bx i.length dx) ∧ Apart10 (.slice bv l.length dv) (.slice bx i.length dx))
      obtain ⟨w1, w1'⟩ := HW1.out
      obtain ⟨x0, x1, x2⟩ := HW.out.three
      clear hlen hrow hun hon
      go_upto_region 13 with (fail)
      go_region
      clear s0 s1 f0 f1 w1 w1' x0 x1 x2 c0 c1 k0 k1 k2 hgw
      obtain ⟨m1, m2, m3, m4⟩ := wnum (i := k) (by have := HC.out.n; omega)
      go_wp2_with fail
      clear m1 m2 m3 m4
      exact ⟨⟨k + 1, hlt, by rw [Int.natCast_add]; rfl, (HS3.out (.int .i64 sx) (.int .i64 qy)).below (bel_drew _), ⟨by have h := HST.out; rw [HQ2.out] at h; exact h.drew, (HS1.out (.int .i64 sx) (.int .i64 qy)).drew, (HS2.out (.int .i64 sx) (.int .i64 qy)).drew, HD.out.1, HD.out.2.1, HD.out.2.2⟩, (HVX.out _ _).below (bel_drew _), (HVW.out _ _).below (bel_drew _)⟩, by simp [intOf]; omega⟩
    · obtain rfl : k = p.length := by omega
      have b2 : ((p.length : Int) < (p.length : Int)) = False := eq_false (by omega)
      have hO9 := HO.out
      rw [mapTo_all] at hO9
      have HO9 := Lib.hid hO9
      have hZ9 := HZ.out
      rw [mapTo_all] at hZ9
      have HZ9 := Lib.hid hZ9
      have hml1 : (p.map rotP).length = p.length := List.length_map _
      have hml2 : (p.map mirP).length = p.length := List.length_map _
      have HPy : Hid (Pol wr au av ax cu cv cx (p.map rotP) l i) := by
        obtain ⟨a0, a1', a2', c0, c1, c2', e0, e1, e2, hP⟩ := HO9.out.pol (by rw [hml1]; exact HPol.out.lenP) HPol.out.lenL HPol.out.lenI
        rw [hml1] at e0
        cases e0
        cases e1
        cases e2
        exact hP
      have HPz : Hid (Pol wr bu bv bx du dv dx (p.map mirP) l i) := by
        obtain ⟨a0, a1', a2', c0, c1, c2', e0, e1, e2, hP⟩ := HZ9.out.pol (by rw [hml2]; exact HPol.out.lenP) HPol.out.lenL HPol.out.lenI
        rw [hml2] at e0
        cases e0
        cases e1
        cases e2
        exact hP
      have HY1 : Hid (firstF (p.map rotP) l i = ⟨c', a, b⟩) := by unfold Hid firstF; rw [if_pos (checkB_iff.2 (chk_turn place_rot HC.out)), rot_flaw HC.out]; exact HFl.out
      have HY2 : Hid (firstE (p.map rotP) l i = 0) := by unfold Hid firstE; rw [if_pos (checkB_iff.2 (chk_turn place_rot HC.out))]
      have HZ1 : Hid (firstF (p.map mirP) l i = ⟨c', a, b⟩) := by unfold Hid firstF; rw [if_pos (checkB_iff.2 (chk_turn place_mir HC.out)), mir_flaw HC.out]; exact HFl.out
      have HZ2 : Hid (firstE (p.map mirP) l i = 0) := by unfold Hid firstE; rw [if_pos (checkB_iff.2 (chk_turn place_mir HC.out))]
      generalize p.map rotP = q1 at *
      generalize p.map mirP = q2 at *
      clear hO9 HO9 HO hZ9 HZ9 HZ hk hlt HFl
      obtain ⟨W6, eW6⟩ : ∃ W, W = wr := ⟨_, rfl⟩
      subst eW6
      replace HB := Lib.hid (bl_trans HB.out HBw.out)
      replace HV := Lib.hid (HV.out.below HBw.out)
      replace HG := Lib.hid (HG.out.below HBw.out)
      replace HX := Lib.hid (HX.out.below HBw.out)
      replace HPx := Lib.hid (HPx.out.below HBw.out)
      have HF1 := Lib.hid (fun W (h : Below W6.heap.size W6 W) => first10_l P L I xu xv xx yu yv yx W (HPx.out.below h))
      rw [HE2.out, HE1.out] at HF1
      have HF2 := Lib.hid (fun W (h : Below W6.heap.size W6 W) => first10_l q1 l i au av ax cu cv cx W (HPy.out.below h))
      rw [HY1.out, HY2.out, hml1] at HF2
      have HF3 := Lib.hid (fun W (h : Below W6.heap.size W6 W) => first10_l q2 l i bu bv bx du dv dx W (HPz.out.below h))
      rw [HZ1.out, HZ2.out, hml2] at HF3
      clear hml1 hml2 HY1 HY2 HZ1 HZ2 HE1 HE2 HBw
      obtain ⟨x0, x1, x2⟩ := HX.out.three
      go_wp2_with fail
      (with_reducible refine (HF1.out _ (Below.refl _ _)).mono ?_); rintro e w21 ⟨rfl, hb7⟩
      dsimp only
      have HB7 := Lib.hid hb7
      clear hb7 HF1 x0 x1 x2 k0 k1 k2
      go_upto_region 15 with (fail)
      have HG1 := Lib.hid (var3_new w21 (.int .i64 c') (.int .i64 a') (.int .i64 b') 42 w21.heap.size rfl)
      replace HB7 := Lib.hid (bl_trans HB7.out (bl_one w21 (.cells #[.int .i64 c', .int .i64 a', .int .i64 b'] 42)))
      generalize w21.alloc (.cells #[.int .i64 c', .int .i64 a', .int .i64 b'] 42) = WD at *
      obtain ⟨x0, x1, x2⟩ := (HY.out.below HB7.out).three
      go_wp2_with fail
      (with_reducible refine (HF2.out _ HB7.out).mono ?_); rintro e w22 ⟨rfl, hb7⟩
      dsimp only
      replace HB7 := Lib.hid (bl_trans HB7.out hb7)
      replace HG1 := Lib.hid (HG1.out.below hb7)
      clear hb7 HF2 x0 x1 x2
      go_upto_region 16 with (fail)
      have HG2 := Lib.hid (var3_new w22 (.int .i64 c') (.int .i64 a) (.int .i64 b) 42 w22.heap.size rfl)
      replace HB7 := Lib.hid (bl_trans HB7.out (bl_one w22 (.cells #[.int .i64 c', .int .i64 a, .int .i64 b] 42)))
      replace HG1 := Lib.hid (HG1.out.below (bl_one w22 (.cells #[.int .i64 c', .int .i64 a, .int .i64 b] 42)))
      generalize w22.alloc (.cells #[.int .i64 c', .int .i64 a, .int .i64 b] 42) = WE at *
      obtain ⟨x0, x1, x2⟩ := (HW.out.below HB7.out).three
      go_wp2_with fail
      (with_reducible refine (HF3.out _ HB7.out).mono ?_); rintro e w23 ⟨rfl, hb7⟩
      dsimp only
      replace HB7 := Lib.hid (bl_trans HB7.out hb7)
      replace HG1 := Lib.hid (HG1.out.below hb7)
      replace HG2 := Lib.hid (HG2.out.below hb7)
      clear hb7 HF3 x0 x1 x2
      go_upto_region 17 with (fail)
      have HG3 := Lib.hid (var3_new w23 (.int .i64 c') (.int .i64 a) (.int .i64 b) 42 w23.heap.size rfl)
      replace HB7 := Lib.hid (bl_trans HB7.out (bl_one w23 (.cells #[.int .i64 c', .int .i64 a, .int .i64 b] 42)))
      replace HG1 := Lib.hid (HG1.out.below (bl_one w23 (.cells #[.int .i64 c', .int .i64 a, .int .i64 b] 42)))
      replace HG2 := Lib.hid (HG2.out.below (bl_one w23 (.cells #[.int .i64 c', .int .i64 a, .int .i64 b] 42)))
      generalize w23.alloc (.cells #[.int .i64 c', .int .i64 a, .int .i64 b] 42) = WF at *
      obtain ⟨x0, x1, x2⟩ := (HG.out.below HB7.out).three
      obtain ⟨y0, y1, y2⟩ := HG1.out.three
      obtain ⟨z0, z1, z2⟩ := HG2.out.three
      obtain ⟨s0, s1, s2⟩ := HG3.out.three
      have HBb := Lib.hid (bl_trans HB.out HB7.out)
      have q0 := fun W => eqFlG10 c' a b W
      go_wp2_with fail
      (with_reducible refine (KN.out _).mono ?_); rintro e w9 ⟨rfl, hb9⟩
      have HBz := Lib.hid (bl_trans HBb.out hb9)
      clear hb9
      go_wp2_with fail
      go_ret
      exact ⟨rfl, HBz.out⟩
end Go.Proofs.Ytiebmlhglgpajaa

namespace Go.Proofs.Ytiebmlhglgpajaa.validSame
open Go.ChangeShapes Go.WideShapes Go.ChangeAt Go.RowKit

theorem own : ownKnob Try.prog.godebug = none := by kernel_rfl

set_option maxRecDepth 100000 in
theorem lifted (os : Os) (started : os.Started) (H : Type) (enc : TypeId × Value → H) :
    ReturnsInHanded {} Try.checked os 4 .any (Rows.validSameSpec.pre6 enc Try.prog Try.f4 Rows.validSameRow.domain false) (Rows.validSameSpec.post enc Try.prog Try.f4 false true false false) := by
  refine returnsInHanded_of_change (C := Try.checked) own started (by kernel_rfl) Try.func4
    (ChangeSpec.witness6 (enc := enc) (C := Try.checked) false ⟨#[], #[.agg #[.slice none 0 0, .slice none 0 0, .slice none 0 0], .int .i64 0], []⟩ 8 (by kernel_rfl) (by kernel_rfl) (by kernel_rfl) (by kernel_rfl)) ?_
  intro W base args ds gs before hval0 hW _ _
  have hval : ∀ (j : Nat) t v, Try.f4.params[j]? = some t → args[j]? = some v → Value.okWide Try.prog W .any base t v := hval0
  have hW' := hW
  obtain ⟨p, q, hA0, hV, rfl, -, -⟩ := hW
  have hA : DataW.TrodAll enc Try.prog W 0 (fun _ => true) true Try.f4.params.toList args.toList ds p := hA0
  rw [Try.params4] at hA hval
  obtain ⟨v0, vs0, d0, ds0, p0, q0, hargs0, rfl, rfl, h0, r0⟩ := trodAll_cons hA
  obtain ⟨v1, vs1, d1, ds1, p1, q1, hargs1, rfl, rfl, h1, r1⟩ := trodAll_cons r0
  obtain ⟨rfl, rfl, rfl⟩ := trodAll_nil r1
  obtain rfl : args = #[v0, v1] := by cases args; simp_all
  obtain ⟨rfl, rfl⟩ := trodVars_none hV
  obtain ⟨l0, m0, k0, al0, am0, ak0, cl0, cm0, ck0, rfl, z1, z2, z3, z4, z5, z6, z7, z8, z9⟩ := open_poly (hval 0 38 v0 rfl rfl) h0
  obtain ⟨n1, rfl, rfl, rfl, wn1⟩ := open_int Try.underlying3 (hval 1 3 v1 rfl rfl) h1
  clear hA0 hval0
  have hlt0 : ∀ x ∈ p0, x.block < W.heap.size := fun x hx => by simpa using hW'.lt x (by simpa using hx)
  simp only [List.append_nil] at hW'
  refine (vsame_l l0 m0 k0 al0 am0 ak0 cl0 cm0 ck0 W z1 z2 z3 z4 z5 z6 z7 z8 z9 n1).mono fun e W' h => ?_
  obtain ⟨he, hb⟩ := h
  subst he
  have hargs9 : DataW.TrodAll enc Try.prog W' 0 (fun b => decide (b < W.heap.size)) true [38, 3] [.agg #[.slice al0 l0.length cl0, .slice am0 m0.length cm0, .slice ak0 k0.length ck0], .int .i64 n1] [d0, .lit (.int .i64 n1)] p0 := by
    simpa using trodAll_cons_mk (Below.trod (by kernel_rfl) (by kernel_rfl) (of_decide_eq_true (by kernel_rfl)) h0 hb hlt0) (trodAll_cons_mk (p := []) (shut_int Try.underlying3 wn1) trodAll_mk0)
  exact ⟨_, rfl, _, _, _, [], p0, [], hW', trodAll_cons_mk (shut_bool Try.underlying4 _) trodAll_mk0, hargs9, rfl, hb.frame _, fun h => by cases h⟩

theorem proved : Rows.ValidSameSaid :=
  OpenClaim.holds_of_wide 4 Try.f4 rfl rfl rfl rfl rfl rfl rfl ⟨rfl, rfl, rfl, rfl, rfl⟩ rfl rfl rfl rfl rfl (by kernel_rfl) Try.func4 (by kernel_rfl)
    (of_decide_eq_true (by kernel_rfl)) (by unfold Func.isWrapper; first | (rw [if_pos (by decide +kernel)]; kernel_rfl) | (rw [if_neg (by decide +kernel)]; exact ⟨rfl, rfl⟩))
    (fun os started H enc _ => lifted os started H enc)
end Go.Proofs.Ytiebmlhglgpajaa.validSame
