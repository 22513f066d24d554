/-
  The law ValidHurt.
-/
import Derived.Test.YtpjaefcmaiimlaaVLawK
import Derived.Test.YtpjaefcmaiimlaaVMany
import Derived.Test.YtpjaefcmaiimlaaVRefCA
import Derived.Test.YtpjaefcmaiimlaaVHurtM
import Derived.Test.YtpjaefcmaiimlaaVHurtP
set_option linter.unusedVariables false
set_option linter.unusedSimpArgs false
set_option linter.deprecated false
namespace Go.Proofs.Ytpjaefcmaiimlaa
open Go.RowKit

theorem wurem11 (t : Int) {n : Nat} (h0 : 0 < n) (hn : n ≤ 400) : ∃ b : Nat, b < n ∧ IntKind.u64.wrap (n : Int) = (n : Int) ∧ Int.tmod (IntKind.u64.wrap t) (n : Int) = (b : Int) ∧ IntKind.i64.wrap (b : Int) = (b : Int) := by
  have h1 : 0 ≤ IntKind.u64.wrap t := by rw [IntKind.wrap_u64]; exact Int.emod_nonneg _ (by omega)
  generalize IntKind.u64.wrap t = m at *
  have h2 := Int.emod_nonneg m (show (n : Int) ≠ 0 by omega)
  have h3 := Int.emod_lt_of_pos m (show (0 : Int) < (n : Int) by omega)
  refine ⟨(m % (n : Int)).toNat, by omega, by rw [IntKind.wrap_u64]; omega, ?_, IntWalk.i64_in _ (by omega)⟩
  rw [Int.tmod_eq_emod_of_nonneg h1]
  omega
theorem many_few {n m k : Nat} (h : many10 n m k = false) (hn : n ≤ 200) (hm : m ≤ 400) (hk : k ≤ 400) : n ≤ 60 ∧ m ≤ 80 ∧ k ≤ 80 := by
  unfold many10 at h
  simp only [Bool.or_eq_false_iff, Bool.and_eq_false_iff, decide_eq_false_iff_not] at h
  omega
/-- what is left of a walk -/
structure Tail11 (P : Prop) : Prop where
  out : P
set_option maxHeartbeats 16000000 in
set_option maxRecDepth 100000 in
theorem vhurt0 (p l i : List Pt) (ap al ai : Option Addr) (cp cl ci : Nat) (w : World)  (t : Int) (h3 : l.length < 3 ∨ p.length < 3) :
    Calls Try.prog 6 #[.agg #[.slice ap p.length cp, .slice al l.length cl, .slice ai i.length ci], .int .i64 t] w (Gives (.bool true) w) := by
  have KN := Lib.hid (fun W => known10_l W)
  have HM := Lib.hid (fun W => many10_l p.length l.length i.length ap al ai cp cl ci W)
  obtain ⟨r, hr⟩ : ∃ r, many10 p.length l.length i.length = r := ⟨_, rfl⟩
  rw [hr] at HM
  clear hr
  go_enter Try.func6, Try.ntmps6
  go_upto_region 1 with (fail)
  have HV := Lib.hid (var3_new w (.slice ap p.length cp) (.slice al l.length cl) (.slice ai i.length ci) 38 w.heap.size rfl)
  have HB := Lib.hid (bl_one w (.cells #[.slice ap p.length cp, .slice al l.length cl, .slice ai i.length ci] 38))
  generalize w.alloc (.cells #[.slice ap p.length cp, .slice al l.length cl, .slice ai i.length ci] 38) = W1 at *
  obtain ⟨k0, k1, k2⟩ := HV.out.three
  cases r
  case true =>
    go_wp2_with fail
    (with_reducible refine (HM.out _).mono ?_); rintro e w2 ⟨rfl, hb2⟩
    replace HB := Lib.hid (bl_trans HB.out hb2)
    clear hb2 HM k0 k1 k2
    go_wp2_with fail
    (with_reducible refine (KN.out _).mono ?_); rintro e w9 ⟨rfl, hb9⟩
    have HBz := Lib.hid (bl_trans HB.out hb9)
    clear hb9
    go_wp2_with fail
    go_ret
    exact ⟨rfl, HBz.out⟩
  case false =>
    by_cases hl : l.length < 3
    · have d1 : (l.length < 3) = True := eq_true hl
      have d2 : ((l.length : Int) < 3) = True := eq_true (by omega)
      go_wp2_with fail
      (with_reducible refine (HM.out _).mono ?_); rintro e w2 ⟨rfl, hb2⟩
      replace HV := Lib.hid (HV.out.below hb2)
      replace HB := Lib.hid (bl_trans HB.out hb2)
      clear hb2 HM k0 k1 k2
      obtain ⟨k0, k1, k2⟩ := HV.out.three
      go_wp2_with fail
      (with_reducible refine (KN.out _).mono ?_); rintro e w9 ⟨rfl, hb9⟩
      have HBz := Lib.hid (bl_trans HB.out hb9)
      clear hb9
      go_wp2_with fail
      go_ret
      exact ⟨rfl, HBz.out⟩
    · have hp : p.length < 3 := by omega
      have d1 : (l.length < 3) = False := eq_false hl
      have d2 : ((l.length : Int) < 3) = False := eq_false (by omega)
      have d3 : (p.length < 3) = True := eq_true hp
      have d4 : ((p.length : Int) < 3) = True := eq_true (by omega)
      go_wp2_with fail
      (with_reducible refine (HM.out _).mono ?_); rintro e w2 ⟨rfl, hb2⟩
      replace HV := Lib.hid (HV.out.below hb2)
      replace HB := Lib.hid (bl_trans HB.out hb2)
      clear hb2 HM k0 k1 k2
      obtain ⟨k0, k1, k2⟩ := HV.out.three
      go_wp2_with fail
      (with_reducible refine (KN.out _).mono ?_); rintro e w9 ⟨rfl, hb9⟩
      have HBz := Lib.hid (bl_trans HB.out hb9)
      clear hb9
      go_wp2_with fail
      go_ret
      exact ⟨rfl, HBz.out⟩
set_option maxHeartbeats 16000000 in
set_option maxRecDepth 100000 in
noncomputable def vhA (p l i : List Pt) (gp op gm om : Nat) (ai : Option Addr) (cp cl ci : Nat) (w : World) (hA0 : Hid (p.length ≤ 10000 → l.length ≤ 10000 → i.length ≤ 10000 → Pol w (some ⟨gp, op, none⟩) (some ⟨gm, om, none⟩) ai cp cl ci p l i)) (h3p : Hid (3 ≤ p.length)) (h3l : Hid (3 ≤ l.length)) (t : Int) : {P : Prop // Tail11 P → 
    Calls Try.prog 6 #[.agg #[.slice (some ⟨gp, op, none⟩) p.length cp, .slice (some ⟨gm, om, none⟩) l.length cl, .slice ai i.length ci], .int .i64 t] w (Gives (.bool true) w)} := ⟨_, fun hP => by
  have KN := Lib.hid (fun W => known10_l W)
  have HPol0 := hA0
  have HM := Lib.hid (fun W => many10_l p.length l.length i.length (some ⟨gp, op, none⟩) (some ⟨gm, om, none⟩) ai cp cl ci W)
  obtain ⟨r, hr⟩ : ∃ r, many10 p.length l.length i.length = r := ⟨_, rfl⟩
  rw [hr] at HM
  have HR := Lib.hid hr
  clear hr
  go_enter Try.func6, Try.ntmps6
  go_upto_region 1 with (fail)
  have HV := Lib.hid (var3_new w (.slice (some ⟨gp, op, none⟩) p.length cp) (.slice (some ⟨gm, om, none⟩) l.length cl) (.slice ai i.length ci) 38 w.heap.size rfl)
  have HB := Lib.hid (bl_one w (.cells #[.slice (some ⟨gp, op, none⟩) p.length cp, .slice (some ⟨gm, om, none⟩) l.length cl, .slice ai i.length ci] 38))
  generalize w.alloc (.cells #[.slice (some ⟨gp, op, none⟩) p.length cp, .slice (some ⟨gm, om, none⟩) l.length cl, .slice ai i.length ci] 38) = W1 at *
  obtain ⟨k0, k1, k2⟩ := HV.out.three
  cases r
  case true =>
    go_wp2_with fail
    (with_reducible refine (HM.out _).mono ?_); rintro e w2 ⟨rfl, hb2⟩
    replace HB := Lib.hid (bl_trans HB.out hb2)
    clear hb2 HM k0 k1 k2
    go_wp2_with fail
    (with_reducible refine (KN.out _).mono ?_); rintro e w9 ⟨rfl, hb9⟩
    have HBz := Lib.hid (bl_trans HB.out hb9)
    clear hb9
    go_wp2_with fail
    go_ret
    exact ⟨rfl, HBz.out⟩
  case false =>
  have hA : Pol w (some ⟨gp, op, none⟩) (some ⟨gm, om, none⟩) ai cp cl ci p l i := by
    obtain ⟨a, b, c⟩ := many_no HR.out
    exact HPol0.out (by omega) (by omega) (by omega)
  have HPol := Lib.hid hA
  have HCk := Lib.hid (fun W h => refCheck10_l p l i (some ⟨gp, op, none⟩) (some ⟨gm, om, none⟩) ai cp cl ci W (hA.below h))
  have HCE : Hid (firstE p l i = if checkB p l i = true then 0 else 2) := rfl
  clear HPol0 hA
  obtain ⟨e9, he⟩ : ∃ e, firstE p l i = e := ⟨_, rfl⟩
  rw [he] at HCk HCE
  have HE9 := Lib.hid he
  have hp3 := h3p.out
  have hl3 := h3l.out
  have d5 : (l.length < 3) = False := eq_false (by omega)
  have d5' : ((l.length : Int) < 3) = False := eq_false (by omega)
  have d6 : (p.length < 3) = False := eq_false (by omega)
  have d6' : ((p.length : Int) < 3) = False := eq_false (by omega)
  clear he
  by_cases hq7 : 198 < p.length
  · have d1 : (198 < p.length) = True := eq_true hq7
    have d2 : ((198 : Int) < (p.length : Int)) = True := eq_true (by omega)
    go_wp2_with fail
    (with_reducible refine (HM.out _).mono ?_); rintro e w2 ⟨rfl, hb2⟩
    replace HV := Lib.hid (HV.out.below hb2)
    replace HB := Lib.hid (bl_trans HB.out hb2)
    clear hb2 HM k0 k1 k2
    obtain ⟨k0, k1, k2⟩ := HV.out.three
    go_wp2_with fail
    (with_reducible refine (KN.out _).mono ?_); rintro e w9 ⟨rfl, hb9⟩
    have HBz := Lib.hid (bl_trans HB.out hb9)
    clear hb9
    go_wp2_with fail
    go_ret
    exact ⟨rfl, HBz.out⟩
  have d7 : (198 < p.length) = False := eq_false hq7
  have d7' : ((198 : Int) < (p.length : Int)) = False := eq_false (by omega)
  go_wp2_with fail
  (with_reducible refine (HM.out _).mono ?_); rintro e w2 ⟨rfl, hb2⟩
  replace HV := Lib.hid (HV.out.below hb2)
  replace HB := Lib.hid (bl_trans HB.out hb2)
  clear hb2 HM k0 k1 k2
  obtain ⟨k0, k1, k2⟩ := HV.out.three
  go_wp2_with fail
  (with_reducible refine (HCk.out _ HB.out).mono ?_); rintro e w3 ⟨rfl, hb2⟩
  replace HB := Lib.hid (bl_trans HB.out hb2)
  replace HV := Lib.hid (HV.out.below hb2)
  clear hb2 HCk k0 k1 k2
  obtain ⟨k0, k1, k2⟩ := HV.out.three
  by_cases hck : checkB p l i = true
  case neg =>
    obtain rfl : e9 = 2 := by rw [HCE.out, if_neg hck]
    clear hck HCE
    go_wp2_with fail
    (with_reducible refine (KN.out _).mono ?_); rintro e w9 ⟨rfl, hb9⟩
    have HBz := Lib.hid (bl_trans HB.out hb9)
    clear hb9
    go_wp2_with fail
    go_ret
    exact ⟨rfl, HBz.out⟩
  case pos =>
  have hez : e9 = 0 := by rw [HCE.out, if_pos hck]
  subst hez
  have hc := checkB_iff.1 hck
  have HC := Lib.hid hc
  have HF1 := Lib.hid (fun W (h : Below w.heap.size w W) => first10_l p l i (some ⟨gp, op, none⟩) (some ⟨gm, om, none⟩) ai cp cl ci W (HPol.out.below h))
  have hf1 : firstF p l i = flTo p l i 8 := by unfold firstF; rw [if_pos hck]
  rw [hf1, HE9.out] at HF1
  clear hck HCE hc hf1
  obtain ⟨⟨c, a, b⟩, hf⟩ : ∃ f, flTo p l i 8 = f := ⟨_, rfl⟩
  rw [hf] at HF1
  have HFl := Lib.hid hf
  clear hf d5 d6 d7 d5' d6' d7'
  go_wp2_with fail
  (with_reducible refine (HF1.out _ HB.out).mono ?_); rintro e w4 ⟨rfl, hb2⟩
  dsimp only
  replace HB := Lib.hid (bl_trans HB.out hb2)
  replace HV := Lib.hid (HV.out.below hb2)
  clear hb2 k0 k1 k2 HF1 HE9
  go_upto_region 4 with (fail)
  have HG := Lib.hid (var3_new w4 (.int .i64 c) (.int .i64 a) (.int .i64 b) 42 w4.heap.size rfl)
  replace HB := Lib.hid (bl_trans HB.out (bl_one w4 (.cells #[.int .i64 c, .int .i64 a, .int .i64 b] 42)))
  replace HV := Lib.hid (HV.out.below (bl_one w4 (.cells #[.int .i64 c, .int .i64 a, .int .i64 b] 42)))
  generalize w4.alloc (.cells #[.int .i64 c, .int .i64 a, .int .i64 b] 42) = W5 at *
  generalize w4.heap.size = g5 at *
  obtain ⟨x0, x1, x2⟩ := HG.out.three
  by_cases hc0 : c = 0
  case neg =>
    have c1 : (c = 0) = False := eq_false hc0
    have c2 : (c != 0) = true := bne_iff_ne.2 hc0
    go_wp2_with fail
    (with_reducible refine (KN.out _).mono ?_); rintro e w9 ⟨rfl, hb9⟩
    have HBz := Lib.hid (bl_trans HB.out hb9)
    clear hb9
    go_wp2_with fail
    go_ret
    exact ⟨rfl, HBz.out⟩
  case pos =>
  subst hc0
  have hA : (flTo p l i 8).k = 0 := by rw [HFl.out]
  have HA := Lib.hid hA
  have hfew := many_few HR.out HC.out.n HC.out.nl HC.out.ni
  have HFew := Lib.hid hfew
  obtain ⟨k, hkl, hu⟩ := wurem11 t (n := p.length) (by omega) (by omega)
  obtain ⟨m, hml, hu2⟩ := wurem11 t (n := l.length) (by omega) (by omega)
  have HU := Lib.hid hu
  have HU2 := Lib.hid hu2
  have HKl := Lib.hid hkl
  have HMl := Lib.hid hml
  have HCp := Lib.hid (fun W (h : Below w.heap.size w W) => copy10_l p l i (some ⟨gp, op, none⟩) (some ⟨gm, om, none⟩) ai cp cl ci W (HPol.out.below h))
  clear hA hfew hu hu2 hkl hml hq7 HFl HR hp3 hl3
  go_upto_region 6 with (fail)
  clear x0 x1 x2 HG
  obtain ⟨k0, k1, k2⟩ := HV.out.three
  go_wp2_with fail
  (with_reducible refine (HCp.out _ HB.out).mono ?_); rintro e w9 ⟨u, v, x, rfl, hO⟩
  obtain ⟨au, av, ax, cu, cv, cx, e0, e1, e2, -⟩ := hO.pol HPol.out.lenP HPol.out.lenL HPol.out.lenI
  subst e0 e1 e2
  go_upto_region 7 with (fail)
  clear k0 k1 k2
  have HO := Lib.hid (own_new hO)
  generalize w9.alloc (.cells #[.slice au p.length cu, .slice av l.length cv, .slice ax i.length cx] 38) = WA at *
  generalize w9.heap.size = gy at *
  clear hO
  obtain ⟨⟨qx, qy⟩, hq⟩ : ∃ q, pget p k = q := ⟨_, rfl⟩
  have HQ := Lib.hid hq
  have HLim : Hid (p.length + [(⟨qx, qy⟩ : Pt)].length ≤ 1000000) := by have := HFew.out; show p.length + 1 ≤ 1000000; omega
  obtain ⟨P, hPA⟩ : ∃ P, p ++ [(⟨qx, qy⟩ : Pt)] = P := ⟨_, rfl⟩
  have HPA := Lib.hid hPA
  clear hq hPA
  go_cut [] (fun W => ∃ u', OwnV W5 gy u' (.slice av l.length cv) (.slice ax i.length cx) P l i W)
  case first =>
    refine wp_region_held_drew (S := fun V => Below W5.heap.size W5 V) (by kernel_rfl) ?_ (fun hHeld => ?_)
    · exact HO.out.o.hb.drew
    replace HO := Lib.hid (HO.out.below (bel_drew _))
    revert hHeld
    revert HO
    generalize World.drew _ = W9
    intro HO hHeld
    refine tk (i := 0) (v := ?_) rfl (Or.inl ⟨by rfl, ?_⟩) ?_
    rotate_left; · intro Wq hSw; clear hSw; go_simp; all_goals (with_reducible rfl)
    try simp only [Act.put, x2, x4, x5, x6, x7]
    refine tk (i := 2) (v := ?_) rfl (Or.inl ⟨by rfl, ?_⟩) ?_
    rotate_left; · intro Wq hSw; clear hSw; go_simp; all_goals (with_reducible rfl)
    try simp only [Act.put, x2, x3, x4, x5, x6, x7]
    refine tk (i := 3) (v := ?_) rfl (Or.inl ⟨by rfl, ?_⟩) ?_
    rotate_left
    · intro Wq hSw
      obtain ⟨k0, k1, k2⟩ := (HV.out.below hSw).three
      clear hSw
      go_simp; all_goals (with_reducible rfl)
    try simp only [Act.put, x2, x3, x4, x5, x6, x7]
    refine tk (i := 4) (v := ?_) rfl (Or.inl ⟨by rfl, ?_⟩) ?_
    rotate_left; · intro Wq hSw; clear hSw; go_simp; all_goals (with_reducible rfl)
    try simp only [Act.put, x2, x3, x4, x5, x6, x7]
    refine tk (i := 5) (v := ?_) rfl (Or.inl ⟨by rfl, ?_⟩) ?_
    rotate_left; · intro Wq hSw; clear hSw; go_simp; all_goals (with_reducible rfl)
    try simp only [Act.put, x2, x3, x4, x5, x6, x7]
    refine tk (i := 6) (v := ?_) rfl (Or.inl ⟨by rfl, ?_⟩) ?_
    rotate_left; · intro Wq hSw; clear hSw; go_simp; all_goals (with_reducible rfl)
    try simp only [Act.put, x2, x3, x4, x5, x6, x7]
    refine tk (i := 7) (v := ?_) rfl (Or.inl ⟨by rfl, ?_⟩) ?_
    rotate_left
    · intro Wq hSw
      obtain ⟨k0, k1, k2⟩ := (HV.out.below hSw).three
      clear hSw
      go_simp; all_goals (with_reducible rfl)
    try simp only [Act.put, x2, x3, x4, x5, x6, x7]
    refine tk (i := 8) (v := ?_) rfl (Or.inl ⟨by rfl, ?_⟩) ?_
    rotate_left; · intro Wq hSw; clear hSw; go_simp; all_goals (with_reducible rfl)
    try simp only [Act.put, x2, x3, x4, x5, x6, x7]
    refine tk (i := 9) (v := ?_) rfl (Or.inl ⟨by rfl, ?_⟩) ?_
    rotate_left
    · intro Wq hSw
      obtain ⟨u1, u2, u3⟩ := HU.out
      clear hSw
      go_simp; all_goals (with_reducible rfl)
    try simp only [Act.put, x2, x3, x4, x5, x6, x7]
    refine tk (i := 10) (v := ?_) rfl (Or.inl ⟨by rfl, ?_⟩) ?_
    rotate_left
    · intro Wq hSw
      obtain ⟨u1, u2, u3⟩ := HU.out
      have b6 : (p = []) = False := eq_false (fun e => by have h := HKl.out; rw [e] at h; exact absurd h (Nat.not_lt_zero _))
      clear hSw
      go_simp; all_goals (with_reducible rfl)
    try simp only [Act.put, x2, x3, x4, x5, x6, x7]
    refine tk (i := 11) (v := ?_) rfl (Or.inl ⟨by rfl, ?_⟩) ?_
    rotate_left
    · intro Wq hSw
      obtain ⟨u1, u2, u3⟩ := HU.out
      clear hSw
      go_simp; all_goals (with_reducible rfl)
    try simp only [Act.put, x2, x3, x4, x5, x6, x7]
    refine tk (i := 12) (v := ?_) rfl (Or.inl ⟨by rfl, ?_⟩) ?_
    rotate_left
    · intro Wq hSw
      have hkl := HKl.out
      have c1 : ((k : Int) < (p.length : Int)) = True := eq_true (by omega)
      have c2 : ((0 : Int) ≤ (k : Int)) = True := eq_true (by omega)
      have c3 : (k < p.length) = True := eq_true hkl
      clear hSw
      go_simp; all_goals (with_reducible rfl)
    try simp only [Act.put, x2, x3, x4, x5, x6, x7]
    refine tk (i := 13) (v := ?_) rfl (Or.inl ⟨by rfl, ?_⟩) ?_
    rotate_left
    · intro Wq hSw
      obtain ⟨c0, c1⟩ := ptRow_at (HPol.out.pp.below (bl_trans HB.out hSw)) HKl.out HQ.out
      dsimp only at c0 c1
      clear hSw
      go_simp; all_goals (with_reducible rfl)
    try simp only [Act.put, x2, x3, x4, x5, x6, x7]
    refine r2 (i := 1) (j := 14) rfl (fun K hK => ?_) rfl (fun K hK => ?_)
    · obtain ⟨x0, x1, x2⟩ := HO.out.var.three
      go_simp
      refine hK.out _ _ hHeld (fun hHeld2 => ?_)
      clear hK K hHeld x0 x1 x2
      have hHeld := hHeld2
      clear hHeld2
      try simp only [Act.put, x2, x3, x4, x5, x6, x7]
      refine r1 (i := 14) rfl (fun K hK => ?_)
      go_simp
      have HN := Lib.hid (row1_new W9 ⟨qx, qy⟩ 49)
      have hB8 := Nat.le_trans HO.out.hg (Nat.le_of_lt HO.out.var.lt)
      replace HO := Lib.hid (HO.out.below (bl_one W9 (.cells #[.int .i64 qx, .int .i64 qy] 49)))
      refine hK.out _ _ (hHeld.alloc hB8 _) (fun hHeld2 => ?_)
      clear hK K hHeld hB8
      generalize W9.alloc (.cells #[.int .i64 qx, .int .i64 qy] 49) = W8 at *
      have hHeld := hHeld2
      clear hHeld2
      try simp only [Act.put, x2, x3, x4, x5, x6, x7]
      refine r1 (i := 15) rfl (fun K hK => ?_)
      refine app_pts10_wp Try.underlying35 info_pt10 (.tmp 68) (.tmp 81) rfl (by rfl) HO.out.o.o0 (L := [⟨qx, qy⟩]) (by rfl) HN.out ?lim (fun v2 w4 hO2 hg2 hloc2 => ?_)
      case lim => exact HLim.out
      rw [HPA.out] at hO2
      have hB8 := Nat.le_trans HO.out.hg (Nat.le_of_lt HO.out.var.lt)
      have HX4 := Lib.hid (HO.out.var.grown10 hg2 (fun k e e' => HO.out.n0 (by rw [e, e'])))
      have HO3 := Lib.hid (HO.out.put0 hO2 hg2 hloc2)
      have hgl := HO.out.hg
      refine hK.out _ _ (hHeld.grown hg2 hB8 (fun k e => (HO.out.o.o0.own.lt k e).1)) (fun hHeld2 => ?_)
      obtain ⟨a2, c2, ev2, -⟩ := hO2.slice
      clear hK K hHeld hO2 hg2 hloc2 hB8 HN HO
      subst ev2
      have hHeld := hHeld2
      clear hHeld2
      try simp only [Act.put, x2, x3, x4, x5, x6, x7]
      refine tk (i := 16) (v := ?_) rfl (Or.inl ⟨by rfl, ?_⟩) ?_
      rotate_left; · intro Wq hSw; clear hSw; go_simp; all_goals (with_reducible rfl)
      try simp only [Act.put, x2, x3, x4, x5, x6, x7]
      refine r1 (i := 17) rfl (fun K hK => ?_)
      obtain ⟨x0, x1, x2⟩ := HX4.out.three
      obtain ⟨y0, y1, y2⟩ := HX4.out.free3
      go_simp
      refine hK.out _ _ (hHeld.setCell hgl _) (fun hHeld2 => ?_)
      clear hK K hHeld x0 x1 x2 y0 y1 y2 HX4
      have hHeld := hHeld2
      clear hHeld2
      try simp only [Act.put, x2, x3, x4, x5, x6, x7]
      refine wpAnyH_done (by kernel_rfl) ?_ _
      go_wp2_with fail
      go_meet
      case rel => exact ⟨_, HO3.out⟩
    · go_simp
      have HN := Lib.hid (row1_new W9 ⟨qx, qy⟩ 49)
      have hB8 := Nat.le_trans HO.out.hg (Nat.le_of_lt HO.out.var.lt)
      replace HO := Lib.hid (HO.out.below (bl_one W9 (.cells #[.int .i64 qx, .int .i64 qy] 49)))
      refine hK.out _ _ (hHeld.alloc hB8 _) (fun hHeld2 => ?_)
      clear hK K hHeld hB8
      generalize W9.alloc (.cells #[.int .i64 qx, .int .i64 qy] 49) = W8 at *
      have hHeld := hHeld2
      clear hHeld2
      try simp only [Act.put, x2, x3, x4, x5, x6, x7]
      refine r1 (i := 1) rfl (fun K hK => ?_)
      obtain ⟨x0, x1, x2⟩ := HO.out.var.three
      go_simp
      refine hK.out _ _ hHeld (fun hHeld2 => ?_)
      clear hK K hHeld x0 x1 x2
      have hHeld := hHeld2
      clear hHeld2
      try simp only [Act.put, x2, x3, x4, x5, x6, x7]
      refine r1 (i := 15) rfl (fun K hK => ?_)
      refine app_pts10_wp Try.underlying35 info_pt10 (.tmp 68) (.tmp 81) rfl (by rfl) HO.out.o.o0 (L := [⟨qx, qy⟩]) (by rfl) HN.out ?lim (fun v2 w4 hO2 hg2 hloc2 => ?_)
      case lim => exact HLim.out
      rw [HPA.out] at hO2
      have hB8 := Nat.le_trans HO.out.hg (Nat.le_of_lt HO.out.var.lt)
      have HX4 := Lib.hid (HO.out.var.grown10 hg2 (fun k e e' => HO.out.n0 (by rw [e, e'])))
      have HO3 := Lib.hid (HO.out.put0 hO2 hg2 hloc2)
      have hgl := HO.out.hg
      refine hK.out _ _ (hHeld.grown hg2 hB8 (fun k e => (HO.out.o.o0.own.lt k e).1)) (fun hHeld2 => ?_)
      obtain ⟨a2, c2, ev2, -⟩ := hO2.slice
      clear hK K hHeld hO2 hg2 hloc2 hB8 HN HO
      subst ev2
      have hHeld := hHeld2
      clear hHeld2
      try simp only [Act.put, x2, x3, x4, x5, x6, x7]
      refine tk (i := 16) (v := ?_) rfl (Or.inl ⟨by rfl, ?_⟩) ?_
      rotate_left; · intro Wq hSw; clear hSw; go_simp; all_goals (with_reducible rfl)
      try simp only [Act.put, x2, x3, x4, x5, x6, x7]
      refine r1 (i := 17) rfl (fun K hK => ?_)
      obtain ⟨x0, x1, x2⟩ := HX4.out.three
      obtain ⟨y0, y1, y2⟩ := HX4.out.free3
      go_simp
      refine hK.out _ _ (hHeld.setCell hgl _) (fun hHeld2 => ?_)
      clear hK K hHeld x0 x1 x2 y0 y1 y2 HX4
      have hHeld := hHeld2
      clear hHeld2
      try simp only [Act.put, x2, x3, x4, x5, x6, x7]
      refine wpAnyH_done (by kernel_rfl) ?_ _
      go_wp2_with fail
      go_meet
      case rel => exact ⟨_, HO3.out⟩
  case rest =>
  rename_i K0 aK0
  clear HO HLim
  repeat revert ‹Value›
  revert hcut
  revert HPA
  revert HQ
  revert HV
  revert HB
  revert HCp
  revert HPol
  revert HMl
  revert HKl
  revert HU2
  revert HU
  revert HFew
  revert HA
  revert HC
  revert KN
  revert aK0
  revert K0
  revert wc
  revert P
  revert qy
  revert qx
  revert cx
  revert cv
  revert cu
  revert ax
  revert av
  revert au
  revert gy
  revert W5
  revert b
  revert a
  revert g5
  revert m
  revert k
  exact hP.out⟩
end Go.Proofs.Ytpjaefcmaiimlaa
