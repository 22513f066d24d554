/-
  The law RingsJoin.
-/
import Derived.Test.YtkidphekfnmhhaaROrd
import Derived.Test.YtkidphekfnmhhaaRJoinMath
namespace Go.Proofs.Ytkidphekfnmhhaa
open Go.RowKit

theorem rows_take {W : World} {ad : Option Addr} {L : List (List Int)} (h : RowsAt W ad L) (k : Nat) : RowsAt W ad (L.take k) := by
  intro i hi
  rw [List.length_take] at hi
  obtain ⟨g, o, ad', cap', e, h1, h2, h3, h4⟩ := h i (by omega)
  rw [List.getElem_take]
  exact ⟨g, o, ad', cap', e, h1, h2, h3, h4⟩
theorem rows_none9 (W : World) (ad : Option Addr) : RowsAt W ad [] := fun _ h => absurd h (Nat.not_lt_zero _)
theorem op_congr8 {T : TypeId} {W0 W : World} {v : Value} {l m : List Pt} (h : Op T W0 v l W) (e : l = m) : Op T W0 v m W := e ▸ h
theorem take_snoc8 (l : List Pt) {k : Nat} (h : k < l.length) : l.take (k + 1) = l.take k ++ [pget l k] := by
  rw [List.take_succ_eq_append_getElem h]
  simp [pget, List.getD, h]
/-- what an answer may be -/
theorem rings_four {n : Int} {l : List Pt} {a : List (List Int)} {x e : Int} (h : ringsR n l = (a, x, e)) : (e ≠ 0 → a = []) ∧ (e = 0 → x = 0) ∧ 0 ≤ x ∧ x ≤ n.toNat + l.length := by
  by_cases h1 : okL n l
  · by_cases h2 : againF l < 0
    · by_cases h3 : forkF n.toNat l < 0
      · rw [ringsR_ok h1 h2 h3] at h
        simp only [Prod.mk.injEq] at h
        obtain ⟨rfl, rfl, rfl⟩ := h
        exact ⟨fun h => absurd rfl h, fun _ => rfl, Int.le_refl _, by omega⟩
      · rw [ringsR_fork h1 h2 (by omega)] at h
        simp only [Prod.mk.injEq] at h
        obtain ⟨rfl, rfl, rfl⟩ := h
        refine ⟨fun _ => rfl, fun h => absurd h (by decide), by omega, ?_⟩
        unfold forkF
        rcases firstN_cases (forkB l) n.toNat with ⟨e, -⟩ | ⟨k, hk, e, -⟩
        · rw [e]; omega
        · rw [e]; omega
    · rw [ringsR_twice h1 (by omega)] at h
      simp only [Prod.mk.injEq] at h
      obtain ⟨rfl, rfl, rfl⟩ := h
      refine ⟨fun _ => rfl, fun h => absurd h (by decide), by omega, ?_⟩
      unfold againF
      rcases firstN_cases (seenB l) l.length with ⟨e, -⟩ | ⟨k, hk, e, -⟩
      · rw [e]; omega
      · rw [e]; omega
  · rw [ringsR_arg h1] at h
    simp only [Prod.mk.injEq] at h
    obtain ⟨rfl, rfl, rfl⟩ := h
    exact ⟨fun _ => rfl, fun h => absurd h (by decide), Int.le_refl _, by omega⟩
theorem rings_in {k : Nat} {m : List Pt} {b : List (List Int)} {x : Int} (h : ringsR (k : Int) m = (b, x, 0)) : ∀ R ∈ b, ∀ z ∈ R, 0 ≤ z ∧ z < (k : Int) := by
  by_cases h1 : okL (k : Int) m
  · by_cases h2 : againF m < 0
    · by_cases h3 : forkF k m < 0
      · rw [ringsR_ok h1 h2 (by rwa [Int.toNat_natCast]), Int.toNat_natCast] at h
        simp only [Prod.mk.injEq] at h
        obtain ⟨rfl, -, -⟩ := h
        intro R hR z hz
        have := ((upto (good_of h1 h2 h3).net k (Nat.le_refl _)).rows R hR).inn z hz
        omega
      · rw [ringsR_fork h1 h2 (by rw [Int.toNat_natCast]; omega)] at h
        simp at h
    · rw [ringsR_twice h1 (by omega)] at h
      simp at h
  · rw [ringsR_arg h1] at h
    simp at h
theorem rings_bad {k : Nat} {m : List Pt} {b : List (List Int)} {x f : Int} (h : ringsR (k : Int) m = (b, x, f)) {i : Nat} (hi : i < m.length) (hs : ¬ (0 ≤ (pget m i).x ∧ 0 ≤ (pget m i).y ∧ (pget m i).x < (k : Int) ∧ (pget m i).y < (k : Int))) : f = 2 := by
  rw [ringsR_arg (fun h1 => by have := h1.2.2 _ (pget_mem hi); unfold okS at this; omega)] at h
  simp only [Prod.mk.injEq] at h
  exact h.2.2.symm
theorem inK_step {k : Nat} {m : List Pt} {i : Nat} (h : inK k (m.take i)) (hi : i < m.length) (hs : 0 ≤ (pget m i).x ∧ 0 ≤ (pget m i).y ∧ (pget m i).x < (k : Int) ∧ (pget m i).y < (k : Int)) : inK k (m.take (i + 1)) := by
  rw [take_snoc8 m hi]
  intro s hm
  rcases List.mem_append.1 hm with h1 | h1
  · exact h s h1
  · rw [List.mem_singleton] at h1
    subst h1
    exact hs
theorem shR_at {n : Nat} {a b : List (List Int)} {i : Nat} (h : i < b.length) (h' : a.length + i < (a ++ shR n b).length) : (a ++ shR n b)[a.length + i] = (b[i]).map fun x => x + (n : Int) := by
  rw [List.getElem_append_right (by omega)]
  unfold shR
  simp
set_option maxHeartbeats 16000000 in
set_option maxRecDepth 100000 in
theorem join8_l (w : World) (n : Int) (l : List Pt) (al : Option Addr) (cl : Nat) (_ : l.length ≤ cl) (hL : PtRow w al l) (hnl : al = none → cl = 0) (k : Int) (m : List Pt) (am : Option Addr) (cm : Nat) (_ : m.length ≤ cm) (hM : PtRow w am m) (_ : am = none → cm = 0) :
    Calls Try.prog 11 #[.int .i64 n, .slice al l.length cl, .int .i64 k, .slice am m.length cm] w (Gives (.bool true) w) := by
  have KN := Lib.hid (fun W => known_l W)
  have HL := Lib.hid hL
  have HM := Lib.hid hM
  clear hL hM
  go_enter Try.func11, Try.ntmps11
  have HB := Lib.hid (Below.refl w.heap.size w)
  by_cases h0 : n < 0
  · clear HL
    have b0 : (n < 0) = True := eq_true h0
    go_wp2_with fail
    (with_reducible refine (KN.out _).mono ?_); rintro e' wk ⟨rfl, hbk⟩
    have HZ := Lib.hid (bl_trans HB.out hbk)
    clear hbk
    go_wp2_with fail
    go_ret
    exact ⟨rfl, HZ.out⟩
  have b0 : (n < 0) = False := eq_false h0
  by_cases h1 : k < 0
  · clear HL
    have b1 : (k < 0) = True := eq_true h1
    go_wp2_with fail
    (with_reducible refine (KN.out _).mono ?_); rintro e' wk ⟨rfl, hbk⟩
    have HZ := Lib.hid (bl_trans HB.out hbk)
    clear hbk
    go_wp2_with fail
    go_ret
    exact ⟨rfl, HZ.out⟩
  have b1 : (k < 0) = False := eq_false h1
  by_cases h2 : 100 < n
  · clear HL
    have b2 : (100 < n) = True := eq_true h2
    go_wp2_with fail
    (with_reducible refine (KN.out _).mono ?_); rintro e' wk ⟨rfl, hbk⟩
    have HZ := Lib.hid (bl_trans HB.out hbk)
    clear hbk
    go_wp2_with fail
    go_ret
    exact ⟨rfl, HZ.out⟩
  have b2 : (100 < n) = False := eq_false h2
  by_cases h3 : 100 < k
  · clear HL
    have b3 : (100 < k) = True := eq_true h3
    go_wp2_with fail
    (with_reducible refine (KN.out _).mono ?_); rintro e' wk ⟨rfl, hbk⟩
    have HZ := Lib.hid (bl_trans HB.out hbk)
    clear hbk
    go_wp2_with fail
    go_ret
    exact ⟨rfl, HZ.out⟩
  have b3 : (100 < k) = False := eq_false h3
  by_cases h4 : 100 < l.length
  · clear HL
    have b4 : ((100 : Int) < (l.length : Int)) = True := eq_true (by omega)
    have c4 : (100 < l.length) = True := eq_true h4
    go_wp2_with fail
    (with_reducible refine (KN.out _).mono ?_); rintro e' wk ⟨rfl, hbk⟩
    have HZ := Lib.hid (bl_trans HB.out hbk)
    clear hbk
    go_wp2_with fail
    go_ret
    exact ⟨rfl, HZ.out⟩
  have b4 : ((100 : Int) < (l.length : Int)) = False := eq_false (by omega)
  have c4 : (100 < l.length) = False := eq_false h4
  by_cases h5 : 100 < m.length
  · clear HL
    have b5 : ((100 : Int) < (m.length : Int)) = True := eq_true (by omega)
    have c5 : (100 < m.length) = True := eq_true h5
    go_wp2_with fail
    (with_reducible refine (KN.out _).mono ?_); rintro e' wk ⟨rfl, hbk⟩
    have HZ := Lib.hid (bl_trans HB.out hbk)
    clear hbk
    go_wp2_with fail
    go_ret
    exact ⟨rfl, HZ.out⟩
  have b5 : ((100 : Int) < (m.length : Int)) = False := eq_false (by omega)
  have c5 : (100 < m.length) = False := eq_false h5
  obtain ⟨n, rfl⟩ := Int.eq_ofNat_of_zero_le (by omega : 0 ≤ n)
  obtain ⟨k, rfl⟩ := Int.eq_ofNat_of_zero_le (by omega : 0 ≤ k)
  have hn : n ≤ 100 := by omega
  have hk : k ≤ 100 := by omega
  have hl : l.length ≤ 100 := by omega
  have hm : m.length ≤ 100 := by omega
  obtain ⟨⟨a, x, e⟩, hr⟩ : ∃ z, ringsR (n : Int) l = z := ⟨_, rfl⟩
  obtain ⟨⟨b, at', f⟩, hs⟩ : ∃ z, ringsR (k : Int) m = z := ⟨_, rfl⟩
  have HR := Lib.hid hr
  have HS := Lib.hid hs
  have HR1 := Lib.hid (rings_at hr al cl w HL.out (.inl (by omega)) (by omega))
  have HR2 := Lib.hid (fun W h => rings_at hs am cm W (HM.out.below h) (.inl (by omega)) (by omega))
  have HZa := Lib.hid (rings_size hr (by omega))
  have HZb := Lib.hid (rings_size hs (by omega))
  clear hr hs h0 h1 h2 h3 h4 h5
  go_upto_region 3 with (fail)
  clear b0 b1 b2 b3 b4 c4 b5 c5
  go_wp2_with fail
  (with_reducible refine HR1.out.mono ?_); rintro e' w2 ⟨aa, ca, rfl, hra, hca, hna, hb⟩
  have HA := Lib.hid hra
  replace HB := Lib.hid hb
  clear hb HR1 hra
  go_wp2_with fail
  (with_reducible refine (HR2.out _ HB.out).mono ?_); rintro e' w3 ⟨ab, cb, rfl, hrb, hcb, hnb, hb⟩
  have HBb := Lib.hid hrb
  replace HA := Lib.hid (HA.out.below hb)
  replace HB := Lib.hid (bl_trans HB.out hb)
  clear hb HR2 hrb
  by_cases he : e = 0
  case neg =>
    have u1 : (e = 0) = False := eq_false he
    have u2 : (e == 0) = false := beq_eq_false_iff_ne.2 he
    have u3 : (e != 0) = true := bne_iff_ne.2 he
    obtain rfl := (rings_four HR.out).1 he
    clear he HR HZa
    simp only [List.length_nil] at *
    go_wp2_with fail
    (with_reducible refine (KN.out _).mono ?_); rintro e' wk ⟨rfl, hbk⟩
    have HZ := Lib.hid (bl_trans HB.out hbk)
    clear hbk
    go_wp2_with fail
    go_ret
    exact ⟨rfl, HZ.out⟩
  case pos =>
  subst he
  obtain rfl := (rings_four HR.out).2.1 rfl
  replace HL := Lib.hid (HL.out.below HB.out)
  replace HM := Lib.hid (HM.out.below HB.out)
  go_wp2_with (at_builtin; refine app_pts rfl Try.underlying23 info_eseg _ _ rfl rfl (op_nil _ w3) rfl (L := l) rfl HL.out hnl ?x1 ?_)
  case x1 => simp only [List.length_nil]; omega
  intro v8 w4 hO1
  have HO1 := Lib.hid (op_congr8 hO1 (List.nil_append l))
  clear hO1
  go_wp2_with fail
  go_loopw [15, 16] (fun v iv W => ∃ i : Nat, i ≤ m.length ∧ iv = .int .i64 i ∧ Op 51 w3 v (joinS n l (m.take i)) W ∧ inK k (m.take i)) (fun _ iv _ => m.length - (intOf iv).toNat)
  case atStart => exact ⟨0, Nat.zero_le _, rfl, by rw [List.take_zero]; exact op_congr8 HO1.out (by simp [joinS]), by simp [inK]⟩
  case round =>
    obtain ⟨i, hi9, rfl, hO, hin⟩ := hrel
    clear HO1
    have HO := Lib.hid hO
    have HBO := Lib.hid hO.hb
    have HIn := Lib.hid hin
    clear hO hin
    by_cases him : i < m.length
    · have q1 : ((i : Int) < (m.length : Int)) = True := eq_true (by omega)
      have q2 : (i < m.length) = True := eq_true him
      have q3 : ((0 : Int) ≤ (i : Int)) = True := eq_true (by omega)
      obtain ⟨gm, om, rfl⟩ := HM.out.some (by omega)
      obtain ⟨s, hs⟩ : ∃ s, pget m i = s := ⟨_, rfl⟩
      obtain ⟨sx, sy⟩ := s
      have HE := Lib.hid hs
      have hbad : ¬ (0 ≤ sx ∧ 0 ≤ sy ∧ sx < (k : Int) ∧ sy < (k : Int)) → f = 2 := fun h => rings_bad HS.out him (by rw [hs]; exact h)
      have HBad := Lib.hid hbad
      clear hs hbad
      obtain ⟨k0, k1⟩ := ptRow_at (HM.out.below HBO.out) him HE.out
      by_cases p0 : sx < 0
      · have b0 : (sx < 0) = True := eq_true p0
        obtain rfl := HBad.out (by omega)
        replace HB := Lib.hid (bl_trans HB.out HBO.out)
        go_wp2_with fail
        (with_reducible refine (KN.out _).mono ?_); rintro e' wk ⟨rfl, hbk⟩
        have HZ := Lib.hid (bl_trans HB.out hbk)
        clear hbk
        go_wp2_with fail
        go_ret
        exact ⟨rfl, HZ.out⟩
      have b0 : (sx < 0) = False := eq_false p0
      by_cases p1 : sy < 0
      · have b1 : (sy < 0) = True := eq_true p1
        obtain rfl := HBad.out (by omega)
        replace HB := Lib.hid (bl_trans HB.out HBO.out)
        go_wp2_with fail
        (with_reducible refine (KN.out _).mono ?_); rintro e' wk ⟨rfl, hbk⟩
        have HZ := Lib.hid (bl_trans HB.out hbk)
        clear hbk
        go_wp2_with fail
        go_ret
        exact ⟨rfl, HZ.out⟩
      have b1 : (sy < 0) = False := eq_false p1
      by_cases p2 : (k : Int) ≤ sx
      · have b2 : ((k : Int) ≤ sx) = True := eq_true p2
        obtain rfl := HBad.out (by omega)
        replace HB := Lib.hid (bl_trans HB.out HBO.out)
        go_wp2_with fail
        (with_reducible refine (KN.out _).mono ?_); rintro e' wk ⟨rfl, hbk⟩
        have HZ := Lib.hid (bl_trans HB.out hbk)
        clear hbk
        go_wp2_with fail
        go_ret
        exact ⟨rfl, HZ.out⟩
      have b2 : ((k : Int) ≤ sx) = False := eq_false p2
      by_cases p3 : (k : Int) ≤ sy
      · have b3 : ((k : Int) ≤ sy) = True := eq_true p3
        obtain rfl := HBad.out (by omega)
        replace HB := Lib.hid (bl_trans HB.out HBO.out)
        go_wp2_with fail
        (with_reducible refine (KN.out _).mono ?_); rintro e' wk ⟨rfl, hbk⟩
        have HZ := Lib.hid (bl_trans HB.out hbk)
        clear hbk
        go_wp2_with fail
        go_ret
        exact ⟨rfl, HZ.out⟩
      have b3 : ((k : Int) ≤ sy) = False := eq_false p3
      have HIn2 : Hid (inK k (m.take (i + 1))) := inK_step HIn.out him (by rw [HE.out]; dsimp only; omega)
      have HSn : Hid (joinS n l (m.take i) ++ [⟨sx + (n : Int), sy + (n : Int)⟩] = joinS n l (m.take (i + 1))) := by
        unfold Hid joinS
        rw [take_snoc8 m him, HE.out, List.map_append, List.append_assoc]
        rfl
      have HLn : Hid ((joinS n l (m.take i)).length ≤ 10000) := by
        unfold Hid joinS
        rw [List.length_append, List.length_map, List.length_take]; omega
      have M1 := Lib.hid (show wrap64 (sx + (n : Int)) = sx + (n : Int) by unfold wrap64; omega)
      have M2 := Lib.hid (show wrap64 (sy + (n : Int)) = sy + (n : Int) by unfold wrap64; omega)
      have M3 := Lib.hid (show IntKind.i64.wrap (sx + (n : Int)) = sx + (n : Int) from IntWalk.i64_in _ (by omega))
      have M4 := Lib.hid (show IntKind.i64.wrap (sy + (n : Int)) = sy + (n : Int) from IntWalk.i64_in _ (by omega))
      clear p0 p1 p2 p3
      go_upto_region 14 with (fail)
      clear k0 k1 b0 b1 b2 b3
      refine wp_region_held_drew (S := fun V => Below w3.heap.size w3 V) (by kernel_rfl) ?_ (fun hHeld => ?_)
      · exact (bl_trans HBO.out (bel_drew wr))
      have HO1 := Lib.hid (HO.out.drew)
      revert HO1
      revert hHeld
      generalize World.drew _ = W1
      intro hHeld HO1
      refine wpAnyH_take (i := 0) (v := ?_) rfl (by kernel_rfl) (by kernel_rfl) (by kernel_rfl) (fun _ _ _ h => h) (Or.inl ⟨by rfl, ?_⟩) (by assumption) ?_
      rotate_left
      · intro Wq hSw
        clear hSw
        go_simp
        all_goals (with_reducible rfl)
      try simp only [Act.put, List.getElem_toArray, List.getElem_cons_zero, List.setIfInBounds_toArray, List.set_cons_zero, List.set_cons_succ]
      refine wpAnyH_take (i := 1) (v := ?_) rfl (by kernel_rfl) (by kernel_rfl) (by kernel_rfl) (fun _ _ _ h => h) (Or.inl ⟨by rfl, ?_⟩) (by assumption) ?_
      rotate_left
      · intro Wq hSw
        clear hSw
        go_simp
        all_goals (with_reducible rfl)
      try simp only [Act.put, List.getElem_toArray, List.getElem_cons_succ, List.getElem_cons_zero, List.setIfInBounds_toArray, List.set_cons_zero, List.set_cons_succ]
      refine wpAnyH_take (i := 2) (v := ?_) rfl (by kernel_rfl) (by kernel_rfl) (by kernel_rfl) (fun _ _ _ h => h) (Or.inl ⟨by rfl, ?_⟩) (by assumption) ?_
      rotate_left
      · intro Wq hSw
        clear hSw
        go_simp
        all_goals (with_reducible rfl)
      try simp only [Act.put, List.getElem_toArray, List.getElem_cons_succ, List.getElem_cons_zero, List.setIfInBounds_toArray, List.set_cons_zero, List.set_cons_succ]
      refine wpAnyH_take (i := 3) (v := ?_) rfl (by kernel_rfl) (by kernel_rfl) (by kernel_rfl) (fun _ _ _ h => h) (Or.inl ⟨by rfl, ?_⟩) (by assumption) ?_
      rotate_left
      · intro Wq hSw
        have b1 : ((i : Int) < (m.length : Int)) = True := eq_true (by omega)
        have d1 : (i < m.length) = True := eq_true him
        have c1 : ((0 : Int) ≤ (i : Int)) = True := eq_true (by omega)
        clear hSw
        go_simp
        all_goals (with_reducible rfl)
      try simp only [Act.put, List.getElem_toArray, List.getElem_cons_succ, List.getElem_cons_zero, List.setIfInBounds_toArray, List.set_cons_zero, List.set_cons_succ]
      refine wpAnyH_take (i := 4) (v := ?_) rfl (by kernel_rfl) (by kernel_rfl) (by kernel_rfl) (fun _ _ _ h => h) (Or.inl ⟨by rfl, ?_⟩) (by assumption) ?_
      rotate_left
      · intro Wq hSw
        clear hSw
        go_simp
        all_goals (with_reducible rfl)
      try simp only [Act.put, List.getElem_toArray, List.getElem_cons_succ, List.getElem_cons_zero, List.setIfInBounds_toArray, List.set_cons_zero, List.set_cons_succ]
      refine wpAnyH_take (i := 5) (v := ?_) rfl (by kernel_rfl) (by kernel_rfl) (by kernel_rfl) (fun _ _ _ h => h) (Or.inl ⟨by rfl, ?_⟩) (by assumption) ?_
      rotate_left
      · intro Wq hSw
        obtain ⟨k0, k1⟩ := ptRow_at (HM.out.below hSw) him HE.out
        clear hSw
        go_simp
        all_goals (with_reducible rfl)
      try simp only [Act.put, List.getElem_toArray, List.getElem_cons_succ, List.getElem_cons_zero, List.setIfInBounds_toArray, List.set_cons_zero, List.set_cons_succ]
      refine wpAnyH_take (i := 6) (v := ?_) rfl (by kernel_rfl) (by kernel_rfl) (by kernel_rfl) (fun _ _ _ h => h) (Or.inl ⟨by rfl, ?_⟩) (by assumption) ?_
      rotate_left
      · intro Wq hSw
        clear hSw
        go_simp
        all_goals (with_reducible rfl)
      try simp only [Act.put, List.getElem_toArray, List.getElem_cons_succ, List.getElem_cons_zero, List.setIfInBounds_toArray, List.set_cons_zero, List.set_cons_succ]
      refine wpAnyH_take (i := 7) (v := ?_) rfl (by kernel_rfl) (by kernel_rfl) (by kernel_rfl) (fun _ _ _ h => h) (Or.inl ⟨by rfl, ?_⟩) (by assumption) ?_
      rotate_left
      · intro Wq hSw
        have m1 := M1.out
        have m3 := M3.out
        clear hSw
        go_simp
        all_goals (with_reducible rfl)
      try simp only [Act.put, List.getElem_toArray, List.getElem_cons_succ, List.getElem_cons_zero, List.setIfInBounds_toArray, List.set_cons_zero, List.set_cons_succ]
      refine wpAnyH_take (i := 8) (v := ?_) rfl (by kernel_rfl) (by kernel_rfl) (by kernel_rfl) (fun _ _ _ h => h) (Or.inl ⟨by rfl, ?_⟩) (by assumption) ?_
      rotate_left
      · intro Wq hSw
        clear hSw
        go_simp
        all_goals (with_reducible rfl)
      try simp only [Act.put, List.getElem_toArray, List.getElem_cons_succ, List.getElem_cons_zero, List.setIfInBounds_toArray, List.set_cons_zero, List.set_cons_succ]
      refine wpAnyH_take (i := 9) (v := ?_) rfl (by kernel_rfl) (by kernel_rfl) (by kernel_rfl) (fun _ _ _ h => h) (Or.inl ⟨by rfl, ?_⟩) (by assumption) ?_
      rotate_left
      · intro Wq hSw
        clear hSw
        go_simp
        all_goals (with_reducible rfl)
      try simp only [Act.put, List.getElem_toArray, List.getElem_cons_succ, List.getElem_cons_zero, List.setIfInBounds_toArray, List.set_cons_zero, List.set_cons_succ]
      refine wpAnyH_take (i := 10) (v := ?_) rfl (by kernel_rfl) (by kernel_rfl) (by kernel_rfl) (fun _ _ _ h => h) (Or.inl ⟨by rfl, ?_⟩) (by assumption) ?_
      rotate_left
      · intro Wq hSw
        have b1 : ((i : Int) < (m.length : Int)) = True := eq_true (by omega)
        have d1 : (i < m.length) = True := eq_true him
        have c1 : ((0 : Int) ≤ (i : Int)) = True := eq_true (by omega)
        clear hSw
        go_simp
        all_goals (with_reducible rfl)
      try simp only [Act.put, List.getElem_toArray, List.getElem_cons_succ, List.getElem_cons_zero, List.setIfInBounds_toArray, List.set_cons_zero, List.set_cons_succ]
      refine wpAnyH_take (i := 11) (v := ?_) rfl (by kernel_rfl) (by kernel_rfl) (by kernel_rfl) (fun _ _ _ h => h) (Or.inl ⟨by rfl, ?_⟩) (by assumption) ?_
      rotate_left
      · intro Wq hSw
        clear hSw
        go_simp
        all_goals (with_reducible rfl)
      try simp only [Act.put, List.getElem_toArray, List.getElem_cons_succ, List.getElem_cons_zero, List.setIfInBounds_toArray, List.set_cons_zero, List.set_cons_succ]
      refine wpAnyH_take (i := 12) (v := ?_) rfl (by kernel_rfl) (by kernel_rfl) (by kernel_rfl) (fun _ _ _ h => h) (Or.inl ⟨by rfl, ?_⟩) (by assumption) ?_
      rotate_left
      · intro Wq hSw
        obtain ⟨k0, k1⟩ := ptRow_at (HM.out.below hSw) him HE.out
        clear hSw
        go_simp
        all_goals (with_reducible rfl)
      try simp only [Act.put, List.getElem_toArray, List.getElem_cons_succ, List.getElem_cons_zero, List.setIfInBounds_toArray, List.set_cons_zero, List.set_cons_succ]
      refine wpAnyH_take (i := 13) (v := ?_) rfl (by kernel_rfl) (by kernel_rfl) (by kernel_rfl) (fun _ _ _ h => h) (Or.inl ⟨by rfl, ?_⟩) (by assumption) ?_
      rotate_left
      · intro Wq hSw
        clear hSw
        go_simp
        all_goals (with_reducible rfl)
      try simp only [Act.put, List.getElem_toArray, List.getElem_cons_succ, List.getElem_cons_zero, List.setIfInBounds_toArray, List.set_cons_zero, List.set_cons_succ]
      refine wpAnyH_take (i := 14) (v := ?_) rfl (by kernel_rfl) (by kernel_rfl) (by kernel_rfl) (fun _ _ _ h => h) (Or.inl ⟨by rfl, ?_⟩) (by assumption) ?_
      rotate_left
      · intro Wq hSw
        have m2 := M2.out
        have m4 := M4.out
        clear hSw
        go_simp
        all_goals (with_reducible rfl)
      try simp only [Act.put, List.getElem_toArray, List.getElem_cons_succ, List.getElem_cons_zero, List.setIfInBounds_toArray, List.set_cons_zero, List.set_cons_succ]
      refine wpAnyH_take (i := 15) (v := ?_) rfl (by kernel_rfl) (by kernel_rfl) (by kernel_rfl) (fun _ _ _ h => h) (Or.inl ⟨by rfl, ?_⟩) (by assumption) ?_
      rotate_left
      · intro Wq hSw
        clear hSw
        go_simp
        all_goals (with_reducible rfl)
      try simp only [Act.put, List.getElem_toArray, List.getElem_cons_succ, List.getElem_cons_zero, List.setIfInBounds_toArray, List.set_cons_zero, List.set_cons_succ]
      refine r1 (i := 16) rfl (fun K hK => ?_)
      go_simp
      refine hK.out _ _ (bl_alloc hHeld _) (fun hHeld2 => ?_)
      clear hK K hHeld
      have hHeld := hHeld2
      clear hHeld2
      try simp only [Act.put, List.getElem_toArray, List.getElem_cons_succ, List.getElem_cons_zero, List.setIfInBounds_toArray, List.set_cons_zero, List.set_cons_succ]
      refine r1 (i := 17) rfl (fun K hK => ?_)
      refine app_pts_wp Try.underlying23 info_eseg (L := [⟨sx + (n : Int), sy + (n : Int)⟩]) (.tmp 115) (.tmp 131) rfl rfl (HO1.out.alloc _) rfl rfl (ptRow_new _ ⟨sx + (n : Int), sy + (n : Int)⟩ _) (fun h => by cases h) ?lim (fun v2 w5 hO2 => ?_)
      case lim => have := HLn.out; simp only [List.length_singleton]; omega
      have HO2 := Lib.hid (op_congr8 hO2 HSn.out)
      clear hO2
      refine hK.out _ _ HO2.out.hb (fun hHeld2 => ?_)
      clear hK K hHeld HO1 HO
      have hHeld := hHeld2
      clear hHeld2
      try simp only [Act.put, List.getElem_toArray, List.getElem_cons_succ, List.getElem_cons_zero, List.setIfInBounds_toArray, List.set_cons_zero, List.set_cons_succ]
      refine wpAnyH_take (i := 18) (v := ?_) rfl (by kernel_rfl) (by kernel_rfl) (by kernel_rfl) (fun _ _ _ h => h) (Or.inl ⟨by rfl, ?_⟩) (by assumption) ?_
      rotate_left
      · intro Wq hSw
        clear hSw
        go_simp
        all_goals (with_reducible rfl)
      try simp only [Act.put, List.getElem_toArray, List.getElem_cons_succ, List.getElem_cons_zero, List.setIfInBounds_toArray, List.set_cons_zero, List.set_cons_succ]
      refine wpAnyH_done (by kernel_rfl) ?_ _
      obtain ⟨m1, m2, m3, m4⟩ := wnum (i := i) (by omega)
      go_wp2_with fail
      clear m1 m2 m3 m4
      exact ⟨⟨i + 1, him, by rw [Int.natCast_add]; rfl, HO2.out, HIn2.out⟩, by simp [intOf]; omega⟩
    · obtain rfl : i = m.length := by omega
      have q1 : ((m.length : Int) < (m.length : Int)) = False := eq_false (by omega)
      rw [List.take_length] at HO HIn
      obtain ⟨c, it, g, hj, hJ⟩ := join_is (k := k) (by omega) HR.out HIn.out
      rw [HS.out] at hJ
      dsimp only at hJ
      obtain ⟨nk, hnk⟩ : ∃ z, n + k = z := ⟨_, rfl⟩
      rw [hnk] at hj
      have HJ := Lib.hid hJ
      have hjl : (joinS n l m).length ≤ 10000 := by unfold joinS; rw [List.length_append, List.length_map]; omega
      obtain ⟨aj, cj, ev, -, hLj, -⟩ := HO.out.pts
      subst ev
      have HR3 := Lib.hid (fun W h => rings_at hj aj cj W (hLj.below h) (.inl (by omega)) hjl)
      have HZc := Lib.hid hj
      replace HA := Lib.hid (HA.out.below HBO.out)
      replace HBb := Lib.hid (HBb.out.below HBO.out)
      replace HB := Lib.hid (bl_trans HB.out HBO.out)
      clear hj hJ hLj HO HBO
      have N1 := Lib.hid (show wrap64 ((n : Int) + (k : Int)) = (nk : Int) by unfold wrap64; omega)
      have N2 := Lib.hid (show IntKind.i64.wrap ((n : Int) + (k : Int)) = (nk : Int) by rw [IntWalk.i64_in _ (by omega)]; omega)
      have m1 := N1.out
      have m2 := N2.out
      go_wp2_with fail
      clear m1 m2 N1 N2
      (with_reducible refine (HR3.out _ (Below.refl _ _)).mono ?_); rintro e' w5 ⟨ac, cc, rfl, hrc, hcc, hnc, hb⟩
      have HC := Lib.hid hrc
      replace HA := Lib.hid (HA.out.below hb)
      replace HBb := Lib.hid (HBb.out.below hb)
      replace HB := Lib.hid (bl_trans HB.out hb)
      clear hb HR3 hrc
      have h4 := (rings_four HS.out).2.2
      rw [Int.toNat_natCast] at h4
      rcases HJ.out with ⟨rfl, rfl, rfl, rfl⟩ | ⟨rfl, rfl, rfl, rfl⟩ | ⟨rfl, rfl, rfl, rfl⟩ | ⟨rfl, rfl, hcd⟩
      · have N1 := Lib.hid (show wrap64 (at' + (l.length : Int)) = at' + (l.length : Int) by unfold wrap64; omega)
        have N2 := Lib.hid (show IntKind.i64.wrap (at' + (l.length : Int)) = at' + (l.length : Int) from IntWalk.i64_in _ (by omega))
        have m1 := N1.out
        have m2 := N2.out
        clear h4
        go_wp2_with fail
        (with_reducible refine (KN.out _).mono ?_); rintro e' wk ⟨rfl, hbk⟩
        have HZ := Lib.hid (bl_trans HB.out hbk)
        clear hbk
        go_wp2_with fail
        go_ret
        exact ⟨rfl, HZ.out⟩
      · have N1 := Lib.hid (show wrap64 (at' + (n : Int)) = at' + (n : Int) by unfold wrap64; omega)
        have N2 := Lib.hid (show IntKind.i64.wrap (at' + (n : Int)) = at' + (n : Int) from IntWalk.i64_in _ (by omega))
        have m1 := N1.out
        have m2 := N2.out
        clear h4
        go_wp2_with fail
        (with_reducible refine (KN.out _).mono ?_); rintro e' wk ⟨rfl, hbk⟩
        have HZ := Lib.hid (bl_trans HB.out hbk)
        clear hbk
        go_wp2_with fail
        go_ret
        exact ⟨rfl, HZ.out⟩
      · clear h4
        go_wp2_with fail
        (with_reducible refine (KN.out _).mono ?_); rintro e' wk ⟨rfl, hbk⟩
        have HZ := Lib.hid (bl_trans HB.out hbk)
        clear hbk
        go_wp2_with fail
        go_ret
        exact ⟨rfl, HZ.out⟩
      · clear h4
        obtain ⟨za, za2⟩ := HZa.out
        obtain ⟨zb, zb2⟩ := HZb.out
        have HZr := Lib.hid zb2
        have HXn := Lib.hid (rings_in HS.out)
        have HAt := Lib.hid (fun i (h : i < b.length) h' => shR_at (n := n) (a := a) (b := b) (i := i) h h')
        have HTk : Hid (c.take a.length = a) := by unfold Hid; rw [hcd, List.take_left]
        have hcl : c.length = a.length + b.length := by rw [hcd]; unfold shR; rw [List.length_append, List.length_map]
        have HCl := Lib.hid hcl
        have HCd := Lib.hid hcd.symm
        clear za2 zb2 hcd
        have N1 := Lib.hid (show wrap64 ((a.length : Int) + (b.length : Int)) = (c.length : Int) by unfold wrap64; omega)
        have N2 := Lib.hid (show IntKind.i64.wrap ((a.length : Int) + (b.length : Int)) = (c.length : Int) by rw [IntWalk.i64_in _ (by omega)]; omega)
        have j2 : ((c.length : Int) != (c.length : Int)) = false := by simp
        have m1 := N1.out
        have m2 := N2.out
        clear hcl
        go_wp2_with fail
        clear m1 m2 N1 N2
        obtain ⟨W0, eW⟩ : ∃ W, W = w5 := ⟨_, rfl⟩
        subst eW
        go_loopw [20] (fun iv W => ∃ i : Nat, i ≤ b.length ∧ iv = .int .i64 i ∧ Below W0.heap.size W0 W) (fun iv _ => b.length - (intOf iv).toNat)
        case atStart => exact ⟨0, Nat.zero_le _, rfl, Below.refl _ _⟩
        case round =>
          obtain ⟨i, hi8, rfl, hBi⟩ := hrel
          have HBi := Lib.hid hBi
          clear hBi
          by_cases hib : i < b.length
          · have t1 : ((i : Int) < (b.length : Int)) = True := eq_true (by omega)
            have t2 : (i < b.length) = True := eq_true hib
            have t3 : ((0 : Int) ≤ (i : Int)) = True := eq_true (by omega)
            obtain ⟨gb, ob, rfl⟩ := HBb.out.some (by omega)
            obtain ⟨gc, oc, rfl⟩ := HC.out.some (by have := HCl.out; omega)
            obtain ⟨R, hR⟩ : ∃ R, b[i] = R := ⟨_, rfl⟩
            have hRl : R.length ≤ 10000 := HZr.out R (by rw [← hR]; exact List.getElem_mem _)
            have HRx := Lib.hid (fun z hz => HXn.out R (by rw [← hR]; exact List.getElem_mem _) z hz)
            obtain ⟨p, hp⟩ : ∃ p, a.length + i = p := ⟨_, rfl⟩
            have hci : p < c.length := by have := HCl.out; omega
            have hM2 : c[p] = R.map fun x => x + (n : Int) := by
              subst hp
              have h := HCd.out
              subst h
              rw [HAt.out i hib hci, hR]
            obtain ⟨ar, cr, krw, -, hIR, -⟩ := HBb.out.at hib hR
            obtain ⟨az, cs, ksw, -, hIS, -⟩ := HC.out.at hci hM2
            rw [List.length_map] at ksw
            have HKr := Lib.hid krw
            have HKs := Lib.hid ksw
            have HIR := Lib.hid hIR
            have HIS := Lib.hid hIS
            clear hR hM2 krw ksw hIR hIS
            have N1 := Lib.hid (show wrap64 ((a.length : Int) + (i : Int)) = (p : Int) by unfold wrap64; omega)
            have N2 := Lib.hid (show IntKind.i64.wrap ((a.length : Int) + (i : Int)) = (p : Int) by rw [IntWalk.i64_in _ (by omega)]; omega)
            have T4 := Lib.hid (show ((p : Int) < (c.length : Int)) = True from eq_true (by omega))
            have T5 := Lib.hid (show (p < c.length) = True from eq_true (by omega))
            have T6 := Lib.hid (show ((0 : Int) ≤ (p : Int)) = True from eq_true (by omega))
            go_upto_region 28 with (fail)
            obtain ⟨WC, eW⟩ : ∃ W, W = wr := ⟨_, rfl⟩
            subst eW
            go_cut [217] (fun u W => u = .bool false ∧ Below WC.heap.size WC W)
            case first =>
              refine wp_region_held_drew (S := fun V => Below WC.heap.size WC V) (by kernel_rfl) ?_ (fun hHeld => ?_)
              · exact bel_drew WC
              revert hHeld
              generalize World.drew _ = W1
              intro hHeld 
              refine wpAnyH_take (i := 0) (v := ?_) rfl (by kernel_rfl) (by kernel_rfl) (by kernel_rfl) (fun _ _ _ h => h) (Or.inl ⟨by rfl, ?_⟩) (by assumption) ?_
              rotate_left
              · intro Wq hSw
                clear hSw
                go_simp
                all_goals (with_reducible rfl)
              try simp only [Act.put, List.getElem_toArray, List.getElem_cons_zero, List.setIfInBounds_toArray, List.set_cons_zero, List.set_cons_succ]
              refine wpAnyH_take (i := 1) (v := ?_) rfl (by kernel_rfl) (by kernel_rfl) (by kernel_rfl) (fun _ _ _ h => h) (Or.inl ⟨by rfl, ?_⟩) (by assumption) ?_
              rotate_left
              · intro Wq hSw
                clear hSw
                go_simp
                all_goals (with_reducible rfl)
              try simp only [Act.put, List.getElem_toArray, List.getElem_cons_succ, List.getElem_cons_zero, List.setIfInBounds_toArray, List.set_cons_zero, List.set_cons_succ]
              refine wpAnyH_take (i := 2) (v := ?_) rfl (by kernel_rfl) (by kernel_rfl) (by kernel_rfl) (fun _ _ _ h => h) (Or.inl ⟨by rfl, ?_⟩) (by assumption) ?_
              rotate_left
              · intro Wq hSw
                clear hSw
                go_simp
                all_goals (with_reducible rfl)
              try simp only [Act.put, List.getElem_toArray, List.getElem_cons_succ, List.getElem_cons_zero, List.setIfInBounds_toArray, List.set_cons_zero, List.set_cons_succ]
              refine wpAnyH_take (i := 3) (v := ?_) rfl (by kernel_rfl) (by kernel_rfl) (by kernel_rfl) (fun _ _ _ h => h) (Or.inl ⟨by rfl, ?_⟩) (by assumption) ?_
              rotate_left
              · intro Wq hSw
                clear hSw
                go_simp
                all_goals (with_reducible rfl)
              try simp only [Act.put, List.getElem_toArray, List.getElem_cons_succ, List.getElem_cons_zero, List.setIfInBounds_toArray, List.set_cons_zero, List.set_cons_succ]
              refine wpAnyH_take (i := 4) (v := ?_) rfl (by kernel_rfl) (by kernel_rfl) (by kernel_rfl) (fun _ _ _ h => h) (Or.inl ⟨by rfl, ?_⟩) (by assumption) ?_
              rotate_left
              · intro Wq hSw
                have m1 := N1.out
                have m2 := N2.out
                clear hSw
                go_simp
                all_goals (with_reducible rfl)
              try simp only [Act.put, List.getElem_toArray, List.getElem_cons_succ, List.getElem_cons_zero, List.setIfInBounds_toArray, List.set_cons_zero, List.set_cons_succ]
              refine wpAnyH_take (i := 5) (v := ?_) rfl (by kernel_rfl) (by kernel_rfl) (by kernel_rfl) (fun _ _ _ h => h) (Or.inl ⟨by rfl, ?_⟩) (by assumption) ?_
              rotate_left
              · intro Wq hSw
                have m4 := T4.out
                have m5 := T5.out
                have m6 := T6.out
                clear hSw
                go_simp
                all_goals (with_reducible rfl)
              try simp only [Act.put, List.getElem_toArray, List.getElem_cons_succ, List.getElem_cons_zero, List.setIfInBounds_toArray, List.set_cons_zero, List.set_cons_succ]
              refine wpAnyH_take (i := 6) (v := ?_) rfl (by kernel_rfl) (by kernel_rfl) (by kernel_rfl) (fun _ _ _ h => h) (Or.inl ⟨by rfl, ?_⟩) (by assumption) ?_
              rotate_left
              · intro Wq hSw
                have k5 := ((bl_trans HBi.out hSw).cell (cell_lt HKs.out)).trans HKs.out
                clear hSw
                go_simp
                all_goals (with_reducible rfl)
              try simp only [Act.put, List.getElem_toArray, List.getElem_cons_succ, List.getElem_cons_zero, List.setIfInBounds_toArray, List.set_cons_zero, List.set_cons_succ]
              refine wpAnyH_take (i := 7) (v := ?_) rfl (by kernel_rfl) (by kernel_rfl) (by kernel_rfl) (fun _ _ _ h => h) (Or.inl ⟨by rfl, ?_⟩) (by assumption) ?_
              rotate_left
              · intro Wq hSw
                clear hSw
                go_simp
                all_goals (with_reducible rfl)
              try simp only [Act.put, List.getElem_toArray, List.getElem_cons_succ, List.getElem_cons_zero, List.setIfInBounds_toArray, List.set_cons_zero, List.set_cons_succ]
              refine wpAnyH_take (i := 8) (v := ?_) rfl (by kernel_rfl) (by kernel_rfl) (by kernel_rfl) (fun _ _ _ h => h) (Or.inl ⟨by rfl, ?_⟩) (by assumption) ?_
              rotate_left
              · intro Wq hSw
                clear hSw
                go_simp
                all_goals (with_reducible rfl)
              try simp only [Act.put, List.getElem_toArray, List.getElem_cons_succ, List.getElem_cons_zero, List.setIfInBounds_toArray, List.set_cons_zero, List.set_cons_succ]
              refine wpAnyH_take (i := 9) (v := ?_) rfl (by kernel_rfl) (by kernel_rfl) (by kernel_rfl) (fun _ _ _ h => h) (Or.inl ⟨by rfl, ?_⟩) (by assumption) ?_
              rotate_left
              · intro Wq hSw
                clear hSw
                go_simp
                all_goals (with_reducible rfl)
              try simp only [Act.put, List.getElem_toArray, List.getElem_cons_succ, List.getElem_cons_zero, List.setIfInBounds_toArray, List.set_cons_zero, List.set_cons_succ]
              refine wpAnyH_take (i := 10) (v := ?_) rfl (by kernel_rfl) (by kernel_rfl) (by kernel_rfl) (fun _ _ _ h => h) (Or.inl ⟨by rfl, ?_⟩) (by assumption) ?_
              rotate_left
              · intro Wq hSw
                have m4 := t1
                have m5 := t2
                have m6 := t3
                clear hSw
                go_simp
                all_goals (with_reducible rfl)
              try simp only [Act.put, List.getElem_toArray, List.getElem_cons_succ, List.getElem_cons_zero, List.setIfInBounds_toArray, List.set_cons_zero, List.set_cons_succ]
              refine wpAnyH_take (i := 11) (v := ?_) rfl (by kernel_rfl) (by kernel_rfl) (by kernel_rfl) (fun _ _ _ h => h) (Or.inl ⟨by rfl, ?_⟩) (by assumption) ?_
              rotate_left
              · intro Wq hSw
                have k5 := ((bl_trans HBi.out hSw).cell (cell_lt HKr.out)).trans HKr.out
                clear hSw
                go_simp
                all_goals (with_reducible rfl)
              try simp only [Act.put, List.getElem_toArray, List.getElem_cons_succ, List.getElem_cons_zero, List.setIfInBounds_toArray, List.set_cons_zero, List.set_cons_succ]
              refine wpAnyH_take (i := 12) (v := ?_) rfl (by kernel_rfl) (by kernel_rfl) (by kernel_rfl) (fun _ _ _ h => h) (Or.inl ⟨by rfl, ?_⟩) (by assumption) ?_
              rotate_left
              · intro Wq hSw
                clear hSw
                go_simp
                all_goals (with_reducible rfl)
              try simp only [Act.put, List.getElem_toArray, List.getElem_cons_succ, List.getElem_cons_zero, List.setIfInBounds_toArray, List.set_cons_zero, List.set_cons_succ]
              refine wpAnyH_take (i := 13) (v := ?_) rfl (by kernel_rfl) (by kernel_rfl) (by kernel_rfl) (fun _ _ _ h => h) (Or.inl ⟨by rfl, ?_⟩) (by assumption) ?_
              rotate_left
              · intro Wq hSw
                have m7 : ((R.length : Int) != (R.length : Int)) = false := by simp
                clear hSw
                go_simp
                all_goals (with_reducible rfl)
              try simp only [Act.put, List.getElem_toArray, List.getElem_cons_succ, List.getElem_cons_zero, List.setIfInBounds_toArray, List.set_cons_zero, List.set_cons_succ]
              refine wpAnyH_done (by kernel_rfl) ?_ _
              go_wp2_with fail
              go_meet
              case rel => exact ⟨rfl, hHeld⟩
            case rest =>
            obtain ⟨rfl, hbc⟩ := hcut
            replace HBi := Lib.hid (bl_trans HBi.out hbc)
            clear hbc
            go_wp2_with fail
            go_loopw [21] (fun jv W => ∃ j : Nat, j ≤ R.length ∧ jv = .int .i64 j ∧ Below W0.heap.size W0 W) (fun jv _ => R.length - (intOf jv).toNat)
            case atStart => exact ⟨0, Nat.zero_le _, rfl, HBi.out⟩
            case round =>
              obtain ⟨j, hj8, rfl, hBj⟩ := hrel
              clear HBi
              have HBi := Lib.hid hBj
              clear hBj
              have kr := (HBi.out.cell (cell_lt HKr.out)).trans HKr.out
              by_cases hjR : j < R.length
              · have t7 : ((j : Int) < (R.length : Int)) = True := eq_true (by omega)
                have t8 : (j < R.length) = True := eq_true hjR
                have t9 : ((0 : Int) ≤ (j : Int)) = True := eq_true (by omega)
                obtain ⟨gr, or, rfl⟩ := HIR.out.some (by omega)
                obtain ⟨gs, os, rfl⟩ := HIS.out.some (by rw [List.length_map]; omega)
                obtain ⟨z, hz⟩ : ∃ z, R[j] = z := ⟨_, rfl⟩
                have hzb := HRx.out z (by rw [← hz]; exact List.getElem_mem _)
                have hz2 : (R.map fun x => x + (n : Int))[j]'(by rw [List.length_map]; exact hjR) = z + (n : Int) := by rw [List.getElem_map, hz]
                have HZ1 := Lib.hid (fun W (h : Below W0.heap.size W0 W) => intRow_at (HIR.out.below h) hjR hz)
                have HZ2 := Lib.hid (fun W (h : Below W0.heap.size W0 W) => intRow_at (HIS.out.below h) (by rw [List.length_map]; exact hjR) hz2)
                have M1 := Lib.hid (show wrap64 (z + (n : Int)) = z + (n : Int) by unfold wrap64; omega)
                have M3 := Lib.hid (show IntKind.i64.wrap (z + (n : Int)) = z + (n : Int) from IntWalk.i64_in _ (by omega))
                have NJ := Lib.hid (wnum (i := j) (by omega))
                clear hz hz2 hzb
                go_upto_region 33 with (fail)
                obtain ⟨WC, eW⟩ : ∃ W, W = wr := ⟨_, rfl⟩
                subst eW
                clear kr
                go_cut [246] (fun u W => u = .bool false ∧ Below WC.heap.size WC W)
                case first =>
                  refine wp_region_held_drew (S := fun V => Below WC.heap.size WC V) (by kernel_rfl) ?_ (fun hHeld => ?_)
                  · exact bel_drew WC
                  revert hHeld
                  generalize World.drew _ = W1
                  intro hHeld 
                  refine wpAnyH_take (i := 0) (v := ?_) rfl (by kernel_rfl) (by kernel_rfl) (by kernel_rfl) (fun _ _ _ h => h) (Or.inl ⟨by rfl, ?_⟩) (by assumption) ?_
                  rotate_left
                  · intro Wq hSw
                    clear hSw
                    go_simp
                    all_goals (with_reducible rfl)
                  try simp only [Act.put, List.getElem_toArray, List.getElem_cons_zero, List.setIfInBounds_toArray, List.set_cons_zero, List.set_cons_succ]
                  refine wpAnyH_take (i := 1) (v := ?_) rfl (by kernel_rfl) (by kernel_rfl) (by kernel_rfl) (fun _ _ _ h => h) (Or.inl ⟨by rfl, ?_⟩) (by assumption) ?_
                  rotate_left
                  · intro Wq hSw
                    clear hSw
                    go_simp
                    all_goals (with_reducible rfl)
                  try simp only [Act.put, List.getElem_toArray, List.getElem_cons_succ, List.getElem_cons_zero, List.setIfInBounds_toArray, List.set_cons_zero, List.set_cons_succ]
                  refine wpAnyH_take (i := 2) (v := ?_) rfl (by kernel_rfl) (by kernel_rfl) (by kernel_rfl) (fun _ _ _ h => h) (Or.inl ⟨by rfl, ?_⟩) (by assumption) ?_
                  rotate_left
                  · intro Wq hSw
                    clear hSw
                    go_simp
                    all_goals (with_reducible rfl)
                  try simp only [Act.put, List.getElem_toArray, List.getElem_cons_succ, List.getElem_cons_zero, List.setIfInBounds_toArray, List.set_cons_zero, List.set_cons_succ]
                  refine wpAnyH_take (i := 3) (v := ?_) rfl (by kernel_rfl) (by kernel_rfl) (by kernel_rfl) (fun _ _ _ h => h) (Or.inl ⟨by rfl, ?_⟩) (by assumption) ?_
                  rotate_left
                  · intro Wq hSw
                    clear hSw
                    go_simp
                    all_goals (with_reducible rfl)
                  try simp only [Act.put, List.getElem_toArray, List.getElem_cons_succ, List.getElem_cons_zero, List.setIfInBounds_toArray, List.set_cons_zero, List.set_cons_succ]
                  refine wpAnyH_take (i := 4) (v := ?_) rfl (by kernel_rfl) (by kernel_rfl) (by kernel_rfl) (fun _ _ _ h => h) (Or.inl ⟨by rfl, ?_⟩) (by assumption) ?_
                  rotate_left
                  · intro Wq hSw
                    have m1 := N1.out
                    have m2 := N2.out
                    clear hSw
                    go_simp
                    all_goals (with_reducible rfl)
                  try simp only [Act.put, List.getElem_toArray, List.getElem_cons_succ, List.getElem_cons_zero, List.setIfInBounds_toArray, List.set_cons_zero, List.set_cons_succ]
                  refine wpAnyH_take (i := 5) (v := ?_) rfl (by kernel_rfl) (by kernel_rfl) (by kernel_rfl) (fun _ _ _ h => h) (Or.inl ⟨by rfl, ?_⟩) (by assumption) ?_
                  rotate_left
                  · intro Wq hSw
                    have m4 := T4.out
                    have m5 := T5.out
                    have m6 := T6.out
                    clear hSw
                    go_simp
                    all_goals (with_reducible rfl)
                  try simp only [Act.put, List.getElem_toArray, List.getElem_cons_succ, List.getElem_cons_zero, List.setIfInBounds_toArray, List.set_cons_zero, List.set_cons_succ]
                  refine wpAnyH_take (i := 6) (v := ?_) rfl (by kernel_rfl) (by kernel_rfl) (by kernel_rfl) (fun _ _ _ h => h) (Or.inl ⟨by rfl, ?_⟩) (by assumption) ?_
                  rotate_left
                  · intro Wq hSw
                    have k5 := ((bl_trans HBi.out hSw).cell (cell_lt HKs.out)).trans HKs.out
                    clear hSw
                    go_simp
                    all_goals (with_reducible rfl)
                  try simp only [Act.put, List.getElem_toArray, List.getElem_cons_succ, List.getElem_cons_zero, List.setIfInBounds_toArray, List.set_cons_zero, List.set_cons_succ]
                  refine wpAnyH_take (i := 7) (v := ?_) rfl (by kernel_rfl) (by kernel_rfl) (by kernel_rfl) (fun _ _ _ h => h) (Or.inl ⟨by rfl, ?_⟩) (by assumption) ?_
                  rotate_left
                  · intro Wq hSw
                    clear hSw
                    go_simp
                    all_goals (with_reducible rfl)
                  try simp only [Act.put, List.getElem_toArray, List.getElem_cons_succ, List.getElem_cons_zero, List.setIfInBounds_toArray, List.set_cons_zero, List.set_cons_succ]
                  refine wpAnyH_take (i := 8) (v := ?_) rfl (by kernel_rfl) (by kernel_rfl) (by kernel_rfl) (fun _ _ _ h => h) (Or.inl ⟨by rfl, ?_⟩) (by assumption) ?_
                  rotate_left
                  · intro Wq hSw
                    have m4 := t7
                    have m5 := t8
                    have m6 := t9
                    clear hSw
                    go_simp
                    all_goals (with_reducible rfl)
                  try simp only [Act.put, List.getElem_toArray, List.getElem_cons_succ, List.getElem_cons_zero, List.setIfInBounds_toArray, List.set_cons_zero, List.set_cons_succ]
                  refine wpAnyH_take (i := 9) (v := ?_) rfl (by kernel_rfl) (by kernel_rfl) (by kernel_rfl) (fun _ _ _ h => h) (Or.inl ⟨by rfl, ?_⟩) (by assumption) ?_
                  rotate_left
                  · intro Wq hSw
                    have k5 := HZ2.out _ (bl_trans HBi.out hSw)
                    clear hSw
                    go_simp
                    all_goals (with_reducible rfl)
                  try simp only [Act.put, List.getElem_toArray, List.getElem_cons_succ, List.getElem_cons_zero, List.setIfInBounds_toArray, List.set_cons_zero, List.set_cons_succ]
                  refine wpAnyH_take (i := 10) (v := ?_) rfl (by kernel_rfl) (by kernel_rfl) (by kernel_rfl) (fun _ _ _ h => h) (Or.inl ⟨by rfl, ?_⟩) (by assumption) ?_
                  rotate_left
                  · intro Wq hSw
                    clear hSw
                    go_simp
                    all_goals (with_reducible rfl)
                  try simp only [Act.put, List.getElem_toArray, List.getElem_cons_succ, List.getElem_cons_zero, List.setIfInBounds_toArray, List.set_cons_zero, List.set_cons_succ]
                  refine wpAnyH_take (i := 11) (v := ?_) rfl (by kernel_rfl) (by kernel_rfl) (by kernel_rfl) (fun _ _ _ h => h) (Or.inl ⟨by rfl, ?_⟩) (by assumption) ?_
                  rotate_left
                  · intro Wq hSw
                    have m4 := t1
                    have m5 := t2
                    have m6 := t3
                    clear hSw
                    go_simp
                    all_goals (with_reducible rfl)
                  try simp only [Act.put, List.getElem_toArray, List.getElem_cons_succ, List.getElem_cons_zero, List.setIfInBounds_toArray, List.set_cons_zero, List.set_cons_succ]
                  refine wpAnyH_take (i := 12) (v := ?_) rfl (by kernel_rfl) (by kernel_rfl) (by kernel_rfl) (fun _ _ _ h => h) (Or.inl ⟨by rfl, ?_⟩) (by assumption) ?_
                  rotate_left
                  · intro Wq hSw
                    have m4 := t1
                    have m5 := t2
                    have m6 := t3
                    clear hSw
                    go_simp
                    all_goals (with_reducible rfl)
                  try simp only [Act.put, List.getElem_toArray, List.getElem_cons_succ, List.getElem_cons_zero, List.setIfInBounds_toArray, List.set_cons_zero, List.set_cons_succ]
                  refine wpAnyH_take (i := 13) (v := ?_) rfl (by kernel_rfl) (by kernel_rfl) (by kernel_rfl) (fun _ _ _ h => h) (Or.inl ⟨by rfl, ?_⟩) (by assumption) ?_
                  rotate_left
                  · intro Wq hSw
                    have k5 := ((bl_trans HBi.out hSw).cell (cell_lt HKr.out)).trans HKr.out
                    clear hSw
                    go_simp
                    all_goals (with_reducible rfl)
                  try simp only [Act.put, List.getElem_toArray, List.getElem_cons_succ, List.getElem_cons_zero, List.setIfInBounds_toArray, List.set_cons_zero, List.set_cons_succ]
                  refine wpAnyH_take (i := 14) (v := ?_) rfl (by kernel_rfl) (by kernel_rfl) (by kernel_rfl) (fun _ _ _ h => h) (Or.inl ⟨by rfl, ?_⟩) (by assumption) ?_
                  rotate_left
                  · intro Wq hSw
                    clear hSw
                    go_simp
                    all_goals (with_reducible rfl)
                  try simp only [Act.put, List.getElem_toArray, List.getElem_cons_succ, List.getElem_cons_zero, List.setIfInBounds_toArray, List.set_cons_zero, List.set_cons_succ]
                  refine wpAnyH_take (i := 15) (v := ?_) rfl (by kernel_rfl) (by kernel_rfl) (by kernel_rfl) (fun _ _ _ h => h) (Or.inl ⟨by rfl, ?_⟩) (by assumption) ?_
                  rotate_left
                  · intro Wq hSw
                    have m4 := t7
                    have m5 := t8
                    have m6 := t9
                    clear hSw
                    go_simp
                    all_goals (with_reducible rfl)
                  try simp only [Act.put, List.getElem_toArray, List.getElem_cons_succ, List.getElem_cons_zero, List.setIfInBounds_toArray, List.set_cons_zero, List.set_cons_succ]
                  refine wpAnyH_take (i := 16) (v := ?_) rfl (by kernel_rfl) (by kernel_rfl) (by kernel_rfl) (fun _ _ _ h => h) (Or.inl ⟨by rfl, ?_⟩) (by assumption) ?_
                  rotate_left
                  · intro Wq hSw
                    have k5 := HZ1.out _ (bl_trans HBi.out hSw)
                    clear hSw
                    go_simp
                    all_goals (with_reducible rfl)
                  try simp only [Act.put, List.getElem_toArray, List.getElem_cons_succ, List.getElem_cons_zero, List.setIfInBounds_toArray, List.set_cons_zero, List.set_cons_succ]
                  refine wpAnyH_take (i := 17) (v := ?_) rfl (by kernel_rfl) (by kernel_rfl) (by kernel_rfl) (fun _ _ _ h => h) (Or.inl ⟨by rfl, ?_⟩) (by assumption) ?_
                  rotate_left
                  · intro Wq hSw
                    clear hSw
                    go_simp
                    all_goals (with_reducible rfl)
                  try simp only [Act.put, List.getElem_toArray, List.getElem_cons_succ, List.getElem_cons_zero, List.setIfInBounds_toArray, List.set_cons_zero, List.set_cons_succ]
                  refine wpAnyH_take (i := 18) (v := ?_) rfl (by kernel_rfl) (by kernel_rfl) (by kernel_rfl) (fun _ _ _ h => h) (Or.inl ⟨by rfl, ?_⟩) (by assumption) ?_
                  rotate_left
                  · intro Wq hSw
                    have m1 := M1.out
                    have m3 := M3.out
                    clear hSw
                    go_simp
                    all_goals (with_reducible rfl)
                  try simp only [Act.put, List.getElem_toArray, List.getElem_cons_succ, List.getElem_cons_zero, List.setIfInBounds_toArray, List.set_cons_zero, List.set_cons_succ]
                  refine wpAnyH_take (i := 19) (v := ?_) rfl (by kernel_rfl) (by kernel_rfl) (by kernel_rfl) (fun _ _ _ h => h) (Or.inl ⟨by rfl, ?_⟩) (by assumption) ?_
                  rotate_left
                  · intro Wq hSw
                    have m7 : ((z + (n : Int)) != (z + (n : Int))) = false := by simp
                    clear hSw
                    go_simp
                    all_goals (with_reducible rfl)
                  try simp only [Act.put, List.getElem_toArray, List.getElem_cons_succ, List.getElem_cons_zero, List.setIfInBounds_toArray, List.set_cons_zero, List.set_cons_succ]
                  refine wpAnyH_done (by kernel_rfl) ?_ _
                  go_wp2_with fail
                  go_meet
                  case rel => exact ⟨rfl, hHeld⟩
                case rest =>
                obtain ⟨rfl, hbc⟩ := hcut
                replace HBi := Lib.hid (bl_trans HBi.out hbc)
                clear hbc
                obtain ⟨m1, m2, m3, m4⟩ := NJ.out
                go_wp2_with fail
                clear m1 m2 m3 m4
                exact ⟨⟨j + 1, hjR, by rw [Int.natCast_add]; rfl, HBi.out⟩, by simp [intOf]; omega⟩
              · obtain rfl : j = R.length := by omega
                have t7 : ((R.length : Int) < (R.length : Int)) = False := eq_false (by omega)
                have NJ := Lib.hid (wnum (i := i) (by omega))
                obtain ⟨m1, m2, m3, m4⟩ := NJ.out
                go_wp2_with fail
                clear m1 m2 m3 m4
                exact ⟨⟨i + 1, hib, by rw [Int.natCast_add]; rfl, HBi.out⟩, by simp [intOf]; omega⟩
          · obtain rfl : i = b.length := by omega
            have t1 : ((b.length : Int) < (b.length : Int)) = False := eq_false (by omega)
            have HSm := Lib.hid (fun ad cp h1 => same_l a a ad aa cp ca a.length a.length _ (RowsAt.below h1 HBi.out) (HA.out.below HBi.out) rfl rfl HZa.out.1 HZa.out.2)
            simp only [decide_true] at HSm
            have s1 : ((a.length : Int) ≤ (cc : Int)) = True := eq_true (by have := HCl.out; omega)
            have s2 : (a.length ≤ cc) = True := eq_true (by have := HCl.out; omega)
            have s3 : ((0 : Int) ≤ (a.length : Int)) = True := eq_true (by omega)
            have HC2 : Hid (RowsAt W0 ac a) := by have := rows_take HC.out a.length; rwa [HTk.out] at this
            by_cases hc0 : 0 < c.length
            · obtain ⟨gc, oc, rfl⟩ := HC.out.some hc0
              clear HC HZa HZb
              go_wp2_with fail
              (with_reducible refine (HSm.out _ _ HC2.out).mono ?_); rintro e' w6 ⟨rfl, hb⟩
              replace HB := Lib.hid (bl_trans (bl_trans HB.out HBi.out) hb)
              clear hb HBi HSm HC2
              go_wp2_with fail
              (with_reducible refine (KN.out _).mono ?_); rintro e' wk ⟨rfl, hbk⟩
              have HZ := Lib.hid (bl_trans HB.out hbk)
              clear hbk
              go_wp2_with fail
              go_ret
              exact ⟨rfl, HZ.out⟩
            · obtain rfl : a = [] := List.eq_nil_of_length_eq_zero (by have := HCl.out; omega)
              clear HC HZa HZb HC2
              replace HSm := Lib.hid (fun ad cp => HSm.out ad cp (rows_none9 _ ad))
              simp only [List.length_nil] at HSm s1 s2 s3 hca hcc ⊢
              cases ac with
              | none =>
                obtain rfl := hnc rfl
                go_wp2_with fail
                (with_reducible refine (HSm.out _ _).mono ?_); rintro e' w6 ⟨rfl, hb⟩
                replace HB := Lib.hid (bl_trans (bl_trans HB.out HBi.out) hb)
                clear hb HBi HSm
                go_wp2_with fail
                (with_reducible refine (KN.out _).mono ?_); rintro e' wk ⟨rfl, hbk⟩
                have HZ := Lib.hid (bl_trans HB.out hbk)
                clear hbk
                go_wp2_with fail
                go_ret
                exact ⟨rfl, HZ.out⟩
              | some x =>
                go_wp2_with fail
                (with_reducible refine (HSm.out _ _).mono ?_); rintro e' w6 ⟨rfl, hb⟩
                replace HB := Lib.hid (bl_trans (bl_trans HB.out HBi.out) hb)
                clear hb HBi HSm
                go_wp2_with fail
                (with_reducible refine (KN.out _).mono ?_); rintro e' wk ⟨rfl, hbk⟩
                have HZ := Lib.hid (bl_trans HB.out hbk)
                clear hbk
                go_wp2_with fail
                go_ret
                exact ⟨rfl, HZ.out⟩
end Go.Proofs.Ytkidphekfnmhhaa
