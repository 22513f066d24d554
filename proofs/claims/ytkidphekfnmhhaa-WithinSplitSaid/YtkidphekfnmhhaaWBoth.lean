/-
  The law WithinBoth.
-/
import Derived.Test.YtkidphekfnmhhaaWBothMath
import Derived.Test.YtkidphekfnmhhaaWWays
namespace Go.Proofs.Ytkidphekfnmhhaa
open Go.RowKit

theorem u64mod9 (z : Int) (n : Nat) (h1 : 0 < n) (hn : n ≤ 100000) : ∃ r : Nat, r < n ∧ wrap64 ((IntKind.u64.wrap z).tmod (n : Int)) = (r : Int) := by
  have h0 : 0 ≤ IntKind.u64.wrap z := by rw [IntKind.wrap_u64]; exact Int.emod_nonneg _ (by omega)
  generalize IntKind.u64.wrap z = y at *
  rw [Int.tmod_eq_emod_of_nonneg h0]
  have h3 := Int.emod_nonneg y (show (n : Int) ≠ 0 by omega)
  have h4 := Int.emod_lt_of_pos y (show 0 < (n : Int) by omega)
  generalize y % (n : Int) = r at *
  exact ⟨r.toNat, by omega, by unfold wrap64; omega⟩
theorem wrap_eq9w (z : Int) : wrap64 z = IntKind.i64.wrap z := by rw [IntKind.wrap_i64]; unfold wrap64; omega
theorem u64in9 {i : Nat} (hi : i ≤ 100000) : IntKind.u64.wrap (i : Int) = (i : Int) := by rw [IntKind.wrap_u64]; omega
set_option maxHeartbeats 16000000 in
set_option maxRecDepth 100000 in
theorem both_l (w : World) (l : List Pt) (ap : Option Addr) (cp : Nat) (hc : l.length ≤ cp) (hP : PtRow w ap l) (_ : ap = none → cp = 0) (k : Int) (q : Pt) :
    Calls Try.prog 7 #[.slice ap l.length cp, .int .i64 k, .agg #[.int .i64 q.x, .int .i64 q.y]] w (Gives (.bool true) w) := by
  have KN := Lib.hid (fun W => lawK_l W)
  have HP := Lib.hid hP
  clear hP
  go_enter Try.func7, Try.ntmps7
  go_upto_region 1 with (fail)
  have HV := Lib.hid (var2_new w (.int .i64 q.x) (.int .i64 q.y) 25 w.heap.size rfl)
  have HB := Lib.hid (bl_one w (.cells #[.int .i64 q.x, .int .i64 q.y] 25))
  generalize w.alloc (.cells #[.int .i64 q.x, .int .i64 q.y] 25) = W1 at *
  by_cases h1 : 60 < l.length
  · have b1 : ((60 : Int) < (l.length : Int)) = True := eq_true (by omega)
    have b1' : (60 < l.length) = True := eq_true h1
    go_wp2_with fail
    (with_reducible refine (KN.out _).mono ?_); rintro e wk ⟨rfl, hbk⟩
    have HZ := Lib.hid (bl_trans HB.out hbk)
    clear hbk
    go_wp2_with fail
    go_ret
    exact ⟨rfl, HZ.out⟩
  have b1 : ((60 : Int) < (l.length : Int)) = False := eq_false (by omega)
  have b1' : (60 < l.length) = False := eq_false h1
  by_cases h2 : l.length < 6
  · have b2 : ((l.length : Int) < 6) = True := eq_true (by omega)
    have b2' : (l.length < 6) = True := eq_true h2
    go_wp2_with fail
    (with_reducible refine (KN.out _).mono ?_); rintro e wk ⟨rfl, hbk⟩
    have HZ := Lib.hid (bl_trans HB.out hbk)
    clear hbk
    go_wp2_with fail
    go_ret
    exact ⟨rfl, HZ.out⟩
  have b2 : ((l.length : Int) < 6) = False := eq_false (by omega)
  have b2' : (l.length < 6) = False := eq_false h2
  obtain ⟨g, o, rfl⟩ := HP.out.some (by omega)
  obtain ⟨M, hM⟩ : ∃ M : Nat, l.length = M + 5 := ⟨l.length - 5, by omega⟩
  obtain ⟨r, hrM, er⟩ := u64mod9 k M (by omega) (by omega)
  obtain ⟨n, hn⟩ : ∃ n : Nat, 3 + r = n := ⟨_, rfl⟩
  obtain ⟨m, hm⟩ : ∃ m : Nat, l.length = n + m := ⟨l.length - n, by omega⟩
  have hn1 : n ≤ 60 := by omega
  have hm1 : m ≤ 60 := by omega
  have hn0 : 3 ≤ n := by omega
  have hm0 : 2 < m := by omega
  have hM0 : 0 < M := by omega
  have F1 := Lib.hid (show wrap64 ((l.length : Int) - 5) = (M : Int) by unfold wrap64; omega)
  have F2 := Lib.hid (u64in9 (i := M) (by omega))
  have F3 := Lib.hid er
  have F4 := Lib.hid (show wrap64 ((3 : Int) + (r : Int)) = (n : Int) by unfold wrap64; omega)
  have F5 := Lib.hid (show ((M : Int) = 0) = False from eq_false (by omega))
  have F6 := Lib.hid (show ((M : Int) == 0) = false from beq_eq_false_iff_ne.2 (by omega))
  have F7 := Lib.hid (show IntKind.i64.wrap ((l.length : Int) - 5) = (M : Int) by rw [← wrap_eq9w]; exact F1.out)
  have F8 := Lib.hid (show IntKind.i64.wrap ((3 : Int) + (r : Int)) = (n : Int) by rw [← wrap_eq9w]; exact F4.out)
  have HX := Lib.hid (both_ok hm q)
  have F9 := Lib.hid (show IntKind.i64.wrap ((IntKind.u64.wrap k).tmod (M : Int)) = (r : Int) by rw [← wrap_eq9w]; exact er)
  have HMm := Lib.hid hm
  have HMM := Lib.hid hM
  clear er h1 h2
  have b3 : ((n : Int) ≤ (cp : Int)) = True := eq_true (by omega)
  have b3' : (n ≤ cp) = True := eq_true (by omega)
  have c3 : ((0 : Int) ≤ (n : Int)) = True := eq_true (by omega)
  have b4 : ((n : Int) ≤ (l.length : Int)) = True := eq_true (by omega)
  have b4' : (n ≤ l.length) = True := eq_true (by omega)
  have b5 : (cp = n) = False := eq_false (by omega)
  have b6 : ((l.length : Int) ≤ (cp : Int)) = True := eq_true (by omega)
  have b6' : (l.length ≤ cp) = True := eq_true hc
  have e7 : l.length - n = m := by omega
  have hM100 : M ≤ 100000 := by omega
  clear hM hm
  have f1 := F1.out
  have f2 := F2.out
  have f3 := F3.out
  have f4 := F4.out
  have f5 := F5.out
  have f6 := F6.out
  have f7 := F7.out
  have f8 := F8.out
  have f9 := F9.out
  go_upto_region 4 with (fail)
  clear f1 f2 f3 f4 f5 f6 f7 f8 f9 F1 F2 F3 F4 F5 F6 F7 F8 F9
  have HR1 := Lib.hid (fun ad cc W => ring9_l n ad cc W (by omega))
  have HR2 := Lib.hid (fun ad cc W => ring9_l m ad cc W (by omega))
  go_wp2_with fail
  (with_reducible refine (HR1.out _ _ _).mono ?_); rintro e w2 ⟨v8, rfl, hO⟩
  have hb2 := hO.hb
  obtain ⟨a8, c8, ev, hc8, hL, hn8⟩ := hO.pts
  rw [ringL_len] at ev
  subst ev
  have HL8 := Lib.hid hL
  replace HV := Lib.hid (HV.out.below hb2)
  replace HB := Lib.hid (bl_trans HB.out hb2)
  clear hO hL hb2 HR1 hc8
  go_wp2_with fail
  (with_reducible refine (HR2.out _ _ _).mono ?_); rintro e w3 ⟨v9, rfl, hO⟩
  have hb2 := hO.hb
  obtain ⟨a9, c9, ev, hc9, hL, hn9⟩ := hO.pts
  rw [ringL_len] at ev
  subst ev
  have HL9 := Lib.hid hL
  replace HL8 := Lib.hid (HL8.out.below hb2)
  replace HV := Lib.hid (HV.out.below hb2)
  replace HB := Lib.hid (bl_trans HB.out hb2)
  clear hO hL hb2 HR2 hc9
  go_wp2_with (at_builtin; refine app_pts rfl Try.underlying23 info_eseg _ _ rfl rfl (op_nil _ w3) rfl (L := ringL n) (ringL_len n).symm HL8.out hn8 ?x1 ?_)
  case x1 => rw [ringL_len]; simp only [List.length_nil]; omega
  intro v10 w4 hO1
  have HO1 := Lib.hid hO1
  have HL8b := HL8
  clear hO1
  go_wp2_with fail
  go_loopw [10, 11] (fun v iv W => ∃ i : Nat, i ≤ m ∧ iv = .int .i64 i ∧ Op 51 w3 v (ringL n ++ shiftL n ((ringL m).take i)) W) (fun _ iv _ => m - (intOf iv).toNat)
  case atStart => exact ⟨0, Nat.zero_le _, rfl, by rw [List.take_zero]; exact (HO1.out.congr9 (by simp [shiftL]))⟩
  case round =>
    obtain ⟨i, hi9, rfl, hO⟩ := hrel
    clear HO1
    have HO := Lib.hid hO
    have HBO := Lib.hid hO.hb
    clear hO
    by_cases him : i < m
    · have q1 : ((i : Int) < (m : Int)) = True := eq_true (by omega)
      have q2 : (i < m) = True := eq_true him
      have q3 : ((0 : Int) ≤ (i : Int)) = True := eq_true (by omega)
      obtain ⟨g9, o9, rfl⟩ := HL9.out.some (by rw [ringL_len]; omega)
      obtain ⟨j, hj⟩ : ∃ j, (i + 1) % m = j := ⟨_, rfl⟩
      have hjm : j < m := by rw [← hj]; exact Nat.mod_lt _ (by omega)
      have hE := ringL_at him
      rw [hj] at hE
      have HE := Lib.hid hE
      have HSn : Hid (ringL n ++ shiftL n ((ringL m).take (i + 1)) = (ringL n ++ shiftL n ((ringL m).take i)) ++ [⟨(i : Int) + (n : Int), (j : Int) + (n : Int)⟩]) := by
        unfold Hid
        rw [take_snoc9 _ (by rw [ringL_len]; exact him), hE]
        unfold shiftL
        rw [List.map_append, List.append_assoc]; rfl
      have HLn : Hid ((ringL n ++ shiftL n ((ringL m).take i)).length ≤ 10000) := by
        unfold Hid shiftL
        rw [List.length_append, List.length_map, List.length_take, ringL_len, ringL_len]; omega
      have M1 := Lib.hid (show wrap64 ((i : Int) + (n : Int)) = (i : Int) + (n : Int) by unfold wrap64; omega)
      have M2 := Lib.hid (show wrap64 ((j : Int) + (n : Int)) = (j : Int) + (n : Int) by unfold wrap64; omega)
      have M3 := Lib.hid (show IntKind.i64.wrap ((i : Int) + (n : Int)) = (i : Int) + (n : Int) from IntWalk.i64_in _ (by omega))
      have M4 := Lib.hid (show IntKind.i64.wrap ((j : Int) + (n : Int)) = (j : Int) + (n : Int) from IntWalk.i64_in _ (by omega))
      clear hj hE
      go_upto_region 11 with (fail)
      refine wp_region_held_drew (S := fun V => Below w3.heap.size w3 V) (by kernel_rfl) ?_ (fun hHeld => ?_)
      · exact (bl_trans HBO.out (bel_drew wr))
      have HO1 := Lib.hid (HO.out.drew)
      revert HO1
      revert hHeld
      generalize World.drew _ = W1
      intro hHeld HO1
      refine wpAnyH_take (i := 0) (v := ?_) rfl (by kernel_rfl) (by kernel_rfl) (by kernel_rfl) (fun _ _ _ h => h) (Or.inl ⟨by rfl, ?_⟩) (by assumption) ?_
      rotate_left
      · intro Wq hSw
        clear hSw
        go_simp
        all_goals (with_reducible rfl)
      try simp only [Act.put, List.getElem_toArray, List.getElem_cons_zero, List.setIfInBounds_toArray, List.set_cons_zero, List.set_cons_succ]
      refine wpAnyH_take (i := 1) (v := ?_) rfl (by kernel_rfl) (by kernel_rfl) (by kernel_rfl) (fun _ _ _ h => h) (Or.inl ⟨by rfl, ?_⟩) (by assumption) ?_
      rotate_left
      · intro Wq hSw
        clear hSw
        go_simp
        all_goals (with_reducible rfl)
      try simp only [Act.put, List.getElem_toArray, List.getElem_cons_succ, List.getElem_cons_zero, List.setIfInBounds_toArray, List.set_cons_zero, List.set_cons_succ]
      refine wpAnyH_take (i := 2) (v := ?_) rfl (by kernel_rfl) (by kernel_rfl) (by kernel_rfl) (fun _ _ _ h => h) (Or.inl ⟨by rfl, ?_⟩) (by assumption) ?_
      rotate_left
      · intro Wq hSw
        clear hSw
        go_simp
        all_goals (with_reducible rfl)
      try simp only [Act.put, List.getElem_toArray, List.getElem_cons_succ, List.getElem_cons_zero, List.setIfInBounds_toArray, List.set_cons_zero, List.set_cons_succ]
      refine wpAnyH_take (i := 3) (v := ?_) rfl (by kernel_rfl) (by kernel_rfl) (by kernel_rfl) (fun _ _ _ h => h) (Or.inl ⟨by rfl, ?_⟩) (by assumption) ?_
      rotate_left
      · intro Wq hSw
        have b1 : ((i : Int) < (m : Int)) = True := eq_true (by omega)
        have d1 : (i < m) = True := eq_true him
        have c1 : ((0 : Int) ≤ (i : Int)) = True := eq_true (by omega)
        clear hSw
        go_simp
        all_goals (with_reducible rfl)
      try simp only [Act.put, List.getElem_toArray, List.getElem_cons_succ, List.getElem_cons_zero, List.setIfInBounds_toArray, List.set_cons_zero, List.set_cons_succ]
      refine wpAnyH_take (i := 4) (v := ?_) rfl (by kernel_rfl) (by kernel_rfl) (by kernel_rfl) (fun _ _ _ h => h) (Or.inl ⟨by rfl, ?_⟩) (by assumption) ?_
      rotate_left
      · intro Wq hSw
        clear hSw
        go_simp
        all_goals (with_reducible rfl)
      try simp only [Act.put, List.getElem_toArray, List.getElem_cons_succ, List.getElem_cons_zero, List.setIfInBounds_toArray, List.set_cons_zero, List.set_cons_succ]
      refine wpAnyH_take (i := 5) (v := ?_) rfl (by kernel_rfl) (by kernel_rfl) (by kernel_rfl) (fun _ _ _ h => h) (Or.inl ⟨by rfl, ?_⟩) (by assumption) ?_
      rotate_left
      · intro Wq hSw
        obtain ⟨k0, k1⟩ := ptRow_at (HL9.out.below hSw) (by rw [ringL_len]; exact him) HE.out
        clear hSw
        go_simp
        all_goals (with_reducible rfl)
      try simp only [Act.put, List.getElem_toArray, List.getElem_cons_succ, List.getElem_cons_zero, List.setIfInBounds_toArray, List.set_cons_zero, List.set_cons_succ]
      refine wpAnyH_take (i := 6) (v := ?_) rfl (by kernel_rfl) (by kernel_rfl) (by kernel_rfl) (fun _ _ _ h => h) (Or.inl ⟨by rfl, ?_⟩) (by assumption) ?_
      rotate_left
      · intro Wq hSw
        clear hSw
        go_simp
        all_goals (with_reducible rfl)
      try simp only [Act.put, List.getElem_toArray, List.getElem_cons_succ, List.getElem_cons_zero, List.setIfInBounds_toArray, List.set_cons_zero, List.set_cons_succ]
      refine wpAnyH_take (i := 7) (v := ?_) rfl (by kernel_rfl) (by kernel_rfl) (by kernel_rfl) (fun _ _ _ h => h) (Or.inl ⟨by rfl, ?_⟩) (by assumption) ?_
      rotate_left
      · intro Wq hSw
        have m1 := M1.out
        have m3 := M3.out
        clear hSw
        go_simp
        all_goals (with_reducible rfl)
      try simp only [Act.put, List.getElem_toArray, List.getElem_cons_succ, List.getElem_cons_zero, List.setIfInBounds_toArray, List.set_cons_zero, List.set_cons_succ]
      refine wpAnyH_take (i := 8) (v := ?_) rfl (by kernel_rfl) (by kernel_rfl) (by kernel_rfl) (fun _ _ _ h => h) (Or.inl ⟨by rfl, ?_⟩) (by assumption) ?_
      rotate_left
      · intro Wq hSw
        clear hSw
        go_simp
        all_goals (with_reducible rfl)
      try simp only [Act.put, List.getElem_toArray, List.getElem_cons_succ, List.getElem_cons_zero, List.setIfInBounds_toArray, List.set_cons_zero, List.set_cons_succ]
      refine wpAnyH_take (i := 9) (v := ?_) rfl (by kernel_rfl) (by kernel_rfl) (by kernel_rfl) (fun _ _ _ h => h) (Or.inl ⟨by rfl, ?_⟩) (by assumption) ?_
      rotate_left
      · intro Wq hSw
        clear hSw
        go_simp
        all_goals (with_reducible rfl)
      try simp only [Act.put, List.getElem_toArray, List.getElem_cons_succ, List.getElem_cons_zero, List.setIfInBounds_toArray, List.set_cons_zero, List.set_cons_succ]
      refine wpAnyH_take (i := 10) (v := ?_) rfl (by kernel_rfl) (by kernel_rfl) (by kernel_rfl) (fun _ _ _ h => h) (Or.inl ⟨by rfl, ?_⟩) (by assumption) ?_
      rotate_left
      · intro Wq hSw
        have b1 : ((i : Int) < (m : Int)) = True := eq_true (by omega)
        have d1 : (i < m) = True := eq_true him
        have c1 : ((0 : Int) ≤ (i : Int)) = True := eq_true (by omega)
        clear hSw
        go_simp
        all_goals (with_reducible rfl)
      try simp only [Act.put, List.getElem_toArray, List.getElem_cons_succ, List.getElem_cons_zero, List.setIfInBounds_toArray, List.set_cons_zero, List.set_cons_succ]
      refine wpAnyH_take (i := 11) (v := ?_) rfl (by kernel_rfl) (by kernel_rfl) (by kernel_rfl) (fun _ _ _ h => h) (Or.inl ⟨by rfl, ?_⟩) (by assumption) ?_
      rotate_left
      · intro Wq hSw
        clear hSw
        go_simp
        all_goals (with_reducible rfl)
      try simp only [Act.put, List.getElem_toArray, List.getElem_cons_succ, List.getElem_cons_zero, List.setIfInBounds_toArray, List.set_cons_zero, List.set_cons_succ]
      refine wpAnyH_take (i := 12) (v := ?_) rfl (by kernel_rfl) (by kernel_rfl) (by kernel_rfl) (fun _ _ _ h => h) (Or.inl ⟨by rfl, ?_⟩) (by assumption) ?_
      rotate_left
      · intro Wq hSw
        obtain ⟨k0, k1⟩ := ptRow_at (HL9.out.below hSw) (by rw [ringL_len]; exact him) HE.out
        clear hSw
        go_simp
        all_goals (with_reducible rfl)
      try simp only [Act.put, List.getElem_toArray, List.getElem_cons_succ, List.getElem_cons_zero, List.setIfInBounds_toArray, List.set_cons_zero, List.set_cons_succ]
      refine wpAnyH_take (i := 13) (v := ?_) rfl (by kernel_rfl) (by kernel_rfl) (by kernel_rfl) (fun _ _ _ h => h) (Or.inl ⟨by rfl, ?_⟩) (by assumption) ?_
      rotate_left
      · intro Wq hSw
        clear hSw
        go_simp
        all_goals (with_reducible rfl)
      try simp only [Act.put, List.getElem_toArray, List.getElem_cons_succ, List.getElem_cons_zero, List.setIfInBounds_toArray, List.set_cons_zero, List.set_cons_succ]
      refine wpAnyH_take (i := 14) (v := ?_) rfl (by kernel_rfl) (by kernel_rfl) (by kernel_rfl) (fun _ _ _ h => h) (Or.inl ⟨by rfl, ?_⟩) (by assumption) ?_
      rotate_left
      · intro Wq hSw
        have m2 := M2.out
        have m4 := M4.out
        clear hSw
        go_simp
        all_goals (with_reducible rfl)
      try simp only [Act.put, List.getElem_toArray, List.getElem_cons_succ, List.getElem_cons_zero, List.setIfInBounds_toArray, List.set_cons_zero, List.set_cons_succ]
      refine wpAnyH_take (i := 15) (v := ?_) rfl (by kernel_rfl) (by kernel_rfl) (by kernel_rfl) (fun _ _ _ h => h) (Or.inl ⟨by rfl, ?_⟩) (by assumption) ?_
      rotate_left
      · intro Wq hSw
        clear hSw
        go_simp
        all_goals (with_reducible rfl)
      try simp only [Act.put, List.getElem_toArray, List.getElem_cons_succ, List.getElem_cons_zero, List.setIfInBounds_toArray, List.set_cons_zero, List.set_cons_succ]
      refine r1 (i := 16) rfl (fun K hK => ?_)
      go_simp
      refine hK.out _ _ (bl_alloc hHeld _) (fun hHeld2 => ?_)
      clear hK K hHeld
      have hHeld := hHeld2
      clear hHeld2
      try simp only [Act.put, List.getElem_toArray, List.getElem_cons_succ, List.getElem_cons_zero, List.setIfInBounds_toArray, List.set_cons_zero, List.set_cons_succ]
      refine r1 (i := 17) rfl (fun K hK => ?_)
      refine app_pts_wp Try.underlying23 info_eseg (L := [⟨(i : Int) + (n : Int), (j : Int) + (n : Int)⟩]) (.tmp 53) (.tmp 69) rfl rfl (HO1.out.alloc _) rfl rfl (ptRow_new _ ⟨(i : Int) + (n : Int), (j : Int) + (n : Int)⟩ _) (fun h => by cases h) ?lim (fun v2 w5 hO2 => ?_)
      case lim => have := HLn.out; simp only [List.length_singleton]; omega
      have HO2 := Lib.hid (hO2.congr9 HSn.out.symm)
      clear hO2
      refine hK.out _ _ HO2.out.hb (fun hHeld2 => ?_)
      clear hK K hHeld HO1 HO
      have hHeld := hHeld2
      clear hHeld2
      try simp only [Act.put, List.getElem_toArray, List.getElem_cons_succ, List.getElem_cons_zero, List.setIfInBounds_toArray, List.set_cons_zero, List.set_cons_succ]
      refine wpAnyH_take (i := 18) (v := ?_) rfl (by kernel_rfl) (by kernel_rfl) (by kernel_rfl) (fun _ _ _ h => h) (Or.inl ⟨by rfl, ?_⟩) (by assumption) ?_
      rotate_left
      · intro Wq hSw
        clear hSw
        go_simp
        all_goals (with_reducible rfl)
      try simp only [Act.put, List.getElem_toArray, List.getElem_cons_succ, List.getElem_cons_zero, List.setIfInBounds_toArray, List.set_cons_zero, List.set_cons_succ]
      refine wpAnyH_done (by kernel_rfl) ?_ _
      obtain ⟨m1, m2, m3, m4⟩ := wnum (i := i) (by omega)
      go_wp2_with fail
      clear m1 m2 m3 m4
      exact ⟨⟨i + 1, him, by rw [Int.natCast_add]; rfl, HO2.out⟩, by simp [intOf]; omega⟩
    · obtain rfl : i = m := by omega
      have q1 : ((i : Int) < (i : Int)) = False := eq_false (by omega)
      have hcg : ringL n ++ shiftL n ((ringL i).take i) = bothL n i := by rw [List.take_of_length_le (by rw [ringL_len]; exact Nat.le_refl _)]; rfl
      rw [hcg] at HO
      obtain ⟨a10, c10, ev, -, hLb, -⟩ := HO.out.pts
      rw [bothL_len] at ev
      subst ev
      have HL10 := Lib.hid hLb
      replace HL8 := Lib.hid (HL8.out.below HBO.out)
      replace HL9 := Lib.hid (HL9.out.below HBO.out)
      replace HV := Lib.hid (HV.out.below HBO.out)
      replace HB := Lib.hid (bl_trans HB.out HBO.out)
      clear hcg hLb HO HBO HL8b
      go_upto_region 12 with (fail)
      obtain ⟨WC, eW⟩ : ∃ W, W = wr := ⟨_, rfl⟩
      subst eW
      have HPt : Hid (PtRow w (some ⟨g, o, none⟩) (l.take n)) := HP.out.take n
      have HPd : Hid (PtRow w (some ⟨g, o + n * 2, none⟩) (l.drop n)) := HP.out.drop n (fun g' o' e _ => by cases e; rfl)
      obtain ⟨x, hx⟩ : ∃ z, atN 1 (l.take n) (ringL n) q = z := ⟨_, rfl⟩
      obtain ⟨e, he⟩ : ∃ z, atE 1 (l.take n) (ringL n) q = z := ⟨_, rfl⟩
      obtain ⟨y, hy⟩ : ∃ z, atN 1 (l.drop n) (ringL i) q = z := ⟨_, rfl⟩
      obtain ⟨f, hf⟩ : ∃ z, atE 1 (l.drop n) (ringL i) q = z := ⟨_, rfl⟩
      obtain ⟨z, hz⟩ : ∃ z, atN 1 l (bothL n i) q = z := ⟨_, rfl⟩
      obtain ⟨gg, hgg⟩ : ∃ z, atE 1 l (bothL n i) q = z := ⟨_, rfl⟩
      rw [hx, he, hy, hf, hz, hgg] at HX
      have HA1 : Hid (∀ W, Below WC.heap.size WC W → Calls Try.prog 14 #[.slice (some ⟨g, o, none⟩) n cp, .slice a8 n c8, .agg #[.int .i64 q.x, .int .i64 q.y]] W (Gives (.tuple #[.int .i64 x, .int .i64 e]) W)) := fun W h =>
        at9_p (l.take n) (ringL n) q ⟨hx, he⟩ _ _ cp c8 _ _ W (HPt.out.below (bl_trans HB.out h)) (HL8.out.below h) (by rw [ringL_len]; omega) (by have := HMm.out; rw [List.length_take]; omega) (ringL_len n).symm
      have HA2 : Hid (∀ W, Below WC.heap.size WC W → Calls Try.prog 14 #[.slice (some ⟨g, o + n * 2, none⟩) i (cp - n), .slice a9 i c9, .agg #[.int .i64 q.x, .int .i64 q.y]] W (Gives (.tuple #[.int .i64 y, .int .i64 f]) W)) := fun W h =>
        at9_p (l.drop n) (ringL i) q ⟨hy, hf⟩ _ _ (cp - n) c9 _ _ W (HPd.out.below (bl_trans HB.out h)) (HL9.out.below h) (by rw [ringL_len]; omega) (by have := HMm.out; rw [List.length_drop]; omega) (ringL_len i).symm
      have HA3 : Hid (∀ W, Below WC.heap.size WC W → Calls Try.prog 14 #[.slice (some ⟨g, o, none⟩) l.length cp, .slice a10 (n + i) c10, .agg #[.int .i64 q.x, .int .i64 q.y]] W (Gives (.tuple #[.int .i64 z, .int .i64 gg]) W)) := fun W h =>
        at9_p l (bothL n i) q ⟨hz, hgg⟩ _ _ cp c10 _ _ W (HP.out.below (bl_trans HB.out h)) (HL10.out.below h) (by rw [bothL_len]; omega) rfl (bothL_len n i).symm
      clear hx he hy hf hz hgg HPt HPd HP HL8 HL9 HL10
      go_cut [12, 13] (fun u v W => u = .int .i64 x ∧ v = .int .i64 e ∧ Below WC.heap.size WC W)
      case first =>
        refine wp_region_held_drew (S := fun V => Below WC.heap.size WC V) (by kernel_rfl) ?_ (fun hHeld => ?_)
        · exact bel_drew WC
        revert hHeld
        generalize World.drew _ = W1
        intro hHeld 
        refine wpAnyH_take (i := 0) (v := ?_) rfl (by kernel_rfl) (by kernel_rfl) (by kernel_rfl) (fun _ _ _ h => h) (Or.inl ⟨by rfl, ?_⟩) (by assumption) ?_
        rotate_left
        · intro Wq hSw
          clear hSw
          go_simp
          all_goals (with_reducible rfl)
        try simp only [Act.put, List.getElem_toArray, List.getElem_cons_zero, List.setIfInBounds_toArray, List.set_cons_zero, List.set_cons_succ]
        refine wpAnyH_take (i := 1) (v := ?_) rfl (by kernel_rfl) (by kernel_rfl) (by kernel_rfl) (fun _ _ _ h => h) (Or.inl ⟨by rfl, ?_⟩) (by assumption) ?_
        rotate_left
        · intro Wq hSw
          clear hSw
          go_simp
          all_goals (with_reducible rfl)
        try simp only [Act.put, List.getElem_toArray, List.getElem_cons_succ, List.getElem_cons_zero, List.setIfInBounds_toArray, List.set_cons_zero, List.set_cons_succ]
        refine wpAnyH_take (i := 2) (v := ?_) rfl (by kernel_rfl) (by kernel_rfl) (by kernel_rfl) (fun _ _ _ h => h) (Or.inl ⟨by rfl, ?_⟩) (by assumption) ?_
        rotate_left
        · intro Wq hSw
          clear hSw
          go_simp
          all_goals (with_reducible rfl)
        try simp only [Act.put, List.getElem_toArray, List.getElem_cons_succ, List.getElem_cons_zero, List.setIfInBounds_toArray, List.set_cons_zero, List.set_cons_succ]
        refine wpAnyH_take (i := 3) (v := ?_) rfl (by kernel_rfl) (by kernel_rfl) (by kernel_rfl) (fun _ _ _ h => h) (Or.inl ⟨by rfl, ?_⟩) (by assumption) ?_
        rotate_left
        · intro Wq hSw
          clear hSw
          go_simp
          all_goals (with_reducible rfl)
        try simp only [Act.put, List.getElem_toArray, List.getElem_cons_succ, List.getElem_cons_zero, List.setIfInBounds_toArray, List.set_cons_zero, List.set_cons_succ]
        refine wpAnyH_take (i := 4) (v := ?_) rfl (by kernel_rfl) (by kernel_rfl) (by kernel_rfl) (fun _ _ _ h => h) (Or.inl ⟨by rfl, ?_⟩) (by assumption) ?_
        rotate_left
        · intro Wq hSw
          obtain ⟨k0, k1⟩ := (HV.out.below hSw).two
          clear hSw
          go_simp
          all_goals (with_reducible rfl)
        try simp only [Act.put, List.getElem_toArray, List.getElem_cons_succ, List.getElem_cons_zero, List.setIfInBounds_toArray, List.set_cons_zero, List.set_cons_succ]
        refine r1 (i := 5) rfl (fun K hK => ?_)
        go_simp
        (with_reducible refine (HA1.out _ hHeld).mono ?_)
        rintro e' wz ⟨rfl, hb1⟩
        go_wp2_with fail
        refine hK.out _ _ (bl_trans hHeld hb1) (fun hHeld2 => ?_)
        clear hK K hHeld
        have hHeld := hHeld2
        clear hHeld2
        try simp only [Act.put, List.getElem_toArray, List.getElem_cons_succ, List.getElem_cons_zero, List.setIfInBounds_toArray, List.set_cons_zero, List.set_cons_succ]
        refine wpAnyH_take (i := 6) (v := ?_) rfl (by kernel_rfl) (by kernel_rfl) (by kernel_rfl) (fun _ _ _ h => h) (Or.inl ⟨by rfl, ?_⟩) (by assumption) ?_
        rotate_left
        · intro Wq hSw
          clear hSw
          go_simp
          all_goals (with_reducible rfl)
        try simp only [Act.put, List.getElem_toArray, List.getElem_cons_succ, List.getElem_cons_zero, List.setIfInBounds_toArray, List.set_cons_zero, List.set_cons_succ]
        refine wpAnyH_take (i := 7) (v := ?_) rfl (by kernel_rfl) (by kernel_rfl) (by kernel_rfl) (fun _ _ _ h => h) (Or.inl ⟨by rfl, ?_⟩) (by assumption) ?_
        rotate_left
        · intro Wq hSw
          clear hSw
          go_simp
          all_goals (with_reducible rfl)
        try simp only [Act.put, List.getElem_toArray, List.getElem_cons_succ, List.getElem_cons_zero, List.setIfInBounds_toArray, List.set_cons_zero, List.set_cons_succ]
        refine wpAnyH_take (i := 8) (v := ?_) rfl (by kernel_rfl) (by kernel_rfl) (by kernel_rfl) (fun _ _ _ h => h) (Or.inl ⟨by rfl, ?_⟩) (by assumption) ?_
        rotate_left
        · intro Wq hSw
          clear hSw
          go_simp
          all_goals (with_reducible rfl)
        try simp only [Act.put, List.getElem_toArray, List.getElem_cons_succ, List.getElem_cons_zero, List.setIfInBounds_toArray, List.set_cons_zero, List.set_cons_succ]
        refine wpAnyH_take (i := 9) (v := ?_) rfl (by kernel_rfl) (by kernel_rfl) (by kernel_rfl) (fun _ _ _ h => h) (Or.inl ⟨by rfl, ?_⟩) (by assumption) ?_
        rotate_left
        · intro Wq hSw
          clear hSw
          go_simp
          all_goals (with_reducible rfl)
        try simp only [Act.put, List.getElem_toArray, List.getElem_cons_succ, List.getElem_cons_zero, List.setIfInBounds_toArray, List.set_cons_zero, List.set_cons_succ]
        refine wpAnyH_take (i := 10) (v := ?_) rfl (by kernel_rfl) (by kernel_rfl) (by kernel_rfl) (fun _ _ _ h => h) (Or.inl ⟨by rfl, ?_⟩) (by assumption) ?_
        rotate_left
        · intro Wq hSw
          clear hSw
          go_simp
          all_goals (with_reducible rfl)
        try simp only [Act.put, List.getElem_toArray, List.getElem_cons_succ, List.getElem_cons_zero, List.setIfInBounds_toArray, List.set_cons_zero, List.set_cons_succ]
        refine wpAnyH_done (by kernel_rfl) ?_ _
        go_wp2_with fail
        go_meet
        case rel => exact ⟨rfl, rfl, hHeld⟩
      case rest =>
      obtain ⟨rfl, rfl, hbc⟩ := hcut
      replace HV := Lib.hid (HV.out.below hbc)
      replace HB := Lib.hid (bl_trans HB.out hbc)
      replace HA2 := Lib.hid (fun W h => HA2.out W (bl_trans hbc h))
      replace HA3 := Lib.hid (fun W h => HA3.out W (bl_trans hbc h))
      clear hbc HA1
      go_upto_region 13 with (fail)
      obtain ⟨WD, eW⟩ : ∃ W, W = wc := ⟨_, rfl⟩
      subst eW
      go_cut [14, 15] (fun u v W => u = .int .i64 y ∧ v = .int .i64 f ∧ Below WD.heap.size WD W)
      case first =>
        refine wp_region_held_drew (S := fun V => Below WD.heap.size WD V) (by kernel_rfl) ?_ (fun hHeld => ?_)
        · exact bel_drew WD
        revert hHeld
        generalize World.drew _ = W1
        intro hHeld 
        refine wpAnyH_take (i := 0) (v := ?_) rfl (by kernel_rfl) (by kernel_rfl) (by kernel_rfl) (fun _ _ _ h => h) (Or.inl ⟨by rfl, ?_⟩) (by assumption) ?_
        rotate_left
        · intro Wq hSw
          clear hSw
          go_simp
          all_goals (with_reducible rfl)
        try simp only [Act.put, List.getElem_toArray, List.getElem_cons_zero, List.setIfInBounds_toArray, List.set_cons_zero, List.set_cons_succ]
        refine wpAnyH_take (i := 1) (v := ?_) rfl (by kernel_rfl) (by kernel_rfl) (by kernel_rfl) (fun _ _ _ h => h) (Or.inl ⟨by rfl, ?_⟩) (by assumption) ?_
        rotate_left
        · intro Wq hSw
          clear hSw
          go_simp
          all_goals (with_reducible rfl)
        try simp only [Act.put, List.getElem_toArray, List.getElem_cons_succ, List.getElem_cons_zero, List.setIfInBounds_toArray, List.set_cons_zero, List.set_cons_succ]
        refine wpAnyH_take (i := 2) (v := ?_) rfl (by kernel_rfl) (by kernel_rfl) (by kernel_rfl) (fun _ _ _ h => h) (Or.inl ⟨by rfl, ?_⟩) (by assumption) ?_
        rotate_left
        · intro Wq hSw
          clear hSw
          go_simp
          all_goals (with_reducible rfl)
        try simp only [Act.put, List.getElem_toArray, List.getElem_cons_succ, List.getElem_cons_zero, List.setIfInBounds_toArray, List.set_cons_zero, List.set_cons_succ]
        refine wpAnyH_take (i := 3) (v := ?_) rfl (by kernel_rfl) (by kernel_rfl) (by kernel_rfl) (fun _ _ _ h => h) (Or.inl ⟨by rfl, ?_⟩) (by assumption) ?_
        rotate_left
        · intro Wq hSw
          clear hSw
          go_simp
          all_goals (with_reducible rfl)
        try simp only [Act.put, List.getElem_toArray, List.getElem_cons_succ, List.getElem_cons_zero, List.setIfInBounds_toArray, List.set_cons_zero, List.set_cons_succ]
        refine wpAnyH_take (i := 4) (v := ?_) rfl (by kernel_rfl) (by kernel_rfl) (by kernel_rfl) (fun _ _ _ h => h) (Or.inl ⟨by rfl, ?_⟩) (by assumption) ?_
        rotate_left
        · intro Wq hSw
          obtain ⟨k0, k1⟩ := (HV.out.below hSw).two
          clear hSw
          go_simp
          all_goals (with_reducible rfl)
        try simp only [Act.put, List.getElem_toArray, List.getElem_cons_succ, List.getElem_cons_zero, List.setIfInBounds_toArray, List.set_cons_zero, List.set_cons_succ]
        refine r1 (i := 5) rfl (fun K hK => ?_)
        go_simp
        (with_reducible refine (HA2.out _ hHeld).mono ?_)
        rintro e' wz ⟨rfl, hb1⟩
        go_wp2_with fail
        refine hK.out _ _ (bl_trans hHeld hb1) (fun hHeld2 => ?_)
        clear hK K hHeld
        have hHeld := hHeld2
        clear hHeld2
        try simp only [Act.put, List.getElem_toArray, List.getElem_cons_succ, List.getElem_cons_zero, List.setIfInBounds_toArray, List.set_cons_zero, List.set_cons_succ]
        refine wpAnyH_take (i := 6) (v := ?_) rfl (by kernel_rfl) (by kernel_rfl) (by kernel_rfl) (fun _ _ _ h => h) (Or.inl ⟨by rfl, ?_⟩) (by assumption) ?_
        rotate_left
        · intro Wq hSw
          clear hSw
          go_simp
          all_goals (with_reducible rfl)
        try simp only [Act.put, List.getElem_toArray, List.getElem_cons_succ, List.getElem_cons_zero, List.setIfInBounds_toArray, List.set_cons_zero, List.set_cons_succ]
        refine wpAnyH_take (i := 7) (v := ?_) rfl (by kernel_rfl) (by kernel_rfl) (by kernel_rfl) (fun _ _ _ h => h) (Or.inl ⟨by rfl, ?_⟩) (by assumption) ?_
        rotate_left
        · intro Wq hSw
          clear hSw
          go_simp
          all_goals (with_reducible rfl)
        try simp only [Act.put, List.getElem_toArray, List.getElem_cons_succ, List.getElem_cons_zero, List.setIfInBounds_toArray, List.set_cons_zero, List.set_cons_succ]
        refine wpAnyH_take (i := 8) (v := ?_) rfl (by kernel_rfl) (by kernel_rfl) (by kernel_rfl) (fun _ _ _ h => h) (Or.inl ⟨by rfl, ?_⟩) (by assumption) ?_
        rotate_left
        · intro Wq hSw
          clear hSw
          go_simp
          all_goals (with_reducible rfl)
        try simp only [Act.put, List.getElem_toArray, List.getElem_cons_succ, List.getElem_cons_zero, List.setIfInBounds_toArray, List.set_cons_zero, List.set_cons_succ]
        refine wpAnyH_take (i := 9) (v := ?_) rfl (by kernel_rfl) (by kernel_rfl) (by kernel_rfl) (fun _ _ _ h => h) (Or.inl ⟨by rfl, ?_⟩) (by assumption) ?_
        rotate_left
        · intro Wq hSw
          clear hSw
          go_simp
          all_goals (with_reducible rfl)
        try simp only [Act.put, List.getElem_toArray, List.getElem_cons_succ, List.getElem_cons_zero, List.setIfInBounds_toArray, List.set_cons_zero, List.set_cons_succ]
        refine wpAnyH_take (i := 10) (v := ?_) rfl (by kernel_rfl) (by kernel_rfl) (by kernel_rfl) (fun _ _ _ h => h) (Or.inl ⟨by rfl, ?_⟩) (by assumption) ?_
        rotate_left
        · intro Wq hSw
          clear hSw
          go_simp
          all_goals (with_reducible rfl)
        try simp only [Act.put, List.getElem_toArray, List.getElem_cons_succ, List.getElem_cons_zero, List.setIfInBounds_toArray, List.set_cons_zero, List.set_cons_succ]
        refine wpAnyH_done (by kernel_rfl) ?_ _
        go_wp2_with fail
        go_meet
        case rel => exact ⟨rfl, rfl, hHeld⟩
      case rest =>
      obtain ⟨rfl, rfl, hbc⟩ := hcut
      replace HV := Lib.hid (HV.out.below hbc)
      replace HB := Lib.hid (bl_trans HB.out hbc)
      replace HA3 := Lib.hid (HA3.out _ hbc)
      clear hbc HA2
      obtain ⟨c0, c1⟩ := HV.out.two
      go_wp2_with fail
      (with_reducible refine HA3.out.mono ?_); rintro e' w7 ⟨rfl, hb2⟩
      replace HB := Lib.hid (bl_trans HB.out hb2)
      clear hb2 HA3 c0 c1 HV
      rcases HX.out with ⟨h1, rfl, rfl⟩ | ⟨rfl, rfl, h1, rfl, rfl⟩ | ⟨rfl, rfl, h1, h2, rfl, h3⟩
      · by_cases he : e = 0
        · have hf0 : f ≠ 0 := by omega
          have u2 : (f = 0) = False := eq_false hf0
          have u3 : (f != 0) = true := bne_iff_ne.2 hf0
          have u4 : (f == 0) = false := beq_eq_false_iff_ne.2 hf0
          subst he
          clear h1 hf0 HX
          go_wp2_with fail
          (with_reducible refine (KN.out _).mono ?_); rintro e wk ⟨rfl, hbk⟩
          have HZ := Lib.hid (bl_trans HB.out hbk)
          clear hbk
          go_wp2_with fail
          go_ret
          exact ⟨rfl, HZ.out⟩
        · have u1 : (e = 0) = False := eq_false he
          have u1' : (e == 0) = false := beq_eq_false_iff_ne.2 he
          have u1b : (e != 0) = true := bne_iff_ne.2 he
          clear h1 he HX
          go_wp2_with fail
          (with_reducible refine (KN.out _).mono ?_); rintro e wk ⟨rfl, hbk⟩
          have HZ := Lib.hid (bl_trans HB.out hbk)
          clear hbk
          go_wp2_with fail
          go_ret
          exact ⟨rfl, HZ.out⟩
      · by_cases he : x = 0
        · subst he
          clear h1 HX
          go_wp2_with fail
          (with_reducible refine (KN.out _).mono ?_); rintro e wk ⟨rfl, hbk⟩
          have HZ := Lib.hid (bl_trans HB.out hbk)
          clear hbk
          go_wp2_with fail
          go_ret
          exact ⟨rfl, HZ.out⟩
        · have u1 : (x = 0) = False := eq_false he
          obtain rfl : y = 0 := by omega
          clear h1 he HX
          go_wp2_with fail
          (with_reducible refine (KN.out _).mono ?_); rintro e wk ⟨rfl, hbk⟩
          have HZ := Lib.hid (bl_trans HB.out hbk)
          clear hbk
          go_wp2_with fail
          go_ret
          exact ⟨rfl, HZ.out⟩
      · have u1 : (x = 0) = False := eq_false h1
        have u2 : (y = 0) = False := eq_false h2
        have u1b : (x == 0) = false := beq_eq_false_iff_ne.2 h1
        have u2b : (y == 0) = false := beq_eq_false_iff_ne.2 h2
        have d1 : decide (x = 0) = false := decide_eq_false h1
        have d2 : decide (y = 0) = false := decide_eq_false h2
        rcases h3 with ⟨h3, rfl⟩ | ⟨rfl, rfl⟩
        · have u3 : (x = y) = False := eq_false h3
          have u3' : (x == y) = false := beq_eq_false_iff_ne.2 h3
          have u3b : (x != y) = true := bne_iff_ne.2 h3
          clear h1 h2 h3 HX
          go_wp2_with fail
          (with_reducible refine (KN.out _).mono ?_); rintro e wk ⟨rfl, hbk⟩
          have HZ := Lib.hid (bl_trans HB.out hbk)
          clear hbk
          go_wp2_with fail
          go_ret
          exact ⟨rfl, HZ.out⟩
        · clear h1 h2 HX
          go_wp2_with fail
          (with_reducible refine (KN.out _).mono ?_); rintro e wk ⟨rfl, hbk⟩
          have HZ := Lib.hid (bl_trans HB.out hbk)
          clear hbk
          go_wp2_with fail
          go_ret
          exact ⟨rfl, HZ.out⟩
end Go.Proofs.Ytkidphekfnmhhaa
