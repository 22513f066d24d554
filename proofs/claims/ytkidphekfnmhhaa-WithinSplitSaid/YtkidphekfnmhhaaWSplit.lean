/-
  The law WithinSplit.
-/
import Derived.Test.YtkidphekfnmhhaaWSplitMath
import Derived.Test.YtkidphekfnmhhaaWBoth
import Derived.Test.YtkidphekfnmhhaaRefOns
namespace Go.Proofs.Ytkidphekfnmhhaa
open Go.RowKit

theorem half9_p (p l : List Pt) (a b : Int) (ap al : Option Addr) (cp cl np nl : Nat) (w : World) (hP : PtRow w ap p) (hL : PtRow w al l) (hll : l.length ≤ 10000) (ep : np = p.length) (el : nl = l.length) :
    Calls Try.prog 16 #[.slice ap np cp, .slice al nl cl, .int .i64 a, .int .i64 b] w (Gives (.tuple #[.int .i64 (midN p l [a, b]), .int .i64 (midE p l [a, b])]) w) := by
  subst ep el
  exact half9_l p l a b ap al cp cl w hP hL hll
theorem third9_p (p l : List Pt) (a b c : Int) (ap al : Option Addr) (cp cl np nl : Nat) (w : World) (hP : PtRow w ap p) (hL : PtRow w al l) (hll : l.length ≤ 10000) (ep : np = p.length) (el : nl = l.length) :
    Calls Try.prog 18 #[.slice ap np cp, .slice al nl cl, .int .i64 a, .int .i64 b, .int .i64 c] w (Gives (.tuple #[.int .i64 (midN p l [a, b, c]), .int .i64 (midE p l [a, b, c])]) w) := by
  subst ep el
  exact third9_l p l a b c ap al cp cl w hP hL hll
set_option maxHeartbeats 16000000 in
set_option maxRecDepth 100000 in
theorem split_l (w : World) (l : List Pt) (ap : Option Addr) (cp : Nat) (hc : l.length ≤ cp) (hP : PtRow w ap l) (_ : ap = none → cp = 0) (at' : Int) (m q : Pt) :
    Calls Try.prog 9 #[.slice ap l.length cp, .int .i64 at', .agg #[.int .i64 m.x, .int .i64 m.y], .agg #[.int .i64 q.x, .int .i64 q.y]] w (Gives (.bool true) w) := by
  have KN := Lib.hid (fun W => lawK_l W)
  have HP := Lib.hid hP
  clear hP
  go_enter Try.func9, Try.ntmps9
  go_upto_region 1 with (fail)
  refine wp_abs (fun W => Var W w.heap.size [.int .i64 m.x, .int .i64 m.y] ∧ Var W (w.heap.size + 1) [.int .i64 q.x, .int .i64 q.y] ∧ Below w.heap.size w W) ?_ ?_
  · exact ⟨(var2_new _ _ _ _ _ rfl).below (bl_one _ _), var2_new _ _ _ _ _ (by simp), by repeat (first | (with_reducible exact Below.refl _ _) | (with_reducible refine bl_alloc ?_ _) | (with_reducible refine Below.drew ?_) | (with_reducible refine below_drewN' ?_ _) | ((with_reducible refine bl_set ?_ ?_ _); (rotate_left; (dsimp only; omega))))⟩
  rintro W1 ⟨hVm, hVq, hB⟩
  have HVm := Lib.hid hVm
  have HVq := Lib.hid hVq
  have HB := Lib.hid hB
  clear hVm hVq hB
  by_cases h1 : 60 < l.length
  · have b1 : ((60 : Int) < (l.length : Int)) = True := eq_true (by omega)
    have b1' : (60 < l.length) = True := eq_true h1
    go_wp2_with fail
    (with_reducible refine (KN.out _).mono ?_); rintro e' wk ⟨rfl, hbk⟩
    have HZ := Lib.hid (bl_trans HB.out hbk)
    clear hbk
    go_wp2_with fail
    go_ret
    exact ⟨rfl, HZ.out⟩
  have b1 : ((60 : Int) < (l.length : Int)) = False := eq_false (by omega)
  have b1' : (60 < l.length) = False := eq_false h1
  by_cases h2 : l.length < 3
  · have b2 : ((l.length : Int) < 3) = True := eq_true (by omega)
    have b2' : (l.length < 3) = True := eq_true h2
    go_wp2_with fail
    (with_reducible refine (KN.out _).mono ?_); rintro e' wk ⟨rfl, hbk⟩
    have HZ := Lib.hid (bl_trans HB.out hbk)
    clear hbk
    go_wp2_with fail
    go_ret
    exact ⟨rfl, HZ.out⟩
  have b2 : ((l.length : Int) < 3) = False := eq_false (by omega)
  have b2' : (l.length < 3) = False := eq_false h2
  obtain ⟨g, o, rfl⟩ := HP.out.some (by omega)
  obtain ⟨k, hk, er⟩ := u64mod9 at' l.length (by omega) (by omega)
  obtain ⟨kk, hkk⟩ : ∃ kk, (k + 1) % l.length = kk := ⟨_, rfl⟩
  have hkl : kk < l.length := by rw [← hkk]; exact Nat.mod_lt _ (by omega)
  have F2 := Lib.hid (u64in9 (i := l.length) (by omega))
  have F3 := Lib.hid er
  have F5 := Lib.hid (show ((l.length : Int) = 0) = False from eq_false (by omega))
  have F6 := Lib.hid (show ((l.length : Int) == 0) = false from beq_eq_false_iff_ne.2 (by omega))
  have F8 := Lib.hid (show (l = []) = False from eq_false fun h => by rw [h] at h2; exact h2 (by simp))
  have F9 := Lib.hid (show IntKind.i64.wrap ((IntKind.u64.wrap at').tmod (l.length : Int)) = (k : Int) by rw [← wrap_eq9w]; exact er)
  have F7 := Lib.hid (show ((k : Int) + 1).tmod (l.length : Int) = (kk : Int) by rw [← hkk]; rfl)
  have HLn : Hid (l.length ≤ 60) := by unfold Hid; omega
  obtain ⟨a, ha⟩ : ∃ p, pget l k = p := ⟨_, rfl⟩
  obtain ⟨b, hb⟩ : ∃ p, pget l kk = p := ⟨_, rfl⟩
  have HA := Lib.hid ha
  have HBb := Lib.hid hb
  have HIN := Lib.hid (fun W => refInside_l a b m W)
  have HSp : Hid (insideB a b m = true → atN 1 (cutL l k m q) (ringL (l.length + 1)) q = atN 1 (l ++ [q]) (ringL l.length) q ∧ atE 1 (cutL l k m q) (ringL (l.length + 1)) q = atE 1 (l ++ [q]) (ringL l.length) q) := fun h =>
    split_at m q hk (by rw [hkk, ha, hb]; exact h)
  have M1 := Lib.hid (wnum (i := k) (by omega))
  have M2 := Lib.hid (wnum (i := kk) (by omega))
  have M3 := Lib.hid (wnum (i := l.length) (by omega))
  clear er h1 h2 hkk ha hb
  have f2 := F2.out
  have f3 := F3.out
  have f5 := F5.out
  have f6 := F6.out
  have f9 := F9.out
  go_upto_region 4 with (fail)
  clear f2 f3 f5 f6 f9 F2 F3 F9
  generalize insideB a b m = ib at *
  go_cut [50] (fun x W => x = .bool (!ib) ∧ Below W1.heap.size W1 W)
  case first =>
    refine wp_region_held_drew (S := fun V => Below W1.heap.size W1 V) (by kernel_rfl) ?_ (fun hHeld => ?_)
    · exact bel_drew W1
    revert hHeld
    generalize World.drew _ = W1
    intro hHeld 
    refine wpAnyH_take (i := 0) (v := ?_) rfl (by kernel_rfl) (by kernel_rfl) (by kernel_rfl) (fun _ _ _ h => h) (Or.inl ⟨by rfl, ?_⟩) (by assumption) ?_
    rotate_left
    · intro Wq hSw
      clear hSw
      go_simp
      all_goals (with_reducible rfl)
    try simp only [Act.put, List.getElem_toArray, List.getElem_cons_zero, List.setIfInBounds_toArray, List.set_cons_zero, List.set_cons_succ]
    refine wpAnyH_take (i := 1) (v := ?_) rfl (by kernel_rfl) (by kernel_rfl) (by kernel_rfl) (fun _ _ _ h => h) (Or.inl ⟨by rfl, ?_⟩) (by assumption) ?_
    rotate_left
    · intro Wq hSw
      clear hSw
      go_simp
      all_goals (with_reducible rfl)
    try simp only [Act.put, List.getElem_toArray, List.getElem_cons_succ, List.getElem_cons_zero, List.setIfInBounds_toArray, List.set_cons_zero, List.set_cons_succ]
    refine wpAnyH_take (i := 2) (v := ?_) rfl (by kernel_rfl) (by kernel_rfl) (by kernel_rfl) (fun _ _ _ h => h) (Or.inl ⟨by rfl, ?_⟩) (by assumption) ?_
    rotate_left
    · intro Wq hSw
      have b1 : ((k : Int) < (l.length : Int)) = True := eq_true (by omega)
      have d1 : (k < l.length) = True := eq_true hk
      have c1 : ((0 : Int) ≤ (k : Int)) = True := eq_true (by omega)
      clear hSw
      go_simp
      all_goals (with_reducible rfl)
    try simp only [Act.put, List.getElem_toArray, List.getElem_cons_succ, List.getElem_cons_zero, List.setIfInBounds_toArray, List.set_cons_zero, List.set_cons_succ]
    refine wpAnyH_take (i := 3) (v := ?_) rfl (by kernel_rfl) (by kernel_rfl) (by kernel_rfl) (fun _ _ _ h => h) (Or.inl ⟨by rfl, ?_⟩) (by assumption) ?_
    rotate_left
    · intro Wq hSw
      obtain ⟨k0, k1⟩ := ptRow_at (HP.out.below (bl_trans HB.out hSw)) hk HA.out
      clear hSw
      go_simp
      all_goals (with_reducible rfl)
    try simp only [Act.put, List.getElem_toArray, List.getElem_cons_succ, List.getElem_cons_zero, List.setIfInBounds_toArray, List.set_cons_zero, List.set_cons_succ]
    refine wpAnyH_take (i := 4) (v := ?_) rfl (by kernel_rfl) (by kernel_rfl) (by kernel_rfl) (fun _ _ _ h => h) (Or.inl ⟨by rfl, ?_⟩) (by assumption) ?_
    rotate_left
    · intro Wq hSw
      clear hSw
      go_simp
      all_goals (with_reducible rfl)
    try simp only [Act.put, List.getElem_toArray, List.getElem_cons_succ, List.getElem_cons_zero, List.setIfInBounds_toArray, List.set_cons_zero, List.set_cons_succ]
    refine wpAnyH_take (i := 5) (v := ?_) rfl (by kernel_rfl) (by kernel_rfl) (by kernel_rfl) (fun _ _ _ h => h) (Or.inl ⟨by rfl, ?_⟩) (by assumption) ?_
    rotate_left
    · intro Wq hSw
      clear hSw
      go_simp
      all_goals (with_reducible rfl)
    try simp only [Act.put, List.getElem_toArray, List.getElem_cons_succ, List.getElem_cons_zero, List.setIfInBounds_toArray, List.set_cons_zero, List.set_cons_succ]
    refine wpAnyH_take (i := 6) (v := ?_) rfl (by kernel_rfl) (by kernel_rfl) (by kernel_rfl) (fun _ _ _ h => h) (Or.inl ⟨by rfl, ?_⟩) (by assumption) ?_
    rotate_left
    · intro Wq hSw
      have n1 := M1.out.2.2.1
      have n2 := M1.out.2.2.2
      clear hSw
      go_simp
      all_goals (with_reducible rfl)
    try simp only [Act.put, List.getElem_toArray, List.getElem_cons_succ, List.getElem_cons_zero, List.setIfInBounds_toArray, List.set_cons_zero, List.set_cons_succ]
    refine wpAnyH_take (i := 7) (v := ?_) rfl (by kernel_rfl) (by kernel_rfl) (by kernel_rfl) (fun _ _ _ h => h) (Or.inl ⟨by rfl, ?_⟩) (by assumption) ?_
    rotate_left
    · intro Wq hSw
      clear hSw
      go_simp
      all_goals (with_reducible rfl)
    try simp only [Act.put, List.getElem_toArray, List.getElem_cons_succ, List.getElem_cons_zero, List.setIfInBounds_toArray, List.set_cons_zero, List.set_cons_succ]
    refine wpAnyH_take (i := 8) (v := ?_) rfl (by kernel_rfl) (by kernel_rfl) (by kernel_rfl) (fun _ _ _ h => h) (Or.inl ⟨by rfl, ?_⟩) (by assumption) ?_
    rotate_left
    · intro Wq hSw
      clear hSw
      go_simp
      all_goals (with_reducible rfl)
    try simp only [Act.put, List.getElem_toArray, List.getElem_cons_succ, List.getElem_cons_zero, List.setIfInBounds_toArray, List.set_cons_zero, List.set_cons_succ]
    refine wpAnyH_take (i := 9) (v := ?_) rfl (by kernel_rfl) (by kernel_rfl) (by kernel_rfl) (fun _ _ _ h => h) (Or.inl ⟨by rfl, ?_⟩) (by assumption) ?_
    rotate_left
    · intro Wq hSw
      have n3 := F7.out
      have n4 := F5.out
      have n5 := F6.out
      have n6 := M2.out.1
      have n7 := M2.out.2.1
      have n8 := F8.out
      clear hSw
      go_simp
      all_goals (with_reducible rfl)
    try simp only [Act.put, List.getElem_toArray, List.getElem_cons_succ, List.getElem_cons_zero, List.setIfInBounds_toArray, List.set_cons_zero, List.set_cons_succ]
    refine wpAnyH_take (i := 10) (v := ?_) rfl (by kernel_rfl) (by kernel_rfl) (by kernel_rfl) (fun _ _ _ h => h) (Or.inl ⟨by rfl, ?_⟩) (by assumption) ?_
    rotate_left
    · intro Wq hSw
      have b1 : ((kk : Int) < (l.length : Int)) = True := eq_true (by omega)
      have d1 : (kk < l.length) = True := eq_true hkl
      have c1 : ((0 : Int) ≤ (kk : Int)) = True := eq_true (by omega)
      clear hSw
      go_simp
      all_goals (with_reducible rfl)
    try simp only [Act.put, List.getElem_toArray, List.getElem_cons_succ, List.getElem_cons_zero, List.setIfInBounds_toArray, List.set_cons_zero, List.set_cons_succ]
    refine wpAnyH_take (i := 11) (v := ?_) rfl (by kernel_rfl) (by kernel_rfl) (by kernel_rfl) (fun _ _ _ h => h) (Or.inl ⟨by rfl, ?_⟩) (by assumption) ?_
    rotate_left
    · intro Wq hSw
      obtain ⟨k0, k1⟩ := ptRow_at (HP.out.below (bl_trans HB.out hSw)) hkl HBb.out
      clear hSw
      go_simp
      all_goals (with_reducible rfl)
    try simp only [Act.put, List.getElem_toArray, List.getElem_cons_succ, List.getElem_cons_zero, List.setIfInBounds_toArray, List.set_cons_zero, List.set_cons_succ]
    refine wpAnyH_take (i := 12) (v := ?_) rfl (by kernel_rfl) (by kernel_rfl) (by kernel_rfl) (fun _ _ _ h => h) (Or.inl ⟨by rfl, ?_⟩) (by assumption) ?_
    rotate_left
    · intro Wq hSw
      obtain ⟨k0, k1⟩ := (HVm.out.below hSw).two
      clear hSw
      go_simp
      all_goals (with_reducible rfl)
    try simp only [Act.put, List.getElem_toArray, List.getElem_cons_succ, List.getElem_cons_zero, List.setIfInBounds_toArray, List.set_cons_zero, List.set_cons_succ]
    refine r1 (i := 13) rfl (fun K hK => ?_)
    go_simp
    (with_reducible refine (HIN.out _).mono ?_)
    rintro e' wz ⟨rfl, hb1⟩
    go_wp2_with fail
    refine hK.out _ _ (bl_trans hHeld hb1) (fun hHeld2 => ?_)
    clear hK K hHeld
    have hHeld := hHeld2
    clear hHeld2
    try simp only [Act.put, List.getElem_toArray, List.getElem_cons_succ, List.getElem_cons_zero, List.setIfInBounds_toArray, List.set_cons_zero, List.set_cons_succ]
    refine wpAnyH_take (i := 14) (v := ?_) rfl (by kernel_rfl) (by kernel_rfl) (by kernel_rfl) (fun _ _ _ h => h) (Or.inl ⟨by rfl, ?_⟩) (by assumption) ?_
    rotate_left
    · intro Wq hSw
      clear hSw
      go_simp
      all_goals (with_reducible rfl)
    try simp only [Act.put, List.getElem_toArray, List.getElem_cons_succ, List.getElem_cons_zero, List.setIfInBounds_toArray, List.set_cons_zero, List.set_cons_succ]
    refine wpAnyH_done (by kernel_rfl) ?_ _
    go_wp2_with fail
    go_meet
    case rel => exact ⟨rfl, hHeld⟩
  case rest =>
  obtain ⟨rfl, hbc⟩ := hcut
  replace HVm := Lib.hid (HVm.out.below hbc)
  replace HVq := Lib.hid (HVq.out.below hbc)
  replace HB := Lib.hid (bl_trans HB.out hbc)
  clear hbc HIN
  cases ib
  case false =>
    go_wp2_with fail
    (with_reducible refine (KN.out _).mono ?_); rintro e' wk ⟨rfl, hbk⟩
    have HZ := Lib.hid (bl_trans HB.out hbk)
    clear hbk
    go_wp2_with fail
    go_ret
    exact ⟨rfl, HZ.out⟩
  case true =>
  obtain ⟨hs1, hs2⟩ := HSp.out rfl
  have HS := Lib.hid (And.intro hs1 hs2)
  clear hs1 hs2 HSp HA HBb M2 F7 F5 F6
  have n1 := M1.out.2.2.1
  have n2 := M1.out.2.2.2
  have b3 : ((k : Int) + 1 ≤ (cp : Int)) = True := eq_true (by omega)
  have b3' : (k + 1 ≤ cp) = True := eq_true (by omega)
  have c3 : ((0 : Int) ≤ (k : Int) + 1) = True := eq_true (by omega)
  have b4 : ((k : Int) + 1 ≤ (l.length : Int)) = True := eq_true (by omega)
  have b4' : (k + 1 ≤ l.length) = True := eq_true (by omega)
  have b6 : ((l.length : Int) ≤ (cp : Int)) = True := eq_true (by omega)
  have b6' : (l.length ≤ cp) = True := eq_true hc
  obtain ⟨W3, eW⟩ : ∃ W, W = wc := ⟨_, rfl⟩
  subst eW
  have HP3 := Lib.hid (HP.out.below HB.out)
  go_wp2_with (at_builtin; refine app_pts rfl Try.underlying22 info_pt9 _ _ rfl rfl (op_nil _ W3) rfl (L := l.take (k + 1)) ?x0 (HP3.out.take (k + 1)) (fun h => by cases h) ?x1 ?_)
  case x0 => simp; omega
  case x1 => have := HLn.out; rw [List.length_take]; simp only [List.length_nil]; omega
  intro v1 w4 hO1
  have HO1 := Lib.hid hO1
  obtain ⟨a7, c7, rfl, -, -, -⟩ := hO1.slice
  clear hO1
  obtain ⟨c0, c1⟩ := (HVm.out.below HO1.out.hb).two
  go_wp2_with (at_builtin; refine app_pts rfl Try.underlying22 info_pt9 _ _ rfl rfl (HO1.out.alloc _) rfl (L := [m]) rfl (ptRow_new _ m _) (fun h => by cases h) ?x1 ?_)
  case x1 => have := HLn.out; simp only [List.length_append, List.length_take, List.length_nil, List.length_singleton]; omega
  intro v2 w5 hO2
  have HO2 := Lib.hid hO2
  obtain ⟨a8, c8, ev8, -, -, -⟩ := hO2.slice
  simp only [List.nil_append, List.length_append, List.length_take, List.length_singleton] at ev8
  rw [Nat.min_eq_left (by omega)] at ev8
  subst ev8
  clear hO2 HO1 c0 c1
  have HP5 := Lib.hid (HP3.out.below HO2.out.hb)
  have HPd : Hid (PtRow w5 (some ⟨g, o + (k + 1) * 2, none⟩) (l.drop (k + 1))) := HP5.out.drop (k + 1) (fun g' o' e _ => by cases e; rfl)
  clear HP3
  have HO2b := Lib.hid (HO2.out.congr9 (show ([] ++ l.take (k + 1)) ++ [m] = l.take (k + 1) ++ [m] by rw [List.nil_append]))
  clear HO2
  obtain ⟨D1, hD1⟩ : ∃ D, l.take (k + 1) ++ [m] = D := ⟨_, rfl⟩
  obtain ⟨Ld, hLd⟩ : ∃ D, l.drop (k + 1) = D := ⟨_, rfl⟩
  obtain ⟨D2, hD2⟩ : ∃ D, D1 ++ Ld = D := ⟨_, rfl⟩
  have hl8 : D1.length = k + 2 := by rw [← hD1, List.length_append, List.length_take, List.length_singleton]; omega
  have hld : Ld.length = l.length - (k + 1) := by rw [← hLd, List.length_drop]
  have hl9 : D2.length = l.length + 1 := by rw [← hD2, List.length_append, hl8, hld]; omega
  have hcut9 : D2 ++ [q] = cutL l k m q := by rw [← hD2, ← hD1, ← hLd]; rfl
  rw [hD1] at HO2b
  rw [hLd] at HPd
  have HD2 := Lib.hid hD2
  have HL8 := Lib.hid hl8
  have HLd := Lib.hid hld
  have HL9 := Lib.hid hl9
  have HCut := Lib.hid hcut9
  clear hD1 hLd hD2 hl8 hld hl9 hcut9
  go_upto_region 9 with (fail)
  go_cut [10] (fun v W => Op 25 W3 v D2 W)
  case first =>
    by_cases hcp : cp = k + 1
    · have b5 : (cp = k + 1) = True := eq_true hcp
      have h0 : Ld = [] := List.length_eq_zero_iff.1 (by have := HLd.out; omega)
      have e9 : D1 ++ [] = D2 := by rw [← HD2.out, h0]
      have HE9 := Lib.hid e9
      have e0 : l.length - (k + 1) = 0 := by omega
      have e1 : cp - (k + 1) = 0 := by omega
      clear h0 hcp e9
      go_wp2_with (at_builtin; refine app_pts rfl Try.underlying22 info_pt9 _ _ rfl rfl HO2b.out rfl (L := []) ?x0 (ptRow_nil _ _) ?x2 ?x1 ?_)
      case x0 => first | rfl | (simp; done) | (simp; omega)
      case x1 => have := HLn.out; have := HL8.out; simp only [List.length_nil]; omega
      intro v3 w6 hO3
      have HO3 : Hid (Op 25 W3 v3 D2 w6) := by
        have e := HE9.out
        first | exact hO3.congr9 e | exact hO3.congr9 ((List.append_nil D1).symm.trans e)
      clear hO3 HO2b
      go_wp2_with fail
      go_meet
      case rel => exact HO3.out
    · have b5 : (cp = k + 1) = False := eq_false hcp
      go_wp2_with (at_builtin; refine app_pts rfl Try.underlying22 info_pt9 _ _ rfl rfl HO2b.out rfl (L := Ld) HLd.out.symm HPd.out (fun h => by cases h) ?x1 ?_)
      case x1 => have := HLn.out; have := HL8.out; have := HLd.out; omega
      intro v3 w6 hO3
      have HO3 := Lib.hid (hO3.congr9 HD2.out)
      clear hO3 HO2b
      go_wp2_with fail
      go_meet
      case rel => exact HO3.out
  case rest =>
  have HO3 := Lib.hid hcut
  obtain ⟨a9, c9, rfl, -, -, -⟩ := hcut.slice
  clear hcut HO2b HPd HP5 b3 b3' c3 b4 b4' n1 n2 HD2 HL8 HLd
  obtain ⟨c0, c1⟩ := (HVq.out.below HO3.out.hb).two
  go_wp2_with (at_builtin; refine app_pts rfl Try.underlying22 info_pt9 _ _ rfl rfl (HO3.out.alloc _) rfl (L := [q]) rfl (ptRow_new _ q _) (fun h => by cases h) ?x1 ?_)
  case x1 => have := HLn.out; have := HL9.out; simp only [List.length_singleton]; omega
  intro v4 w7 hO4
  have hb7 := hO4.hb
  obtain ⟨a10, c10, ev, hc10, hR10, hn10⟩ := hO4.pts
  rw [List.length_append, HL9.out, List.length_singleton] at ev hc10
  subst ev
  rw [HCut.out] at hR10
  have HR10 := Lib.hid hR10
  replace HVm := Lib.hid (HVm.out.below hb7)
  replace HVq := Lib.hid (HVq.out.below hb7)
  replace HB := Lib.hid (bl_trans HB.out hb7)
  clear hO4 HO3 hb7 hR10 c0 c1 HL9 HCut
  obtain ⟨g10, o10, rfl⟩ := HR10.out.some (by rw [cutL_len l m q hk]; omega)
  have HP7 := Lib.hid (HP.out.below HB.out)
  go_wp2_with (at_builtin; refine app_pts rfl Try.underlying22 info_pt9 _ _ rfl rfl (op_nil _ w7) rfl (L := l) rfl HP7.out (fun h => by cases h) ?x1 ?_)
  case x1 => have := HLn.out; simp only [List.length_nil]; omega
  intro v5 w8 hO1
  have HO1 := Lib.hid hO1
  obtain ⟨a11, c11, rfl, -, -, -⟩ := hO1.slice
  clear hO1 HP7
  obtain ⟨c0, c1⟩ := (HVq.out.below HO1.out.hb).two
  go_wp2_with (at_builtin; refine app_pts rfl Try.underlying22 info_pt9 _ _ rfl rfl (HO1.out.alloc _) rfl (L := [q]) rfl (ptRow_new _ q _) (fun h => by cases h) ?x1 ?_)
  case x1 => have := HLn.out; simp only [List.length_singleton]; omega
  intro v6 w9 hO2
  have hb9 := hO2.hb
  obtain ⟨a12, c12, ev, hc12, hR12, hn12⟩ := hO2.slice
  rw [List.length_append, List.length_singleton] at ev
  subst ev
  have HR12 := Lib.hid hR12
  replace HVm := Lib.hid (HVm.out.below hb9)
  replace HVq := Lib.hid (HVq.out.below hb9)
  replace HR10 := Lib.hid (HR10.out.below hb9)
  replace HB := Lib.hid (bl_trans HB.out hb9)
  clear hO2 HO1 hb9 hR12 hc12 c0 c1
  have hll : (ringL l.length).length ≤ 10000 := by have := HLn.out; rw [ringL_len]; omega
  have hll1 : (ringL (l.length + 1)).length ≤ 10000 := by have := HLn.out; rw [ringL_len]; omega
  have elo : l.length + 1 = (l ++ [q]).length := by rw [List.length_append, List.length_singleton]
  have elr : l.length + 1 + 1 = (cutL l k m q).length := by rw [cutL_len l m q hk]
  obtain ⟨n0, hn0⟩ : ∃ z, atN 1 (l ++ [q]) (ringL l.length) q = z := ⟨_, rfl⟩
  obtain ⟨e0, he0⟩ : ∃ z, atE 1 (l ++ [q]) (ringL l.length) q = z := ⟨_, rfl⟩
  have HQ1 := Lib.hid (And.intro hn0 he0)
  have HQ2 := HS
  rw [hn0, he0] at HQ2
  have HD2 := Lib.hid (mid_last l q (ringL l.length) [(l.length : Int), (l.length : Int)] (.inl rfl))
  have HD3 := Lib.hid (mid_last l q (ringL l.length) [(l.length : Int), (l.length : Int), (l.length : Int)] (.inr rfl))
  rw [hn0] at HD2 HD3
  have HRi := Lib.hid (fun ad cc W => ring9_l l.length ad cc W (by have := HLn.out; omega))
  have HRj := Lib.hid (fun ad cc W => ring9_l (l.length + 1) ad cc W (by have := HLn.out; omega))
  have HC1 := Lib.hid (fun al cl W (h : Below w9.heap.size w9 W) (hL : PtRow W al (ringL l.length)) => at9_p (l ++ [q]) (ringL l.length) q HQ1.out a12 al c12 cl _ _ W (HR12.out.below h) hL hll elo rfl)
  have HC2 := Lib.hid (fun al cl W (h : Below w9.heap.size w9 W) (hL : PtRow W al (ringL (l.length + 1))) => at9_p (cutL l k m q) (ringL (l.length + 1)) q HQ2.out (some ⟨g10, o10, none⟩) al c10 cl _ _ W (HR10.out.below h) hL hll1 elr rfl)
  have HC3 := Lib.hid (fun al cl W (h : Below w9.heap.size w9 W) (hL : PtRow W al (ringL l.length)) => half9_p (l ++ [q]) (ringL l.length) (l.length : Int) (l.length : Int) a12 al c12 cl _ _ W (HR12.out.below h) hL hll elo (ringL_len l.length).symm)
  have HC4 := Lib.hid (fun al cl W (h : Below w9.heap.size w9 W) (hL : PtRow W al (ringL l.length)) => third9_p (l ++ [q]) (ringL l.length) (l.length : Int) (l.length : Int) (l.length : Int) a12 al c12 cl _ _ W (HR12.out.below h) hL hll elo (ringL_len l.length).symm)
  generalize midN (l ++ [q]) (ringL l.length) [(l.length : Int), (l.length : Int)] = z2 at *
  generalize midE (l ++ [q]) (ringL l.length) [(l.length : Int), (l.length : Int)] = y2 at *
  generalize midN (l ++ [q]) (ringL l.length) [(l.length : Int), (l.length : Int), (l.length : Int)] = z3 at *
  generalize midE (l ++ [q]) (ringL l.length) [(l.length : Int), (l.length : Int), (l.length : Int)] = y3 at *
  clear hll hll1 elo elr hn0 he0 HS HQ1 HQ2 HR10 HR12 HP hn12 HVm
  go_upto_region 14 with (fail)
  go_cut [12, 13] (fun u v W => u = .int .i64 n0 ∧ v = .int .i64 e0 ∧ Below w9.heap.size w9 W)
  case first =>
    refine wp_region_held_drew (S := fun V => Below w9.heap.size w9 V) (by kernel_rfl) ?_ (fun hHeld => ?_)
    · exact bel_drew w9
    revert hHeld
    generalize World.drew _ = W1
    intro hHeld 
    refine wpAnyH_take (i := 0) (v := ?_) rfl (by kernel_rfl) (by kernel_rfl) (by kernel_rfl) (fun _ _ _ h => h) (Or.inl ⟨by rfl, ?_⟩) (by assumption) ?_
    rotate_left
    · intro Wq hSw
      clear hSw
      go_simp
      all_goals (with_reducible rfl)
    try simp only [Act.put, List.getElem_toArray, List.getElem_cons_zero, List.setIfInBounds_toArray, List.set_cons_zero, List.set_cons_succ]
    refine wpAnyH_take (i := 1) (v := ?_) rfl (by kernel_rfl) (by kernel_rfl) (by kernel_rfl) (fun _ _ _ h => h) (Or.inl ⟨by rfl, ?_⟩) (by assumption) ?_
    rotate_left
    · intro Wq hSw
      clear hSw
      go_simp
      all_goals (with_reducible rfl)
    try simp only [Act.put, List.getElem_toArray, List.getElem_cons_succ, List.getElem_cons_zero, List.setIfInBounds_toArray, List.set_cons_zero, List.set_cons_succ]
    refine wpAnyH_take (i := 3) (v := ?_) rfl (by kernel_rfl) (by kernel_rfl) (by kernel_rfl) (fun _ _ _ h => h) (Or.inl ⟨by rfl, ?_⟩) (by assumption) ?_
    rotate_left
    · intro Wq hSw
      obtain ⟨k0, k1⟩ := (HVq.out.below hSw).two
      clear hSw
      go_simp
      all_goals (with_reducible rfl)
    try simp only [Act.put, List.getElem_toArray, List.getElem_cons_succ, List.getElem_cons_zero, List.setIfInBounds_toArray, List.set_cons_zero, List.set_cons_succ]
    refine r1 (i := 2) rfl (fun K hK => ?_)
    go_simp
    (with_reducible refine (HRi.out _ _ _).mono ?_)
    rintro e' w2 ⟨v2, rfl, hO⟩
    have hb1 := hO.hb
    obtain ⟨al, cl, rfl, -, hL, -⟩ := hO.pts
    have HL := Lib.hid hL
    clear hO hL
    go_wp2_with fail
    refine hK.out _ _ (bl_trans hHeld hb1) (fun hHeld2 => ?_)
    clear hK K hHeld
    have hHeld := hHeld2
    clear hHeld2
    try simp only [Act.put, List.getElem_toArray, List.getElem_cons_succ, List.getElem_cons_zero, List.setIfInBounds_toArray, List.set_cons_zero, List.set_cons_succ]
    refine r1 (i := 4) rfl (fun K hK => ?_)
    go_simp
    (with_reducible refine (HC1.out _ _ _ hHeld HL.out).mono ?_)
    rintro e' wz ⟨rfl, hb1⟩
    go_wp2_with fail
    refine hK.out _ _ (bl_trans hHeld hb1) (fun hHeld2 => ?_)
    clear hK K hHeld
    have hHeld := hHeld2
    clear hHeld2
    try simp only [Act.put, List.getElem_toArray, List.getElem_cons_succ, List.getElem_cons_zero, List.setIfInBounds_toArray, List.set_cons_zero, List.set_cons_succ]
    refine wpAnyH_take (i := 5) (v := ?_) rfl (by kernel_rfl) (by kernel_rfl) (by kernel_rfl) (fun _ _ _ h => h) (Or.inl ⟨by rfl, ?_⟩) (by assumption) ?_
    rotate_left
    · intro Wq hSw
      clear hSw
      go_simp
      all_goals (with_reducible rfl)
    try simp only [Act.put, List.getElem_toArray, List.getElem_cons_succ, List.getElem_cons_zero, List.setIfInBounds_toArray, List.set_cons_zero, List.set_cons_succ]
    refine wpAnyH_take (i := 6) (v := ?_) rfl (by kernel_rfl) (by kernel_rfl) (by kernel_rfl) (fun _ _ _ h => h) (Or.inl ⟨by rfl, ?_⟩) (by assumption) ?_
    rotate_left
    · intro Wq hSw
      clear hSw
      go_simp
      all_goals (with_reducible rfl)
    try simp only [Act.put, List.getElem_toArray, List.getElem_cons_succ, List.getElem_cons_zero, List.setIfInBounds_toArray, List.set_cons_zero, List.set_cons_succ]
    refine wpAnyH_take (i := 7) (v := ?_) rfl (by kernel_rfl) (by kernel_rfl) (by kernel_rfl) (fun _ _ _ h => h) (Or.inl ⟨by rfl, ?_⟩) (by assumption) ?_
    rotate_left
    · intro Wq hSw
      clear hSw
      go_simp
      all_goals (with_reducible rfl)
    try simp only [Act.put, List.getElem_toArray, List.getElem_cons_succ, List.getElem_cons_zero, List.setIfInBounds_toArray, List.set_cons_zero, List.set_cons_succ]
    refine wpAnyH_take (i := 8) (v := ?_) rfl (by kernel_rfl) (by kernel_rfl) (by kernel_rfl) (fun _ _ _ h => h) (Or.inl ⟨by rfl, ?_⟩) (by assumption) ?_
    rotate_left
    · intro Wq hSw
      clear hSw
      go_simp
      all_goals (with_reducible rfl)
    try simp only [Act.put, List.getElem_toArray, List.getElem_cons_succ, List.getElem_cons_zero, List.setIfInBounds_toArray, List.set_cons_zero, List.set_cons_succ]
    refine wpAnyH_take (i := 9) (v := ?_) rfl (by kernel_rfl) (by kernel_rfl) (by kernel_rfl) (fun _ _ _ h => h) (Or.inl ⟨by rfl, ?_⟩) (by assumption) ?_
    rotate_left
    · intro Wq hSw
      clear hSw
      go_simp
      all_goals (with_reducible rfl)
    try simp only [Act.put, List.getElem_toArray, List.getElem_cons_succ, List.getElem_cons_zero, List.setIfInBounds_toArray, List.set_cons_zero, List.set_cons_succ]
    refine wpAnyH_done (by kernel_rfl) ?_ _
    go_wp2_with fail
    go_meet
    case rel => exact ⟨rfl, rfl, hHeld⟩
  case rest =>
  obtain ⟨rfl, rfl, hbc⟩ := hcut
  have HB9 := Lib.hid hbc
  clear hbc HC1
  go_upto_region 15 with (fail)
  obtain ⟨WD, eW⟩ : ∃ W, W = wc := ⟨_, rfl⟩
  subst eW
  go_cut [14, 15] (fun u v W => u = .int .i64 n0 ∧ v = .int .i64 e0 ∧ Below WD.heap.size WD W)
  case first =>
    refine wp_region_held_drew (S := fun V => Below WD.heap.size WD V) (by kernel_rfl) ?_ (fun hHeld => ?_)
    · exact bel_drew WD
    revert hHeld
    generalize World.drew _ = W1
    intro hHeld 
    refine wpAnyH_take (i := 0) (v := ?_) rfl (by kernel_rfl) (by kernel_rfl) (by kernel_rfl) (fun _ _ _ h => h) (Or.inl ⟨by rfl, ?_⟩) (by assumption) ?_
    rotate_left
    · intro Wq hSw
      clear hSw
      go_simp
      all_goals (with_reducible rfl)
    try simp only [Act.put, List.getElem_toArray, List.getElem_cons_zero, List.setIfInBounds_toArray, List.set_cons_zero, List.set_cons_succ]
    refine wpAnyH_take (i := 1) (v := ?_) rfl (by kernel_rfl) (by kernel_rfl) (by kernel_rfl) (fun _ _ _ h => h) (Or.inl ⟨by rfl, ?_⟩) (by assumption) ?_
    rotate_left
    · intro Wq hSw
      clear hSw
      go_simp
      all_goals (with_reducible rfl)
    try simp only [Act.put, List.getElem_toArray, List.getElem_cons_succ, List.getElem_cons_zero, List.setIfInBounds_toArray, List.set_cons_zero, List.set_cons_succ]
    refine wpAnyH_take (i := 2) (v := ?_) rfl (by kernel_rfl) (by kernel_rfl) (by kernel_rfl) (fun _ _ _ h => h) (Or.inl ⟨by rfl, ?_⟩) (by assumption) ?_
    rotate_left
    · intro Wq hSw
      clear hSw
      go_simp
      all_goals (with_reducible rfl)
    try simp only [Act.put, List.getElem_toArray, List.getElem_cons_succ, List.getElem_cons_zero, List.setIfInBounds_toArray, List.set_cons_zero, List.set_cons_succ]
    refine wpAnyH_take (i := 3) (v := ?_) rfl (by kernel_rfl) (by kernel_rfl) (by kernel_rfl) (fun _ _ _ h => h) (Or.inl ⟨by rfl, ?_⟩) (by assumption) ?_
    rotate_left
    · intro Wq hSw
      clear hSw
      go_simp
      all_goals (with_reducible rfl)
    try simp only [Act.put, List.getElem_toArray, List.getElem_cons_succ, List.getElem_cons_zero, List.setIfInBounds_toArray, List.set_cons_zero, List.set_cons_succ]
    refine wpAnyH_take (i := 4) (v := ?_) rfl (by kernel_rfl) (by kernel_rfl) (by kernel_rfl) (fun _ _ _ h => h) (Or.inl ⟨by rfl, ?_⟩) (by assumption) ?_
    rotate_left
    · intro Wq hSw
      have n1 := M3.out.2.2.1
      have n2 := M3.out.2.2.2
      clear hSw
      go_simp
      all_goals (with_reducible rfl)
    try simp only [Act.put, List.getElem_toArray, List.getElem_cons_succ, List.getElem_cons_zero, List.setIfInBounds_toArray, List.set_cons_zero, List.set_cons_succ]
    refine wpAnyH_take (i := 5) (v := ?_) rfl (by kernel_rfl) (by kernel_rfl) (by kernel_rfl) (fun _ _ _ h => h) (Or.inl ⟨by rfl, ?_⟩) (by assumption) ?_
    rotate_left
    · intro Wq hSw
      have s1 := hc10
      have s2 : ((l.length : Int) + 1 ≤ (c10 : Int)) = True := eq_true (by omega)
      have s3 : (l.length + 1 ≤ c10) = True := eq_true (by omega)
      have s4 : ((0 : Int) ≤ (l.length : Int) + 1) = True := eq_true (by omega)
      clear hSw
      go_simp
      all_goals (with_reducible rfl)
    try simp only [Act.put, List.getElem_toArray, List.getElem_cons_succ, List.getElem_cons_zero, List.setIfInBounds_toArray, List.set_cons_zero, List.set_cons_succ]
    refine wpAnyH_take (i := 7) (v := ?_) rfl (by kernel_rfl) (by kernel_rfl) (by kernel_rfl) (fun _ _ _ h => h) (Or.inl ⟨by rfl, ?_⟩) (by assumption) ?_
    rotate_left
    · intro Wq hSw
      obtain ⟨k0, k1⟩ := (HVq.out.below (bl_trans HB9.out hSw)).two
      clear hSw
      go_simp
      all_goals (with_reducible rfl)
    try simp only [Act.put, List.getElem_toArray, List.getElem_cons_succ, List.getElem_cons_zero, List.setIfInBounds_toArray, List.set_cons_zero, List.set_cons_succ]
    refine r1 (i := 6) rfl (fun K hK => ?_)
    go_simp
    (with_reducible refine (HRj.out _ _ _).mono ?_)
    rintro e' w2 ⟨v2, rfl, hO⟩
    have hb1 := hO.hb
    obtain ⟨al, cl, rfl, -, hL, -⟩ := hO.pts
    have HL := Lib.hid hL
    clear hO hL
    go_wp2_with fail
    refine hK.out _ _ (bl_trans hHeld hb1) (fun hHeld2 => ?_)
    clear hK K hHeld
    have hHeld := hHeld2
    clear hHeld2
    try simp only [Act.put, List.getElem_toArray, List.getElem_cons_succ, List.getElem_cons_zero, List.setIfInBounds_toArray, List.set_cons_zero, List.set_cons_succ]
    refine r1 (i := 8) rfl (fun K hK => ?_)
    go_simp
    (with_reducible refine (HC2.out _ _ _ (bl_trans HB9.out hHeld) HL.out).mono ?_)
    rintro e' wz ⟨rfl, hb1⟩
    go_wp2_with fail
    refine hK.out _ _ (bl_trans hHeld hb1) (fun hHeld2 => ?_)
    clear hK K hHeld
    have hHeld := hHeld2
    clear hHeld2
    try simp only [Act.put, List.getElem_toArray, List.getElem_cons_succ, List.getElem_cons_zero, List.setIfInBounds_toArray, List.set_cons_zero, List.set_cons_succ]
    refine wpAnyH_take (i := 9) (v := ?_) rfl (by kernel_rfl) (by kernel_rfl) (by kernel_rfl) (fun _ _ _ h => h) (Or.inl ⟨by rfl, ?_⟩) (by assumption) ?_
    rotate_left
    · intro Wq hSw
      clear hSw
      go_simp
      all_goals (with_reducible rfl)
    try simp only [Act.put, List.getElem_toArray, List.getElem_cons_succ, List.getElem_cons_zero, List.setIfInBounds_toArray, List.set_cons_zero, List.set_cons_succ]
    refine wpAnyH_take (i := 10) (v := ?_) rfl (by kernel_rfl) (by kernel_rfl) (by kernel_rfl) (fun _ _ _ h => h) (Or.inl ⟨by rfl, ?_⟩) (by assumption) ?_
    rotate_left
    · intro Wq hSw
      clear hSw
      go_simp
      all_goals (with_reducible rfl)
    try simp only [Act.put, List.getElem_toArray, List.getElem_cons_succ, List.getElem_cons_zero, List.setIfInBounds_toArray, List.set_cons_zero, List.set_cons_succ]
    refine wpAnyH_take (i := 11) (v := ?_) rfl (by kernel_rfl) (by kernel_rfl) (by kernel_rfl) (fun _ _ _ h => h) (Or.inl ⟨by rfl, ?_⟩) (by assumption) ?_
    rotate_left
    · intro Wq hSw
      clear hSw
      go_simp
      all_goals (with_reducible rfl)
    try simp only [Act.put, List.getElem_toArray, List.getElem_cons_succ, List.getElem_cons_zero, List.setIfInBounds_toArray, List.set_cons_zero, List.set_cons_succ]
    refine wpAnyH_take (i := 12) (v := ?_) rfl (by kernel_rfl) (by kernel_rfl) (by kernel_rfl) (fun _ _ _ h => h) (Or.inl ⟨by rfl, ?_⟩) (by assumption) ?_
    rotate_left
    · intro Wq hSw
      clear hSw
      go_simp
      all_goals (with_reducible rfl)
    try simp only [Act.put, List.getElem_toArray, List.getElem_cons_succ, List.getElem_cons_zero, List.setIfInBounds_toArray, List.set_cons_zero, List.set_cons_succ]
    refine wpAnyH_take (i := 13) (v := ?_) rfl (by kernel_rfl) (by kernel_rfl) (by kernel_rfl) (fun _ _ _ h => h) (Or.inl ⟨by rfl, ?_⟩) (by assumption) ?_
    rotate_left
    · intro Wq hSw
      clear hSw
      go_simp
      all_goals (with_reducible rfl)
    try simp only [Act.put, List.getElem_toArray, List.getElem_cons_succ, List.getElem_cons_zero, List.setIfInBounds_toArray, List.set_cons_zero, List.set_cons_succ]
    refine wpAnyH_done (by kernel_rfl) ?_ _
    go_wp2_with fail
    go_meet
    case rel => exact ⟨rfl, rfl, hHeld⟩
  case rest =>
  obtain ⟨rfl, rfl, hbc⟩ := hcut
  replace HB9 := Lib.hid (bl_trans HB9.out hbc)
  clear hbc HC2 HRj HVq
  go_wp2_with fail
  (with_reducible refine (HRi.out _ _ _).mono ?_); rintro e' w10 ⟨v8, rfl, hO⟩
  have hb2 := hO.hb
  obtain ⟨a8, c8, ev, -, hL, -⟩ := hO.pts
  rw [ringL_len] at ev
  subst ev
  have HL8 := Lib.hid hL
  replace HB9 := Lib.hid (bl_trans HB9.out hb2)
  clear hO hL hb2
  have HC3b := Lib.hid (HC3.out a8 c8 _ HB9.out HL8.out)
  clear HC3 HL8
  go_wp2_with fail
  (with_reducible refine HC3b.out.mono ?_); rintro e' w11 ⟨rfl, hb2⟩
  replace HB9 := Lib.hid (bl_trans HB9.out hb2)
  clear hb2 HC3b
  go_wp2_with fail
  (with_reducible refine (HRi.out _ _ _).mono ?_); rintro e' w12 ⟨v9, rfl, hO⟩
  have hb2 := hO.hb
  obtain ⟨a9b, c9b, ev, -, hL, -⟩ := hO.pts
  rw [ringL_len] at ev
  subst ev
  have HL8 := Lib.hid hL
  replace HB9 := Lib.hid (bl_trans HB9.out hb2)
  clear hO hL hb2 HRi
  have HC4b := Lib.hid (HC4.out a9b c9b _ HB9.out HL8.out)
  clear HC4 HL8
  go_wp2_with fail
  (with_reducible refine HC4b.out.mono ?_); rintro e' w13 ⟨rfl, hb2⟩
  replace HB := Lib.hid (bl_trans HB.out (bl_trans HB9.out hb2))
  clear hb2 HC4b HB9
  have h2 := HD2.out
  have h3 := HD3.out
  clear HD2 HD3
  have g2 : (y2 ≠ 0) ∨ (y2 = 0 ∧ z2 = n0) := by omega
  have g3 : (y3 ≠ 0) ∨ (y3 = 0 ∧ z3 = n0) := by omega
  clear h2 h3
  rcases g2 with h2 | ⟨rfl, rfl⟩ <;> rcases g3 with h3 | ⟨rfl, rfl⟩
  · have u1 : (y2 != 0) = true := bne_iff_ne.2 h2
    have u2 : (y2 = 0) = False := eq_false h2
    have u3 : (y3 != 0) = true := bne_iff_ne.2 h3
    have u4 : (y3 = 0) = False := eq_false h3
    clear h2 h3
    go_wp2_with fail
    (with_reducible refine (KN.out _).mono ?_); rintro e' wk ⟨rfl, hbk⟩
    have HZ := Lib.hid (bl_trans HB.out hbk)
    clear hbk
    go_wp2_with fail
    go_ret
    exact ⟨rfl, HZ.out⟩
  · have u1 : (y2 != 0) = true := bne_iff_ne.2 h2
    have u2 : (y2 = 0) = False := eq_false h2
    clear h2
    go_wp2_with fail
    (with_reducible refine (KN.out _).mono ?_); rintro e' wk ⟨rfl, hbk⟩
    have HZ := Lib.hid (bl_trans HB.out hbk)
    clear hbk
    go_wp2_with fail
    go_ret
    exact ⟨rfl, HZ.out⟩
  · have u3 : (y3 != 0) = true := bne_iff_ne.2 h3
    have u4 : (y3 = 0) = False := eq_false h3
    clear h3
    go_wp2_with fail
    (with_reducible refine (KN.out _).mono ?_); rintro e' wk ⟨rfl, hbk⟩
    have HZ := Lib.hid (bl_trans HB.out hbk)
    clear hbk
    go_wp2_with fail
    go_ret
    exact ⟨rfl, HZ.out⟩
  ·
    go_wp2_with fail
    (with_reducible refine (KN.out _).mono ?_); rintro e' wk ⟨rfl, hbk⟩
    have HZ := Lib.hid (bl_trans HB.out hbk)
    clear hbk
    go_wp2_with fail
    go_ret
    exact ⟨rfl, HZ.out⟩
end Go.Proofs.Ytkidphekfnmhhaa
