/-
  Contract of ref.Merge.
-/
import Derived.Test.YtmkegehkifpkjaaDigitI
namespace Go.Proofs.Ytmkegehkifpkjaa
open Go.RowKit

theorem List.drop_eq_getElem_cons' {l : List Int} {i : Nat} (h : i < l.length) {x : Int} (e : l[i] = x) : l.drop i = x :: l.drop (i + 1) := by rw [List.drop_eq_getElem_cons h, e]
set_option maxHeartbeats 8000000 in
set_option maxRecDepth 100000 in
theorem refMerge_l (A B : List Int) (ada adb : Option Addr) (capa capb : Nat) (w : World) (hA : IntRow w ada A) (hB : IntRow w adb B) (hca : A.length ≤ capa) (hcb : B.length ≤ capb) (hna : ada = none → capa = 0) (hnb : adb = none → capb = 0) (hlen : A.length + B.length ≤ 10000) :
    Calls Try.prog 24 #[.slice ada A.length capa, .slice adb B.length capb] w fun e w' => ∃ v, e = .returned v ∧ Oi w v (mrgW ltD A B) w' := by
  have HA := Lib.hid hA
  have HB := Lib.hid hB
  have HNA := Lib.hid hna
  have HNB := Lib.hid hnb
  clear hA hB hna hnb
  go_enter Try.func24, Try.ntmps24
  go_wp2_with fail
  go_loopw [5, 6, 7] (fun out iv kv W => ∃ (D : List Int) (i k : Nat), iv = .int .i64 i ∧ kv = .int .i64 k ∧ i ≤ A.length ∧ k ≤ B.length ∧ D.length = i + k ∧ D ++ mrgW ltD (A.drop i) (B.drop k) = mrgW ltD A B ∧ Oi w out D W) (fun _ iv kv _ => A.length + B.length - ((intOf iv).toNat + (intOf kv).toNat))
  case atStart => exact ⟨[], 0, 0, rfl, rfl, Nat.zero_le _, Nat.zero_le _, rfl, rfl, oi_nil w⟩
  case round =>
    obtain ⟨D, i, k, rfl, rfl, hia, hkb, hl, hD, hO⟩ := hrel
    have HO := Lib.hid hO
    have HD := Lib.hid hD
    clear hO hD
    by_cases hi : i < A.length
    · have b3 : ((i : Int) < (A.length : Int)) = True := eq_true (by omega)
      have d3 : (i < A.length) = True := eq_true (by omega)
      by_cases hk : k < B.length
      · have b4 : ((k : Int) < (B.length : Int)) = True := eq_true (by omega)
        have d4 : (k < B.length) = True := eq_true (by omega)
        have c3 : ((0 : Int) ≤ (i : Int)) = True := eq_true (by omega)
        have c4 : ((0 : Int) ≤ (k : Int)) = True := eq_true (by omega)
        obtain ⟨x, hx⟩ : ∃ x, A[i] = x := ⟨_, rfl⟩
        obtain ⟨y, hy⟩ : ∃ y, B[k] = y := ⟨_, rfl⟩
        have hd := HD.out
        rw [List.drop_eq_getElem_cons hi, List.drop_eq_getElem_cons hk, hx, hy] at hd
        replace HD := Lib.hid hd
        have HX := Lib.hid hx
        have HY := Lib.hid hy
        clear hx hy hd
        obtain ⟨g1, o1, rfl⟩ := HA.out.some (by omega)
        obtain ⟨g2, o2, rfl⟩ := HB.out.some (by omega)
        have hdx := dig_in x
        have hdy := dig_in y
        by_cases hlt : dig y < dig x
        · have hd := HD.out
          rw [mrgW_b (show ltD y x = true from decide_eq_true hlt), ← List.drop_eq_getElem_cons' hi HX.out] at hd
          replace HD := Lib.hid hd
          clear hd
          have b5 : (dig y < dig x) = True := eq_true hlt
          go_wp2_with fail
          refine wp_region_held_drew (S := fun V => Below w.heap.size w V) (by kernel_rfl) ?_ (fun hHeld => ?_)
          · exact HO.out.hb.drew
          have HO1 := Lib.hid HO.out.drew
          revert HO1
          revert hHeld
          generalize World.drew _ = W1
          intro hHeld HO1
          refine wpAnyH_take (i := 0) (v := ?_) rfl (by kernel_rfl) (by kernel_rfl) (by kernel_rfl) (fun _ _ _ h => h) (Or.inl ⟨by rfl, ?_⟩) (by assumption) ?_
          rotate_left
          · intro Wq hSw
            clear hSw
            go_simp
            all_goals (with_reducible rfl)
          try simp only [Act.put, List.getElem_toArray, List.getElem_cons_zero, List.setIfInBounds_toArray, List.set_cons_zero, List.set_cons_succ]
          refine wpAnyH_take (i := 1) (v := ?_) rfl (by kernel_rfl) (by kernel_rfl) (by kernel_rfl) (fun _ _ _ h => h) (Or.inl ⟨by rfl, ?_⟩) (by assumption) ?_
          rotate_left
          · intro Wq hSw
            clear hSw
            go_simp
            all_goals (with_reducible rfl)
          try simp only [Act.put, List.getElem_toArray, List.getElem_cons_succ, List.getElem_cons_zero, List.setIfInBounds_toArray, List.set_cons_zero, List.set_cons_succ]
          refine wpAnyH_take (i := 2) (v := ?_) rfl (by kernel_rfl) (by kernel_rfl) (by kernel_rfl) (fun _ _ _ h => h) (Or.inl ⟨by rfl, ?_⟩) (by assumption) ?_
          rotate_left
          · intro Wq hSw
            have b1 : ((k : Int) < (B.length : Int)) = True := eq_true (by omega)
            have d1 : (k < B.length) = True := eq_true (by omega)
            have c1 : ((0 : Int) ≤ (k : Int)) = True := eq_true (by omega)
            clear hSw
            go_simp
            all_goals (with_reducible rfl)
          try simp only [Act.put, List.getElem_toArray, List.getElem_cons_succ, List.getElem_cons_zero, List.setIfInBounds_toArray, List.set_cons_zero, List.set_cons_succ]
          refine wpAnyH_take (i := 3) (v := ?_) rfl (by kernel_rfl) (by kernel_rfl) (by kernel_rfl) (fun _ _ _ h => h) (Or.inl ⟨by rfl, ?_⟩) (by assumption) ?_
          rotate_left
          · intro Wq hSw
            have k0 := intRow_at (HB.out.below hSw) hk HY.out
            clear hSw
            go_simp
            all_goals (with_reducible rfl)
          try simp only [Act.put, List.getElem_toArray, List.getElem_cons_succ, List.getElem_cons_zero, List.setIfInBounds_toArray, List.set_cons_zero, List.set_cons_succ]
          refine wpAnyH_take (i := 5) (v := ?_) rfl (by kernel_rfl) (by kernel_rfl) (by kernel_rfl) (fun _ _ _ h => h) (Or.inl ⟨by rfl, ?_⟩) (by assumption) ?_
          rotate_left
          · intro Wq hSw
            clear hSw
            go_simp
            all_goals (with_reducible rfl)
          try simp only [Act.put, List.getElem_toArray, List.getElem_cons_succ, List.getElem_cons_zero, List.setIfInBounds_toArray, List.set_cons_zero, List.set_cons_succ]
          refine wpAnyH_take (i := 6) (v := ?_) rfl (by kernel_rfl) (by kernel_rfl) (by kernel_rfl) (fun _ _ _ h => h) (Or.inl ⟨by rfl, ?_⟩) (by assumption) ?_
          rotate_left
          · intro Wq hSw
            clear hSw
            go_simp
            all_goals (with_reducible rfl)
          try simp only [Act.put, List.getElem_toArray, List.getElem_cons_succ, List.getElem_cons_zero, List.setIfInBounds_toArray, List.set_cons_zero, List.set_cons_succ]
          refine wpAnyH_take (i := 7) (v := ?_) rfl (by kernel_rfl) (by kernel_rfl) (by kernel_rfl) (fun _ _ _ h => h) (Or.inl ⟨by rfl, ?_⟩) (by assumption) ?_
          rotate_left
          · intro Wq hSw
            have b1 : ((i : Int) < (A.length : Int)) = True := eq_true (by omega)
            have d1 : (i < A.length) = True := eq_true (by omega)
            have c1 : ((0 : Int) ≤ (i : Int)) = True := eq_true (by omega)
            clear hSw
            go_simp
            all_goals (with_reducible rfl)
          try simp only [Act.put, List.getElem_toArray, List.getElem_cons_succ, List.getElem_cons_zero, List.setIfInBounds_toArray, List.set_cons_zero, List.set_cons_succ]
          refine wpAnyH_take (i := 8) (v := ?_) rfl (by kernel_rfl) (by kernel_rfl) (by kernel_rfl) (fun _ _ _ h => h) (Or.inl ⟨by rfl, ?_⟩) (by assumption) ?_
          rotate_left
          · intro Wq hSw
            have k0 := intRow_at (HA.out.below hSw) hi HX.out
            clear hSw
            go_simp
            all_goals (with_reducible rfl)
          try simp only [Act.put, List.getElem_toArray, List.getElem_cons_succ, List.getElem_cons_zero, List.setIfInBounds_toArray, List.set_cons_zero, List.set_cons_succ]
          refine r1 (i := 4) rfl (fun K hK => ?_)
          go_simp
          (with_reducible refine (digit_l y _).mono ?_)
          rintro e w1 ⟨rfl, hb1⟩
          go_wp2_with fail
          refine hK.out _ _ (bl_trans hHeld hb1) (fun hHeld2 => ?_)
          replace HO1 := Lib.hid (HO1.out.below hb1)
          clear hK K hHeld
          have hHeld := hHeld2
          clear hHeld2
          try simp only [Act.put, List.getElem_toArray, List.getElem_cons_succ, List.getElem_cons_zero, List.setIfInBounds_toArray, List.set_cons_zero, List.set_cons_succ]
          refine r1 (i := 9) rfl (fun K hK => ?_)
          go_simp
          (with_reducible refine (digit_l x _).mono ?_)
          rintro e w1 ⟨rfl, hb1⟩
          go_wp2_with fail
          refine hK.out _ _ (bl_trans hHeld hb1) (fun hHeld2 => ?_)
          replace HO1 := Lib.hid (HO1.out.below hb1)
          clear hK K hHeld
          have hHeld := hHeld2
          clear hHeld2
          try simp only [Act.put, List.getElem_toArray, List.getElem_cons_succ, List.getElem_cons_zero, List.setIfInBounds_toArray, List.set_cons_zero, List.set_cons_succ]
          refine wpAnyH_take (i := 10) (v := ?_) rfl (by kernel_rfl) (by kernel_rfl) (by kernel_rfl) (fun _ _ _ h => h) (Or.inl ⟨by rfl, ?_⟩) (by assumption) ?_
          rotate_left
          · intro Wq hSw
            clear hSw
            go_simp
            all_goals (with_reducible rfl)
          try simp only [Act.put, List.getElem_toArray, List.getElem_cons_succ, List.getElem_cons_zero, List.setIfInBounds_toArray, List.set_cons_zero, List.set_cons_succ]
          refine wpAnyH_done (by kernel_rfl) ?_ _
          clear HO
          have k0 := intRow_at (HB.out.below HO1.out.hb) hk HY.out
          have b1 : ((k : Int) < (B.length : Int)) = True := eq_true (by omega)
          have d1 : (k < B.length) = True := eq_true (by omega)
          have c1 : ((0 : Int) ≤ (k : Int)) = True := eq_true (by omega)
          go_wp2_with (at_builtin; refine app_ints rfl _ _ rfl rfl (HO1.out.alloc _) rfl (L := [y]) rfl (intRow_new _ _ _) (fun h => by cases h) ?x2 ?_)
          case x2 => simp at hl ⊢; omega
          intro v2 w2 hO2
          have HO2 := Lib.hid hO2
          clear hO2 k0 HO1
          obtain ⟨m1, m2, m3, m4⟩ := wnum (i := k) (by omega)
          go_wp2_with fail
          clear m1 m2 m3 m4
          exact ⟨⟨D ++ [y], i, k + 1, rfl, by rw [Int.natCast_add]; rfl, hia, hk, by simp; omega, by rw [← HD.out, List.append_assoc]; rfl, HO2.out⟩, by simp only [intOf]; omega⟩
        · have hd := HD.out
          rw [mrgW_a (show ltD y x = false from decide_eq_false hlt), ← List.drop_eq_getElem_cons' hk HY.out] at hd
          replace HD := Lib.hid hd
          clear hd
          have b5 : (dig y < dig x) = False := eq_false hlt
          go_wp2_with fail
          refine wp_region_held_drew (S := fun V => Below w.heap.size w V) (by kernel_rfl) ?_ (fun hHeld => ?_)
          · exact HO.out.hb.drew
          have HO1 := Lib.hid HO.out.drew
          revert HO1
          revert hHeld
          generalize World.drew _ = W1
          intro hHeld HO1
          refine wpAnyH_take (i := 0) (v := ?_) rfl (by kernel_rfl) (by kernel_rfl) (by kernel_rfl) (fun _ _ _ h => h) (Or.inl ⟨by rfl, ?_⟩) (by assumption) ?_
          rotate_left
          · intro Wq hSw
            clear hSw
            go_simp
            all_goals (with_reducible rfl)
          try simp only [Act.put, List.getElem_toArray, List.getElem_cons_zero, List.setIfInBounds_toArray, List.set_cons_zero, List.set_cons_succ]
          refine wpAnyH_take (i := 1) (v := ?_) rfl (by kernel_rfl) (by kernel_rfl) (by kernel_rfl) (fun _ _ _ h => h) (Or.inl ⟨by rfl, ?_⟩) (by assumption) ?_
          rotate_left
          · intro Wq hSw
            clear hSw
            go_simp
            all_goals (with_reducible rfl)
          try simp only [Act.put, List.getElem_toArray, List.getElem_cons_succ, List.getElem_cons_zero, List.setIfInBounds_toArray, List.set_cons_zero, List.set_cons_succ]
          refine wpAnyH_take (i := 2) (v := ?_) rfl (by kernel_rfl) (by kernel_rfl) (by kernel_rfl) (fun _ _ _ h => h) (Or.inl ⟨by rfl, ?_⟩) (by assumption) ?_
          rotate_left
          · intro Wq hSw
            have b1 : ((k : Int) < (B.length : Int)) = True := eq_true (by omega)
            have d1 : (k < B.length) = True := eq_true (by omega)
            have c1 : ((0 : Int) ≤ (k : Int)) = True := eq_true (by omega)
            clear hSw
            go_simp
            all_goals (with_reducible rfl)
          try simp only [Act.put, List.getElem_toArray, List.getElem_cons_succ, List.getElem_cons_zero, List.setIfInBounds_toArray, List.set_cons_zero, List.set_cons_succ]
          refine wpAnyH_take (i := 3) (v := ?_) rfl (by kernel_rfl) (by kernel_rfl) (by kernel_rfl) (fun _ _ _ h => h) (Or.inl ⟨by rfl, ?_⟩) (by assumption) ?_
          rotate_left
          · intro Wq hSw
            have k0 := intRow_at (HB.out.below hSw) hk HY.out
            clear hSw
            go_simp
            all_goals (with_reducible rfl)
          try simp only [Act.put, List.getElem_toArray, List.getElem_cons_succ, List.getElem_cons_zero, List.setIfInBounds_toArray, List.set_cons_zero, List.set_cons_succ]
          refine wpAnyH_take (i := 5) (v := ?_) rfl (by kernel_rfl) (by kernel_rfl) (by kernel_rfl) (fun _ _ _ h => h) (Or.inl ⟨by rfl, ?_⟩) (by assumption) ?_
          rotate_left
          · intro Wq hSw
            clear hSw
            go_simp
            all_goals (with_reducible rfl)
          try simp only [Act.put, List.getElem_toArray, List.getElem_cons_succ, List.getElem_cons_zero, List.setIfInBounds_toArray, List.set_cons_zero, List.set_cons_succ]
          refine wpAnyH_take (i := 6) (v := ?_) rfl (by kernel_rfl) (by kernel_rfl) (by kernel_rfl) (fun _ _ _ h => h) (Or.inl ⟨by rfl, ?_⟩) (by assumption) ?_
          rotate_left
          · intro Wq hSw
            clear hSw
            go_simp
            all_goals (with_reducible rfl)
          try simp only [Act.put, List.getElem_toArray, List.getElem_cons_succ, List.getElem_cons_zero, List.setIfInBounds_toArray, List.set_cons_zero, List.set_cons_succ]
          refine wpAnyH_take (i := 7) (v := ?_) rfl (by kernel_rfl) (by kernel_rfl) (by kernel_rfl) (fun _ _ _ h => h) (Or.inl ⟨by rfl, ?_⟩) (by assumption) ?_
          rotate_left
          · intro Wq hSw
            have b1 : ((i : Int) < (A.length : Int)) = True := eq_true (by omega)
            have d1 : (i < A.length) = True := eq_true (by omega)
            have c1 : ((0 : Int) ≤ (i : Int)) = True := eq_true (by omega)
            clear hSw
            go_simp
            all_goals (with_reducible rfl)
          try simp only [Act.put, List.getElem_toArray, List.getElem_cons_succ, List.getElem_cons_zero, List.setIfInBounds_toArray, List.set_cons_zero, List.set_cons_succ]
          refine wpAnyH_take (i := 8) (v := ?_) rfl (by kernel_rfl) (by kernel_rfl) (by kernel_rfl) (fun _ _ _ h => h) (Or.inl ⟨by rfl, ?_⟩) (by assumption) ?_
          rotate_left
          · intro Wq hSw
            have k0 := intRow_at (HA.out.below hSw) hi HX.out
            clear hSw
            go_simp
            all_goals (with_reducible rfl)
          try simp only [Act.put, List.getElem_toArray, List.getElem_cons_succ, List.getElem_cons_zero, List.setIfInBounds_toArray, List.set_cons_zero, List.set_cons_succ]
          refine r1 (i := 4) rfl (fun K hK => ?_)
          go_simp
          (with_reducible refine (digit_l y _).mono ?_)
          rintro e w1 ⟨rfl, hb1⟩
          go_wp2_with fail
          refine hK.out _ _ (bl_trans hHeld hb1) (fun hHeld2 => ?_)
          replace HO1 := Lib.hid (HO1.out.below hb1)
          clear hK K hHeld
          have hHeld := hHeld2
          clear hHeld2
          try simp only [Act.put, List.getElem_toArray, List.getElem_cons_succ, List.getElem_cons_zero, List.setIfInBounds_toArray, List.set_cons_zero, List.set_cons_succ]
          refine r1 (i := 9) rfl (fun K hK => ?_)
          go_simp
          (with_reducible refine (digit_l x _).mono ?_)
          rintro e w1 ⟨rfl, hb1⟩
          go_wp2_with fail
          refine hK.out _ _ (bl_trans hHeld hb1) (fun hHeld2 => ?_)
          replace HO1 := Lib.hid (HO1.out.below hb1)
          clear hK K hHeld
          have hHeld := hHeld2
          clear hHeld2
          try simp only [Act.put, List.getElem_toArray, List.getElem_cons_succ, List.getElem_cons_zero, List.setIfInBounds_toArray, List.set_cons_zero, List.set_cons_succ]
          refine wpAnyH_take (i := 10) (v := ?_) rfl (by kernel_rfl) (by kernel_rfl) (by kernel_rfl) (fun _ _ _ h => h) (Or.inl ⟨by rfl, ?_⟩) (by assumption) ?_
          rotate_left
          · intro Wq hSw
            clear hSw
            go_simp
            all_goals (with_reducible rfl)
          try simp only [Act.put, List.getElem_toArray, List.getElem_cons_succ, List.getElem_cons_zero, List.setIfInBounds_toArray, List.set_cons_zero, List.set_cons_succ]
          refine wpAnyH_done (by kernel_rfl) ?_ _
          clear HO
          have k0 := intRow_at (HA.out.below HO1.out.hb) hi HX.out
          have b1 : ((i : Int) < (A.length : Int)) = True := eq_true (by omega)
          have d1 : (i < A.length) = True := eq_true (by omega)
          have c1 : ((0 : Int) ≤ (i : Int)) = True := eq_true (by omega)
          go_wp2_with (at_builtin; refine app_ints rfl _ _ rfl rfl (HO1.out.alloc _) rfl (L := [x]) rfl (intRow_new _ _ _) (fun h => by cases h) ?x1 ?_)
          case x1 => simp at hl ⊢; omega
          intro v2 w2 hO2
          have HO2 := Lib.hid hO2
          clear hO2 k0 HO1
          obtain ⟨m1, m2, m3, m4⟩ := wnum (i := i) (by omega)
          go_wp2_with fail
          clear m1 m2 m3 m4
          exact ⟨⟨D ++ [x], i + 1, k, by rw [Int.natCast_add]; rfl, rfl, hi, hkb, by simp; omega, by rw [← HD.out, List.append_assoc]; rfl, HO2.out⟩, by simp only [intOf]; omega⟩
      · have b4 : ((k : Int) < (B.length : Int)) = False := eq_false (by omega)
        obtain rfl : k = B.length := by omega
        obtain ⟨g1, o1, rfl⟩ := HA.out.some (by omega)
        have c4 : ((0 : Int) ≤ (i : Int)) = True := eq_true (by omega)
        have e1 : ((i : Int) ≤ (A.length : Int)) = True := eq_true (by omega)
        have e2 : ((i : Int) ≤ (capa : Int)) = True := eq_true (by omega)
        have e3 : ((B.length : Int) ≤ (capb : Int)) = True := eq_true (by omega)
        have e4 : (capa = i) = False := eq_false (by omega)
        go_wp2_with (at_builtin; refine app_ints rfl _ _ rfl rfl HO.out rfl (L := A.drop i) ?e11 ?r11 ?n11 ?x11 ?_)
        case e11 => simp
        case r11 => exact (HA.out.below HO.out.hb).drop i (fun g o h _ => by cases h; rfl)
        case n11 => first | exact fun h => by cases h | exact fun _ => rfl | exact fun _ => by simp
        case x11 => simp; omega
        intro vHO1 wHO1 hHO1
        have HO1 := Lib.hid hHO1
        clear hHO1 HO
        rcases adb with _ | aB
        · obtain rfl := HNB.out rfl
          obtain rfl : B = [] := List.length_eq_zero_iff.1 (by omega)
          simp only [List.length_nil] at *
          go_wp2_with (at_builtin; refine app_ints rfl _ _ rfl rfl HO1.out rfl (L := []) ?e12 ?r12 (fun _ => rfl) ?x12 ?_)
          case e12 => simp
          case r12 => exact intRow_nil _ _
          case x12 => simp; omega
          intro vHO2 wHO2 hHO2
          have HO2 := Lib.hid hHO2
          clear hHO2 HO1
          go_wp2_with fail
          go_ret
          exact ⟨_, rfl, HO2.out.congr (by rw [← HD.out]; simp [mrgW_nil2])⟩
        · by_cases hcB : capb = B.length
          · have eB : (capb = B.length) = True := eq_true hcB
            have fB : ((B.length : Int) ≤ (capb : Int)) = True := eq_true (by omega)
            clear hcB
            go_wp2_with (at_builtin; refine app_ints rfl _ _ rfl rfl HO1.out rfl (L := []) ?e13 ?r13 ?n13 ?x13 ?_)
            case e13 => simp
            case r13 => exact intRow_nil _ _
            case n13 => first | exact fun h => by cases h | exact fun _ => rfl | exact fun _ => by simp
            case x13 => simp; omega
            intro vHO2 wHO2 hHO2
            have HO2 := Lib.hid hHO2
            clear hHO2 HO1
            go_wp2_with fail
            go_ret
            exact ⟨_, rfl, HO2.out.congr (by rw [← HD.out]; simp [mrgW_nil2])⟩
          · have eB : (capb = B.length) = False := eq_false hcB
            have fB : ((B.length : Int) ≤ (capb : Int)) = True := eq_true (by omega)
            clear hcB
            go_wp2_with (at_builtin; refine app_ints rfl _ _ rfl rfl HO1.out rfl (L := []) ?e14 ?r14 ?n14 ?x14 ?_)
            case e14 => simp
            case r14 => exact intRow_nil _ _
            case n14 => first | exact fun h => by cases h | exact fun _ => rfl | exact fun _ => by simp
            case x14 => simp; omega
            intro vHO2 wHO2 hHO2
            have HO2 := Lib.hid hHO2
            clear hHO2 HO1
            go_wp2_with fail
            go_ret
            exact ⟨_, rfl, HO2.out.congr (by rw [← HD.out]; simp [mrgW_nil2])⟩
    · have b3 : ((i : Int) < (A.length : Int)) = False := eq_false (by omega)
      obtain rfl : i = A.length := by omega
      rcases ada with _ | aA
      · obtain rfl := HNA.out rfl
        obtain rfl : A = [] := List.length_eq_zero_iff.1 (by omega)
        simp only [List.length_nil] at *
        go_wp2_with (at_builtin; refine app_ints rfl _ _ rfl rfl HO.out rfl (L := []) ?e15 ?r15 (fun _ => rfl) ?x15 ?_)
        case e15 => simp
        case r15 => exact intRow_nil _ _
        case x15 => simp; omega
        intro vHO1 wHO1 hHO1
        have HO1 := Lib.hid hHO1
        clear hHO1 HO
        by_cases hk : k < B.length
        · obtain ⟨g2, o2, rfl⟩ := HB.out.some (by omega)
          have c4 : ((0 : Int) ≤ (k : Int)) = True := eq_true (by omega)
          have e1 : ((k : Int) ≤ (B.length : Int)) = True := eq_true (by omega)
          have e2 : ((k : Int) ≤ (capb : Int)) = True := eq_true (by omega)
          have e4 : (capb = k) = False := eq_false (by omega)
          go_wp2_with (at_builtin; refine app_ints rfl _ _ rfl rfl HO1.out rfl (L := B.drop k) ?e16 ?r16 ?n16 ?x16 ?_)
          case e16 => simp
          case r16 => exact (HB.out.below HO1.out.hb).drop k (fun g o h _ => by cases h; rfl)
          case n16 => first | exact fun h => by cases h | exact fun _ => rfl | exact fun _ => by simp
          case x16 => simp; omega
          intro vHO2 wHO2 hHO2
          have HO2 := Lib.hid hHO2
          clear hHO2 HO1
          go_wp2_with fail
          go_ret
          exact ⟨_, rfl, HO2.out.congr (by rw [← HD.out]; simp [mrgW_nil])⟩
        · obtain rfl : k = B.length := by omega
          rcases adb with _ | aB
          · obtain rfl := HNB.out rfl
            obtain rfl : B = [] := List.length_eq_zero_iff.1 (by omega)
            simp only [List.length_nil] at *
            go_wp2_with (at_builtin; refine app_ints rfl _ _ rfl rfl HO1.out rfl (L := []) ?e17 ?r17 (fun _ => rfl) ?x17 ?_)
            case e17 => simp
            case r17 => exact intRow_nil _ _
            case x17 => simp; omega
            intro vHO2 wHO2 hHO2
            have HO2 := Lib.hid hHO2
            clear hHO2 HO1
            go_wp2_with fail
            go_ret
            exact ⟨_, rfl, HO2.out.congr (by rw [← HD.out]; simp [mrgW_nil2])⟩
          · by_cases hcB : capb = B.length
            · have eB : (capb = B.length) = True := eq_true hcB
              have fB : ((B.length : Int) ≤ (capb : Int)) = True := eq_true (by omega)
              clear hcB
              go_wp2_with (at_builtin; refine app_ints rfl _ _ rfl rfl HO1.out rfl (L := []) ?e18 ?r18 ?n18 ?x18 ?_)
              case e18 => simp
              case r18 => exact intRow_nil _ _
              case n18 => first | exact fun h => by cases h | exact fun _ => rfl | exact fun _ => by simp
              case x18 => simp; omega
              intro vHO2 wHO2 hHO2
              have HO2 := Lib.hid hHO2
              clear hHO2 HO1
              go_wp2_with fail
              go_ret
              exact ⟨_, rfl, HO2.out.congr (by rw [← HD.out]; simp [mrgW_nil2])⟩
            · have eB : (capb = B.length) = False := eq_false hcB
              have fB : ((B.length : Int) ≤ (capb : Int)) = True := eq_true (by omega)
              clear hcB
              go_wp2_with (at_builtin; refine app_ints rfl _ _ rfl rfl HO1.out rfl (L := []) ?e19 ?r19 ?n19 ?x19 ?_)
              case e19 => simp
              case r19 => exact intRow_nil _ _
              case n19 => first | exact fun h => by cases h | exact fun _ => rfl | exact fun _ => by simp
              case x19 => simp; omega
              intro vHO2 wHO2 hHO2
              have HO2 := Lib.hid hHO2
              clear hHO2 HO1
              go_wp2_with fail
              go_ret
              exact ⟨_, rfl, HO2.out.congr (by rw [← HD.out]; simp [mrgW_nil2])⟩
      · by_cases hcA : capa = A.length
        · have eA : (capa = A.length) = True := eq_true hcA
          have fA : ((A.length : Int) ≤ (capa : Int)) = True := eq_true (by omega)
          clear hcA
          go_wp2_with (at_builtin; refine app_ints rfl _ _ rfl rfl HO.out rfl (L := []) ?e20 ?r20 ?n20 ?x20 ?_)
          case e20 => simp
          case r20 => exact intRow_nil _ _
          case n20 => first | exact fun h => by cases h | exact fun _ => rfl | exact fun _ => by simp
          case x20 => simp; omega
          intro vHO1 wHO1 hHO1
          have HO1 := Lib.hid hHO1
          clear hHO1 HO
          by_cases hk : k < B.length
          · obtain ⟨g2, o2, rfl⟩ := HB.out.some (by omega)
            have c4 : ((0 : Int) ≤ (k : Int)) = True := eq_true (by omega)
            have e1 : ((k : Int) ≤ (B.length : Int)) = True := eq_true (by omega)
            have e2 : ((k : Int) ≤ (capb : Int)) = True := eq_true (by omega)
            have e4 : (capb = k) = False := eq_false (by omega)
            go_wp2_with (at_builtin; refine app_ints rfl _ _ rfl rfl HO1.out rfl (L := B.drop k) ?e21 ?r21 ?n21 ?x21 ?_)
            case e21 => simp
            case r21 => exact (HB.out.below HO1.out.hb).drop k (fun g o h _ => by cases h; rfl)
            case n21 => first | exact fun h => by cases h | exact fun _ => rfl | exact fun _ => by simp
            case x21 => simp; omega
            intro vHO2 wHO2 hHO2
            have HO2 := Lib.hid hHO2
            clear hHO2 HO1
            go_wp2_with fail
            go_ret
            exact ⟨_, rfl, HO2.out.congr (by rw [← HD.out]; simp [mrgW_nil])⟩
          · obtain rfl : k = B.length := by omega
            rcases adb with _ | aB
            · obtain rfl := HNB.out rfl
              obtain rfl : B = [] := List.length_eq_zero_iff.1 (by omega)
              simp only [List.length_nil] at *
              go_wp2_with (at_builtin; refine app_ints rfl _ _ rfl rfl HO1.out rfl (L := []) ?e22 ?r22 (fun _ => rfl) ?x22 ?_)
              case e22 => simp
              case r22 => exact intRow_nil _ _
              case x22 => simp; omega
              intro vHO2 wHO2 hHO2
              have HO2 := Lib.hid hHO2
              clear hHO2 HO1
              go_wp2_with fail
              go_ret
              exact ⟨_, rfl, HO2.out.congr (by rw [← HD.out]; simp [mrgW_nil2])⟩
            · by_cases hcB : capb = B.length
              · have eB : (capb = B.length) = True := eq_true hcB
                have fB : ((B.length : Int) ≤ (capb : Int)) = True := eq_true (by omega)
                clear hcB
                go_wp2_with (at_builtin; refine app_ints rfl _ _ rfl rfl HO1.out rfl (L := []) ?e23 ?r23 ?n23 ?x23 ?_)
                case e23 => simp
                case r23 => exact intRow_nil _ _
                case n23 => first | exact fun h => by cases h | exact fun _ => rfl | exact fun _ => by simp
                case x23 => simp; omega
                intro vHO2 wHO2 hHO2
                have HO2 := Lib.hid hHO2
                clear hHO2 HO1
                go_wp2_with fail
                go_ret
                exact ⟨_, rfl, HO2.out.congr (by rw [← HD.out]; simp [mrgW_nil2])⟩
              · have eB : (capb = B.length) = False := eq_false hcB
                have fB : ((B.length : Int) ≤ (capb : Int)) = True := eq_true (by omega)
                clear hcB
                go_wp2_with (at_builtin; refine app_ints rfl _ _ rfl rfl HO1.out rfl (L := []) ?e24 ?r24 ?n24 ?x24 ?_)
                case e24 => simp
                case r24 => exact intRow_nil _ _
                case n24 => first | exact fun h => by cases h | exact fun _ => rfl | exact fun _ => by simp
                case x24 => simp; omega
                intro vHO2 wHO2 hHO2
                have HO2 := Lib.hid hHO2
                clear hHO2 HO1
                go_wp2_with fail
                go_ret
                exact ⟨_, rfl, HO2.out.congr (by rw [← HD.out]; simp [mrgW_nil2])⟩
        · have eA : (capa = A.length) = False := eq_false hcA
          have fA : ((A.length : Int) ≤ (capa : Int)) = True := eq_true (by omega)
          clear hcA
          go_wp2_with (at_builtin; refine app_ints rfl _ _ rfl rfl HO.out rfl (L := []) ?e25 ?r25 ?n25 ?x25 ?_)
          case e25 => simp
          case r25 => exact intRow_nil _ _
          case n25 => first | exact fun h => by cases h | exact fun _ => rfl | exact fun _ => by simp
          case x25 => simp; omega
          intro vHO1 wHO1 hHO1
          have HO1 := Lib.hid hHO1
          clear hHO1 HO
          by_cases hk : k < B.length
          · obtain ⟨g2, o2, rfl⟩ := HB.out.some (by omega)
            have c4 : ((0 : Int) ≤ (k : Int)) = True := eq_true (by omega)
            have e1 : ((k : Int) ≤ (B.length : Int)) = True := eq_true (by omega)
            have e2 : ((k : Int) ≤ (capb : Int)) = True := eq_true (by omega)
            have e4 : (capb = k) = False := eq_false (by omega)
            go_wp2_with (at_builtin; refine app_ints rfl _ _ rfl rfl HO1.out rfl (L := B.drop k) ?e26 ?r26 ?n26 ?x26 ?_)
            case e26 => simp
            case r26 => exact (HB.out.below HO1.out.hb).drop k (fun g o h _ => by cases h; rfl)
            case n26 => first | exact fun h => by cases h | exact fun _ => rfl | exact fun _ => by simp
            case x26 => simp; omega
            intro vHO2 wHO2 hHO2
            have HO2 := Lib.hid hHO2
            clear hHO2 HO1
            go_wp2_with fail
            go_ret
            exact ⟨_, rfl, HO2.out.congr (by rw [← HD.out]; simp [mrgW_nil])⟩
          · obtain rfl : k = B.length := by omega
            rcases adb with _ | aB
            · obtain rfl := HNB.out rfl
              obtain rfl : B = [] := List.length_eq_zero_iff.1 (by omega)
              simp only [List.length_nil] at *
              go_wp2_with (at_builtin; refine app_ints rfl _ _ rfl rfl HO1.out rfl (L := []) ?e27 ?r27 (fun _ => rfl) ?x27 ?_)
              case e27 => simp
              case r27 => exact intRow_nil _ _
              case x27 => simp; omega
              intro vHO2 wHO2 hHO2
              have HO2 := Lib.hid hHO2
              clear hHO2 HO1
              go_wp2_with fail
              go_ret
              exact ⟨_, rfl, HO2.out.congr (by rw [← HD.out]; simp [mrgW_nil2])⟩
            · by_cases hcB : capb = B.length
              · have eB : (capb = B.length) = True := eq_true hcB
                have fB : ((B.length : Int) ≤ (capb : Int)) = True := eq_true (by omega)
                clear hcB
                go_wp2_with (at_builtin; refine app_ints rfl _ _ rfl rfl HO1.out rfl (L := []) ?e28 ?r28 ?n28 ?x28 ?_)
                case e28 => simp
                case r28 => exact intRow_nil _ _
                case n28 => first | exact fun h => by cases h | exact fun _ => rfl | exact fun _ => by simp
                case x28 => simp; omega
                intro vHO2 wHO2 hHO2
                have HO2 := Lib.hid hHO2
                clear hHO2 HO1
                go_wp2_with fail
                go_ret
                exact ⟨_, rfl, HO2.out.congr (by rw [← HD.out]; simp [mrgW_nil2])⟩
              · have eB : (capb = B.length) = False := eq_false hcB
                have fB : ((B.length : Int) ≤ (capb : Int)) = True := eq_true (by omega)
                clear hcB
                go_wp2_with (at_builtin; refine app_ints rfl _ _ rfl rfl HO1.out rfl (L := []) ?e29 ?r29 ?n29 ?x29 ?_)
                case e29 => simp
                case r29 => exact intRow_nil _ _
                case n29 => first | exact fun h => by cases h | exact fun _ => rfl | exact fun _ => by simp
                case x29 => simp; omega
                intro vHO2 wHO2 hHO2
                have HO2 := Lib.hid hHO2
                clear hHO2 HO1
                go_wp2_with fail
                go_ret
                exact ⟨_, rfl, HO2.out.congr (by rw [← HD.out]; simp [mrgW_nil2])⟩
end Go.Proofs.Ytmkegehkifpkjaa
