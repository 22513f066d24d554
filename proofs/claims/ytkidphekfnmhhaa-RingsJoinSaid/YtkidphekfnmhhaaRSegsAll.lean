/-
  Contract of rings.Segs.
-/
import Derived.Test.YtkidphekfnmhhaaRLoopsAll
namespace Go.Proofs.Ytkidphekfnmhhaa
open Go.RowKit

/-- a ring's segments -/
def ringSegs (R : List Int) : List Pt := (List.range R.length).map fun i : Nat => ⟨R.getD i 0, R.getD ((i + 1) % R.length) 0⟩
def segsF (L : List (List Int)) : List Pt := L.flatMap ringSegs
theorem ringSegs_len (R : List Int) : (ringSegs R).length = R.length := by simp [ringSegs]
theorem segsF_snoc (L : List (List Int)) {m : Nat} (h : m < L.length) : segsF (L.take (m + 1)) = segsF (L.take m) ++ ringSegs L[m] := by
  unfold segsF
  rw [List.take_succ_eq_append_getElem h, List.flatMap_append]
  simp only [List.flatMap_cons, List.flatMap_nil, List.append_nil]
theorem ringSegs_snoc (R : List Int) {i : Nat} (h : i < R.length) : (ringSegs R).take (i + 1) = (ringSegs R).take i ++ [⟨R.getD i 0, R.getD ((i + 1) % R.length) 0⟩] := by
  rw [List.take_succ_eq_append_getElem (by rw [ringSegs_len]; exact h)]
  simp [ringSegs]
def total (L : List (List Int)) : Nat := (L.map List.length).sum
theorem segsF_len : ∀ L : List (List Int), (segsF L).length = total L
  | [] => rfl
  | R :: L => by
    have := segsF_len L
    simp only [segsF, total, List.flatMap_cons, List.length_append, ringSegs_len, List.map_cons, List.sum_cons] at this ⊢
    omega
theorem total_take (L : List (List Int)) {m : Nat} (h : m < L.length) : total (L.take m) + L[m].length ≤ total L := by
  have e : total L = total (L.take m) + total (L.drop m) := by
    unfold total
    rw [← List.sum_append, ← List.map_append, List.take_append_drop]
  rw [e, List.drop_eq_getElem_cons h]
  have e2 : total (L[m] :: L.drop (m + 1)) = L[m].length + total (L.drop (m + 1)) := by simp only [total, List.map_cons, List.sum_cons]
  omega
set_option maxHeartbeats 8000000 in
set_option maxRecDepth 100000 in
theorem rsg_l (L : List (List Int)) (ad : Option Addr) (cap : Nat) (w : World) (hP : RowsAt w ad L) (hlen : L.length ≤ 10000) (ht : total L ≤ 10000) :
    Calls Try.prog 28 #[.slice ad L.length cap] w fun e w' => ∃ v, e = .returned v ∧ Op 51 w v (segsF L) w' := by
  have HP := Lib.hid hP
  have HT := Lib.hid ht
  clear hP ht
  go_enter Try.func28, Try.ntmps28
  go_wp2_with fail
  go_loopw [3, 10] (fun v iv W => ∃ m : Nat, m ≤ L.length ∧ iv = .int .i64 m ∧ Op 51 w v (segsF (L.take m)) W) (fun _ iv _ => L.length - (intOf iv).toNat)
  case atStart => exact ⟨0, Nat.zero_le _, rfl, by rw [List.take_zero]; exact op_nil _ w⟩
  case round =>
    obtain ⟨m, hm, rfl, hO⟩ := hrel
    have HO := Lib.hid hO
    clear hO
    by_cases hlt : m < L.length
    · have b2 : ((m : Int) < (L.length : Int)) = True := eq_true (by omega)
      have d2 : (m < L.length) = True := eq_true hlt
      have c2 : ((0 : Int) ≤ (m : Int)) = True := eq_true (by omega)
      obtain ⟨g, o, rfl⟩ := HP.out.some (by omega)
      obtain ⟨R, hR⟩ : ∃ R, L[m] = R := ⟨_, rfl⟩
      obtain ⟨a5, c5, k5w, -, hIw, -⟩ := HP.out.at hlt hR
      have k5 := (HO.out.hb.cell (cell_lt k5w)).trans k5w
      have HIW := Lib.hid hIw
      have HSN : Hid (segsF (L.take (m + 1)) = segsF (L.take m) ++ ringSegs R) := by rw [segsF_snoc L hlt, hR]; exact rfl
      have htt : (segsF (L.take m)).length + R.length ≤ 10000 := by
        have h1 := total_take L hlt
        have h2 := HT.out
        rw [segsF_len]
        rw [hR] at h1
        omega
      clear hIw hR k5w
      go_wp2_with fail
      obtain ⟨W0, eW⟩ : ∃ W0, W0 = wr := ⟨_, rfl⟩
      subst eW
      go_loopw [3, 16] (fun v iv W => ∃ i : Nat, i ≤ R.length ∧ iv = .int .i64 i ∧ Op 51 w v (segsF (L.take m) ++ (ringSegs R).take i) W) (fun _ iv _ => R.length - (intOf iv).toNat)
      case atStart => exact ⟨0, Nat.zero_le _, rfl, by rw [List.take_zero, List.append_nil]; exact HO.out⟩
      case round =>
        obtain ⟨i, hi, rfl, hO⟩ := hrel
        clear HO
        have HO := Lib.hid hO
        have HI := Lib.hid (HIW.out.below hO.hb)
        clear hO k5
        by_cases hil : i < R.length
        · have q1 : ((i : Int) < (R.length : Int)) = True := eq_true (by omega)
          have q2 : (i < R.length) = True := eq_true hil
          have q3 : ((0 : Int) ≤ (i : Int)) = True := eq_true (by omega)
          obtain ⟨g5, o5, rfl⟩ := HI.out.some (by omega)
          obtain ⟨k, hk⟩ : ∃ k, (i + 1) % R.length = k := ⟨_, rfl⟩
          have hkl : k < R.length := by rw [← hk]; exact Nat.mod_lt _ (by omega)
          have q4 : ((R.length : Int) = 0) = False := eq_false (by omega)
          have q5 : ((R.length : Int) == 0) = false := beq_eq_false_iff_ne.2 (by omega)
          have q6 : ((i : Int) + 1).tmod (R.length : Int) = (k : Int) := by rw [← hk]; rfl
          have q7 : ((k : Int) < (R.length : Int)) = True := eq_true (by omega)
          have q8 : (k < R.length) = True := eq_true hkl
          have q9 : ((0 : Int) ≤ (k : Int)) = True := eq_true (by omega)
          obtain ⟨x, hx⟩ : ∃ x, R.getD i 0 = x := ⟨_, rfl⟩
          obtain ⟨y, hy⟩ : ∃ y, R.getD k 0 = y := ⟨_, rfl⟩
          have k0 := intRow_at HI.out hil (t := x) (by rw [← hx]; simp [hil])
          have k1 := intRow_at HI.out hkl (t := y) (by rw [← hy]; simp [hkl])
          have HS : Hid ((ringSegs R).take (i + 1) = (ringSegs R).take i ++ [⟨x, y⟩]) := by rw [ringSegs_snoc R hil, hk, hx, hy]; exact rfl
          have hll : (segsF (L.take m) ++ (ringSegs R).take i).length ≤ 10000 := by
            rw [List.length_append, List.length_take, ringSegs_len]
            omega
          clear hk hx hy
          obtain ⟨m1, m2, m3, m4⟩ := wnum (i := i) (by omega)
          go_wp2_with (at_builtin; refine app_pts rfl Try.underlying23 info_eseg _ _ rfl rfl (HO.out.alloc _) rfl (L := [⟨x, y⟩]) rfl (ptRow_new _ ⟨x, y⟩ _) (fun h => by cases h) ?x1 ?_)
          case x1 => simp only [List.length_singleton]; omega
          intro v1 w1 hO1
          rw [← HS.out] at hO1
          have HO1 := Lib.hid hO1
          obtain ⟨ad1, cp1, rfl, -, -, -⟩ := hO1.slice
          clear hO1 HO HI k0 k1
          go_wp2_with fail
          clear m1 m2 m3 m4
          exact ⟨⟨i + 1, hil, by rw [Int.natCast_add]; rfl, HO1.out⟩, by simp [intOf]; omega⟩
        · obtain rfl : i = R.length := by omega
          have q1 : ((R.length : Int) < (R.length : Int)) = False := eq_false (by omega)
          rw [List.take_of_length_le (l := ringSegs R) (i := R.length) (by rw [ringSegs_len]; exact Nat.le_refl _), ← HSN.out] at HO
          obtain ⟨m1, m2, m3, m4⟩ := wnum (i := m) (by omega)
          go_wp2_with fail
          clear m1 m2 m3 m4
          exact ⟨⟨m + 1, hlt, by rw [Int.natCast_add]; rfl, HO.out⟩, by simp [intOf]; omega⟩
    · obtain rfl : m = L.length := by omega
      have b2 : ((L.length : Int) < (L.length : Int)) = False := eq_false (by omega)
      rw [List.take_length] at HO
      go_wp2_with fail
      go_ret
      exact ⟨_, rfl, HO.out⟩
end Go.Proofs.Ytkidphekfnmhhaa

/-
  Contract of ref.SameInts.
-/
namespace Go.Proofs.Ytkidphekfnmhhaa
open Go.RowKit

set_option maxHeartbeats 8000000 in
set_option maxRecDepth 100000 in
theorem sameInts_l (A B : List Int) (ada adb : Option Addr) (ca cb na nb : Nat) (w : World) (hA : IntRow w ada A) (hB : IntRow w adb B) (ea : na = A.length) (eb : nb = B.length) (hla : A.length ≤ 100000) :
    Calls Try.prog 21 #[.slice ada na ca, .slice adb nb cb] w (Gives (.bool (decide (A = B))) w) := by
  subst ea eb
  have HA := Lib.hid hA
  have HB := Lib.hid hB
  obtain ⟨r, hr⟩ : ∃ r, decide (A = B) = r := ⟨_, rfl⟩
  rw [hr]
  have HR := Lib.hid hr
  clear hA hB hr
  go_enter Try.func21, Try.ntmps21
  by_cases hl : A.length = B.length
  · have b0 : ((A.length : Int) = (B.length : Int)) = True := eq_true (by omega)
    have b0' : ((A.length : Int) != (B.length : Int)) = false := by rw [hl]; simp
    have HLE := Lib.hid hl
    clear hl
    go_wp2_with fail
    go_loopw [5] (fun iv W => ∃ k : Nat, k ≤ A.length ∧ iv = .int .i64 k ∧ (∀ j (h : j < A.length) (h' : j < B.length), j < k → A[j] = B[j]) ∧ Below w.heap.size w W) (fun iv _ => A.length - (intOf iv).toNat)
    case atStart => exact ⟨0, Nat.zero_le _, rfl, fun j _ _ h => absurd h (Nat.not_lt_zero _), Below.refl _ _⟩
    case round =>
      obtain ⟨k, hkl, rfl, hE, hW⟩ := hrel
      have HE := Lib.hid hE
      have HW := Lib.hid hW
      clear hE hW
      by_cases hk : k < A.length
      · have hkB : k < B.length := by have := HLE.out; omega
        have b2 : ((k : Int) < (A.length : Int)) = True := eq_true (by omega)
        have d2 : (k < A.length) = True := eq_true hk
        obtain ⟨x, hx⟩ : ∃ x, A[k] = x := ⟨_, rfl⟩
        obtain ⟨y, hy⟩ : ∃ y, B[k] = y := ⟨_, rfl⟩
        have HX := Lib.hid hx
        have HY := Lib.hid hy
        clear hx hy
        obtain ⟨g1, o1, rfl⟩ := HA.out.some (by omega)
        obtain ⟨g2, o2, rfl⟩ := HB.out.some (by omega)
        by_cases hxy : x = y
        · subst hxy
          go_wp2_with fail
          refine wp_region_held_drew (S := fun V => Below w.heap.size w V) (by kernel_rfl) ?_ (fun hHeld => ?_)
          · exact HW.out.drew
          revert hHeld
          generalize World.drew _ = W1
          intro hHeld 
          refine wpAnyH_take (i := 0) (v := ?_) rfl (by kernel_rfl) (by kernel_rfl) (by kernel_rfl) (fun _ _ _ h => h) (Or.inl ⟨by rfl, ?_⟩) (by assumption) ?_
          rotate_left
          · intro Wq hSw
            clear hSw
            go_simp
            all_goals (with_reducible rfl)
          try simp only [Act.put, List.getElem_toArray, List.getElem_cons_zero, List.setIfInBounds_toArray, List.set_cons_zero, List.set_cons_succ]
          refine wpAnyH_take (i := 1) (v := ?_) rfl (by kernel_rfl) (by kernel_rfl) (by kernel_rfl) (fun _ _ _ h => h) (Or.inl ⟨by rfl, ?_⟩) (by assumption) ?_
          rotate_left
          · intro Wq hSw
            clear hSw
            go_simp
            all_goals (with_reducible rfl)
          try simp only [Act.put, List.getElem_toArray, List.getElem_cons_succ, List.getElem_cons_zero, List.setIfInBounds_toArray, List.set_cons_zero, List.set_cons_succ]
          refine wpAnyH_take (i := 2) (v := ?_) rfl (by kernel_rfl) (by kernel_rfl) (by kernel_rfl) (fun _ _ _ h => h) (Or.inl ⟨by rfl, ?_⟩) (by assumption) ?_
          rotate_left
          · intro Wq hSw
            have b1 : ((k : Int) < (A.length : Int)) = True := eq_true (by omega)
            have d1 : (k < A.length) = True := eq_true (by omega)
            have d2 : (k < A.length) = True := eq_true (by omega)
            have c1 : ((0 : Int) ≤ (k : Int)) = True := eq_true (by omega)
            clear hSw
            go_simp
            all_goals (with_reducible rfl)
          try simp only [Act.put, List.getElem_toArray, List.getElem_cons_succ, List.getElem_cons_zero, List.setIfInBounds_toArray, List.set_cons_zero, List.set_cons_succ]
          refine wpAnyH_take (i := 3) (v := ?_) rfl (by kernel_rfl) (by kernel_rfl) (by kernel_rfl) (fun _ _ _ h => h) (Or.inl ⟨by rfl, ?_⟩) (by assumption) ?_
          rotate_left
          · intro Wq hSw
            have k0 := intRow_at (HA.out.below hSw) hk HX.out
            clear hSw
            go_simp
            all_goals (with_reducible rfl)
          try simp only [Act.put, List.getElem_toArray, List.getElem_cons_succ, List.getElem_cons_zero, List.setIfInBounds_toArray, List.set_cons_zero, List.set_cons_succ]
          refine wpAnyH_take (i := 4) (v := ?_) rfl (by kernel_rfl) (by kernel_rfl) (by kernel_rfl) (fun _ _ _ h => h) (Or.inl ⟨by rfl, ?_⟩) (by assumption) ?_
          rotate_left
          · intro Wq hSw
            clear hSw
            go_simp
            all_goals (with_reducible rfl)
          try simp only [Act.put, List.getElem_toArray, List.getElem_cons_succ, List.getElem_cons_zero, List.setIfInBounds_toArray, List.set_cons_zero, List.set_cons_succ]
          refine wpAnyH_take (i := 5) (v := ?_) rfl (by kernel_rfl) (by kernel_rfl) (by kernel_rfl) (fun _ _ _ h => h) (Or.inl ⟨by rfl, ?_⟩) (by assumption) ?_
          rotate_left
          · intro Wq hSw
            clear hSw
            go_simp
            all_goals (with_reducible rfl)
          try simp only [Act.put, List.getElem_toArray, List.getElem_cons_succ, List.getElem_cons_zero, List.setIfInBounds_toArray, List.set_cons_zero, List.set_cons_succ]
          refine wpAnyH_take (i := 6) (v := ?_) rfl (by kernel_rfl) (by kernel_rfl) (by kernel_rfl) (fun _ _ _ h => h) (Or.inl ⟨by rfl, ?_⟩) (by assumption) ?_
          rotate_left
          · intro Wq hSw
            have b1 : ((k : Int) < (B.length : Int)) = True := eq_true (by omega)
            have d1 : (k < B.length) = True := eq_true (by omega)
            have d2 : (k < A.length) = True := eq_true (by omega)
            have c1 : ((0 : Int) ≤ (k : Int)) = True := eq_true (by omega)
            clear hSw
            go_simp
            all_goals (with_reducible rfl)
          try simp only [Act.put, List.getElem_toArray, List.getElem_cons_succ, List.getElem_cons_zero, List.setIfInBounds_toArray, List.set_cons_zero, List.set_cons_succ]
          refine wpAnyH_take (i := 7) (v := ?_) rfl (by kernel_rfl) (by kernel_rfl) (by kernel_rfl) (fun _ _ _ h => h) (Or.inl ⟨by rfl, ?_⟩) (by assumption) ?_
          rotate_left
          · intro Wq hSw
            have k0 := intRow_at (HB.out.below hSw) hkB HY.out
            clear hSw
            go_simp
            all_goals (with_reducible rfl)
          try simp only [Act.put, List.getElem_toArray, List.getElem_cons_succ, List.getElem_cons_zero, List.setIfInBounds_toArray, List.set_cons_zero, List.set_cons_succ]
          refine wpAnyH_take (i := 8) (v := ?_) rfl (by kernel_rfl) (by kernel_rfl) (by kernel_rfl) (fun _ _ _ h => h) (Or.inl ⟨by rfl, ?_⟩) (by assumption) ?_
          rotate_left
          · intro Wq hSw
            clear hSw
            go_simp
            all_goals (with_reducible rfl)
          try simp only [Act.put, List.getElem_toArray, List.getElem_cons_succ, List.getElem_cons_zero, List.setIfInBounds_toArray, List.set_cons_zero, List.set_cons_succ]
          refine wpAnyH_done (by kernel_rfl) ?_ _
          clear HW
          obtain ⟨m1, m2, m3, m4⟩ := wnum (i := k) (by omega)
          go_wp2_with fail
          clear m1 m2 m3 m4
          refine ⟨⟨k + 1, hk, by rw [Int.natCast_add]; rfl, fun j h h' hj => ?_, hHeld⟩, by simp [intOf]; omega⟩
          rcases Nat.lt_or_ge j k with e | e
          · exact HE.out j h h' e
          · obtain rfl : j = k := by omega
            exact HX.out.trans HY.out.symm
        · have b3 : (x = y) = False := eq_false hxy
          have b3' : (x != y) = true := bne_iff_ne.2 hxy
          have HF : Hid (r = false) := by
            rw [← HR.out]
            exact decide_eq_false (fun e => by subst e; exact hxy (HX.out.symm.trans HY.out))
          clear hxy
          go_wp2_with fail
          refine wp_region_held_drew (S := fun V => Below w.heap.size w V) (by kernel_rfl) ?_ (fun hHeld => ?_)
          · exact HW.out.drew
          revert hHeld
          generalize World.drew _ = W1
          intro hHeld 
          refine wpAnyH_take (i := 0) (v := ?_) rfl (by kernel_rfl) (by kernel_rfl) (by kernel_rfl) (fun _ _ _ h => h) (Or.inl ⟨by rfl, ?_⟩) (by assumption) ?_
          rotate_left
          · intro Wq hSw
            clear hSw
            go_simp
            all_goals (with_reducible rfl)
          try simp only [Act.put, List.getElem_toArray, List.getElem_cons_zero, List.setIfInBounds_toArray, List.set_cons_zero, List.set_cons_succ]
          refine wpAnyH_take (i := 1) (v := ?_) rfl (by kernel_rfl) (by kernel_rfl) (by kernel_rfl) (fun _ _ _ h => h) (Or.inl ⟨by rfl, ?_⟩) (by assumption) ?_
          rotate_left
          · intro Wq hSw
            clear hSw
            go_simp
            all_goals (with_reducible rfl)
          try simp only [Act.put, List.getElem_toArray, List.getElem_cons_succ, List.getElem_cons_zero, List.setIfInBounds_toArray, List.set_cons_zero, List.set_cons_succ]
          refine wpAnyH_take (i := 2) (v := ?_) rfl (by kernel_rfl) (by kernel_rfl) (by kernel_rfl) (fun _ _ _ h => h) (Or.inl ⟨by rfl, ?_⟩) (by assumption) ?_
          rotate_left
          · intro Wq hSw
            have b1 : ((k : Int) < (A.length : Int)) = True := eq_true (by omega)
            have d1 : (k < A.length) = True := eq_true (by omega)
            have d2 : (k < A.length) = True := eq_true (by omega)
            have c1 : ((0 : Int) ≤ (k : Int)) = True := eq_true (by omega)
            clear hSw
            go_simp
            all_goals (with_reducible rfl)
          try simp only [Act.put, List.getElem_toArray, List.getElem_cons_succ, List.getElem_cons_zero, List.setIfInBounds_toArray, List.set_cons_zero, List.set_cons_succ]
          refine wpAnyH_take (i := 3) (v := ?_) rfl (by kernel_rfl) (by kernel_rfl) (by kernel_rfl) (fun _ _ _ h => h) (Or.inl ⟨by rfl, ?_⟩) (by assumption) ?_
          rotate_left
          · intro Wq hSw
            have k0 := intRow_at (HA.out.below hSw) hk HX.out
            clear hSw
            go_simp
            all_goals (with_reducible rfl)
          try simp only [Act.put, List.getElem_toArray, List.getElem_cons_succ, List.getElem_cons_zero, List.setIfInBounds_toArray, List.set_cons_zero, List.set_cons_succ]
          refine wpAnyH_take (i := 4) (v := ?_) rfl (by kernel_rfl) (by kernel_rfl) (by kernel_rfl) (fun _ _ _ h => h) (Or.inl ⟨by rfl, ?_⟩) (by assumption) ?_
          rotate_left
          · intro Wq hSw
            clear hSw
            go_simp
            all_goals (with_reducible rfl)
          try simp only [Act.put, List.getElem_toArray, List.getElem_cons_succ, List.getElem_cons_zero, List.setIfInBounds_toArray, List.set_cons_zero, List.set_cons_succ]
          refine wpAnyH_take (i := 5) (v := ?_) rfl (by kernel_rfl) (by kernel_rfl) (by kernel_rfl) (fun _ _ _ h => h) (Or.inl ⟨by rfl, ?_⟩) (by assumption) ?_
          rotate_left
          · intro Wq hSw
            clear hSw
            go_simp
            all_goals (with_reducible rfl)
          try simp only [Act.put, List.getElem_toArray, List.getElem_cons_succ, List.getElem_cons_zero, List.setIfInBounds_toArray, List.set_cons_zero, List.set_cons_succ]
          refine wpAnyH_take (i := 6) (v := ?_) rfl (by kernel_rfl) (by kernel_rfl) (by kernel_rfl) (fun _ _ _ h => h) (Or.inl ⟨by rfl, ?_⟩) (by assumption) ?_
          rotate_left
          · intro Wq hSw
            have b1 : ((k : Int) < (B.length : Int)) = True := eq_true (by omega)
            have d1 : (k < B.length) = True := eq_true (by omega)
            have d2 : (k < A.length) = True := eq_true (by omega)
            have c1 : ((0 : Int) ≤ (k : Int)) = True := eq_true (by omega)
            clear hSw
            go_simp
            all_goals (with_reducible rfl)
          try simp only [Act.put, List.getElem_toArray, List.getElem_cons_succ, List.getElem_cons_zero, List.setIfInBounds_toArray, List.set_cons_zero, List.set_cons_succ]
          refine wpAnyH_take (i := 7) (v := ?_) rfl (by kernel_rfl) (by kernel_rfl) (by kernel_rfl) (fun _ _ _ h => h) (Or.inl ⟨by rfl, ?_⟩) (by assumption) ?_
          rotate_left
          · intro Wq hSw
            have k0 := intRow_at (HB.out.below hSw) hkB HY.out
            clear hSw
            go_simp
            all_goals (with_reducible rfl)
          try simp only [Act.put, List.getElem_toArray, List.getElem_cons_succ, List.getElem_cons_zero, List.setIfInBounds_toArray, List.set_cons_zero, List.set_cons_succ]
          refine wpAnyH_take (i := 8) (v := ?_) rfl (by kernel_rfl) (by kernel_rfl) (by kernel_rfl) (fun _ _ _ h => h) (Or.inl ⟨by rfl, ?_⟩) (by assumption) ?_
          rotate_left
          · intro Wq hSw
            clear hSw
            go_simp
            all_goals (with_reducible rfl)
          try simp only [Act.put, List.getElem_toArray, List.getElem_cons_succ, List.getElem_cons_zero, List.setIfInBounds_toArray, List.set_cons_zero, List.set_cons_succ]
          refine wpAnyH_done (by kernel_rfl) ?_ _
          go_wp2_with fail
          go_ret
          exact ⟨by rw [HF.out]; rfl, hHeld⟩
      · obtain rfl : k = A.length := by omega
        have b2 : ((A.length : Int) < (A.length : Int)) = False := eq_false (by omega)
        go_wp2_with fail
        go_ret
        obtain rfl : r = true := by
          rw [← HR.out]
          exact decide_eq_true (List.ext_getElem HLE.out fun j h h' => HE.out j h h' h)
        exact ⟨rfl, HW.out⟩
  · have b0 : ((A.length : Int) = (B.length : Int)) = False := eq_false (by omega)
    have b0' : ((A.length : Int) != (B.length : Int)) = true := bne_iff_ne.2 (by omega)
    have HF : Hid (r = false) := by
      rw [← HR.out]
      exact decide_eq_false (fun e => hl (by rw [e]))
    clear hl
    go_wp2_with fail
    go_ret
    exact ⟨by rw [HF.out]; rfl, Below.refl _ _⟩
end Go.Proofs.Ytkidphekfnmhhaa

/-
  Contract of the law's same.
-/
namespace Go.Proofs.Ytkidphekfnmhhaa
open Go.RowKit

set_option maxHeartbeats 8000000 in
set_option maxRecDepth 100000 in
theorem same_l (A B : List (List Int)) (ada adb : Option Addr) (ca cb na nb : Nat) (w : World) (hA : RowsAt w ada A) (hB : RowsAt w adb B) (ea : na = A.length) (eb : nb = B.length) (hla : A.length ≤ 10000) (hlr : ∀ R ∈ A, R.length ≤ 10000) :
    Calls Try.prog 30 #[.slice ada na ca, .slice adb nb cb] w (Gives (.bool (decide (A = B))) w) := by
  subst ea eb
  have HA := Lib.hid hA
  have HB := Lib.hid hB
  have HLR := Lib.hid hlr
  obtain ⟨r, hr⟩ : ∃ r, decide (A = B) = r := ⟨_, rfl⟩
  rw [hr]
  have HR := Lib.hid hr
  clear hA hB hr hlr
  go_enter Try.func30, Try.ntmps30
  by_cases hl : A.length = B.length
  · have b0 : ((A.length : Int) = (B.length : Int)) = True := eq_true (by omega)
    have b0' : ((A.length : Int) != (B.length : Int)) = false := by rw [hl]; simp
    have HLE := Lib.hid hl
    clear hl
    go_wp2_with fail
    go_loopw [5] (fun iv W => ∃ k : Nat, k ≤ A.length ∧ iv = .int .i64 k ∧ (∀ j (h : j < A.length) (h' : j < B.length), j < k → A[j] = B[j]) ∧ Below w.heap.size w W) (fun iv _ => A.length - (intOf iv).toNat)
    case atStart => exact ⟨0, Nat.zero_le _, rfl, fun j _ _ h => absurd h (Nat.not_lt_zero _), Below.refl _ _⟩
    case round =>
      obtain ⟨k, hkl, rfl, hE, hW⟩ := hrel
      have HE := Lib.hid hE
      have HW := Lib.hid hW
      clear hE hW
      by_cases hk : k < A.length
      · have hkB : k < B.length := by have := HLE.out; omega
        have b2 : ((k : Int) < (A.length : Int)) = True := eq_true (by omega)
        have d2 : (k < A.length) = True := eq_true hk
        obtain ⟨x, hx⟩ : ∃ x, A[k] = x := ⟨_, rfl⟩
        obtain ⟨y, hy⟩ : ∃ y, B[k] = y := ⟨_, rfl⟩
        have HX := Lib.hid hx
        have HY := Lib.hid hy
        obtain ⟨g1, o1, rfl⟩ := HA.out.some (by omega)
        obtain ⟨g2, o2, rfl⟩ := HB.out.some (by omega)
        obtain ⟨a1, c1, ka, -, ia, -⟩ := HA.out.at hk hx
        obtain ⟨a2, c2, kb, -, ib, -⟩ := HB.out.at hkB hy
        have HKA := Lib.hid ((HW.out.cell (cell_lt ka)).trans ka)
        have HKB := Lib.hid ((HW.out.cell (cell_lt kb)).trans kb)
        have hxl : x.length ≤ 100000 := by have := HLR.out x (by rw [← hx]; exact List.getElem_mem _); omega
        have HC := Lib.hid (fun W (h : Below w.heap.size w W) => sameInts_l x y a1 a2 c1 c2 x.length y.length W (ia.below h) (ib.below h) rfl rfl hxl)
        clear hx hy ka kb ia ib hxl
        by_cases hxy : x = y
        · rw [decide_eq_true hxy] at HC
          have HXY := Lib.hid hxy
          clear hxy
          go_wp2_with fail
          refine wp_region_held_drew (S := fun V => Below wr.heap.size wr V) (by kernel_rfl) ?_ (fun hHeld => ?_)
          · exact bel_drew wr
          revert hHeld
          generalize World.drew _ = W1
          intro hHeld 
          refine wpAnyH_take (i := 0) (v := ?_) rfl (by kernel_rfl) (by kernel_rfl) (by kernel_rfl) (fun _ _ _ h => h) (Or.inl ⟨by rfl, ?_⟩) (by assumption) ?_
          rotate_left
          · intro Wq hSw
            clear hSw
            go_simp
            all_goals (with_reducible rfl)
          try simp only [Act.put, List.getElem_toArray, List.getElem_cons_zero, List.setIfInBounds_toArray, List.set_cons_zero, List.set_cons_succ]
          refine wpAnyH_take (i := 1) (v := ?_) rfl (by kernel_rfl) (by kernel_rfl) (by kernel_rfl) (fun _ _ _ h => h) (Or.inl ⟨by rfl, ?_⟩) (by assumption) ?_
          rotate_left
          · intro Wq hSw
            clear hSw
            go_simp
            all_goals (with_reducible rfl)
          try simp only [Act.put, List.getElem_toArray, List.getElem_cons_succ, List.getElem_cons_zero, List.setIfInBounds_toArray, List.set_cons_zero, List.set_cons_succ]
          refine wpAnyH_take (i := 2) (v := ?_) rfl (by kernel_rfl) (by kernel_rfl) (by kernel_rfl) (fun _ _ _ h => h) (Or.inl ⟨by rfl, ?_⟩) (by assumption) ?_
          rotate_left
          · intro Wq hSw
            have b1 : ((k : Int) < (A.length : Int)) = True := eq_true (by have := HLE.out; omega)
            have d1 : (k < A.length) = True := eq_true (by have := HLE.out; omega)
            have d2 : (k < A.length) = True := eq_true (by omega)
            have c1 : ((0 : Int) ≤ (k : Int)) = True := eq_true (by omega)
            clear hSw
            go_simp
            all_goals (with_reducible rfl)
          try simp only [Act.put, List.getElem_toArray, List.getElem_cons_succ, List.getElem_cons_zero, List.setIfInBounds_toArray, List.set_cons_zero, List.set_cons_succ]
          refine wpAnyH_take (i := 3) (v := ?_) rfl (by kernel_rfl) (by kernel_rfl) (by kernel_rfl) (fun _ _ _ h => h) (Or.inl ⟨by rfl, ?_⟩) (by assumption) ?_
          rotate_left
          · intro Wq hSw
            have k0 := (hSw.cell (cell_lt HKA.out)).trans HKA.out
            clear hSw
            go_simp
            all_goals (with_reducible rfl)
          try simp only [Act.put, List.getElem_toArray, List.getElem_cons_succ, List.getElem_cons_zero, List.setIfInBounds_toArray, List.set_cons_zero, List.set_cons_succ]
          refine wpAnyH_take (i := 4) (v := ?_) rfl (by kernel_rfl) (by kernel_rfl) (by kernel_rfl) (fun _ _ _ h => h) (Or.inl ⟨by rfl, ?_⟩) (by assumption) ?_
          rotate_left
          · intro Wq hSw
            clear hSw
            go_simp
            all_goals (with_reducible rfl)
          try simp only [Act.put, List.getElem_toArray, List.getElem_cons_succ, List.getElem_cons_zero, List.setIfInBounds_toArray, List.set_cons_zero, List.set_cons_succ]
          refine wpAnyH_take (i := 5) (v := ?_) rfl (by kernel_rfl) (by kernel_rfl) (by kernel_rfl) (fun _ _ _ h => h) (Or.inl ⟨by rfl, ?_⟩) (by assumption) ?_
          rotate_left
          · intro Wq hSw
            clear hSw
            go_simp
            all_goals (with_reducible rfl)
          try simp only [Act.put, List.getElem_toArray, List.getElem_cons_succ, List.getElem_cons_zero, List.setIfInBounds_toArray, List.set_cons_zero, List.set_cons_succ]
          refine wpAnyH_take (i := 6) (v := ?_) rfl (by kernel_rfl) (by kernel_rfl) (by kernel_rfl) (fun _ _ _ h => h) (Or.inl ⟨by rfl, ?_⟩) (by assumption) ?_
          rotate_left
          · intro Wq hSw
            have b1 : ((k : Int) < (B.length : Int)) = True := eq_true (by have := HLE.out; omega)
            have d1 : (k < B.length) = True := eq_true (by have := HLE.out; omega)
            have d2 : (k < A.length) = True := eq_true (by omega)
            have c1 : ((0 : Int) ≤ (k : Int)) = True := eq_true (by omega)
            clear hSw
            go_simp
            all_goals (with_reducible rfl)
          try simp only [Act.put, List.getElem_toArray, List.getElem_cons_succ, List.getElem_cons_zero, List.setIfInBounds_toArray, List.set_cons_zero, List.set_cons_succ]
          refine wpAnyH_take (i := 7) (v := ?_) rfl (by kernel_rfl) (by kernel_rfl) (by kernel_rfl) (fun _ _ _ h => h) (Or.inl ⟨by rfl, ?_⟩) (by assumption) ?_
          rotate_left
          · intro Wq hSw
            have k0 := (hSw.cell (cell_lt HKB.out)).trans HKB.out
            clear hSw
            go_simp
            all_goals (with_reducible rfl)
          try simp only [Act.put, List.getElem_toArray, List.getElem_cons_succ, List.getElem_cons_zero, List.setIfInBounds_toArray, List.set_cons_zero, List.set_cons_succ]
          refine r1 (i := 8) rfl (fun K hK => ?_)
          go_simp
          (with_reducible refine (HC.out _ (bl_trans HW.out hHeld)).mono ?_)
          rintro e w1 ⟨rfl, hb1⟩
          go_wp2_with fail
          refine hK.out _ _ (bl_trans hHeld hb1) (fun hHeld2 => ?_)
          clear hK K hHeld
          have hHeld := hHeld2
          clear hHeld2
          try simp only [Act.put, List.getElem_toArray, List.getElem_cons_succ, List.getElem_cons_zero, List.setIfInBounds_toArray, List.set_cons_zero, List.set_cons_succ]
          refine wpAnyH_take (i := 9) (v := ?_) rfl (by kernel_rfl) (by kernel_rfl) (by kernel_rfl) (fun _ _ _ h => h) (Or.inl ⟨by rfl, ?_⟩) (by assumption) ?_
          rotate_left
          · intro Wq hSw
            clear hSw
            go_simp
            all_goals (with_reducible rfl)
          try simp only [Act.put, List.getElem_toArray, List.getElem_cons_succ, List.getElem_cons_zero, List.setIfInBounds_toArray, List.set_cons_zero, List.set_cons_succ]
          refine wpAnyH_done (by kernel_rfl) ?_ _
          replace HW := Lib.hid (bl_trans HW.out hHeld)
          clear hHeld HKA HKB
          obtain ⟨m1, m2, m3, m4⟩ := wnum (i := k) (by omega)
          go_wp2_with fail
          clear m1 m2 m3 m4
          refine ⟨⟨k + 1, hk, by rw [Int.natCast_add]; rfl, fun j h h' hj => ?_, HW.out⟩, by simp [intOf]; omega⟩
          rcases Nat.lt_or_ge j k with e | e
          · exact HE.out j h h' e
          · obtain rfl : j = k := by omega
            exact HX.out.trans (HXY.out.trans HY.out.symm)
        · rw [decide_eq_false hxy] at HC
          have HF : Hid (r = false) := by
            rw [← HR.out]
            exact decide_eq_false (fun e => by subst e; exact hxy (HX.out.symm.trans HY.out))
          clear hxy
          go_wp2_with fail
          refine wp_region_held_drew (S := fun V => Below wr.heap.size wr V) (by kernel_rfl) ?_ (fun hHeld => ?_)
          · exact bel_drew wr
          revert hHeld
          generalize World.drew _ = W1
          intro hHeld 
          refine wpAnyH_take (i := 0) (v := ?_) rfl (by kernel_rfl) (by kernel_rfl) (by kernel_rfl) (fun _ _ _ h => h) (Or.inl ⟨by rfl, ?_⟩) (by assumption) ?_
          rotate_left
          · intro Wq hSw
            clear hSw
            go_simp
            all_goals (with_reducible rfl)
          try simp only [Act.put, List.getElem_toArray, List.getElem_cons_zero, List.setIfInBounds_toArray, List.set_cons_zero, List.set_cons_succ]
          refine wpAnyH_take (i := 1) (v := ?_) rfl (by kernel_rfl) (by kernel_rfl) (by kernel_rfl) (fun _ _ _ h => h) (Or.inl ⟨by rfl, ?_⟩) (by assumption) ?_
          rotate_left
          · intro Wq hSw
            clear hSw
            go_simp
            all_goals (with_reducible rfl)
          try simp only [Act.put, List.getElem_toArray, List.getElem_cons_succ, List.getElem_cons_zero, List.setIfInBounds_toArray, List.set_cons_zero, List.set_cons_succ]
          refine wpAnyH_take (i := 2) (v := ?_) rfl (by kernel_rfl) (by kernel_rfl) (by kernel_rfl) (fun _ _ _ h => h) (Or.inl ⟨by rfl, ?_⟩) (by assumption) ?_
          rotate_left
          · intro Wq hSw
            have b1 : ((k : Int) < (A.length : Int)) = True := eq_true (by have := HLE.out; omega)
            have d1 : (k < A.length) = True := eq_true (by have := HLE.out; omega)
            have d2 : (k < A.length) = True := eq_true (by omega)
            have c1 : ((0 : Int) ≤ (k : Int)) = True := eq_true (by omega)
            clear hSw
            go_simp
            all_goals (with_reducible rfl)
          try simp only [Act.put, List.getElem_toArray, List.getElem_cons_succ, List.getElem_cons_zero, List.setIfInBounds_toArray, List.set_cons_zero, List.set_cons_succ]
          refine wpAnyH_take (i := 3) (v := ?_) rfl (by kernel_rfl) (by kernel_rfl) (by kernel_rfl) (fun _ _ _ h => h) (Or.inl ⟨by rfl, ?_⟩) (by assumption) ?_
          rotate_left
          · intro Wq hSw
            have k0 := (hSw.cell (cell_lt HKA.out)).trans HKA.out
            clear hSw
            go_simp
            all_goals (with_reducible rfl)
          try simp only [Act.put, List.getElem_toArray, List.getElem_cons_succ, List.getElem_cons_zero, List.setIfInBounds_toArray, List.set_cons_zero, List.set_cons_succ]
          refine wpAnyH_take (i := 4) (v := ?_) rfl (by kernel_rfl) (by kernel_rfl) (by kernel_rfl) (fun _ _ _ h => h) (Or.inl ⟨by rfl, ?_⟩) (by assumption) ?_
          rotate_left
          · intro Wq hSw
            clear hSw
            go_simp
            all_goals (with_reducible rfl)
          try simp only [Act.put, List.getElem_toArray, List.getElem_cons_succ, List.getElem_cons_zero, List.setIfInBounds_toArray, List.set_cons_zero, List.set_cons_succ]
          refine wpAnyH_take (i := 5) (v := ?_) rfl (by kernel_rfl) (by kernel_rfl) (by kernel_rfl) (fun _ _ _ h => h) (Or.inl ⟨by rfl, ?_⟩) (by assumption) ?_
          rotate_left
          · intro Wq hSw
            clear hSw
            go_simp
            all_goals (with_reducible rfl)
          try simp only [Act.put, List.getElem_toArray, List.getElem_cons_succ, List.getElem_cons_zero, List.setIfInBounds_toArray, List.set_cons_zero, List.set_cons_succ]
          refine wpAnyH_take (i := 6) (v := ?_) rfl (by kernel_rfl) (by kernel_rfl) (by kernel_rfl) (fun _ _ _ h => h) (Or.inl ⟨by rfl, ?_⟩) (by assumption) ?_
          rotate_left
          · intro Wq hSw
            have b1 : ((k : Int) < (B.length : Int)) = True := eq_true (by have := HLE.out; omega)
            have d1 : (k < B.length) = True := eq_true (by have := HLE.out; omega)
            have d2 : (k < A.length) = True := eq_true (by omega)
            have c1 : ((0 : Int) ≤ (k : Int)) = True := eq_true (by omega)
            clear hSw
            go_simp
            all_goals (with_reducible rfl)
          try simp only [Act.put, List.getElem_toArray, List.getElem_cons_succ, List.getElem_cons_zero, List.setIfInBounds_toArray, List.set_cons_zero, List.set_cons_succ]
          refine wpAnyH_take (i := 7) (v := ?_) rfl (by kernel_rfl) (by kernel_rfl) (by kernel_rfl) (fun _ _ _ h => h) (Or.inl ⟨by rfl, ?_⟩) (by assumption) ?_
          rotate_left
          · intro Wq hSw
            have k0 := (hSw.cell (cell_lt HKB.out)).trans HKB.out
            clear hSw
            go_simp
            all_goals (with_reducible rfl)
          try simp only [Act.put, List.getElem_toArray, List.getElem_cons_succ, List.getElem_cons_zero, List.setIfInBounds_toArray, List.set_cons_zero, List.set_cons_succ]
          refine r1 (i := 8) rfl (fun K hK => ?_)
          go_simp
          (with_reducible refine (HC.out _ (bl_trans HW.out hHeld)).mono ?_)
          rintro e w1 ⟨rfl, hb1⟩
          go_wp2_with fail
          refine hK.out _ _ (bl_trans hHeld hb1) (fun hHeld2 => ?_)
          clear hK K hHeld
          have hHeld := hHeld2
          clear hHeld2
          try simp only [Act.put, List.getElem_toArray, List.getElem_cons_succ, List.getElem_cons_zero, List.setIfInBounds_toArray, List.set_cons_zero, List.set_cons_succ]
          refine wpAnyH_take (i := 9) (v := ?_) rfl (by kernel_rfl) (by kernel_rfl) (by kernel_rfl) (fun _ _ _ h => h) (Or.inl ⟨by rfl, ?_⟩) (by assumption) ?_
          rotate_left
          · intro Wq hSw
            clear hSw
            go_simp
            all_goals (with_reducible rfl)
          try simp only [Act.put, List.getElem_toArray, List.getElem_cons_succ, List.getElem_cons_zero, List.setIfInBounds_toArray, List.set_cons_zero, List.set_cons_succ]
          refine wpAnyH_done (by kernel_rfl) ?_ _
          replace HW := Lib.hid (bl_trans HW.out hHeld)
          clear hHeld HKA HKB
          go_wp2_with fail
          go_ret
          rw [HF.out]
          exact ⟨rfl, HW.out⟩
      · obtain rfl : k = A.length := by omega
        have b2 : ((A.length : Int) < (A.length : Int)) = False := eq_false (by omega)
        go_wp2_with fail
        go_ret
        have e : A = B := List.ext_getElem HLE.out fun j h h' => HE.out j h h' h
        refine ⟨?_, HW.out⟩
        rw [← HR.out, decide_eq_true e]
        rfl
  · have b0 : ((A.length : Int) = (B.length : Int)) = False := eq_false (by omega)
    have b0' : ((A.length : Int) != (B.length : Int)) = true := bne_iff_ne.2 (by omega)
    have HF : Hid (r = false) := by
      rw [← HR.out]
      exact decide_eq_false (fun e => hl (by rw [e]))
    clear hl
    go_wp2_with fail
    go_ret
    rw [HF.out]
    exact ⟨rfl, Below.refl _ _⟩
end Go.Proofs.Ytkidphekfnmhhaa
