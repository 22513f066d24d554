/-
  Contract of ref.Twice.
-/
import Derived.Deep.Cut
import Derived.Test.YtmkegehkifpkjaaSMem
namespace Go.Proofs.Ytmkegehkifpkjaa
open Go.RowKit

set_option maxHeartbeats 8000000 in
set_option maxRecDepth 100000 in
theorem refTwice_l (p : List Pt) (ad : Option Addr) (cap : Nat) (w : World) (hP : PtRow w ad p) (hlen : p.length ≤ 10000) :
    Calls Try.prog 17 #[.slice ad p.length cap] w fun e w' => ∃ a b ok, e = .returned (.tuple #[.int .i64 a, .int .i64 b, .bool ok]) ∧ TwiceIs p a b ok ∧ Below w.heap.size w w' := by
  have HP := Lib.hid hP
  clear hP
  go_enter Try.func17, Try.ntmps17
  go_wp2_with fail
  go_loopw [5] (fun iv W => ∃ i : Nat, iv = .int .i64 i ∧ i ≤ p.length ∧ (∀ i' k', i' < i → i' < k' → k' < p.length → pget p i' ≠ pget p k') ∧ Below w.heap.size w W) (fun iv _ => p.length - (intOf iv).toNat)
  case atStart => exact ⟨0, rfl, Nat.zero_le _, fun _ _ h => absurd h (Nat.not_lt_zero _), Below.refl _ _⟩
  case round =>
    obtain ⟨i, rfl, hile, hno, hW⟩ := hrel
    obtain ⟨W0, eW⟩ : ∃ W0, W0 = wr := ⟨_, rfl⟩
    subst eW
    have HBW := Lib.hid hW
    have HNO := Lib.hid hno
    have HP0 := Lib.hid (HP.out.below hW)
    clear hW hno
    by_cases hi : i < p.length
    · have b0 : ((i : Int) < (p.length : Int)) = True := eq_true (by omega)
      have d0 : (i < p.length) = True := eq_true (by omega)
      have c0 : ((0 : Int) ≤ (i : Int)) = True := eq_true (by omega)
      obtain ⟨g, o, rfl⟩ := HP0.out.some (by omega)
      obtain ⟨m1, m2, m3, m4⟩ := wnum (i := i) (by omega)
      go_wp2_with fail
      clear m1 m2 m3 m4
      go_loopw [6] (fun kv W => ∃ k : Nat, kv = .int .i64 k ∧ i < k ∧ (∀ k', i < k' → k' < k → pget p i ≠ pget p k') ∧ Below W0.heap.size W0 W) (fun kv _ => p.length + 1 - (intOf kv).toNat)
      case atStart => exact ⟨i + 1, by rw [Int.natCast_add]; rfl, by omega, fun k' h1 h2 => absurd h1 (by omega), Below.refl _ _⟩
      case round =>
        obtain ⟨k, rfl, hik, hno, hW⟩ := hrel
        have HK := Lib.hid hno
        have HW := Lib.hid hW
        have HPi := Lib.hid (HP0.out.below hW)
        clear hno hW
        by_cases hk : k < p.length
        · have b2 : ((k : Int) < (p.length : Int)) = True := eq_true (by omega)
          have d2 : (k < p.length) = True := eq_true (by omega)
          have c2 : ((0 : Int) ≤ (k : Int)) = True := eq_true (by omega)
          by_cases he : pget p i = pget p k
          · have HPR : Hid (Pair1 p i k) := by
              refine ⟨hik, hk, he, fun i' k' h1 h2 h3 => ?_⟩
              rcases Nat.lt_trichotomy i' i with h | h | h
              · exact absurd h3 (HNO.out i' k' h h1 h2)
              · subst h
                refine .inr ⟨rfl, ?_⟩
                rcases Nat.lt_or_ge k' k with h4 | h4
                · exact absurd h3 (HK.out k' h1 h4)
                · exact h4
              · exact .inl h
            have hx : ((pget p i).x = (pget p k).x) = True := eq_true (by rw [he])
            have hy : ((pget p i).y = (pget p k).y) = True := eq_true (by rw [he])
            clear he
            go_wp2_with fail
            refine wp_region_held_drew (S := fun V => Below wr.heap.size wr V) (by kernel_rfl) ?_ (fun hHeld => ?_)
            · exact bel_drew wr
            revert hHeld
            generalize World.drew _ = W1
            intro hHeld 
            refine wpAnyH_take (i := 0) (v := ?_) rfl (by kernel_rfl) (by kernel_rfl) (by kernel_rfl) (fun _ _ _ h => h) (Or.inl ⟨by rfl, ?_⟩) (by assumption) ?_
            rotate_left
            · intro Wq hSw
              clear hSw
              go_simp
              all_goals (with_reducible rfl)
            try simp only [Act.put, List.getElem_toArray, List.getElem_cons_zero, List.setIfInBounds_toArray, List.set_cons_zero, List.set_cons_succ]
            refine wpAnyH_take (i := 1) (v := ?_) rfl (by kernel_rfl) (by kernel_rfl) (by kernel_rfl) (fun _ _ _ h => h) (Or.inl ⟨by rfl, ?_⟩) (by assumption) ?_
            rotate_left
            · intro Wq hSw
              clear hSw
              go_simp
              all_goals (with_reducible rfl)
            try simp only [Act.put, List.getElem_toArray, List.getElem_cons_succ, List.getElem_cons_zero, List.setIfInBounds_toArray, List.set_cons_zero, List.set_cons_succ]
            refine wpAnyH_take (i := 2) (v := ?_) rfl (by kernel_rfl) (by kernel_rfl) (by kernel_rfl) (fun _ _ _ h => h) (Or.inl ⟨by rfl, ?_⟩) (by assumption) ?_
            rotate_left
            · intro Wq hSw
              have b1 : ((i : Int) < (p.length : Int)) = True := eq_true (by omega)
              have d1 : (i < p.length) = True := eq_true (by omega)
              have c1 : ((0 : Int) ≤ (i : Int)) = True := eq_true (by omega)
              clear hSw
              go_simp
              all_goals (with_reducible rfl)
            try simp only [Act.put, List.getElem_toArray, List.getElem_cons_succ, List.getElem_cons_zero, List.setIfInBounds_toArray, List.set_cons_zero, List.set_cons_succ]
            refine wpAnyH_take (i := 3) (v := ?_) rfl (by kernel_rfl) (by kernel_rfl) (by kernel_rfl) (fun _ _ _ h => h) (Or.inl ⟨by rfl, ?_⟩) (by assumption) ?_
            rotate_left
            · intro Wq hSw
              obtain ⟨k0, k1⟩ := ptRow_at (HPi.out.below hSw) (i := i) hi (t := pget p i) rfl
              clear hSw
              go_simp
              all_goals (with_reducible rfl)
            try simp only [Act.put, List.getElem_toArray, List.getElem_cons_succ, List.getElem_cons_zero, List.setIfInBounds_toArray, List.set_cons_zero, List.set_cons_succ]
            refine wpAnyH_take (i := 4) (v := ?_) rfl (by kernel_rfl) (by kernel_rfl) (by kernel_rfl) (fun _ _ _ h => h) (Or.inl ⟨by rfl, ?_⟩) (by assumption) ?_
            rotate_left
            · intro Wq hSw
              clear hSw
              go_simp
              all_goals (with_reducible rfl)
            try simp only [Act.put, List.getElem_toArray, List.getElem_cons_succ, List.getElem_cons_zero, List.setIfInBounds_toArray, List.set_cons_zero, List.set_cons_succ]
            refine wpAnyH_take (i := 5) (v := ?_) rfl (by kernel_rfl) (by kernel_rfl) (by kernel_rfl) (fun _ _ _ h => h) (Or.inl ⟨by rfl, ?_⟩) (by assumption) ?_
            rotate_left
            · intro Wq hSw
              clear hSw
              go_simp
              all_goals (with_reducible rfl)
            try simp only [Act.put, List.getElem_toArray, List.getElem_cons_succ, List.getElem_cons_zero, List.setIfInBounds_toArray, List.set_cons_zero, List.set_cons_succ]
            refine wpAnyH_take (i := 6) (v := ?_) rfl (by kernel_rfl) (by kernel_rfl) (by kernel_rfl) (fun _ _ _ h => h) (Or.inl ⟨by rfl, ?_⟩) (by assumption) ?_
            rotate_left
            · intro Wq hSw
              have b1 : ((k : Int) < (p.length : Int)) = True := eq_true (by omega)
              have d1 : (k < p.length) = True := eq_true (by omega)
              have c1 : ((0 : Int) ≤ (k : Int)) = True := eq_true (by omega)
              clear hSw
              go_simp
              all_goals (with_reducible rfl)
            try simp only [Act.put, List.getElem_toArray, List.getElem_cons_succ, List.getElem_cons_zero, List.setIfInBounds_toArray, List.set_cons_zero, List.set_cons_succ]
            refine wpAnyH_take (i := 7) (v := ?_) rfl (by kernel_rfl) (by kernel_rfl) (by kernel_rfl) (fun _ _ _ h => h) (Or.inl ⟨by rfl, ?_⟩) (by assumption) ?_
            rotate_left
            · intro Wq hSw
              obtain ⟨k0, k1⟩ := ptRow_at (HPi.out.below hSw) (i := k) hk (t := pget p k) rfl
              clear hSw
              go_simp
              all_goals (with_reducible rfl)
            try simp only [Act.put, List.getElem_toArray, List.getElem_cons_succ, List.getElem_cons_zero, List.setIfInBounds_toArray, List.set_cons_zero, List.set_cons_succ]
            refine wpAnyH_take (i := 8) (v := ?_) rfl (by kernel_rfl) (by kernel_rfl) (by kernel_rfl) (fun _ _ _ h => h) (Or.inl ⟨by rfl, ?_⟩) (by assumption) ?_
            rotate_left
            · intro Wq hSw
              clear hSw
              go_simp
              all_goals (with_reducible rfl)
            try simp only [Act.put, List.getElem_toArray, List.getElem_cons_succ, List.getElem_cons_zero, List.setIfInBounds_toArray, List.set_cons_zero, List.set_cons_succ]
            refine wpAnyH_done (by kernel_rfl) ?_ _
            have HW2 := Lib.hid (bl_trans HW.out hHeld)
            clear HW hHeld HPi
            go_wp2_with fail
            go_ret3
            exact ⟨i, k, true, rfl, .inr ⟨rfl, i, k, rfl, rfl, HPR.out⟩, bl_trans HBW.out HW2.out⟩
          · have HK2 : Hid (∀ k', i < k' → k' < k + 1 → pget p i ≠ pget p k') := by
              intro k' h1 h2
              rcases Nat.lt_or_ge k' k with h | h
              · exact HK.out k' h1 h
              · obtain rfl : k' = k := by omega
                exact he
            by_cases hx0 : (pget p i).x = (pget p k).x
            · have hx : ((pget p i).x = (pget p k).x) = True := eq_true hx0
              have hy : ((pget p i).y = (pget p k).y) = False := eq_false (fun hy => he (Pt.ext' hx0 hy))
              clear he hx0
              go_wp2_with fail
              refine wp_region_held_drew (S := fun V => Below wr.heap.size wr V) (by kernel_rfl) ?_ (fun hHeld => ?_)
              · exact bel_drew wr
              revert hHeld
              generalize World.drew _ = W1
              intro hHeld 
              refine wpAnyH_take (i := 0) (v := ?_) rfl (by kernel_rfl) (by kernel_rfl) (by kernel_rfl) (fun _ _ _ h => h) (Or.inl ⟨by rfl, ?_⟩) (by assumption) ?_
              rotate_left
              · intro Wq hSw
                clear hSw
                go_simp
                all_goals (with_reducible rfl)
              try simp only [Act.put, List.getElem_toArray, List.getElem_cons_zero, List.setIfInBounds_toArray, List.set_cons_zero, List.set_cons_succ]
              refine wpAnyH_take (i := 1) (v := ?_) rfl (by kernel_rfl) (by kernel_rfl) (by kernel_rfl) (fun _ _ _ h => h) (Or.inl ⟨by rfl, ?_⟩) (by assumption) ?_
              rotate_left
              · intro Wq hSw
                clear hSw
                go_simp
                all_goals (with_reducible rfl)
              try simp only [Act.put, List.getElem_toArray, List.getElem_cons_succ, List.getElem_cons_zero, List.setIfInBounds_toArray, List.set_cons_zero, List.set_cons_succ]
              refine wpAnyH_take (i := 2) (v := ?_) rfl (by kernel_rfl) (by kernel_rfl) (by kernel_rfl) (fun _ _ _ h => h) (Or.inl ⟨by rfl, ?_⟩) (by assumption) ?_
              rotate_left
              · intro Wq hSw
                have b1 : ((i : Int) < (p.length : Int)) = True := eq_true (by omega)
                have d1 : (i < p.length) = True := eq_true (by omega)
                have c1 : ((0 : Int) ≤ (i : Int)) = True := eq_true (by omega)
                clear hSw
                go_simp
                all_goals (with_reducible rfl)
              try simp only [Act.put, List.getElem_toArray, List.getElem_cons_succ, List.getElem_cons_zero, List.setIfInBounds_toArray, List.set_cons_zero, List.set_cons_succ]
              refine wpAnyH_take (i := 3) (v := ?_) rfl (by kernel_rfl) (by kernel_rfl) (by kernel_rfl) (fun _ _ _ h => h) (Or.inl ⟨by rfl, ?_⟩) (by assumption) ?_
              rotate_left
              · intro Wq hSw
                obtain ⟨k0, k1⟩ := ptRow_at (HPi.out.below hSw) (i := i) hi (t := pget p i) rfl
                clear hSw
                go_simp
                all_goals (with_reducible rfl)
              try simp only [Act.put, List.getElem_toArray, List.getElem_cons_succ, List.getElem_cons_zero, List.setIfInBounds_toArray, List.set_cons_zero, List.set_cons_succ]
              refine wpAnyH_take (i := 4) (v := ?_) rfl (by kernel_rfl) (by kernel_rfl) (by kernel_rfl) (fun _ _ _ h => h) (Or.inl ⟨by rfl, ?_⟩) (by assumption) ?_
              rotate_left
              · intro Wq hSw
                clear hSw
                go_simp
                all_goals (with_reducible rfl)
              try simp only [Act.put, List.getElem_toArray, List.getElem_cons_succ, List.getElem_cons_zero, List.setIfInBounds_toArray, List.set_cons_zero, List.set_cons_succ]
              refine wpAnyH_take (i := 5) (v := ?_) rfl (by kernel_rfl) (by kernel_rfl) (by kernel_rfl) (fun _ _ _ h => h) (Or.inl ⟨by rfl, ?_⟩) (by assumption) ?_
              rotate_left
              · intro Wq hSw
                clear hSw
                go_simp
                all_goals (with_reducible rfl)
              try simp only [Act.put, List.getElem_toArray, List.getElem_cons_succ, List.getElem_cons_zero, List.setIfInBounds_toArray, List.set_cons_zero, List.set_cons_succ]
              refine wpAnyH_take (i := 6) (v := ?_) rfl (by kernel_rfl) (by kernel_rfl) (by kernel_rfl) (fun _ _ _ h => h) (Or.inl ⟨by rfl, ?_⟩) (by assumption) ?_
              rotate_left
              · intro Wq hSw
                have b1 : ((k : Int) < (p.length : Int)) = True := eq_true (by omega)
                have d1 : (k < p.length) = True := eq_true (by omega)
                have c1 : ((0 : Int) ≤ (k : Int)) = True := eq_true (by omega)
                clear hSw
                go_simp
                all_goals (with_reducible rfl)
              try simp only [Act.put, List.getElem_toArray, List.getElem_cons_succ, List.getElem_cons_zero, List.setIfInBounds_toArray, List.set_cons_zero, List.set_cons_succ]
              refine wpAnyH_take (i := 7) (v := ?_) rfl (by kernel_rfl) (by kernel_rfl) (by kernel_rfl) (fun _ _ _ h => h) (Or.inl ⟨by rfl, ?_⟩) (by assumption) ?_
              rotate_left
              · intro Wq hSw
                obtain ⟨k0, k1⟩ := ptRow_at (HPi.out.below hSw) (i := k) hk (t := pget p k) rfl
                clear hSw
                go_simp
                all_goals (with_reducible rfl)
              try simp only [Act.put, List.getElem_toArray, List.getElem_cons_succ, List.getElem_cons_zero, List.setIfInBounds_toArray, List.set_cons_zero, List.set_cons_succ]
              refine wpAnyH_take (i := 8) (v := ?_) rfl (by kernel_rfl) (by kernel_rfl) (by kernel_rfl) (fun _ _ _ h => h) (Or.inl ⟨by rfl, ?_⟩) (by assumption) ?_
              rotate_left
              · intro Wq hSw
                clear hSw
                go_simp
                all_goals (with_reducible rfl)
              try simp only [Act.put, List.getElem_toArray, List.getElem_cons_succ, List.getElem_cons_zero, List.setIfInBounds_toArray, List.set_cons_zero, List.set_cons_succ]
              refine wpAnyH_done (by kernel_rfl) ?_ _
              have HW2 := Lib.hid (bl_trans HW.out hHeld)
              clear HW hHeld HPi
              obtain ⟨m1, m2, m3, m4⟩ := wnum (i := k) (by omega)
              go_wp2_with fail
              clear m1 m2 m3 m4
              exact ⟨⟨k + 1, by rw [Int.natCast_add]; rfl, by omega, HK2.out, HW2.out⟩, by simp only [intOf]; omega⟩
            · have hx : ((pget p i).x = (pget p k).x) = False := eq_false hx0
              clear he hx0
              go_wp2_with fail
              refine wp_region_held_drew (S := fun V => Below wr.heap.size wr V) (by kernel_rfl) ?_ (fun hHeld => ?_)
              · exact bel_drew wr
              revert hHeld
              generalize World.drew _ = W1
              intro hHeld 
              refine wpAnyH_take (i := 0) (v := ?_) rfl (by kernel_rfl) (by kernel_rfl) (by kernel_rfl) (fun _ _ _ h => h) (Or.inl ⟨by rfl, ?_⟩) (by assumption) ?_
              rotate_left
              · intro Wq hSw
                clear hSw
                go_simp
                all_goals (with_reducible rfl)
              try simp only [Act.put, List.getElem_toArray, List.getElem_cons_zero, List.setIfInBounds_toArray, List.set_cons_zero, List.set_cons_succ]
              refine wpAnyH_take (i := 1) (v := ?_) rfl (by kernel_rfl) (by kernel_rfl) (by kernel_rfl) (fun _ _ _ h => h) (Or.inl ⟨by rfl, ?_⟩) (by assumption) ?_
              rotate_left
              · intro Wq hSw
                clear hSw
                go_simp
                all_goals (with_reducible rfl)
              try simp only [Act.put, List.getElem_toArray, List.getElem_cons_succ, List.getElem_cons_zero, List.setIfInBounds_toArray, List.set_cons_zero, List.set_cons_succ]
              refine wpAnyH_take (i := 2) (v := ?_) rfl (by kernel_rfl) (by kernel_rfl) (by kernel_rfl) (fun _ _ _ h => h) (Or.inl ⟨by rfl, ?_⟩) (by assumption) ?_
              rotate_left
              · intro Wq hSw
                have b1 : ((i : Int) < (p.length : Int)) = True := eq_true (by omega)
                have d1 : (i < p.length) = True := eq_true (by omega)
                have c1 : ((0 : Int) ≤ (i : Int)) = True := eq_true (by omega)
                clear hSw
                go_simp
                all_goals (with_reducible rfl)
              try simp only [Act.put, List.getElem_toArray, List.getElem_cons_succ, List.getElem_cons_zero, List.setIfInBounds_toArray, List.set_cons_zero, List.set_cons_succ]
              refine wpAnyH_take (i := 3) (v := ?_) rfl (by kernel_rfl) (by kernel_rfl) (by kernel_rfl) (fun _ _ _ h => h) (Or.inl ⟨by rfl, ?_⟩) (by assumption) ?_
              rotate_left
              · intro Wq hSw
                obtain ⟨k0, k1⟩ := ptRow_at (HPi.out.below hSw) (i := i) hi (t := pget p i) rfl
                clear hSw
                go_simp
                all_goals (with_reducible rfl)
              try simp only [Act.put, List.getElem_toArray, List.getElem_cons_succ, List.getElem_cons_zero, List.setIfInBounds_toArray, List.set_cons_zero, List.set_cons_succ]
              refine wpAnyH_take (i := 4) (v := ?_) rfl (by kernel_rfl) (by kernel_rfl) (by kernel_rfl) (fun _ _ _ h => h) (Or.inl ⟨by rfl, ?_⟩) (by assumption) ?_
              rotate_left
              · intro Wq hSw
                clear hSw
                go_simp
                all_goals (with_reducible rfl)
              try simp only [Act.put, List.getElem_toArray, List.getElem_cons_succ, List.getElem_cons_zero, List.setIfInBounds_toArray, List.set_cons_zero, List.set_cons_succ]
              refine wpAnyH_take (i := 5) (v := ?_) rfl (by kernel_rfl) (by kernel_rfl) (by kernel_rfl) (fun _ _ _ h => h) (Or.inl ⟨by rfl, ?_⟩) (by assumption) ?_
              rotate_left
              · intro Wq hSw
                clear hSw
                go_simp
                all_goals (with_reducible rfl)
              try simp only [Act.put, List.getElem_toArray, List.getElem_cons_succ, List.getElem_cons_zero, List.setIfInBounds_toArray, List.set_cons_zero, List.set_cons_succ]
              refine wpAnyH_take (i := 6) (v := ?_) rfl (by kernel_rfl) (by kernel_rfl) (by kernel_rfl) (fun _ _ _ h => h) (Or.inl ⟨by rfl, ?_⟩) (by assumption) ?_
              rotate_left
              · intro Wq hSw
                have b1 : ((k : Int) < (p.length : Int)) = True := eq_true (by omega)
                have d1 : (k < p.length) = True := eq_true (by omega)
                have c1 : ((0 : Int) ≤ (k : Int)) = True := eq_true (by omega)
                clear hSw
                go_simp
                all_goals (with_reducible rfl)
              try simp only [Act.put, List.getElem_toArray, List.getElem_cons_succ, List.getElem_cons_zero, List.setIfInBounds_toArray, List.set_cons_zero, List.set_cons_succ]
              refine wpAnyH_take (i := 7) (v := ?_) rfl (by kernel_rfl) (by kernel_rfl) (by kernel_rfl) (fun _ _ _ h => h) (Or.inl ⟨by rfl, ?_⟩) (by assumption) ?_
              rotate_left
              · intro Wq hSw
                obtain ⟨k0, k1⟩ := ptRow_at (HPi.out.below hSw) (i := k) hk (t := pget p k) rfl
                clear hSw
                go_simp
                all_goals (with_reducible rfl)
              try simp only [Act.put, List.getElem_toArray, List.getElem_cons_succ, List.getElem_cons_zero, List.setIfInBounds_toArray, List.set_cons_zero, List.set_cons_succ]
              refine wpAnyH_take (i := 8) (v := ?_) rfl (by kernel_rfl) (by kernel_rfl) (by kernel_rfl) (fun _ _ _ h => h) (Or.inl ⟨by rfl, ?_⟩) (by assumption) ?_
              rotate_left
              · intro Wq hSw
                clear hSw
                go_simp
                all_goals (with_reducible rfl)
              try simp only [Act.put, List.getElem_toArray, List.getElem_cons_succ, List.getElem_cons_zero, List.setIfInBounds_toArray, List.set_cons_zero, List.set_cons_succ]
              refine wpAnyH_done (by kernel_rfl) ?_ _
              have HW2 := Lib.hid (bl_trans HW.out hHeld)
              clear HW hHeld HPi
              obtain ⟨m1, m2, m3, m4⟩ := wnum (i := k) (by omega)
              go_wp2_with fail
              clear m1 m2 m3 m4
              exact ⟨⟨k + 1, by rw [Int.natCast_add]; rfl, by omega, HK2.out, HW2.out⟩, by simp only [intOf]; omega⟩
        · have b2 : ((k : Int) < (p.length : Int)) = False := eq_false (by omega)
          have HN2 : Hid (∀ i' k', i' < i + 1 → i' < k' → k' < p.length → pget p i' ≠ pget p k') := by
            intro i' k' h1 h2 h3
            rcases Nat.lt_or_ge i' i with h | h
            · exact HNO.out i' k' h h2 h3
            · obtain rfl : i' = i := by omega
              exact HK.out k' h2 (by omega)
          obtain ⟨m1, m2, m3, m4⟩ := wnum (i := i) (by omega)
          go_wp2_with fail
          clear m1 m2 m3 m4
          exact ⟨⟨i + 1, by rw [Int.natCast_add]; rfl, hi, HN2.out, bl_trans HBW.out HW.out⟩, by simp only [intOf]; omega⟩
    · obtain rfl : i = p.length := by omega
      have b0 : ((p.length : Int) < (p.length : Int)) = False := eq_false (by omega)
      go_wp2_with fail
      go_ret3
      exact ⟨0, 0, false, rfl, .inl ⟨rfl, rfl, rfl, fun i k h1 h2 => HNO.out i k (by omega) h1 h2⟩, HBW.out⟩
end Go.Proofs.Ytmkegehkifpkjaa
