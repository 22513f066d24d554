/-
  Contract of ref.Ranks.
-/
import Derived.Deep.Cut
import Derived.Test.YtmkegehkifpkjaaSMem
namespace Go.Proofs.Ytmkegehkifpkjaa
open Go.RowKit

/-- is it less, and none of the first j like it? -/
def fst (p : List Pt) (k i j : Nat) : Bool := lessP (pget p k) (pget p i) && (List.range j).all fun m => decide (pget p m ≠ pget p k)
theorem fst_step (p : List Pt) (k i j : Nat) : fst p k i (j + 1) = (fst p k i j && decide (pget p j ≠ pget p k)) := by
  unfold fst
  rw [List.range_succ, List.all_append, Bool.and_assoc]
  simp
theorem fst_zero (p : List Pt) (k i : Nat) : fst p k i 0 = lessP (pget p k) (pget p i) := by unfold fst; simp
theorem rkTo_fst (p : List Pt) (i k : Nat) : rkTo p (pget p i) (k + 1) = rkTo p (pget p i) k + if fst p k i k = true then 1 else 0 := rkTo_step p (pget p i) k
set_option maxHeartbeats 8000000 in
set_option maxRecDepth 100000 in
theorem refRanks_l (p : List Pt) (ad : Option Addr) (cap : Nat) (w : World) (hP : PtRow w ad p) (hlen : p.length ≤ 10000) :
    Calls Try.prog 15 #[.slice ad p.length cap] w fun e w' => ∃ v, e = .returned v ∧ Oi w v (ranksM p) w' := by
  have HP := Lib.hid hP
  have HRL := Lib.hid (ranksM_len p)
  have HRA := Lib.hid (fun i (h : i < p.length) => ranksM_at p h)
  clear hP
  go_enter Try.func15, Try.ntmps15
  go_wp2_with fail
  go_loopw [3, 4] (fun out iv W => ∃ i : Nat, iv = .int .i64 i ∧ i ≤ p.length ∧ Oi w out ((ranksM p).take i) W) (fun _ iv _ => p.length - (intOf iv).toNat)
  case atStart => exact ⟨0, rfl, Nat.zero_le _, by rw [List.take_zero]; exact oi_nil w⟩
  case round =>
    obtain ⟨i, rfl, hile, hO⟩ := hrel
    obtain ⟨W0, eW⟩ : ∃ W0, W0 = wr := ⟨_, rfl⟩
    subst eW
    have HO := Lib.hid hO
    have HP0 := Lib.hid (HP.out.below hO.hb)
    clear hO
    by_cases hi : i < p.length
    · have b0 : ((i : Int) < (p.length : Int)) = True := eq_true (by omega)
      have d0 : (i < p.length) = True := eq_true (by omega)
      have c0 : ((0 : Int) ≤ (i : Int)) = True := eq_true (by omega)
      obtain ⟨g, o, rfl⟩ := HP0.out.some (by omega)
      go_wp2_with fail
      go_loopw [5, 6] (fun nv kv W => ∃ k n : Nat, kv = .int .i64 k ∧ nv = .int .i64 n ∧ k ≤ p.length ∧ n = rkTo p (pget p i) k ∧ Below W0.heap.size W0 W) (fun _ kv _ => p.length - (intOf kv).toNat)
      case atStart => exact ⟨0, 0, rfl, rfl, Nat.zero_le _, rfl, Below.refl _ _⟩
      case round =>
        obtain ⟨k, n, rfl, rfl, hkl, hn, hW⟩ := hrel
        obtain ⟨W1', eW⟩ : ∃ W1', W1' = wr := ⟨_, rfl⟩
        have hnk : n ≤ k := by rw [hn]; exact rkTo_le _ _ _
        have HN := Lib.hid hn
        have HW := Lib.hid hW
        clear hn hW
        by_cases hk : k < p.length
        · have b2 : ((k : Int) < (p.length : Int)) = True := eq_true (by omega)
          have d2 : (k < p.length) = True := eq_true (by omega)
          have c2 : ((0 : Int) ≤ (k : Int)) = True := eq_true (by omega)
          have HPi := Lib.hid (HP0.out.below HW.out)
          clear eW
          have HST := Lib.hid (rkTo_fst p i k)
          obtain ⟨f0, hf0⟩ : ∃ f, lessP (pget p k) (pget p i) = f := ⟨_, rfl⟩
          have HLS := Lib.hid hf0
          have HF0 : Hid (f0 = fst p k i 0) := by unfold Hid; rw [fst_zero, hf0]
          clear hf0
          go_wp2_with fail
          refine wp_region_held_drew (S := fun V => Below wr.heap.size wr V) (by kernel_rfl) ?_ (fun hHeld => ?_)
          · exact bel_drew wr
          revert hHeld
          generalize World.drew _ = W1
          intro hHeld 
          refine wpAnyH_take (i := 0) (v := ?_) rfl (by kernel_rfl) (by kernel_rfl) (by kernel_rfl) (fun _ _ _ h => h) (Or.inl ⟨by rfl, ?_⟩) (by assumption) ?_
          rotate_left
          · intro Wq hSw
            clear hSw
            go_simp
            all_goals (with_reducible rfl)
          try simp only [Act.put, List.getElem_toArray, List.getElem_cons_zero, List.setIfInBounds_toArray, List.set_cons_zero, List.set_cons_succ]
          refine wpAnyH_take (i := 1) (v := ?_) rfl (by kernel_rfl) (by kernel_rfl) (by kernel_rfl) (fun _ _ _ h => h) (Or.inl ⟨by rfl, ?_⟩) (by assumption) ?_
          rotate_left
          · intro Wq hSw
            clear hSw
            go_simp
            all_goals (with_reducible rfl)
          try simp only [Act.put, List.getElem_toArray, List.getElem_cons_succ, List.getElem_cons_zero, List.setIfInBounds_toArray, List.set_cons_zero, List.set_cons_succ]
          refine wpAnyH_take (i := 2) (v := ?_) rfl (by kernel_rfl) (by kernel_rfl) (by kernel_rfl) (fun _ _ _ h => h) (Or.inl ⟨by rfl, ?_⟩) (by assumption) ?_
          rotate_left
          · intro Wq hSw
            have b1 : ((k : Int) < (p.length : Int)) = True := eq_true (by omega)
            have d1 : (k < p.length) = True := eq_true (by omega)
            have c1 : ((0 : Int) ≤ (k : Int)) = True := eq_true (by omega)
            clear hSw
            go_simp
            all_goals (with_reducible rfl)
          try simp only [Act.put, List.getElem_toArray, List.getElem_cons_succ, List.getElem_cons_zero, List.setIfInBounds_toArray, List.set_cons_zero, List.set_cons_succ]
          refine wpAnyH_take (i := 3) (v := ?_) rfl (by kernel_rfl) (by kernel_rfl) (by kernel_rfl) (fun _ _ _ h => h) (Or.inl ⟨by rfl, ?_⟩) (by assumption) ?_
          rotate_left
          · intro Wq hSw
            obtain ⟨k0, k1⟩ := ptRow_at (HPi.out.below hSw) (i := k) hk (t := pget p k) rfl
            clear hSw
            go_simp
            all_goals (with_reducible rfl)
          try simp only [Act.put, List.getElem_toArray, List.getElem_cons_succ, List.getElem_cons_zero, List.setIfInBounds_toArray, List.set_cons_zero, List.set_cons_succ]
          refine wpAnyH_take (i := 4) (v := ?_) rfl (by kernel_rfl) (by kernel_rfl) (by kernel_rfl) (fun _ _ _ h => h) (Or.inl ⟨by rfl, ?_⟩) (by assumption) ?_
          rotate_left
          · intro Wq hSw
            clear hSw
            go_simp
            all_goals (with_reducible rfl)
          try simp only [Act.put, List.getElem_toArray, List.getElem_cons_succ, List.getElem_cons_zero, List.setIfInBounds_toArray, List.set_cons_zero, List.set_cons_succ]
          refine wpAnyH_take (i := 5) (v := ?_) rfl (by kernel_rfl) (by kernel_rfl) (by kernel_rfl) (fun _ _ _ h => h) (Or.inl ⟨by rfl, ?_⟩) (by assumption) ?_
          rotate_left
          · intro Wq hSw
            clear hSw
            go_simp
            all_goals (with_reducible rfl)
          try simp only [Act.put, List.getElem_toArray, List.getElem_cons_succ, List.getElem_cons_zero, List.setIfInBounds_toArray, List.set_cons_zero, List.set_cons_succ]
          refine wpAnyH_take (i := 6) (v := ?_) rfl (by kernel_rfl) (by kernel_rfl) (by kernel_rfl) (fun _ _ _ h => h) (Or.inl ⟨by rfl, ?_⟩) (by assumption) ?_
          rotate_left
          · intro Wq hSw
            have b1 : ((i : Int) < (p.length : Int)) = True := eq_true (by omega)
            have d1 : (i < p.length) = True := eq_true (by omega)
            have c1 : ((0 : Int) ≤ (i : Int)) = True := eq_true (by omega)
            clear hSw
            go_simp
            all_goals (with_reducible rfl)
          try simp only [Act.put, List.getElem_toArray, List.getElem_cons_succ, List.getElem_cons_zero, List.setIfInBounds_toArray, List.set_cons_zero, List.set_cons_succ]
          refine wpAnyH_take (i := 7) (v := ?_) rfl (by kernel_rfl) (by kernel_rfl) (by kernel_rfl) (fun _ _ _ h => h) (Or.inl ⟨by rfl, ?_⟩) (by assumption) ?_
          rotate_left
          · intro Wq hSw
            obtain ⟨k0, k1⟩ := ptRow_at (HPi.out.below hSw) (i := i) hi (t := pget p i) rfl
            clear hSw
            go_simp
            all_goals (with_reducible rfl)
          try simp only [Act.put, List.getElem_toArray, List.getElem_cons_succ, List.getElem_cons_zero, List.setIfInBounds_toArray, List.set_cons_zero, List.set_cons_succ]
          refine r1 (i := 8) rfl (fun K hK => ?_)
          go_simp
          (with_reducible refine (refLess_l (pget p k) (pget p i) _).mono ?_)
          rintro e w1 ⟨rfl, hb1⟩
          rw [HLS.out]
          go_wp2_with fail
          refine hK.out _ _ (bl_trans hHeld hb1) (fun hHeld2 => ?_)
          clear hK K hHeld
          have hHeld := hHeld2
          clear hHeld2
          try simp only [Act.put, List.getElem_toArray, List.getElem_cons_succ, List.getElem_cons_zero, List.setIfInBounds_toArray, List.set_cons_zero, List.set_cons_succ]
          refine wpAnyH_take (i := 9) (v := ?_) rfl (by kernel_rfl) (by kernel_rfl) (by kernel_rfl) (fun _ _ _ h => h) (Or.inl ⟨by rfl, ?_⟩) (by assumption) ?_
          rotate_left
          · intro Wq hSw
            clear hSw
            go_simp
            all_goals (with_reducible rfl)
          try simp only [Act.put, List.getElem_toArray, List.getElem_cons_succ, List.getElem_cons_zero, List.setIfInBounds_toArray, List.set_cons_zero, List.set_cons_succ]
          refine wpAnyH_done (by kernel_rfl) ?_ _
          have HW9 := Lib.hid (bl_trans HW.out hHeld)
          clear HW HPi hHeld
          go_wp2_with fail
          go_loopw [7, 8] (fun fv jv W => ∃ j : Nat, j ≤ k ∧ fv = .bool (fst p k i j) ∧ jv = .int .i64 j ∧ Below W0.heap.size W0 W) (fun _ jv _ => k - (intOf jv).toNat)
          case atStart => exact ⟨0, Nat.zero_le _, by rw [HF0.out], rfl, HW9.out⟩
          case round =>
            obtain ⟨j, hjle, rfl, rfl, hW⟩ := hrel
            clear HW9
            have HW := Lib.hid hW
            clear hW
            have HPi := Lib.hid (HP0.out.below HW.out)
            obtain ⟨f, hf⟩ : ∃ f, fst p k i j = f := ⟨_, rfl⟩
            by_cases hjk : j < k
            · have b3 : ((j : Int) < (k : Int)) = True := eq_true (by omega)
              have d3 : (j < k) = True := eq_true (by omega)
              have c3 : ((0 : Int) ≤ (j : Int)) = True := eq_true (by omega)
              have hj : j < p.length := by omega
              have hst := fst_step p k i j
              rw [hf] at hst ⊢
              clear hf
              cases f with
              | false =>
                have HF := Lib.hid hst
                rw [Bool.false_and] at HF
                clear hst
                go_wp2_with fail
                refine wp_region_held_drew (S := fun V => Below wr.heap.size wr V) (by kernel_rfl) ?_ (fun hHeld => ?_)
                · exact bel_drew wr
                revert hHeld
                generalize World.drew _ = W1
                intro hHeld 
                refine wpAnyH_take (i := 0) (v := ?_) rfl (by kernel_rfl) (by kernel_rfl) (by kernel_rfl) (fun _ _ _ h => h) (Or.inl ⟨by rfl, ?_⟩) (by assumption) ?_
                rotate_left
                · intro Wq hSw
                  clear hSw
                  go_simp
                  all_goals (with_reducible rfl)
                try simp only [Act.put, List.getElem_toArray, List.getElem_cons_zero, List.setIfInBounds_toArray, List.set_cons_zero, List.set_cons_succ]
                refine wpAnyH_take (i := 1) (v := ?_) rfl (by kernel_rfl) (by kernel_rfl) (by kernel_rfl) (fun _ _ _ h => h) (Or.inl ⟨by rfl, ?_⟩) (by assumption) ?_
                rotate_left
                · intro Wq hSw
                  clear hSw
                  go_simp
                  all_goals (with_reducible rfl)
                try simp only [Act.put, List.getElem_toArray, List.getElem_cons_succ, List.getElem_cons_zero, List.setIfInBounds_toArray, List.set_cons_zero, List.set_cons_succ]
                refine wpAnyH_take (i := 2) (v := _) rfl (by kernel_rfl) (by kernel_rfl) (by kernel_rfl) (fun _ _ _ h => h) (Or.inr ⟨by rfl, rfl⟩) (by assumption) ?_
                try simp only [Act.put, List.getElem_toArray, List.getElem_cons_succ, List.getElem_cons_zero, List.setIfInBounds_toArray, List.set_cons_zero, List.set_cons_succ]
                refine wpAnyH_take (i := 3) (v := _) rfl (by kernel_rfl) (by kernel_rfl) (by kernel_rfl) (fun _ _ _ h => h) (Or.inr ⟨by rfl, rfl⟩) (by assumption) ?_
                try simp only [Act.put, List.getElem_toArray, List.getElem_cons_succ, List.getElem_cons_zero, List.setIfInBounds_toArray, List.set_cons_zero, List.set_cons_succ]
                refine wpAnyH_take (i := 4) (v := _) rfl (by kernel_rfl) (by kernel_rfl) (by kernel_rfl) (fun _ _ _ h => h) (Or.inr ⟨by rfl, rfl⟩) (by assumption) ?_
                try simp only [Act.put, List.getElem_toArray, List.getElem_cons_succ, List.getElem_cons_zero, List.setIfInBounds_toArray, List.set_cons_zero, List.set_cons_succ]
                refine wpAnyH_take (i := 5) (v := _) rfl (by kernel_rfl) (by kernel_rfl) (by kernel_rfl) (fun _ _ _ h => h) (Or.inr ⟨by rfl, rfl⟩) (by assumption) ?_
                try simp only [Act.put, List.getElem_toArray, List.getElem_cons_succ, List.getElem_cons_zero, List.setIfInBounds_toArray, List.set_cons_zero, List.set_cons_succ]
                refine wpAnyH_take (i := 6) (v := _) rfl (by kernel_rfl) (by kernel_rfl) (by kernel_rfl) (fun _ _ _ h => h) (Or.inr ⟨by rfl, rfl⟩) (by assumption) ?_
                try simp only [Act.put, List.getElem_toArray, List.getElem_cons_succ, List.getElem_cons_zero, List.setIfInBounds_toArray, List.set_cons_zero, List.set_cons_succ]
                refine wpAnyH_take (i := 7) (v := _) rfl (by kernel_rfl) (by kernel_rfl) (by kernel_rfl) (fun _ _ _ h => h) (Or.inr ⟨by rfl, rfl⟩) (by assumption) ?_
                try simp only [Act.put, List.getElem_toArray, List.getElem_cons_succ, List.getElem_cons_zero, List.setIfInBounds_toArray, List.set_cons_zero, List.set_cons_succ]
                refine wpAnyH_take (i := 8) (v := _) rfl (by kernel_rfl) (by kernel_rfl) (by kernel_rfl) (fun _ _ _ h => h) (Or.inr ⟨by rfl, rfl⟩) (by assumption) ?_
                try simp only [Act.put, List.getElem_toArray, List.getElem_cons_succ, List.getElem_cons_zero, List.setIfInBounds_toArray, List.set_cons_zero, List.set_cons_succ]
                refine wpAnyH_take (i := 9) (v := _) rfl (by kernel_rfl) (by kernel_rfl) (by kernel_rfl) (fun _ _ _ h => h) (Or.inr ⟨by rfl, rfl⟩) (by assumption) ?_
                try simp only [Act.put, List.getElem_toArray, List.getElem_cons_succ, List.getElem_cons_zero, List.setIfInBounds_toArray, List.set_cons_zero, List.set_cons_succ]
                refine wpAnyH_take (i := 10) (v := _) rfl (by kernel_rfl) (by kernel_rfl) (by kernel_rfl) (fun _ _ _ h => h) (Or.inr ⟨by rfl, rfl⟩) (by assumption) ?_
                try simp only [Act.put, List.getElem_toArray, List.getElem_cons_succ, List.getElem_cons_zero, List.setIfInBounds_toArray, List.set_cons_zero, List.set_cons_succ]
                refine wpAnyH_take (i := 11) (v := ?_) rfl (by kernel_rfl) (by kernel_rfl) (by kernel_rfl) (fun _ _ _ h => h) (Or.inl ⟨by rfl, ?_⟩) (by assumption) ?_
                rotate_left
                · intro Wq hSw
                  clear hSw
                  go_simp
                  all_goals (with_reducible rfl)
                try simp only [Act.put, List.getElem_toArray, List.getElem_cons_succ, List.getElem_cons_zero, List.setIfInBounds_toArray, List.set_cons_zero, List.set_cons_succ]
                refine wpAnyH_take (i := 12) (v := ?_) rfl (by kernel_rfl) (by kernel_rfl) (by kernel_rfl) (fun _ _ _ h => h) (Or.inl ⟨by rfl, ?_⟩) (by assumption) ?_
                rotate_left
                · intro Wq hSw
                  clear hSw
                  go_simp
                  all_goals (with_reducible rfl)
                try simp only [Act.put, List.getElem_toArray, List.getElem_cons_succ, List.getElem_cons_zero, List.setIfInBounds_toArray, List.set_cons_zero, List.set_cons_succ]
                refine wpAnyH_done (by kernel_rfl) ?_ _
                have HW2 := Lib.hid (bl_trans HW.out hHeld)
                clear HW hHeld
                obtain ⟨m1, m2, m3, m4⟩ := wnum (i := j) (by omega)
                go_wp2_with fail
                clear m1 m2 m3 m4
                exact ⟨⟨j + 1, hjk, by rw [HF.out], by rw [Int.natCast_add]; rfl, HW2.out⟩, by simp only [intOf]; omega⟩
              | true =>
                by_cases he : pget p j = pget p k
                · have HF : Hid (fst p k i (j + 1) = false) := by unfold Hid; rw [hst, Bool.true_and]; simp [he]
                  have hx : ((pget p j).x = (pget p k).x) = True := eq_true (by rw [he])
                  have hy : ((pget p j).y = (pget p k).y) = True := eq_true (by rw [he])
                  clear he hst
                  go_wp2_with fail
                  refine wp_region_held_drew (S := fun V => Below wr.heap.size wr V) (by kernel_rfl) ?_ (fun hHeld => ?_)
                  · exact bel_drew wr
                  revert hHeld
                  generalize World.drew _ = W1
                  intro hHeld 
                  refine wpAnyH_take (i := 0) (v := ?_) rfl (by kernel_rfl) (by kernel_rfl) (by kernel_rfl) (fun _ _ _ h => h) (Or.inl ⟨by rfl, ?_⟩) (by assumption) ?_
                  rotate_left
                  · intro Wq hSw
                    clear hSw
                    go_simp
                    all_goals (with_reducible rfl)
                  try simp only [Act.put, List.getElem_toArray, List.getElem_cons_zero, List.setIfInBounds_toArray, List.set_cons_zero, List.set_cons_succ]
                  refine wpAnyH_take (i := 1) (v := ?_) rfl (by kernel_rfl) (by kernel_rfl) (by kernel_rfl) (fun _ _ _ h => h) (Or.inl ⟨by rfl, ?_⟩) (by assumption) ?_
                  rotate_left
                  · intro Wq hSw
                    clear hSw
                    go_simp
                    all_goals (with_reducible rfl)
                  try simp only [Act.put, List.getElem_toArray, List.getElem_cons_succ, List.getElem_cons_zero, List.setIfInBounds_toArray, List.set_cons_zero, List.set_cons_succ]
                  refine wpAnyH_take (i := 2) (v := ?_) rfl (by kernel_rfl) (by kernel_rfl) (by kernel_rfl) (fun _ _ _ h => h) (Or.inl ⟨by rfl, ?_⟩) (by assumption) ?_
                  rotate_left
                  · intro Wq hSw
                    clear hSw
                    go_simp
                    all_goals (with_reducible rfl)
                  try simp only [Act.put, List.getElem_toArray, List.getElem_cons_succ, List.getElem_cons_zero, List.setIfInBounds_toArray, List.set_cons_zero, List.set_cons_succ]
                  refine wpAnyH_take (i := 3) (v := ?_) rfl (by kernel_rfl) (by kernel_rfl) (by kernel_rfl) (fun _ _ _ h => h) (Or.inl ⟨by rfl, ?_⟩) (by assumption) ?_
                  rotate_left
                  · intro Wq hSw
                    clear hSw
                    go_simp
                    all_goals (with_reducible rfl)
                  try simp only [Act.put, List.getElem_toArray, List.getElem_cons_succ, List.getElem_cons_zero, List.setIfInBounds_toArray, List.set_cons_zero, List.set_cons_succ]
                  refine wpAnyH_take (i := 4) (v := ?_) rfl (by kernel_rfl) (by kernel_rfl) (by kernel_rfl) (fun _ _ _ h => h) (Or.inl ⟨by rfl, ?_⟩) (by assumption) ?_
                  rotate_left
                  · intro Wq hSw
                    have b1 : ((j : Int) < (p.length : Int)) = True := eq_true (by omega)
                    have d1 : (j < p.length) = True := eq_true (by omega)
                    have c1 : ((0 : Int) ≤ (j : Int)) = True := eq_true (by omega)
                    clear hSw
                    go_simp
                    all_goals (with_reducible rfl)
                  try simp only [Act.put, List.getElem_toArray, List.getElem_cons_succ, List.getElem_cons_zero, List.setIfInBounds_toArray, List.set_cons_zero, List.set_cons_succ]
                  refine wpAnyH_take (i := 5) (v := ?_) rfl (by kernel_rfl) (by kernel_rfl) (by kernel_rfl) (fun _ _ _ h => h) (Or.inl ⟨by rfl, ?_⟩) (by assumption) ?_
                  rotate_left
                  · intro Wq hSw
                    obtain ⟨k0, k1⟩ := ptRow_at (HPi.out.below hSw) (i := j) hj (t := pget p j) rfl
                    clear hSw
                    go_simp
                    all_goals (with_reducible rfl)
                  try simp only [Act.put, List.getElem_toArray, List.getElem_cons_succ, List.getElem_cons_zero, List.setIfInBounds_toArray, List.set_cons_zero, List.set_cons_succ]
                  refine wpAnyH_take (i := 6) (v := ?_) rfl (by kernel_rfl) (by kernel_rfl) (by kernel_rfl) (fun _ _ _ h => h) (Or.inl ⟨by rfl, ?_⟩) (by assumption) ?_
                  rotate_left
                  · intro Wq hSw
                    clear hSw
                    go_simp
                    all_goals (with_reducible rfl)
                  try simp only [Act.put, List.getElem_toArray, List.getElem_cons_succ, List.getElem_cons_zero, List.setIfInBounds_toArray, List.set_cons_zero, List.set_cons_succ]
                  refine wpAnyH_take (i := 7) (v := ?_) rfl (by kernel_rfl) (by kernel_rfl) (by kernel_rfl) (fun _ _ _ h => h) (Or.inl ⟨by rfl, ?_⟩) (by assumption) ?_
                  rotate_left
                  · intro Wq hSw
                    clear hSw
                    go_simp
                    all_goals (with_reducible rfl)
                  try simp only [Act.put, List.getElem_toArray, List.getElem_cons_succ, List.getElem_cons_zero, List.setIfInBounds_toArray, List.set_cons_zero, List.set_cons_succ]
                  refine wpAnyH_take (i := 8) (v := ?_) rfl (by kernel_rfl) (by kernel_rfl) (by kernel_rfl) (fun _ _ _ h => h) (Or.inl ⟨by rfl, ?_⟩) (by assumption) ?_
                  rotate_left
                  · intro Wq hSw
                    have b1 : ((k : Int) < (p.length : Int)) = True := eq_true (by omega)
                    have d1 : (k < p.length) = True := eq_true (by omega)
                    have c1 : ((0 : Int) ≤ (k : Int)) = True := eq_true (by omega)
                    clear hSw
                    go_simp
                    all_goals (with_reducible rfl)
                  try simp only [Act.put, List.getElem_toArray, List.getElem_cons_succ, List.getElem_cons_zero, List.setIfInBounds_toArray, List.set_cons_zero, List.set_cons_succ]
                  refine wpAnyH_take (i := 9) (v := ?_) rfl (by kernel_rfl) (by kernel_rfl) (by kernel_rfl) (fun _ _ _ h => h) (Or.inl ⟨by rfl, ?_⟩) (by assumption) ?_
                  rotate_left
                  · intro Wq hSw
                    obtain ⟨k0, k1⟩ := ptRow_at (HPi.out.below hSw) (i := k) hk (t := pget p k) rfl
                    clear hSw
                    go_simp
                    all_goals (with_reducible rfl)
                  try simp only [Act.put, List.getElem_toArray, List.getElem_cons_succ, List.getElem_cons_zero, List.setIfInBounds_toArray, List.set_cons_zero, List.set_cons_succ]
                  refine wpAnyH_take (i := 10) (v := ?_) rfl (by kernel_rfl) (by kernel_rfl) (by kernel_rfl) (fun _ _ _ h => h) (Or.inl ⟨by rfl, ?_⟩) (by assumption) ?_
                  rotate_left
                  · intro Wq hSw
                    clear hSw
                    go_simp
                    all_goals (with_reducible rfl)
                  try simp only [Act.put, List.getElem_toArray, List.getElem_cons_succ, List.getElem_cons_zero, List.setIfInBounds_toArray, List.set_cons_zero, List.set_cons_succ]
                  refine wpAnyH_take (i := 11) (v := ?_) rfl (by kernel_rfl) (by kernel_rfl) (by kernel_rfl) (fun _ _ _ h => h) (Or.inl ⟨by rfl, ?_⟩) (by assumption) ?_
                  rotate_left
                  · intro Wq hSw
                    clear hSw
                    go_simp
                    all_goals (with_reducible rfl)
                  try simp only [Act.put, List.getElem_toArray, List.getElem_cons_succ, List.getElem_cons_zero, List.setIfInBounds_toArray, List.set_cons_zero, List.set_cons_succ]
                  refine wpAnyH_take (i := 12) (v := ?_) rfl (by kernel_rfl) (by kernel_rfl) (by kernel_rfl) (fun _ _ _ h => h) (Or.inl ⟨by rfl, ?_⟩) (by assumption) ?_
                  rotate_left
                  · intro Wq hSw
                    clear hSw
                    go_simp
                    all_goals (with_reducible rfl)
                  try simp only [Act.put, List.getElem_toArray, List.getElem_cons_succ, List.getElem_cons_zero, List.setIfInBounds_toArray, List.set_cons_zero, List.set_cons_succ]
                  refine wpAnyH_done (by kernel_rfl) ?_ _
                  have HW2 := Lib.hid (bl_trans HW.out hHeld)
                  clear HW hHeld
                  obtain ⟨m1, m2, m3, m4⟩ := wnum (i := j) (by omega)
                  go_wp2_with fail
                  clear m1 m2 m3 m4
                  exact ⟨⟨j + 1, hjk, by rw [HF.out], by rw [Int.natCast_add]; rfl, HW2.out⟩, by simp only [intOf]; omega⟩
                · have HF : Hid (fst p k i (j + 1) = true) := by unfold Hid; rw [hst, Bool.true_and]; simp [he]
                  by_cases hx0 : (pget p j).x = (pget p k).x
                  · have hx : ((pget p j).x = (pget p k).x) = True := eq_true hx0
                    have hy : ((pget p j).y = (pget p k).y) = False := eq_false (fun hy => he (Pt.ext' hx0 hy))
                    clear he hst hx0
                    go_wp2_with fail
                    refine wp_region_held_drew (S := fun V => Below wr.heap.size wr V) (by kernel_rfl) ?_ (fun hHeld => ?_)
                    · exact bel_drew wr
                    revert hHeld
                    generalize World.drew _ = W1
                    intro hHeld 
                    refine wpAnyH_take (i := 0) (v := ?_) rfl (by kernel_rfl) (by kernel_rfl) (by kernel_rfl) (fun _ _ _ h => h) (Or.inl ⟨by rfl, ?_⟩) (by assumption) ?_
                    rotate_left
                    · intro Wq hSw
                      clear hSw
                      go_simp
                      all_goals (with_reducible rfl)
                    try simp only [Act.put, List.getElem_toArray, List.getElem_cons_zero, List.setIfInBounds_toArray, List.set_cons_zero, List.set_cons_succ]
                    refine wpAnyH_take (i := 1) (v := ?_) rfl (by kernel_rfl) (by kernel_rfl) (by kernel_rfl) (fun _ _ _ h => h) (Or.inl ⟨by rfl, ?_⟩) (by assumption) ?_
                    rotate_left
                    · intro Wq hSw
                      clear hSw
                      go_simp
                      all_goals (with_reducible rfl)
                    try simp only [Act.put, List.getElem_toArray, List.getElem_cons_succ, List.getElem_cons_zero, List.setIfInBounds_toArray, List.set_cons_zero, List.set_cons_succ]
                    refine wpAnyH_take (i := 2) (v := ?_) rfl (by kernel_rfl) (by kernel_rfl) (by kernel_rfl) (fun _ _ _ h => h) (Or.inl ⟨by rfl, ?_⟩) (by assumption) ?_
                    rotate_left
                    · intro Wq hSw
                      clear hSw
                      go_simp
                      all_goals (with_reducible rfl)
                    try simp only [Act.put, List.getElem_toArray, List.getElem_cons_succ, List.getElem_cons_zero, List.setIfInBounds_toArray, List.set_cons_zero, List.set_cons_succ]
                    refine wpAnyH_take (i := 3) (v := ?_) rfl (by kernel_rfl) (by kernel_rfl) (by kernel_rfl) (fun _ _ _ h => h) (Or.inl ⟨by rfl, ?_⟩) (by assumption) ?_
                    rotate_left
                    · intro Wq hSw
                      clear hSw
                      go_simp
                      all_goals (with_reducible rfl)
                    try simp only [Act.put, List.getElem_toArray, List.getElem_cons_succ, List.getElem_cons_zero, List.setIfInBounds_toArray, List.set_cons_zero, List.set_cons_succ]
                    refine wpAnyH_take (i := 4) (v := ?_) rfl (by kernel_rfl) (by kernel_rfl) (by kernel_rfl) (fun _ _ _ h => h) (Or.inl ⟨by rfl, ?_⟩) (by assumption) ?_
                    rotate_left
                    · intro Wq hSw
                      have b1 : ((j : Int) < (p.length : Int)) = True := eq_true (by omega)
                      have d1 : (j < p.length) = True := eq_true (by omega)
                      have c1 : ((0 : Int) ≤ (j : Int)) = True := eq_true (by omega)
                      clear hSw
                      go_simp
                      all_goals (with_reducible rfl)
                    try simp only [Act.put, List.getElem_toArray, List.getElem_cons_succ, List.getElem_cons_zero, List.setIfInBounds_toArray, List.set_cons_zero, List.set_cons_succ]
                    refine wpAnyH_take (i := 5) (v := ?_) rfl (by kernel_rfl) (by kernel_rfl) (by kernel_rfl) (fun _ _ _ h => h) (Or.inl ⟨by rfl, ?_⟩) (by assumption) ?_
                    rotate_left
                    · intro Wq hSw
                      obtain ⟨k0, k1⟩ := ptRow_at (HPi.out.below hSw) (i := j) hj (t := pget p j) rfl
                      clear hSw
                      go_simp
                      all_goals (with_reducible rfl)
                    try simp only [Act.put, List.getElem_toArray, List.getElem_cons_succ, List.getElem_cons_zero, List.setIfInBounds_toArray, List.set_cons_zero, List.set_cons_succ]
                    refine wpAnyH_take (i := 6) (v := ?_) rfl (by kernel_rfl) (by kernel_rfl) (by kernel_rfl) (fun _ _ _ h => h) (Or.inl ⟨by rfl, ?_⟩) (by assumption) ?_
                    rotate_left
                    · intro Wq hSw
                      clear hSw
                      go_simp
                      all_goals (with_reducible rfl)
                    try simp only [Act.put, List.getElem_toArray, List.getElem_cons_succ, List.getElem_cons_zero, List.setIfInBounds_toArray, List.set_cons_zero, List.set_cons_succ]
                    refine wpAnyH_take (i := 7) (v := ?_) rfl (by kernel_rfl) (by kernel_rfl) (by kernel_rfl) (fun _ _ _ h => h) (Or.inl ⟨by rfl, ?_⟩) (by assumption) ?_
                    rotate_left
                    · intro Wq hSw
                      clear hSw
                      go_simp
                      all_goals (with_reducible rfl)
                    try simp only [Act.put, List.getElem_toArray, List.getElem_cons_succ, List.getElem_cons_zero, List.setIfInBounds_toArray, List.set_cons_zero, List.set_cons_succ]
                    refine wpAnyH_take (i := 8) (v := ?_) rfl (by kernel_rfl) (by kernel_rfl) (by kernel_rfl) (fun _ _ _ h => h) (Or.inl ⟨by rfl, ?_⟩) (by assumption) ?_
                    rotate_left
                    · intro Wq hSw
                      have b1 : ((k : Int) < (p.length : Int)) = True := eq_true (by omega)
                      have d1 : (k < p.length) = True := eq_true (by omega)
                      have c1 : ((0 : Int) ≤ (k : Int)) = True := eq_true (by omega)
                      clear hSw
                      go_simp
                      all_goals (with_reducible rfl)
                    try simp only [Act.put, List.getElem_toArray, List.getElem_cons_succ, List.getElem_cons_zero, List.setIfInBounds_toArray, List.set_cons_zero, List.set_cons_succ]
                    refine wpAnyH_take (i := 9) (v := ?_) rfl (by kernel_rfl) (by kernel_rfl) (by kernel_rfl) (fun _ _ _ h => h) (Or.inl ⟨by rfl, ?_⟩) (by assumption) ?_
                    rotate_left
                    · intro Wq hSw
                      obtain ⟨k0, k1⟩ := ptRow_at (HPi.out.below hSw) (i := k) hk (t := pget p k) rfl
                      clear hSw
                      go_simp
                      all_goals (with_reducible rfl)
                    try simp only [Act.put, List.getElem_toArray, List.getElem_cons_succ, List.getElem_cons_zero, List.setIfInBounds_toArray, List.set_cons_zero, List.set_cons_succ]
                    refine wpAnyH_take (i := 10) (v := ?_) rfl (by kernel_rfl) (by kernel_rfl) (by kernel_rfl) (fun _ _ _ h => h) (Or.inl ⟨by rfl, ?_⟩) (by assumption) ?_
                    rotate_left
                    · intro Wq hSw
                      clear hSw
                      go_simp
                      all_goals (with_reducible rfl)
                    try simp only [Act.put, List.getElem_toArray, List.getElem_cons_succ, List.getElem_cons_zero, List.setIfInBounds_toArray, List.set_cons_zero, List.set_cons_succ]
                    refine wpAnyH_take (i := 11) (v := ?_) rfl (by kernel_rfl) (by kernel_rfl) (by kernel_rfl) (fun _ _ _ h => h) (Or.inl ⟨by rfl, ?_⟩) (by assumption) ?_
                    rotate_left
                    · intro Wq hSw
                      clear hSw
                      go_simp
                      all_goals (with_reducible rfl)
                    try simp only [Act.put, List.getElem_toArray, List.getElem_cons_succ, List.getElem_cons_zero, List.setIfInBounds_toArray, List.set_cons_zero, List.set_cons_succ]
                    refine wpAnyH_take (i := 12) (v := ?_) rfl (by kernel_rfl) (by kernel_rfl) (by kernel_rfl) (fun _ _ _ h => h) (Or.inl ⟨by rfl, ?_⟩) (by assumption) ?_
                    rotate_left
                    · intro Wq hSw
                      clear hSw
                      go_simp
                      all_goals (with_reducible rfl)
                    try simp only [Act.put, List.getElem_toArray, List.getElem_cons_succ, List.getElem_cons_zero, List.setIfInBounds_toArray, List.set_cons_zero, List.set_cons_succ]
                    refine wpAnyH_done (by kernel_rfl) ?_ _
                    have HW2 := Lib.hid (bl_trans HW.out hHeld)
                    clear HW hHeld
                    obtain ⟨m1, m2, m3, m4⟩ := wnum (i := j) (by omega)
                    go_wp2_with fail
                    clear m1 m2 m3 m4
                    exact ⟨⟨j + 1, hjk, by rw [HF.out], by rw [Int.natCast_add]; rfl, HW2.out⟩, by simp only [intOf]; omega⟩
                  · have hx : ((pget p j).x = (pget p k).x) = False := eq_false hx0
                    clear he hst hx0
                    go_wp2_with fail
                    refine wp_region_held_drew (S := fun V => Below wr.heap.size wr V) (by kernel_rfl) ?_ (fun hHeld => ?_)
                    · exact bel_drew wr
                    revert hHeld
                    generalize World.drew _ = W1
                    intro hHeld 
                    refine wpAnyH_take (i := 0) (v := ?_) rfl (by kernel_rfl) (by kernel_rfl) (by kernel_rfl) (fun _ _ _ h => h) (Or.inl ⟨by rfl, ?_⟩) (by assumption) ?_
                    rotate_left
                    · intro Wq hSw
                      clear hSw
                      go_simp
                      all_goals (with_reducible rfl)
                    try simp only [Act.put, List.getElem_toArray, List.getElem_cons_zero, List.setIfInBounds_toArray, List.set_cons_zero, List.set_cons_succ]
                    refine wpAnyH_take (i := 1) (v := ?_) rfl (by kernel_rfl) (by kernel_rfl) (by kernel_rfl) (fun _ _ _ h => h) (Or.inl ⟨by rfl, ?_⟩) (by assumption) ?_
                    rotate_left
                    · intro Wq hSw
                      clear hSw
                      go_simp
                      all_goals (with_reducible rfl)
                    try simp only [Act.put, List.getElem_toArray, List.getElem_cons_succ, List.getElem_cons_zero, List.setIfInBounds_toArray, List.set_cons_zero, List.set_cons_succ]
                    refine wpAnyH_take (i := 2) (v := ?_) rfl (by kernel_rfl) (by kernel_rfl) (by kernel_rfl) (fun _ _ _ h => h) (Or.inl ⟨by rfl, ?_⟩) (by assumption) ?_
                    rotate_left
                    · intro Wq hSw
                      clear hSw
                      go_simp
                      all_goals (with_reducible rfl)
                    try simp only [Act.put, List.getElem_toArray, List.getElem_cons_succ, List.getElem_cons_zero, List.setIfInBounds_toArray, List.set_cons_zero, List.set_cons_succ]
                    refine wpAnyH_take (i := 3) (v := ?_) rfl (by kernel_rfl) (by kernel_rfl) (by kernel_rfl) (fun _ _ _ h => h) (Or.inl ⟨by rfl, ?_⟩) (by assumption) ?_
                    rotate_left
                    · intro Wq hSw
                      clear hSw
                      go_simp
                      all_goals (with_reducible rfl)
                    try simp only [Act.put, List.getElem_toArray, List.getElem_cons_succ, List.getElem_cons_zero, List.setIfInBounds_toArray, List.set_cons_zero, List.set_cons_succ]
                    refine wpAnyH_take (i := 4) (v := ?_) rfl (by kernel_rfl) (by kernel_rfl) (by kernel_rfl) (fun _ _ _ h => h) (Or.inl ⟨by rfl, ?_⟩) (by assumption) ?_
                    rotate_left
                    · intro Wq hSw
                      have b1 : ((j : Int) < (p.length : Int)) = True := eq_true (by omega)
                      have d1 : (j < p.length) = True := eq_true (by omega)
                      have c1 : ((0 : Int) ≤ (j : Int)) = True := eq_true (by omega)
                      clear hSw
                      go_simp
                      all_goals (with_reducible rfl)
                    try simp only [Act.put, List.getElem_toArray, List.getElem_cons_succ, List.getElem_cons_zero, List.setIfInBounds_toArray, List.set_cons_zero, List.set_cons_succ]
                    refine wpAnyH_take (i := 5) (v := ?_) rfl (by kernel_rfl) (by kernel_rfl) (by kernel_rfl) (fun _ _ _ h => h) (Or.inl ⟨by rfl, ?_⟩) (by assumption) ?_
                    rotate_left
                    · intro Wq hSw
                      obtain ⟨k0, k1⟩ := ptRow_at (HPi.out.below hSw) (i := j) hj (t := pget p j) rfl
                      clear hSw
                      go_simp
                      all_goals (with_reducible rfl)
                    try simp only [Act.put, List.getElem_toArray, List.getElem_cons_succ, List.getElem_cons_zero, List.setIfInBounds_toArray, List.set_cons_zero, List.set_cons_succ]
                    refine wpAnyH_take (i := 6) (v := ?_) rfl (by kernel_rfl) (by kernel_rfl) (by kernel_rfl) (fun _ _ _ h => h) (Or.inl ⟨by rfl, ?_⟩) (by assumption) ?_
                    rotate_left
                    · intro Wq hSw
                      clear hSw
                      go_simp
                      all_goals (with_reducible rfl)
                    try simp only [Act.put, List.getElem_toArray, List.getElem_cons_succ, List.getElem_cons_zero, List.setIfInBounds_toArray, List.set_cons_zero, List.set_cons_succ]
                    refine wpAnyH_take (i := 7) (v := ?_) rfl (by kernel_rfl) (by kernel_rfl) (by kernel_rfl) (fun _ _ _ h => h) (Or.inl ⟨by rfl, ?_⟩) (by assumption) ?_
                    rotate_left
                    · intro Wq hSw
                      clear hSw
                      go_simp
                      all_goals (with_reducible rfl)
                    try simp only [Act.put, List.getElem_toArray, List.getElem_cons_succ, List.getElem_cons_zero, List.setIfInBounds_toArray, List.set_cons_zero, List.set_cons_succ]
                    refine wpAnyH_take (i := 8) (v := ?_) rfl (by kernel_rfl) (by kernel_rfl) (by kernel_rfl) (fun _ _ _ h => h) (Or.inl ⟨by rfl, ?_⟩) (by assumption) ?_
                    rotate_left
                    · intro Wq hSw
                      have b1 : ((k : Int) < (p.length : Int)) = True := eq_true (by omega)
                      have d1 : (k < p.length) = True := eq_true (by omega)
                      have c1 : ((0 : Int) ≤ (k : Int)) = True := eq_true (by omega)
                      clear hSw
                      go_simp
                      all_goals (with_reducible rfl)
                    try simp only [Act.put, List.getElem_toArray, List.getElem_cons_succ, List.getElem_cons_zero, List.setIfInBounds_toArray, List.set_cons_zero, List.set_cons_succ]
                    refine wpAnyH_take (i := 9) (v := ?_) rfl (by kernel_rfl) (by kernel_rfl) (by kernel_rfl) (fun _ _ _ h => h) (Or.inl ⟨by rfl, ?_⟩) (by assumption) ?_
                    rotate_left
                    · intro Wq hSw
                      obtain ⟨k0, k1⟩ := ptRow_at (HPi.out.below hSw) (i := k) hk (t := pget p k) rfl
                      clear hSw
                      go_simp
                      all_goals (with_reducible rfl)
                    try simp only [Act.put, List.getElem_toArray, List.getElem_cons_succ, List.getElem_cons_zero, List.setIfInBounds_toArray, List.set_cons_zero, List.set_cons_succ]
                    refine wpAnyH_take (i := 10) (v := ?_) rfl (by kernel_rfl) (by kernel_rfl) (by kernel_rfl) (fun _ _ _ h => h) (Or.inl ⟨by rfl, ?_⟩) (by assumption) ?_
                    rotate_left
                    · intro Wq hSw
                      clear hSw
                      go_simp
                      all_goals (with_reducible rfl)
                    try simp only [Act.put, List.getElem_toArray, List.getElem_cons_succ, List.getElem_cons_zero, List.setIfInBounds_toArray, List.set_cons_zero, List.set_cons_succ]
                    refine wpAnyH_take (i := 11) (v := ?_) rfl (by kernel_rfl) (by kernel_rfl) (by kernel_rfl) (fun _ _ _ h => h) (Or.inl ⟨by rfl, ?_⟩) (by assumption) ?_
                    rotate_left
                    · intro Wq hSw
                      clear hSw
                      go_simp
                      all_goals (with_reducible rfl)
                    try simp only [Act.put, List.getElem_toArray, List.getElem_cons_succ, List.getElem_cons_zero, List.setIfInBounds_toArray, List.set_cons_zero, List.set_cons_succ]
                    refine wpAnyH_take (i := 12) (v := ?_) rfl (by kernel_rfl) (by kernel_rfl) (by kernel_rfl) (fun _ _ _ h => h) (Or.inl ⟨by rfl, ?_⟩) (by assumption) ?_
                    rotate_left
                    · intro Wq hSw
                      clear hSw
                      go_simp
                      all_goals (with_reducible rfl)
                    try simp only [Act.put, List.getElem_toArray, List.getElem_cons_succ, List.getElem_cons_zero, List.setIfInBounds_toArray, List.set_cons_zero, List.set_cons_succ]
                    refine wpAnyH_done (by kernel_rfl) ?_ _
                    have HW2 := Lib.hid (bl_trans HW.out hHeld)
                    clear HW hHeld
                    obtain ⟨m1, m2, m3, m4⟩ := wnum (i := j) (by omega)
                    go_wp2_with fail
                    clear m1 m2 m3 m4
                    exact ⟨⟨j + 1, hjk, by rw [HF.out], by rw [Int.natCast_add]; rfl, HW2.out⟩, by simp only [intOf]; omega⟩
            · obtain rfl : j = k := by omega
              have b3 : ((j : Int) < (j : Int)) = False := eq_false (by omega)
              rw [hf] at HST ⊢
              clear hf
              cases f with
              | false =>
                rw [if_neg (by decide)] at HST
                obtain ⟨m1, m2, m3, m4⟩ := wnum (i := j) (by omega)
                go_wp2_with fail
                clear m1 m2 m3 m4
                exact ⟨⟨j + 1, n, by rw [Int.natCast_add]; rfl, rfl, hk, by rw [HST.out, HN.out, Nat.add_zero], HW.out⟩, by simp only [intOf]; omega⟩
              | true =>
                rw [if_pos rfl] at HST
                go_upto_region 15 with (fail)
                obtain ⟨n1, n2, n3, n4⟩ := wnum (i := n) (by omega)
                go_upto_region 8 with (fail)
                clear n1 n2 n3 n4
                obtain ⟨m1, m2, m3, m4⟩ := wnum (i := j) (by omega)
                go_wp2_with fail
                clear m1 m2 m3 m4
                exact ⟨⟨j + 1, n + 1, by rw [Int.natCast_add]; rfl, by rw [Int.natCast_add]; rfl, hk, by rw [HST.out, HN.out], HW.out⟩, by simp only [intOf]; omega⟩
        · obtain rfl : k = p.length := by omega
          have b2 : ((p.length : Int) < (p.length : Int)) = False := eq_false (by omega)
          clear eW
          replace HO := Lib.hid (HO.out.below HW.out)
          have HE : Hid ((ranksM p).take i ++ [(n : Int)] = (ranksM p).take (i + 1)) := by
            unfold Hid
            rw [List.take_succ_eq_append_getElem (by rw [HRL.out]; exact hi), HRA.out i hi, HN.out]
            rfl
          have HTL : Hid (((ranksM p).take i).length ≤ 10000) := by unfold Hid; rw [List.length_take]; omega
          obtain ⟨T, hT⟩ : ∃ T, (ranksM p).take i = T := ⟨_, rfl⟩
          rw [hT] at HO HE HTL
          clear hT
          go_wp2_with (at_builtin; refine app_ints rfl _ _ rfl rfl (HO.out.alloc _) rfl (L := [(n : Int)]) rfl (intRow_new _ _ _) (fun h => by cases h) ?x1 ?_)
          case x1 => have := HTL.out; simp; omega
          intro v2 w2 hO2
          have HO2 := Lib.hid (hO2.congr HE.out)
          clear hO2 HO
          obtain ⟨m1, m2, m3, m4⟩ := wnum (i := i) (by omega)
          go_wp2_with fail
          clear m1 m2 m3 m4
          exact ⟨⟨i + 1, by rw [Int.natCast_add]; rfl, hi, HO2.out⟩, by simp only [intOf]; omega⟩
    · obtain rfl : i = p.length := by omega
      have b0 : ((p.length : Int) < (p.length : Int)) = False := eq_false (by omega)
      replace HO := Lib.hid (HO.out.congr (List.take_of_length_le (Nat.le_of_eq HRL.out)))
      go_wp2_with fail
      go_ret
      exact ⟨_, rfl, HO.out⟩
end Go.Proofs.Ytmkegehkifpkjaa
