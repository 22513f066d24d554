/-
  Contracts of within's fit, locate.
-/
import Derived.Test.YtiebmlhglgpajaaWProper
import Derived.Test.YtiebmlhglgpajaaWSide
namespace Go.Proofs.Ytiebmlhglgpajaa
open Go.RowKit

set_option maxHeartbeats 8000000 in
set_option maxRecDepth 100000 in
theorem fit9_l (p l : List Pt) (ap al : Option Addr) (cp cl : Nat) (kk : Int) (hk0 : 0 ≤ kk) (hk3 : kk ≤ 3) (w : World) (hP : PtRow w ap p) (hL : PtRow w al l) (hll : l.length ≤ 10000) (hpr : properL p l = true) :
    Calls Try.prog 102 #[.slice al l.length cl, (.func (.func 82) #[.agg #[.slice ap p.length cp, .int .i64 kk]] #[])] w (Gives (.bool (fitK kk p l)) w) := by
  have HP := hi hP
  have HL := hi hL
  have HPr := hi hpr
  clear hP hL hpr
  go_enter Try.func102, Try.ntmps102
  go_wp2_with fail
  go_loopw [9] (fun iv W => ∃ k : Nat, k ≤ l.length ∧ iv = .int .i64 k ∧ (∀ i, i < k → fitB (endsOf kk p l i).1 = true ∧ fitB (endsOf kk p l i).2 = true) ∧ Below w.heap.size w W) (fun iv _ => l.length - (intOf iv).toNat)
  case atStart => exact ⟨0, Nat.zero_le _, rfl, fun i hi => absurd hi (Nat.not_lt_zero _), Below.refl _ _⟩
  case round =>
    obtain ⟨k, hk, rfl, hS, hB⟩ := hrel
    have HB := hi hB
    have HS := hi hS
    clear hB hS
    by_cases hlt : k < l.length
    · have b2 : ((k : Int) < (l.length : Int)) = True := eq_true (by omega)
      have d2 : (k < l.length) = True := eq_true hlt
      have c2 : ((0 : Int) ≤ (k : Int)) = True := eq_true (by omega)
      obtain ⟨g, o, rfl⟩ := HL.out.some (by omega)
      obtain ⟨s, hs⟩ : ∃ s, pget l k = s := ⟨_, rfl⟩
      obtain ⟨k0, k1⟩ := ptRow_at (HL.out.below HB.out) hlt hs
      obtain ⟨x, hx⟩ : ∃ x, s.x = x := ⟨_, rfl⟩
      obtain ⟨y, hy⟩ : ∃ y, s.y = y := ⟨_, rfl⟩
      rw [hx] at k0
      rw [hy] at k1
      obtain ⟨hkx, hky, -⟩ := ok9_iff.1 (proper_iff.1 HPr.out k hlt)
      rw [hs, hx] at hkx
      rw [hs, hy] at hky
      obtain ⟨A, hA⟩ : ∃ A, scaleP kk (ptI p x) = A := ⟨_, rfl⟩
      obtain ⟨B, hBB⟩ : ∃ B, scaleP kk (ptI p y) = B := ⟨_, rfl⟩
      have HEN : Hid (endsOf kk p l k = (A, B)) := by
        unfold Hid endsOf
        rw [hs, hx, hy, hA, hBB]
      go_upto_region 4 with (fail)
      have HV := hi (var2_new wr (.int .i64 x) (.int .i64 y) 57 wr.heap.size rfl)
      have HB2 := hi (bl_trans HB.out (bl_one wr (.cells #[.int .i64 x, .int .i64 y] 57)))
      generalize wr.alloc (.cells #[.int .i64 x, .int .i64 y] 57) = W2 at *
      generalize wr.heap.size = g8 at *
      clear k0 k1
      have HK1 : Hid (∀ W, Below W2.heap.size W2 W → Calls Try.prog 82 #[.agg #[.slice ap p.length cp, .int .i64 kk], .int .i64 x] W (Gives (.agg #[.int .i64 A.x, .int .i64 A.y]) W)) := fun W h => by
        have := point_l p ap cp kk x W (HP.out.below (bl_trans HB2.out h)) hkx hk0 hk3
        rwa [hA] at this
      have HK2 : Hid (∀ W, Below W2.heap.size W2 W → Calls Try.prog 82 #[.agg #[.slice ap p.length cp, .int .i64 kk], .int .i64 y] W (Gives (.agg #[.int .i64 B.x, .int .i64 B.y]) W)) := fun W h => by
        have := point_l p ap cp kk y W (HP.out.below (bl_trans HB2.out h)) hky hk0 hk3
        rwa [hBB] at this
      clear hs hx hy hkx hky hA hBB
      obtain ⟨r, hr⟩ : ∃ r, (fitB A && fitB B) = r := ⟨_, rfl⟩
      have HR := hi hr
      clear hr
      refine wp_region_held_drew (S := fun V => Below W2.heap.size W2 V) (by kernel_rfl) ?_ (fun q1 => ?_)
      · exact bel_drew W2
      revert q1
      generalize World.drew _ = W1
      intro q1 
      refine tk (i := 0) (v := ?_) rfl (Or.inl ⟨by rfl, ?_⟩) ?_
      rotate_left
      · intro Wq hSw
        clear hSw
        go_simp
        all_goals (with_reducible rfl)
      try simp only [Act.put, x2, x4, x5, x6, x7]
      refine tk (i := 1) (v := ?_) rfl (Or.inl ⟨by rfl, ?_⟩) ?_
      rotate_left
      · intro Wq hSw
        clear hSw
        go_simp
        all_goals (with_reducible rfl)
      try simp only [Act.put, x2, x3, x4, x5, x6, x7]
      refine tk (i := 2) (v := ?_) rfl (Or.inl ⟨by rfl, ?_⟩) ?_
      rotate_left
      · intro Wq hSw
        obtain ⟨v0, v1⟩ := (HV.out.below hSw).two
        clear hSw
        go_simp
        all_goals (with_reducible rfl)
      try simp only [Act.put, x2, x3, x4, x5, x6, x7]
      refine tk (i := 4) (v := ?_) rfl (Or.inl ⟨by rfl, ?_⟩) ?_
      rotate_left
      · intro Wq hSw
        clear hSw
        go_simp
        all_goals (with_reducible rfl)
      try simp only [Act.put, x2, x3, x4, x5, x6, x7]
      refine tk (i := 5) (v := ?_) rfl (Or.inl ⟨by rfl, ?_⟩) ?_
      rotate_left
      · intro Wq hSw
        clear hSw
        go_simp
        all_goals (with_reducible rfl)
      try simp only [Act.put, x2, x3, x4, x5, x6, x7]
      refine tk (i := 6) (v := ?_) rfl (Or.inl ⟨by rfl, ?_⟩) ?_
      rotate_left
      · intro Wq hSw
        obtain ⟨v0, v1⟩ := (HV.out.below hSw).two
        clear hSw
        go_simp
        all_goals (with_reducible rfl)
      try simp only [Act.put, x2, x3, x4, x5, x6, x7]
      refine r1 (i := 3) rfl (fun K hK => ?_)
      go_simp
      (with_reducible refine (HK1.out _ q1).mono ?_)
      rintro e w1 ⟨rfl, hb1⟩
      go_wp2_with fail
      refine hK.out _ _ (bl_trans q1 hb1) (fun q2 => ?_)
      clear hK K q1
      have q1 := q2
      clear q2
      try simp only [Act.put, x2, x3, x4, x5, x6, x7]
      refine r1 (i := 7) rfl (fun K hK => ?_)
      go_simp
      (with_reducible refine (HK2.out _ q1).mono ?_)
      rintro e w1 ⟨rfl, hb1⟩
      go_wp2_with fail
      refine hK.out _ _ (bl_trans q1 hb1) (fun q2 => ?_)
      clear hK K q1
      have q1 := q2
      clear q2
      try simp only [Act.put, x2, x3, x4, x5, x6, x7]
      refine r1 (i := 8) rfl (fun K hK => ?_)
      go_simp
      refine hK.out _ _ (bl_alloc q1 _) (fun q2 => ?_)
      clear hK K q1
      have q1 := q2
      clear q2
      try simp only [Act.put, x2, x3, x4, x5, x6, x7]
      refine r1 (i := 9) rfl (fun K hK => ?_)
      go_simp
      (with_reducible refine (fits2 _ A B 49 r HR.out).mono ?_)
      rintro e w1 ⟨rfl, hb1⟩
      go_wp2_with fail
      refine hK.out _ _ (bl_trans q1 hb1) (fun q2 => ?_)
      clear hK K q1
      have q1 := q2
      clear q2
      try simp only [Act.put, x2, x3, x4, x5, x6, x7]
      refine tk (i := 10) (v := ?_) rfl (Or.inl ⟨by rfl, ?_⟩) ?_
      rotate_left
      · intro Wq hSw
        clear hSw
        go_simp
        all_goals (with_reducible rfl)
      try simp only [Act.put, x2, x3, x4, x5, x6, x7]
      refine wpAnyH_done (by kernel_rfl) ?_ _
      have HBz := hi (bl_trans HB2.out q1)
      clear q1 HV HB HB2 HK1 HK2
      cases r
      · have HN : Hid (fitK kk p l = false) := by
          unfold Hid; rw [Bool.eq_false_iff]; intro h
          have := fitK_iff.1 h k hlt
          rw [HEN.out] at this; have h2 := HR.out; rw [this.1, this.2] at h2; cases h2
        go_wp2_with fail
        go_ret
        exact ⟨by rw [HN.out]; rfl, HBz.out⟩
      · obtain ⟨m1, m2, m3, m4⟩ := wnum (i := k) (by omega)
        go_wp2_with fail
        clear m1 m2 m3 m4
        refine ⟨⟨k + 1, hlt, by rw [Int.natCast_add]; rfl, fun i hi => ?_, HBz.out⟩, by simp [intOf]; omega⟩
        rcases Nat.lt_or_eq_of_le (Nat.le_of_lt_succ hi) with h | rfl
        · exact HS.out i h
        · rw [HEN.out]; exact Bool.and_eq_true_iff.1 HR.out
    · obtain rfl : k = l.length := by omega
      have b2 : ((l.length : Int) < (l.length : Int)) = False := eq_false (by omega)
      have HY : Hid (fitK kk p l = true) := fitK_iff.2 HS.out
      go_wp2_with fail
      go_ret
      exact ⟨by rw [HY.out]; rfl, HB.out⟩

set_option maxHeartbeats 8000000 in
set_option maxRecDepth 100000 in
theorem locate_l (p l : List Pt) (q : Pt) (ap al : Option Addr) (cp cl : Nat) (kk : Int) (hk0 : 0 ≤ kk) (hk3 : kk ≤ 3) (w : World) (hP : PtRow w ap p) (hL : PtRow w al l) (hll : l.length ≤ 10000) (hpr : properL p l = true) (hft : fitK kk p l = true) (fq : fitB q = true) :
    Calls Try.prog 81 #[.slice al l.length cl, (.func (.func 82) #[.agg #[.slice ap p.length cp, .int .i64 kk]] #[]), .agg #[.int .i64 q.x, .int .i64 q.y]] w (Gives (.int .i64 (whereZ kk p l q)) w) := by
  have HP := hi hP
  have HL := hi hL
  have HPr := hi hpr
  have HFt := hi hft
  have HFq := hi fq
  clear hP hL hpr hft fq
  go_enter Try.func81, Try.ntmps81
  go_upto_region 1 with (fail)
  have HQ0 := hi (var2_new w (.int .i64 q.x) (.int .i64 q.y) 49 w.heap.size rfl)
  have HB0 := hi (bl_one w (.cells #[.int .i64 q.x, .int .i64 q.y] 49))
  generalize w.alloc (.cells #[.int .i64 q.x, .int .i64 q.y] 49) = W1 at *
  go_wp2_with fail
  go_loopw [7, 12] (fun ov iv W => ∃ k : Nat, k ≤ l.length ∧ iv = .int .i64 k ∧ (∀ i, i < k → onB (endsOf kk p l i).1 (endsOf kk p l i).2 q = false) ∧ ov = .bool (xorN (fun i => rightB (endsOf kk p l i).1 (endsOf kk p l i).2 q) k) ∧ Below W1.heap.size W1 W) (fun _ iv _ => l.length - (intOf iv).toNat)
  case atStart => exact ⟨0, Nat.zero_le _, rfl, fun i hi => absurd hi (Nat.not_lt_zero _), rfl, Below.refl _ _⟩
  case round =>
    obtain ⟨k, hk, rfl, hS, rfl, hB⟩ := hrel
    have HBb := hi hB
    have HB := hi (bl_trans HB0.out hB)
    have HS := hi hS
    clear hB hS
    by_cases hlt : k < l.length
    · have b2 : ((k : Int) < (l.length : Int)) = True := eq_true (by omega)
      have d2 : (k < l.length) = True := eq_true hlt
      have c2 : ((0 : Int) ≤ (k : Int)) = True := eq_true (by omega)
      obtain ⟨g, o, rfl⟩ := HL.out.some (by omega)
      obtain ⟨s, hs⟩ : ∃ s, pget l k = s := ⟨_, rfl⟩
      obtain ⟨k0, k1⟩ := ptRow_at (HL.out.below HB.out) hlt hs
      obtain ⟨x, hx⟩ : ∃ x, s.x = x := ⟨_, rfl⟩
      obtain ⟨y, hy⟩ : ∃ y, s.y = y := ⟨_, rfl⟩
      rw [hx] at k0
      rw [hy] at k1
      obtain ⟨hkx, hky, -⟩ := ok9_iff.1 (proper_iff.1 HPr.out k hlt)
      rw [hs, hx] at hkx
      rw [hs, hy] at hky
      obtain ⟨A, hA⟩ : ∃ A, scaleP kk (ptI p x) = A := ⟨_, rfl⟩
      obtain ⟨B, hBB⟩ : ∃ B, scaleP kk (ptI p y) = B := ⟨_, rfl⟩
      have HEN : Hid (endsOf kk p l k = (A, B)) := by
        unfold Hid endsOf
        rw [hs, hx, hy, hA, hBB]
      go_upto_region 5 with (fail)
      have HV := hi (var2_new wr (.int .i64 x) (.int .i64 y) 57 wr.heap.size rfl)
      have HBb2 := hi (bl_trans HBb.out (bl_one wr (.cells #[.int .i64 x, .int .i64 y] 57)))
      have HB2 := hi (bl_trans HB.out (bl_one wr (.cells #[.int .i64 x, .int .i64 y] 57)))
      generalize wr.alloc (.cells #[.int .i64 x, .int .i64 y] 57) = W2 at *
      generalize wr.heap.size = g8 at *
      clear k0 k1
      have HK1 : Hid (∀ W, Below W2.heap.size W2 W → Calls Try.prog 82 #[.agg #[.slice ap p.length cp, .int .i64 kk], .int .i64 x] W (Gives (.agg #[.int .i64 A.x, .int .i64 A.y]) W)) := fun W h => by
        have := point_l p ap cp kk x W (HP.out.below (bl_trans HB2.out h)) hkx hk0 hk3
        rwa [hA] at this
      have HK2 : Hid (∀ W, Below W2.heap.size W2 W → Calls Try.prog 82 #[.agg #[.slice ap p.length cp, .int .i64 kk], .int .i64 y] W (Gives (.agg #[.int .i64 B.x, .int .i64 B.y]) W)) := fun W h => by
        have := point_l p ap cp kk y W (HP.out.below (bl_trans HB2.out h)) hky hk0 hk3
        rwa [hBB] at this
      have hfk := fitK_iff.1 HFt.out k hlt
      rw [HEN.out] at hfk
      have HSI : Hid (∀ W, Calls Try.prog 101 #[.agg #[.int .i64 A.x, .int .i64 A.y], .agg #[.int .i64 B.x, .int .i64 B.y], .agg #[.int .i64 q.x, .int .i64 q.y]] W (Gives (.int .i64 (sideZ A B q)) W)) := fun W => side_l A B q hfk.1 hfk.2 HFq.out W
      have HOn : Hid (onB (endsOf kk p l k).1 (endsOf kk p l k).2 q = onB A B q) := by unfold Hid; rw [HEN.out]
      have HRi : Hid (rightB (endsOf kk p l k).1 (endsOf kk p l k).2 q = rightB A B q) := by unfold Hid; rw [HEN.out]
      have HSz : Hid (sideZ A B q = if onB A B q = true then 1 else if rightB A B q = true then 2 else 0) := rfl
      generalize sideZ A B q = sz at *
      generalize onB A B q = so at *
      generalize rightB A B q = sr at *
      clear hs hx hy hkx hky hA hBB hfk HEN
      refine wp_region_held_drew (S := fun V => Below W2.heap.size W2 V) (by kernel_rfl) ?_ (fun q1 => ?_)
      · exact bel_drew W2
      revert q1
      generalize World.drew _ = W1
      intro q1 
      refine tk (i := 0) (v := ?_) rfl (Or.inl ⟨by rfl, ?_⟩) ?_
      rotate_left
      · intro Wq hSw
        clear hSw
        go_simp
        all_goals (with_reducible rfl)
      try simp only [Act.put, x2, x4, x5, x6, x7]
      refine tk (i := 1) (v := ?_) rfl (Or.inl ⟨by rfl, ?_⟩) ?_
      rotate_left
      · intro Wq hSw
        clear hSw
        go_simp
        all_goals (with_reducible rfl)
      try simp only [Act.put, x2, x3, x4, x5, x6, x7]
      refine tk (i := 2) (v := ?_) rfl (Or.inl ⟨by rfl, ?_⟩) ?_
      rotate_left
      · intro Wq hSw
        obtain ⟨v0, v1⟩ := (HV.out.below hSw).two
        clear hSw
        go_simp
        all_goals (with_reducible rfl)
      try simp only [Act.put, x2, x3, x4, x5, x6, x7]
      refine tk (i := 4) (v := ?_) rfl (Or.inl ⟨by rfl, ?_⟩) ?_
      rotate_left
      · intro Wq hSw
        clear hSw
        go_simp
        all_goals (with_reducible rfl)
      try simp only [Act.put, x2, x3, x4, x5, x6, x7]
      refine tk (i := 5) (v := ?_) rfl (Or.inl ⟨by rfl, ?_⟩) ?_
      rotate_left
      · intro Wq hSw
        clear hSw
        go_simp
        all_goals (with_reducible rfl)
      try simp only [Act.put, x2, x3, x4, x5, x6, x7]
      refine tk (i := 6) (v := ?_) rfl (Or.inl ⟨by rfl, ?_⟩) ?_
      rotate_left
      · intro Wq hSw
        obtain ⟨v0, v1⟩ := (HV.out.below hSw).two
        clear hSw
        go_simp
        all_goals (with_reducible rfl)
      try simp only [Act.put, x2, x3, x4, x5, x6, x7]
      refine tk (i := 8) (v := ?_) rfl (Or.inl ⟨by rfl, ?_⟩) ?_
      rotate_left
      · intro Wq hSw
        obtain ⟨v0, v1⟩ := (HQ0.out.below (bl_trans HBb2.out hSw)).two
        clear hSw
        go_simp
        all_goals (with_reducible rfl)
      try simp only [Act.put, x2, x3, x4, x5, x6, x7]
      refine r1 (i := 3) rfl (fun K hK => ?_)
      go_simp
      (with_reducible refine (HK1.out _ q1).mono ?_)
      rintro e w1 ⟨rfl, hb1⟩
      go_wp2_with fail
      refine hK.out _ _ (bl_trans q1 hb1) (fun q2 => ?_)
      clear hK K q1
      have q1 := q2
      clear q2
      try simp only [Act.put, x2, x3, x4, x5, x6, x7]
      refine r1 (i := 7) rfl (fun K hK => ?_)
      go_simp
      (with_reducible refine (HK2.out _ q1).mono ?_)
      rintro e w1 ⟨rfl, hb1⟩
      go_wp2_with fail
      refine hK.out _ _ (bl_trans q1 hb1) (fun q2 => ?_)
      clear hK K q1
      have q1 := q2
      clear q2
      try simp only [Act.put, x2, x3, x4, x5, x6, x7]
      refine r1 (i := 9) rfl (fun K hK => ?_)
      go_simp
      (with_reducible refine (HSI.out _).mono ?_)
      rintro e w1 ⟨rfl, hb1⟩
      go_wp2_with fail
      refine hK.out _ _ (bl_trans q1 hb1) (fun q2 => ?_)
      clear hK K q1
      have q1 := q2
      clear q2
      try simp only [Act.put, x2, x3, x4, x5, x6, x7]
      refine wpAnyH_done (by kernel_rfl) ?_ _
      have HBz := hi (bl_trans HBb2.out q1)
      have HBy := hi (bl_trans HB2.out q1)
      clear q1 HV HB HB2 HBb HBb2 HK1 HK2 HSI
      have hxs := xorN_succ (fun i => rightB (endsOf kk p l i).1 (endsOf kk p l i).2 q) k
      rw [HRi.out] at hxs
      have HXS := hi hxs
      clear hxs
      generalize xorN (fun i => rightB (endsOf kk p l i).1 (endsOf kk p l i).2 q) k = od at *
      have m : (so = true ∧ sz = 1) ∨ (so = false ∧ sr = true ∧ sz = 2) ∨ (so = false ∧ sr = false ∧ sz = 0) := by
        rw [HSz.out]; cases so <;> cases sr <;> simp
      clear HSz
      rcases m with ⟨rfl, rfl⟩ | ⟨rfl, rfl, rfl⟩ | ⟨rfl, rfl, rfl⟩
      · have HN : Hid (whereZ kk p l q = 0) := by
          unfold Hid whereZ whereN
          rw [if_pos (anyN_yes hlt HOn.out)]
        go_wp2_with fail
        go_ret
        exact ⟨by rw [HN.out]; rfl, HBy.out⟩
      · obtain ⟨m1, m2, m3, m4⟩ := wnum (i := k) (by omega)
        go_wp2_with fail
        clear m1 m2 m3 m4
        refine ⟨⟨k + 1, hlt, by rw [Int.natCast_add]; rfl, fun i hi => ?_, by rw [HXS.out]; cases od <;> rfl, HBz.out⟩, by simp [intOf]; omega⟩
        rcases Nat.lt_or_eq_of_le (Nat.le_of_lt_succ hi) with h | rfl
        · exact HS.out i h
        · exact HOn.out
      · obtain ⟨m1, m2, m3, m4⟩ := wnum (i := k) (by omega)
        go_wp2_with fail
        clear m1 m2 m3 m4
        refine ⟨⟨k + 1, hlt, by rw [Int.natCast_add]; rfl, fun i hi => ?_, by rw [HXS.out]; cases od <;> rfl, HBz.out⟩, by simp [intOf]; omega⟩
        rcases Nat.lt_or_eq_of_le (Nat.le_of_lt_succ hi) with h | rfl
        · exact HS.out i h
        · exact HOn.out
    · obtain rfl : k = l.length := by omega
      have b2 : ((l.length : Int) < (l.length : Int)) = False := eq_false (by omega)
      have HN : Hid (anyN (fun i => onB (endsOf kk p l i).1 (endsOf kk p l i).2 q) l.length = false) := anyN_no.2 HS.out
      have HZ : Hid (whereZ kk p l q = if xorN (fun i => rightB (endsOf kk p l i).1 (endsOf kk p l i).2 q) l.length = true then 1 else -1) := by
        unfold Hid whereZ whereN
        rw [HN.out]; rfl
      generalize xorN (fun i => rightB (endsOf kk p l i).1 (endsOf kk p l i).2 q) l.length = od at *
      cases od
      · go_wp2_with fail
        go_ret
        exact ⟨by rw [HZ.out]; rfl, HB.out⟩
      · go_wp2_with fail
        go_ret
        exact ⟨by rw [HZ.out]; rfl, HB.out⟩
end Go.Proofs.Ytiebmlhglgpajaa
