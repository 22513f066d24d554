/-
  Contracts of the document's Where, At.
-/
import Derived.Test.YtkidphekfnmhhaaWCheck
import Derived.Test.YtkidphekfnmhhaaRefOns
namespace Go.Proofs.Ytkidphekfnmhhaa
open Go.RowKit

set_option maxHeartbeats 8000000 in
set_option maxRecDepth 100000 in
theorem where9_l (p l : List Pt) (q : Pt) (ap al : Option Addr) (cp cl : Nat) (kk : Int) (hk0 : 0 ≤ kk) (hk3 : kk ≤ 3) (w : World) (hP : PtRow w ap p) (hL : PtRow w al l) (hll : l.length ≤ 10000) (hpr : properL p l = true) (hft : fitK kk p l = true) (fq : fitB q = true) :
    Calls Try.prog 37 #[.slice ap p.length cp, .slice al l.length cl, .int .i64 kk, .agg #[.int .i64 q.x, .int .i64 q.y]] w (Gives (.int .i64 (whereZ kk p l q)) w) := by
  have HP := Lib.hid hP
  have HL := Lib.hid hL
  have HPr := Lib.hid hpr
  have HFt := Lib.hid hft
  have HFq := Lib.hid fq
  clear hP hL hpr hft fq
  go_enter Try.func37, Try.ntmps37
  go_upto_region 1 with (fail)
  have HQ0 := Lib.hid (var2_new w (.int .i64 q.x) (.int .i64 q.y) 25 w.heap.size rfl)
  have HB0 := Lib.hid (bl_one w (.cells #[.int .i64 q.x, .int .i64 q.y] 25))
  generalize w.alloc (.cells #[.int .i64 q.x, .int .i64 q.y] 25) = W1 at *
  go_wp2_with fail
  go_loopw [9, 10] (fun cv iv W => ∃ k n : Nat, k ≤ l.length ∧ iv = .int .i64 k ∧ (∀ i, i < k → onB (endsOf kk p l i).1 (endsOf kk p l i).2 q = false) ∧ cv = .int .i64 n ∧ n ≤ k ∧ (xorN (fun i => rightB (endsOf kk p l i).1 (endsOf kk p l i).2 q) k = decide (n % 2 = 1)) ∧ Below W1.heap.size W1 W) (fun _ iv _ => l.length - (intOf iv).toNat)
  case atStart => exact ⟨0, 0, Nat.zero_le _, rfl, fun i hi => absurd hi (Nat.not_lt_zero _), rfl, Nat.le_refl _, rfl, Below.refl _ _⟩
  case round =>
    obtain ⟨k, n, hk, rfl, hS, rfl, hnk, hX, hB⟩ := hrel
    have HBb := Lib.hid hB
    have HB := Lib.hid (bl_trans HB0.out hB)
    have HS := Lib.hid hS
    have HXr := Lib.hid hX
    clear hB hS hX
    by_cases hlt : k < l.length
    · have b2 : ((k : Int) < (l.length : Int)) = True := eq_true (by omega)
      have d2 : (k < l.length) = True := eq_true hlt
      have c2 : ((0 : Int) ≤ (k : Int)) = True := eq_true (by omega)
      obtain ⟨g, o, rfl⟩ := HL.out.some (by omega)
      obtain ⟨s, hs⟩ : ∃ s, pget l k = s := ⟨_, rfl⟩
      obtain ⟨hkx, hky, -⟩ := ok9_iff.1 (proper_iff.1 HPr.out k hlt)
      rw [hs] at hkx hky
      obtain ⟨x0, x1, xf⟩ := known_iff.1 hkx
      obtain ⟨y0, y1, yf⟩ := known_iff.1 hky
      obtain ⟨a, ha⟩ := Int.eq_ofNat_of_zero_le x0
      obtain ⟨b, hb⟩ := Int.eq_ofNat_of_zero_le y0
      have hap : a < p.length := by omega
      have hbp : b < p.length := by omega
      obtain ⟨gp, op, rfl⟩ := HP.out.some (by omega)
      obtain ⟨qa, hqa⟩ : ∃ q, pget p a = q := ⟨_, rfl⟩
      obtain ⟨qb, hqb⟩ : ∃ q, pget p b = q := ⟨_, rfl⟩
      have ea : ptI p s.x = qa := by rw [ha]; unfold ptI; rw [Int.toNat_natCast, hqa]
      have eb : ptI p s.y = qb := by rw [hb]; unfold ptI; rw [Int.toNat_natCast, hqb]
      rw [ea] at xf
      rw [eb] at yf
      obtain ⟨A, hA⟩ : ∃ A, scaleP kk qa = A := ⟨_, rfl⟩
      obtain ⟨B, hBB⟩ : ∃ B, scaleP kk qb = B := ⟨_, rfl⟩
      have HEN : Hid (endsOf kk p l k = (A, B)) := by
        unfold Hid endsOf
        rw [hs, ea, eb, hA, hBB]
      have hfk := fitK_iff.1 HFt.out k hlt
      rw [HEN.out] at hfk
      have HT1 := Lib.hid (fun W => times9_l qa kk xf hk0 hk3 W)
      have HT2 := Lib.hid (fun W => times9_l qb kk yf hk0 hk3 W)
      rw [hA] at HT1
      rw [hBB] at HT2
      have HON := Lib.hid (fun W => refOnE_l A B q W)
      have HFR := Lib.hid (fun W => farther_l A B q hfk.1 hfk.2 HFq.out W)
      have HOn : Hid (onB (endsOf kk p l k).1 (endsOf kk p l k).2 q = onB A B q) := by unfold Hid; rw [HEN.out]
      have HRi : Hid (rightB (endsOf kk p l k).1 (endsOf kk p l k).2 q = ((decide (q.y < A.y) != decide (q.y < B.y)) && decide (0 < (B.y - A.y) * crossZ A B q))) := by unfold Hid; rw [HEN.out]; rfl
      generalize onB A B q = so at *
      obtain ⟨sr, hsr⟩ : ∃ r, decide (0 < (B.y - A.y) * crossZ A B q) = r := ⟨_, rfl⟩
      rw [hsr] at HFR HRi
      have HSK := Lib.hid hs
      have HAx := Lib.hid ha
      have HBx := Lib.hid hb
      have HQA := Lib.hid hqa
      have HQB := Lib.hid hqb
      clear hs hkx hky x0 x1 xf y0 y1 yf ha hb ea eb hA hBB hfk HEN hqa hqb hsr
      have b3 : ((a : Int) < (p.length : Int)) = True := eq_true (by omega)
      have d3 : (a < p.length) = True := eq_true hap
      have c3 : ((0 : Int) ≤ (a : Int)) = True := eq_true (by omega)
      have b4 : ((b : Int) < (p.length : Int)) = True := eq_true (by omega)
      have d4 : (b < p.length) = True := eq_true hbp
      have c4 : ((0 : Int) ≤ (b : Int)) = True := eq_true (by omega)
      obtain ⟨k0, k1⟩ := ptRow_at (HL.out.below HB.out) hlt HSK.out
      rw [HAx.out] at k0
      rw [HBx.out] at k1
      obtain ⟨p0, p1⟩ := ptRow_at (HP.out.below HB.out) hap HQA.out
      go_wp2_with fail
      (with_reducible refine (HT1.out _).mono ?_); rintro e w2 ⟨rfl, hb2⟩
      go_upto_region 6 with (fail)
      have HVa := Lib.hid (var2_new w2 (.int .i64 A.x) (.int .i64 A.y) 25 w2.heap.size rfl)
      have hb3 := bl_trans hb2 (bl_one w2 (.cells #[.int .i64 A.x, .int .i64 A.y] 25))
      replace HBb := Lib.hid (bl_trans HBb.out hb3)
      replace HB := Lib.hid (bl_trans HB.out hb3)
      clear hb2 hb3 k0 k1 p0 p1 HT1
      generalize w2.alloc (.cells #[.int .i64 A.x, .int .i64 A.y] 25) = W3 at *
      generalize w2.heap.size = g11 at *
      obtain ⟨k0, k1⟩ := ptRow_at (HL.out.below HB.out) hlt HSK.out
      rw [HAx.out] at k0
      rw [HBx.out] at k1
      obtain ⟨p0, p1⟩ := ptRow_at (HP.out.below HB.out) hbp HQB.out
      go_wp2_with fail
      (with_reducible refine (HT2.out _).mono ?_); rintro e w4 ⟨rfl, hb2⟩
      go_upto_region 7 with (fail)
      have HVb := Lib.hid (var2_new w4 (.int .i64 B.x) (.int .i64 B.y) 25 w4.heap.size rfl)
      have hb3 := bl_trans hb2 (bl_one w4 (.cells #[.int .i64 B.x, .int .i64 B.y] 25))
      replace HVa := Lib.hid (HVa.out.below hb3)
      replace HBb := Lib.hid (bl_trans HBb.out hb3)
      replace HB := Lib.hid (bl_trans HB.out hb3)
      clear hb2 hb3 k0 k1 p0 p1 HT2
      generalize w4.alloc (.cells #[.int .i64 B.x, .int .i64 B.y] 25) = W5 at *
      generalize w4.heap.size = g12 at *
      obtain ⟨q0, q1⟩ := (HQ0.out.below HBb.out).two
      obtain ⟨v0, v1⟩ := HVa.out.two
      obtain ⟨v2, v3⟩ := HVb.out.two
      go_wp2_with fail
      (with_reducible refine (HON.out _).mono ?_); rintro e w6 ⟨rfl, hb2⟩
      replace HVa := Lib.hid (HVa.out.below hb2)
      replace HVb := Lib.hid (HVb.out.below hb2)
      replace HBb := Lib.hid (bl_trans HBb.out hb2)
      replace HB := Lib.hid (bl_trans HB.out hb2)
      clear hb2 q0 q1 v0 v1 v2 v3 HON
      cases so
      case true =>
        have HN : Hid (whereZ kk p l q = 0) := by
          unfold Hid whereZ whereN
          rw [if_pos (anyN_yes hlt HOn.out)]
        go_wp2_with fail
        go_ret
        exact ⟨by rw [HN.out]; rfl, HB.out⟩
      case false =>
      obtain ⟨q0, q1⟩ := (HQ0.out.below HBb.out).two
      obtain ⟨v0, v1⟩ := HVa.out.two
      obtain ⟨v2, v3⟩ := HVb.out.two
      have hxs := xorN_succ (fun i => rightB (endsOf kk p l i).1 (endsOf kk p l i).2 q) k
      rw [HRi.out, HXr.out] at hxs
      have HXS := Lib.hid hxs
      clear hxs HXr HRi
      have hcase : (q.y < A.y ∧ q.y < B.y) ∨ (¬ q.y < A.y ∧ ¬ q.y < B.y) ∨ (q.y < A.y ∧ ¬ q.y < B.y) ∨ (¬ q.y < A.y ∧ q.y < B.y) := by omega
      have FIN : Hid (∀ W (n' : Nat), n' ≤ k + 1 → xorN (fun i => rightB (endsOf kk p l i).1 (endsOf kk p l i).2 q) (k + 1) = decide (n' % 2 = 1) → Below W1.heap.size W1 W →
          ∃ k' n'' : Nat, k' ≤ l.length ∧ (.int .i64 ((k : Int) + 1) : Value) = .int .i64 k' ∧ (∀ i, i < k' → onB (endsOf kk p l i).1 (endsOf kk p l i).2 q = false) ∧ (.int .i64 (n' : Int) : Value) = .int .i64 n'' ∧ n'' ≤ k' ∧ xorN (fun i => rightB (endsOf kk p l i).1 (endsOf kk p l i).2 q) k' = decide (n'' % 2 = 1) ∧ Below W1.heap.size W1 W) := fun W n' h1 h2 h3 => by
        refine ⟨k + 1, n', hlt, by rw [Int.natCast_add]; rfl, fun i hi => ?_, rfl, h1, h2, h3⟩
        rcases Nat.lt_or_eq_of_le (Nat.le_of_lt_succ hi) with h | rfl
        · exact HS.out i h
        · exact HOn.out
      rcases hcase with ⟨h1, h2⟩ | ⟨h1, h2⟩ | ⟨h1, h2⟩ | ⟨h1, h2⟩
      · have u1 : (q.y < A.y) = True := eq_true h1
        have u2 : (q.y < B.y) = True := eq_true h2
        rw [decide_eq_true h1, decide_eq_true h2] at HXS
        clear h1 h2
        have HXT : Hid (xorN (fun i => rightB (endsOf kk p l i).1 (endsOf kk p l i).2 q) (k + 1) = decide (n % 2 = 1)) := by
          unfold Hid
          rw [HXS.out]; cases decide (n % 2 = 1) <;> rfl
        obtain ⟨m1, m2, m3, m4⟩ := wnum (i := k) (by omega)
        go_wp2_with fail
        clear m1 m2 m3 m4
        exact ⟨FIN.out _ n (by omega) HXT.out HBb.out, by simp [intOf]; omega⟩
      · have u1 : (q.y < A.y) = False := eq_false h1
        have u2 : (q.y < B.y) = False := eq_false h2
        rw [decide_eq_false h1, decide_eq_false h2] at HXS
        clear h1 h2
        have HXT : Hid (xorN (fun i => rightB (endsOf kk p l i).1 (endsOf kk p l i).2 q) (k + 1) = decide (n % 2 = 1)) := by
          unfold Hid
          rw [HXS.out]; cases decide (n % 2 = 1) <;> rfl
        obtain ⟨m1, m2, m3, m4⟩ := wnum (i := k) (by omega)
        go_wp2_with fail
        clear m1 m2 m3 m4
        exact ⟨FIN.out _ n (by omega) HXT.out HBb.out, by simp [intOf]; omega⟩
      · have u1 : (q.y < A.y) = True := eq_true h1
        have u2 : (q.y < B.y) = False := eq_false h2
        rw [decide_eq_true h1, decide_eq_false h2] at HXS
        clear h1 h2
        go_wp2_with fail
        (with_reducible refine (HFR.out _).mono ?_); rintro e w7 ⟨rfl, hb2⟩
        replace HBb := Lib.hid (bl_trans HBb.out hb2)
        clear hb2 q0 q1 v0 v1 v2 v3 HFR HB
        cases sr
        · have HXT : Hid (xorN (fun i => rightB (endsOf kk p l i).1 (endsOf kk p l i).2 q) (k + 1) = decide (n % 2 = 1)) := by
            unfold Hid
            rw [HXS.out]; cases decide (n % 2 = 1) <;> rfl
          obtain ⟨m1, m2, m3, m4⟩ := wnum (i := k) (by omega)
          go_wp2_with fail
          clear m1 m2 m3 m4
          exact ⟨FIN.out _ n (by omega) HXT.out HBb.out, by simp [intOf]; omega⟩
        · have HXT : Hid (xorN (fun i => rightB (endsOf kk p l i).1 (endsOf kk p l i).2 q) (k + 1) = decide ((n + 1) % 2 = 1)) := by
            unfold Hid
            rw [HXS.out]
            have : decide ((n + 1) % 2 = 1) = !(decide (n % 2 = 1)) := by
              rcases Nat.mod_two_eq_zero_or_one n with h | h
              · rw [h]; exact decide_eq_true (by omega)
              · rw [h]; exact decide_eq_false (by omega)
            rw [this]; cases decide (n % 2 = 1) <;> rfl
          obtain ⟨m1, m2, m3, m4⟩ := wnum (i := k) (by omega)
          obtain ⟨m5, m6, m7, m8⟩ := wnum (i := n) (by omega)
          go_wp2_with fail
          clear m1 m2 m3 m4 m5 m6 m7 m8
          exact ⟨FIN.out _ (n + 1) (by omega) HXT.out HBb.out, by simp [intOf]; omega⟩
      · have u1 : (q.y < A.y) = False := eq_false h1
        have u2 : (q.y < B.y) = True := eq_true h2
        rw [decide_eq_false h1, decide_eq_true h2] at HXS
        clear h1 h2
        go_wp2_with fail
        (with_reducible refine (HFR.out _).mono ?_); rintro e w7 ⟨rfl, hb2⟩
        replace HBb := Lib.hid (bl_trans HBb.out hb2)
        clear hb2 q0 q1 v0 v1 v2 v3 HFR HB
        cases sr
        · have HXT : Hid (xorN (fun i => rightB (endsOf kk p l i).1 (endsOf kk p l i).2 q) (k + 1) = decide (n % 2 = 1)) := by
            unfold Hid
            rw [HXS.out]; cases decide (n % 2 = 1) <;> rfl
          obtain ⟨m1, m2, m3, m4⟩ := wnum (i := k) (by omega)
          go_wp2_with fail
          clear m1 m2 m3 m4
          exact ⟨FIN.out _ n (by omega) HXT.out HBb.out, by simp [intOf]; omega⟩
        · have HXT : Hid (xorN (fun i => rightB (endsOf kk p l i).1 (endsOf kk p l i).2 q) (k + 1) = decide ((n + 1) % 2 = 1)) := by
            unfold Hid
            rw [HXS.out]
            have : decide ((n + 1) % 2 = 1) = !(decide (n % 2 = 1)) := by
              rcases Nat.mod_two_eq_zero_or_one n with h | h
              · rw [h]; exact decide_eq_true (by omega)
              · rw [h]; exact decide_eq_false (by omega)
            rw [this]; cases decide (n % 2 = 1) <;> rfl
          obtain ⟨m1, m2, m3, m4⟩ := wnum (i := k) (by omega)
          obtain ⟨m5, m6, m7, m8⟩ := wnum (i := n) (by omega)
          go_wp2_with fail
          clear m1 m2 m3 m4 m5 m6 m7 m8
          exact ⟨FIN.out _ (n + 1) (by omega) HXT.out HBb.out, by simp [intOf]; omega⟩
    · obtain rfl : k = l.length := by omega
      have b2 : ((l.length : Int) < (l.length : Int)) = False := eq_false (by omega)
      have HN : Hid (anyN (fun i => onB (endsOf kk p l i).1 (endsOf kk p l i).2 q) l.length = false) := anyN_no.2 HS.out
      have HZ : Hid (whereZ kk p l q = if decide (n % 2 = 1) = true then 1 else -1) := by
        unfold Hid whereZ whereN
        rw [HN.out, HXr.out]; rfl
      have hm : (n : Int).tmod 2 = ((n % 2 : Nat) : Int) := rfl
      rcases Nat.mod_two_eq_zero_or_one n with h | h
      · rw [h] at hm HZ
        have q5 : ((2 : Int) = 0) = False := by simp
        go_wp2_with fail
        go_ret
        exact ⟨by rw [HZ.out]; rfl, HB.out⟩
      · rw [h] at hm HZ
        go_wp2_with fail
        go_ret
        exact ⟨by rw [HZ.out]; rfl, HB.out⟩
end Go.Proofs.Ytkidphekfnmhhaa
