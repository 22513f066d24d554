/-
  Contracts of within's mean, At, Halfway, Third.
-/
import Derived.Test.YtiebmlhglgpajaaWLoc
namespace Go.Proofs.Ytiebmlhglgpajaa
open Go.RowKit

set_option maxHeartbeats 8000000 in
set_option maxRecDepth 100000 in
theorem mean_l (p l : List Pt) (is : List Int) (ap al : Option Addr) (gi oi : Nat) (cp cl ci : Nat) (w : World) (hP : PtRow w ap p) (hL : PtRow w al l) (hI : IntRow w (some ⟨gi, oi, none⟩) is) (hll : l.length ≤ 10000) (h3 : is.length ≤ 3) :
    Calls Try.prog 88 #[.slice ap p.length cp, .slice al l.length cl, .slice (some ⟨gi, oi, none⟩) is.length ci] w (Gives (.tuple #[.int .i64 (midN p l is), .int .i64 (midE p l is)]) w) := by
  have HP := hi hP
  have HL := hi hL
  have HI := hi hI
  clear hP hL hI
  go_enter Try.func88, Try.ntmps88
  go_upto_region 2 with (fail)
  have HV0 := hi (var2_new w (.int .i64 0) (.int .i64 0) 49 w.heap.size rfl)
  have HB0 := hi (bl_one w (.cells #[.int .i64 0, .int .i64 0] 49))
  generalize w.alloc (.cells #[.int .i64 0, .int .i64 0] 49) = W1 at *
  go_wp2_with fail
  go_loopw [14] (fun iv W => ∃ k : Nat, k ≤ is.length ∧ iv = .int .i64 k ∧ (∀ i, ∀ h : i < is.length, i < k → knownB p is[i] = true) ∧ Var W w.heap.size [.int .i64 (sumP p (is.take k)).x, .int .i64 (sumP p (is.take k)).y] ∧ BdP k (sumP p (is.take k)) ∧ Below w.heap.size w W) (fun iv _ => is.length - (intOf iv).toNat)
  case atStart => exact ⟨0, Nat.zero_le _, rfl, fun i _ hi => absurd hi (Nat.not_lt_zero _), HV0.out, by unfold BdP sumP; simp, HB0.out⟩
  case round =>
    obtain ⟨k, hk, rfl, hS, hV, hb, hB⟩ := hrel
    have HB := hi hB
    have HS := hi hS
    have HV := hi hV
    have HBd := hi hb
    clear hB hS hV hb HV0 HB0
    by_cases hlt : k < is.length
    · have b2 : ((k : Int) < (is.length : Int)) = True := eq_true (by omega)
      have d2 : (k < is.length) = True := eq_true hlt
      have c2 : ((0 : Int) ≤ (k : Int)) = True := eq_true (by omega)
      obtain ⟨x, hx⟩ : ∃ x, is[k] = x := ⟨_, rfl⟩
      have k0 := intRow_at (HI.out.below HB.out) hlt hx
      have HX := hi hx
      obtain ⟨r, hr⟩ : ∃ r, knownB p x = r := ⟨_, rfl⟩
      have HK : Hid (∀ W, Below wr.heap.size wr W → Calls Try.prog 100 #[.slice ap p.length cp, .int .i64 x] W (Gives (.bool r) W)) := fun W h => by
        have := known9_l p ap cp x W (HP.out.below (bl_trans HB.out h))
        rwa [hr] at this
      have HR := hi hr
      clear hx hr
      go_wp2_with fail
      (with_reducible refine (HK.out _ (Below.refl _ _)).mono ?_); rintro e w2 ⟨rfl, hb2⟩
      replace HV := hi (HV.out.below hb2)
      replace HB := hi (bl_trans HB.out hb2)
      clear hb2 HK k0
      cases r
      · have HNo : Hid (is.all (knownB p) = false) := by
          unfold Hid
          rw [List.all_eq_false]
          exact ⟨x, by rw [← HX.out]; exact List.getElem_mem _, by rw [HR.out]; simp⟩
        have HZ : Hid (midN p l is = 0 ∧ midE p l is = 2) := by
          unfold Hid midN midE
          rw [HNo.out]; exact ⟨rfl, rfl⟩
        go_wp2_with fail
        go_ret2
        exact ⟨by rw [HZ.out.1, HZ.out.2]; rfl, HB.out⟩
      · obtain ⟨h0, h1, hf⟩ := known_iff.1 HR.out
        obtain ⟨a, rfl⟩ := Int.eq_ofNat_of_zero_le h0
        have hap : a < p.length := by omega
        obtain ⟨gp, op, rfl⟩ := HP.out.some (by omega)
        obtain ⟨q, hq⟩ : ∃ q, pget p a = q := ⟨_, rfl⟩
        have hqq : ptI p (a : Int) = q := by unfold ptI; rw [Int.toNat_natCast, hq]
        rw [hqq] at hf
        have hfi := fitB_iff.1 hf
        have HSn : Hid (sumP p (is.take (k + 1)) = ⟨(sumP p (is.take k)).x + q.x, (sumP p (is.take k)).y + q.y⟩) := by
          unfold Hid
          rw [List.take_succ_eq_append_getElem hlt, sumP_snoc, HX.out, hqq]
        obtain ⟨sm, hsm⟩ : ∃ s, sumP p (is.take k) = s := ⟨_, rfl⟩
        rw [hsm] at HV HSn HBd
        have hbd := HBd.out
        unfold Pt.fits at hfi
        unfold BdP at hbd
        have HBd2 : Hid (BdP ((k : Int) + 1) ⟨sm.x + q.x, sm.y + q.y⟩) := by
          unfold Hid BdP; dsimp only; omega
        obtain ⟨k0, k1⟩ := ptRow_at (HP.out.below HB.out) hap hq
        obtain ⟨c0, c1⟩ := HV.out.two
        obtain ⟨f0, f1⟩ := HV.out.free2
        have b3 : ((a : Int) < (p.length : Int)) = True := eq_true (by omega)
        have d3 : (a < p.length) = True := eq_true hap
        have c3 : ((0 : Int) ≤ (a : Int)) = True := eq_true h0
        have hgp : gp < w.heap.size := cell_lt (ptRow_at HP.out hap hq).1
        have hgw := HV.out.lt
        have m1 : wrap64 (sm.x + q.x) = sm.x + q.x := by unfold wrap64; omega
        have m2 : IntKind.i64.wrap (sm.x + q.x) = sm.x + q.x := IntWalk.i64_in _ (by omega)
        have m3 : wrap64 (sm.y + q.y) = sm.y + q.y := by unfold wrap64; omega
        have m4 : IntKind.i64.wrap (sm.y + q.y) = sm.y + q.y := IntWalk.i64_in _ (by omega)
        have HQ := hi hq
        clear h0 h1 hf hqq hq hfi hsm hbd HBd
        go_upto_region 7 with (fail)
        go_region
        go_upto_region 8 with (fail)
        have HV7 := hi ((HV.out.put0 (.int .i64 (sm.x + q.x))).below (bel_drew _))
        replace HB := hi (bl_trans (bl_set HB.out (p := ⟨w.heap.size, 0, none⟩) (Nat.le_refl _) (.int .i64 (sm.x + q.x))) (bel_drew _))
        clear k0 k1 c0 c1 f0 f1 HV
        generalize ((w2.setCell ⟨w.heap.size, 0, none⟩ (.int .i64 (sm.x + q.x))).drew) = W7 at *
        obtain ⟨k0, k1⟩ := ptRow_at (HP.out.below HB.out) hap HQ.out
        obtain ⟨c0, c1⟩ := HV7.out.two
        obtain ⟨f0, f1⟩ := HV7.out.free2
        have hgw7 := HV7.out.lt
        go_region
        obtain ⟨n1, n2, n3, n4⟩ := wnum (i := k) (by omega)
        go_wp2_with fail
        clear n1 n2 n3 n4 m1 m2 m3 m4
        refine ⟨⟨k + 1, hlt, by rw [Int.natCast_add]; rfl, fun i h hi => ?_, ?_, ?_, ?_⟩, by simp [intOf]; omega⟩
        · rcases Nat.lt_or_eq_of_le (Nat.le_of_lt_succ hi) with h4 | rfl
          · exact HS.out i h h4
          · rw [HX.out]; exact HR.out
        · rw [HSn.out]
          exact (HV7.out.put1 (.int .i64 (sm.y + q.y))).below (bel_drew _)
        · rw [HSn.out, Int.natCast_add]; exact HBd2.out
        · exact bl_trans (bl_set HB.out (p := ⟨w.heap.size, 1, none⟩) (Nat.le_refl _) (.int .i64 (sm.y + q.y))) (bel_drew _)
    · obtain rfl : k = is.length := by omega
      have b2 : ((is.length : Int) < (is.length : Int)) = False := eq_false (by omega)
      have HAl : Hid (is.all (knownB p) = true) := by
        unfold Hid
        rw [List.all_eq_true]
        intro x hx
        obtain ⟨i, hi, rfl⟩ := List.getElem_of_mem hx
        exact HS.out i hi hi
      rw [List.take_length] at HV
      have HZ : Hid (midN p l is = atN is.length p l (sumP p is) ∧ midE p l is = atE is.length p l (sumP p is)) := by
        unfold Hid midN midE
        rw [HAl.out]; exact ⟨rfl, rfl⟩
      obtain ⟨sm, hsm⟩ : ∃ s, sumP p is = s := ⟨_, rfl⟩
      rw [hsm] at HV HZ
      have HC1 := hi (proper9_l p l ap al cp cl wr (HP.out.below HB.out) (HL.out.below HB.out) hll)
      obtain ⟨r1, hr1⟩ : ∃ r, properL p l = r := ⟨_, rfl⟩
      obtain ⟨r2, hr2⟩ : ∃ r, fitK is.length p l = r := ⟨_, rfl⟩
      obtain ⟨r3, hr3⟩ : ∃ r, fitB sm = r := ⟨_, rfl⟩
      have HAt : Hid (atB is.length p l sm = (r1 && r2 && r3)) := by unfold Hid atB; rw [hr1, hr2, hr3]
      rw [hr1] at HC1
      have HR1 := hi hr1
      have HR2 := hi hr2
      have HR3 := hi hr3
      clear hsm hr1 hr2 hr3 HS HBd HAl HI
      have RET : atB is.length p l sm = false → midN p l is = 0 ∧ midE p l is = 2 := fun h => by
        rw [HZ.out.1, HZ.out.2]; unfold atN atE; rw [h]; exact ⟨rfl, rfl⟩
      have HRET := hi RET
      clear RET
      go_wp2_with fail
      (with_reducible refine HC1.out.mono ?_); rintro e w2 ⟨rfl, hb2⟩
      replace HV := hi (HV.out.below hb2)
      replace HB := hi (bl_trans HB.out hb2)
      clear hb2 HC1
      cases r1
      · obtain ⟨z1, z2⟩ := HRET.out HAt.out
        have HZ2 := hi (And.intro z1 z2)
        clear z1 z2
        go_wp2_with fail
        go_ret2
        exact ⟨by rw [HZ2.out.1, HZ2.out.2]; rfl, HB.out⟩
      have HC2 := hi (fit9_l p l ap al cp cl is.length (by omega) (by omega) w2 (HP.out.below HB.out) (HL.out.below HB.out) hll HR1.out)
      rw [HR2.out] at HC2
      go_wp2_with fail
      (with_reducible refine HC2.out.mono ?_); rintro e w3 ⟨rfl, hb2⟩
      replace HV := hi (HV.out.below hb2)
      replace HB := hi (bl_trans HB.out hb2)
      clear hb2 HC2
      cases r2
      · obtain ⟨z1, z2⟩ := HRET.out HAt.out
        have HZ2 := hi (And.intro z1 z2)
        clear z1 z2
        go_wp2_with fail
        go_ret2
        exact ⟨by rw [HZ2.out.1, HZ2.out.2]; rfl, HB.out⟩
      obtain ⟨c0, c1⟩ := HV.out.two
      have HF := hi (fits1 w3 sm 49 r3 HR3.out)
      go_wp2_with fail
      (with_reducible refine HF.out.mono ?_); rintro e w4 ⟨rfl, hb2⟩
      have hb3 := bl_trans (bl_one w3 (.cells #[.int .i64 sm.x, .int .i64 sm.y] 49)) hb2
      replace HV := hi (HV.out.below hb3)
      replace HB := hi (bl_trans HB.out hb3)
      clear hb2 hb3 HF c0 c1
      cases r3
      · obtain ⟨z1, z2⟩ := HRET.out HAt.out
        have HZ2 := hi (And.intro z1 z2)
        clear z1 z2
        go_wp2_with fail
        go_ret2
        exact ⟨by rw [HZ2.out.1, HZ2.out.2]; rfl, HB.out⟩
      have HC3 := hi (locate_l p l sm ap al cp cl is.length (by omega) (by omega) w4 (HP.out.below HB.out) (HL.out.below HB.out) hll HR1.out HR2.out HR3.out)
      have HZ2 : Hid (midN p l is = whereZ is.length p l sm ∧ midE p l is = 0) := by
        unfold Hid
        rw [HZ.out.1, HZ.out.2]
        unfold atN atE
        rw [HAt.out]; exact ⟨rfl, rfl⟩
      obtain ⟨c0, c1⟩ := HV.out.two
      go_wp2_with fail
      (with_reducible refine HC3.out.mono ?_); rintro e w5 ⟨rfl, hb2⟩
      replace HB := hi (bl_trans HB.out hb2)
      clear hb2 HC3 c0 c1 HV
      go_wp2_with fail
      go_ret2
      exact ⟨by rw [HZ2.out.1, HZ2.out.2]; rfl, HB.out⟩

set_option maxHeartbeats 8000000 in
set_option maxRecDepth 100000 in
theorem at9_l (p l : List Pt) (q : Pt) (ap al : Option Addr) (cp cl : Nat) (w : World) (hP : PtRow w ap p) (hL : PtRow w al l) (hll : l.length ≤ 10000) :
    Calls Try.prog 58 #[.slice ap p.length cp, .slice al l.length cl, .agg #[.int .i64 q.x, .int .i64 q.y]] w (Gives (.tuple #[.int .i64 (atN 1 p l q), .int .i64 (atE 1 p l q)]) w) := by
  have HP := hi hP
  have HL := hi hL
  clear hP hL
  go_enter Try.func58, Try.ntmps58
  go_upto_region 1 with (fail)
  have HV := hi (var2_new w (.int .i64 q.x) (.int .i64 q.y) 49 w.heap.size rfl)
  have HB := hi (bl_one w (.cells #[.int .i64 q.x, .int .i64 q.y] 49))
  generalize w.alloc (.cells #[.int .i64 q.x, .int .i64 q.y] 49) = W1 at *
  have HC1 := hi (proper9_l p l ap al cp cl W1 (HP.out.below HB.out) (HL.out.below HB.out) hll)
  obtain ⟨r1, hr1⟩ : ∃ r, properL p l = r := ⟨_, rfl⟩
  obtain ⟨r3, hr3⟩ : ∃ r, fitB q = r := ⟨_, rfl⟩
  have HAt : Hid (atB 1 p l q = (r1 && r3)) := by
    unfold Hid atB
    rw [hr1, hr3]
    cases r1
    · rfl
    · rw [fitK_one hr1]; rfl
  rw [hr1] at HC1
  have HR1 := hi hr1
  have HR3 := hi hr3
  clear hr1 hr3
  have RET : atB 1 p l q = false → atN 1 p l q = 0 ∧ atE 1 p l q = 2 := fun h => by
    unfold atN atE; rw [h]; exact ⟨rfl, rfl⟩
  have HRET := hi RET
  clear RET
  go_wp2_with fail
  (with_reducible refine HC1.out.mono ?_); rintro e w2 ⟨rfl, hb2⟩
  replace HV := hi (HV.out.below hb2)
  replace HB := hi (bl_trans HB.out hb2)
  clear hb2 HC1
  cases r1
  · have HZ2 := hi (HRET.out HAt.out)
    go_wp2_with fail
    go_ret2
    exact ⟨by rw [HZ2.out.1, HZ2.out.2]; rfl, HB.out⟩
  obtain ⟨c0, c1⟩ := HV.out.two
  have HF := hi (fits1 w2 q 49 r3 HR3.out)
  go_wp2_with fail
  (with_reducible refine HF.out.mono ?_); rintro e w4 ⟨rfl, hb2⟩
  have hb3 := bl_trans (bl_one w2 (.cells #[.int .i64 q.x, .int .i64 q.y] 49)) hb2
  replace HV := hi (HV.out.below hb3)
  replace HB := hi (bl_trans HB.out hb3)
  clear hb2 hb3 HF c0 c1
  cases r3
  · have HZ2 := hi (HRET.out HAt.out)
    go_wp2_with fail
    go_ret2
    exact ⟨by rw [HZ2.out.1, HZ2.out.2]; rfl, HB.out⟩
  have HC3 := hi (locate_l p l q ap al cp cl 1 (by omega) (by omega) w4 (HP.out.below HB.out) (HL.out.below HB.out) hll HR1.out (fitK_one HR1.out) HR3.out)
  have HZ2 : Hid (atN 1 p l q = whereZ 1 p l q ∧ atE 1 p l q = 0) := by
    unfold Hid atN atE
    rw [HAt.out]; exact ⟨rfl, rfl⟩
  obtain ⟨c0, c1⟩ := HV.out.two
  go_wp2_with fail
  (with_reducible refine HC3.out.mono ?_); rintro e w5 ⟨rfl, hb2⟩
  replace HB := hi (bl_trans HB.out hb2)
  clear hb2 HC3 c0 c1 HV
  go_wp2_with fail
  go_ret2
  exact ⟨by rw [HZ2.out.1, HZ2.out.2]; rfl, HB.out⟩
theorem intRow_n2 (W : World) (a b : Int) (t : TypeId) : IntRow (W.alloc (.cells #[.int .i64 a, .int .i64 b] t)) (some ⟨W.heap.size, 0, none⟩) [a, b] := by
  intro i hi
  refine ⟨_, _, rfl, ?_⟩
  match i, hi with
  | 0, _ => simp [go_sem]
  | 1, _ => simp [go_sem]
theorem intRow_n3 (W : World) (a b c : Int) (t : TypeId) : IntRow (W.alloc (.cells #[.int .i64 a, .int .i64 b, .int .i64 c] t)) (some ⟨W.heap.size, 0, none⟩) [a, b, c] := by
  intro i hi
  refine ⟨_, _, rfl, ?_⟩
  match i, hi with
  | 0, _ => simp [go_sem]
  | 1, _ => simp [go_sem]
  | 2, _ => simp [go_sem]

set_option maxHeartbeats 8000000 in
set_option maxRecDepth 100000 in
theorem half9_l (p l : List Pt) (a b : Int) (ap al : Option Addr) (cp cl : Nat) (w : World) (hP : PtRow w ap p) (hL : PtRow w al l) (hll : l.length ≤ 10000) :
    Calls Try.prog 71 #[.slice ap p.length cp, .slice al l.length cl, .int .i64 a, .int .i64 b] w (Gives (.tuple #[.int .i64 (midN p l [a, b]), .int .i64 (midE p l [a, b])]) w) := by
  have HM : Hid (Calls Try.prog 88 #[.slice ap p.length cp, .slice al l.length cl, .slice (some ⟨w.heap.size, 0, none⟩) 2 2] (w.alloc (.cells #[.int .i64 a, .int .i64 b] 3)) (Gives (.tuple #[.int .i64 (midN p l [a, b]), .int .i64 (midE p l [a, b])]) (w.alloc (.cells #[.int .i64 a, .int .i64 b] 3)))) :=
    mean_l p l [a, b] ap al w.heap.size 0 cp cl 2 _ (hP.below (bl_one _ _)) (hL.below (bl_one _ _)) (intRow_n2 w a b _) hll (by simp)
  clear hP hL
  generalize midN p l [a, b] = n at *
  generalize midE p l [a, b] = e at *
  go_enter Try.func71, Try.ntmps71
  go_wp2_with fail
  (with_reducible refine HM.out.mono ?_); rintro e w2 ⟨rfl, hb2⟩
  have HB := hi (bl_trans (bl_one w (.cells #[.int .i64 a, .int .i64 b] 3)) hb2)
  clear hb2 HM
  go_wp2_with fail
  go_ret2
  exact ⟨rfl, HB.out⟩

end Go.Proofs.Ytiebmlhglgpajaa
