/-
  Proved: for every slice of points, every slice of numbers and every number the law RingsAreas returns true, and its arguments read as they did. No condition.
-/
import Derived.Test.YtpockemjfbaheaaRAreas
import Derived.Test.YtpockemjfbaheaaROrd
import Derived.Test.YtpockemjfbaheaaRFAreas
import Derived.Test.YtpockemjfbaheaaRKnown
import Derived.Test.YtpockemjfbaheaaRefTold
import Derived.Test.YtpockemjfbaheaaRefNum
import Derived.Test.YtpockemjfbaheaaRFRingsAll
import Derived.Test.YtpockemjfbaheaaOpen8
/-
  The plain mathematics of RingsAreas: the area of a turned ring and of a reversed one.
-/
namespace Go.Proofs.Ytpockemjfbaheaa
open Go.RowKit

def swapP (s : Pt) : Pt := ⟨s.y, s.x⟩
theorem strip_swap (p : List Pt) (s : Pt) : stripZ p (swapP s) = - stripZ p s := by
  unfold stripZ swapP
  grind
def sumZ (p : List Pt) (l : List Pt) : Int := (l.map (stripZ p)).sum
theorem sumZ_append (p l m : List Pt) : sumZ p (l ++ m) = sumZ p l + sumZ p m := by unfold sumZ; rw [List.map_append, List.sum_append]
theorem sumZ_rot (p l : List Pt) (k : Nat) : sumZ p (l.drop k ++ l.take k) = sumZ p l := by
  have h := sumZ_append p (l.take k) (l.drop k)
  rw [List.take_append_drop] at h
  rw [sumZ_append]
  omega
theorem sumZ_rev (p : List Pt) : ∀ l : List Pt, sumZ p l.reverse = sumZ p l
  | [] => rfl
  | s :: l => by
    have h1 := sumZ_rev p l
    have h2 := sumZ_append p l.reverse [s]
    have h3 := sumZ_append p [s] l
    rw [List.reverse_cons]
    simp only [List.singleton_append] at h3
    omega
theorem sumZ_swap (p : List Pt) : ∀ l : List Pt, sumZ p (l.map swapP) = - sumZ p l
  | [] => rfl
  | s :: l => by
    have h1 := sumZ_swap p l
    unfold sumZ at *
    simp only [List.map_cons, List.sum_cons, strip_swap]
    omega
theorem area_sum (p : List Pt) (R : List Int) : areaZ p R = sumZ p (ringSegs R) := rfl
theorem segs_pget9 {R : List Int} {k : Nat} (h : k < R.length) : pget (ringSegs R) k = ⟨R.getD k 0, R.getD ((k + 1) % R.length) 0⟩ := by
  have h2 : k < (ringSegs R).length := by rw [ringSegs_len]; exact h
  simp only [pget, List.getD_eq_getElem?_getD, List.getElem?_eq_getElem h2, Option.getD_some]
  simp [ringSegs]
/-- the ring turned by k places -/
def turnR (R : List Int) (k : Nat) : List Int := (List.range R.length).map fun j => R.getD ((j + k) % R.length) 0
theorem turnR_len (R : List Int) (k : Nat) : (turnR R k).length = R.length := by simp [turnR]
theorem turnR_get {R : List Int} {k j : Nat} (h : j < R.length) : (turnR R k).getD j 0 = R.getD ((j + k) % R.length) 0 := by
  have h2 : j < (turnR R k).length := by rw [turnR_len]; exact h
  rw [List.getD_eq_getElem?_getD, List.getElem?_eq_getElem h2, Option.getD_some]
  simp [turnR]
theorem turnR_segs {R : List Int} {k : Nat} : ringSegs (turnR R k) = (List.range (ringSegs R).length).map fun j => pget (ringSegs R) ((j + k) % (ringSegs R).length) := by
  apply List.ext_getElem
  · rw [ringSegs_len, turnR_len]
    simp [ringSegs_len]
  intro i h1 h2
  have hi : i < R.length := by rw [ringSegs_len, turnR_len] at h1; exact h1
  have e0 : (ringSegs (turnR R k))[i] = pget (ringSegs (turnR R k)) i := by simp [pget, h1]
  rw [e0, segs_pget9 (by rw [turnR_len]; exact hi), turnR_len]
  simp only [List.getElem_map, List.getElem_range, ringSegs_len]
  rw [segs_pget9 (Nat.mod_lt _ (by omega)), turnR_get hi, turnR_get (Nat.mod_lt _ (by omega))]
  have e1 : ((i + 1) % R.length + k) % R.length = ((i + k) % R.length + 1) % R.length := by
    rw [Nat.mod_add_mod, Nat.mod_add_mod]
    congr 1
    omega
  rw [e1]
theorem area_turn (p : List Pt) {R : List Int} {k : Nat} (h : k < R.length) : areaZ p (turnR R k) = areaZ p R := by
  rw [area_sum, turnR_segs, rot_is (by rw [ringSegs_len]; exact h), sumZ_rot]
  rfl
theorem rev_get {R : List Int} {j : Nat} (h : j < R.length) : R.reverse.getD j 0 = R.getD (R.length - 1 - j) 0 := by
  have h2 : j < R.reverse.length := by simpa using h
  rw [List.getD_eq_getElem?_getD, List.getElem?_eq_getElem h2, Option.getD_some, List.getElem_reverse, List.getD_eq_getElem?_getD, List.getElem?_eq_getElem (by omega), Option.getD_some]
theorem rev_segs {R : List Int} (hb : 1 < R.length) : (ringSegs R.reverse).map swapP = (ringSegs R).reverse.drop 1 ++ (ringSegs R).reverse.take 1 := by
  rw [← rot_is (l := (ringSegs R).reverse) (k := 1) (by simpa [ringSegs_len] using hb)]
  apply List.ext_getElem
  · simp [ringSegs_len]
  intro i h1 h2
  have hi : i < R.length := by simpa [ringSegs_len] using h1
  have hm : (i + 1) % R.length < R.length := Nat.mod_lt _ (by omega)
  have e0 : ((ringSegs R.reverse).map swapP)[i] = swapP (pget (ringSegs R.reverse) i) := by
    have : i < (ringSegs R.reverse).length := by simpa using h1
    simp [pget, this]
  rw [e0, segs_pget9 (by simpa using hi), List.length_reverse, rev_get hi, rev_get hm]
  simp only [List.getElem_map, List.getElem_range, List.length_reverse, ringSegs_len]
  have e3 : pget (ringSegs R).reverse ((i + 1) % R.length) = pget (ringSegs R) (R.length - 1 - (i + 1) % R.length) := by
    have h3 : (i + 1) % R.length < (ringSegs R).reverse.length := by simpa [ringSegs_len] using hm
    have h4 : R.length - 1 - (i + 1) % R.length < (ringSegs R).length := by rw [ringSegs_len]; omega
    unfold pget
    rw [List.getD_eq_getElem?_getD, List.getElem?_eq_getElem h3, Option.getD_some, List.getElem_reverse, List.getD_eq_getElem?_getD, List.getElem?_eq_getElem h4, Option.getD_some]
    simp [ringSegs_len]
  rw [e3, segs_pget9 (by omega)]
  unfold swapP
  dsimp only
  have e4 : (R.length - 1 - (i + 1) % R.length + 1) % R.length = R.length - 1 - i := by
    rcases Nat.lt_or_ge (i + 1) R.length with hl | hl
    · rw [Nat.mod_eq_of_lt hl, Nat.mod_eq_of_lt (by omega)]
      omega
    · have e : i + 1 = R.length := by omega
      rw [e, Nat.mod_self, show R.length - 1 - 0 + 1 = R.length by omega, Nat.mod_self]
      omega
  rw [e4]
theorem area_rev (p : List Pt) (R : List Int) : areaZ p R.reverse = - areaZ p R := by
  match R with
  | [] => rfl
  | [a] =>
    simp [areaZ, ringSegs, stripZ]
  | a :: b :: R =>
    have h := rev_segs (R := a :: b :: R) (by simp)
    have h1 := sumZ_swap p (ringSegs (a :: b :: R).reverse)
    rw [h, sumZ_rot, sumZ_rev] at h1
    rw [area_sum, area_sum]
    omega
theorem okR_rev (p : List Pt) (R : List Int) : okR p R.reverse ↔ okR p R := by
  unfold okR
  simp
theorem okR_turn (p : List Pt) {R : List Int} {k : Nat} (h : k < R.length) : okR p (turnR R k) ↔ okR p R := by
  have hm : ∀ x, x ∈ turnR R k ↔ x ∈ R := by
    intro x
    unfold turnR
    constructor
    · intro hx
      obtain ⟨j, hj, rfl⟩ := List.mem_map.1 hx
      have hl : (j + k) % R.length < R.length := Nat.mod_lt _ (by omega)
      rw [List.getD_eq_getElem?_getD, List.getElem?_eq_getElem hl, Option.getD_some]
      exact List.getElem_mem _
    · intro hx
      obtain ⟨i, hi, rfl⟩ := List.mem_iff_getElem.1 hx
      refine List.mem_map.2 ⟨(i + R.length - k) % R.length, List.mem_range.2 (Nat.mod_lt _ (by omega)), ?_⟩
      rw [Nat.mod_add_mod, show i + R.length - k + k = i + R.length by omega, Nat.add_mod_right, Nat.mod_eq_of_lt hi, List.getD_eq_getElem?_getD, List.getElem?_eq_getElem hi, Option.getD_some]
  unfold okR
  rw [turnR_len]
  simp only [hm]
end Go.Proofs.Ytpockemjfbaheaa

/-
  What the law RingsAreas calls, in one form.
-/
namespace Go.Proofs.Ytpockemjfbaheaa
open Go.RowKit

def zR (p : List Pt) (R : List Int) : Int := if okR p R then areaZ p R else 0
def eR (p : List Pt) (R : List Int) : Int := if okR p R then 0 else 2
theorem zR_rev (p : List Pt) (R : List Int) : zR p R.reverse = - zR p R ∧ eR p R.reverse = eR p R := by
  unfold zR eR
  by_cases h : okR p R
  · rw [if_pos ((okR_rev p R).2 h), if_pos ((okR_rev p R).2 h), if_pos h, if_pos h, area_rev]
    exact ⟨rfl, rfl⟩
  · rw [if_neg (fun k => h ((okR_rev p R).1 k)), if_neg (fun k => h ((okR_rev p R).1 k)), if_neg h, if_neg h]
    exact ⟨rfl, rfl⟩
theorem zR_turn (p : List Pt) {R : List Int} {k : Nat} (hk : k < R.length) : zR p (turnR R k) = zR p R ∧ eR p (turnR R k) = eR p R := by
  unfold zR eR
  by_cases h : okR p R
  · rw [if_pos ((okR_turn p hk).2 h), if_pos ((okR_turn p hk).2 h), if_pos h, if_pos h, area_turn p hk]
    exact ⟨rfl, rfl⟩
  · rw [if_neg (fun k => h ((okR_turn p hk).1 k)), if_neg (fun k => h ((okR_turn p hk).1 k)), if_neg h, if_neg h]
    exact ⟨rfl, rfl⟩
theorem zR_bd (p : List Pt) (R : List Int) (h : R.length ≤ 10000) : -1475739525896764129280000000 ≤ zR p R ∧ zR p R ≤ 1475739525896764129280000000 := by
  unfold zR
  by_cases ho : okR p R
  · rw [if_pos ho, ← fan_area]
    have := fanTo_bd ho R.length (Nat.le_refl _)
    omega
  · rw [if_neg ho]
    omega
theorem zR_bw (p : List Pt) (R : List Int) (h : R.length ≤ 10000) : BW (zR p R) := by
  have := zR_bd p R h
  unfold BW M256
  omega
theorem area_u (p : List Pt) (ring : List Int) (ap ar : Option Addr) (cp cr : Nat) (w : World) (hP : PtRow w ap p) (hR : IntRow w ar ring) (hcr : ring.length ≤ cr) (hnr : ar = none → cr = 0) (hlen : ring.length ≤ 10000) (hpl : p.length ≤ 10000) {z e : Int} (hz : zR p ring = z) (he : eR p ring = e) :
    Calls Try.prog 17 #[.slice ap p.length cp, .slice ar ring.length cr] w (Gives (.tuple #[(.agg #[.bool (QM (z)), .int .u64 (Q0 (z)), .int .u64 (Q1 (z)), .int .u64 (Q2 (z)), .int .u64 (Q3 (z))]), .int .i64 e]) w) := by
  refine (area_l p ring ap ar cp cr w hP hR hcr hnr hlen hpl).mono ?_
  rintro en w' ⟨hb, h⟩
  subst hz he
  unfold zR eR
  by_cases ho : okR p ring
  · rw [if_pos ho] at h ⊢
    rw [if_pos ho]
    exact ⟨h, hb⟩
  · rw [if_neg ho] at h ⊢
    rw [if_neg ho]
    exact ⟨h, hb⟩
theorem refArea_u (p : List Pt) (ring : List Int) (ap ar : Option Addr) (cp cr : Nat) (w : World) (hP : PtRow w ap p) (hR : IntRow w ar ring) (hlen : ring.length ≤ 10000) (hpl : p.length ≤ 10000) {z e : Int} (hz : zR p ring = z) (he : eR p ring = e) :
    Calls Try.prog 18 #[.slice ap p.length cp, .slice ar ring.length cr] w fun en w' => ∃ x, en = .returned (.tuple #[x, .int .i64 e]) ∧ NumIs x z w' ∧ Below w.heap.size w w' := by
  refine (refArea_l p ring ap ar cp cr w hP hR hlen hpl).mono ?_
  rintro en w' ⟨hb, x, hx, rfl⟩
  subst hz he
  exact ⟨x, rfl, hx, hb⟩
theorem wide_u (v : Value) (z : Int) (w : World) (h : NumIs v z w) (hb : BW z) : Calls Try.prog 19 #[v] w (Gives (.tuple #[(.agg #[.bool (QM (z)), .int .u64 (Q0 (z)), .int .u64 (Q1 (z)), .int .u64 (Q2 (z)), .int .u64 (Q3 (z))]), .bool true]) w) := by
  refine (wide_num v z w h).mono ?_
  rintro e w' ⟨m, a, b, c, d, ok, hA, hk, rfl, hB⟩
  unfold BW at hb
  rcases hk.out with ⟨rfl, h1, h2, -⟩ | ⟨-, -, h1⟩
  · obtain ⟨rfl, rfl, rfl, rfl, rfl⟩ := q_of hA h2 h1
    exact ⟨rfl, hB⟩
  · omega
theorem of_u (z : Int) (hb : BW z) (w : World) : Calls Try.prog 20 #[(.agg #[.bool (QM (z)), .int .u64 (Q0 (z)), .int .u64 (Q1 (z)), .int .u64 (Q2 (z)), .int .u64 (Q3 (z))])] w fun e w' => ∃ v, e = .returned v ∧ NumIs v z w' ∧ Below w.heap.size w w' := by
  refine (of_num _ _ _ _ _ (q_in z) w).mono ?_
  rintro e w' ⟨v, rfl, hN, hB⟩
  rw [q_val hb] at hN
  exact ⟨v, rfl, hN, hB⟩
theorem cmp0_u (v u : Value) (z : Int) (w : World) (h1 : NumIs v z w) (h2 : NumIs u z w) (b : -BIG < z ∧ z < BIG) : Calls Try.prog 21 #[v, u] w (Gives (.int .i64 0) w) := by
  refine (cmp_num v u z z w h1 h2 b b).mono ?_
  rintro e w' ⟨rfl, hB⟩
  refine ⟨?_, hB⟩
  rw [Int.sub_self]
  rfl
end Go.Proofs.Ytpockemjfbaheaa

/-
  The law RingsAreas.
-/
namespace Go.Proofs.Ytpockemjfbaheaa
open Go.RowKit

set_option maxHeartbeats 8000000 in
set_option maxRecDepth 100000 in
theorem areas_l (w : World) (p : List Pt) (ap : Option Addr) (cp : Nat) (_ : p.length ≤ cp) (hP : PtRow w ap p) (_ : ap = none → cp = 0) (ring : List Int) (ar : Option Addr) (cr : Nat) (hcr : ring.length ≤ cr) (hR : IntRow w ar ring) (hnr : ar = none → cr = 0) (_ : ∀ x ∈ ring, -9223372036854775808 ≤ x ∧ x ≤ 9223372036854775807) (turn : Int) :
    Calls Try.prog 4 #[.slice ap p.length cp, .slice ar ring.length cr, .int .i64 turn] w (Gives (.bool true) w) := by
  have KN := Lib.hid (fun W => known_l W)
  have HP := Lib.hid hP
  have HR := Lib.hid hR
  have HNR := Lib.hid hnr
  clear hP hR hnr
  go_enter Try.func4, Try.ntmps4
  by_cases h1 : 200 < p.length
  · have b1 : ((200 : Int) < (p.length : Int)) = True := eq_true (by omega)
    go_wp2_with fail
    (with_reducible refine (KN.out _).mono ?_); rintro e w1 ⟨rfl, hb1⟩
    go_wp2
    go_ret
    exact ⟨rfl, hb1⟩
  have b1 : ((200 : Int) < (p.length : Int)) = False := eq_false (by omega)
  by_cases h2 : 200 < ring.length
  · have b2 : ((200 : Int) < (ring.length : Int)) = True := eq_true (by omega)
    go_wp2_with fail
    (with_reducible refine (KN.out _).mono ?_); rintro e w1 ⟨rfl, hb1⟩
    go_wp2
    go_ret
    exact ⟨rfl, hb1⟩
  have b2 : ((200 : Int) < (ring.length : Int)) = False := eq_false (by omega)
  have hbd := zR_bd p ring (by omega)
  have hbw := zR_bw p ring (by omega)
  have HRV := Lib.hid (zR_rev p ring)
  have HTN : Hid (∀ k, k < ring.length → zR p (turnR ring k) = zR p ring ∧ eR p (turnR ring k) = eR p ring) := fun k hk => zR_turn p hk
  obtain ⟨z, hz⟩ : ∃ z, zR p ring = z := ⟨_, rfl⟩
  obtain ⟨ec, he⟩ : ∃ e, eR p ring = e := ⟨_, rfl⟩
  have HAU := Lib.hid (area_u p ring ap ar cp cr w HP.out HR.out hcr HNR.out (by omega) (by omega) hz he)
  have HRU := Lib.hid (fun W (h : Below w.heap.size w W) => refArea_u p ring ap ar cp cr W (HP.out.below h) (HR.out.below h) (by omega) (by omega) hz he)
  rw [hz] at hbd hbw HRV HTN
  rw [he] at HRV HTN
  have HBW := Lib.hid hbw
  have HBIG := Lib.hid (big_of hbd)
  have HZE := Lib.hid (And.intro hz he)
  have HBWN : Hid (BW (-z)) := (show BW (-z) by unfold BW at *; omega)
  have HBIGN : Hid (-BIG < -z ∧ -z < BIG) := (show -BIG < -z ∧ -z < BIG by have := HBIG.out; omega)
  clear hz he hbd hbw
  go_wp2_with fail
  (with_reducible refine HAU.out.mono ?_); rintro e w1 ⟨rfl, hb1⟩
  go_upto_region 4 with (fail)
  have HV7 := Lib.hid (var5_new w1 (.bool (QM z)) (.int .u64 (Q0 z)) (.int .u64 (Q1 z)) (.int .u64 (Q2 z)) (.int .u64 (Q3 z)) 44 w1.heap.size rfl)
  have HB := Lib.hid (bl_trans hb1 (bl_one w1 (.cells #[.bool (QM z), .int .u64 (Q0 z), .int .u64 (Q1 z), .int .u64 (Q2 z), .int .u64 (Q3 z)] 44)))
  clear hb1 HAU b1 b2
  generalize w1.alloc (.cells #[.bool (QM z), .int .u64 (Q0 z), .int .u64 (Q1 z), .int .u64 (Q2 z), .int .u64 (Q3 z)] 44) = W2 at *
  generalize w1.heap.size = g7 at *
  go_wp2_with fail
  (with_reducible refine (HRU.out _ HB.out).mono ?_); rintro e w3 ⟨x, rfl, hN, hb3⟩
  obtain ⟨m, ad, n, c, rfl⟩ := hN.shape
  go_upto_region 5 with (fail)
  have HV9 := Lib.hid (var2_new w3 (.bool m) (.slice ad n c) 48 w3.heap.size rfl)
  have hb4 := bl_one w3 (.cells #[.bool m, .slice ad n c] 48)
  have HN := Lib.hid (hN.below hb4)
  replace HV7 := Lib.hid (HV7.out.below (bl_trans hb3 hb4))
  replace HB := Lib.hid (bl_trans HB.out (bl_trans hb3 hb4))
  clear hb3 hb4 hN HRU
  generalize w3.alloc (.cells #[.bool m, .slice ad n c] 48) = W4 at *
  generalize w3.heap.size = g9 at *
  obtain ⟨k0, k1⟩ := HV9.out.two
  go_wp2_with fail
  (with_reducible refine (wide_u _ z _ HN.out HBW.out).mono ?_); rintro e w5 ⟨rfl, hb5⟩
  clear k0 k1
  go_upto_region 6 with (fail)
  have HV11 := Lib.hid (var5_new w5 (.bool (QM z)) (.int .u64 (Q0 z)) (.int .u64 (Q1 z)) (.int .u64 (Q2 z)) (.int .u64 (Q3 z)) 44 w5.heap.size rfl)
  have hb6 := bl_trans hb5 (bl_one w5 (.cells #[.bool (QM z), .int .u64 (Q0 z), .int .u64 (Q1 z), .int .u64 (Q2 z), .int .u64 (Q3 z)] 44))
  replace HV7 := Lib.hid (HV7.out.below hb6)
  replace HV9 := Lib.hid (HV9.out.below hb6)
  replace HN := Lib.hid (HN.out.below hb6)
  replace HB := Lib.hid (bl_trans HB.out hb6)
  clear hb5 hb6
  generalize w5.alloc (.cells #[.bool (QM z), .int .u64 (Q0 z), .int .u64 (Q1 z), .int .u64 (Q2 z), .int .u64 (Q3 z)] 44) = W6 at *
  generalize w5.heap.size = g11 at *
  have HP6 := Lib.hid (HP.out.below HB.out)
  have HR6 := Lib.hid (HR.out.below HB.out)
  clear HP HR
  obtain ⟨k, HK⟩ : ∃ k : Nat, Hid (0 < ring.length → k < ring.length ∧ wrap64 ((IntKind.u64.wrap turn).tmod (ring.length : Int)) = (k : Int)) := by
    by_cases h0 : 0 < ring.length
    · obtain ⟨r, hr, e⟩ := u64modn turn ring.length h0 (by omega)
      exact ⟨r, fun _ => ⟨hr, e⟩⟩
    · exact ⟨0, fun h => absurd h h0⟩
  go_wp2_with fail
  go_loopw [13, 14, 15] (fun bv tv iv W => ∃ i : Nat, i ≤ ring.length ∧ iv = .int .i64 i ∧ Oi W6 bv (ring.reverse.take i) W ∧ Oi W6 tv ((turnR ring k).take i) W ∧ (∀ g, bv.ownBlock = some g → tv.ownBlock ≠ some g)) (fun _ _ iv _ => ring.length - (intOf iv).toNat)
  case atStart => exact ⟨0, Nat.zero_le _, rfl, oi_nil W6, oi_nil W6, fun g h => by cases h⟩
  case round =>
    obtain ⟨i, hi, rfl, hO1, hO2, hsep⟩ := hrel
    have HO1 := Lib.hid hO1
    have HO2 := Lib.hid hO2
    have HSEP := Lib.hid hsep
    obtain ⟨aL, cL, rfl, hcL, hrL, hnL⟩ := hO1.slice
    obtain ⟨aM, cM, rfl, hcM, hrM, hnM⟩ := hO2.slice
    have FL := Lib.hid (And.intro hcL (And.intro hrL hnL))
    have FM := Lib.hid (And.intro hcM (And.intro hrM hnM))
    clear hcL hrL hnL hcM hrM hnM
    clear hO1 hO2 hsep
    by_cases hlt : i < ring.length
    · have b2 : ((i : Int) < (ring.length : Int)) = True := eq_true (by omega)
      clear FL FM
      obtain ⟨hk, hke⟩ := HK.out (by omega)
      have HKE := Lib.hid hke
      clear hke
      obtain ⟨gr, or, rfl⟩ := HR6.out.some (by omega)
      obtain ⟨a, ha⟩ : ∃ a, ring.length - 1 - i = a := ⟨_, rfl⟩
      have hal : a < ring.length := by omega
      obtain ⟨r, hr⟩ : ∃ r, (i + k) % ring.length = r := ⟨_, rfl⟩
      have hrl : r < ring.length := by rw [← hr]; exact Nat.mod_lt _ (by omega)
      obtain ⟨x, hx⟩ : ∃ x, ring[a] = x := ⟨_, rfl⟩
      obtain ⟨y, hy⟩ : ∃ y, ring[r] = y := ⟨_, rfl⟩
      have HX := Lib.hid hx
      have HY := Lib.hid hy
      have HLX : Hid (ring.reverse.take (i + 1) = ring.reverse.take i ++ [x]) := by
        have h3 : i < ring.reverse.length := by simpa using hlt
        refine (List.take_succ_eq_append_getElem h3).trans ?_
        rw [List.getElem_reverse]
        simp only [ha, hx]
      have HMY : Hid ((turnR ring k).take (i + 1) = (turnR ring k).take i ++ [y]) := by
        have h3 : i < (turnR ring k).length := by rw [turnR_len]; exact hlt
        refine (List.take_succ_eq_append_getElem h3).trans ?_
        simp only [turnR, List.getElem_map, List.getElem_range, hr, List.getD_eq_getElem?_getD, List.getElem?_eq_getElem hrl, Option.getD_some, hy]
      have hl1 : (ring.reverse.take i).length = i := by rw [List.length_take, List.length_reverse]; omega
      have hl2 : ((turnR ring k).take i).length = i := by rw [List.length_take, turnR_len]; omega
      have HI1 : Hid (i + [x].length ≤ 1000000) := (show i + 1 ≤ 1000000 by omega)
      have HI2 : Hid (i + [y].length ≤ 1000000) := (show i + 1 ≤ 1000000 by omega)
      have HSUM : Hid (((i : Int) + (k : Int)).tmod (ring.length : Int) = (r : Int)) := by rw [← hr]; exact rfl
      generalize ring.reverse.take i = L at *
      generalize (turnR ring k).take i = M at *
      have HL1 := Lib.hid hl1
      have HL2 := Lib.hid hl2
      rw [hl1, hl2] at HSEP ⊢
      rw [hl1] at HO1
      rw [hl2] at HO2
      clear hx hy hr hl1 hl2
      have k0 := intRow_at (HR6.out.below HO1.out.hb) hal HX.out
      have s1 : wrap64 ((ring.length : Int) - 1) = ((ring.length - 1 : Nat) : Int) := by unfold wrap64; omega
      have s2 : wrap64 (((ring.length - 1 : Nat) : Int) - (i : Int)) = (a : Int) := by unfold wrap64; omega
      have c1 : ((0 : Int) ≤ (a : Int)) = True := eq_true (by omega)
      have c2 : ((a : Int) < (ring.length : Int)) = True := eq_true (by omega)
      have c3 : (a < ring.length) = True := eq_true hal
      go_upto_region 11 with (fail)
      clear b2
      go_cut [13] (fun bv W => Oi W6 bv (L ++ [x]) W ∧ Oi W6 (.slice aM i cM) M W ∧ ∀ g, bv.ownBlock = some g → (Value.slice aM i cM).ownBlock ≠ some g)
      case first =>
        go_wp2_with (at_builtin; refine app_ints_at rfl _ _ rfl rfl (HO1.out.alloc _) rfl (L := [x]) rfl (intRow_new _ _ _) (by rw [HL1.out]; exact HI1.out) ?_)
        intro v5 w5 hO5 hg5 hl5
        have HO5 := Lib.hid hO5
        have HM5 := Lib.hid ((HO2.out.alloc _).other hg5 HSEP.out (fun g e => (HO1.out.own.lt g e).1))
        have HS5 : Hid (∀ g, v5.ownBlock = some g → (Value.slice aM i cM).ownBlock ≠ some g) := by
          intro g e e2
          rcases hl5 with h | h
          · rw [h] at e; exact HSEP.out g e e2
          · rw [h] at e
            have := (HO2.out.own.lt g e2).2
            simp at e
            omega
        clear hO5 hg5 hl5
        go_wp2_with fail
        go_meet
        case rel => exact ⟨HO5.out, HM5.out, HS5.out⟩
      case rest =>
      obtain ⟨hO5, hM5, hS5⟩ := hcut
      clear HO1 HO2 HSEP HX k0 s1 s2 c1 c2 c3 ha hal HI1
      have HO1 := Lib.hid hO5
      have HO2 := Lib.hid hM5
      have HSEP := Lib.hid hS5
      clear hO5 hM5 hS5
      have k0 := intRow_at (HR6.out.below HO2.out.hb) hrl HY.out
      obtain ⟨s2, s3⟩ := wsum (i := i) (k := k) (by omega) (by omega)
      obtain ⟨s5, s6, -, -⟩ := wnum (i := r) (by omega)
      have c1 : ((0 : Int) ≤ (r : Int)) = True := eq_true (by omega)
      have c2 : ((r : Int) < (ring.length : Int)) = True := eq_true (by omega)
      have c3 : (r < ring.length) = True := eq_true hrl
      have b3 : ((ring.length : Int) = 0) = False := eq_false (by omega)
      have b4 : ((ring.length : Int) == 0) = false := beq_eq_false_iff_ne.2 (by omega)
      have b5 : (ring = []) = False := eq_false (fun e => by rw [e] at hlt; simp at hlt)
      go_upto_region 12 with (fail)
      obtain ⟨n1, n2, n3, n4⟩ := wnum (i := i) (by omega)
      have s1 := HKE.out
      have s4 := HSUM.out
      go_wp2_with (at_builtin; refine app_ints_at rfl _ _ rfl rfl (HO2.out.alloc _) rfl (L := [y]) rfl (intRow_new _ _ _) (by rw [HL2.out]; exact HI2.out) ?_)
      intro v5 w5 hO5 hg5 hl5
      clear s1 s2 s3 s4 s5 s6 k0 c1 c2 c3 b3 b4 b5
      have HO5 := Lib.hid hO5
      have HM5 := Lib.hid ((HO1.out.alloc _).other hg5 (fun g e e2 => HSEP.out g e2 e) (fun g e => (HO2.out.own.lt g e).1))
      have HS5 : Hid (∀ g, u13.ownBlock = some g → v5.ownBlock ≠ some g) := by
        intro g e e2
        rcases hl5 with h | h
        · rw [h] at e2; exact HSEP.out g e e2
        · rw [h] at e2
          have := (HO1.out.own.lt g e).2
          simp at e2
          omega
      clear hO5 hg5 hl5 HO1 HO2 HSEP
      go_wp2_with fail
      clear n1 n2 n3 n4
      exact ⟨⟨i + 1, hlt, by rw [Int.natCast_add]; rfl, by rw [HLX.out]; exact HM5.out, by rw [HMY.out]; exact HO5.out, HS5.out⟩, by simp [intOf]; omega⟩
    · obtain rfl : i = ring.length := by omega
      have b2 : ((ring.length : Int) < (ring.length : Int)) = False := eq_false (by omega)
      have e1 : ring.reverse.take ring.length = ring.reverse := List.take_of_length_le (by simp)
      have e2 : (turnR ring k).take ring.length = turnR ring k := List.take_of_length_le (by rw [turnR_len]; exact Nat.le_refl _)
      have ez : zR p (turnR ring k) = z ∧ eR p (turnR ring k) = ec := by
        by_cases h0 : 0 < ring.length
        · exact HTN.out k (HK.out h0).1
        · obtain rfl : ring = [] := List.length_eq_zero_iff.1 (by omega)
          exact HZE.out
      have er := HRV.out
      rw [e1] at FL HO1 ⊢
      rw [e2] at FM HO2 ⊢
      have l1 : ring.reverse.length ≤ 10000 := by rw [List.length_reverse]; omega
      have l2 : (turnR ring k).length ≤ 10000 := by rw [turnR_len]; omega
      have HB7 := Lib.hid HO1.out.hb
      have HA1 := Lib.hid (area_u p ring.reverse ap aL cp cL wr (HP6.out.below HB7.out) FL.out.2.1 FL.out.1 FL.out.2.2 l1 (by omega) er.1 er.2)
      have HA2 := Lib.hid (fun W (h : Below wr.heap.size wr W) => area_u p (turnR ring k) ap aM cp cM W (HP6.out.below (bl_trans HB7.out h)) (FM.out.2.1.below h) FM.out.1 FM.out.2.2 l2 (by omega) ez.1 ez.2)
      clear e1 e2 ez er l1 l2 FL FM HO1 HO2 HSEP HK HTN HRV HZE
      generalize ring.reverse = R1 at *
      generalize turnR ring k = R2 at *
      go_wp2_with fail
      (with_reducible refine HA1.out.mono ?_); rintro e w1 ⟨rfl, hb1⟩
      go_upto_region 14 with (fail)
      have HV16 := Lib.hid (var5_new w1 (.bool (QM (-z))) (.int .u64 (Q0 (-z))) (.int .u64 (Q1 (-z))) (.int .u64 (Q2 (-z))) (.int .u64 (Q3 (-z))) 44 w1.heap.size rfl)
      have hb2 := bl_trans hb1 (bl_one w1 (.cells #[.bool (QM (-z)), .int .u64 (Q0 (-z)), .int .u64 (Q1 (-z)), .int .u64 (Q2 (-z)), .int .u64 (Q3 (-z))] 44))
      clear hb1 HA1
      generalize w1.alloc (.cells #[.bool (QM (-z)), .int .u64 (Q0 (-z)), .int .u64 (Q1 (-z)), .int .u64 (Q2 (-z)), .int .u64 (Q3 (-z))] 44) = W8 at *
      generalize w1.heap.size = g16 at *
      have HB8 := Lib.hid hb2
      clear hb2
      go_wp2_with fail
      (with_reducible refine (HA2.out _ HB8.out).mono ?_); rintro e w3 ⟨rfl, hb3⟩
      go_upto_region 15 with (fail)
      have HV18 := Lib.hid (var5_new w3 (.bool (QM z)) (.int .u64 (Q0 z)) (.int .u64 (Q1 z)) (.int .u64 (Q2 z)) (.int .u64 (Q3 z)) 44 w3.heap.size rfl)
      have hb4 := bl_trans hb3 (bl_one w3 (.cells #[.bool (QM z), .int .u64 (Q0 z), .int .u64 (Q1 z), .int .u64 (Q2 z), .int .u64 (Q3 z)] 44))
      replace HV16 := Lib.hid (HV16.out.below hb4)
      have hb5 := bl_trans (bl_trans HB7.out HB8.out) hb4
      replace HV7 := Lib.hid (HV7.out.below hb5)
      replace HV9 := Lib.hid (HV9.out.below hb5)
      replace HV11 := Lib.hid (HV11.out.below hb5)
      replace HN := Lib.hid (HN.out.below hb5)
      replace HB := Lib.hid (bl_trans HB.out hb5)
      clear hb3 hb4 hb5 HA2 HB7 HB8 b2
      generalize w3.alloc (.cells #[.bool (QM z), .int .u64 (Q0 z), .int .u64 (Q1 z), .int .u64 (Q2 z), .int .u64 (Q3 z)] 44) = w9 at *
      generalize w3.heap.size = g18 at *
      refine wp_region_held_drew (S := fun V => Below w9.heap.size w9 V) (by kernel_rfl) ?_ (fun hHeld => ?_)
      · exact bel_drew w9
      revert hHeld
      generalize World.drew _ = W1
      intro hHeld 
      refine wpAnyH_take (i := 0) (v := ?_) rfl (by kernel_rfl) (by kernel_rfl) (by kernel_rfl) (fun _ _ _ h => h) (Or.inl ⟨by rfl, ?_⟩) (by assumption) ?_
      rotate_left
      · intro Wq hSw
        obtain ⟨k0, k1, k2, k3, k4⟩ := (HV7.out.below hSw).five
        clear hSw
        go_simp
        all_goals (with_reducible rfl)
      try simp only [Act.put, List.getElem_toArray, List.getElem_cons_zero, List.setIfInBounds_toArray, List.set_cons_zero, List.set_cons_succ]
      refine wpAnyH_take (i := 1) (v := ?_) rfl (by kernel_rfl) (by kernel_rfl) (by kernel_rfl) (fun _ _ _ h => h) (Or.inl ⟨by rfl, ?_⟩) (by assumption) ?_
      rotate_left
      · intro Wq hSw
        obtain ⟨k0, k1, k2, k3, k4⟩ := (HV11.out.below hSw).five
        clear hSw
        go_simp
        all_goals (with_reducible rfl)
      try simp only [Act.put, List.getElem_toArray, List.getElem_cons_succ, List.getElem_cons_zero, List.setIfInBounds_toArray, List.set_cons_zero, List.set_cons_succ]
      refine wpAnyH_take (i := 2) (v := ?_) rfl (by kernel_rfl) (by kernel_rfl) (by kernel_rfl) (fun _ _ _ h => h) (Or.inl ⟨by rfl, ?_⟩) (by assumption) ?_
      rotate_left
      · intro Wq hSw
        have hq := eqL' 9999 rfl (Q0 z) (Q1 z) (Q2 z) (Q3 z) (Q0 z) (Q1 z) (Q2 z) (Q3 z) Wq
        simp only [and_self, decide_true] at hq
        clear hSw
        go_simp
        all_goals (with_reducible rfl)
      try simp only [Act.put, List.getElem_toArray, List.getElem_cons_succ, List.getElem_cons_zero, List.setIfInBounds_toArray, List.set_cons_zero, List.set_cons_succ]
      refine wpAnyH_take (i := 3) (v := ?_) rfl (by kernel_rfl) (by kernel_rfl) (by kernel_rfl) (fun _ _ _ h => h) (Or.inl ⟨by rfl, ?_⟩) (by assumption) ?_
      rotate_left
      · intro Wq hSw
        clear hSw
        go_simp
        all_goals (with_reducible rfl)
      try simp only [Act.put, List.getElem_toArray, List.getElem_cons_succ, List.getElem_cons_zero, List.setIfInBounds_toArray, List.set_cons_zero, List.set_cons_succ]
      refine wpAnyH_take (i := 4) (v := ?_) rfl (by kernel_rfl) (by kernel_rfl) (by kernel_rfl) (fun _ _ _ h => h) (Or.inl ⟨by rfl, ?_⟩) (by assumption) ?_
      rotate_left
      · intro Wq hSw
        clear hSw
        go_simp
        all_goals (with_reducible rfl)
      try simp only [Act.put, List.getElem_toArray, List.getElem_cons_succ, List.getElem_cons_zero, List.setIfInBounds_toArray, List.set_cons_zero, List.set_cons_succ]
      refine wpAnyH_take (i := 5) (v := ?_) rfl (by kernel_rfl) (by kernel_rfl) (by kernel_rfl) (fun _ _ _ h => h) (Or.inl ⟨by rfl, ?_⟩) (by assumption) ?_
      rotate_left
      · intro Wq hSw
        clear hSw
        go_simp
        all_goals (with_reducible rfl)
      try simp only [Act.put, List.getElem_toArray, List.getElem_cons_succ, List.getElem_cons_zero, List.setIfInBounds_toArray, List.set_cons_zero, List.set_cons_succ]
      refine wpAnyH_take (i := 6) (v := ?_) rfl (by kernel_rfl) (by kernel_rfl) (by kernel_rfl) (fun _ _ _ h => h) (Or.inl ⟨by rfl, ?_⟩) (by assumption) ?_
      rotate_left
      · intro Wq hSw
        clear hSw
        go_simp
        all_goals (with_reducible rfl)
      try simp only [Act.put, List.getElem_toArray, List.getElem_cons_succ, List.getElem_cons_zero, List.setIfInBounds_toArray, List.set_cons_zero, List.set_cons_succ]
      refine wpAnyH_take (i := 7) (v := ?_) rfl (by kernel_rfl) (by kernel_rfl) (by kernel_rfl) (fun _ _ _ h => h) (Or.inl ⟨by rfl, ?_⟩) (by assumption) ?_
      rotate_left
      · intro Wq hSw
        clear hSw
        go_simp
        all_goals (with_reducible rfl)
      try simp only [Act.put, List.getElem_toArray, List.getElem_cons_succ, List.getElem_cons_zero, List.setIfInBounds_toArray, List.set_cons_zero, List.set_cons_succ]
      refine wpAnyH_take (i := 8) (v := ?_) rfl (by kernel_rfl) (by kernel_rfl) (by kernel_rfl) (fun _ _ _ h => h) (Or.inl ⟨by rfl, ?_⟩) (by assumption) ?_
      rotate_left
      · intro Wq hSw
        clear hSw
        go_simp
        all_goals (with_reducible rfl)
      try simp only [Act.put, List.getElem_toArray, List.getElem_cons_succ, List.getElem_cons_zero, List.setIfInBounds_toArray, List.set_cons_zero, List.set_cons_succ]
      refine wpAnyH_take (i := 9) (v := ?_) rfl (by kernel_rfl) (by kernel_rfl) (by kernel_rfl) (fun _ _ _ h => h) (Or.inl ⟨by rfl, ?_⟩) (by assumption) ?_
      rotate_left
      · intro Wq hSw
        clear hSw
        go_simp
        all_goals (with_reducible rfl)
      try simp only [Act.put, List.getElem_toArray, List.getElem_cons_succ, List.getElem_cons_zero, List.setIfInBounds_toArray, List.set_cons_zero, List.set_cons_succ]
      refine wpAnyH_take (i := 10) (v := ?_) rfl (by kernel_rfl) (by kernel_rfl) (by kernel_rfl) (fun _ _ _ h => h) (Or.inl ⟨by rfl, ?_⟩) (by assumption) ?_
      rotate_left
      · intro Wq hSw
        clear hSw
        go_simp
        all_goals (with_reducible rfl)
      try simp only [Act.put, List.getElem_toArray, List.getElem_cons_succ, List.getElem_cons_zero, List.setIfInBounds_toArray, List.set_cons_zero, List.set_cons_succ]
      refine wpAnyH_take (i := 11) (v := ?_) rfl (by kernel_rfl) (by kernel_rfl) (by kernel_rfl) (fun _ _ _ h => h) (Or.inl ⟨by rfl, ?_⟩) (by assumption) ?_
      rotate_left
      · intro Wq hSw
        clear hSw
        go_simp
        all_goals (with_reducible rfl)
      try simp only [Act.put, List.getElem_toArray, List.getElem_cons_succ, List.getElem_cons_zero, List.setIfInBounds_toArray, List.set_cons_zero, List.set_cons_succ]
      refine wpAnyH_take (i := 12) (v := ?_) rfl (by kernel_rfl) (by kernel_rfl) (by kernel_rfl) (fun _ _ _ h => h) (Or.inl ⟨by rfl, ?_⟩) (by assumption) ?_
      rotate_left
      · intro Wq hSw
        obtain ⟨k0, k1, k2, k3, k4⟩ := (HV16.out.below hSw).five
        clear hSw
        go_simp
        all_goals (with_reducible rfl)
      try simp only [Act.put, List.getElem_toArray, List.getElem_cons_succ, List.getElem_cons_zero, List.setIfInBounds_toArray, List.set_cons_zero, List.set_cons_succ]
      refine wpAnyH_take (i := 14) (v := ?_) rfl (by kernel_rfl) (by kernel_rfl) (by kernel_rfl) (fun _ _ _ h => h) (Or.inl ⟨by rfl, ?_⟩) (by assumption) ?_
      rotate_left
      · intro Wq hSw
        obtain ⟨k0, k1⟩ := (HV9.out.below hSw).two
        clear hSw
        go_simp
        all_goals (with_reducible rfl)
      try simp only [Act.put, List.getElem_toArray, List.getElem_cons_succ, List.getElem_cons_zero, List.setIfInBounds_toArray, List.set_cons_zero, List.set_cons_succ]
      refine r1 (i := 13) rfl (fun K hK => ?_)
      go_simp
      (with_reducible refine (of_u (-z) HBWN.out _).mono ?_)
      rintro e wz ⟨v1, rfl, hN1, hb1⟩
      obtain ⟨m1, ad1, n1, c1, rfl⟩ := hN1.shape
      have HN1 := Lib.hid hN1
      clear hN1
      go_wp2_with fail
      refine hK.out _ _ (bl_trans hHeld hb1) (fun hHeld2 => ?_)
      clear hK K hHeld
      have hHeld := hHeld2
      clear hHeld2
      try simp only [Act.put, List.getElem_toArray, List.getElem_cons_succ, List.getElem_cons_zero, List.setIfInBounds_toArray, List.set_cons_zero, List.set_cons_succ]
      refine r1 (i := 15) rfl (fun K hK => ?_)
      go_simp
      (with_reducible refine (neg_num _ z _ (HN.out.below hHeld)).mono ?_)
      rintro e wz ⟨v2, rfl, hN2, hb1⟩
      obtain ⟨m2, ad2, n2, c2, rfl⟩ := hN2.shape
      have HN2 := Lib.hid hN2
      clear hN2
      go_wp2_with fail
      refine hK.out _ _ (bl_trans hHeld hb1) (fun hHeld2 => ?_)
      replace HN1 := Lib.hid (HN1.out.below hb1)
      clear hK K hHeld
      have hHeld := hHeld2
      clear hHeld2
      try simp only [Act.put, List.getElem_toArray, List.getElem_cons_succ, List.getElem_cons_zero, List.setIfInBounds_toArray, List.set_cons_zero, List.set_cons_succ]
      refine r1 (i := 16) rfl (fun K hK => ?_)
      go_simp
      (with_reducible refine (cmp0_u _ _ (-z) _ HN1.out HN2.out HBIGN.out).mono ?_)
      rintro e wz ⟨rfl, hb1⟩
      go_wp2_with fail
      refine hK.out _ _ (bl_trans hHeld hb1) (fun hHeld2 => ?_)
      clear hK K hHeld
      have hHeld := hHeld2
      clear hHeld2
      try simp only [Act.put, List.getElem_toArray, List.getElem_cons_succ, List.getElem_cons_zero, List.setIfInBounds_toArray, List.set_cons_zero, List.set_cons_succ]
      refine wpAnyH_take (i := 17) (v := ?_) rfl (by kernel_rfl) (by kernel_rfl) (by kernel_rfl) (fun _ _ _ h => h) (Or.inl ⟨by rfl, ?_⟩) (by assumption) ?_
      rotate_left
      · intro Wq hSw
        clear hSw
        go_simp
        all_goals (with_reducible rfl)
      try simp only [Act.put, List.getElem_toArray, List.getElem_cons_succ, List.getElem_cons_zero, List.setIfInBounds_toArray, List.set_cons_zero, List.set_cons_succ]
      refine wpAnyH_take (i := 18) (v := ?_) rfl (by kernel_rfl) (by kernel_rfl) (by kernel_rfl) (fun _ _ _ h => h) (Or.inl ⟨by rfl, ?_⟩) (by assumption) ?_
      rotate_left
      · intro Wq hSw
        clear hSw
        go_simp
        all_goals (with_reducible rfl)
      try simp only [Act.put, List.getElem_toArray, List.getElem_cons_succ, List.getElem_cons_zero, List.setIfInBounds_toArray, List.set_cons_zero, List.set_cons_succ]
      refine wpAnyH_take (i := 19) (v := ?_) rfl (by kernel_rfl) (by kernel_rfl) (by kernel_rfl) (fun _ _ _ h => h) (Or.inl ⟨by rfl, ?_⟩) (by assumption) ?_
      rotate_left
      · intro Wq hSw
        clear hSw
        go_simp
        all_goals (with_reducible rfl)
      try simp only [Act.put, List.getElem_toArray, List.getElem_cons_succ, List.getElem_cons_zero, List.setIfInBounds_toArray, List.set_cons_zero, List.set_cons_succ]
      refine wpAnyH_take (i := 20) (v := ?_) rfl (by kernel_rfl) (by kernel_rfl) (by kernel_rfl) (fun _ _ _ h => h) (Or.inl ⟨by rfl, ?_⟩) (by assumption) ?_
      rotate_left
      · intro Wq hSw
        clear hSw
        go_simp
        all_goals (with_reducible rfl)
      try simp only [Act.put, List.getElem_toArray, List.getElem_cons_succ, List.getElem_cons_zero, List.setIfInBounds_toArray, List.set_cons_zero, List.set_cons_succ]
      refine wpAnyH_take (i := 21) (v := ?_) rfl (by kernel_rfl) (by kernel_rfl) (by kernel_rfl) (fun _ _ _ h => h) (Or.inl ⟨by rfl, ?_⟩) (by assumption) ?_
      rotate_left
      · intro Wq hSw
        clear hSw
        go_simp
        all_goals (with_reducible rfl)
      try simp only [Act.put, List.getElem_toArray, List.getElem_cons_succ, List.getElem_cons_zero, List.setIfInBounds_toArray, List.set_cons_zero, List.set_cons_succ]
      refine wpAnyH_take (i := 22) (v := ?_) rfl (by kernel_rfl) (by kernel_rfl) (by kernel_rfl) (fun _ _ _ h => h) (Or.inl ⟨by rfl, ?_⟩) (by assumption) ?_
      rotate_left
      · intro Wq hSw
        clear hSw
        go_simp
        all_goals (with_reducible rfl)
      try simp only [Act.put, List.getElem_toArray, List.getElem_cons_succ, List.getElem_cons_zero, List.setIfInBounds_toArray, List.set_cons_zero, List.set_cons_succ]
      refine wpAnyH_take (i := 23) (v := ?_) rfl (by kernel_rfl) (by kernel_rfl) (by kernel_rfl) (fun _ _ _ h => h) (Or.inl ⟨by rfl, ?_⟩) (by assumption) ?_
      rotate_left
      · intro Wq hSw
        clear hSw
        go_simp
        all_goals (with_reducible rfl)
      try simp only [Act.put, List.getElem_toArray, List.getElem_cons_succ, List.getElem_cons_zero, List.setIfInBounds_toArray, List.set_cons_zero, List.set_cons_succ]
      refine wpAnyH_take (i := 24) (v := ?_) rfl (by kernel_rfl) (by kernel_rfl) (by kernel_rfl) (fun _ _ _ h => h) (Or.inl ⟨by rfl, ?_⟩) (by assumption) ?_
      rotate_left
      · intro Wq hSw
        clear hSw
        go_simp
        all_goals (with_reducible rfl)
      try simp only [Act.put, List.getElem_toArray, List.getElem_cons_succ, List.getElem_cons_zero, List.setIfInBounds_toArray, List.set_cons_zero, List.set_cons_succ]
      refine wpAnyH_take (i := 25) (v := ?_) rfl (by kernel_rfl) (by kernel_rfl) (by kernel_rfl) (fun _ _ _ h => h) (Or.inl ⟨by rfl, ?_⟩) (by assumption) ?_
      rotate_left
      · intro Wq hSw
        obtain ⟨k0, k1, k2, k3, k4⟩ := (HV18.out.below hSw).five
        clear hSw
        go_simp
        all_goals (with_reducible rfl)
      try simp only [Act.put, List.getElem_toArray, List.getElem_cons_succ, List.getElem_cons_zero, List.setIfInBounds_toArray, List.set_cons_zero, List.set_cons_succ]
      refine wpAnyH_take (i := 26) (v := ?_) rfl (by kernel_rfl) (by kernel_rfl) (by kernel_rfl) (fun _ _ _ h => h) (Or.inl ⟨by rfl, ?_⟩) (by assumption) ?_
      rotate_left
      · intro Wq hSw
        obtain ⟨k0, k1, k2, k3, k4⟩ := (HV7.out.below hSw).five
        clear hSw
        go_simp
        all_goals (with_reducible rfl)
      try simp only [Act.put, List.getElem_toArray, List.getElem_cons_succ, List.getElem_cons_zero, List.setIfInBounds_toArray, List.set_cons_zero, List.set_cons_succ]
      refine wpAnyH_take (i := 27) (v := ?_) rfl (by kernel_rfl) (by kernel_rfl) (by kernel_rfl) (fun _ _ _ h => h) (Or.inl ⟨by rfl, ?_⟩) (by assumption) ?_
      rotate_left
      · intro Wq hSw
        have hq := eqL' 9999 rfl (Q0 z) (Q1 z) (Q2 z) (Q3 z) (Q0 z) (Q1 z) (Q2 z) (Q3 z) Wq
        simp only [and_self, decide_true] at hq
        clear hSw
        go_simp
        all_goals (with_reducible rfl)
      try simp only [Act.put, List.getElem_toArray, List.getElem_cons_succ, List.getElem_cons_zero, List.setIfInBounds_toArray, List.set_cons_zero, List.set_cons_succ]
      refine wpAnyH_take (i := 28) (v := ?_) rfl (by kernel_rfl) (by kernel_rfl) (by kernel_rfl) (fun _ _ _ h => h) (Or.inl ⟨by rfl, ?_⟩) (by assumption) ?_
      rotate_left
      · intro Wq hSw
        clear hSw
        go_simp
        all_goals (with_reducible rfl)
      try simp only [Act.put, List.getElem_toArray, List.getElem_cons_succ, List.getElem_cons_zero, List.setIfInBounds_toArray, List.set_cons_zero, List.set_cons_succ]
      refine wpAnyH_take (i := 29) (v := ?_) rfl (by kernel_rfl) (by kernel_rfl) (by kernel_rfl) (fun _ _ _ h => h) (Or.inl ⟨by rfl, ?_⟩) (by assumption) ?_
      rotate_left
      · intro Wq hSw
        clear hSw
        go_simp
        all_goals (with_reducible rfl)
      try simp only [Act.put, List.getElem_toArray, List.getElem_cons_succ, List.getElem_cons_zero, List.setIfInBounds_toArray, List.set_cons_zero, List.set_cons_succ]
      refine wpAnyH_take (i := 30) (v := ?_) rfl (by kernel_rfl) (by kernel_rfl) (by kernel_rfl) (fun _ _ _ h => h) (Or.inl ⟨by rfl, ?_⟩) (by assumption) ?_
      rotate_left
      · intro Wq hSw
        clear hSw
        go_simp
        all_goals (with_reducible rfl)
      try simp only [Act.put, List.getElem_toArray, List.getElem_cons_succ, List.getElem_cons_zero, List.setIfInBounds_toArray, List.set_cons_zero, List.set_cons_succ]
      refine wpAnyH_take (i := 31) (v := ?_) rfl (by kernel_rfl) (by kernel_rfl) (by kernel_rfl) (fun _ _ _ h => h) (Or.inl ⟨by rfl, ?_⟩) (by assumption) ?_
      rotate_left
      · intro Wq hSw
        clear hSw
        go_simp
        all_goals (with_reducible rfl)
      try simp only [Act.put, List.getElem_toArray, List.getElem_cons_succ, List.getElem_cons_zero, List.setIfInBounds_toArray, List.set_cons_zero, List.set_cons_succ]
      refine wpAnyH_take (i := 32) (v := ?_) rfl (by kernel_rfl) (by kernel_rfl) (by kernel_rfl) (fun _ _ _ h => h) (Or.inl ⟨by rfl, ?_⟩) (by assumption) ?_
      rotate_left
      · intro Wq hSw
        clear hSw
        go_simp
        all_goals (with_reducible rfl)
      try simp only [Act.put, List.getElem_toArray, List.getElem_cons_succ, List.getElem_cons_zero, List.setIfInBounds_toArray, List.set_cons_zero, List.set_cons_succ]
      refine wpAnyH_take (i := 33) (v := ?_) rfl (by kernel_rfl) (by kernel_rfl) (by kernel_rfl) (fun _ _ _ h => h) (Or.inl ⟨by rfl, ?_⟩) (by assumption) ?_
      rotate_left
      · intro Wq hSw
        clear hSw
        go_simp
        all_goals (with_reducible rfl)
      try simp only [Act.put, List.getElem_toArray, List.getElem_cons_succ, List.getElem_cons_zero, List.setIfInBounds_toArray, List.set_cons_zero, List.set_cons_succ]
      refine wpAnyH_take (i := 34) (v := ?_) rfl (by kernel_rfl) (by kernel_rfl) (by kernel_rfl) (fun _ _ _ h => h) (Or.inl ⟨by rfl, ?_⟩) (by assumption) ?_
      rotate_left
      · intro Wq hSw
        clear hSw
        go_simp
        all_goals (with_reducible rfl)
      try simp only [Act.put, List.getElem_toArray, List.getElem_cons_succ, List.getElem_cons_zero, List.setIfInBounds_toArray, List.set_cons_zero, List.set_cons_succ]
      refine r1 (i := 35) rfl (fun K hK => ?_)
      go_simp
      (with_reducible refine (KN.out _).mono ?_)
      rintro e wz ⟨rfl, hb1⟩
      go_wp2_with fail
      refine hK.out _ _ (bl_trans hHeld hb1) (fun hHeld2 => ?_)
      clear hK K hHeld
      have hHeld := hHeld2
      clear hHeld2
      try simp only [Act.put, List.getElem_toArray, List.getElem_cons_succ, List.getElem_cons_zero, List.setIfInBounds_toArray, List.set_cons_zero, List.set_cons_succ]
      refine wpAnyH_take (i := 36) (v := ?_) rfl (by kernel_rfl) (by kernel_rfl) (by kernel_rfl) (fun _ _ _ h => h) (Or.inl ⟨by rfl, ?_⟩) (by assumption) ?_
      rotate_left
      · intro Wq hSw
        clear hSw
        go_simp
        all_goals (with_reducible rfl)
      try simp only [Act.put, List.getElem_toArray, List.getElem_cons_succ, List.getElem_cons_zero, List.setIfInBounds_toArray, List.set_cons_zero, List.set_cons_succ]
      refine wpAnyH_take (i := 37) (v := ?_) rfl (by kernel_rfl) (by kernel_rfl) (by kernel_rfl) (fun _ _ _ h => h) (Or.inl ⟨by rfl, ?_⟩) (by assumption) ?_
      rotate_left
      · intro Wq hSw
        clear hSw
        go_simp
        all_goals (with_reducible rfl)
      try simp only [Act.put, List.getElem_toArray, List.getElem_cons_succ, List.getElem_cons_zero, List.setIfInBounds_toArray, List.set_cons_zero, List.set_cons_succ]
      refine wpAnyH_done (by kernel_rfl) ?_ _
      go_wp2_with fail
      go_ret
      exact ⟨rfl, bl_trans HB.out hHeld⟩
end Go.Proofs.Ytpockemjfbaheaa

namespace Go.Proofs.Ytpockemjfbaheaa.ringsAreas
open Go.ChangeShapes Go.WideShapes Go.ChangeAt Go.RowKit

theorem own : ownKnob Try.prog.godebug = none := by kernel_rfl

set_option maxRecDepth 100000 in
theorem lifted (os : Os) (started : os.Started) (H : Type) (enc : TypeId × Value → H) :
    ReturnsInHanded {} Try.checked os 4 .any (Rows.ringsAreasSpec.pre6 enc Try.prog Try.f4 Rows.ringsAreasRow.domain false) (Rows.ringsAreasSpec.post enc Try.prog Try.f4 false true false false) := by
  refine returnsInHanded_of_change (C := Try.checked) own started (by kernel_rfl) Try.func4
    (ChangeSpec.witness6 (enc := enc) (C := Try.checked) false ⟨#[], #[.slice none 0 0, .slice none 0 0, .int .i64 0], []⟩ 8 (by kernel_rfl) (by kernel_rfl) (by kernel_rfl) (by kernel_rfl)) ?_
  intro W base args ds gs before hval0 hW _ _
  have hval : ∀ (j : Nat) t v, Try.f4.params[j]? = some t → args[j]? = some v → Value.okWide Try.prog W .any base t v := hval0
  have hW' := hW
  obtain ⟨p, q, hA0, hV, rfl, -, -⟩ := hW
  have hA : DataW.TrodAll enc Try.prog W 0 (fun _ => true) true Try.f4.params.toList args.toList ds p := hA0
  rw [Try.params4] at hA hval
  obtain ⟨v0, vs0, d0, ds0, p0, q0, hargs0, rfl, rfl, h0, r0⟩ := trodAll_cons hA
  obtain ⟨v1, vs1, d1, ds1, p1, q1, hargs1, rfl, rfl, h1, r1⟩ := trodAll_cons r0
  obtain ⟨v2, vs2, d2, ds2, p2, q2, hargs2, rfl, rfl, h2, r2⟩ := trodAll_cons r1
  obtain ⟨rfl, rfl, rfl⟩ := trodAll_nil r2
  obtain rfl : args = #[v0, v1, v2] := by cases args; simp_all
  obtain ⟨rfl, rfl⟩ := trodVars_none hV
  obtain ⟨l0, ad0, cp0, rfl, hc0, hr0, hn0⟩ := open_pts8 (hval 0 40 v0 rfl rfl) h0
  obtain ⟨l1, ⟨ad1, cp1, rfl, hc1, hr1, hn1⟩, hb1⟩ := open_ints8 (hval 1 24 v1 rfl rfl) h1
  obtain ⟨n2, rfl, rfl, rfl, wn2⟩ := open_int Try.underlying3 (hval 2 3 v2 rfl rfl) h2
  clear hA0 hval0
  have hlt0 : ∀ x ∈ p0, x.block < W.heap.size := fun x hx => by simpa using hW'.lt x (by simp; exact .inl hx)
  have hlt1 : ∀ x ∈ p1, x.block < W.heap.size := fun x hx => by simpa using hW'.lt x (by simp; exact .inr hx)
  simp only [List.append_nil] at hW'
  refine (areas_l W l0 ad0 cp0 hc0 hr0 hn0 l1 ad1 cp1 hc1 hr1 hn1 hb1 n2).mono fun e W' h => ?_
  obtain ⟨he, hb⟩ := h
  subst he
  have hargs9 : DataW.TrodAll enc Try.prog W' 0 (fun b => decide (b < W.heap.size)) true [40, 24, 3] [.slice ad0 l0.length cp0, .slice ad1 l1.length cp1, .int .i64 n2] [d0, d1, .lit (.int .i64 n2)] (p0 ++ p1) := by
    simpa using trodAll_cons_mk (Below.trod (by kernel_rfl) (by kernel_rfl) (of_decide_eq_true (by kernel_rfl)) h0 hb hlt0) (trodAll_cons_mk (Below.trod (by kernel_rfl) (by kernel_rfl) (of_decide_eq_true (by kernel_rfl)) h1 hb hlt1) (trodAll_cons_mk (p := []) (shut_int Try.underlying3 wn2) trodAll_mk0))
  exact ⟨_, rfl, _, _, _, [], (p0 ++ p1), [], hW', trodAll_cons_mk (shut_bool Try.underlying4 _) trodAll_mk0, hargs9, rfl, hb.frame _, fun h => by cases h⟩

theorem proved : Rows.RingsAreasSaid :=
  OpenClaim.holds_of_wide 4 Try.f4 rfl rfl rfl rfl rfl rfl rfl ⟨rfl, rfl, rfl, rfl, rfl⟩ rfl rfl rfl rfl rfl (by kernel_rfl) Try.func4 (by kernel_rfl)
    (of_decide_eq_true (by kernel_rfl)) (by unfold Func.isWrapper; first | (rw [if_pos (by decide +kernel)]; kernel_rfl) | (rw [if_neg (by decide +kernel)]; exact ⟨rfl, rfl⟩))
    (fun os started H enc _ => lifted os started H enc)
end Go.Proofs.Ytpockemjfbaheaa.ringsAreas
