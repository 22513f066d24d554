/-
  The plain mathematics of the document's Area: a fan of triangles is the sum of strips.
-/
import Derived.Test.YtpockemjfbaheaaRAreas
import Derived.Test.YtpockemjfbaheaaAreas
import Derived.Test.YtpockemjfbaheaaRefSub
namespace Go.Proofs.Ytpockemjfbaheaa
open Go.RowKit

def atR (p : List Pt) (ring : List Int) (i : Nat) : Pt := pget p (ring.getD i 0).toNat
def fanZ (p : List Pt) (ring : List Int) (j : Nat) : Int := crossZ (atR p ring 0) (atR p ring (j - 1)) (atR p ring j)
def fanTo (p : List Pt) (ring : List Int) : Nat → Int
  | 0 => 0
  | k + 1 => fanTo p ring k + if k < 2 then 0 else fanZ p ring k
theorem fanTo_two (p : List Pt) (ring : List Int) : fanTo p ring 2 = 0 := rfl
theorem fanTo_succ (p : List Pt) (ring : List Int) {k : Nat} (h : 2 ≤ k) : fanTo p ring (k + 1) = fanTo p ring k + fanZ p ring k := by
  rw [fanTo, if_neg (by omega)]
theorem strip_alg0 (a b : Pt) : (a.x - b.x) * (a.y + b.y) + (b.x - a.x) * (b.y + a.y) = 0 := by grind
theorem strip_alg (a b c : Pt) : (b.x - a.x) * (b.y + a.y) + crossZ a b c = (b.x - c.x) * (b.y + c.y) + (c.x - a.x) * (c.y + a.y) := by unfold crossZ; grind
theorem segs_pget {R : List Int} {k : Nat} (h : k < R.length) : pget (ringSegs R) k = ⟨R.getD k 0, R.getD ((k + 1) % R.length) 0⟩ := by
  have h2 : k < (ringSegs R).length := by rw [ringSegs_len]; exact h
  simp only [pget, List.getD_eq_getElem?_getD, List.getElem?_eq_getElem h2, Option.getD_some]
  simp [ringSegs]
theorem strip_at {p : List Pt} {R : List Int} {k : Nat} (h : k < R.length) : stripZ p (pget (ringSegs R) k) = ((atR p R k).x - (atR p R ((k + 1) % R.length)).x) * ((atR p R k).y + (atR p R ((k + 1) % R.length)).y) := by
  rw [segs_pget h]
  rfl
theorem fan_strip (p : List Pt) (R : List Int) : ∀ k, 1 ≤ k → k < R.length → fanTo p R (k + 1) = stripTo p (ringSegs R) k + ((atR p R k).x - (atR p R 0).x) * ((atR p R k).y + (atR p R 0).y)
  | 0, h, _ => by omega
  | 1, _, h => by
    have e1 := stripTo_succ p (l := ringSegs R) (k := 0) (by rw [ringSegs_len]; omega)
    rw [strip_at (by omega), stripTo_zero, Nat.mod_eq_of_lt (by omega)] at e1
    have e2 := strip_alg0 (atR p R 0) (atR p R (0 + 1))
    rw [fanTo_two, e1]
    simp only [Nat.zero_add] at e2 ⊢
    omega
  | k + 2, _, h => by
    have ih := fan_strip p R (k + 1) (by omega) (by omega)
    have e1 := stripTo_succ p (l := ringSegs R) (k := k + 1) (by rw [ringSegs_len]; omega)
    rw [strip_at (by omega), Nat.mod_eq_of_lt (by omega)] at e1
    rw [fanTo_succ p R (by omega), ih, e1]
    have e2 := strip_alg (atR p R 0) (atR p R (k + 1)) (atR p R (k + 2))
    unfold fanZ
    rw [show k + 2 - 1 = k + 1 by omega]
    rw [show k + 1 + 1 = k + 2 by omega]
    omega
theorem fan_area (p : List Pt) (R : List Int) : fanTo p R R.length = areaZ p R := by
  have hA : areaZ p R = stripTo p (ringSegs R) (ringSegs R).length := by unfold stripTo areaZ; rw [List.take_length]
  rw [hA, ringSegs_len]
  match hn : R.length with
  | 0 => rfl
  | 1 =>
    rw [stripTo_succ p (l := ringSegs R) (k := 0) (by rw [ringSegs_len]; omega), strip_at (by omega), stripTo_zero, hn]
    simp [fanTo]
  | k + 2 =>
    have e := fan_strip p R (k + 1) (by omega) (by omega)
    have e1 := stripTo_succ p (l := ringSegs R) (k := k + 1) (by rw [ringSegs_len]; omega)
    rw [strip_at (by omega), hn, Nat.mod_self] at e1
    rw [e, ← e1]
theorem fan_over (p : List Pt) (R : List Int) {k : Nat} (h : R.length ≤ k) (hk : k ≤ 2) : fanTo p R k = areaZ p R := by
  rw [← fan_area]
  have e : ∀ m, m ≤ 2 → fanTo p R m = 0 := by
    intro m hm
    match m, hm with
    | 0, _ => rfl
    | 1, _ => rfl
    | 2, _ => rfl
  rw [e k hk, e _ (by omega)]
theorem cross_bd {a b c : Pt} (ha : fitB a = true) (hb : fitB b = true) (hc : fitB c = true) : -147573952589676412928 ≤ crossZ a b c ∧ crossZ a b c ≤ 147573952589676412928 := by
  have h1 := fit_bd ha
  have h2 := fit_bd hb
  have h3 := fit_bd hc
  have m1 := mul_bd (x := b.x - a.x) (y := c.y - a.y) (by omega) (by omega)
  have m2 := mul_bd (x := b.y - a.y) (y := c.x - a.x) (by omega) (by omega)
  unfold crossZ
  omega
theorem atR_fit {p : List Pt} {R : List Int} (h : okR p R) {i : Nat} (hi : i < R.length) : fitB (atR p R i) = true := by
  unfold atR
  simp only [List.getD_eq_getElem?_getD, List.getElem?_eq_getElem hi, Option.getD_some]
  exact (h.2 _ (List.getElem_mem hi)).2.2
theorem fanTo_bd {p : List Pt} {R : List Int} (h : okR p R) : ∀ k, k ≤ R.length → -((k : Int) * 147573952589676412928) ≤ fanTo p R k ∧ fanTo p R k ≤ (k : Int) * 147573952589676412928
  | 0, _ => ⟨Int.le_refl _, Int.le_refl _⟩
  | k + 1, hk => by
    have ih := fanTo_bd h k (by omega)
    by_cases h2 : k < 2
    · rw [fanTo, if_pos h2]
      omega
    · rw [fanTo_succ p R (by omega)]
      have := cross_bd (atR_fit h (i := 0) (by omega)) (atR_fit h (i := k - 1) (by omega)) (atR_fit h (i := k) (by omega))
      unfold fanZ
      omega
theorem big_of {z : Int} (h : -1475739525896764129280000000 ≤ z ∧ z ≤ 1475739525896764129280000000) : -BIG < z ∧ z < BIG := by
  have : (1475739525896764129280000000 : Int) < 65536 ^ 100 := by decide
  unfold BIG
  omega
theorem fit_wf {q : Pt} (h : fitB q = true) : q.wf := by
  have := fit_bd h
  unfold Pt.wf
  omega
theorem numIs_zero (W : World) : NumIs (.agg #[.bool false, .slice none 0 0]) 0 W := by
  refine ⟨false, none, 0, 0, fun _ => 0, rfl, ⟨fun _ => ⟨by omega, by omega⟩, fun _ _ => rfl, .inl rfl, .inl rfl⟩, fun _ => rfl, ?_⟩
  simp [sg, dval]
def RFAreaP (p : List Pt) (ring : List Int) (w : World) (e : Ending) (w' : World) : Prop :=
  Below w.heap.size w w' ∧ ∃ x, NumIs x (if okR p ring then areaZ p ring else 0) w' ∧ e = .returned (.tuple #[x, .int .i64 (if okR p ring then 0 else 2)])
end Go.Proofs.Ytpockemjfbaheaa

/-
  Contract of the document's Area (layer 8).
-/
namespace Go.Proofs.Ytpockemjfbaheaa
open Go.RowKit

set_option maxHeartbeats 1000000 in
set_option maxRecDepth 100000 in
theorem rfFits_l (a : Pt) (w : World) : Calls Try.prog 35 #[.agg #[.int .i64 a.x, .int .i64 a.y]] w (Gives (.bool (fitB a)) w) := by
  go_enter Try.func35, Try.ntmps35
  go_upto_region 1 with (fail)
  refine wp_abs (fun W => Var W w.heap.size [.int .i64 a.x, .int .i64 a.y] ∧ Grew w 1 W) ?_ ?_
  · exact ⟨var2_new _ _ _ _ _ rfl, by repeat (first | (with_reducible exact Below.refl _ _) | (with_reducible refine bl_alloc ?_ _) | (with_reducible refine Below.drew ?_) | (with_reducible refine below_drewN' ?_ _) | ((with_reducible refine bl_set ?_ ?_ _); (rotate_left; (dsimp only; omega)))), by simp⟩
  rintro W0 ⟨v1, hG⟩
  have HG := Lib.hid hG
  obtain ⟨c0, c1⟩ := v1.two
  clear v1 hG
  rcases Int.lt_or_le a.x (-4294967296) with h1 | h1
  · have b1 : decide (-4294967296 ≤ a.x) = false := by simp; omega
    have HF : Hid (fitB a = false) := fitB_no (by unfold Pt.fits; omega)
    clear h1
    go_wp2
    go_ret
    exact ⟨by rw [HF.out]; rfl, HG.out.hb⟩
  have b1 : decide (-4294967296 ≤ a.x) = true := by simp; omega
  rcases Int.lt_or_le 4294967296 a.x with h2 | h2
  · have b2 : decide (a.x ≤ 4294967296) = false := by simp; omega
    have HF : Hid (fitB a = false) := fitB_no (by unfold Pt.fits; omega)
    clear h1 h2
    go_wp2
    go_ret
    exact ⟨by rw [HF.out]; rfl, HG.out.hb⟩
  have b2 : decide (a.x ≤ 4294967296) = true := by simp; omega
  rcases Int.lt_or_le a.y (-4294967296) with h3 | h3
  · have b3 : decide (-4294967296 ≤ a.y) = false := by simp; omega
    have HF : Hid (fitB a = false) := fitB_no (by unfold Pt.fits; omega)
    clear h1 h2 h3
    go_wp2
    go_ret
    exact ⟨by rw [HF.out]; rfl, HG.out.hb⟩
  have b3 : decide (-4294967296 ≤ a.y) = true := by simp; omega
  rcases Int.lt_or_le 4294967296 a.y with h4 | h4
  · have b4 : decide (a.y ≤ 4294967296) = false := by simp; omega
    have HF : Hid (fitB a = false) := fitB_no (by unfold Pt.fits; omega)
    clear h1 h2 h3 h4
    go_wp2
    go_ret
    exact ⟨by rw [HF.out]; rfl, HG.out.hb⟩
  have b4 : decide (a.y ≤ 4294967296) = true := by simp; omega
  have HF : Hid (fitB a = true) := fitB_yes (by unfold Pt.fits; omega)
  clear h1 h2 h3 h4
  go_wp2
  go_ret
  exact ⟨by rw [HF.out]; rfl, HG.out.hb⟩
theorem rfFits1 (a : Pt) (r : Bool) (h : fitB a = r) (w : World) : Calls Try.prog 35 #[.agg #[.int .i64 a.x, .int .i64 a.y]] w (Gives (.bool r) w) := by
  subst h; exact rfFits_l a w
set_option maxHeartbeats 8000000 in
set_option maxRecDepth 100000 in
theorem refArea_l (p : List Pt) (ring : List Int) (ap ar : Option Addr) (cp cr : Nat) (w : World) (hP : PtRow w ap p) (hR : IntRow w ar ring) (hlen : ring.length ≤ 10000) (hpl : p.length ≤ 10000) :
    Calls Try.prog 18 #[.slice ap p.length cp, .slice ar ring.length cr] w (RFAreaP p ring w) := by
  have HP := Lib.hid hP
  have HR := Lib.hid hR
  clear hP hR
  go_enter Try.func18, Try.ntmps18
  have b0 : ((1048576 : Int) < (ring.length : Int)) = False := eq_false (by omega)
  go_upto_region 1 with (fail)
  have HV4 := Lib.hid (var2_new w (.bool false) (.slice none 0 0) 48 w.heap.size rfl)
  have HB1 := Lib.hid (bl_one w (.cells #[.bool false, .slice none 0 0] 48))
  have hs1 : (w.alloc (.cells #[.bool false, .slice none 0 0] 48)).heap.size = w.heap.size + 1 := by simp
  generalize w.alloc (.cells #[.bool false, .slice none 0 0] 48) = W1 at *
  obtain ⟨g4, hg4⟩ : ∃ g, w.heap.size = g := ⟨_, rfl⟩
  rw [hg4] at HV4 hs1 ⊢
  have HG4 := Lib.hid hg4
  clear hg4
  go_wp2_with fail
  go_loopw [6] (fun iv W => ∃ k : Nat, k ≤ ring.length ∧ iv = .int .i64 k ∧ (∀ i ∈ ring.take k, 0 ≤ i ∧ i < (p.length : Int) ∧ fitB (pget p i.toNat) = true) ∧ Below W1.heap.size W1 W) (fun iv _ => ring.length - (intOf iv).toNat)
  case atStart => exact ⟨0, Nat.zero_le _, rfl, fun i hi => by simp at hi, Below.refl _ _⟩
  case round =>
    obtain ⟨k, hk, rfl, hA, hB⟩ := hrel
    have HA := Lib.hid hA
    have HB := Lib.hid hB
    clear hA hB
    by_cases hlt : k < ring.length
    · have b2 : ((k : Int) < (ring.length : Int)) = True := eq_true (by omega)
      have d2 : (k < ring.length) = True := eq_true hlt
      have c2 : ((0 : Int) ≤ (k : Int)) = True := eq_true (by omega)
      obtain ⟨gr, or, rfl⟩ := HR.out.some (by omega)
      have HBw := Lib.hid (bl_trans HB1.out HB.out)
      obtain ⟨x, hx⟩ : ∃ x, ring[k] = x := ⟨_, rfl⟩
      have k0 := intRow_at (HR.out.below HBw.out) hlt hx
      have HX := Lib.hid hx
      have hmem : x ∈ ring := by rw [← hx]; exact List.getElem_mem _
      obtain ⟨m1, m2, m3, m4⟩ := wnum (i := k) (by omega)
      have HV := Lib.hid (HV4.out.below HB.out)
      clear hx
      by_cases h0 : x < 0
      · have e0 : (x < 0) = True := eq_true h0
        have hNo : Hid (¬ okR p ring) := fun h => by have := (h.2 x hmem).1; omega
        obtain ⟨r0, r1⟩ := HV.out.two
        obtain ⟨f0, f1⟩ := HV.out.free2
        clear h0 hmem
        go_wp2_with fail
        refine bodyPost_ret (v := .tuple #[.agg #[.bool false, .slice none 0 0], .int .i64 2]) (by simp [results, Try.results18, go_sem, r0, r1]; done) rfl ⟨?_, .agg #[.bool false, .slice none 0 0], ?_, ?_⟩
        · have hg := HG4.out
          refine bl_set (bl_set HBw.out ?_ _) ?_ _ <;> (dsimp only; omega)
        · rw [if_neg hNo.out]; exact numIs_zero _
        · rw [if_neg hNo.out]
      · have e0 : (x < 0) = False := eq_false h0
        obtain ⟨a, rfl⟩ := Int.eq_ofNat_of_zero_le (by omega : 0 ≤ x)
        by_cases h1 : (p.length : Int) ≤ (a : Int)
        · have e1 : ((p.length : Int) ≤ (a : Int)) = True := eq_true h1
          have e1' : (p.length ≤ a) = True := eq_true (by omega)
          have hNo : Hid (¬ okR p ring) := fun h => by have := (h.2 _ hmem).2.1; omega
          obtain ⟨r0, r1⟩ := HV.out.two
          obtain ⟨f0, f1⟩ := HV.out.free2
          clear h0 h1 hmem
          go_wp2_with fail
          refine bodyPost_ret (v := .tuple #[.agg #[.bool false, .slice none 0 0], .int .i64 2]) (by simp [results, Try.results18, go_sem, r0, r1]; done) rfl ⟨?_, .agg #[.bool false, .slice none 0 0], ?_, ?_⟩
          · have hg := HG4.out
            refine bl_set (bl_set HBw.out ?_ _) ?_ _ <;> (dsimp only; omega)
          · rw [if_neg hNo.out]; exact numIs_zero _
          · rw [if_neg hNo.out]
        · have e1 : ((p.length : Int) ≤ (a : Int)) = False := eq_false h1
          have e1' : (p.length ≤ a) = False := eq_false (by omega)
          have hap : a < p.length := by omega
          have e2 : ((a : Int) < (p.length : Int)) = True := eq_true (by omega)
          have e3 : (a < p.length) = True := eq_true hap
          have e4 : ((0 : Int) ≤ (a : Int)) = True := eq_true (by omega)
          obtain ⟨gp, op, rfl⟩ := HP.out.some (by omega)
          obtain ⟨q, hq⟩ : ∃ q, pget p a = q := ⟨_, rfl⟩
          obtain ⟨k5, k6⟩ := ptRow_at (HP.out.below HBw.out) hap hq
          have HQ := Lib.hid hq
          obtain ⟨r, hr⟩ : ∃ r, fitB q = r := ⟨_, rfl⟩
          have HF := Lib.hid (fun W => rfFits1 q r hr W)
          have HFR := Lib.hid hr
          clear hq hr h0 h1
          go_wp2_with fail
          (with_reducible refine (HF.out _).mono ?_); rintro e w2 ⟨rfl, hb2⟩
          have HBz := Lib.hid (bl_trans HB.out hb2)
          clear hb2 HF k0 k5 k6 HBw HB HV
          have HBw := Lib.hid (bl_trans HB1.out HBz.out)
          cases r
          · have hNo : Hid (¬ okR p ring) := fun h => by
              have := (h.2 _ hmem).2.2
              rw [Int.toNat_natCast, HQ.out, HFR.out] at this
              cases this
            have HV := Lib.hid (HV4.out.below HBz.out)
            obtain ⟨r0, r1⟩ := HV.out.two
            obtain ⟨f0, f1⟩ := HV.out.free2
            clear hmem
            go_wp2_with fail
            refine bodyPost_ret (v := .tuple #[.agg #[.bool false, .slice none 0 0], .int .i64 2]) (by simp [results, Try.results18, go_sem, r0, r1]; done) rfl ⟨?_, .agg #[.bool false, .slice none 0 0], ?_, ?_⟩
            · have hg := HG4.out
              refine bl_set (bl_set HBw.out ?_ _) ?_ _ <;> (dsimp only; omega)
            · rw [if_neg hNo.out]; exact numIs_zero _
            · rw [if_neg hNo.out]
          · go_wp2_with fail
            clear m1 m2 m3 m4
            refine ⟨⟨k + 1, hlt, by rw [Int.natCast_add]; rfl, fun i hi => ?_, HBz.out⟩, by simp [intOf]; omega⟩
            rw [List.take_succ_eq_append_getElem hlt, HX.out] at hi
            rcases List.mem_append.1 hi with h | h
            · exact HA.out i h
            · simp at h
              subst h
              exact ⟨by omega, by omega, by rw [Int.toNat_natCast, HQ.out]; exact HFR.out⟩
    · obtain rfl : k = ring.length := by omega
      have b2 : ((ring.length : Int) < (ring.length : Int)) = False := eq_false (by omega)
      have HOK : Hid (okR p ring) := ⟨by omega, by have := HA.out; rwa [List.take_length] at this⟩
      clear HA
      go_upto_region 9 with (fail)
      have HV7 := Lib.hid (var2_new wr (.bool false) (.slice none 0 0) 48 wr.heap.size rfl)
      have HB7 := Lib.hid (bl_trans HB.out (bl_one wr (.cells #[.bool false, .slice none 0 0] 48)))
      have hg7 : W1.heap.size ≤ wr.heap.size := HB.out.size
      clear HB
      generalize wr.alloc (.cells #[.bool false, .slice none 0 0] 48) = W3 at *
      obtain ⟨g7, hg⟩ : ∃ g, wr.heap.size = g := ⟨_, rfl⟩
      rw [hg] at HV7 hg7 ⊢
      clear hg
      go_wp2_with fail
      go_loopw [8] (fun jv W => ∃ (j : Nat) (m : Bool) (ad : Option Addr) (n c : Nat), 2 ≤ j ∧ (j ≤ ring.length ∨ j = 2) ∧ jv = .int .i64 j ∧ Var W g7 [.bool m, .slice ad n c] ∧ NumIs (.agg #[.bool m, .slice ad n c]) (fanTo p ring j) W ∧ Below W1.heap.size W1 W) (fun jv _ => ring.length - (intOf jv).toNat)
      case atStart => exact ⟨2, false, none, 0, 0, Nat.le_refl _, .inr rfl, rfl, HV7.out, by rw [fanTo_two]; exact numIs_zero _, HB7.out⟩
      case round =>
        obtain ⟨j, m, ad, n, c, hj2, hj, rfl, hV7, hN, hB7⟩ := hrel
        clear HV7 HB7
        have HV7 := Lib.hid hV7
        have HN := Lib.hid hN
        have HB7 := Lib.hid hB7
        clear hV7 hN hB7
        by_cases hlt : j < ring.length
        · have b3 : ((j : Int) < (ring.length : Int)) = True := eq_true (by omega)
          have h0 : 0 < ring.length := by omega
          obtain ⟨t, htj⟩ : ∃ t, j = t + 1 := ⟨j - 1, by omega⟩
          have ht : t < ring.length := by omega
          have HSUB : Hid (wrap64 ((j : Int) - 1) = (t : Int) ∧ IntKind.i64.wrap ((j : Int) - 1) = (t : Int)) := by
            have e : (j : Int) - 1 = (t : Int) := by omega
            rw [e]
            exact ⟨(wnum (i := t) (by omega)).1, (wnum (i := t) (by omega)).2.1⟩
          have HBw := Lib.hid (bl_trans HB1.out HB7.out)
          have HFS : Hid (fanTo p ring (j + 1) = fanTo p ring j + crossZ (atR p ring 0) (atR p ring t) (atR p ring j)) := by
            have := fanTo_succ p ring hj2
            unfold fanZ at this
            rw [show j - 1 = t by omega] at this
            exact this
          have hf0 := atR_fit HOK.out h0
          have hf1 := atR_fit HOK.out ht
          have hf2 := atR_fit HOK.out hlt
          have HAR := Lib.hid (fun W => area_n (atR p ring 0) (atR p ring t) (atR p ring j) (fit_wf hf0) (fit_wf hf1) (fit_wf hf2) W)
          have HZ0 : Hid (-BIG < fanTo p ring j ∧ fanTo p ring j < BIG) := big_of (by have := fanTo_bd HOK.out j (by omega); omega)
          have HZ1 : Hid (-BIG < crossZ (atR p ring 0) (atR p ring t) (atR p ring j) ∧ crossZ (atR p ring 0) (atR p ring t) (atR p ring j) < BIG) := big_of (by have := cross_bd hf0 hf1 hf2; omega)
          have key : ∀ i (h : i < ring.length), ∃ (a : Nat) (q : Pt), ring[i] = (a : Int) ∧ a < p.length ∧ pget p a = q ∧ atR p ring i = q := fun i h => by
            have h1 := HOK.out.2 _ (List.getElem_mem h)
            obtain ⟨a, ha⟩ := Int.eq_ofNat_of_zero_le h1.1
            refine ⟨a, _, ha, by omega, rfl, ?_⟩
            unfold atR
            simp only [List.getD_eq_getElem?_getD, List.getElem?_eq_getElem h, Option.getD_some]
            rw [ha, Int.toNat_natCast]
          obtain ⟨a0, q0, hx0, hp0, hq0, hr0⟩ := key 0 h0
          obtain ⟨a1, q1, hx1, hp1, hq1, hr1⟩ := key t ht
          obtain ⟨a2, q2, hx2, hp2, hq2, hr2⟩ := key j hlt
          rw [hr0, hr1, hr2] at HAR HFS HZ1
          have HX0 := Lib.hid hx0
          have HX1 := Lib.hid hx1
          have HX2 := Lib.hid hx2
          have HQ0 := Lib.hid hq0
          have HQ1 := Lib.hid hq1
          have HQ2 := Lib.hid hq2
          obtain ⟨gr, or, rfl⟩ := HR.out.some h0
          obtain ⟨gp, op, rfl⟩ := HP.out.some (by omega)
          clear htj hf0 hf1 hf2 key hx0 hx1 hx2 hq0 hq1 hq2 hr0 hr1 hr2 hj
          go_upto_region 12 with (fail)
          clear b3
          refine wp_region_held_drew (S := fun V => Below W1.heap.size W1 V) (by kernel_rfl) ?_ (fun hHeld => ?_)
          · exact bl_trans HB7.out (bel_drew _)
          replace HV7 := Lib.hid (HV7.out.below (bel_drew _))
          replace HN := Lib.hid (HN.out.below (bel_drew _))
          clear HB7
          revert HV7 HN hHeld
          generalize World.drew _ = W9
          intro hHeld HV7 HN
          refine wpAnyH_take (i := 1) (v := ?_) rfl (by kernel_rfl) (by kernel_rfl) (by kernel_rfl) (fun _ _ _ h => h) (Or.inl ⟨by rfl, ?_⟩) (by assumption) ?_
          rotate_left
          · intro Wq hSw
            clear hSw
            go_simp
            all_goals (with_reducible rfl)
          try simp only [Act.put, List.getElem_toArray, List.getElem_cons_succ, List.getElem_cons_zero, List.setIfInBounds_toArray, List.set_cons_zero, List.set_cons_succ]
          refine wpAnyH_take (i := 2) (v := ?_) rfl (by kernel_rfl) (by kernel_rfl) (by kernel_rfl) (fun _ _ _ h => h) (Or.inl ⟨by rfl, ?_⟩) (by assumption) ?_
          rotate_left
          · intro Wq hSw
            clear hSw
            go_simp
            all_goals (with_reducible rfl)
          try simp only [Act.put, List.getElem_toArray, List.getElem_cons_succ, List.getElem_cons_zero, List.setIfInBounds_toArray, List.set_cons_zero, List.set_cons_succ]
          refine wpAnyH_take (i := 3) (v := ?_) rfl (by kernel_rfl) (by kernel_rfl) (by kernel_rfl) (fun _ _ _ h => h) (Or.inl ⟨by rfl, ?_⟩) (by assumption) ?_
          rotate_left
          · intro Wq hSw
            have b1 : ((0 : Int) < (ring.length : Int)) = True := eq_true (by omega)
            have d1 : (0 < ring.length) = True := eq_true (by omega)
            clear hSw
            go_simp
            all_goals (with_reducible rfl)
          try simp only [Act.put, List.getElem_toArray, List.getElem_cons_succ, List.getElem_cons_zero, List.setIfInBounds_toArray, List.set_cons_zero, List.set_cons_succ]
          refine wpAnyH_take (i := 4) (v := ?_) rfl (by kernel_rfl) (by kernel_rfl) (by kernel_rfl) (fun _ _ _ h => h) (Or.inl ⟨by rfl, ?_⟩) (by assumption) ?_
          rotate_left
          · intro Wq hSw
            have k0 := intRow_at (HR.out.below (bl_trans HB1.out hSw)) h0 HX0.out
            simp only [Nat.add_zero] at k0
            clear hSw
            go_simp
            all_goals (with_reducible rfl)
          try simp only [Act.put, List.getElem_toArray, List.getElem_cons_succ, List.getElem_cons_zero, List.setIfInBounds_toArray, List.set_cons_zero, List.set_cons_succ]
          refine wpAnyH_take (i := 5) (v := ?_) rfl (by kernel_rfl) (by kernel_rfl) (by kernel_rfl) (fun _ _ _ h => h) (Or.inl ⟨by rfl, ?_⟩) (by assumption) ?_
          rotate_left
          · intro Wq hSw
            have b1 : ((a0 : Int) < (p.length : Int)) = True := eq_true (by omega)
            have d1 : (a0 < p.length) = True := eq_true (by omega)
            have c1 : ((0 : Int) ≤ (a0 : Int)) = True := eq_true (by omega)
            clear hSw
            go_simp
            all_goals (with_reducible rfl)
          try simp only [Act.put, List.getElem_toArray, List.getElem_cons_succ, List.getElem_cons_zero, List.setIfInBounds_toArray, List.set_cons_zero, List.set_cons_succ]
          refine wpAnyH_take (i := 6) (v := ?_) rfl (by kernel_rfl) (by kernel_rfl) (by kernel_rfl) (fun _ _ _ h => h) (Or.inl ⟨by rfl, ?_⟩) (by assumption) ?_
          rotate_left
          · intro Wq hSw
            obtain ⟨k0, k1⟩ := ptRow_at (HP.out.below (bl_trans HB1.out hSw)) hp0 HQ0.out
            clear hSw
            go_simp
            all_goals (with_reducible rfl)
          try simp only [Act.put, List.getElem_toArray, List.getElem_cons_succ, List.getElem_cons_zero, List.setIfInBounds_toArray, List.set_cons_zero, List.set_cons_succ]
          refine wpAnyH_take (i := 7) (v := ?_) rfl (by kernel_rfl) (by kernel_rfl) (by kernel_rfl) (fun _ _ _ h => h) (Or.inl ⟨by rfl, ?_⟩) (by assumption) ?_
          rotate_left
          · intro Wq hSw
            clear hSw
            go_simp
            all_goals (with_reducible rfl)
          try simp only [Act.put, List.getElem_toArray, List.getElem_cons_succ, List.getElem_cons_zero, List.setIfInBounds_toArray, List.set_cons_zero, List.set_cons_succ]
          refine wpAnyH_take (i := 8) (v := ?_) rfl (by kernel_rfl) (by kernel_rfl) (by kernel_rfl) (fun _ _ _ h => h) (Or.inl ⟨by rfl, ?_⟩) (by assumption) ?_
          rotate_left
          · intro Wq hSw
            clear hSw
            go_simp
            all_goals (with_reducible rfl)
          try simp only [Act.put, List.getElem_toArray, List.getElem_cons_succ, List.getElem_cons_zero, List.setIfInBounds_toArray, List.set_cons_zero, List.set_cons_succ]
          refine wpAnyH_take (i := 9) (v := ?_) rfl (by kernel_rfl) (by kernel_rfl) (by kernel_rfl) (fun _ _ _ h => h) (Or.inl ⟨by rfl, ?_⟩) (by assumption) ?_
          rotate_left
          · intro Wq hSw
            clear hSw
            go_simp
            all_goals (with_reducible rfl)
          try simp only [Act.put, List.getElem_toArray, List.getElem_cons_succ, List.getElem_cons_zero, List.setIfInBounds_toArray, List.set_cons_zero, List.set_cons_succ]
          refine wpAnyH_take (i := 10) (v := ?_) rfl (by kernel_rfl) (by kernel_rfl) (by kernel_rfl) (fun _ _ _ h => h) (Or.inl ⟨by rfl, ?_⟩) (by assumption) ?_
          rotate_left
          · intro Wq hSw
            obtain ⟨m1, m2⟩ := HSUB.out
            clear hSw
            go_simp
            all_goals (with_reducible rfl)
          try simp only [Act.put, List.getElem_toArray, List.getElem_cons_succ, List.getElem_cons_zero, List.setIfInBounds_toArray, List.set_cons_zero, List.set_cons_succ]
          refine wpAnyH_take (i := 11) (v := ?_) rfl (by kernel_rfl) (by kernel_rfl) (by kernel_rfl) (fun _ _ _ h => h) (Or.inl ⟨by rfl, ?_⟩) (by assumption) ?_
          rotate_left
          · intro Wq hSw
            have b1 : ((t : Int) < (ring.length : Int)) = True := eq_true (by omega)
            have d1 : (t < ring.length) = True := eq_true (by omega)
            have c1 : ((0 : Int) ≤ (t : Int)) = True := eq_true (by omega)
            clear hSw
            go_simp
            all_goals (with_reducible rfl)
          try simp only [Act.put, List.getElem_toArray, List.getElem_cons_succ, List.getElem_cons_zero, List.setIfInBounds_toArray, List.set_cons_zero, List.set_cons_succ]
          refine wpAnyH_take (i := 12) (v := ?_) rfl (by kernel_rfl) (by kernel_rfl) (by kernel_rfl) (fun _ _ _ h => h) (Or.inl ⟨by rfl, ?_⟩) (by assumption) ?_
          rotate_left
          · intro Wq hSw
            have k0 := intRow_at (HR.out.below (bl_trans HB1.out hSw)) ht HX1.out
            clear hSw
            go_simp
            all_goals (with_reducible rfl)
          try simp only [Act.put, List.getElem_toArray, List.getElem_cons_succ, List.getElem_cons_zero, List.setIfInBounds_toArray, List.set_cons_zero, List.set_cons_succ]
          refine wpAnyH_take (i := 13) (v := ?_) rfl (by kernel_rfl) (by kernel_rfl) (by kernel_rfl) (fun _ _ _ h => h) (Or.inl ⟨by rfl, ?_⟩) (by assumption) ?_
          rotate_left
          · intro Wq hSw
            have b1 : ((a1 : Int) < (p.length : Int)) = True := eq_true (by omega)
            have d1 : (a1 < p.length) = True := eq_true (by omega)
            have c1 : ((0 : Int) ≤ (a1 : Int)) = True := eq_true (by omega)
            clear hSw
            go_simp
            all_goals (with_reducible rfl)
          try simp only [Act.put, List.getElem_toArray, List.getElem_cons_succ, List.getElem_cons_zero, List.setIfInBounds_toArray, List.set_cons_zero, List.set_cons_succ]
          refine wpAnyH_take (i := 14) (v := ?_) rfl (by kernel_rfl) (by kernel_rfl) (by kernel_rfl) (fun _ _ _ h => h) (Or.inl ⟨by rfl, ?_⟩) (by assumption) ?_
          rotate_left
          · intro Wq hSw
            obtain ⟨k0, k1⟩ := ptRow_at (HP.out.below (bl_trans HB1.out hSw)) hp1 HQ1.out
            clear hSw
            go_simp
            all_goals (with_reducible rfl)
          try simp only [Act.put, List.getElem_toArray, List.getElem_cons_succ, List.getElem_cons_zero, List.setIfInBounds_toArray, List.set_cons_zero, List.set_cons_succ]
          refine wpAnyH_take (i := 15) (v := ?_) rfl (by kernel_rfl) (by kernel_rfl) (by kernel_rfl) (fun _ _ _ h => h) (Or.inl ⟨by rfl, ?_⟩) (by assumption) ?_
          rotate_left
          · intro Wq hSw
            clear hSw
            go_simp
            all_goals (with_reducible rfl)
          try simp only [Act.put, List.getElem_toArray, List.getElem_cons_succ, List.getElem_cons_zero, List.setIfInBounds_toArray, List.set_cons_zero, List.set_cons_succ]
          refine wpAnyH_take (i := 16) (v := ?_) rfl (by kernel_rfl) (by kernel_rfl) (by kernel_rfl) (fun _ _ _ h => h) (Or.inl ⟨by rfl, ?_⟩) (by assumption) ?_
          rotate_left
          · intro Wq hSw
            clear hSw
            go_simp
            all_goals (with_reducible rfl)
          try simp only [Act.put, List.getElem_toArray, List.getElem_cons_succ, List.getElem_cons_zero, List.setIfInBounds_toArray, List.set_cons_zero, List.set_cons_succ]
          refine wpAnyH_take (i := 17) (v := ?_) rfl (by kernel_rfl) (by kernel_rfl) (by kernel_rfl) (fun _ _ _ h => h) (Or.inl ⟨by rfl, ?_⟩) (by assumption) ?_
          rotate_left
          · intro Wq hSw
            clear hSw
            go_simp
            all_goals (with_reducible rfl)
          try simp only [Act.put, List.getElem_toArray, List.getElem_cons_succ, List.getElem_cons_zero, List.setIfInBounds_toArray, List.set_cons_zero, List.set_cons_succ]
          refine wpAnyH_take (i := 18) (v := ?_) rfl (by kernel_rfl) (by kernel_rfl) (by kernel_rfl) (fun _ _ _ h => h) (Or.inl ⟨by rfl, ?_⟩) (by assumption) ?_
          rotate_left
          · intro Wq hSw
            have b1 : ((j : Int) < (ring.length : Int)) = True := eq_true (by omega)
            have d1 : (j < ring.length) = True := eq_true (by omega)
            have c1 : ((0 : Int) ≤ (j : Int)) = True := eq_true (by omega)
            clear hSw
            go_simp
            all_goals (with_reducible rfl)
          try simp only [Act.put, List.getElem_toArray, List.getElem_cons_succ, List.getElem_cons_zero, List.setIfInBounds_toArray, List.set_cons_zero, List.set_cons_succ]
          refine wpAnyH_take (i := 19) (v := ?_) rfl (by kernel_rfl) (by kernel_rfl) (by kernel_rfl) (fun _ _ _ h => h) (Or.inl ⟨by rfl, ?_⟩) (by assumption) ?_
          rotate_left
          · intro Wq hSw
            have k0 := intRow_at (HR.out.below (bl_trans HB1.out hSw)) hlt HX2.out
            clear hSw
            go_simp
            all_goals (with_reducible rfl)
          try simp only [Act.put, List.getElem_toArray, List.getElem_cons_succ, List.getElem_cons_zero, List.setIfInBounds_toArray, List.set_cons_zero, List.set_cons_succ]
          refine wpAnyH_take (i := 20) (v := ?_) rfl (by kernel_rfl) (by kernel_rfl) (by kernel_rfl) (fun _ _ _ h => h) (Or.inl ⟨by rfl, ?_⟩) (by assumption) ?_
          rotate_left
          · intro Wq hSw
            have b1 : ((a2 : Int) < (p.length : Int)) = True := eq_true (by omega)
            have d1 : (a2 < p.length) = True := eq_true (by omega)
            have c1 : ((0 : Int) ≤ (a2 : Int)) = True := eq_true (by omega)
            clear hSw
            go_simp
            all_goals (with_reducible rfl)
          try simp only [Act.put, List.getElem_toArray, List.getElem_cons_succ, List.getElem_cons_zero, List.setIfInBounds_toArray, List.set_cons_zero, List.set_cons_succ]
          refine wpAnyH_take (i := 21) (v := ?_) rfl (by kernel_rfl) (by kernel_rfl) (by kernel_rfl) (fun _ _ _ h => h) (Or.inl ⟨by rfl, ?_⟩) (by assumption) ?_
          rotate_left
          · intro Wq hSw
            obtain ⟨k0, k1⟩ := ptRow_at (HP.out.below (bl_trans HB1.out hSw)) hp2 HQ2.out
            clear hSw
            go_simp
            all_goals (with_reducible rfl)
          try simp only [Act.put, List.getElem_toArray, List.getElem_cons_succ, List.getElem_cons_zero, List.setIfInBounds_toArray, List.set_cons_zero, List.set_cons_succ]
          refine r2 (i := 0) (j := 22) rfl (fun K hK => ?_) rfl (fun K hK => ?_)
          · obtain ⟨k0, k1⟩ := HV7.out.two
            go_simp
            refine hK.out _ _ hHeld (fun hHeld2 => ?_)
            clear hK K hHeld k0 k1
            have hHeld := hHeld2
            clear hHeld2
            try simp only [Act.put, List.getElem_toArray, List.getElem_cons_succ, List.getElem_cons_zero, List.setIfInBounds_toArray, List.set_cons_zero, List.set_cons_succ]
            refine r1 (i := 22) rfl (fun K hK => ?_)
            go_simp
            (with_reducible refine (HAR.out _).mono ?_); rintro e w1 ⟨v1, rfl, hN1, hb1⟩
            obtain ⟨m1, ad1, n1, c1, rfl⟩ := hN1.shape
            have HN1 := Lib.hid hN1
            clear hN1
            go_wp2_with fail
            refine hK.out _ _ (bl_trans hHeld hb1) (fun hHeld2 => ?_)
            replace HV7 := Lib.hid (HV7.out.below hb1)
            replace HN := Lib.hid (HN.out.below hb1)
            clear hK K hHeld hb1
            have hHeld := hHeld2
            clear hHeld2
            try simp only [Act.put, List.getElem_toArray, List.getElem_cons_succ, List.getElem_cons_zero, List.setIfInBounds_toArray, List.set_cons_zero, List.set_cons_succ]
            refine r1 (i := 23) rfl (fun K hK => ?_)
            go_simp
            (with_reducible refine (plus_c _ _ _ _ _ HN.out HN1.out HZ0.out HZ1.out).mono ?_); rintro e w1 ⟨v2, rfl, hN2, hb1⟩
            obtain ⟨m2, ad2, n2, c2, rfl⟩ := hN2.shape
            have HN2 := Lib.hid hN2
            clear hN2
            go_wp2_with fail
            refine hK.out _ _ (bl_trans hHeld hb1) (fun hHeld2 => ?_)
            replace HV7 := Lib.hid (HV7.out.below hb1)
            clear hK K hHeld hb1
            have hHeld := hHeld2
            clear hHeld2
            try simp only [Act.put, List.getElem_toArray, List.getElem_cons_succ, List.getElem_cons_zero, List.setIfInBounds_toArray, List.set_cons_zero, List.set_cons_succ]
            refine r1 (i := 24) rfl (fun K hK => ?_)
            obtain ⟨k0, k1⟩ := HV7.out.two
            obtain ⟨f0, f1⟩ := HV7.out.free2
            go_simp
            refine hK.out _ _ (bl_set (bl_set hHeld hg7 _) hg7 _) (fun hHeld2 => ?_)
            replace HN2 := Lib.hid (HN2.out.res HV7.out m2 (.slice ad2 n2 c2))
            replace HV7 := Lib.hid (HV7.out.set2 (.bool m2) (.slice ad2 n2 c2))
            clear hK K hHeld k0 k1 f0 f1
            have hHeld := hHeld2
            clear hHeld2
            try simp only [Act.put, List.getElem_toArray, List.getElem_cons_succ, List.getElem_cons_zero, List.setIfInBounds_toArray, List.set_cons_zero, List.set_cons_succ]
            refine wpAnyH_done (by kernel_rfl) ?_ _
            obtain ⟨m1', m2', m3', m4'⟩ := wnum (i := j) (by omega)
            go_wp2_with fail
            clear m1' m2' m3' m4'
            exact ⟨⟨j + 1, m2, ad2, n2, c2, by omega, .inl hlt, by rw [Int.natCast_add]; rfl, HV7.out, by rw [HFS.out]; exact HN2.out, hHeld⟩, by simp [intOf]; omega⟩
          · go_simp
            (with_reducible refine (HAR.out _).mono ?_); rintro e w1 ⟨v1, rfl, hN1, hb1⟩
            obtain ⟨m1, ad1, n1, c1, rfl⟩ := hN1.shape
            have HN1 := Lib.hid hN1
            clear hN1
            go_wp2_with fail
            refine hK.out _ _ (bl_trans hHeld hb1) (fun hHeld2 => ?_)
            replace HV7 := Lib.hid (HV7.out.below hb1)
            replace HN := Lib.hid (HN.out.below hb1)
            clear hK K hHeld hb1
            have hHeld := hHeld2
            clear hHeld2
            try simp only [Act.put, List.getElem_toArray, List.getElem_cons_succ, List.getElem_cons_zero, List.setIfInBounds_toArray, List.set_cons_zero, List.set_cons_succ]
            refine r1 (i := 0) rfl (fun K hK => ?_)
            obtain ⟨k0, k1⟩ := HV7.out.two
            go_simp
            refine hK.out _ _ hHeld (fun hHeld2 => ?_)
            clear hK K hHeld k0 k1
            have hHeld := hHeld2
            clear hHeld2
            try simp only [Act.put, List.getElem_toArray, List.getElem_cons_succ, List.getElem_cons_zero, List.setIfInBounds_toArray, List.set_cons_zero, List.set_cons_succ]
            refine r1 (i := 23) rfl (fun K hK => ?_)
            go_simp
            (with_reducible refine (plus_c _ _ _ _ _ HN.out HN1.out HZ0.out HZ1.out).mono ?_); rintro e w1 ⟨v2, rfl, hN2, hb1⟩
            obtain ⟨m2, ad2, n2, c2, rfl⟩ := hN2.shape
            have HN2 := Lib.hid hN2
            clear hN2
            go_wp2_with fail
            refine hK.out _ _ (bl_trans hHeld hb1) (fun hHeld2 => ?_)
            replace HV7 := Lib.hid (HV7.out.below hb1)
            clear hK K hHeld hb1
            have hHeld := hHeld2
            clear hHeld2
            try simp only [Act.put, List.getElem_toArray, List.getElem_cons_succ, List.getElem_cons_zero, List.setIfInBounds_toArray, List.set_cons_zero, List.set_cons_succ]
            refine r1 (i := 24) rfl (fun K hK => ?_)
            obtain ⟨k0, k1⟩ := HV7.out.two
            obtain ⟨f0, f1⟩ := HV7.out.free2
            go_simp
            refine hK.out _ _ (bl_set (bl_set hHeld hg7 _) hg7 _) (fun hHeld2 => ?_)
            replace HN2 := Lib.hid (HN2.out.res HV7.out m2 (.slice ad2 n2 c2))
            replace HV7 := Lib.hid (HV7.out.set2 (.bool m2) (.slice ad2 n2 c2))
            clear hK K hHeld k0 k1 f0 f1
            have hHeld := hHeld2
            clear hHeld2
            try simp only [Act.put, List.getElem_toArray, List.getElem_cons_succ, List.getElem_cons_zero, List.setIfInBounds_toArray, List.set_cons_zero, List.set_cons_succ]
            refine wpAnyH_done (by kernel_rfl) ?_ _
            obtain ⟨m1', m2', m3', m4'⟩ := wnum (i := j) (by omega)
            go_wp2_with fail
            clear m1' m2' m3' m4'
            exact ⟨⟨j + 1, m2, ad2, n2, c2, by omega, .inl hlt, by rw [Int.natCast_add]; rfl, HV7.out, by rw [HFS.out]; exact HN2.out, hHeld⟩, by simp [intOf]; omega⟩
        · have b3 : ((j : Int) < (ring.length : Int)) = False := eq_false (by omega)
          have e9 : fanTo p ring j = areaZ p ring := by
            rcases hj with h | h
            · rw [show j = ring.length by omega]; exact fan_area p ring
            · exact fan_over p ring (by omega) (by omega)
          have HN' := Lib.hid (by have := HN.out; rw [e9] at this; exact this)
          have HV := Lib.hid (HV4.out.below HB7.out)
          obtain ⟨v0, v1⟩ := HV7.out.two
          obtain ⟨r0, r1⟩ := HV.out.two
          obtain ⟨f0, f1⟩ := HV.out.free2
          have HBw := Lib.hid (bl_trans HB1.out HB7.out)
          clear e9 HN
          go_wp2_with fail
          refine bodyPost_ret (v := .tuple #[.agg #[.bool m, .slice ad n c], .int .i64 0]) (by simp [results, Try.results18, go_sem, r0, r1]; done) rfl ⟨?_, .agg #[.bool m, .slice ad n c], ?_, ?_⟩
          · have hg := HG4.out
            refine bl_set (bl_set HBw.out ?_ _) ?_ _ <;> (dsimp only; omega)
          · rw [if_pos HOK.out]
            exact HN'.out.res HV.out _ _
          · rw [if_pos HOK.out]
end Go.Proofs.Ytpockemjfbaheaa
