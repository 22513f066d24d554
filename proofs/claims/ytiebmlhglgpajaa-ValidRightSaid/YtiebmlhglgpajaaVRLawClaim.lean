/-
  Proved: for every input (a slice of points and two slices of segments) the law ValidRight returns true, and its argument reads as it did. No condition.
-/
import Derived.Test.YtiebmlhglgpajaaVFirsts
import Derived.Test.YtiebmlhglgpajaaVLawK
import Derived.Test.YtiebmlhglgpajaaVMany
import Derived.Test.YtiebmlhglgpajaaVRefCA
import Derived.Test.YtiebmlhglgpajaaOpenPoly
import Derived.Test.YtiebmlhglgpajaaKnown3
/-
  Layer 10: what holds of a right input (ValidRight).
-/
namespace Go.Proofs.Ytiebmlhglgpajaa

theorem right_iff10 {p l i : List Pt} : rightI p l i = true ↔ ChkOk p l i ∧ (flTo p l i 8).k = 0 := by
  unfold rightI
  rw [Bool.and_eq_true, decide_eq_true_eq, checkB_iff]
structure RightOk (p l i : List Pt) : Prop where
  e : loopsE p l i = 0
  ne : (loopsL p l i).length ≠ 0
  n3 : 3 ≤ p.length
  r3 : ∀ R ∈ loopsL p l i, 3 ≤ R.length
  sum : total (loopsL p l i) = l.length
  rng : ∀ k, k < (l ++ i).length → sgInB p.length (pget (l ++ i) k) = true
  ins : ∀ k, k < (l ++ i).length → insideF p l i (pget (l ++ i) k).x (pget (l ++ i) k).y = true
theorem right_ok {p l i : List Pt} (h : rightI p l i = true) : RightOk p l i := by
  obtain ⟨hc, h8⟩ := right_iff10.1 h
  have hz := flTo_zero.1 h8
  have G := good_10 hc (flTo_le h8 (by omega))
  have hr : ringsR (p.length : Int) l = (ringsTo (pr l) p.length p.length, 0, 0) := by
    rcases rings_10 hc (flTo_le h8 (by omega)) with ⟨-, h⟩ | ⟨j, h, -⟩
    · exact h
    · have := hz 4 (by omega)
      rw [h] at this; cases this
  have hL : loopsL p l i = ringsTo (pr l) p.length p.length := by unfold loopsL; rw [if_pos h, hr]
  have hE : loopsE p l i = 0 := by unfold loopsE; rw [if_pos h, hr]
  have U := upto G.net p.length (Nat.le_refl _)
  have hS := back_same G
  have hsum : total (loopsL p l i) = l.length := by
    have := hS.length_eq
    rw [List.length_map, List.length_map, segsF_len] at this
    rw [hL, ← this]
  have hl : l.length ≠ 0 := fun e => by
    have := hz 5 (by omega)
    simp only [chk] at this
    rw [if_pos e] at this; cases this
  have hrow : ∀ R ∈ loopsL p l i, 3 ≤ R.length ∧ 3 ≤ p.length := by
    intro R hR
    rw [hL] at hR
    have hrw := U.rows R hR
    exact ⟨hrw.big, Nat.le_trans hrw.big (nodup_le hrw.nod fun x hx => hrw.inn x hx)⟩
  have hne : (loopsL p l i).length ≠ 0 := fun e => by
    rw [List.length_eq_zero_iff.1 e] at hsum
    exact hl hsum.symm
  have hrng : ∀ k, k < (l ++ i).length → sgInB p.length (pget (l ++ i) k) = true := fun k hk => chk_seg hc hk
  refine ⟨hE, hne, ?_, fun R hR => (hrow R hR).1, hsum, hrng, fun k hk => ?_⟩
  · obtain ⟨R, hR⟩ := List.exists_mem_of_length_pos (Nat.pos_of_ne_zero hne)
    exact (hrow R hR).2
  · obtain ⟨x0, x1, y0, y1⟩ := sgInB_iff.1 (hrng k hk)
    have hxy := shrunk_no (hz 1 (by omega)) hk
    have ht : twoB p (pget (l ++ i) k).x (pget (l ++ i) k).y = true := by
      unfold twoB
      rw [decide_eq_false (by omega), decide_eq_false (by omega), decide_eq_false hxy]; rfl
    have ho : ownB l i (pget (l ++ i) k).x (pget (l ++ i) k).y = true := by
      unfold ownB
      rw [anyN_yes hk (decide_eq_true rfl)]; rfl
    unfold insideF
    rw [h, ht, ho]; rfl
end Go.Proofs.Ytiebmlhglgpajaa

/-
  The law ValidRight.
-/
namespace Go.Proofs.Ytiebmlhglgpajaa
open Go.RowKit

theorem wsum10 {a b s : Nat} (h : a + b = s) (hs : s ≤ 100000) : wrap64 ((a : Int) + (b : Int)) = (s : Int) ∧ IntKind.i64.wrap ((a : Int) + (b : Int)) = (s : Int) := by
  subst h
  rw [← Int.natCast_add]
  exact ⟨(wnum hs).1, (wnum hs).2.1⟩
def ringAt (L : List (List Int)) (k : Nat) : List Int := L.getD k []
theorem ringAt_get {L : List (List Int)} {k : Nat} (h : k < L.length) : ringAt L k = L[k] := by unfold ringAt; rw [List.getD_eq_getElem?_getD, List.getElem?_eq_getElem h]; rfl
theorem total_step {L : List (List Int)} {k : Nat} (h : k < L.length) : total (L.take (k + 1)) = total (L.take k) + (ringAt L k).length := by
  unfold total
  rw [List.take_add_one, List.getElem?_eq_getElem h, ringAt_get h, List.map_append, List.sum_append]
  simp
theorem total_le {L : List (List Int)} : ∀ k, total (L.take k) ≤ total L := by
  intro k
  unfold total
  conv => rhs; rw [← List.take_append_drop k L, List.map_append, List.sum_append]
  omega
set_option maxHeartbeats 16000000 in
set_option maxRecDepth 100000 in
theorem vright_l (p l i : List Pt) (ap al ai : Option Addr) (cp cl ci : Nat) (w : World) (hA : PtRow w ap p) (hB0 : PtRow w al l) (hC0 : PtRow w ai i) (q1 : p.length ≤ cp) (q2 : l.length ≤ cl) (q3 : i.length ≤ ci) (n1 : ap = none → cp = 0) (n2 : al = none → cl = 0) (n3 : ai = none → ci = 0) :
    Calls Try.prog 5 #[.agg #[.slice ap p.length cp, .slice al l.length cl, .slice ai i.length ci]] w (Gives (.bool true) w) := by
  have KN := Lib.hid (fun W => known10_l W)
  have HPol0 : Hid (p.length ≤ 10000 → l.length ≤ 10000 → i.length ≤ 10000 → Pol w ap al ai cp cl ci p l i) := fun a b c => ⟨hA, hB0, hC0, q1, q2, q3, n1, n2, n3, a, b, c⟩
  have HM := Lib.hid (fun W => many10_l p.length l.length i.length ap al ai cp cl ci W)
  clear hA hB0 hC0 q1 q2 q3 n1 n2 n3
  obtain ⟨r, hr⟩ : ∃ r, many10 p.length l.length i.length = r := ⟨_, rfl⟩
  rw [hr] at HM
  have HR := Lib.hid hr
  clear hr
  go_enter Try.func5, Try.ntmps5
  go_upto_region 1 with (fail)
  have HV := Lib.hid (var3_new w (.slice ap p.length cp) (.slice al l.length cl) (.slice ai i.length ci) 38 w.heap.size rfl)
  have HB := Lib.hid (bl_one w (.cells #[.slice ap p.length cp, .slice al l.length cl, .slice ai i.length ci] 38))
  generalize w.alloc (.cells #[.slice ap p.length cp, .slice al l.length cl, .slice ai i.length ci] 38) = W1 at *
  obtain ⟨k0, k1, k2⟩ := HV.out.three
  go_wp2_with fail
  (with_reducible refine (HM.out _).mono ?_); rintro e w2 ⟨rfl, hb2⟩
  replace HB := Lib.hid (bl_trans HB.out hb2)
  replace HV := Lib.hid (HV.out.below hb2)
  clear hb2 HM k0 k1 k2
  cases r
  case true =>
    go_wp2_with fail
    (with_reducible refine (KN.out _).mono ?_); rintro e w9 ⟨rfl, hb9⟩
    replace HB := Lib.hid (bl_trans HB.out hb9)
    clear hb9
    go_wp2_with fail
    go_ret
    exact ⟨rfl, HB.out⟩
  case false =>
  have hA : Pol w ap al ai cp cl ci p l i := by
    obtain ⟨a, b, c⟩ := many_no HR.out
    exact HPol0.out (by omega) (by omega) (by omega)
  have HF1 := Lib.hid (fun W h => first10_l p l i ap al ai cp cl ci W (hA.below h))
  have HLo := Lib.hid (fun W h => loops10_l p l i ap al ai cp cl ci W (hA.below h))
  obtain ⟨S, hS⟩ : ∃ S, l ++ i = S := ⟨_, rfl⟩
  have HAl := Lib.hid (fun W h => refAll10_l p l i S hS ap al ai cp cl ci W (hA.below h))
  have HIn := Lib.hid (fun a b W h => inside10_l p l i a b ap al ai cp cl ci W (hA.below h))
  have HRi := Lib.hid (right_is p l i)
  have HOk : Hid (rightI p l i = true → RightOk p l i) := fun h => right_ok h
  have HLs : Hid (rightI p l i = true → l.length ≤ 400 ∧ S.length ≤ 800) := fun h => by
    have hc := (right_iff10.1 h).1
    have := hc.nl; have := hc.ni
    rw [← hS, List.length_append]; omega
  have HSS := Lib.hid hS
  clear hA HPol0 HR hS
  obtain ⟨k0, k1, k2⟩ := HV.out.three
  obtain ⟨⟨c, a, b⟩, hf⟩ : ∃ f, firstF p l i = f := ⟨_, rfl⟩
  obtain ⟨e9, he⟩ : ∃ e, firstE p l i = e := ⟨_, rfl⟩
  rw [hf, he] at HF1 HRi
  clear hf he
  generalize rightI p l i = rr at *
  go_wp2_with fail
  (with_reducible refine (HF1.out _ HB.out).mono ?_); rintro e w3 ⟨rfl, hb3⟩
  dsimp only
  replace HB := Lib.hid (bl_trans HB.out hb3)
  replace HV := Lib.hid (HV.out.below hb3)
  clear hb3 HF1 k0 k1 k2
  go_upto_region 4 with (fail)
  have HQ := Lib.hid (var3_new w3 (.int .i64 c) (.int .i64 a) (.int .i64 b) 42 w3.heap.size rfl)
  replace HB := Lib.hid (bl_trans HB.out (bl_one w3 (.cells #[.int .i64 c, .int .i64 a, .int .i64 b] 42)))
  replace HV := Lib.hid (HV.out.below (bl_one w3 (.cells #[.int .i64 c, .int .i64 a, .int .i64 b] 42)))
  generalize w3.alloc (.cells #[.int .i64 c, .int .i64 a, .int .i64 b] 42) = W4 at *
  obtain ⟨q0, q1, q2⟩ := HQ.out.three
  by_cases h : e9 = 0
  case neg =>
    have y1 : (e9 = 0) = False := eq_false h
    have y2 : (e9 == 0) = false := beq_eq_false_iff_ne.2 h
    have y3 : (e9 != 0) = true := bne_iff_ne.2 h
    clear h
    go_wp2_with fail
    (with_reducible refine (KN.out _).mono ?_); rintro e w9 ⟨rfl, hb9⟩
    replace HB := Lib.hid (bl_trans HB.out hb9)
    clear hb9
    go_wp2_with fail
    go_ret
    exact ⟨rfl, HB.out⟩
  case pos =>
  subst h
  by_cases hc : c = 0
  case neg =>
    have y1 : (c = 0) = False := eq_false hc
    have y2 : (c == 0) = false := beq_eq_false_iff_ne.2 hc
    have y3 : (c != 0) = true := bne_iff_ne.2 hc
    clear hc
    go_wp2_with fail
    (with_reducible refine (KN.out _).mono ?_); rintro e w9 ⟨rfl, hb9⟩
    replace HB := Lib.hid (bl_trans HB.out hb9)
    clear hb9
    go_wp2_with fail
    go_ret
    exact ⟨rfl, HB.out⟩
  case pos =>
  subst hc
  have hrr : rr = true := HRi.out
  subst hrr
  have HO := Lib.hid (HOk.out rfl)
  have hll := (HLs.out rfl).1
  have hsl := (HLs.out rfl).2
  clear HOk HRi HLs
  have HOe := Lib.hid HO.out.e
  rw [HO.out.e] at HLo
  obtain ⟨L, hL⟩ : ∃ L, loopsL p l i = L := ⟨_, rfl⟩
  have HLL : Hid (L.length ≠ 0 ∧ 3 ≤ p.length ∧ (∀ R ∈ L, 3 ≤ R.length) ∧ total L = l.length) := by rw [← hL]; exact ⟨HO.out.ne, HO.out.n3, HO.out.r3, HO.out.sum⟩
  rw [hL] at HLo
  clear hL
  obtain ⟨k0, k1, k2⟩ := HV.out.three
  go_wp2_with fail
  (with_reducible refine (HLo.out _ HB.out).mono ?_); rintro e w5 ⟨ad, cap, rfl, hcap, hrow, hnil, hb5⟩
  have HRw := Lib.hid hrow
  replace HB := Lib.hid (bl_trans HB.out hb5)
  replace HV := Lib.hid (HV.out.below hb5)
  clear hb5 HLo k0 k1 k2 hcap hrow hnil q0 q1 q2 HQ
  obtain ⟨k0, k1, k2⟩ := HV.out.three
  have hLn := HLL.out.1
  have hpn := HLL.out.2.1
  have hLl : L.length ≤ 400 := by
    have h1 := HLL.out.2.2.2
    have h2 : L.length ≤ total L := by
      have : ∀ M : List (List Int), (∀ R ∈ M, 3 ≤ R.length) → M.length ≤ total M := by
        intro M
        induction M with
        | nil => intro _; exact Nat.le_refl _
        | cons R M ih =>
          intro h
          have h3 := h R List.mem_cons_self
          have h4 := ih fun X hX => h X (List.mem_cons_of_mem _ hX)
          have e : total (R :: M) = R.length + total M := by unfold total; rw [List.map_cons, List.sum_cons]
          rw [e, List.length_cons]; omega
      exact this L HLL.out.2.2.1
    omega
  have z1 : ((L.length : Int) = 0) = False := eq_false (by omega)
  have z2 : ((L.length : Int) == 0) = false := beq_eq_false_iff_ne.2 (by omega)
  have z3 : ((p.length : Int) < 3) = False := eq_false (by omega)
  have z4 : (L = []) = False := eq_false (fun e => hLn (by rw [e]; rfl))
  go_wp2_with fail
  clear z1 z2 z3 z4 k0 k1 k2
  go_loopw [7, 8] (fun nv iv W => ∃ k : Nat, k ≤ L.length ∧ iv = .int .i64 k ∧ nv = .int .i64 ((total (L.take k) : Nat) : Int) ∧ Below w5.heap.size w5 W) (fun _ iv _ => L.length - (intOf iv).toNat)
  case atStart => exact ⟨0, Nat.zero_le _, rfl, rfl, Below.refl _ _⟩
  case round =>
    obtain ⟨k, hk, rfl, rfl, hB2⟩ := hrel
    have HB2 := Lib.hid hB2
    clear hB2
    by_cases hlt : k < L.length
    · have b2 : ((k : Int) < (L.length : Int)) = True := eq_true (by omega)
      have d2 : (k < L.length) = True := eq_true hlt
      have c2 : ((0 : Int) ≤ (k : Int)) = True := eq_true (by omega)
      obtain ⟨gr, or, rfl⟩ := HRw.out.some (by omega)
      obtain ⟨R, hR⟩ : ∃ R, ringAt L k = R := ⟨_, rfl⟩
      obtain ⟨a5, c5, k5w, -, -, -⟩ := HRw.out.at hlt ((ringAt_get hlt).symm.trans hR)
      have k5 := (HB2.out.cell (cell_lt k5w)).trans k5w
      have hR3 : 3 ≤ R.length := by rw [← hR, ringAt_get hlt]; exact HLL.out.2.2.1 _ (List.getElem_mem hlt)
      have hst := total_step hlt
      rw [hR] at hst
      have hle := total_le (L := L) (k + 1)
      rw [HLL.out.2.2.2] at hle
      obtain ⟨tk, htk⟩ : ∃ t, total (L.take k) = t := ⟨_, rfl⟩
      obtain ⟨rl, hrl⟩ : ∃ t, R.length = t := ⟨_, rfl⟩
      rw [htk, hrl] at hst
      rw [hrl] at k5 hR3
      have HSt := Lib.hid hst
      obtain ⟨sm, hsm⟩ : ∃ s, tk + rl = s := ⟨_, rfl⟩
      have HSm := Lib.hid hsm
      have hsb : sm ≤ 100000 := by omega
      have HWs := Lib.hid (wsum10 hsm hsb)
      rw [htk]
      have z5 : ((rl : Int) < 3) = False := eq_false (by omega)
      have z6 : (rl < 3) = False := eq_false (by omega)
      clear hR k5w hst hle hrl htk hsm hsb
      obtain ⟨m1, m2, m3, m4⟩ := wnum (i := k) (by omega)
      obtain ⟨w1, w2'⟩ := HWs.out
      go_wp2_with fail
      clear m1 m2 m3 m4 w1 w2'
      exact ⟨⟨k + 1, hlt, by rw [Int.natCast_add]; rfl, by rw [HSt.out, HSm.out], HB2.out⟩, by simp [intOf]; omega⟩
    · obtain rfl : k = L.length := by omega
      have b2 : ((L.length : Int) < (L.length : Int)) = False := eq_false (by omega)
      have htt : total (L.take L.length) = l.length := by rw [List.take_length]; exact HLL.out.2.2.2
      rw [htt]
      replace HB := Lib.hid (bl_trans HB.out HB2.out)
      replace HV := Lib.hid (HV.out.below HB2.out)
      obtain ⟨k0, k1, k2⟩ := HV.out.three
      obtain ⟨W5, eW5⟩ : ∃ W, W = wr := ⟨_, rfl⟩
      subst eW5
      clear htt b2 hlt hk HB2
      go_wp2_with fail
      (with_reducible refine (HAl.out _ HB.out).mono ?_); rintro e w6 ⟨ad2, cp2, rfl, hrow, hb6⟩
      have HSr := Lib.hid hrow
      replace HB := Lib.hid (bl_trans HB.out hb6)
      replace HV := Lib.hid (HV.out.below hb6)
      clear hb6 HAl k0 k1 k2 hrow
      go_wp2_with fail
      go_loopw [10] (fun iv W => ∃ k : Nat, k ≤ S.length ∧ iv = .int .i64 k ∧ Below w6.heap.size w6 W) (fun iv _ => S.length - (intOf iv).toNat)
      case atStart => exact ⟨0, Nat.zero_le _, rfl, Below.refl _ _⟩
      case round =>
        obtain ⟨k, hk, rfl, hB2⟩ := hrel
        have HB2 := Lib.hid hB2
        have HBy := Lib.hid (bl_trans HB.out hB2)
        clear hB2
        by_cases hlt : k < S.length
        · have b2 : ((k : Int) < (S.length : Int)) = True := eq_true (by omega)
          have d2 : (k < S.length) = True := eq_true hlt
          have c2 : ((0 : Int) ≤ (k : Int)) = True := eq_true (by omega)
          obtain ⟨gs, os, rfl⟩ := HSr.out.some (by omega)
          obtain ⟨⟨x, y⟩, hq⟩ : ∃ q, pget S k = q := ⟨_, rfl⟩
          have hkS : k < (l ++ i).length := by rw [HSS.out]; exact hlt
          have hrg := HO.out.rng k hkS
          have hin := HO.out.ins k hkS
          rw [HSS.out, hq] at hrg hin
          obtain ⟨x0, x1, y0, y1⟩ := sgInB_iff.1 hrg
          dsimp only at x0 x1 y0 y1 hin
          have HI1 := Lib.hid (fun W h => HIn.out x y W h)
          rw [hin] at HI1
          have HQ := Lib.hid hq
          have a1 : (x < 0) = False := eq_false (by omega)
          have a2 : ((p.length : Int) ≤ x) = False := eq_false (by omega)
          have a3 : (y < 0) = False := eq_false (by omega)
          have a4 : ((p.length : Int) ≤ y) = False := eq_false (by omega)
          have d1 : decide (x < 0) = false := decide_eq_false (by omega)
          have d3 : decide ((p.length : Int) ≤ x) = false := decide_eq_false (by omega)
          have d4 : decide (y < 0) = false := decide_eq_false (by omega)
          have d5 : decide ((p.length : Int) ≤ y) = false := decide_eq_false (by omega)
          clear hq hkS hrg hin x0 x1 y0 y1
          have HV7 := Lib.hid (HV.out.below HB2.out)
          have HS7 := Lib.hid (HSr.out.below HB2.out)
          obtain ⟨W7, eW7⟩ : ∃ W, W = wr := ⟨_, rfl⟩
          subst eW7
          go_upto_region 22 with (fail)
          refine wp_region_held_drew (S := fun V => Below W7.heap.size W7 V) (by kernel_rfl) ?_ (fun hHeld => ?_)
          · exact bel_drew W7
          revert hHeld
          generalize World.drew _ = W1
          intro hHeld 
          refine wpAnyH_take (i := 0) (v := ?_) rfl (by kernel_rfl) (by kernel_rfl) (by kernel_rfl) (fun _ _ _ h => h) (Or.inl ⟨by rfl, ?_⟩) (by assumption) ?_
          rotate_left
          · intro Wq hSw
            clear hSw
            go_simp
            all_goals (with_reducible rfl)
          try simp only [Act.put, List.getElem_toArray, List.getElem_cons_zero, List.setIfInBounds_toArray, List.set_cons_zero, List.set_cons_succ]
          refine wpAnyH_take (i := 1) (v := ?_) rfl (by kernel_rfl) (by kernel_rfl) (by kernel_rfl) (fun _ _ _ h => h) (Or.inl ⟨by rfl, ?_⟩) (by assumption) ?_
          rotate_left
          · intro Wq hSw
            clear hSw
            go_simp
            all_goals (with_reducible rfl)
          try simp only [Act.put, List.getElem_toArray, List.getElem_cons_succ, List.getElem_cons_zero, List.setIfInBounds_toArray, List.set_cons_zero, List.set_cons_succ]
          refine wpAnyH_take (i := 2) (v := ?_) rfl (by kernel_rfl) (by kernel_rfl) (by kernel_rfl) (fun _ _ _ h => h) (Or.inl ⟨by rfl, ?_⟩) (by assumption) ?_
          rotate_left
          · intro Wq hSw
            clear hSw
            go_simp
            all_goals (with_reducible rfl)
          try simp only [Act.put, List.getElem_toArray, List.getElem_cons_succ, List.getElem_cons_zero, List.setIfInBounds_toArray, List.set_cons_zero, List.set_cons_succ]
          refine wpAnyH_take (i := 3) (v := ?_) rfl (by kernel_rfl) (by kernel_rfl) (by kernel_rfl) (fun _ _ _ h => h) (Or.inl ⟨by rfl, ?_⟩) (by assumption) ?_
          rotate_left
          · intro Wq hSw
            clear hSw
            go_simp
            all_goals (with_reducible rfl)
          try simp only [Act.put, List.getElem_toArray, List.getElem_cons_succ, List.getElem_cons_zero, List.setIfInBounds_toArray, List.set_cons_zero, List.set_cons_succ]
          refine wpAnyH_take (i := 4) (v := ?_) rfl (by kernel_rfl) (by kernel_rfl) (by kernel_rfl) (fun _ _ _ h => h) (Or.inl ⟨by rfl, ?_⟩) (by assumption) ?_
          rotate_left
          · intro Wq hSw
            obtain ⟨s0, s1⟩ := ptRow_at (HS7.out.below hSw) hlt HQ.out
            dsimp only at s0 s1
            clear hSw
            go_simp
            all_goals (with_reducible rfl)
          try simp only [Act.put, List.getElem_toArray, List.getElem_cons_succ, List.getElem_cons_zero, List.setIfInBounds_toArray, List.set_cons_zero, List.set_cons_succ]
          refine wpAnyH_take (i := 5) (v := ?_) rfl (by kernel_rfl) (by kernel_rfl) (by kernel_rfl) (fun _ _ _ h => h) (Or.inl ⟨by rfl, ?_⟩) (by assumption) ?_
          rotate_left
          · intro Wq hSw
            clear hSw
            go_simp
            all_goals (with_reducible rfl)
          try simp only [Act.put, List.getElem_toArray, List.getElem_cons_succ, List.getElem_cons_zero, List.setIfInBounds_toArray, List.set_cons_zero, List.set_cons_succ]
          refine wpAnyH_take (i := 6) (v := ?_) rfl (by kernel_rfl) (by kernel_rfl) (by kernel_rfl) (fun _ _ _ h => h) (Or.inl ⟨by rfl, ?_⟩) (by assumption) ?_
          rotate_left
          · intro Wq hSw
            clear hSw
            go_simp
            all_goals (with_reducible rfl)
          try simp only [Act.put, List.getElem_toArray, List.getElem_cons_succ, List.getElem_cons_zero, List.setIfInBounds_toArray, List.set_cons_zero, List.set_cons_succ]
          refine wpAnyH_take (i := 7) (v := ?_) rfl (by kernel_rfl) (by kernel_rfl) (by kernel_rfl) (fun _ _ _ h => h) (Or.inl ⟨by rfl, ?_⟩) (by assumption) ?_
          rotate_left
          · intro Wq hSw
            clear hSw
            go_simp
            all_goals (with_reducible rfl)
          try simp only [Act.put, List.getElem_toArray, List.getElem_cons_succ, List.getElem_cons_zero, List.setIfInBounds_toArray, List.set_cons_zero, List.set_cons_succ]
          refine wpAnyH_take (i := 8) (v := ?_) rfl (by kernel_rfl) (by kernel_rfl) (by kernel_rfl) (fun _ _ _ h => h) (Or.inl ⟨by rfl, ?_⟩) (by assumption) ?_
          rotate_left
          · intro Wq hSw
            clear hSw
            go_simp
            all_goals (with_reducible rfl)
          try simp only [Act.put, List.getElem_toArray, List.getElem_cons_succ, List.getElem_cons_zero, List.setIfInBounds_toArray, List.set_cons_zero, List.set_cons_succ]
          refine wpAnyH_take (i := 9) (v := ?_) rfl (by kernel_rfl) (by kernel_rfl) (by kernel_rfl) (fun _ _ _ h => h) (Or.inl ⟨by rfl, ?_⟩) (by assumption) ?_
          rotate_left
          · intro Wq hSw
            clear hSw
            go_simp
            all_goals (with_reducible rfl)
          try simp only [Act.put, List.getElem_toArray, List.getElem_cons_succ, List.getElem_cons_zero, List.setIfInBounds_toArray, List.set_cons_zero, List.set_cons_succ]
          refine wpAnyH_take (i := 10) (v := ?_) rfl (by kernel_rfl) (by kernel_rfl) (by kernel_rfl) (fun _ _ _ h => h) (Or.inl ⟨by rfl, ?_⟩) (by assumption) ?_
          rotate_left
          · intro Wq hSw
            clear hSw
            go_simp
            all_goals (with_reducible rfl)
          try simp only [Act.put, List.getElem_toArray, List.getElem_cons_succ, List.getElem_cons_zero, List.setIfInBounds_toArray, List.set_cons_zero, List.set_cons_succ]
          refine wpAnyH_take (i := 11) (v := ?_) rfl (by kernel_rfl) (by kernel_rfl) (by kernel_rfl) (fun _ _ _ h => h) (Or.inl ⟨by rfl, ?_⟩) (by assumption) ?_
          rotate_left
          · intro Wq hSw
            obtain ⟨s0, s1⟩ := ptRow_at (HS7.out.below hSw) hlt HQ.out
            dsimp only at s0 s1
            clear hSw
            go_simp
            all_goals (with_reducible rfl)
          try simp only [Act.put, List.getElem_toArray, List.getElem_cons_succ, List.getElem_cons_zero, List.setIfInBounds_toArray, List.set_cons_zero, List.set_cons_succ]
          refine wpAnyH_take (i := 12) (v := ?_) rfl (by kernel_rfl) (by kernel_rfl) (by kernel_rfl) (fun _ _ _ h => h) (Or.inl ⟨by rfl, ?_⟩) (by assumption) ?_
          rotate_left
          · intro Wq hSw
            clear hSw
            go_simp
            all_goals (with_reducible rfl)
          try simp only [Act.put, List.getElem_toArray, List.getElem_cons_succ, List.getElem_cons_zero, List.setIfInBounds_toArray, List.set_cons_zero, List.set_cons_succ]
          refine wpAnyH_take (i := 13) (v := ?_) rfl (by kernel_rfl) (by kernel_rfl) (by kernel_rfl) (fun _ _ _ h => h) (Or.inl ⟨by rfl, ?_⟩) (by assumption) ?_
          rotate_left
          · intro Wq hSw
            obtain ⟨k0, k1, k2⟩ := (HV7.out.below hSw).three
            clear hSw
            go_simp
            all_goals (with_reducible rfl)
          try simp only [Act.put, List.getElem_toArray, List.getElem_cons_succ, List.getElem_cons_zero, List.setIfInBounds_toArray, List.set_cons_zero, List.set_cons_succ]
          refine wpAnyH_take (i := 14) (v := ?_) rfl (by kernel_rfl) (by kernel_rfl) (by kernel_rfl) (fun _ _ _ h => h) (Or.inl ⟨by rfl, ?_⟩) (by assumption) ?_
          rotate_left
          · intro Wq hSw
            clear hSw
            go_simp
            all_goals (with_reducible rfl)
          try simp only [Act.put, List.getElem_toArray, List.getElem_cons_succ, List.getElem_cons_zero, List.setIfInBounds_toArray, List.set_cons_zero, List.set_cons_succ]
          refine wpAnyH_take (i := 15) (v := ?_) rfl (by kernel_rfl) (by kernel_rfl) (by kernel_rfl) (fun _ _ _ h => h) (Or.inl ⟨by rfl, ?_⟩) (by assumption) ?_
          rotate_left
          · intro Wq hSw
            clear hSw
            go_simp
            all_goals (with_reducible rfl)
          try simp only [Act.put, List.getElem_toArray, List.getElem_cons_succ, List.getElem_cons_zero, List.setIfInBounds_toArray, List.set_cons_zero, List.set_cons_succ]
          refine wpAnyH_take (i := 16) (v := ?_) rfl (by kernel_rfl) (by kernel_rfl) (by kernel_rfl) (fun _ _ _ h => h) (Or.inl ⟨by rfl, ?_⟩) (by assumption) ?_
          rotate_left
          · intro Wq hSw
            clear hSw
            go_simp
            all_goals (with_reducible rfl)
          try simp only [Act.put, List.getElem_toArray, List.getElem_cons_succ, List.getElem_cons_zero, List.setIfInBounds_toArray, List.set_cons_zero, List.set_cons_succ]
          refine wpAnyH_take (i := 17) (v := ?_) rfl (by kernel_rfl) (by kernel_rfl) (by kernel_rfl) (fun _ _ _ h => h) (Or.inl ⟨by rfl, ?_⟩) (by assumption) ?_
          rotate_left
          · intro Wq hSw
            clear hSw
            go_simp
            all_goals (with_reducible rfl)
          try simp only [Act.put, List.getElem_toArray, List.getElem_cons_succ, List.getElem_cons_zero, List.setIfInBounds_toArray, List.set_cons_zero, List.set_cons_succ]
          refine wpAnyH_take (i := 18) (v := ?_) rfl (by kernel_rfl) (by kernel_rfl) (by kernel_rfl) (fun _ _ _ h => h) (Or.inl ⟨by rfl, ?_⟩) (by assumption) ?_
          rotate_left
          · intro Wq hSw
            clear hSw
            go_simp
            all_goals (with_reducible rfl)
          try simp only [Act.put, List.getElem_toArray, List.getElem_cons_succ, List.getElem_cons_zero, List.setIfInBounds_toArray, List.set_cons_zero, List.set_cons_succ]
          refine wpAnyH_take (i := 19) (v := ?_) rfl (by kernel_rfl) (by kernel_rfl) (by kernel_rfl) (fun _ _ _ h => h) (Or.inl ⟨by rfl, ?_⟩) (by assumption) ?_
          rotate_left
          · intro Wq hSw
            clear hSw
            go_simp
            all_goals (with_reducible rfl)
          try simp only [Act.put, List.getElem_toArray, List.getElem_cons_succ, List.getElem_cons_zero, List.setIfInBounds_toArray, List.set_cons_zero, List.set_cons_succ]
          refine wpAnyH_take (i := 20) (v := ?_) rfl (by kernel_rfl) (by kernel_rfl) (by kernel_rfl) (fun _ _ _ h => h) (Or.inl ⟨by rfl, ?_⟩) (by assumption) ?_
          rotate_left
          · intro Wq hSw
            clear hSw
            go_simp
            all_goals (with_reducible rfl)
          try simp only [Act.put, List.getElem_toArray, List.getElem_cons_succ, List.getElem_cons_zero, List.setIfInBounds_toArray, List.set_cons_zero, List.set_cons_succ]
          refine wpAnyH_take (i := 21) (v := ?_) rfl (by kernel_rfl) (by kernel_rfl) (by kernel_rfl) (fun _ _ _ h => h) (Or.inl ⟨by rfl, ?_⟩) (by assumption) ?_
          rotate_left
          · intro Wq hSw
            clear hSw
            go_simp
            all_goals (with_reducible rfl)
          try simp only [Act.put, List.getElem_toArray, List.getElem_cons_succ, List.getElem_cons_zero, List.setIfInBounds_toArray, List.set_cons_zero, List.set_cons_succ]
          refine wpAnyH_take (i := 22) (v := ?_) rfl (by kernel_rfl) (by kernel_rfl) (by kernel_rfl) (fun _ _ _ h => h) (Or.inl ⟨by rfl, ?_⟩) (by assumption) ?_
          rotate_left
          · intro Wq hSw
            obtain ⟨s0, s1⟩ := ptRow_at (HS7.out.below hSw) hlt HQ.out
            dsimp only at s0 s1
            clear hSw
            go_simp
            all_goals (with_reducible rfl)
          try simp only [Act.put, List.getElem_toArray, List.getElem_cons_succ, List.getElem_cons_zero, List.setIfInBounds_toArray, List.set_cons_zero, List.set_cons_succ]
          refine wpAnyH_take (i := 23) (v := ?_) rfl (by kernel_rfl) (by kernel_rfl) (by kernel_rfl) (fun _ _ _ h => h) (Or.inl ⟨by rfl, ?_⟩) (by assumption) ?_
          rotate_left
          · intro Wq hSw
            clear hSw
            go_simp
            all_goals (with_reducible rfl)
          try simp only [Act.put, List.getElem_toArray, List.getElem_cons_succ, List.getElem_cons_zero, List.setIfInBounds_toArray, List.set_cons_zero, List.set_cons_succ]
          refine wpAnyH_take (i := 24) (v := ?_) rfl (by kernel_rfl) (by kernel_rfl) (by kernel_rfl) (fun _ _ _ h => h) (Or.inl ⟨by rfl, ?_⟩) (by assumption) ?_
          rotate_left
          · intro Wq hSw
            clear hSw
            go_simp
            all_goals (with_reducible rfl)
          try simp only [Act.put, List.getElem_toArray, List.getElem_cons_succ, List.getElem_cons_zero, List.setIfInBounds_toArray, List.set_cons_zero, List.set_cons_succ]
          refine wpAnyH_take (i := 25) (v := ?_) rfl (by kernel_rfl) (by kernel_rfl) (by kernel_rfl) (fun _ _ _ h => h) (Or.inl ⟨by rfl, ?_⟩) (by assumption) ?_
          rotate_left
          · intro Wq hSw
            clear hSw
            go_simp
            all_goals (with_reducible rfl)
          try simp only [Act.put, List.getElem_toArray, List.getElem_cons_succ, List.getElem_cons_zero, List.setIfInBounds_toArray, List.set_cons_zero, List.set_cons_succ]
          refine wpAnyH_take (i := 26) (v := ?_) rfl (by kernel_rfl) (by kernel_rfl) (by kernel_rfl) (fun _ _ _ h => h) (Or.inl ⟨by rfl, ?_⟩) (by assumption) ?_
          rotate_left
          · intro Wq hSw
            clear hSw
            go_simp
            all_goals (with_reducible rfl)
          try simp only [Act.put, List.getElem_toArray, List.getElem_cons_succ, List.getElem_cons_zero, List.setIfInBounds_toArray, List.set_cons_zero, List.set_cons_succ]
          refine wpAnyH_take (i := 27) (v := ?_) rfl (by kernel_rfl) (by kernel_rfl) (by kernel_rfl) (fun _ _ _ h => h) (Or.inl ⟨by rfl, ?_⟩) (by assumption) ?_
          rotate_left
          · intro Wq hSw
            clear hSw
            go_simp
            all_goals (with_reducible rfl)
          try simp only [Act.put, List.getElem_toArray, List.getElem_cons_succ, List.getElem_cons_zero, List.setIfInBounds_toArray, List.set_cons_zero, List.set_cons_succ]
          refine wpAnyH_take (i := 28) (v := ?_) rfl (by kernel_rfl) (by kernel_rfl) (by kernel_rfl) (fun _ _ _ h => h) (Or.inl ⟨by rfl, ?_⟩) (by assumption) ?_
          rotate_left
          · intro Wq hSw
            clear hSw
            go_simp
            all_goals (with_reducible rfl)
          try simp only [Act.put, List.getElem_toArray, List.getElem_cons_succ, List.getElem_cons_zero, List.setIfInBounds_toArray, List.set_cons_zero, List.set_cons_succ]
          refine wpAnyH_take (i := 29) (v := ?_) rfl (by kernel_rfl) (by kernel_rfl) (by kernel_rfl) (fun _ _ _ h => h) (Or.inl ⟨by rfl, ?_⟩) (by assumption) ?_
          rotate_left
          · intro Wq hSw
            clear hSw
            go_simp
            all_goals (with_reducible rfl)
          try simp only [Act.put, List.getElem_toArray, List.getElem_cons_succ, List.getElem_cons_zero, List.setIfInBounds_toArray, List.set_cons_zero, List.set_cons_succ]
          refine wpAnyH_take (i := 30) (v := ?_) rfl (by kernel_rfl) (by kernel_rfl) (by kernel_rfl) (fun _ _ _ h => h) (Or.inl ⟨by rfl, ?_⟩) (by assumption) ?_
          rotate_left
          · intro Wq hSw
            obtain ⟨s0, s1⟩ := ptRow_at (HS7.out.below hSw) hlt HQ.out
            dsimp only at s0 s1
            clear hSw
            go_simp
            all_goals (with_reducible rfl)
          try simp only [Act.put, List.getElem_toArray, List.getElem_cons_succ, List.getElem_cons_zero, List.setIfInBounds_toArray, List.set_cons_zero, List.set_cons_succ]
          refine wpAnyH_take (i := 31) (v := ?_) rfl (by kernel_rfl) (by kernel_rfl) (by kernel_rfl) (fun _ _ _ h => h) (Or.inl ⟨by rfl, ?_⟩) (by assumption) ?_
          rotate_left
          · intro Wq hSw
            clear hSw
            go_simp
            all_goals (with_reducible rfl)
          try simp only [Act.put, List.getElem_toArray, List.getElem_cons_succ, List.getElem_cons_zero, List.setIfInBounds_toArray, List.set_cons_zero, List.set_cons_succ]
          refine wpAnyH_take (i := 32) (v := ?_) rfl (by kernel_rfl) (by kernel_rfl) (by kernel_rfl) (fun _ _ _ h => h) (Or.inl ⟨by rfl, ?_⟩) (by assumption) ?_
          rotate_left
          · intro Wq hSw
            obtain ⟨k0, k1, k2⟩ := (HV7.out.below hSw).three
            clear hSw
            go_simp
            all_goals (with_reducible rfl)
          try simp only [Act.put, List.getElem_toArray, List.getElem_cons_succ, List.getElem_cons_zero, List.setIfInBounds_toArray, List.set_cons_zero, List.set_cons_succ]
          refine wpAnyH_take (i := 33) (v := ?_) rfl (by kernel_rfl) (by kernel_rfl) (by kernel_rfl) (fun _ _ _ h => h) (Or.inl ⟨by rfl, ?_⟩) (by assumption) ?_
          rotate_left
          · intro Wq hSw
            clear hSw
            go_simp
            all_goals (with_reducible rfl)
          try simp only [Act.put, List.getElem_toArray, List.getElem_cons_succ, List.getElem_cons_zero, List.setIfInBounds_toArray, List.set_cons_zero, List.set_cons_succ]
          refine wpAnyH_take (i := 34) (v := ?_) rfl (by kernel_rfl) (by kernel_rfl) (by kernel_rfl) (fun _ _ _ h => h) (Or.inl ⟨by rfl, ?_⟩) (by assumption) ?_
          rotate_left
          · intro Wq hSw
            clear hSw
            go_simp
            all_goals (with_reducible rfl)
          try simp only [Act.put, List.getElem_toArray, List.getElem_cons_succ, List.getElem_cons_zero, List.setIfInBounds_toArray, List.set_cons_zero, List.set_cons_succ]
          refine wpAnyH_take (i := 35) (v := ?_) rfl (by kernel_rfl) (by kernel_rfl) (by kernel_rfl) (fun _ _ _ h => h) (Or.inl ⟨by rfl, ?_⟩) (by assumption) ?_
          rotate_left
          · intro Wq hSw
            clear hSw
            go_simp
            all_goals (with_reducible rfl)
          try simp only [Act.put, List.getElem_toArray, List.getElem_cons_succ, List.getElem_cons_zero, List.setIfInBounds_toArray, List.set_cons_zero, List.set_cons_succ]
          refine wpAnyH_take (i := 36) (v := ?_) rfl (by kernel_rfl) (by kernel_rfl) (by kernel_rfl) (fun _ _ _ h => h) (Or.inl ⟨by rfl, ?_⟩) (by assumption) ?_
          rotate_left
          · intro Wq hSw
            clear hSw
            go_simp
            all_goals (with_reducible rfl)
          try simp only [Act.put, List.getElem_toArray, List.getElem_cons_succ, List.getElem_cons_zero, List.setIfInBounds_toArray, List.set_cons_zero, List.set_cons_succ]
          refine wpAnyH_take (i := 37) (v := ?_) rfl (by kernel_rfl) (by kernel_rfl) (by kernel_rfl) (fun _ _ _ h => h) (Or.inl ⟨by rfl, ?_⟩) (by assumption) ?_
          rotate_left
          · intro Wq hSw
            obtain ⟨k0, k1, k2⟩ := (HV7.out.below hSw).three
            clear hSw
            go_simp
            all_goals (with_reducible rfl)
          try simp only [Act.put, List.getElem_toArray, List.getElem_cons_succ, List.getElem_cons_zero, List.setIfInBounds_toArray, List.set_cons_zero, List.set_cons_succ]
          refine wpAnyH_take (i := 38) (v := ?_) rfl (by kernel_rfl) (by kernel_rfl) (by kernel_rfl) (fun _ _ _ h => h) (Or.inl ⟨by rfl, ?_⟩) (by assumption) ?_
          rotate_left
          · intro Wq hSw
            clear hSw
            go_simp
            all_goals (with_reducible rfl)
          try simp only [Act.put, List.getElem_toArray, List.getElem_cons_succ, List.getElem_cons_zero, List.setIfInBounds_toArray, List.set_cons_zero, List.set_cons_succ]
          refine wpAnyH_take (i := 39) (v := ?_) rfl (by kernel_rfl) (by kernel_rfl) (by kernel_rfl) (fun _ _ _ h => h) (Or.inl ⟨by rfl, ?_⟩) (by assumption) ?_
          rotate_left
          · intro Wq hSw
            clear hSw
            go_simp
            all_goals (with_reducible rfl)
          try simp only [Act.put, List.getElem_toArray, List.getElem_cons_succ, List.getElem_cons_zero, List.setIfInBounds_toArray, List.set_cons_zero, List.set_cons_succ]
          refine wpAnyH_take (i := 40) (v := ?_) rfl (by kernel_rfl) (by kernel_rfl) (by kernel_rfl) (fun _ _ _ h => h) (Or.inl ⟨by rfl, ?_⟩) (by assumption) ?_
          rotate_left
          · intro Wq hSw
            clear hSw
            go_simp
            all_goals (with_reducible rfl)
          try simp only [Act.put, List.getElem_toArray, List.getElem_cons_succ, List.getElem_cons_zero, List.setIfInBounds_toArray, List.set_cons_zero, List.set_cons_succ]
          refine wpAnyH_take (i := 41) (v := ?_) rfl (by kernel_rfl) (by kernel_rfl) (by kernel_rfl) (fun _ _ _ h => h) (Or.inl ⟨by rfl, ?_⟩) (by assumption) ?_
          rotate_left
          · intro Wq hSw
            clear hSw
            go_simp
            all_goals (with_reducible rfl)
          try simp only [Act.put, List.getElem_toArray, List.getElem_cons_succ, List.getElem_cons_zero, List.setIfInBounds_toArray, List.set_cons_zero, List.set_cons_succ]
          refine wpAnyH_take (i := 42) (v := ?_) rfl (by kernel_rfl) (by kernel_rfl) (by kernel_rfl) (fun _ _ _ h => h) (Or.inl ⟨by rfl, ?_⟩) (by assumption) ?_
          rotate_left
          · intro Wq hSw
            obtain ⟨s0, s1⟩ := ptRow_at (HS7.out.below hSw) hlt HQ.out
            dsimp only at s0 s1
            clear hSw
            go_simp
            all_goals (with_reducible rfl)
          try simp only [Act.put, List.getElem_toArray, List.getElem_cons_succ, List.getElem_cons_zero, List.setIfInBounds_toArray, List.set_cons_zero, List.set_cons_succ]
          refine wpAnyH_take (i := 43) (v := ?_) rfl (by kernel_rfl) (by kernel_rfl) (by kernel_rfl) (fun _ _ _ h => h) (Or.inl ⟨by rfl, ?_⟩) (by assumption) ?_
          rotate_left
          · intro Wq hSw
            clear hSw
            go_simp
            all_goals (with_reducible rfl)
          try simp only [Act.put, List.getElem_toArray, List.getElem_cons_succ, List.getElem_cons_zero, List.setIfInBounds_toArray, List.set_cons_zero, List.set_cons_succ]
          refine wpAnyH_take (i := 44) (v := ?_) rfl (by kernel_rfl) (by kernel_rfl) (by kernel_rfl) (fun _ _ _ h => h) (Or.inl ⟨by rfl, ?_⟩) (by assumption) ?_
          rotate_left
          · intro Wq hSw
            clear hSw
            go_simp
            all_goals (with_reducible rfl)
          try simp only [Act.put, List.getElem_toArray, List.getElem_cons_succ, List.getElem_cons_zero, List.setIfInBounds_toArray, List.set_cons_zero, List.set_cons_succ]
          refine wpAnyH_take (i := 45) (v := ?_) rfl (by kernel_rfl) (by kernel_rfl) (by kernel_rfl) (fun _ _ _ h => h) (Or.inl ⟨by rfl, ?_⟩) (by assumption) ?_
          rotate_left
          · intro Wq hSw
            clear hSw
            go_simp
            all_goals (with_reducible rfl)
          try simp only [Act.put, List.getElem_toArray, List.getElem_cons_succ, List.getElem_cons_zero, List.setIfInBounds_toArray, List.set_cons_zero, List.set_cons_succ]
          refine wpAnyH_take (i := 46) (v := ?_) rfl (by kernel_rfl) (by kernel_rfl) (by kernel_rfl) (fun _ _ _ h => h) (Or.inl ⟨by rfl, ?_⟩) (by assumption) ?_
          rotate_left
          · intro Wq hSw
            clear hSw
            go_simp
            all_goals (with_reducible rfl)
          try simp only [Act.put, List.getElem_toArray, List.getElem_cons_succ, List.getElem_cons_zero, List.setIfInBounds_toArray, List.set_cons_zero, List.set_cons_succ]
          refine wpAnyH_take (i := 47) (v := ?_) rfl (by kernel_rfl) (by kernel_rfl) (by kernel_rfl) (fun _ _ _ h => h) (Or.inl ⟨by rfl, ?_⟩) (by assumption) ?_
          rotate_left
          · intro Wq hSw
            obtain ⟨s0, s1⟩ := ptRow_at (HS7.out.below hSw) hlt HQ.out
            dsimp only at s0 s1
            clear hSw
            go_simp
            all_goals (with_reducible rfl)
          try simp only [Act.put, List.getElem_toArray, List.getElem_cons_succ, List.getElem_cons_zero, List.setIfInBounds_toArray, List.set_cons_zero, List.set_cons_succ]
          refine r1 (i := 48) rfl (fun K hK => ?_)
          go_simp
          (with_reducible refine (HI1.out _ (bl_trans HBy.out hHeld)).mono ?_)
          rintro e w8 ⟨rfl, hb1⟩
          go_wp2_with fail
          refine hK.out _ _ (bl_trans hHeld hb1) (fun hHeld2 => ?_)
          clear hK K hHeld
          have hHeld := hHeld2
          clear hHeld2
          try simp only [Act.put, List.getElem_toArray, List.getElem_cons_succ, List.getElem_cons_zero, List.setIfInBounds_toArray, List.set_cons_zero, List.set_cons_succ]
          refine wpAnyH_take (i := 49) (v := ?_) rfl (by kernel_rfl) (by kernel_rfl) (by kernel_rfl) (fun _ _ _ h => h) (Or.inl ⟨by rfl, ?_⟩) (by assumption) ?_
          rotate_left
          · intro Wq hSw
            clear hSw
            go_simp
            all_goals (with_reducible rfl)
          try simp only [Act.put, List.getElem_toArray, List.getElem_cons_succ, List.getElem_cons_zero, List.setIfInBounds_toArray, List.set_cons_zero, List.set_cons_succ]
          refine wpAnyH_take (i := 50) (v := ?_) rfl (by kernel_rfl) (by kernel_rfl) (by kernel_rfl) (fun _ _ _ h => h) (Or.inl ⟨by rfl, ?_⟩) (by assumption) ?_
          rotate_left
          · intro Wq hSw
            clear hSw
            go_simp
            all_goals (with_reducible rfl)
          try simp only [Act.put, List.getElem_toArray, List.getElem_cons_succ, List.getElem_cons_zero, List.setIfInBounds_toArray, List.set_cons_zero, List.set_cons_succ]
          refine wpAnyH_done (by kernel_rfl) ?_ _
          have HB8 := Lib.hid (bl_trans HB2.out hHeld)
          clear hHeld
          obtain ⟨m1, m2, m3, m4⟩ := wnum (i := k) (by omega)
          go_wp2_with fail
          clear m1 m2 m3 m4
          exact ⟨⟨k + 1, hlt, by rw [Int.natCast_add]; rfl, HB8.out⟩, by simp [intOf]; omega⟩
        · obtain rfl : k = S.length := by omega
          have b2 : ((S.length : Int) < (S.length : Int)) = False := eq_false (by omega)
          replace HB := HBy
          clear HBy
          go_wp2_with fail
          (with_reducible refine (KN.out _).mono ?_); rintro e w9 ⟨rfl, hb9⟩
          replace HB := Lib.hid (bl_trans HB.out hb9)
          clear hb9
          go_wp2_with fail
          go_ret
          exact ⟨rfl, HB.out⟩
end Go.Proofs.Ytiebmlhglgpajaa

namespace Go.Proofs.Ytiebmlhglgpajaa.validRight
open Go.ChangeShapes Go.WideShapes Go.ChangeAt Go.RowKit

theorem own : ownKnob Try.prog.godebug = none := by kernel_rfl

set_option maxRecDepth 100000 in
theorem lifted (os : Os) (started : os.Started) (H : Type) (enc : TypeId × Value → H) :
    ReturnsInHanded {} Try.checked os 5 .any (Rows.validRightSpec.pre6 enc Try.prog Try.f5 Rows.validRightRow.domain false) (Rows.validRightSpec.post enc Try.prog Try.f5 false true false false) := by
  refine returnsInHanded_of_change (C := Try.checked) own started (by kernel_rfl) Try.func5
    (ChangeSpec.witness6 (enc := enc) (C := Try.checked) false ⟨#[], #[.agg #[.slice none 0 0, .slice none 0 0, .slice none 0 0]], []⟩ 8 (by kernel_rfl) (by kernel_rfl) (by kernel_rfl) (by kernel_rfl)) ?_
  intro W base args ds gs before hval0 hW _ _
  have hval : ∀ (j : Nat) t v, Try.f5.params[j]? = some t → args[j]? = some v → Value.okWide Try.prog W .any base t v := hval0
  have hW' := hW
  obtain ⟨p, q, hA0, hV, rfl, -, -⟩ := hW
  have hA : DataW.TrodAll enc Try.prog W 0 (fun _ => true) true Try.f5.params.toList args.toList ds p := hA0
  rw [Try.params5] at hA hval
  obtain ⟨v0, vs0, d0, ds0, p0, q0, hargs0, rfl, rfl, h0, r0⟩ := trodAll_cons hA
  obtain ⟨rfl, rfl, rfl⟩ := trodAll_nil r0
  obtain rfl : args = #[v0] := by cases args; simp_all
  obtain ⟨rfl, rfl⟩ := trodVars_none hV
  obtain ⟨l0, m0, k0, al0, am0, ak0, cl0, cm0, ck0, rfl, z1, z2, z3, z4, z5, z6, z7, z8, z9⟩ := open_poly (hval 0 38 v0 rfl rfl) h0
  clear hA0 hval0
  have hlt0 : ∀ x ∈ p0, x.block < W.heap.size := fun x hx => by simpa using hW'.lt x (by simpa using hx)
  simp only [List.append_nil] at hW'
  refine (vright_l l0 m0 k0 al0 am0 ak0 cl0 cm0 ck0 W z1 z2 z3 z4 z5 z6 z7 z8 z9).mono fun e W' h => ?_
  obtain ⟨he, hb⟩ := h
  subst he
  have hargs9 : DataW.TrodAll enc Try.prog W' 0 (fun b => decide (b < W.heap.size)) true [38] [.agg #[.slice al0 l0.length cl0, .slice am0 m0.length cm0, .slice ak0 k0.length ck0]] [d0] p0 := by
    simpa using trodAll_cons_mk (Below.trod (by kernel_rfl) (by kernel_rfl) (of_decide_eq_true (by kernel_rfl)) h0 hb hlt0) trodAll_mk0
  exact ⟨_, rfl, _, _, _, [], p0, [], hW', trodAll_cons_mk (shut_bool Try.underlying4 _) trodAll_mk0, hargs9, rfl, hb.frame _, fun h => by cases h⟩

theorem proved : Rows.ValidRightSaid :=
  OpenClaim.holds_of_wide 5 Try.f5 rfl rfl rfl rfl rfl rfl rfl ⟨rfl, rfl, rfl, rfl, rfl⟩ rfl rfl rfl rfl rfl (by kernel_rfl) Try.func5 (by kernel_rfl)
    (of_decide_eq_true (by kernel_rfl)) (by unfold Func.isWrapper; first | (rw [if_pos (by decide +kernel)]; kernel_rfl) | (rw [if_neg (by decide +kernel)]; exact ⟨rfl, rfl⟩))
    (fun os started H enc _ => lifted os started H enc)
end Go.Proofs.Ytiebmlhglgpajaa.validRight
