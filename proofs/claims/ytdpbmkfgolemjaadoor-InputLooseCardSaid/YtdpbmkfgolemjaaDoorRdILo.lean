/-
  The walk of the law InputLoose.
-/
import Derived.Test.YtdpbmkfgolemjaaDoorRdBigs
import Derived.Test.YtdpbmkfgolemjaaDoorOpRefP
set_option linter.unusedVariables false
set_option linter.unusedSimpArgs false
set_option linter.deprecated false
namespace Go.Proofs.YtdpbmkfgolemjaaDoor
open Go.RowKit Go.Maps

theorem long_of5 {p l i : List (Int × Int)} (h : okI5 p l i = true) : (decide (300 < p.length) || decide (500 < l.length) || decide (500 < i.length)) = false := by
  have hf := fit_of5 h
  have a := hf.lp
  have b := hf.ll
  have c := hf.li
  rw [decide_eq_false (by omega), decide_eq_false (by omega), decide_eq_false (by omega)]
  rfl
/-- the gaps' row -/
def Gaps5 (g : Nat) (W : World) : Prop := ∀ k, k < 5 → W.cell? ⟨g, k, none⟩ = some (.string (gapB5 k))
theorem Gaps5.below {g : Nat} {W W' : World} (h : Gaps5 g W) (hg : g < W.heap.size) (hb : Below W.heap.size W W') : Gaps5 g W' := fun k hk => (hb.cell (p := ⟨g, k, none⟩) hg).trans (h k hk)
theorem gaps_new5 (W : World) (T : TypeId) : Gaps5 W.heap.size (W.alloc (.cells #[.string ⟨#[32]⟩, .string ⟨#[10]⟩, .string ⟨#[9, 13, 32]⟩, .string ⟨#[32, 35, 32, 112, 111, 108, 121, 32, 49, 10]⟩, .string ⟨#[10, 10, 35, 10]⟩] T)) := by
  intro k hk
  match k, hk with
  | 0, _ => simp [go_sem, gapB5]
  | 1, _ => simp [go_sem, gapB5]
  | 2, _ => simp [go_sem, gapB5]
  | 3, _ => simp [go_sem, gapB5]
  | 4, _ => simp [go_sem, gapB5]
structure Lo5 (w : World) (g1 : Nat) (vs : List Value) (g o : Nat) (ts : List (Nat × ByteArray)) (gg : Nat) (W : World) : Prop where
  hb : Below w.heap.size w W
  var : Var W g1 vs
  tok : TokCells W (some ⟨g, o, none⟩) ts
  gap : Gaps5 gg W
  lt : gg < W.heap.size
theorem Lo5.turn {w : World} {g1 : Nat} {vs : List Value} {g o : Nat} {ts : List (Nat × ByteArray)} {gg : Nat} {W W' : World} (h : Lo5 w g1 vs g o ts gg W) (hb : Below W.heap.size W W') : Lo5 w g1 vs g o ts gg W' :=
  ⟨bl_trans h.hb hb, h.var.below hb, tok_below6 h.tok hb, h.gap.below h.lt hb, Nat.lt_of_lt_of_le h.lt hb.size⟩
/-- the gap's number -/
def gapK5 (s : ByteArray) (j : Nat) : Nat := if h : j < s.size then (s[j]'h).toNat % 5 else 0
theorem gapK_lt5 (s : ByteArray) (j : Nat) : gapK5 s j < 5 := by
  unfold gapK5
  split
  · exact Nat.mod_lt _ (by decide)
  · decide
set_option maxHeartbeats 16000000 in
set_option maxRecDepth 100000 in
theorem iloose_l5 (p l i : List (Int × Int)) (ap al ai : Option Addr) (cp cl ci : Nat) (ad : Option Addr) (cb : Nat) (sg : ByteArray) (hcap : sg.size ≤ cb) (w : World) (hT : Tab5 w) (hA : PolB5 w ap al ai cp cl ci p l i) (hB : BytesIn w ad sg) :
    Calls Tryd.prog 8 #[.agg #[.slice ap p.length cp, .slice al l.length cl, .slice ai i.length ci], .slice ad sg.size cb] w (Gives (.bool true) w) := by
  have HT := Lib.hid hT
  have HA := Lib.hid hA
  have HB0 := Lib.hid hB
  have KN := Lib.hid (fun W h => known_l5 W h)
  have LG := Lib.hid (fun W => long_l5 p.length l.length i.length ap al ai cp cl ci W)
  clear hT hA hcap hB
  go_enter Tryd.func8, Tryd.ntmps8
  go_upto_region 1 with (fail)
  obtain ⟨g1, hg1⟩ : ∃ g, w.heap.size = g := ⟨_, rfl⟩
  refine wp_abs (fun V => Below w.heap.size w V ∧ Var V g1 [.slice ap p.length cp, .slice al l.length cl, .slice ai i.length ci]) ?_ ?_
  · exact ⟨by repeat (first | (with_reducible exact Below.refl _ _) | (with_reducible refine bl_alloc ?_ _) | (with_reducible refine Below.drew ?_) | (with_reducible refine below_drewN' ?_ _) | ((with_reducible refine bl_set ?_ ?_ _); (rotate_left; (dsimp only; omega)))), var3o_new _ _ _ _ _ _ hg1.symm⟩
  rintro W0 hS
  have HS := Lib.hid hS
  try rw [hg1]
  clear hS hg1
  obtain ⟨k0, k1, k2⟩ := HS.out.2.three6
  obtain ⟨c, hc⟩ : ∃ c, okI5 p l i = c := ⟨_, rfl⟩
  have HC := Lib.hid hc
  clear hc
  cases c
  case false =>
    have PR := Lib.hid (print_noB5 (HA.out.below HS.out.1) HC.out)
    obtain ⟨B, hB⟩ : ∃ B, (decide (300 < p.length) || decide (500 < l.length) || decide (500 < i.length)) = B := ⟨_, rfl⟩
    rw [hB] at LG
    clear hB
    go_wp2_with fail
    (with_reducible refine PR.out.mono ?_); rintro e w3 ⟨rfl, hb1⟩
    replace HS := Lib.hid (show Below w.heap.size w _ ∧ Var _ g1 [.slice ap p.length cp, .slice al l.length cl, .slice ai i.length ci] from ⟨bl_trans HS.out.1 hb1, HS.out.2.below hb1⟩)
    clear hb1 PR k0 k1 k2
    obtain ⟨k0, k1, k2⟩ := HS.out.2.three6
    go_wp2_with fail
    (with_reducible refine (LG.out _).mono ?_); rintro e w4 ⟨rfl, hb1⟩
    replace HS := Lib.hid (show Below w.heap.size w _ ∧ Var _ g1 [.slice ap p.length cp, .slice al l.length cl, .slice ai i.length ci] from ⟨bl_trans HS.out.1 hb1, HS.out.2.below hb1⟩)
    clear hb1 LG k0 k1 k2
    cases B
    all_goals
      go_wp2_with fail
      (with_reducible refine (KN.out _ (HT.out.below HS.out.1)).mono ?_); rintro e w9 ⟨rfl, hb9⟩
      have HB9 := Lib.hid (bl_trans HS.out.1 hb9)
      clear hb9
      go_wp2_with fail
      go_ret
      exact ⟨rfl, HB9.out⟩
  have hf := fit_of5 HC.out
  have HAS := Lib.hid (HA.out.small (by have := hf.lp; omega) (by have := hf.ll; omega) (by have := hf.li; omega))
  have PR := Lib.hid (print_ok5 (HAS.out.below HS.out.1) (HT.out.below HS.out.1) HC.out)
  rw [long_of5 HC.out] at LG
  have hf4 : Hid (p.length ≤ 200 ∧ l.length ≤ 400 ∧ i.length ≤ 400) := ⟨hf.lp, hf.ll, hf.li⟩
  clear hf
  go_wp2_with fail
  (with_reducible refine PR.out.mono ?_); rintro e w3 ⟨s, rfl, hs, hb1⟩
  have HSN := Lib.hid hs
  replace HS := Lib.hid (show Below w.heap.size w _ ∧ Var _ g1 [.slice ap p.length cp, .slice al l.length cl, .slice ai i.length ci] from ⟨bl_trans HS.out.1 hb1, HS.out.2.below hb1⟩)
  clear hb1 hs PR k0 k1 k2
  obtain ⟨k0, k1, k2⟩ := HS.out.2.three6
  by_cases hg3 : 3000 < sg.size
  · have b1 : ((3000 : Int) < (sg.size : Int)) = True := eq_true (by omega)
    go_wp2_with fail
    (with_reducible refine (LG.out _).mono ?_); rintro e w4 ⟨rfl, hb1⟩
    replace HS := Lib.hid (show Below w.heap.size w _ ∧ Var _ g1 [.slice ap p.length cp, .slice al l.length cl, .slice ai i.length ci] from ⟨bl_trans HS.out.1 hb1, HS.out.2.below hb1⟩)
    clear hb1 LG k0 k1 k2
    go_wp2_with fail
    (with_reducible refine (KN.out _ (HT.out.below HS.out.1)).mono ?_); rintro e w9 ⟨rfl, hb9⟩
    have HB9 := Lib.hid (bl_trans HS.out.1 hb9)
    clear hb9
    go_wp2_with fail
    go_ret
    exact ⟨rfl, HB9.out⟩
  have b1 : ((3000 : Int) < (sg.size : Int)) = False := eq_false (by omega)
  have HG3 : Hid (sg.size ≤ 3000) := by unfold Hid; omega
  clear hg3
  have hsz : s.size ≤ 20000 := by rw [← nums_length, HSN.out]; exact text_len5 (fit_of5 HC.out)
  have HSZ := Lib.hid hsz
  have HNL : Hid (4 ≤ (wordsOf s).length ∧ (wordsOf s).length ≤ 2004 ∧ (wordsOf s).length = (lay5 p l i).length) := by
    have h := lay_count5 (fit_of5 HC.out)
    have h2 := lay_len5 p l i
    have h3 := words_len5 HC.out HSN.out
    have h4 : 3 ≤ (numsI5 p l i).length := by unfold numsI5; simp
    unfold Hid
    omega
  have HAL := Lib.hid (fun W cp5 h1 h2 => refAll_w6 (some ⟨W, 0, none⟩) cp5 s (by omega) h1 h2)
  clear hsz
  go_wp2_with fail
  (with_reducible refine (LG.out _).mono ?_); rintro e w4 ⟨rfl, hb1⟩
  replace HS := Lib.hid (show Below w.heap.size w _ ∧ Var _ g1 [.slice ap p.length cp, .slice al l.length cl, .slice ai i.length ci] from ⟨bl_trans HS.out.1 hb1, HS.out.2.below hb1⟩)
  clear hb1 LG k0 k1 k2
  obtain ⟨w5, cp5, hcp5, hcv, hb5, hB5⟩ := bytes_cap5 s w4
  have HAX := Lib.hid (HAL.out _ cp5 hcp5 w5 hB5)
  replace HS := Lib.hid (show Below w.heap.size w _ ∧ Var _ g1 [.slice ap p.length cp, .slice al l.length cl, .slice ai i.length ci] from ⟨bl_trans HS.out.1 hb5, HS.out.2.below hb5⟩)
  clear hb5 hB5 hcp5 HAL
  go_wp2_with fail
  (with_reducible refine HAX.out.mono ?_); rintro e w6 ⟨ad1, cp1, rfl, hT1, hg1, hb1⟩
  have HTK := Lib.hid hT1
  replace HS := Lib.hid (show Below w.heap.size w _ ∧ Var _ g1 [.slice ap p.length cp, .slice al l.length cl, .slice ai i.length ci] from ⟨bl_trans HS.out.1 hb1, HS.out.2.below hb1⟩)
  clear hT1 hg1 hb1 HAX hcv b1
  obtain ⟨L, hL⟩ : ∃ L, (wordsOf s).length = L := ⟨_, rfl⟩
  obtain ⟨g, o, rfl, -⟩ := HTK.out 0 (by have := HNL.out; omega)
  have HLL := Lib.hid hL
  rw [hL] at HNL
  rw [hL]
  have l1 : ((L : Int) < 4) = False := eq_false (by have := HNL.out; omega)
  have l2 : (L < 4) = False := eq_false (by have := HNL.out; omega)
  have hgl : g < w6.heap.size := by
    obtain ⟨g', o', e, h1, -⟩ := HTK.out 0 (by have := HNL.out; omega)
    cases e
    exact cell_lt h1
  clear hL
  go_upto_region 8 with (fail)
  clear l1 l2
  obtain ⟨gg, hgg⟩ : ∃ gg, w6.heap.size = gg := ⟨_, rfl⟩
  refine wp_abs (fun V => Lo5 w g1 [.slice ap p.length cp, .slice al l.length cl, .slice ai i.length ci] g o (wordsOf s) gg V) ?_ ?_
  · exact ⟨bl_trans HS.out.1 (by repeat (first | (with_reducible exact Below.refl _ _) | (with_reducible refine bl_alloc ?_ _) | (with_reducible refine Below.drew ?_) | (with_reducible refine below_drewN' ?_ _) | ((with_reducible refine bl_set ?_ ?_ _); (rotate_left; (dsimp only; omega))))), HS.out.2.below (by repeat (first | (with_reducible exact Below.refl _ _) | (with_reducible refine bl_alloc ?_ _) | (with_reducible refine Below.drew ?_) | (with_reducible refine below_drewN' ?_ _) | ((with_reducible refine bl_set ?_ ?_ _); (rotate_left; (dsimp only; omega))))), tok_below6 HTK.out (by repeat (first | (with_reducible exact Below.refl _ _) | (with_reducible refine bl_alloc ?_ _) | (with_reducible refine Below.drew ?_) | (with_reducible refine below_drewN' ?_ _) | ((with_reducible refine bl_set ?_ ?_ _); (rotate_left; (dsimp only; omega))))), hgg ▸ gaps_new5 w6 _, by simp; omega⟩
  rintro W7 hS
  have HS7 := Lib.hid hS
  try rw [hgg]
  clear hS HS HTK hgg hgl
  go_wp2_with fail
  obtain ⟨F, hF⟩ : ∃ F, gapK5 sg = F := ⟨_, rfl⟩
  have HF := Lib.hid hF
  have HFL : Hid (∀ j, F j < 5) := by rw [← hF]; exact gapK_lt5 sg
  clear hF
  go_loopw [10, 11] (fun tv iv W => ∃ (j : Nat) (t : ByteArray), tv = .string t ∧ iv = .int .i64 (j : Int) ∧ j ≤ L ∧ Hid (nums t = hash5 ++ layG (loose5 (lay5 p l i) F j)) ∧ t.size ≤ 3 + 18 * j ∧ Lo5 w g1 [.slice ap p.length cp, .slice al l.length cl, .slice ai i.length ci] g o (wordsOf s) gg W) (fun _ iv _ => 3000 - (intOf iv).toNat)
  case atStart => exact ⟨0, _, rfl, rfl, Nat.zero_le _, rfl, Nat.le_refl _, HS7.out⟩
  case round =>
    obtain ⟨j, t, rfl, rfl, hj, HTN, htl, hS⟩ := hrel
    clear HS7
    have HS7 := Lib.hid hS
    clear hS
    by_cases hlt : j < L
    · have b1 : ((j : Int) < (L : Int)) = True := eq_true (by omega)
      have b2 : (j < L) = True := eq_true hlt
      obtain ⟨⟨a, x⟩, hx⟩ : ∃ x, (wordsOf s)[j]'(by rw [HLL.out]; exact hlt) = x := ⟨_, rfl⟩
      obtain ⟨c0, c1⟩ := tok_at6 HS7.out.tok (by rw [HLL.out]; exact hlt) hx
      obtain ⟨hk2, -, hxt⟩ := word_at5 HC.out HSN.out (by rw [HLL.out]; exact hlt) hx
      have hx8 : x.size ≤ 8 := by rw [← nums_length, hxt]; exact lay_small5 (fit_of5 HC.out) _ (List.getElem_mem hk2)
      have hxt2 : nums x = ((lay5 p l i).getD j ([], [])).1 := by rw [hxt, List.getD_eq_getElem?_getD, List.getElem?_eq_getElem hk2]; rfl
      have HXT := Lib.hid hxt2
      obtain ⟨k, hk⟩ : ∃ k, F j = k := ⟨_, rfl⟩
      have hk5 : k < 5 := by rw [← hk]; exact HFL.out j
      obtain ⟨gb, hgb⟩ : ∃ gb, gapB5 k = gb := ⟨_, rfl⟩
      have hgs : gb.size ≤ 10 := by rw [← hgb]; exact gapB_size5 k
      have c2 := HS7.out.gap k hk5
      rw [hgb] at c2
      have HK := Lib.hid hk
      have HGB := Lib.hid hgb
      have HJ : Hid (j < L ∧ L ≤ 2004) := by have := HNL.out; unfold Hid; omega
      have HK5 := Lib.hid hk5
      have HTL := Lib.hid htl
      have HX8 := Lib.hid hx8
      have HGS := Lib.hid hgs
      clear hx hk2 hxt hxt2 hgb hk htl hx8 hgs
      go_upto_region 13 with (fail)
      go_upto_if 56 with (fail)
      go_cut [12] (fun kv W => kv = .int .i64 (k : Int) ∧ W = wr)
      case first =>
        have hkd := HK.out
        rw [← HF.out] at hkd
        unfold gapK5 at hkd
        by_cases hjs : j < sg.size
        · rw [dif_pos hjs] at hkd
          obtain ⟨gb0, ob0, ead, cb0⟩ := (HB0.out.below HS7.out.hb) j hjs
          subst ead
          obtain ⟨z, hz⟩ : ∃ z : Nat, (sg[j]'hjs).toNat = z := ⟨_, rfl⟩
          have hz2 : z < 256 := by rw [← hz]; exact UInt8.toNat_lt _
          have d1 : ((j : Int) < (sg.size : Int)) = True := eq_true (by omega)
          have d2 : (j < sg.size) = True := eq_true hjs
          have d3 : (z : Int) % 5 = (k : Int) := by omega
          rw [hz] at cb0
          clear hkd hz
          have d4 := (wnat5 (k := k) (by omega)).1
          have d5 : IntKind.u8.wrap (k : Int) = (k : Int) := IntWalk.u8_in _ (by omega)
          go_wp2_with fail
          go_meet
          case rel => exact ⟨by first | rfl | simp [d4], rfl⟩
        · rw [dif_neg hjs] at hkd
          subst hkd
          have d1 : ((j : Int) < (sg.size : Int)) = False := eq_false (by omega)
          have d2 : (j < sg.size) = False := eq_false hjs
          go_wp2_with fail
          go_meet
          case rel => exact ⟨rfl, rfl⟩
      case rest =>
      obtain ⟨rfl, rfl⟩ := hcut
      obtain ⟨u, hu⟩ : ∃ u, t ++ x = u := ⟨_, rfl⟩
      obtain ⟨t', ht'⟩ : ∃ t', u ++ gb = t' := ⟨_, rfl⟩
      have hus : u.size = t.size + x.size := by rw [← hu, ByteArray.size_append]
      have hts : t'.size = u.size + gb.size := by rw [← ht', ByteArray.size_append]
      have HT2 : Hid (t'.size ≤ 3 + 18 * (j + 1)) := by have := HTL.out; have := HX8.out; have := HGS.out; unfold Hid; omega
      have HTN2 : Hid (nums t' = hash5 ++ layG (loose5 (lay5 p l i) F (j + 1))) := by
        unfold Hid
        rw [loose_succ5, layG_app, ← ht', ← hu, nums_append, nums_append, HTN.out, HXT.out, HK.out, HGB.out]
        simp [layG]
      have q3 : ((k : Int) < 5) = True := eq_true (by have := HK5.out; omega)
      have q4 : (k < 5) = True := eq_true HK5.out
      have q5 : ((0 : Int) ≤ (k : Int)) = True := eq_true (by omega)
      have q6 : ((0 : Int) ≤ (j : Int)) = True := eq_true (by omega)
      obtain ⟨j2, hj2⟩ : ∃ j2, j + 1 = j2 := ⟨_, rfl⟩
      rw [hj2] at HT2 HTN2
      have v1 : j2 ≤ 100000 := by have := HJ.out; omega
      have HJ2 : Hid (j2 ≤ L ∧ j < j2 ∧ j2 ≤ 2004) := by have := HJ.out; unfold Hid; omega
      have q7 : (j : Int) + 1 = (j2 : Int) := by omega
      have HQ7 := Lib.hid q7
      have hs1 : t.size + x.size ≤ 9223372036854775807 := by have := HTL.out; have := HX8.out; have := HJ.out; omega
      have hs2 : u.size + gb.size ≤ 9223372036854775807 := by have := HTL.out; have := HX8.out; have := HGS.out; have := HJ.out; omega
      have HS12 := Lib.hid (And.intro hs1 hs2)
      clear hus hts hj2 q7 hs1 hs2 hlt hj
      have q8 := (wnat5 v1).1
      have HQ8 := Lib.hid q8
      clear q8 v1
      have q1 : (9223372036854775807 < t.size + x.size) = False := eq_false (Nat.not_lt.2 HS12.out.1)
      have q2 : (9223372036854775807 < u.size + gb.size) = False := eq_false (Nat.not_lt.2 HS12.out.2)
      go_upto_region 15 with (fail)
      go_region
      have HS8 := Lib.hid (HS7.out.turn (bel_drew _))
      clear q1 q2 q3 q4 q5 q6 c0 c1 c2
      have q7 := HQ7.out
      have q8 := HQ8.out
      go_wp2
      go_roundw
      case rel => exact ⟨j2, t', by first | rfl | simp, by first | rfl | exact congrArg _ q8 | simp [q8], HJ2.out.1, HTN2.out, HT2.out, HS8.out⟩
      case measure =>
        have hv := HJ2.out
        try rw [q8]
        clear q8 q7
        simp only [intOf, Int.toNat_natCast]
        omega
    · obtain rfl : j = L := by omega
      have b1 : ((j : Int) < (j : Int)) = False := eq_false (by omega)
      have hlr := loose_read5 HC.out F (u := t) (by rw [HTN.out, HNL.out.2.2])
      have hl4 := hf4.out
      obtain ⟨wv, cpv, hcw, hcv, hbv, hBv⟩ := bytes_cap5 t wr
      have PA := Lib.hid (parse_w5 t (by have := HNL.out; omega) hlr.2.1 hlr.2.2 _ cpv wv hBv hlr.1 ⟨by dsimp only; omega, by dsimp only; omega, by dsimp only; omega⟩)
      have HS := Lib.hid (And.intro (bl_trans HS7.out.hb hbv) (HS7.out.var.below hbv))
      clear hcw hbv hBv hlr hl4 htl hlt hj HS7
      go_wp2_with fail
      (with_reducible refine PA.out.mono ?_); rintro e w11 ⟨ap2, cp2, al2, cl2, ai2, ci2, rfl, hq6, hb1⟩
      replace HS := Lib.hid (And.intro (bl_trans HS.out.1 hb1) (HS.out.2.below hb1))
      have HQ6 := Lib.hid hq6
      clear hb1 hq6 PA hcv
      dsimp only
      obtain ⟨g4, hg4⟩ : ∃ g, w11.heap.size = g := ⟨_, rfl⟩
      go_upto_region 17 with (fail)
      refine wp_abs (fun V => Below w.heap.size w V ∧ Var V g1 [.slice ap p.length cp, .slice al l.length cl, .slice ai i.length ci] ∧ Var V g4 [.slice ap2 p.length cp2, .slice al2 l.length cl2, .slice ai2 i.length ci2] ∧ Pol5 V ap2 al2 ai2 cp2 cl2 ci2 p l i) ?_ ?_
      · exact ⟨bl_trans HS.out.1 (by repeat (first | (with_reducible exact Below.refl _ _) | (with_reducible refine bl_alloc ?_ _) | (with_reducible refine Below.drew ?_) | (with_reducible refine below_drewN' ?_ _) | ((with_reducible refine bl_set ?_ ?_ _); (rotate_left; (dsimp only; omega))))), HS.out.2.below (by repeat (first | (with_reducible exact Below.refl _ _) | (with_reducible refine bl_alloc ?_ _) | (with_reducible refine Below.drew ?_) | (with_reducible refine below_drewN' ?_ _) | ((with_reducible refine bl_set ?_ ?_ _); (rotate_left; (dsimp only; omega))))), var3o_new _ _ _ _ _ _ hg4.symm, HQ6.out.below (by repeat (first | (with_reducible exact Below.refl _ _) | (with_reducible refine bl_alloc ?_ _) | (with_reducible refine Below.drew ?_) | (with_reducible refine below_drewN' ?_ _) | ((with_reducible refine bl_set ?_ ?_ _); (rotate_left; (dsimp only; omega)))))⟩
      rintro W12 hS12
      replace HS := Lib.hid hS12
      try rw [hg4]
      clear hS12 hg4 HQ6
      obtain ⟨k0, k1, k2⟩ := HS.out.2.1.three6
      obtain ⟨x0, x1, x2⟩ := HS.out.2.2.1.three6
      have SM := Lib.hid (same_l5 p l i p l i ap2 al2 ai2 ap al ai cp2 cl2 ci2 cp cl ci W12 HS.out.2.2.2 (HAS.out.below HS.out.1))
      rw [show (decide (p = p) && decide (l = l) && decide (i = i)) = true by simp] at SM
      go_wp2_with fail
      (with_reducible refine SM.out.mono ?_); rintro e w18 ⟨rfl, hb8⟩
      replace HS := Lib.hid (And.intro (bl_trans HS.out.1 hb8) True.intro)
      clear hb8 SM x0 x1 x2 k0 k1 k2
      go_wp2_with fail
      (with_reducible refine (KN.out _ (HT.out.below HS.out.1)).mono ?_); rintro e w9 ⟨rfl, hb9⟩
      have HB9 := Lib.hid (bl_trans HS.out.1 hb9)
      clear hb9
      go_wp2_with fail
      go_ret
      exact ⟨rfl, HB9.out⟩
end Go.Proofs.YtdpbmkfgolemjaaDoor
