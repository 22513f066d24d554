/-
  The document's line of two numbers.
-/
import Derived.Test.YtdpbmkfgolemjaaDoorRdPrints
import Derived.Test.YtdpbmkfgolemjaaDoorOpPrts
import Derived.Test.YtdpbmkfgolemjaaDoorRdChks
set_option linter.unusedVariables false
set_option linter.unusedSimpArgs false
set_option linter.deprecated false
namespace Go.Proofs.YtdpbmkfgolemjaaDoor
open Go.RowKit

theorem big7 : (10000000 : Int) < BIG := by
  have := p16le 20 (by decide)
  have e : (10000000 : Int) < 16 ^ 20 := by decide
  omega
theorem num_text5 (z : Int) (h : In7 z) : nums (strOfNums (textZ z)) = textZ z ∧ (strOfNums (textZ z)).size ≤ 8 := by
  have hb := big7
  have h' := h
  unfold In7 at h'
  have e : nums (strOfNums (textZ z)) = textZ z := textZ_nums (by omega) (by omega) rfl
  exact ⟨e, by rw [← nums_length, e]; exact textZ_len5 z h.1 h.2⟩
set_option maxHeartbeats 8000000 in
set_option maxRecDepth 100000 in
theorem two_l5 (a b : Int) (h1 : In7 a) (h2 : In7 b) (w : World) :
    Calls Tryd.prog 28 #[.int .i64 a, .int .i64 b] w fun e W => ∃ s : ByteArray, e = .returned (.string s) ∧ nums s = lineZ [a, b] ∧ Below w.heap.size w W := by
  have HA := Lib.hid (num_text5 a h1)
  have HB := Lib.hid (num_text5 b h2)
  have hbig := big7
  unfold In7 at h1 h2
  have CA := Lib.hid (fun W => small_num a (by omega) (by omega) W)
  have CB := Lib.hid (fun W => small_num b (by omega) (by omega) W)
  have TA := Lib.hid (fun v W h => refText_num v a W h ⟨by omega, by omega⟩)
  have TB := Lib.hid (fun v W h => refText_num v b W h ⟨by omega, by omega⟩)
  have HL : Hid (lineZ [a, b] = textZ a ++ 32 :: (textZ b ++ [10])) := rfl
  generalize strOfNums (textZ a) = ta at *
  generalize strOfNums (textZ b) = tb at *
  clear h1 h2 hbig
  go_enter Tryd.func28, Tryd.ntmps28
  go_wp2_with fail
  (with_reducible refine (CA.out _).mono ?_); rintro e w1 ⟨v, rfl, hv, hb1⟩
  have HT1 := Lib.hid (TA.out v w1 hv)
  have HB1 := Lib.hid hb1
  obtain ⟨x, ad, n, c, f, rfl, -⟩ := hv
  clear hb1 CA TA
  go_wp2_with fail
  (with_reducible refine HT1.out.mono ?_); rintro e w2 ⟨rfl, hb2⟩
  have HB2 := Lib.hid (bl_trans HB1.out hb2)
  have hsa := HA.out.2
  have hsb := HB.out.2
  clear hb2 HT1
  go_wp2_with fail
  (with_reducible refine (CB.out _).mono ?_); rintro e w3 ⟨v, rfl, hv, hb3⟩
  have HT3 := Lib.hid (TB.out v w3 hv)
  have HB3 := Lib.hid (bl_trans HB2.out hb3)
  obtain ⟨x2, ad2, n2, c2, f2, rfl, -⟩ := hv
  clear hb3 CB TB
  go_wp2_with fail
  (with_reducible refine HT3.out.mono ?_); rintro e w4 ⟨rfl, hb4⟩
  have HB4 := Lib.hid (bl_trans HB3.out hb4)
  clear hb4 HT3
  go_wp2_with fail
  go_ret
  exact ⟨_, rfl, by rw [HL.out]; simp only [nums_append, HA.out.1, HB.out.1, List.append_assoc]; rfl, HB4.out⟩
end Go.Proofs.YtdpbmkfgolemjaaDoor

/-
  The document's Print of an input.
-/
namespace Go.Proofs.YtdpbmkfgolemjaaDoor
open Go.RowKit

set_option maxHeartbeats 16000000 in
set_option maxRecDepth 100000 in
theorem rprint_l5 (p l i : List (Int × Int)) (ap al ai : Option Addr) (cp cl ci : Nat) (w : World) (hA : Pol5 w ap al ai cp cl ci p l i) :
    Calls Tryd.prog 15 #[.agg #[.slice ap p.length cp, .slice al l.length cl, .slice ai i.length ci]] w (PrintP5 p l i w) := by
  have HA := Lib.hid hA
  clear hA
  go_enter Tryd.func15, Tryd.ntmps15
  go_upto_region 1 with (fail)
  obtain ⟨gp, hgp⟩ : ∃ gp, w.heap.size = gp := ⟨_, rfl⟩
  refine wp_abs (fun V => Below w.heap.size w V ∧ Var V gp [.slice ap p.length cp, .slice al l.length cl, .slice ai i.length ci]) ?_ ?_
  · exact ⟨by repeat (first | (with_reducible exact Below.refl _ _) | (with_reducible refine bl_alloc ?_ _) | (with_reducible refine Below.drew ?_) | (with_reducible refine below_drewN' ?_ _) | ((with_reducible refine bl_set ?_ ?_ _); (rotate_left; (dsimp only; omega)))), var3o_new _ _ _ _ _ _ hgp.symm⟩
  rintro W0 hS0
  have HS0 := Lib.hid hS0
  rw [hgp]
  have CK := Lib.hid (refCheck_l5 p l i ap al ai cp cl ci W0 (HA.out.below HS0.out.1))
  clear hS0 hgp
  obtain ⟨o0, o1, o2⟩ := HS0.out.2.three6
  go_wp2_with fail
  (with_reducible refine CK.out.mono ?_); rintro e w1 ⟨rfl, hb1⟩
  have HS := Lib.hid (And.intro (bl_trans HS0.out.1 hb1) (HS0.out.2.below hb1))
  clear hb1 HS0 CK o0 o1 o2
  obtain ⟨c, hc⟩ : ∃ c, okI5 p l i = c := ⟨_, rfl⟩
  have he : firstE5 p l i = if c then 0 else 2 := by unfold firstE5; rw [hc]
  have HC := Lib.hid hc
  rw [he]
  clear he
  cases c
  · simp only [Bool.false_eq_true, if_false]
    go_wp2_with fail
    go_ret2
    exact ⟨.inl ⟨HC.out, rfl⟩, HS.out.1⟩
  simp only [if_true]
  have HF := Lib.hid (fit_of5 hc)
  clear hc
  have i1 : In7 (p.length : Int) := by have := HF.out.lp; unfold In7; omega
  have i2 : In7 (l.length : Int) := by have := HF.out.ll; unfold In7; omega
  have i3 : In7 (i.length : Int) := by have := HF.out.li; unfold In7; omega
  have HNA := Lib.hid (num_text5 (p.length : Int) i1)
  have hbig := big7
  have CA := Lib.hid (fun W => small_num (p.length : Int) (by unfold In7 at i1; omega) (by unfold In7 at i1; omega) W)
  have TA := Lib.hid (fun v W h => refText_num v (p.length : Int) W h ⟨by unfold In7 at i1; omega, by unfold In7 at i1; omega⟩)
  have C2 := Lib.hid (fun W => two_l5 (l.length : Int) (i.length : Int) i2 i3 W)
  have HPL : Hid ((lineZ [(l.length : Int), (i.length : Int)]).length ≤ 18) := pair_len5 ((l.length : Int), (i.length : Int)) i2 i3
  have HHD : Hid (headZ p l i = wPoly5 ++ 32 :: (textZ (p.length : Int) ++ 32 :: lineZ [(l.length : Int), (i.length : Int)])) := rfl
  generalize strOfNums (textZ (p.length : Int)) = ta at *
  have hta := HNA.out.2
  clear i1 i2 i3 hbig
  go_upto_region 4 with (fail)
  refine wp_region_held_drew (S := fun V => Below w.heap.size w V ∧ Var V gp [.slice ap p.length cp, .slice al l.length cl, .slice ai i.length ci]) (by kernel_rfl) ?_ (fun hHeld => ?_)
  · exact ⟨bl_trans HS.out.1 (bel_drew _), HS.out.2.below (bel_drew _)⟩
  revert hHeld
  generalize World.drew _ = W1
  intro hHeld 
  refine wpAnyH_take (i := 0) (v := ?_) rfl (by kernel_rfl) (by kernel_rfl) (by kernel_rfl) (fun _ _ _ h => h) (Or.inl ⟨by rfl, ?_⟩) (by assumption) ?_
  rotate_left
  · intro Wq hSw
    clear hSw
    go_simp
    all_goals (with_reducible rfl)
  try simp only [Act.put, List.getElem_toArray, List.getElem_cons_zero, List.setIfInBounds_toArray, List.set_cons_zero, List.set_cons_succ]
  refine wpAnyH_take (i := 1) (v := ?_) rfl (by kernel_rfl) (by kernel_rfl) (by kernel_rfl) (fun _ _ _ h => h) (Or.inl ⟨by rfl, ?_⟩) (by assumption) ?_
  rotate_left
  · intro Wq hSw
    obtain ⟨k0, k1, k2⟩ := hSw.2.three6
    clear hSw
    go_simp
    all_goals (with_reducible rfl)
  try simp only [Act.put, List.getElem_toArray, List.getElem_cons_succ, List.getElem_cons_zero, List.setIfInBounds_toArray, List.set_cons_zero, List.set_cons_succ]
  refine wpAnyH_take (i := 2) (v := ?_) rfl (by kernel_rfl) (by kernel_rfl) (by kernel_rfl) (fun _ _ _ h => h) (Or.inl ⟨by rfl, ?_⟩) (by assumption) ?_
  rotate_left
  · intro Wq hSw
    clear hSw
    go_simp
    all_goals (with_reducible rfl)
  try simp only [Act.put, List.getElem_toArray, List.getElem_cons_succ, List.getElem_cons_zero, List.setIfInBounds_toArray, List.set_cons_zero, List.set_cons_succ]
  refine wpAnyH_take (i := 7) (v := ?_) rfl (by kernel_rfl) (by kernel_rfl) (by kernel_rfl) (fun _ _ _ h => h) (Or.inl ⟨by rfl, ?_⟩) (by assumption) ?_
  rotate_left
  · intro Wq hSw
    clear hSw
    go_simp
    all_goals (with_reducible rfl)
  try simp only [Act.put, List.getElem_toArray, List.getElem_cons_succ, List.getElem_cons_zero, List.setIfInBounds_toArray, List.set_cons_zero, List.set_cons_succ]
  refine wpAnyH_take (i := 8) (v := ?_) rfl (by kernel_rfl) (by kernel_rfl) (by kernel_rfl) (fun _ _ _ h => h) (Or.inl ⟨by rfl, ?_⟩) (by assumption) ?_
  rotate_left
  · intro Wq hSw
    obtain ⟨k0, k1, k2⟩ := hSw.2.three6
    clear hSw
    go_simp
    all_goals (with_reducible rfl)
  try simp only [Act.put, List.getElem_toArray, List.getElem_cons_succ, List.getElem_cons_zero, List.setIfInBounds_toArray, List.set_cons_zero, List.set_cons_succ]
  refine wpAnyH_take (i := 9) (v := ?_) rfl (by kernel_rfl) (by kernel_rfl) (by kernel_rfl) (fun _ _ _ h => h) (Or.inl ⟨by rfl, ?_⟩) (by assumption) ?_
  rotate_left
  · intro Wq hSw
    clear hSw
    go_simp
    all_goals (with_reducible rfl)
  try simp only [Act.put, List.getElem_toArray, List.getElem_cons_succ, List.getElem_cons_zero, List.setIfInBounds_toArray, List.set_cons_zero, List.set_cons_succ]
  refine wpAnyH_take (i := 10) (v := ?_) rfl (by kernel_rfl) (by kernel_rfl) (by kernel_rfl) (fun _ _ _ h => h) (Or.inl ⟨by rfl, ?_⟩) (by assumption) ?_
  rotate_left
  · intro Wq hSw
    clear hSw
    go_simp
    all_goals (with_reducible rfl)
  try simp only [Act.put, List.getElem_toArray, List.getElem_cons_succ, List.getElem_cons_zero, List.setIfInBounds_toArray, List.set_cons_zero, List.set_cons_succ]
  refine wpAnyH_take (i := 11) (v := ?_) rfl (by kernel_rfl) (by kernel_rfl) (by kernel_rfl) (fun _ _ _ h => h) (Or.inl ⟨by rfl, ?_⟩) (by assumption) ?_
  rotate_left
  · intro Wq hSw
    obtain ⟨k0, k1, k2⟩ := hSw.2.three6
    clear hSw
    go_simp
    all_goals (with_reducible rfl)
  try simp only [Act.put, List.getElem_toArray, List.getElem_cons_succ, List.getElem_cons_zero, List.setIfInBounds_toArray, List.set_cons_zero, List.set_cons_succ]
  refine wpAnyH_take (i := 12) (v := ?_) rfl (by kernel_rfl) (by kernel_rfl) (by kernel_rfl) (fun _ _ _ h => h) (Or.inl ⟨by rfl, ?_⟩) (by assumption) ?_
  rotate_left
  · intro Wq hSw
    clear hSw
    go_simp
    all_goals (with_reducible rfl)
  try simp only [Act.put, List.getElem_toArray, List.getElem_cons_succ, List.getElem_cons_zero, List.setIfInBounds_toArray, List.set_cons_zero, List.set_cons_succ]
  refine r1 (i := 3) rfl (fun K hK => ?_)
  go_simp
  (with_reducible refine (CA.out _).mono ?_); rintro e w1 ⟨v, rfl, hv, hb1⟩
  have HT1 := Lib.hid (TA.out v w1 hv)
  obtain ⟨x, ad, n, c, f, rfl, -⟩ := hv
  refine hK.out _ _ ⟨bl_trans hHeld.1 hb1, hHeld.2.below hb1⟩ (fun hHeld2 => ?_)
  clear hK K hHeld
  have hHeld := hHeld2
  clear hHeld2
  try simp only [Act.put, List.getElem_toArray, List.getElem_cons_succ, List.getElem_cons_zero, List.setIfInBounds_toArray, List.set_cons_zero, List.set_cons_succ]
  refine r1 (i := 4) rfl (fun K hK => ?_)
  go_simp
  (with_reducible refine HT1.out.mono ?_); rintro e w2 ⟨rfl, hb1⟩
  refine hK.out _ _ ⟨bl_trans hHeld.1 hb1, hHeld.2.below hb1⟩ (fun hHeld2 => ?_)
  clear hK K hHeld
  have hHeld := hHeld2
  clear hHeld2
  try simp only [Act.put, List.getElem_toArray, List.getElem_cons_succ, List.getElem_cons_zero, List.setIfInBounds_toArray, List.set_cons_zero, List.set_cons_succ]
  refine wpAnyH_take (i := 5) (v := ?_) rfl (by kernel_rfl) (by kernel_rfl) (by kernel_rfl) (fun _ _ _ h => h) (Or.inl ⟨by rfl, ?_⟩) (by assumption) ?_
  rotate_left
  · intro Wq hSw
    have z0 : (9223372036854775807 < 5 + ta.size) = False := eq_false (by omega)
    clear hSw
    go_simp
    all_goals (with_reducible rfl)
  try simp only [Act.put, List.getElem_toArray, List.getElem_cons_succ, List.getElem_cons_zero, List.setIfInBounds_toArray, List.set_cons_zero, List.set_cons_succ]
  refine wpAnyH_take (i := 6) (v := ?_) rfl (by kernel_rfl) (by kernel_rfl) (by kernel_rfl) (fun _ _ _ h => h) (Or.inl ⟨by rfl, ?_⟩) (by assumption) ?_
  rotate_left
  · intro Wq hSw
    have z0 : (9223372036854775807 < 5 + ta.size + 1) = False := eq_false (by omega)
    clear hSw
    go_simp
    all_goals (with_reducible rfl)
  try simp only [Act.put, List.getElem_toArray, List.getElem_cons_succ, List.getElem_cons_zero, List.setIfInBounds_toArray, List.set_cons_zero, List.set_cons_succ]
  refine r1 (i := 13) rfl (fun K hK => ?_)
  go_simp
  (with_reducible refine (C2.out _).mono ?_); rintro e w3 ⟨s2, rfl, hs2, hb1⟩
  have HS2 := Lib.hid hs2
  have hs2l : s2.size ≤ 18 := by rw [← nums_length, hs2]; exact HPL.out
  clear hs2
  refine hK.out _ _ ⟨bl_trans hHeld.1 hb1, hHeld.2.below hb1⟩ (fun hHeld2 => ?_)
  clear hK K hHeld
  have hHeld := hHeld2
  clear hHeld2
  try simp only [Act.put, List.getElem_toArray, List.getElem_cons_succ, List.getElem_cons_zero, List.setIfInBounds_toArray, List.set_cons_zero, List.set_cons_succ]
  refine wpAnyH_take (i := 14) (v := ?_) rfl (by kernel_rfl) (by kernel_rfl) (by kernel_rfl) (fun _ _ _ h => h) (Or.inl ⟨by rfl, ?_⟩) (by assumption) ?_
  rotate_left
  · intro Wq hSw
    have z0 : (9223372036854775807 < 5 + ta.size + 1 + s2.size) = False := eq_false (by omega)
    clear hSw
    go_simp
    all_goals (with_reducible rfl)
  try simp only [Act.put, List.getElem_toArray, List.getElem_cons_succ, List.getElem_cons_zero, List.setIfInBounds_toArray, List.set_cons_zero, List.set_cons_succ]
  refine wpAnyH_take (i := 15) (v := ?_) rfl (by kernel_rfl) (by kernel_rfl) (by kernel_rfl) (fun _ _ _ h => h) (Or.inl ⟨by rfl, ?_⟩) (by assumption) ?_
  rotate_left
  · intro Wq hSw
    clear hSw
    go_simp
    all_goals (with_reducible rfl)
  try simp only [Act.put, List.getElem_toArray, List.getElem_cons_succ, List.getElem_cons_zero, List.setIfInBounds_toArray, List.set_cons_zero, List.set_cons_succ]
  refine wpAnyH_done (by kernel_rfl) ?_ _
  replace HS := Lib.hid hHeld
  clear hHeld CA TA C2
  have HT0 : Hid (nums (⟨#[112, 111, 108, 121, 32]⟩ ++ ta ++ ⟨#[32]⟩ ++ s2) = headZ p l i) := by
    unfold Hid
    rw [HHD.out, nums_append, nums_append, nums_append, HNA.out.1, HS2.out]
    simp only [List.append_assoc]
    rfl
  have HBLA : Hid ((headZ p l i).length ≤ 40) := by
    unfold Hid
    rw [← HT0.out, nums_length, ByteArray.size_append, ByteArray.size_append, ByteArray.size_append]
    have e5 : (⟨#[112, 111, 108, 121, 32]⟩ : ByteArray).size = 5 := rfl
    have e1 : (⟨#[32]⟩ : ByteArray).size = 1 := rfl
    omega
  clear HPL HHD HNA hta
  obtain ⟨k0, k1, k2⟩ := HS.out.2.three6
  go_wp2_with fail
  clear k0 k1 k2
  go_loopw [5, 6] (fun sv iv W => ∃ (k : Nat) (t : ByteArray), iv = .int .i64 k ∧ k ≤ p.length ∧ sv = .string t ∧ Hid (nums t = headZ p l i ++ linesZ (p.take k)) ∧ Below w.heap.size w W ∧ Var W gp [.slice ap p.length cp, .slice al l.length cl, .slice ai i.length ci]) (fun _ iv _ => p.length + 1 - (intOf iv).toNat)
  case atStart => exact ⟨0, _, rfl, Nat.zero_le _, rfl, by unfold Hid; simpa [linesZ] using HT0.out, HS.out⟩
  case round =>
    obtain ⟨k, t, rfl, hk, rfl, HT, hS⟩ := hrel
    replace HS := Lib.hid hS
    clear hS HT0
    have hlen := lines_len5 (p.take k) (fun q hq => HF.out.ip q (List.mem_of_mem_take hq))
    have hlm := HF.out.lp
    have htl : t.size ≤ 20000 := by
      have h9 := HBLA.out
      rw [← nums_length, HT.out, List.length_append]
      rw [List.length_take] at hlen
      omega
    clear hlen
    obtain ⟨k0, k1, k2⟩ := HS.out.2.three6
    by_cases hlt : k < p.length
    · have b2 : ((k : Int) < (p.length : Int)) = True := eq_true (by omega)
      have d1 : (k < p.length) = True := eq_true hlt
      have e2 : ((0 : Int) ≤ (k : Int)) = True := eq_true (by omega)
      obtain ⟨g1, o1, rfl⟩ := HA.out.pp.some (by omega)
      obtain ⟨⟨x, y⟩, hq⟩ : ∃ q, pget5 p k = q := ⟨_, rfl⟩
      have hin := HF.out.ip (pget5 p k) (by rw [pget_at5 hlt]; exact List.getElem_mem hlt)
      rw [hq] at hin
      have C2 := Lib.hid (fun W => two_l5 x y hin.1 hin.2 W)
      have HPL : Hid ((lineZ [x, y]).length ≤ 18) := pair_len5 (x, y) hin.1 hin.2
      have HSN := Lib.hid (lines_snoc5 p hlt hq)
      have HQ := Lib.hid hq
      clear hq hin
      go_upto_region 8 with (fail)
      refine wp_region_held_drew (S := fun V => Below w.heap.size w V ∧ Var V gp [.slice (some ⟨g1, o1, none⟩) p.length cp, .slice al l.length cl, .slice ai i.length ci]) (by kernel_rfl) ?_ (fun hHeld => ?_)
      · exact ⟨bl_trans HS.out.1 (bel_drew _), HS.out.2.below (bel_drew _)⟩
      revert hHeld
      generalize World.drew _ = W1
      intro hHeld 
      refine wpAnyH_take (i := 0) (v := ?_) rfl (by kernel_rfl) (by kernel_rfl) (by kernel_rfl) (fun _ _ _ h => h) (Or.inl ⟨by rfl, ?_⟩) (by assumption) ?_
      rotate_left
      · intro Wq hSw
        clear hSw
        go_simp
        all_goals (with_reducible rfl)
      try simp only [Act.put, List.getElem_toArray, List.getElem_cons_zero, List.setIfInBounds_toArray, List.set_cons_zero, List.set_cons_succ]
      refine wpAnyH_take (i := 1) (v := ?_) rfl (by kernel_rfl) (by kernel_rfl) (by kernel_rfl) (fun _ _ _ h => h) (Or.inl ⟨by rfl, ?_⟩) (by assumption) ?_
      rotate_left
      · intro Wq hSw
        clear hSw
        go_simp
        all_goals (with_reducible rfl)
      try simp only [Act.put, List.getElem_toArray, List.getElem_cons_succ, List.getElem_cons_zero, List.setIfInBounds_toArray, List.set_cons_zero, List.set_cons_succ]
      refine wpAnyH_take (i := 2) (v := ?_) rfl (by kernel_rfl) (by kernel_rfl) (by kernel_rfl) (fun _ _ _ h => h) (Or.inl ⟨by rfl, ?_⟩) (by assumption) ?_
      rotate_left
      · intro Wq hSw
        obtain ⟨k0, k1, k2⟩ := hSw.2.three6
        clear hSw
        go_simp
        all_goals (with_reducible rfl)
      try simp only [Act.put, List.getElem_toArray, List.getElem_cons_succ, List.getElem_cons_zero, List.setIfInBounds_toArray, List.set_cons_zero, List.set_cons_succ]
      refine wpAnyH_take (i := 3) (v := ?_) rfl (by kernel_rfl) (by kernel_rfl) (by kernel_rfl) (fun _ _ _ h => h) (Or.inl ⟨by rfl, ?_⟩) (by assumption) ?_
      rotate_left
      · intro Wq hSw
        clear hSw
        go_simp
        all_goals (with_reducible rfl)
      try simp only [Act.put, List.getElem_toArray, List.getElem_cons_succ, List.getElem_cons_zero, List.setIfInBounds_toArray, List.set_cons_zero, List.set_cons_succ]
      refine wpAnyH_take (i := 4) (v := ?_) rfl (by kernel_rfl) (by kernel_rfl) (by kernel_rfl) (fun _ _ _ h => h) (Or.inl ⟨by rfl, ?_⟩) (by assumption) ?_
      rotate_left
      · intro Wq hSw
        clear hSw
        go_simp
        all_goals (with_reducible rfl)
      try simp only [Act.put, List.getElem_toArray, List.getElem_cons_succ, List.getElem_cons_zero, List.setIfInBounds_toArray, List.set_cons_zero, List.set_cons_succ]
      refine wpAnyH_take (i := 5) (v := ?_) rfl (by kernel_rfl) (by kernel_rfl) (by kernel_rfl) (fun _ _ _ h => h) (Or.inl ⟨by rfl, ?_⟩) (by assumption) ?_
      rotate_left
      · intro Wq hSw
        clear hSw
        go_simp
        all_goals (with_reducible rfl)
      try simp only [Act.put, List.getElem_toArray, List.getElem_cons_succ, List.getElem_cons_zero, List.setIfInBounds_toArray, List.set_cons_zero, List.set_cons_succ]
      refine wpAnyH_take (i := 6) (v := ?_) rfl (by kernel_rfl) (by kernel_rfl) (by kernel_rfl) (fun _ _ _ h => h) (Or.inl ⟨by rfl, ?_⟩) (by assumption) ?_
      rotate_left
      · intro Wq hSw
        obtain ⟨c0, c1⟩ := ptRow_at5 (HA.out.pp.below hSw.1) hlt HQ.out
        dsimp only at c0 c1
        clear hSw
        go_simp
        all_goals (with_reducible rfl)
      try simp only [Act.put, List.getElem_toArray, List.getElem_cons_succ, List.getElem_cons_zero, List.setIfInBounds_toArray, List.set_cons_zero, List.set_cons_succ]
      refine wpAnyH_take (i := 7) (v := ?_) rfl (by kernel_rfl) (by kernel_rfl) (by kernel_rfl) (fun _ _ _ h => h) (Or.inl ⟨by rfl, ?_⟩) (by assumption) ?_
      rotate_left
      · intro Wq hSw
        clear hSw
        go_simp
        all_goals (with_reducible rfl)
      try simp only [Act.put, List.getElem_toArray, List.getElem_cons_succ, List.getElem_cons_zero, List.setIfInBounds_toArray, List.set_cons_zero, List.set_cons_succ]
      refine wpAnyH_take (i := 8) (v := ?_) rfl (by kernel_rfl) (by kernel_rfl) (by kernel_rfl) (fun _ _ _ h => h) (Or.inl ⟨by rfl, ?_⟩) (by assumption) ?_
      rotate_left
      · intro Wq hSw
        obtain ⟨k0, k1, k2⟩ := hSw.2.three6
        clear hSw
        go_simp
        all_goals (with_reducible rfl)
      try simp only [Act.put, List.getElem_toArray, List.getElem_cons_succ, List.getElem_cons_zero, List.setIfInBounds_toArray, List.set_cons_zero, List.set_cons_succ]
      refine wpAnyH_take (i := 9) (v := ?_) rfl (by kernel_rfl) (by kernel_rfl) (by kernel_rfl) (fun _ _ _ h => h) (Or.inl ⟨by rfl, ?_⟩) (by assumption) ?_
      rotate_left
      · intro Wq hSw
        clear hSw
        go_simp
        all_goals (with_reducible rfl)
      try simp only [Act.put, List.getElem_toArray, List.getElem_cons_succ, List.getElem_cons_zero, List.setIfInBounds_toArray, List.set_cons_zero, List.set_cons_succ]
      refine wpAnyH_take (i := 10) (v := ?_) rfl (by kernel_rfl) (by kernel_rfl) (by kernel_rfl) (fun _ _ _ h => h) (Or.inl ⟨by rfl, ?_⟩) (by assumption) ?_
      rotate_left
      · intro Wq hSw
        clear hSw
        go_simp
        all_goals (with_reducible rfl)
      try simp only [Act.put, List.getElem_toArray, List.getElem_cons_succ, List.getElem_cons_zero, List.setIfInBounds_toArray, List.set_cons_zero, List.set_cons_succ]
      refine wpAnyH_take (i := 11) (v := ?_) rfl (by kernel_rfl) (by kernel_rfl) (by kernel_rfl) (fun _ _ _ h => h) (Or.inl ⟨by rfl, ?_⟩) (by assumption) ?_
      rotate_left
      · intro Wq hSw
        clear hSw
        go_simp
        all_goals (with_reducible rfl)
      try simp only [Act.put, List.getElem_toArray, List.getElem_cons_succ, List.getElem_cons_zero, List.setIfInBounds_toArray, List.set_cons_zero, List.set_cons_succ]
      refine wpAnyH_take (i := 12) (v := ?_) rfl (by kernel_rfl) (by kernel_rfl) (by kernel_rfl) (fun _ _ _ h => h) (Or.inl ⟨by rfl, ?_⟩) (by assumption) ?_
      rotate_left
      · intro Wq hSw
        obtain ⟨c0, c1⟩ := ptRow_at5 (HA.out.pp.below hSw.1) hlt HQ.out
        dsimp only at c0 c1
        clear hSw
        go_simp
        all_goals (with_reducible rfl)
      try simp only [Act.put, List.getElem_toArray, List.getElem_cons_succ, List.getElem_cons_zero, List.setIfInBounds_toArray, List.set_cons_zero, List.set_cons_succ]
      refine r1 (i := 13) rfl (fun K hK => ?_)
      go_simp
      (with_reducible refine (C2.out _).mono ?_); rintro e w3 ⟨s2, rfl, hs2, hb1⟩
      have HS2 := Lib.hid hs2
      have hs2l : s2.size ≤ 18 := by rw [← nums_length, hs2]; exact HPL.out
      clear hs2
      refine hK.out _ _ ⟨bl_trans hHeld.1 hb1, hHeld.2.below hb1⟩ (fun hHeld2 => ?_)
      clear hK K hHeld
      have hHeld := hHeld2
      clear hHeld2
      try simp only [Act.put, List.getElem_toArray, List.getElem_cons_succ, List.getElem_cons_zero, List.setIfInBounds_toArray, List.set_cons_zero, List.set_cons_succ]
      refine wpAnyH_take (i := 14) (v := ?_) rfl (by kernel_rfl) (by kernel_rfl) (by kernel_rfl) (fun _ _ _ h => h) (Or.inl ⟨by rfl, ?_⟩) (by assumption) ?_
      rotate_left
      · intro Wq hSw
        have z0 : (9223372036854775807 < t.size + s2.size) = False := eq_false (by omega)
        clear hSw
        go_simp
        all_goals (with_reducible rfl)
      try simp only [Act.put, List.getElem_toArray, List.getElem_cons_succ, List.getElem_cons_zero, List.setIfInBounds_toArray, List.set_cons_zero, List.set_cons_succ]
      refine wpAnyH_take (i := 15) (v := ?_) rfl (by kernel_rfl) (by kernel_rfl) (by kernel_rfl) (fun _ _ _ h => h) (Or.inl ⟨by rfl, ?_⟩) (by assumption) ?_
      rotate_left
      · intro Wq hSw
        clear hSw
        go_simp
        all_goals (with_reducible rfl)
      try simp only [Act.put, List.getElem_toArray, List.getElem_cons_succ, List.getElem_cons_zero, List.setIfInBounds_toArray, List.set_cons_zero, List.set_cons_succ]
      refine wpAnyH_done (by kernel_rfl) ?_ _
      replace HS := Lib.hid hHeld
      clear hHeld
      obtain ⟨m1, m2, m3, m4⟩ := wnum2 (i := k) (by omega)
      go_wp2_with fail
      clear m1 m2 m3 m4
      refine ⟨⟨k + 1, _, by rw [Int.natCast_add]; rfl, hlt, rfl, ?_, HS.out⟩, by simp [intOf]; omega⟩
      unfold Hid
      rw [HSN.out, nums_append, HT.out, HS2.out, List.append_assoc]
      rfl
    · obtain rfl : k = p.length := by omega
      have HT0 : Hid (nums t = headZ p l i ++ linesZ p) := by
        have := HT.out
        rw [List.take_length] at this
        exact this
      clear HT
      have HBLB : Hid ((headZ p l i ++ linesZ p).length ≤ 4000) := by
        have h1 := lines_len5 p HF.out.ip
        have h2 := HF.out.lp
        have h3 := HBLA.out
        unfold Hid
        rw [List.length_append]
        omega
      clear hlm htl hlt
      go_wp2_with fail
      clear k0 k1 k2
      go_loopw [5, 7] (fun sv iv W => ∃ (k : Nat) (t : ByteArray), iv = .int .i64 k ∧ k ≤ l.length ∧ sv = .string t ∧ Hid (nums t = headZ p l i ++ linesZ p ++ linesZ (l.take k)) ∧ Below w.heap.size w W ∧ Var W gp [.slice ap p.length cp, .slice al l.length cl, .slice ai i.length ci]) (fun _ iv _ => l.length + 1 - (intOf iv).toNat)
      case atStart => exact ⟨0, _, rfl, Nat.zero_le _, rfl, by unfold Hid; simpa [linesZ] using HT0.out, HS.out⟩
      case round =>
        obtain ⟨k, t, rfl, hk, rfl, HT, hS⟩ := hrel
        replace HS := Lib.hid hS
        clear hS HT0
        have hlen := lines_len5 (l.take k) (fun q hq => HF.out.il q (List.mem_of_mem_take hq))
        have hlm := HF.out.ll
        have htl : t.size ≤ 20000 := by
          have h9 := HBLB.out
          rw [← nums_length, HT.out, List.length_append]
          rw [List.length_take] at hlen
          omega
        clear hlen
        obtain ⟨k0, k1, k2⟩ := HS.out.2.three6
        by_cases hlt : k < l.length
        · have b2 : ((k : Int) < (l.length : Int)) = True := eq_true (by omega)
          have d1 : (k < l.length) = True := eq_true hlt
          have e2 : ((0 : Int) ≤ (k : Int)) = True := eq_true (by omega)
          obtain ⟨g1, o1, rfl⟩ := HA.out.ll.some (by omega)
          obtain ⟨⟨x, y⟩, hq⟩ : ∃ q, pget5 l k = q := ⟨_, rfl⟩
          have hin := HF.out.il (pget5 l k) (by rw [pget_at5 hlt]; exact List.getElem_mem hlt)
          rw [hq] at hin
          have C2 := Lib.hid (fun W => two_l5 x y hin.1 hin.2 W)
          have HPL : Hid ((lineZ [x, y]).length ≤ 18) := pair_len5 (x, y) hin.1 hin.2
          have HSN := Lib.hid (lines_snoc5 l hlt hq)
          have HQ := Lib.hid hq
          clear hq hin
          go_upto_region 12 with (fail)
          refine wp_region_held_drew (S := fun V => Below w.heap.size w V ∧ Var V gp [.slice ap p.length cp, .slice (some ⟨g1, o1, none⟩) l.length cl, .slice ai i.length ci]) (by kernel_rfl) ?_ (fun hHeld => ?_)
          · exact ⟨bl_trans HS.out.1 (bel_drew _), HS.out.2.below (bel_drew _)⟩
          revert hHeld
          generalize World.drew _ = W1
          intro hHeld 
          refine wpAnyH_take (i := 0) (v := ?_) rfl (by kernel_rfl) (by kernel_rfl) (by kernel_rfl) (fun _ _ _ h => h) (Or.inl ⟨by rfl, ?_⟩) (by assumption) ?_
          rotate_left
          · intro Wq hSw
            clear hSw
            go_simp
            all_goals (with_reducible rfl)
          try simp only [Act.put, List.getElem_toArray, List.getElem_cons_zero, List.setIfInBounds_toArray, List.set_cons_zero, List.set_cons_succ]
          refine wpAnyH_take (i := 1) (v := ?_) rfl (by kernel_rfl) (by kernel_rfl) (by kernel_rfl) (fun _ _ _ h => h) (Or.inl ⟨by rfl, ?_⟩) (by assumption) ?_
          rotate_left
          · intro Wq hSw
            clear hSw
            go_simp
            all_goals (with_reducible rfl)
          try simp only [Act.put, List.getElem_toArray, List.getElem_cons_succ, List.getElem_cons_zero, List.setIfInBounds_toArray, List.set_cons_zero, List.set_cons_succ]
          refine wpAnyH_take (i := 2) (v := ?_) rfl (by kernel_rfl) (by kernel_rfl) (by kernel_rfl) (fun _ _ _ h => h) (Or.inl ⟨by rfl, ?_⟩) (by assumption) ?_
          rotate_left
          · intro Wq hSw
            obtain ⟨k0, k1, k2⟩ := hSw.2.three6
            clear hSw
            go_simp
            all_goals (with_reducible rfl)
          try simp only [Act.put, List.getElem_toArray, List.getElem_cons_succ, List.getElem_cons_zero, List.setIfInBounds_toArray, List.set_cons_zero, List.set_cons_succ]
          refine wpAnyH_take (i := 3) (v := ?_) rfl (by kernel_rfl) (by kernel_rfl) (by kernel_rfl) (fun _ _ _ h => h) (Or.inl ⟨by rfl, ?_⟩) (by assumption) ?_
          rotate_left
          · intro Wq hSw
            clear hSw
            go_simp
            all_goals (with_reducible rfl)
          try simp only [Act.put, List.getElem_toArray, List.getElem_cons_succ, List.getElem_cons_zero, List.setIfInBounds_toArray, List.set_cons_zero, List.set_cons_succ]
          refine wpAnyH_take (i := 4) (v := ?_) rfl (by kernel_rfl) (by kernel_rfl) (by kernel_rfl) (fun _ _ _ h => h) (Or.inl ⟨by rfl, ?_⟩) (by assumption) ?_
          rotate_left
          · intro Wq hSw
            clear hSw
            go_simp
            all_goals (with_reducible rfl)
          try simp only [Act.put, List.getElem_toArray, List.getElem_cons_succ, List.getElem_cons_zero, List.setIfInBounds_toArray, List.set_cons_zero, List.set_cons_succ]
          refine wpAnyH_take (i := 5) (v := ?_) rfl (by kernel_rfl) (by kernel_rfl) (by kernel_rfl) (fun _ _ _ h => h) (Or.inl ⟨by rfl, ?_⟩) (by assumption) ?_
          rotate_left
          · intro Wq hSw
            clear hSw
            go_simp
            all_goals (with_reducible rfl)
          try simp only [Act.put, List.getElem_toArray, List.getElem_cons_succ, List.getElem_cons_zero, List.setIfInBounds_toArray, List.set_cons_zero, List.set_cons_succ]
          refine wpAnyH_take (i := 6) (v := ?_) rfl (by kernel_rfl) (by kernel_rfl) (by kernel_rfl) (fun _ _ _ h => h) (Or.inl ⟨by rfl, ?_⟩) (by assumption) ?_
          rotate_left
          · intro Wq hSw
            obtain ⟨c0, c1⟩ := ptRow_at5 (HA.out.ll.below hSw.1) hlt HQ.out
            dsimp only at c0 c1
            clear hSw
            go_simp
            all_goals (with_reducible rfl)
          try simp only [Act.put, List.getElem_toArray, List.getElem_cons_succ, List.getElem_cons_zero, List.setIfInBounds_toArray, List.set_cons_zero, List.set_cons_succ]
          refine wpAnyH_take (i := 7) (v := ?_) rfl (by kernel_rfl) (by kernel_rfl) (by kernel_rfl) (fun _ _ _ h => h) (Or.inl ⟨by rfl, ?_⟩) (by assumption) ?_
          rotate_left
          · intro Wq hSw
            clear hSw
            go_simp
            all_goals (with_reducible rfl)
          try simp only [Act.put, List.getElem_toArray, List.getElem_cons_succ, List.getElem_cons_zero, List.setIfInBounds_toArray, List.set_cons_zero, List.set_cons_succ]
          refine wpAnyH_take (i := 8) (v := ?_) rfl (by kernel_rfl) (by kernel_rfl) (by kernel_rfl) (fun _ _ _ h => h) (Or.inl ⟨by rfl, ?_⟩) (by assumption) ?_
          rotate_left
          · intro Wq hSw
            obtain ⟨k0, k1, k2⟩ := hSw.2.three6
            clear hSw
            go_simp
            all_goals (with_reducible rfl)
          try simp only [Act.put, List.getElem_toArray, List.getElem_cons_succ, List.getElem_cons_zero, List.setIfInBounds_toArray, List.set_cons_zero, List.set_cons_succ]
          refine wpAnyH_take (i := 9) (v := ?_) rfl (by kernel_rfl) (by kernel_rfl) (by kernel_rfl) (fun _ _ _ h => h) (Or.inl ⟨by rfl, ?_⟩) (by assumption) ?_
          rotate_left
          · intro Wq hSw
            clear hSw
            go_simp
            all_goals (with_reducible rfl)
          try simp only [Act.put, List.getElem_toArray, List.getElem_cons_succ, List.getElem_cons_zero, List.setIfInBounds_toArray, List.set_cons_zero, List.set_cons_succ]
          refine wpAnyH_take (i := 10) (v := ?_) rfl (by kernel_rfl) (by kernel_rfl) (by kernel_rfl) (fun _ _ _ h => h) (Or.inl ⟨by rfl, ?_⟩) (by assumption) ?_
          rotate_left
          · intro Wq hSw
            clear hSw
            go_simp
            all_goals (with_reducible rfl)
          try simp only [Act.put, List.getElem_toArray, List.getElem_cons_succ, List.getElem_cons_zero, List.setIfInBounds_toArray, List.set_cons_zero, List.set_cons_succ]
          refine wpAnyH_take (i := 11) (v := ?_) rfl (by kernel_rfl) (by kernel_rfl) (by kernel_rfl) (fun _ _ _ h => h) (Or.inl ⟨by rfl, ?_⟩) (by assumption) ?_
          rotate_left
          · intro Wq hSw
            clear hSw
            go_simp
            all_goals (with_reducible rfl)
          try simp only [Act.put, List.getElem_toArray, List.getElem_cons_succ, List.getElem_cons_zero, List.setIfInBounds_toArray, List.set_cons_zero, List.set_cons_succ]
          refine wpAnyH_take (i := 12) (v := ?_) rfl (by kernel_rfl) (by kernel_rfl) (by kernel_rfl) (fun _ _ _ h => h) (Or.inl ⟨by rfl, ?_⟩) (by assumption) ?_
          rotate_left
          · intro Wq hSw
            obtain ⟨c0, c1⟩ := ptRow_at5 (HA.out.ll.below hSw.1) hlt HQ.out
            dsimp only at c0 c1
            clear hSw
            go_simp
            all_goals (with_reducible rfl)
          try simp only [Act.put, List.getElem_toArray, List.getElem_cons_succ, List.getElem_cons_zero, List.setIfInBounds_toArray, List.set_cons_zero, List.set_cons_succ]
          refine r1 (i := 13) rfl (fun K hK => ?_)
          go_simp
          (with_reducible refine (C2.out _).mono ?_); rintro e w3 ⟨s2, rfl, hs2, hb1⟩
          have HS2 := Lib.hid hs2
          have hs2l : s2.size ≤ 18 := by rw [← nums_length, hs2]; exact HPL.out
          clear hs2
          refine hK.out _ _ ⟨bl_trans hHeld.1 hb1, hHeld.2.below hb1⟩ (fun hHeld2 => ?_)
          clear hK K hHeld
          have hHeld := hHeld2
          clear hHeld2
          try simp only [Act.put, List.getElem_toArray, List.getElem_cons_succ, List.getElem_cons_zero, List.setIfInBounds_toArray, List.set_cons_zero, List.set_cons_succ]
          refine wpAnyH_take (i := 14) (v := ?_) rfl (by kernel_rfl) (by kernel_rfl) (by kernel_rfl) (fun _ _ _ h => h) (Or.inl ⟨by rfl, ?_⟩) (by assumption) ?_
          rotate_left
          · intro Wq hSw
            have z0 : (9223372036854775807 < t.size + s2.size) = False := eq_false (by omega)
            clear hSw
            go_simp
            all_goals (with_reducible rfl)
          try simp only [Act.put, List.getElem_toArray, List.getElem_cons_succ, List.getElem_cons_zero, List.setIfInBounds_toArray, List.set_cons_zero, List.set_cons_succ]
          refine wpAnyH_take (i := 15) (v := ?_) rfl (by kernel_rfl) (by kernel_rfl) (by kernel_rfl) (fun _ _ _ h => h) (Or.inl ⟨by rfl, ?_⟩) (by assumption) ?_
          rotate_left
          · intro Wq hSw
            clear hSw
            go_simp
            all_goals (with_reducible rfl)
          try simp only [Act.put, List.getElem_toArray, List.getElem_cons_succ, List.getElem_cons_zero, List.setIfInBounds_toArray, List.set_cons_zero, List.set_cons_succ]
          refine wpAnyH_done (by kernel_rfl) ?_ _
          replace HS := Lib.hid hHeld
          clear hHeld
          obtain ⟨m1, m2, m3, m4⟩ := wnum2 (i := k) (by omega)
          go_wp2_with fail
          clear m1 m2 m3 m4
          refine ⟨⟨k + 1, _, by rw [Int.natCast_add]; rfl, hlt, rfl, ?_, HS.out⟩, by simp [intOf]; omega⟩
          unfold Hid
          rw [HSN.out, nums_append, HT.out, HS2.out, List.append_assoc]
          rfl
        · obtain rfl : k = l.length := by omega
          have HT0 : Hid (nums t = headZ p l i ++ linesZ p ++ linesZ l) := by
            have := HT.out
            rw [List.take_length] at this
            exact this
          clear HT
          have HBLC : Hid ((headZ p l i ++ linesZ p ++ linesZ l).length ≤ 12000) := by
            have h1 := lines_len5 l HF.out.il
            have h2 := HF.out.ll
            have h3 := HBLB.out
            unfold Hid
            rw [List.length_append]
            omega
          clear hlm htl hlt
          go_wp2_with fail
          clear k0 k1 k2
          go_loopw [5, 8] (fun sv iv W => ∃ (k : Nat) (t : ByteArray), iv = .int .i64 k ∧ k ≤ i.length ∧ sv = .string t ∧ Hid (nums t = headZ p l i ++ linesZ p ++ linesZ l ++ linesZ (i.take k)) ∧ Below w.heap.size w W ∧ Var W gp [.slice ap p.length cp, .slice al l.length cl, .slice ai i.length ci]) (fun _ iv _ => i.length + 1 - (intOf iv).toNat)
          case atStart => exact ⟨0, _, rfl, Nat.zero_le _, rfl, by unfold Hid; simpa [linesZ] using HT0.out, HS.out⟩
          case round =>
            obtain ⟨k, t, rfl, hk, rfl, HT, hS⟩ := hrel
            replace HS := Lib.hid hS
            clear hS HT0
            have hlen := lines_len5 (i.take k) (fun q hq => HF.out.ii q (List.mem_of_mem_take hq))
            have hlm := HF.out.li
            have htl : t.size ≤ 20000 := by
              have h9 := HBLC.out
              rw [← nums_length, HT.out, List.length_append]
              rw [List.length_take] at hlen
              omega
            clear hlen
            obtain ⟨k0, k1, k2⟩ := HS.out.2.three6
            by_cases hlt : k < i.length
            · have b2 : ((k : Int) < (i.length : Int)) = True := eq_true (by omega)
              have d1 : (k < i.length) = True := eq_true hlt
              have e2 : ((0 : Int) ≤ (k : Int)) = True := eq_true (by omega)
              obtain ⟨g1, o1, rfl⟩ := HA.out.ii.some (by omega)
              obtain ⟨⟨x, y⟩, hq⟩ : ∃ q, pget5 i k = q := ⟨_, rfl⟩
              have hin := HF.out.ii (pget5 i k) (by rw [pget_at5 hlt]; exact List.getElem_mem hlt)
              rw [hq] at hin
              have C2 := Lib.hid (fun W => two_l5 x y hin.1 hin.2 W)
              have HPL : Hid ((lineZ [x, y]).length ≤ 18) := pair_len5 (x, y) hin.1 hin.2
              have HSN := Lib.hid (lines_snoc5 i hlt hq)
              have HQ := Lib.hid hq
              clear hq hin
              go_upto_region 16 with (fail)
              refine wp_region_held_drew (S := fun V => Below w.heap.size w V ∧ Var V gp [.slice ap p.length cp, .slice al l.length cl, .slice (some ⟨g1, o1, none⟩) i.length ci]) (by kernel_rfl) ?_ (fun hHeld => ?_)
              · exact ⟨bl_trans HS.out.1 (bel_drew _), HS.out.2.below (bel_drew _)⟩
              revert hHeld
              generalize World.drew _ = W1
              intro hHeld 
              refine wpAnyH_take (i := 0) (v := ?_) rfl (by kernel_rfl) (by kernel_rfl) (by kernel_rfl) (fun _ _ _ h => h) (Or.inl ⟨by rfl, ?_⟩) (by assumption) ?_
              rotate_left
              · intro Wq hSw
                clear hSw
                go_simp
                all_goals (with_reducible rfl)
              try simp only [Act.put, List.getElem_toArray, List.getElem_cons_zero, List.setIfInBounds_toArray, List.set_cons_zero, List.set_cons_succ]
              refine wpAnyH_take (i := 1) (v := ?_) rfl (by kernel_rfl) (by kernel_rfl) (by kernel_rfl) (fun _ _ _ h => h) (Or.inl ⟨by rfl, ?_⟩) (by assumption) ?_
              rotate_left
              · intro Wq hSw
                clear hSw
                go_simp
                all_goals (with_reducible rfl)
              try simp only [Act.put, List.getElem_toArray, List.getElem_cons_succ, List.getElem_cons_zero, List.setIfInBounds_toArray, List.set_cons_zero, List.set_cons_succ]
              refine wpAnyH_take (i := 2) (v := ?_) rfl (by kernel_rfl) (by kernel_rfl) (by kernel_rfl) (fun _ _ _ h => h) (Or.inl ⟨by rfl, ?_⟩) (by assumption) ?_
              rotate_left
              · intro Wq hSw
                obtain ⟨k0, k1, k2⟩ := hSw.2.three6
                clear hSw
                go_simp
                all_goals (with_reducible rfl)
              try simp only [Act.put, List.getElem_toArray, List.getElem_cons_succ, List.getElem_cons_zero, List.setIfInBounds_toArray, List.set_cons_zero, List.set_cons_succ]
              refine wpAnyH_take (i := 3) (v := ?_) rfl (by kernel_rfl) (by kernel_rfl) (by kernel_rfl) (fun _ _ _ h => h) (Or.inl ⟨by rfl, ?_⟩) (by assumption) ?_
              rotate_left
              · intro Wq hSw
                clear hSw
                go_simp
                all_goals (with_reducible rfl)
              try simp only [Act.put, List.getElem_toArray, List.getElem_cons_succ, List.getElem_cons_zero, List.setIfInBounds_toArray, List.set_cons_zero, List.set_cons_succ]
              refine wpAnyH_take (i := 4) (v := ?_) rfl (by kernel_rfl) (by kernel_rfl) (by kernel_rfl) (fun _ _ _ h => h) (Or.inl ⟨by rfl, ?_⟩) (by assumption) ?_
              rotate_left
              · intro Wq hSw
                clear hSw
                go_simp
                all_goals (with_reducible rfl)
              try simp only [Act.put, List.getElem_toArray, List.getElem_cons_succ, List.getElem_cons_zero, List.setIfInBounds_toArray, List.set_cons_zero, List.set_cons_succ]
              refine wpAnyH_take (i := 5) (v := ?_) rfl (by kernel_rfl) (by kernel_rfl) (by kernel_rfl) (fun _ _ _ h => h) (Or.inl ⟨by rfl, ?_⟩) (by assumption) ?_
              rotate_left
              · intro Wq hSw
                clear hSw
                go_simp
                all_goals (with_reducible rfl)
              try simp only [Act.put, List.getElem_toArray, List.getElem_cons_succ, List.getElem_cons_zero, List.setIfInBounds_toArray, List.set_cons_zero, List.set_cons_succ]
              refine wpAnyH_take (i := 6) (v := ?_) rfl (by kernel_rfl) (by kernel_rfl) (by kernel_rfl) (fun _ _ _ h => h) (Or.inl ⟨by rfl, ?_⟩) (by assumption) ?_
              rotate_left
              · intro Wq hSw
                obtain ⟨c0, c1⟩ := ptRow_at5 (HA.out.ii.below hSw.1) hlt HQ.out
                dsimp only at c0 c1
                clear hSw
                go_simp
                all_goals (with_reducible rfl)
              try simp only [Act.put, List.getElem_toArray, List.getElem_cons_succ, List.getElem_cons_zero, List.setIfInBounds_toArray, List.set_cons_zero, List.set_cons_succ]
              refine wpAnyH_take (i := 7) (v := ?_) rfl (by kernel_rfl) (by kernel_rfl) (by kernel_rfl) (fun _ _ _ h => h) (Or.inl ⟨by rfl, ?_⟩) (by assumption) ?_
              rotate_left
              · intro Wq hSw
                clear hSw
                go_simp
                all_goals (with_reducible rfl)
              try simp only [Act.put, List.getElem_toArray, List.getElem_cons_succ, List.getElem_cons_zero, List.setIfInBounds_toArray, List.set_cons_zero, List.set_cons_succ]
              refine wpAnyH_take (i := 8) (v := ?_) rfl (by kernel_rfl) (by kernel_rfl) (by kernel_rfl) (fun _ _ _ h => h) (Or.inl ⟨by rfl, ?_⟩) (by assumption) ?_
              rotate_left
              · intro Wq hSw
                obtain ⟨k0, k1, k2⟩ := hSw.2.three6
                clear hSw
                go_simp
                all_goals (with_reducible rfl)
              try simp only [Act.put, List.getElem_toArray, List.getElem_cons_succ, List.getElem_cons_zero, List.setIfInBounds_toArray, List.set_cons_zero, List.set_cons_succ]
              refine wpAnyH_take (i := 9) (v := ?_) rfl (by kernel_rfl) (by kernel_rfl) (by kernel_rfl) (fun _ _ _ h => h) (Or.inl ⟨by rfl, ?_⟩) (by assumption) ?_
              rotate_left
              · intro Wq hSw
                clear hSw
                go_simp
                all_goals (with_reducible rfl)
              try simp only [Act.put, List.getElem_toArray, List.getElem_cons_succ, List.getElem_cons_zero, List.setIfInBounds_toArray, List.set_cons_zero, List.set_cons_succ]
              refine wpAnyH_take (i := 10) (v := ?_) rfl (by kernel_rfl) (by kernel_rfl) (by kernel_rfl) (fun _ _ _ h => h) (Or.inl ⟨by rfl, ?_⟩) (by assumption) ?_
              rotate_left
              · intro Wq hSw
                clear hSw
                go_simp
                all_goals (with_reducible rfl)
              try simp only [Act.put, List.getElem_toArray, List.getElem_cons_succ, List.getElem_cons_zero, List.setIfInBounds_toArray, List.set_cons_zero, List.set_cons_succ]
              refine wpAnyH_take (i := 11) (v := ?_) rfl (by kernel_rfl) (by kernel_rfl) (by kernel_rfl) (fun _ _ _ h => h) (Or.inl ⟨by rfl, ?_⟩) (by assumption) ?_
              rotate_left
              · intro Wq hSw
                clear hSw
                go_simp
                all_goals (with_reducible rfl)
              try simp only [Act.put, List.getElem_toArray, List.getElem_cons_succ, List.getElem_cons_zero, List.setIfInBounds_toArray, List.set_cons_zero, List.set_cons_succ]
              refine wpAnyH_take (i := 12) (v := ?_) rfl (by kernel_rfl) (by kernel_rfl) (by kernel_rfl) (fun _ _ _ h => h) (Or.inl ⟨by rfl, ?_⟩) (by assumption) ?_
              rotate_left
              · intro Wq hSw
                obtain ⟨c0, c1⟩ := ptRow_at5 (HA.out.ii.below hSw.1) hlt HQ.out
                dsimp only at c0 c1
                clear hSw
                go_simp
                all_goals (with_reducible rfl)
              try simp only [Act.put, List.getElem_toArray, List.getElem_cons_succ, List.getElem_cons_zero, List.setIfInBounds_toArray, List.set_cons_zero, List.set_cons_succ]
              refine r1 (i := 13) rfl (fun K hK => ?_)
              go_simp
              (with_reducible refine (C2.out _).mono ?_); rintro e w3 ⟨s2, rfl, hs2, hb1⟩
              have HS2 := Lib.hid hs2
              have hs2l : s2.size ≤ 18 := by rw [← nums_length, hs2]; exact HPL.out
              clear hs2
              refine hK.out _ _ ⟨bl_trans hHeld.1 hb1, hHeld.2.below hb1⟩ (fun hHeld2 => ?_)
              clear hK K hHeld
              have hHeld := hHeld2
              clear hHeld2
              try simp only [Act.put, List.getElem_toArray, List.getElem_cons_succ, List.getElem_cons_zero, List.setIfInBounds_toArray, List.set_cons_zero, List.set_cons_succ]
              refine wpAnyH_take (i := 14) (v := ?_) rfl (by kernel_rfl) (by kernel_rfl) (by kernel_rfl) (fun _ _ _ h => h) (Or.inl ⟨by rfl, ?_⟩) (by assumption) ?_
              rotate_left
              · intro Wq hSw
                have z0 : (9223372036854775807 < t.size + s2.size) = False := eq_false (by omega)
                clear hSw
                go_simp
                all_goals (with_reducible rfl)
              try simp only [Act.put, List.getElem_toArray, List.getElem_cons_succ, List.getElem_cons_zero, List.setIfInBounds_toArray, List.set_cons_zero, List.set_cons_succ]
              refine wpAnyH_take (i := 15) (v := ?_) rfl (by kernel_rfl) (by kernel_rfl) (by kernel_rfl) (fun _ _ _ h => h) (Or.inl ⟨by rfl, ?_⟩) (by assumption) ?_
              rotate_left
              · intro Wq hSw
                clear hSw
                go_simp
                all_goals (with_reducible rfl)
              try simp only [Act.put, List.getElem_toArray, List.getElem_cons_succ, List.getElem_cons_zero, List.setIfInBounds_toArray, List.set_cons_zero, List.set_cons_succ]
              refine wpAnyH_done (by kernel_rfl) ?_ _
              replace HS := Lib.hid hHeld
              clear hHeld
              obtain ⟨m1, m2, m3, m4⟩ := wnum2 (i := k) (by omega)
              go_wp2_with fail
              clear m1 m2 m3 m4
              refine ⟨⟨k + 1, _, by rw [Int.natCast_add]; rfl, hlt, rfl, ?_, HS.out⟩, by simp [intOf]; omega⟩
              unfold Hid
              rw [HSN.out, nums_append, HT.out, HS2.out, List.append_assoc]
              rfl
            · obtain rfl : k = i.length := by omega
              have HT0 : Hid (nums t = textI5 p l i) := by
                have := HT.out
                rw [List.take_length] at this
                exact this
              clear HT
              go_wp2_with fail
              go_ret2
              exact ⟨.inr ⟨HC.out, t, rfl, HT0.out⟩, HS.out.1⟩
end Go.Proofs.YtdpbmkfgolemjaaDoor
