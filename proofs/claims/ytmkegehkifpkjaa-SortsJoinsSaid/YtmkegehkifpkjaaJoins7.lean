/-
  The law SortsJoins.
-/
import Derived.Deep.Cut
import Derived.Test.YtmkegehkifpkjaaRefRanks
import Derived.Test.YtmkegehkifpkjaaSortP
import Derived.Test.YtmkegehkifpkjaaJMath7
import Derived.Test.YtmkegehkifpkjaaKnown7
namespace Go.Proofs.Ytmkegehkifpkjaa
open Go.RowKit

theorem ask_less (w : World) : AsksP 20 #[] lessP (fun _ => True) w := fun x y W _ _ _ => less_l x y W
set_option maxHeartbeats 8000000 in
set_option maxRecDepth 100000 in
theorem joins7_l (w : World) (p : List Pt) (ad : Option Addr) (cap : Nat) (hcap : p.length ≤ cap) (hP : PtRow w ad p) (hn : ad = none → cap = 0) (q : List Pt) (adq : Option Addr) (capq : Nat) (hcapq : q.length ≤ capq) (hQ : PtRow w adq q) (hnq : adq = none → capq = 0) :
    Calls Try.prog 9 #[.slice ad p.length cap, .slice adq q.length capq] w (Gives (.bool true) w) := by
  have KN := Lib.hid (fun W => known_l W)
  have HP0 := Lib.hid hP
  have HQ0 := Lib.hid hQ
  have HN0 := Lib.hid hn
  have HNQ := Lib.hid hnq
  clear hP hQ hn hnq
  go_enter Try.func9, Try.ntmps9
  by_cases hbig : 60 < p.length ∨ 60 < q.length
  · rcases Nat.lt_or_ge 60 p.length with h1 | h1
    · have b1 : ((60 : Int) < (p.length : Int)) = True := eq_true (by omega)
      go_wp2_with fail
      (with_reducible refine (KN.out _).mono ?_); rintro e w1 ⟨rfl, hb1⟩
      go_wp2
      go_ret
      exact ⟨rfl, hb1⟩
    · have b1 : ((60 : Int) < (p.length : Int)) = False := eq_false (by omega)
      have b2 : ((60 : Int) < (q.length : Int)) = True := eq_true (by omega)
      go_wp2_with fail
      (with_reducible refine (KN.out _).mono ?_); rintro e w1 ⟨rfl, hb1⟩
      go_wp2
      go_ret
      exact ⟨rfl, hb1⟩
  obtain ⟨h1, h2⟩ : p.length ≤ 60 ∧ q.length ≤ 60 := by omega
  have b1 : ((60 : Int) < (p.length : Int)) = False := eq_false (by omega)
  have b2 : ((60 : Int) < (q.length : Int)) = False := eq_false (by omega)
  clear hbig
  go_wp2_with (at_builtin; refine app_pts rfl _ _ rfl rfl (op_nil w) rfl (L := p) rfl (HP0.out) HN0.out ?x1 ?_)
  case x1 => (try simp); omega
  intro v1 w1 h1
  have HO1 := Lib.hid h1
  clear h1
  go_wp2_with (at_builtin; refine app_pts rfl _ _ rfl rfl (HO1.out) rfl (L := q) rfl (HQ0.out.below HO1.out.hb) HNQ.out ?x2 ?_)
  case x2 => (try simp); omega
  intro v2 w2 h2
  have HO2 := Lib.hid h2
  clear h2

  clear HO1
  have htl : (p ++ q).length = p.length + q.length := List.length_append
  have hjr := joined_rows p q
  have HT2 : Hid (Op w v2 (p ++ q) w2) := by simpa using HO2
  clear HO2
  obtain ⟨T, hT⟩ : ∃ T, p ++ q = T := ⟨_, rfl⟩
  rw [hT] at htl hjr HT2
  have HTL := Lib.hid htl
  have hrt := ranks_twice T
  have hrl := ranksM_len T
  have hml := msort_len (ltI T) (idx T.length)
  rw [idx_len] at hml
  have hor := ordered_msort T
  clear hT htl
  obtain ⟨ad2, cp2, rfl, hcp2, hI, hn⟩ := HT2.out.pts
  have HI2 := Lib.hid hI
  have HN2 := Lib.hid hn
  have HB2 := Lib.hid HT2.out.hb
  clear hI hn HT2

  obtain ⟨L, hL⟩ : ∃ L, msort (ltI T) (idx T.length) = L := ⟨_, rfl⟩
  obtain ⟨R, hR⟩ : ∃ R, ranksM T = R := ⟨_, rfl⟩
  have ht9 : T.length ≤ 120 := by have := HTL.out; omega
  have HQo := Lib.hid (order_l T ad2 cp2 w2 HI2.out hcp2 (by omega))
  rw [hL] at HQo hml hjr hor
  rw [hR] at hrl hrt
  have HLL := Lib.hid hml
  have HRL := Lib.hid hrl
  have HRT := Lib.hid hrt
  have HRE := Lib.hid hR
  have HOR := Lib.hid hor
  have HJR := Lib.hid hjr
  clear hL hR hml hrl hrt hor hjr
  go_wp2_with fail
  (with_reducible refine HQo.out.mono ?_); rintro e w3 ⟨v3, rfl, hO⟩
  have HB3 := Lib.hid hO.hb
  obtain ⟨ad3, cp3, rfl, hcp3, hI, hn⟩ := hO.slice
  have HI3 := Lib.hid hI
  have HN3 := Lib.hid hn
  clear hI hn hO HQo

  have HQo := Lib.hid (ranks_l T ad2 cp2 w3 (HI2.out.below HB3.out) hcp2 (by omega))
  rw [HRE.out] at HQo
  go_wp2_with fail
  (with_reducible refine HQo.out.mono ?_); rintro e w4 ⟨v4, rfl, hO⟩
  have HB4 := Lib.hid hO.hb
  obtain ⟨ad4, cp4, rfl, hcp4, hI, hn⟩ := hO.slice
  have HI4 := Lib.hid hI
  have HN4 := Lib.hid hn
  clear hI hn hO HQo

  have HB24 := Lib.hid (bl_trans HB3.out HB4.out)
  go_wp2_with (at_builtin; refine app_pts rfl _ _ rfl rfl (op_nil w4) rfl (L := T) rfl (HI2.out.below HB24.out) HN2.out ?x5 ?_)
  case x5 => (try simp); omega
  intro v5 w5 h5
  have HO5 := Lib.hid h5
  clear h5
  go_wp2_with (at_builtin; refine app_pts rfl _ _ rfl rfl (HO5.out) rfl (L := T) rfl (HI2.out.below (bl_trans HB24.out HO5.out.hb)) HN2.out ?x6 ?_)
  case x6 => (try simp); omega
  intro v6 w6 h6
  have HO6 := Lib.hid h6
  clear h6

  clear HO5
  have HO7 : Hid (Op w4 v6 (T ++ T) w6) := by simpa using HO6
  clear HO6
  have hdl : (T ++ T).length = T.length + T.length := List.length_append
  obtain ⟨D, hD⟩ : ∃ D, T ++ T = D := ⟨_, rfl⟩
  rw [hD] at hdl HO7 HRT
  have HDL := Lib.hid hdl
  clear hD hdl
  obtain ⟨ad6, cp6, rfl, hcp6, hI, hn⟩ := HO7.out.pts
  have HI6 := Lib.hid hI
  have HN6 := Lib.hid hn
  have HB6 := Lib.hid HO7.out.hb
  clear hI hn HO7

  have HQo := Lib.hid (ranks_l D ad6 cp6 w6 HI6.out hcp6 (by have := HDL.out; omega))
  rw [HRT.out] at HQo
  have hsl : (R ++ R).length = R.length + R.length := List.length_append
  have htk : (R ++ R).take T.length = R := by rw [← HRL.out]; simp
  have hdr : (R ++ R).drop T.length = R := by rw [← HRL.out]; simp
  obtain ⟨S, hS⟩ : ∃ S, R ++ R = S := ⟨_, rfl⟩
  rw [hS] at HQo hsl htk hdr
  have HSL := Lib.hid hsl
  have HTK := Lib.hid htk
  have HDR := Lib.hid hdr
  clear hS hsl htk hdr HRT
  go_wp2_with fail
  (with_reducible refine HQo.out.mono ?_); rintro e w7 ⟨v7, rfl, hO⟩
  have HB7 := Lib.hid hO.hb
  obtain ⟨ad7, cp7, rfl, hcp7, hI, hn⟩ := hO.slice
  have HI7 := Lib.hid hI
  have HN7 := Lib.hid hn
  clear hI hn hO HQo

  have HB07 := Lib.hid (bl_trans (bl_trans HB2.out HB24.out) (bl_trans HB6.out HB7.out))
  have x1 : ((L.length : Int) == (T.length : Int)) = true := beq_iff_eq.mpr (by have := HLL.out; omega)
  have x1' : ((L.length : Int) != (T.length : Int)) = false := by simpa using (by have := HLL.out; omega : (L.length : Int) = (T.length : Int))
  have x2 : ((R.length : Int) == (T.length : Int)) = true := beq_iff_eq.mpr (by have := HRL.out; omega)
  have x2' : ((R.length : Int) != (T.length : Int)) = false := by simpa using (by have := HRL.out; omega : (R.length : Int) = (T.length : Int))
  have x3 : ((S.length : Int) == 2 * (T.length : Int)) = true := beq_iff_eq.mpr (by have := HSL.out; have := HRL.out; omega)
  have x3' : ((S.length : Int) != 2 * (T.length : Int)) = false := by simpa using (by have := HSL.out; have := HRL.out; omega : (S.length : Int) = 2 * (T.length : Int))
  have HQo := Lib.hid (sortP_l 20 #[] lessP (fun _ => True) (fun _ _ => rfl) p ad cap w7 p.length (ask_less w7) (fun _ _ => trivial) (HP0.out.below HB07.out) rfl hcap HN0.out (by omega))
  have hl8 : (msort lessP p).length = p.length := msort_len _ _
  have hl9 : (msort lessP q).length = q.length := msort_len _ _
  have hl10 : (mrgW lessP (msort lessP p) (msort lessP q)).length = (msort lessP p).length + (msort lessP q).length := mrgW_len _ _ _
  obtain ⟨P2, hP2⟩ : ∃ P2, msort lessP p = P2 := ⟨_, rfl⟩
  obtain ⟨Q2, hQ2⟩ : ∃ Q2, msort lessP q = Q2 := ⟨_, rfl⟩
  rw [hP2] at HQo hl8 hl10 HJR
  rw [hQ2] at hl9 hl10 HJR
  have HL8 := Lib.hid hl8
  have HL9 := Lib.hid hl9
  have HQ2 := Lib.hid hQ2
  clear hP2 hQ2 hl8 hl9
  go_wp2_with fail
  clear x1 x1' x2 x2' x3 x3'
  (with_reducible refine HQo.out.mono ?_); rintro e w8 ⟨v8, rfl, hO⟩
  have HB8 := Lib.hid hO.hb
  obtain ⟨ad8, cp8, rfl, hcp8, hI, hn⟩ := hO.pts
  have HI8 := Lib.hid hI
  have HN8 := Lib.hid hn
  clear hI hn hO HQo

  have HQo := Lib.hid (sortP_l 20 #[] lessP (fun _ => True) (fun _ _ => rfl) q adq capq w8 q.length (ask_less w8) (fun _ _ => trivial) (HQ0.out.below (bl_trans HB07.out HB8.out)) rfl hcapq HNQ.out (by omega))
  rw [HQ2.out] at HQo
  go_wp2_with fail
  (with_reducible refine HQo.out.mono ?_); rintro e w9 ⟨v9, rfl, hO⟩
  have HB9 := Lib.hid hO.hb
  obtain ⟨ad9, cp9, rfl, hcp9, hI, hn⟩ := hO.pts
  have HI9 := Lib.hid hI
  have HN9 := Lib.hid hn
  clear hI hn hO HQo

  have HQo := Lib.hid (mergeP_l 20 #[] lessP (fun _ => True) P2 Q2 ad8 ad9 cp8 cp9 w9 (fun _ _ => rfl) (ask_less w9) (fun _ _ => trivial) (fun _ _ => trivial) (HI8.out.below HB9.out) HI9.out hcp8 hcp9 HN8.out HN9.out (by have := HL8.out; have := HL9.out; omega))
  obtain ⟨M, hM⟩ : ∃ M, mrgW lessP P2 Q2 = M := ⟨_, rfl⟩
  rw [hM] at HQo hl10 HJR
  have HML : Hid (M.length = T.length) := by
    have := HL8.out
    have := HL9.out
    have := HTL.out
    unfold Hid
    omega
  clear hM hl10
  go_wp2_with fail
  (with_reducible refine HQo.out.mono ?_); rintro e w10 ⟨v10, rfl, hO⟩
  have HB10 := Lib.hid hO.hb
  obtain ⟨ad10, cp10, rfl, hcp10, hI, hn⟩ := hO.pts
  have HI10 := Lib.hid hI
  have HN10 := Lib.hid hn
  clear hI hn hO HQo

  have HB29 := Lib.hid (bl_trans (bl_trans HB24.out (bl_trans HB6.out HB7.out)) (bl_trans (bl_trans HB8.out HB9.out) HB10.out))
  have HT10 := Lib.hid (HI2.out.below HB29.out)
  have HL10 := Lib.hid (HI3.out.below (bl_trans HB4.out (bl_trans (bl_trans HB6.out HB7.out) (bl_trans (bl_trans HB8.out HB9.out) HB10.out))))
  have HR10 := Lib.hid (HI4.out.below (bl_trans (bl_trans HB6.out HB7.out) (bl_trans (bl_trans HB8.out HB9.out) HB10.out)))
  have HS10 := Lib.hid (HI7.out.below (bl_trans (bl_trans HB8.out HB9.out) HB10.out))
  have HM10 := HI10
  have HBW := Lib.hid (bl_trans HB2.out HB29.out)
  clear HI2 HI3 HI4 HI6 HI7 HI8 HI9 HI10 HB29 HB10 HB9 HB8 HB7 HB6 HB4 HB3 HB24 HB07 HB2 HP0 HQ0 HN0 HNQ HN2 HN3 HN4 HN6 HN8 HN9 HN10 HL8 HL9 HQ2 HDL HTL
  have x1 : ((M.length : Int) == (T.length : Int)) = true := beq_iff_eq.mpr (by have := HML.out; omega)
  have x1' : ((M.length : Int) != (T.length : Int)) = false := by simpa using (by have := HML.out; omega : (M.length : Int) = (T.length : Int))
  go_wp2_with fail
  clear x1 x1'
  go_loopw [13] (fun iv W => ∃ k : Nat, iv = .int .i64 k ∧ k ≤ T.length ∧ Below w10.heap.size w10 W) (fun iv _ => T.length - (intOf iv).toNat)
  case atStart => exact ⟨0, rfl, Nat.zero_le _, Below.refl _ _⟩
  case round =>
    obtain ⟨k, rfl, hkl, hW⟩ := hrel
    have HW := Lib.hid hW
    clear hW
    by_cases hk : k < T.length
    · have hkL : k < L.length := by have := HLL.out; omega
      have hkM : k < M.length := by have := HML.out; omega
      have am := HOR.out.at hkL
      obtain ⟨j, hEj⟩ := Int.eq_ofNat_of_zero_le am.1
      have hj : j < T.length := by omega
      have HE := Lib.hid hEj
      have hpm : pget M k = pget T j := by
        have e1 : pget M k = M[k] := by unfold pget; simp [List.getD, hkM]
        rw [e1]
        have e2 : M[k] = pg T L[k] := by
          have := HJR.out
          subst this
          rw [List.getElem_map]
        rw [e2, hEj, pg_cast]
      have HPM := Lib.hid hpm
      obtain ⟨z, hz⟩ : ∃ z, pget T j = z := ⟨_, rfl⟩
      rw [hz] at HPM
      have HPT := Lib.hid hz
      have HTi := Lib.hid (HT10.out.below HW.out)
      have HMi := Lib.hid (HM10.out.below HW.out)
      have HLi := Lib.hid (HL10.out.below HW.out)
      obtain ⟨g, o, rfl⟩ := HTi.out.some (by omega)
      obtain ⟨g1, o1, rfl⟩ := HMi.out.some (by omega)
      obtain ⟨g2, o2, rfl⟩ := HLi.out.some (by omega)
      have b3 : ((k : Int) < (T.length : Int)) = True := eq_true (by omega)
      have d3 : (k < T.length) = True := eq_true (by omega)
      have c3 : ((0 : Int) ≤ (k : Int)) = True := eq_true (by omega)
      clear am hEj hpm hz
      go_wp2_with fail
      refine wp_region_held_drew (S := fun V => Below wr.heap.size wr V) (by kernel_rfl) ?_ (fun hHeld => ?_)
      · exact bel_drew wr
      revert hHeld
      generalize World.drew _ = W1
      intro hHeld 
      refine wpAnyH_take (i := 0) (v := ?_) rfl (by kernel_rfl) (by kernel_rfl) (by kernel_rfl) (fun _ _ _ h => h) (Or.inl ⟨by rfl, ?_⟩) (by assumption) ?_
      rotate_left
      · intro Wq hSw
        clear hSw
        go_simp
        all_goals (with_reducible rfl)
      try simp only [Act.put, List.getElem_toArray, List.getElem_cons_zero, List.setIfInBounds_toArray, List.set_cons_zero, List.set_cons_succ]
      refine wpAnyH_take (i := 1) (v := ?_) rfl (by kernel_rfl) (by kernel_rfl) (by kernel_rfl) (fun _ _ _ h => h) (Or.inl ⟨by rfl, ?_⟩) (by assumption) ?_
      rotate_left
      · intro Wq hSw
        clear hSw
        go_simp
        all_goals (with_reducible rfl)
      try simp only [Act.put, List.getElem_toArray, List.getElem_cons_succ, List.getElem_cons_zero, List.setIfInBounds_toArray, List.set_cons_zero, List.set_cons_succ]
      refine wpAnyH_take (i := 2) (v := ?_) rfl (by kernel_rfl) (by kernel_rfl) (by kernel_rfl) (fun _ _ _ h => h) (Or.inl ⟨by rfl, ?_⟩) (by assumption) ?_
      rotate_left
      · intro Wq hSw
        have b1 : ((k : Int) < (L.length : Int)) = True := eq_true (by omega)
        have d1 : (k < L.length) = True := eq_true (by omega)
        have c1 : ((0 : Int) ≤ (k : Int)) = True := eq_true (by omega)
        have d2 : (k < T.length) = True := eq_true (by omega)
        clear hSw
        go_simp
        all_goals (with_reducible rfl)
      try simp only [Act.put, List.getElem_toArray, List.getElem_cons_succ, List.getElem_cons_zero, List.setIfInBounds_toArray, List.set_cons_zero, List.set_cons_succ]
      refine wpAnyH_take (i := 3) (v := ?_) rfl (by kernel_rfl) (by kernel_rfl) (by kernel_rfl) (fun _ _ _ h => h) (Or.inl ⟨by rfl, ?_⟩) (by assumption) ?_
      rotate_left
      · intro Wq hSw
        have k0 := intRow_at (HLi.out.below hSw) hkL HE.out
        clear hSw
        go_simp
        all_goals (with_reducible rfl)
      try simp only [Act.put, List.getElem_toArray, List.getElem_cons_succ, List.getElem_cons_zero, List.setIfInBounds_toArray, List.set_cons_zero, List.set_cons_succ]
      refine wpAnyH_take (i := 4) (v := ?_) rfl (by kernel_rfl) (by kernel_rfl) (by kernel_rfl) (fun _ _ _ h => h) (Or.inl ⟨by rfl, ?_⟩) (by assumption) ?_
      rotate_left
      · intro Wq hSw
        have b1 : ((j : Int) < 0) = False := eq_false (by omega)
        clear hSw
        go_simp
        all_goals (with_reducible rfl)
      try simp only [Act.put, List.getElem_toArray, List.getElem_cons_succ, List.getElem_cons_zero, List.setIfInBounds_toArray, List.set_cons_zero, List.set_cons_succ]
      refine wpAnyH_take (i := 5) (v := ?_) rfl (by kernel_rfl) (by kernel_rfl) (by kernel_rfl) (fun _ _ _ h => h) (Or.inl ⟨by rfl, ?_⟩) (by assumption) ?_
      rotate_left
      · intro Wq hSw
        clear hSw
        go_simp
        all_goals (with_reducible rfl)
      try simp only [Act.put, List.getElem_toArray, List.getElem_cons_succ, List.getElem_cons_zero, List.setIfInBounds_toArray, List.set_cons_zero, List.set_cons_succ]
      refine wpAnyH_take (i := 6) (v := ?_) rfl (by kernel_rfl) (by kernel_rfl) (by kernel_rfl) (fun _ _ _ h => h) (Or.inl ⟨by rfl, ?_⟩) (by assumption) ?_
      rotate_left
      · intro Wq hSw
        clear hSw
        go_simp
        all_goals (with_reducible rfl)
      try simp only [Act.put, List.getElem_toArray, List.getElem_cons_succ, List.getElem_cons_zero, List.setIfInBounds_toArray, List.set_cons_zero, List.set_cons_succ]
      refine wpAnyH_take (i := 7) (v := ?_) rfl (by kernel_rfl) (by kernel_rfl) (by kernel_rfl) (fun _ _ _ h => h) (Or.inl ⟨by rfl, ?_⟩) (by assumption) ?_
      rotate_left
      · intro Wq hSw
        clear hSw
        go_simp
        all_goals (with_reducible rfl)
      try simp only [Act.put, List.getElem_toArray, List.getElem_cons_succ, List.getElem_cons_zero, List.setIfInBounds_toArray, List.set_cons_zero, List.set_cons_succ]
      refine wpAnyH_take (i := 8) (v := ?_) rfl (by kernel_rfl) (by kernel_rfl) (by kernel_rfl) (fun _ _ _ h => h) (Or.inl ⟨by rfl, ?_⟩) (by assumption) ?_
      rotate_left
      · intro Wq hSw
        have b1 : ((k : Int) < (L.length : Int)) = True := eq_true (by omega)
        have d1 : (k < L.length) = True := eq_true (by omega)
        have c1 : ((0 : Int) ≤ (k : Int)) = True := eq_true (by omega)
        have d2 : (k < T.length) = True := eq_true (by omega)
        clear hSw
        go_simp
        all_goals (with_reducible rfl)
      try simp only [Act.put, List.getElem_toArray, List.getElem_cons_succ, List.getElem_cons_zero, List.setIfInBounds_toArray, List.set_cons_zero, List.set_cons_succ]
      refine wpAnyH_take (i := 9) (v := ?_) rfl (by kernel_rfl) (by kernel_rfl) (by kernel_rfl) (fun _ _ _ h => h) (Or.inl ⟨by rfl, ?_⟩) (by assumption) ?_
      rotate_left
      · intro Wq hSw
        have k0 := intRow_at (HLi.out.below hSw) hkL HE.out
        clear hSw
        go_simp
        all_goals (with_reducible rfl)
      try simp only [Act.put, List.getElem_toArray, List.getElem_cons_succ, List.getElem_cons_zero, List.setIfInBounds_toArray, List.set_cons_zero, List.set_cons_succ]
      refine wpAnyH_take (i := 10) (v := ?_) rfl (by kernel_rfl) (by kernel_rfl) (by kernel_rfl) (fun _ _ _ h => h) (Or.inl ⟨by rfl, ?_⟩) (by assumption) ?_
      rotate_left
      · intro Wq hSw
        clear hSw
        go_simp
        all_goals (with_reducible rfl)
      try simp only [Act.put, List.getElem_toArray, List.getElem_cons_succ, List.getElem_cons_zero, List.setIfInBounds_toArray, List.set_cons_zero, List.set_cons_succ]
      refine wpAnyH_take (i := 11) (v := ?_) rfl (by kernel_rfl) (by kernel_rfl) (by kernel_rfl) (fun _ _ _ h => h) (Or.inl ⟨by rfl, ?_⟩) (by assumption) ?_
      rotate_left
      · intro Wq hSw
        clear hSw
        go_simp
        all_goals (with_reducible rfl)
      try simp only [Act.put, List.getElem_toArray, List.getElem_cons_succ, List.getElem_cons_zero, List.setIfInBounds_toArray, List.set_cons_zero, List.set_cons_succ]
      refine wpAnyH_take (i := 12) (v := ?_) rfl (by kernel_rfl) (by kernel_rfl) (by kernel_rfl) (fun _ _ _ h => h) (Or.inl ⟨by rfl, ?_⟩) (by assumption) ?_
      rotate_left
      · intro Wq hSw
        have b1 : ((T.length : Int) ≤ (j : Int)) = False := eq_false (by omega)
        have b2 : (T.length ≤ j) = False := eq_false (by omega)
        clear hSw
        go_simp
        all_goals (with_reducible rfl)
      try simp only [Act.put, List.getElem_toArray, List.getElem_cons_succ, List.getElem_cons_zero, List.setIfInBounds_toArray, List.set_cons_zero, List.set_cons_succ]
      refine wpAnyH_take (i := 13) (v := ?_) rfl (by kernel_rfl) (by kernel_rfl) (by kernel_rfl) (fun _ _ _ h => h) (Or.inl ⟨by rfl, ?_⟩) (by assumption) ?_
      rotate_left
      · intro Wq hSw
        clear hSw
        go_simp
        all_goals (with_reducible rfl)
      try simp only [Act.put, List.getElem_toArray, List.getElem_cons_succ, List.getElem_cons_zero, List.setIfInBounds_toArray, List.set_cons_zero, List.set_cons_succ]
      refine wpAnyH_take (i := 14) (v := ?_) rfl (by kernel_rfl) (by kernel_rfl) (by kernel_rfl) (fun _ _ _ h => h) (Or.inl ⟨by rfl, ?_⟩) (by assumption) ?_
      rotate_left
      · intro Wq hSw
        clear hSw
        go_simp
        all_goals (with_reducible rfl)
      try simp only [Act.put, List.getElem_toArray, List.getElem_cons_succ, List.getElem_cons_zero, List.setIfInBounds_toArray, List.set_cons_zero, List.set_cons_succ]
      refine wpAnyH_take (i := 15) (v := ?_) rfl (by kernel_rfl) (by kernel_rfl) (by kernel_rfl) (fun _ _ _ h => h) (Or.inl ⟨by rfl, ?_⟩) (by assumption) ?_
      rotate_left
      · intro Wq hSw
        clear hSw
        go_simp
        all_goals (with_reducible rfl)
      try simp only [Act.put, List.getElem_toArray, List.getElem_cons_succ, List.getElem_cons_zero, List.setIfInBounds_toArray, List.set_cons_zero, List.set_cons_succ]
      refine wpAnyH_take (i := 16) (v := ?_) rfl (by kernel_rfl) (by kernel_rfl) (by kernel_rfl) (fun _ _ _ h => h) (Or.inl ⟨by rfl, ?_⟩) (by assumption) ?_
      rotate_left
      · intro Wq hSw
        clear hSw
        go_simp
        all_goals (with_reducible rfl)
      try simp only [Act.put, List.getElem_toArray, List.getElem_cons_succ, List.getElem_cons_zero, List.setIfInBounds_toArray, List.set_cons_zero, List.set_cons_succ]
      refine wpAnyH_take (i := 17) (v := ?_) rfl (by kernel_rfl) (by kernel_rfl) (by kernel_rfl) (fun _ _ _ h => h) (Or.inl ⟨by rfl, ?_⟩) (by assumption) ?_
      rotate_left
      · intro Wq hSw
        have b1 : ((k : Int) < (M.length : Int)) = True := eq_true (by omega)
        have d1 : (k < M.length) = True := eq_true (by omega)
        have c1 : ((0 : Int) ≤ (k : Int)) = True := eq_true (by omega)
        have d2 : (k < T.length) = True := eq_true (by omega)
        clear hSw
        go_simp
        all_goals (with_reducible rfl)
      try simp only [Act.put, List.getElem_toArray, List.getElem_cons_succ, List.getElem_cons_zero, List.setIfInBounds_toArray, List.set_cons_zero, List.set_cons_succ]
      refine wpAnyH_take (i := 18) (v := ?_) rfl (by kernel_rfl) (by kernel_rfl) (by kernel_rfl) (fun _ _ _ h => h) (Or.inl ⟨by rfl, ?_⟩) (by assumption) ?_
      rotate_left
      · intro Wq hSw
        obtain ⟨k0, k1⟩ := ptRow_at (HMi.out.below hSw) (i := k) hkM HPM.out
        clear hSw
        go_simp
        all_goals (with_reducible rfl)
      try simp only [Act.put, List.getElem_toArray, List.getElem_cons_succ, List.getElem_cons_zero, List.setIfInBounds_toArray, List.set_cons_zero, List.set_cons_succ]
      refine wpAnyH_take (i := 19) (v := ?_) rfl (by kernel_rfl) (by kernel_rfl) (by kernel_rfl) (fun _ _ _ h => h) (Or.inl ⟨by rfl, ?_⟩) (by assumption) ?_
      rotate_left
      · intro Wq hSw
        clear hSw
        go_simp
        all_goals (with_reducible rfl)
      try simp only [Act.put, List.getElem_toArray, List.getElem_cons_succ, List.getElem_cons_zero, List.setIfInBounds_toArray, List.set_cons_zero, List.set_cons_succ]
      refine wpAnyH_take (i := 20) (v := ?_) rfl (by kernel_rfl) (by kernel_rfl) (by kernel_rfl) (fun _ _ _ h => h) (Or.inl ⟨by rfl, ?_⟩) (by assumption) ?_
      rotate_left
      · intro Wq hSw
        clear hSw
        go_simp
        all_goals (with_reducible rfl)
      try simp only [Act.put, List.getElem_toArray, List.getElem_cons_succ, List.getElem_cons_zero, List.setIfInBounds_toArray, List.set_cons_zero, List.set_cons_succ]
      refine wpAnyH_take (i := 21) (v := ?_) rfl (by kernel_rfl) (by kernel_rfl) (by kernel_rfl) (fun _ _ _ h => h) (Or.inl ⟨by rfl, ?_⟩) (by assumption) ?_
      rotate_left
      · intro Wq hSw
        clear hSw
        go_simp
        all_goals (with_reducible rfl)
      try simp only [Act.put, List.getElem_toArray, List.getElem_cons_succ, List.getElem_cons_zero, List.setIfInBounds_toArray, List.set_cons_zero, List.set_cons_succ]
      refine wpAnyH_take (i := 22) (v := ?_) rfl (by kernel_rfl) (by kernel_rfl) (by kernel_rfl) (fun _ _ _ h => h) (Or.inl ⟨by rfl, ?_⟩) (by assumption) ?_
      rotate_left
      · intro Wq hSw
        have b1 : ((k : Int) < (L.length : Int)) = True := eq_true (by omega)
        have d1 : (k < L.length) = True := eq_true (by omega)
        have c1 : ((0 : Int) ≤ (k : Int)) = True := eq_true (by omega)
        have d2 : (k < T.length) = True := eq_true (by omega)
        clear hSw
        go_simp
        all_goals (with_reducible rfl)
      try simp only [Act.put, List.getElem_toArray, List.getElem_cons_succ, List.getElem_cons_zero, List.setIfInBounds_toArray, List.set_cons_zero, List.set_cons_succ]
      refine wpAnyH_take (i := 23) (v := ?_) rfl (by kernel_rfl) (by kernel_rfl) (by kernel_rfl) (fun _ _ _ h => h) (Or.inl ⟨by rfl, ?_⟩) (by assumption) ?_
      rotate_left
      · intro Wq hSw
        have k0 := intRow_at (HLi.out.below hSw) hkL HE.out
        clear hSw
        go_simp
        all_goals (with_reducible rfl)
      try simp only [Act.put, List.getElem_toArray, List.getElem_cons_succ, List.getElem_cons_zero, List.setIfInBounds_toArray, List.set_cons_zero, List.set_cons_succ]
      refine wpAnyH_take (i := 24) (v := ?_) rfl (by kernel_rfl) (by kernel_rfl) (by kernel_rfl) (fun _ _ _ h => h) (Or.inl ⟨by rfl, ?_⟩) (by assumption) ?_
      rotate_left
      · intro Wq hSw
        have b1 : ((j : Int) < (T.length : Int)) = True := eq_true (by omega)
        have d1 : (j < T.length) = True := eq_true (by omega)
        have c1 : ((0 : Int) ≤ (j : Int)) = True := eq_true (by omega)
        clear hSw
        go_simp
        all_goals (with_reducible rfl)
      try simp only [Act.put, List.getElem_toArray, List.getElem_cons_succ, List.getElem_cons_zero, List.setIfInBounds_toArray, List.set_cons_zero, List.set_cons_succ]
      refine wpAnyH_take (i := 25) (v := ?_) rfl (by kernel_rfl) (by kernel_rfl) (by kernel_rfl) (fun _ _ _ h => h) (Or.inl ⟨by rfl, ?_⟩) (by assumption) ?_
      rotate_left
      · intro Wq hSw
        obtain ⟨k0, k1⟩ := ptRow_at (HTi.out.below hSw) (i := j) hj HPT.out
        clear hSw
        go_simp
        all_goals (with_reducible rfl)
      try simp only [Act.put, List.getElem_toArray, List.getElem_cons_succ, List.getElem_cons_zero, List.setIfInBounds_toArray, List.set_cons_zero, List.set_cons_succ]
      refine wpAnyH_take (i := 26) (v := ?_) rfl (by kernel_rfl) (by kernel_rfl) (by kernel_rfl) (fun _ _ _ h => h) (Or.inl ⟨by rfl, ?_⟩) (by assumption) ?_
      rotate_left
      · intro Wq hSw
        clear hSw
        go_simp
        all_goals (with_reducible rfl)
      try simp only [Act.put, List.getElem_toArray, List.getElem_cons_succ, List.getElem_cons_zero, List.setIfInBounds_toArray, List.set_cons_zero, List.set_cons_succ]
      refine wpAnyH_take (i := 27) (v := ?_) rfl (by kernel_rfl) (by kernel_rfl) (by kernel_rfl) (fun _ _ _ h => h) (Or.inl ⟨by rfl, ?_⟩) (by assumption) ?_
      rotate_left
      · intro Wq hSw
        clear hSw
        go_simp
        all_goals (with_reducible rfl)
      try simp only [Act.put, List.getElem_toArray, List.getElem_cons_succ, List.getElem_cons_zero, List.setIfInBounds_toArray, List.set_cons_zero, List.set_cons_succ]
      refine wpAnyH_done (by kernel_rfl) ?_ _
      have HW2 := Lib.hid (bl_trans HW.out hHeld)
      clear HW hHeld
      obtain ⟨m1, m2, m3, m4⟩ := wnum (i := k) (by omega)
      go_wp2_with fail
      clear m1 m2 m3 m4
      exact ⟨⟨k + 1, by rw [Int.natCast_add]; rfl, hk, HW2.out⟩, by simp only [intOf]; omega⟩
    · obtain rfl : k = T.length := by omega
      have b3 : ((T.length : Int) < (T.length : Int)) = False := eq_false (by omega)
      have HRi := Lib.hid (HR10.out.below HW.out)
      have HSi := Lib.hid (HS10.out.below HW.out)
      have HTi := Lib.hid (HT10.out.below HW.out)
      have hc7 : T.length ≤ cp7 := by have := HSL.out; have := HRL.out; omega
      have e1 : ((T.length : Int) ≤ (cp7 : Int)) = True := eq_true (by omega)
      have e2 : ((T.length : Int) ≤ (S.length : Int)) = True := eq_true (by have := HSL.out; have := HRL.out; omega)
      have e3 : ((0 : Int) ≤ (T.length : Int)) = True := eq_true (by omega)
      have hik := HSi.out.take T.length
      rw [HTK.out] at hik
      have HA := Lib.hid (sameInts_l R R ad7 ad4 cp7 cp4 T.length R.length wr hik HRi.out HRL.out.symm rfl (by have := HRL.out; omega))
      rw [decide_eq_true (rfl : R = R)] at HA
      clear hik
      go_wp2_with fail
      (with_reducible refine HA.out.mono ?_); rintro e w11 ⟨rfl, hb1⟩
      have HB11 := Lib.hid hb1
      clear hb1 HA
      have hdz := fun (ad' : Option Addr) (h : ∀ g o, ad7 = some ⟨g, o, none⟩ → T.length < S.length → ad' = some ⟨g, o + T.length, none⟩) => HSi.out.drop T.length h
      rw [HDR.out] at hdz
      by_cases h0 : T.length = 0
      · obtain rfl : T = [] := List.length_eq_zero_iff.1 h0
        obtain rfl : R = [] := List.length_eq_zero_iff.1 HRL.out
        obtain rfl : S = [] := List.length_eq_zero_iff.1 HSL.out
        clear hdz h0 e1 e2 e3 b3 hkl
        simp only [List.length_nil] at *
        rcases ad7 with _ | a7
        · obtain rfl := HN7.out rfl
          go_wp2_with fail
          (with_reducible refine (sameInts_l [] [] _ ad4 _ cp4 _ 0 _ (intRow_nil _ _) (intRow_nil _ _) ?ea rfl (by simp)).mono ?_)
          case ea => simp
          rintro e w12 ⟨rfl, hb1⟩
          rw [decide_eq_true (rfl : ([] : List Int) = [])]
          replace HB11 := Lib.hid (bl_trans HB11.out hb1)
          clear hb1
          have HQo := Lib.hid (refRanks_l [] ad2 cp2 w12 (HTi.out.below HB11.out) (by simp))
          rw [HRE.out, List.length_nil] at HQo
          go_wp2_with fail
          (with_reducible refine HQo.out.mono ?_); rintro e w13 ⟨v13, rfl, hO⟩
          obtain ⟨ad13, cp13, rfl, -, hI, -⟩ := hO.slice
          have HI13 := Lib.hid hI
          replace HB11 := Lib.hid (bl_trans HB11.out hO.hb)
          clear hI hO HQo
          have HA := Lib.hid (sameInts_l [] [] ad4 ad13 cp4 cp13 0 0 w13 (HRi.out.below HB11.out) HI13.out rfl rfl (by simp))
          rw [decide_eq_true (rfl : ([] : List Int) = [])] at HA
          go_wp2_with fail
          (with_reducible refine HA.out.mono ?_); rintro e w14 ⟨rfl, hb1⟩
          replace HB11 := Lib.hid (bl_trans HB11.out hb1)
          clear hb1 HA
          go_wp2_with fail
          (with_reducible refine (KN.out _).mono ?_); rintro e w15 ⟨rfl, hb1⟩
          replace HB11 := Lib.hid (bl_trans (bl_trans (bl_trans HBW.out HW.out) HB11.out) hb1)
          clear hb1
          go_wp2
          go_ret
          exact ⟨rfl, HB11.out⟩
        · by_cases hc0 : cp7 = 0
          · have eB : (cp7 = 0) = True := eq_true hc0
            have fB : ((0 : Int) ≤ (cp7 : Int)) = True := eq_true (by omega)
            clear hc0
            go_wp2_with fail
            (with_reducible refine (sameInts_l [] [] _ ad4 _ cp4 _ 0 _ (intRow_nil _ _) (intRow_nil _ _) ?ea rfl (by simp)).mono ?_)
            case ea => simp
            rintro e w12 ⟨rfl, hb1⟩
            rw [decide_eq_true (rfl : ([] : List Int) = [])]
            replace HB11 := Lib.hid (bl_trans HB11.out hb1)
            clear hb1
            have HQo := Lib.hid (refRanks_l [] ad2 cp2 w12 (HTi.out.below HB11.out) (by simp))
            rw [HRE.out, List.length_nil] at HQo
            go_wp2_with fail
            (with_reducible refine HQo.out.mono ?_); rintro e w13 ⟨v13, rfl, hO⟩
            obtain ⟨ad13, cp13, rfl, -, hI, -⟩ := hO.slice
            have HI13 := Lib.hid hI
            replace HB11 := Lib.hid (bl_trans HB11.out hO.hb)
            clear hI hO HQo
            have HA := Lib.hid (sameInts_l [] [] ad4 ad13 cp4 cp13 0 0 w13 (HRi.out.below HB11.out) HI13.out rfl rfl (by simp))
            rw [decide_eq_true (rfl : ([] : List Int) = [])] at HA
            go_wp2_with fail
            (with_reducible refine HA.out.mono ?_); rintro e w14 ⟨rfl, hb1⟩
            replace HB11 := Lib.hid (bl_trans HB11.out hb1)
            clear hb1 HA
            go_wp2_with fail
            (with_reducible refine (KN.out _).mono ?_); rintro e w15 ⟨rfl, hb1⟩
            replace HB11 := Lib.hid (bl_trans (bl_trans (bl_trans HBW.out HW.out) HB11.out) hb1)
            clear hb1
            go_wp2
            go_ret
            exact ⟨rfl, HB11.out⟩
          · have eB : (cp7 = 0) = False := eq_false hc0
            have fB : ((0 : Int) ≤ (cp7 : Int)) = True := eq_true (by omega)
            clear hc0
            go_wp2_with fail
            (with_reducible refine (sameInts_l [] [] _ ad4 _ cp4 _ 0 _ (intRow_nil _ _) (intRow_nil _ _) ?ea rfl (by simp)).mono ?_)
            case ea => simp
            rintro e w12 ⟨rfl, hb1⟩
            rw [decide_eq_true (rfl : ([] : List Int) = [])]
            replace HB11 := Lib.hid (bl_trans HB11.out hb1)
            clear hb1
            have HQo := Lib.hid (refRanks_l [] ad2 cp2 w12 (HTi.out.below HB11.out) (by simp))
            rw [HRE.out, List.length_nil] at HQo
            go_wp2_with fail
            (with_reducible refine HQo.out.mono ?_); rintro e w13 ⟨v13, rfl, hO⟩
            obtain ⟨ad13, cp13, rfl, -, hI, -⟩ := hO.slice
            have HI13 := Lib.hid hI
            replace HB11 := Lib.hid (bl_trans HB11.out hO.hb)
            clear hI hO HQo
            have HA := Lib.hid (sameInts_l [] [] ad4 ad13 cp4 cp13 0 0 w13 (HRi.out.below HB11.out) HI13.out rfl rfl (by simp))
            rw [decide_eq_true (rfl : ([] : List Int) = [])] at HA
            go_wp2_with fail
            (with_reducible refine HA.out.mono ?_); rintro e w14 ⟨rfl, hb1⟩
            replace HB11 := Lib.hid (bl_trans HB11.out hb1)
            clear hb1 HA
            go_wp2_with fail
            (with_reducible refine (KN.out _).mono ?_); rintro e w15 ⟨rfl, hb1⟩
            replace HB11 := Lib.hid (bl_trans (bl_trans (bl_trans HBW.out HW.out) HB11.out) hb1)
            clear hb1
            go_wp2
            go_ret
            exact ⟨rfl, HB11.out⟩
      · have e4 : (cp7 = T.length) = False := eq_false (by have := HSL.out; have := HRL.out; omega)
        obtain ⟨g7, o7, rfl⟩ := HSi.out.some (by have := HSL.out; have := HRL.out; omega)
        have HD9 := Lib.hid (hdz (some ⟨g7, o7 + T.length, none⟩) (fun g o e _ => by cases e; rfl))
        clear hdz h0
        go_wp2_with fail
        (with_reducible refine (sameInts_l R R _ ad4 _ cp4 _ R.length _ (HD9.out.below HB11.out) (HRi.out.below HB11.out) ?ea rfl ?el).mono ?_)
        case ea => have := HSL.out; have := HRL.out; omega
        case el => have := HRL.out; omega
        rintro e w12 ⟨rfl, hb1⟩
        rw [decide_eq_true (rfl : R = R)]
        replace HB11 := Lib.hid (bl_trans HB11.out hb1)
        clear hb1
        have HQo := Lib.hid (refRanks_l T ad2 cp2 w12 (HTi.out.below HB11.out) (by omega))
        rw [HRE.out] at HQo
        go_wp2_with fail
        (with_reducible refine HQo.out.mono ?_); rintro e w13 ⟨v13, rfl, hO⟩
        obtain ⟨ad13, cp13, rfl, -, hI, -⟩ := hO.slice
        have HI13 := Lib.hid hI
        replace HB11 := Lib.hid (bl_trans HB11.out hO.hb)
        clear hI hO HQo
        have HA := Lib.hid (sameInts_l R R ad4 ad13 cp4 cp13 R.length R.length w13 (HRi.out.below HB11.out) HI13.out rfl rfl (by have := HRL.out; omega))
        rw [decide_eq_true (rfl : R = R)] at HA
        go_wp2_with fail
        (with_reducible refine HA.out.mono ?_); rintro e w14 ⟨rfl, hb1⟩
        replace HB11 := Lib.hid (bl_trans HB11.out hb1)
        clear hb1 HA
        go_wp2_with fail
        (with_reducible refine (KN.out _).mono ?_); rintro e w15 ⟨rfl, hb1⟩
        replace HB11 := Lib.hid (bl_trans (bl_trans (bl_trans HBW.out HW.out) HB11.out) hb1)
        clear hb1
        go_wp2
        go_ret
        exact ⟨rfl, HB11.out⟩
end Go.Proofs.Ytmkegehkifpkjaa
