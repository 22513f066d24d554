/-
  The law SortsOrders.
-/
import Derived.Deep.Cut
import Derived.Test.YtmkegehkifpkjaaRefOrder
import Derived.Test.YtmkegehkifpkjaaRefRanks
import Derived.Test.YtmkegehkifpkjaaKnown7
namespace Go.Proofs.Ytmkegehkifpkjaa
open Go.RowKit

set_option maxHeartbeats 8000000 in
set_option maxRecDepth 100000 in
theorem orders_l (w : World) (p : List Pt) (ad : Option Addr) (cap : Nat) (_ : p.length ≤ cap) (hP : PtRow w ad p) (hn : ad = none → cap = 0) :
    Calls Try.prog 3 #[.slice ad p.length cap] w (Gives (.bool true) w) := by
  have K := Lib.hid (fun W => known_l W)
  have HP0 := Lib.hid hP
  have HN0 := Lib.hid hn
  clear hP hn
  go_enter Try.func3, Try.ntmps3
  by_cases hbig : 120 < p.length
  · have b1 : ((120 : Int) < (p.length : Int)) = True := eq_true (by omega)
    go_wp2_with fail
    (with_reducible refine (K.out _).mono ?_); rintro e w1 ⟨rfl, hb1⟩
    go_wp2
    go_ret
    exact ⟨rfl, hb1⟩
  have b1 : ((120 : Int) < (p.length : Int)) = False := eq_false (by omega)
  have hlen : p.length ≤ 120 := by omega
  clear hbig
  go_wp2_with (at_builtin; refine app_pts rfl _ _ rfl rfl (op_nil w) rfl (L := p) rfl HP0.out HN0.out ?x1 ?_)
  case x1 => simp; omega
  intro v1 w1 hO1
  have HB1 := Lib.hid hO1.hb
  obtain ⟨ad1, cp1, rfl, hcp1, hI, -⟩ := hO1.pts
  have HPo1 := Lib.hid hI
  clear hI hO1
  have HLM := Lib.hid (msort_len (ltI p) (idx p.length))
  have HLR := Lib.hid (ranksM_len p)
  have HQ := Lib.hid (order_l p ad1 cp1 w1 HPo1.out hcp1 (by omega))
  obtain ⟨M, hM⟩ : ∃ M, msort (ltI p) (idx p.length) = M := ⟨_, rfl⟩
  have HM := Lib.hid hM
  rw [hM] at HQ HLM
  rw [idx_len] at HLM
  obtain ⟨R, hR⟩ : ∃ R, ranksM p = R := ⟨_, rfl⟩
  have HR := Lib.hid hR
  rw [hR] at HLR
  clear hM hR
  go_wp2_with fail
  (with_reducible refine HQ.out.mono ?_); rintro e w2 ⟨v2, rfl, hO⟩
  have HB2 := Lib.hid hO.hb
  obtain ⟨ad2, cp2, rfl, -, hI, -⟩ := hO.slice
  have HI2 := Lib.hid hI
  clear hI hO HQ
  have HQ := Lib.hid (ranks_l p ad1 cp1 w2 (HPo1.out.below HB2.out) hcp1 (by omega))
  rw [HR.out] at HQ
  go_wp2_with fail
  (with_reducible refine HQ.out.mono ?_); rintro e w3 ⟨v3, rfl, hO⟩
  have HB3 := Lib.hid hO.hb
  obtain ⟨ad3, cp3, rfl, -, hI, -⟩ := hO.slice
  have HI3 := Lib.hid hI
  clear hI hO HQ
  have HP3 := Lib.hid (HP0.out.below (bl_trans (bl_trans HB1.out HB2.out) HB3.out))
  have HQ := Lib.hid (refOrder_l p ad cap w3 HP3.out (by omega))
  rw [HM.out] at HQ
  go_wp2_with fail
  (with_reducible refine HQ.out.mono ?_); rintro e w4 ⟨v4, rfl, hO⟩
  have HB4 := Lib.hid hO.hb
  obtain ⟨ad4, cp4, rfl, -, hI, -⟩ := hO.slice
  have HI4 := Lib.hid hI
  clear hI hO HQ
  have HS := Lib.hid (sameInts_l M M ad2 ad4 cp2 cp4 M.length M.length w4 ((HI2.out.below HB3.out).below HB4.out) HI4.out rfl rfl (by have := HLM.out; omega))
  rw [decide_eq_true (rfl : M = M)] at HS
  go_wp2_with fail
  (with_reducible refine HS.out.mono ?_); rintro e w5 ⟨rfl, hb1⟩
  have HB5 := Lib.hid hb1
  clear hb1 HS
  have HP5 := Lib.hid (HP3.out.below (bl_trans HB4.out HB5.out))
  have HQ := Lib.hid (refRanks_l p ad cap w5 HP5.out (by omega))
  rw [HR.out] at HQ
  go_wp2_with fail
  (with_reducible refine HQ.out.mono ?_); rintro e w6 ⟨v6, rfl, hO⟩
  have HB6 := Lib.hid hO.hb
  obtain ⟨ad6, cp6, rfl, -, hI, -⟩ := hO.slice
  have HI6 := Lib.hid hI
  clear hI hO HQ
  have HS := Lib.hid (sameInts_l R R ad3 ad6 cp3 cp6 R.length R.length w6 ((HI3.out.below (bl_trans HB4.out HB5.out)).below HB6.out) HI6.out rfl rfl (by have := HLR.out; omega))
  rw [decide_eq_true (rfl : R = R)] at HS
  go_wp2_with fail
  (with_reducible refine HS.out.mono ?_); rintro e w7 ⟨rfl, hb1⟩
  have HP7 := Lib.hid (HP5.out.below (bl_trans HB6.out hb1))
  have HBX := Lib.hid (bl_trans (bl_trans (bl_trans (bl_trans HB2.out HB3.out) (bl_trans HB4.out HB5.out)) HB6.out) hb1)
  have HPo7 := Lib.hid (HPo1.out.below HBX.out)
  have HBW := Lib.hid (bl_trans HB1.out HBX.out)
  clear hb1 HS HI2 HI3 HI4 HI6 HP5 HP3 HB6 HB5 HB4 HB3 HB2 HBX HPo1 HP0
  go_wp2_with fail
  go_loopw [6] (fun iv W => ∃ k : Nat, iv = .int .i64 k ∧ k ≤ p.length ∧ Below w7.heap.size w7 W) (fun iv _ => p.length - (intOf iv).toNat)
  case atStart => exact ⟨0, rfl, Nat.zero_le _, Below.refl _ _⟩
  case round =>
    obtain ⟨k, rfl, hkl, hW⟩ := hrel
    have HW := Lib.hid hW
    clear hW
    by_cases hk : k < p.length
    · have b3 : ((k : Int) < (p.length : Int)) = True := eq_true (by omega)
      have d3 : (k < p.length) = True := eq_true (by omega)
      have c3 : ((0 : Int) ≤ (k : Int)) = True := eq_true (by omega)
      have HPi := Lib.hid (HP7.out.below HW.out)
      have HPo := Lib.hid (HPo7.out.below HW.out)
      obtain ⟨g, o, rfl⟩ := HPi.out.some (by omega)
      obtain ⟨g1, o1, rfl⟩ := HPo.out.some (by omega)
      go_wp2_with fail
      refine wp_region_held_drew (S := fun V => Below wr.heap.size wr V) (by kernel_rfl) ?_ (fun hHeld => ?_)
      · exact bel_drew wr
      revert hHeld
      generalize World.drew _ = W1
      intro hHeld 
      refine wpAnyH_take (i := 0) (v := ?_) rfl (by kernel_rfl) (by kernel_rfl) (by kernel_rfl) (fun _ _ _ h => h) (Or.inl ⟨by rfl, ?_⟩) (by assumption) ?_
      rotate_left
      · intro Wq hSw
        clear hSw
        go_simp
        all_goals (with_reducible rfl)
      try simp only [Act.put, List.getElem_toArray, List.getElem_cons_zero, List.setIfInBounds_toArray, List.set_cons_zero, List.set_cons_succ]
      refine wpAnyH_take (i := 1) (v := ?_) rfl (by kernel_rfl) (by kernel_rfl) (by kernel_rfl) (fun _ _ _ h => h) (Or.inl ⟨by rfl, ?_⟩) (by assumption) ?_
      rotate_left
      · intro Wq hSw
        clear hSw
        go_simp
        all_goals (with_reducible rfl)
      try simp only [Act.put, List.getElem_toArray, List.getElem_cons_succ, List.getElem_cons_zero, List.setIfInBounds_toArray, List.set_cons_zero, List.set_cons_succ]
      refine wpAnyH_take (i := 2) (v := ?_) rfl (by kernel_rfl) (by kernel_rfl) (by kernel_rfl) (fun _ _ _ h => h) (Or.inl ⟨by rfl, ?_⟩) (by assumption) ?_
      rotate_left
      · intro Wq hSw
        have b1 : ((k : Int) < (p.length : Int)) = True := eq_true (by omega)
        have d1 : (k < p.length) = True := eq_true (by omega)
        have c1 : ((0 : Int) ≤ (k : Int)) = True := eq_true (by omega)
        clear hSw
        go_simp
        all_goals (with_reducible rfl)
      try simp only [Act.put, List.getElem_toArray, List.getElem_cons_succ, List.getElem_cons_zero, List.setIfInBounds_toArray, List.set_cons_zero, List.set_cons_succ]
      refine wpAnyH_take (i := 3) (v := ?_) rfl (by kernel_rfl) (by kernel_rfl) (by kernel_rfl) (fun _ _ _ h => h) (Or.inl ⟨by rfl, ?_⟩) (by assumption) ?_
      rotate_left
      · intro Wq hSw
        obtain ⟨k0, k1⟩ := ptRow_at (HPo.out.below hSw) (i := k) hk (t := pget p k) rfl
        clear hSw
        go_simp
        all_goals (with_reducible rfl)
      try simp only [Act.put, List.getElem_toArray, List.getElem_cons_succ, List.getElem_cons_zero, List.setIfInBounds_toArray, List.set_cons_zero, List.set_cons_succ]
      refine wpAnyH_take (i := 4) (v := ?_) rfl (by kernel_rfl) (by kernel_rfl) (by kernel_rfl) (fun _ _ _ h => h) (Or.inl ⟨by rfl, ?_⟩) (by assumption) ?_
      rotate_left
      · intro Wq hSw
        clear hSw
        go_simp
        all_goals (with_reducible rfl)
      try simp only [Act.put, List.getElem_toArray, List.getElem_cons_succ, List.getElem_cons_zero, List.setIfInBounds_toArray, List.set_cons_zero, List.set_cons_succ]
      refine wpAnyH_take (i := 5) (v := ?_) rfl (by kernel_rfl) (by kernel_rfl) (by kernel_rfl) (fun _ _ _ h => h) (Or.inl ⟨by rfl, ?_⟩) (by assumption) ?_
      rotate_left
      · intro Wq hSw
        clear hSw
        go_simp
        all_goals (with_reducible rfl)
      try simp only [Act.put, List.getElem_toArray, List.getElem_cons_succ, List.getElem_cons_zero, List.setIfInBounds_toArray, List.set_cons_zero, List.set_cons_succ]
      refine wpAnyH_take (i := 6) (v := ?_) rfl (by kernel_rfl) (by kernel_rfl) (by kernel_rfl) (fun _ _ _ h => h) (Or.inl ⟨by rfl, ?_⟩) (by assumption) ?_
      rotate_left
      · intro Wq hSw
        have b1 : ((k : Int) < (p.length : Int)) = True := eq_true (by omega)
        have d1 : (k < p.length) = True := eq_true (by omega)
        have c1 : ((0 : Int) ≤ (k : Int)) = True := eq_true (by omega)
        clear hSw
        go_simp
        all_goals (with_reducible rfl)
      try simp only [Act.put, List.getElem_toArray, List.getElem_cons_succ, List.getElem_cons_zero, List.setIfInBounds_toArray, List.set_cons_zero, List.set_cons_succ]
      refine wpAnyH_take (i := 7) (v := ?_) rfl (by kernel_rfl) (by kernel_rfl) (by kernel_rfl) (fun _ _ _ h => h) (Or.inl ⟨by rfl, ?_⟩) (by assumption) ?_
      rotate_left
      · intro Wq hSw
        obtain ⟨k0, k1⟩ := ptRow_at (HPi.out.below hSw) (i := k) hk (t := pget p k) rfl
        clear hSw
        go_simp
        all_goals (with_reducible rfl)
      try simp only [Act.put, List.getElem_toArray, List.getElem_cons_succ, List.getElem_cons_zero, List.setIfInBounds_toArray, List.set_cons_zero, List.set_cons_succ]
      refine wpAnyH_take (i := 8) (v := ?_) rfl (by kernel_rfl) (by kernel_rfl) (by kernel_rfl) (fun _ _ _ h => h) (Or.inl ⟨by rfl, ?_⟩) (by assumption) ?_
      rotate_left
      · intro Wq hSw
        clear hSw
        go_simp
        all_goals (with_reducible rfl)
      try simp only [Act.put, List.getElem_toArray, List.getElem_cons_succ, List.getElem_cons_zero, List.setIfInBounds_toArray, List.set_cons_zero, List.set_cons_succ]
      refine wpAnyH_done (by kernel_rfl) ?_ _
      have HW2 := Lib.hid (bl_trans HW.out hHeld)
      clear HW hHeld
      obtain ⟨m1, m2, m3, m4⟩ := wnum (i := k) (by omega)
      go_wp2_with fail
      clear m1 m2 m3 m4
      exact ⟨⟨k + 1, by rw [Int.natCast_add]; rfl, hk, HW2.out⟩, by simp only [intOf]; omega⟩
    · obtain rfl : k = p.length := by omega
      have b3 : ((p.length : Int) < (p.length : Int)) = False := eq_false (by omega)
      go_wp2_with fail
      (with_reducible refine (K.out _).mono ?_); rintro e w8 ⟨rfl, hb1⟩
      have HF := Lib.hid (bl_trans (bl_trans HBW.out HW.out) hb1)
      clear hb1
      go_wp2
      go_ret
      exact ⟨rfl, HF.out⟩
end Go.Proofs.Ytmkegehkifpkjaa
