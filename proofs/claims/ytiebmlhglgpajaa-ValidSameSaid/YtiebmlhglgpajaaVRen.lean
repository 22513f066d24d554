/-
  Layer 10: the law's renamed.
-/
import Derived.Test.YtiebmlhglgpajaaVSameK
import Derived.Test.YtiebmlhglgpajaaVMems
namespace Go.Proofs.Ytiebmlhglgpajaa
open Go.RowKit

theorem renL_len (n b : Int) (l : List Pt) : (renL n b l).length = l.length := by simp [renL]
theorem renI_len (n b : Int) (l : List Pt) : (renI n b l).length = l.length := by simp [renI]
theorem renL_at {n b : Int} {l : List Pt} {k : Nat} (h : k < l.length) : pget (renL n b l) k = renT n b (pget l k) := by
  rw [pget_getElem (by rw [renL_len]; exact h), pget_getElem h]
  simp [renL]
theorem renI_at {n b : Int} {l : List Pt} {k : Nat} (h : k < l.length) : pget (renI n b l) k = renS n b (pget l (l.length - 1 - k)) := by
  rw [pget_getElem (by rw [renI_len]; exact h), pget_getElem (by omega)]
  simp [renI]
theorem wsgm10 {n b : Nat} {x j : Int} (h : sgm n b x = j) (x0 : 0 ≤ x) (x1 : x < n) (hn : n ≤ 200) (hb : b < n) : IntKind.i64.wrap (x + (n : Int)) = x + (n : Int) ∧ IntKind.i64.wrap (x + (n : Int) - (b : Int)) = x + (n : Int) - (b : Int) ∧ Int.tmod (x + (n : Int) - (b : Int)) (n : Int) = j := by
  refine ⟨IntWalk.i64_in _ (by omega), IntWalk.i64_in _ (by omega), ?_⟩
  rw [Int.tmod_eq_emod_of_nonneg (by omega), ← h]; rfl
theorem wrev10 {n k j : Nat} (h : n - 1 - k = j) (hk : k < n) (hn : n ≤ 400) : IntKind.i64.wrap ((n : Int) - 1) = (n : Int) - 1 ∧ IntKind.i64.wrap ((n : Int) - 1 - (k : Int)) = (j : Int) ∧ wrap64 ((n : Int) - 1) = (n : Int) - 1 ∧ wrap64 ((n : Int) - 1 - (k : Int)) = (j : Int) := by
  have e : (n : Int) - 1 - (k : Int) = (j : Int) := by omega
  rw [e]
  exact ⟨IntWalk.i64_in _ (by omega), IntWalk.i64_in _ (by omega), by unfold wrap64; omega, by unfold wrap64; omega⟩
theorem take_snocR (l : List Pt) {k : Nat} (h : k < l.length) : l.take (k + 1) = l.take k ++ [pget l k] := by
  rw [List.take_add_one, List.getElem?_eq_getElem h, pget_getElem h]; rfl
theorem wmod10 {a b n j : Nat} (h : (a + b) % n = j) (ha : a ≤ 1000) (hb : b ≤ 1000) (hn : 0 < n) : IntKind.i64.wrap ((a : Int) + (b : Int)) = ((a + b : Nat) : Int) ∧ Int.tmod ((a : Int) + (b : Int)) (n : Int) = (j : Int) ∧ ((n : Int) = 0) = False := by
  refine ⟨by rw [← Int.natCast_add]; exact (wnum (by omega)).2.1, ?_, eq_false (by omega)⟩
  rw [← Int.natCast_add, Int.tmod_eq_emod_of_nonneg (by omega), ← h]
  rfl
set_option maxHeartbeats 8000000 in
set_option maxRecDepth 100000 in
theorem renamed10_l (p l i : List Pt) (b : Nat) (hb : b < p.length) (hc : ChkOk p l i) (ap al ai : Option Addr) (cp cl ci : Nat) (w : World) (hA : Pol w ap al ai cp cl ci p l i) :
    Calls Try.prog 17 #[.agg #[.slice ap p.length cp, .slice al l.length cl, .slice ai i.length ci], .int .i64 (b : Int)] w fun e W => ∃ u v x, e = .returned (.agg #[u, v, x]) ∧ Own3 w u v x (renP p b) (renL p.length b l) (renI p.length b i) W := by
  have HA := Lib.hid hA
  have HC := Lib.hid hc
  clear hA hc
  go_enter Try.func17, Try.ntmps17
  go_upto_region 3 with (fail)
  have HV := Lib.hid (((var3_new w (.slice ap p.length cp) (.slice al l.length cl) (.slice ai i.length ci) 38 w.heap.size rfl).below (bl_one _ (.cells #[.slice none 0 0, .slice none 0 0, .slice none 0 0] 38))).below (bl_one _ (.cells #[.slice none 0 0, .slice none 0 0, .slice none 0 0] 38)))
  have HF := Lib.hid ((var3_new (w.alloc (.cells #[.slice ap p.length cp, .slice al l.length cl, .slice ai i.length ci] 38)) (.slice none 0 0) (.slice none 0 0) (.slice none 0 0) 38 (w.heap.size + 1) (by simp)).below (bl_one _ (.cells #[.slice none 0 0, .slice none 0 0, .slice none 0 0] 38)))
  have HX := Lib.hid (var3_new ((w.alloc (.cells #[.slice ap p.length cp, .slice al l.length cl, .slice ai i.length ci] 38)).alloc (.cells #[.slice none 0 0, .slice none 0 0, .slice none 0 0] 38)) (.slice none 0 0) (.slice none 0 0) (.slice none 0 0) 38 (w.heap.size + 1 + 1) (by simp))
  have HB := Lib.hid (bl_trans (bl_trans (bl_one w (.cells #[.slice ap p.length cp, .slice al l.length cl, .slice ai i.length ci] 38)) (bl_one _ (.cells #[.slice none 0 0, .slice none 0 0, .slice none 0 0] 38))) (bl_one _ (.cells #[.slice none 0 0, .slice none 0 0, .slice none 0 0] 38)))
  generalize ((w.alloc (.cells #[.slice ap p.length cp, .slice al l.length cl, .slice ai i.length ci] 38)).alloc (.cells #[.slice none 0 0, .slice none 0 0, .slice none 0 0] 38)).alloc (.cells #[.slice none 0 0, .slice none 0 0, .slice none 0 0] 38) = W1 at *
  go_wp2_with fail
  go_loopw [7] (fun iv W => ∃ k : Nat, ∃ u : Value, k ≤ p.length ∧ iv = .int .i64 k ∧ Op 49 w u ((renP p b).take k) W ∧ Var W (w.heap.size + 1 + 1) [u, .slice none 0 0, .slice none 0 0] ∧ Var W (w.heap.size + 1) [.slice none 0 0, .slice none 0 0, .slice none 0 0] ∧ Var W w.heap.size [.slice ap p.length cp, .slice al l.length cl, .slice ai i.length ci] ∧ (∀ g, u.ownBlock = some g → w.heap.size + 1 + 1 < g)) (fun iv _ => p.length - (intOf iv).toNat)
  case atStart => exact ⟨0, _, Nat.zero_le _, rfl, ⟨World.ownsRow_nil _ _ _ _, HB.out, HB.out.size⟩, HX.out, HF.out, HV.out, fun g e => by cases e⟩
  case round =>
    obtain ⟨k, u, hk, rfl, hO, hx, hf, hv, hn⟩ := hrel
    have HO := Lib.hid hO
    have HX := Lib.hid hx
    have HFv := Lib.hid hf
    have HVv := Lib.hid hv
    have HNB := Lib.hid hn
    have HBt := Lib.hid hO.hb
    clear hO hx hf hv hn HV HF
    by_cases hlt : k < p.length
    · have b2 : ((k : Int) < (p.length : Int)) = True := eq_true (by omega)
      have d2 : (k < p.length) = True := eq_true hlt
      have c2 : ((0 : Int) ≤ (k : Int)) = True := eq_true (by omega)
      obtain ⟨j, hj⟩ : ∃ j : Nat, (k + b) % p.length = j := ⟨_, rfl⟩
      have hjl : j < p.length := by rw [← hj]; exact Nat.mod_lt _ (by omega)
      obtain ⟨gp, op, rfl⟩ := HA.out.pp.some (by omega)
      obtain ⟨⟨qx, qy⟩, hq⟩ : ∃ q, pget p j = q := ⟨_, rfl⟩
      have HQ := Lib.hid hq
      have HTk : Hid ((renP p b).take (k + 1) = (renP p b).take k ++ [⟨qx, qy⟩]) := by
        unfold Hid
        rw [take_snocR _ (by rw [renP_len]; exact hlt), renP_at hlt, hj, hq]
      have hpe : (p = []) = False := eq_false (fun e => by subst e; simp at hlt)
      have HLT : Hid (((renP p b).take k).length = k) := by unfold Hid; rw [List.length_take, renP_len]; omega
      have hpn := HC.out.n
      have HW := Lib.hid (wmod10 (a := k) (b := b) (n := p.length) (j := j) hj (by omega) (by omega) (by omega))
      obtain ⟨au, cu, eu, -, -, -⟩ := HO.out.slice
      rw [HLT.out] at eu
      subst eu
      clear hj hq
      go_upto_region 6 with (fail)
      refine wp_region_held_drew (S := fun V => Below (w.heap.size + 1 + 1) wr V) (by kernel_rfl) ?_ (fun hHeld => ?_)
      · exact (Below.refl _ _).drew
      replace HO := Lib.hid HO.out.drew
      replace HX := Lib.hid (HX.out.below (bel_drew _))
      revert hHeld
      revert HX HO
      generalize World.drew _ = W9
      intro HO HX hHeld
      refine wpAnyH_take (i := 0) (v := ?_) rfl (by kernel_rfl) (by kernel_rfl) (by kernel_rfl) (fun _ _ _ h => h) (Or.inl ⟨by rfl, ?_⟩) (by assumption) ?_
      rotate_left
      · intro Wq hSw
        clear hSw
        go_simp
        all_goals (with_reducible rfl)
      try simp only [Act.put, List.getElem_toArray, List.getElem_cons_zero, List.setIfInBounds_toArray, List.set_cons_zero, List.set_cons_succ]
      refine wpAnyH_take (i := 2) (v := ?_) rfl (by kernel_rfl) (by kernel_rfl) (by kernel_rfl) (fun _ _ _ h => h) (Or.inl ⟨by rfl, ?_⟩) (by assumption) ?_
      rotate_left
      · intro Wq hSw
        clear hSw
        go_simp
        all_goals (with_reducible rfl)
      try simp only [Act.put, List.getElem_toArray, List.getElem_cons_succ, List.getElem_cons_zero, List.setIfInBounds_toArray, List.set_cons_zero, List.set_cons_succ]
      refine wpAnyH_take (i := 3) (v := ?_) rfl (by kernel_rfl) (by kernel_rfl) (by kernel_rfl) (fun _ _ _ h => h) (Or.inl ⟨by rfl, ?_⟩) (by assumption) ?_
      rotate_left
      · intro Wq hSw
        obtain ⟨k0, k1, k2⟩ := (HVv.out.belowB hSw (by omega)).three
        clear hSw
        go_simp
        all_goals (with_reducible rfl)
      try simp only [Act.put, List.getElem_toArray, List.getElem_cons_succ, List.getElem_cons_zero, List.setIfInBounds_toArray, List.set_cons_zero, List.set_cons_succ]
      refine wpAnyH_take (i := 4) (v := ?_) rfl (by kernel_rfl) (by kernel_rfl) (by kernel_rfl) (fun _ _ _ h => h) (Or.inl ⟨by rfl, ?_⟩) (by assumption) ?_
      rotate_left
      · intro Wq hSw
        clear hSw
        go_simp
        all_goals (with_reducible rfl)
      try simp only [Act.put, List.getElem_toArray, List.getElem_cons_succ, List.getElem_cons_zero, List.setIfInBounds_toArray, List.set_cons_zero, List.set_cons_succ]
      refine wpAnyH_take (i := 5) (v := ?_) rfl (by kernel_rfl) (by kernel_rfl) (by kernel_rfl) (fun _ _ _ h => h) (Or.inl ⟨by rfl, ?_⟩) (by assumption) ?_
      rotate_left
      · intro Wq hSw
        clear hSw
        go_simp
        all_goals (with_reducible rfl)
      try simp only [Act.put, List.getElem_toArray, List.getElem_cons_succ, List.getElem_cons_zero, List.setIfInBounds_toArray, List.set_cons_zero, List.set_cons_succ]
      refine wpAnyH_take (i := 6) (v := ?_) rfl (by kernel_rfl) (by kernel_rfl) (by kernel_rfl) (fun _ _ _ h => h) (Or.inl ⟨by rfl, ?_⟩) (by assumption) ?_
      rotate_left
      · intro Wq hSw
        obtain ⟨m1, m2, m3⟩ := HW.out
        clear hSw
        go_simp
        all_goals (with_reducible rfl)
      try simp only [Act.put, List.getElem_toArray, List.getElem_cons_succ, List.getElem_cons_zero, List.setIfInBounds_toArray, List.set_cons_zero, List.set_cons_succ]
      refine wpAnyH_take (i := 7) (v := ?_) rfl (by kernel_rfl) (by kernel_rfl) (by kernel_rfl) (fun _ _ _ h => h) (Or.inl ⟨by rfl, ?_⟩) (by assumption) ?_
      rotate_left
      · intro Wq hSw
        clear hSw
        go_simp
        all_goals (with_reducible rfl)
      try simp only [Act.put, List.getElem_toArray, List.getElem_cons_succ, List.getElem_cons_zero, List.setIfInBounds_toArray, List.set_cons_zero, List.set_cons_succ]
      refine wpAnyH_take (i := 8) (v := ?_) rfl (by kernel_rfl) (by kernel_rfl) (by kernel_rfl) (fun _ _ _ h => h) (Or.inl ⟨by rfl, ?_⟩) (by assumption) ?_
      rotate_left
      · intro Wq hSw
        obtain ⟨m1, m2, m3⟩ := HW.out
        clear hSw
        go_simp
        all_goals (with_reducible rfl)
      try simp only [Act.put, List.getElem_toArray, List.getElem_cons_succ, List.getElem_cons_zero, List.setIfInBounds_toArray, List.set_cons_zero, List.set_cons_succ]
      refine wpAnyH_take (i := 9) (v := ?_) rfl (by kernel_rfl) (by kernel_rfl) (by kernel_rfl) (fun _ _ _ h => h) (Or.inl ⟨by rfl, ?_⟩) (by assumption) ?_
      rotate_left
      · intro Wq hSw
        have e1 : ((j : Int) < (p.length : Int)) = True := eq_true (by omega)
        have e2 : (j < p.length) = True := eq_true hjl
        have e3 : ((0 : Int) ≤ (j : Int)) = True := eq_true (by omega)
        clear hSw
        go_simp
        all_goals (with_reducible rfl)
      try simp only [Act.put, List.getElem_toArray, List.getElem_cons_succ, List.getElem_cons_zero, List.setIfInBounds_toArray, List.set_cons_zero, List.set_cons_succ]
      refine wpAnyH_take (i := 10) (v := ?_) rfl (by kernel_rfl) (by kernel_rfl) (by kernel_rfl) (fun _ _ _ h => h) (Or.inl ⟨by rfl, ?_⟩) (by assumption) ?_
      rotate_left
      · intro Wq hSw
        obtain ⟨c0, c1⟩ := ptRow_at (HA.out.pp.below (HBt.out.trans (hSw.mono (by omega)))) hjl HQ.out
        dsimp only at c0 c1
        clear hSw
        go_simp
        all_goals (with_reducible rfl)
      try simp only [Act.put, List.getElem_toArray, List.getElem_cons_succ, List.getElem_cons_zero, List.setIfInBounds_toArray, List.set_cons_zero, List.set_cons_succ]
      refine r2 (i := 1) (j := 11) rfl (fun K hK => ?_) rfl (fun K hK => ?_)
      · obtain ⟨x0, x1, x2⟩ := HX.out.three
        go_simp
        refine hK.out _ _ hHeld (fun hHeld2 => ?_)
        clear hK K hHeld x0 x1 x2
        have hHeld := hHeld2
        clear hHeld2
        try simp only [Act.put, List.getElem_toArray, List.getElem_cons_succ, List.getElem_cons_zero, List.setIfInBounds_toArray, List.set_cons_zero, List.set_cons_succ]
        refine r1 (i := 11) rfl (fun K hK => ?_)
        go_simp
        have HN := Lib.hid (row1_new W9 ⟨qx, qy⟩ 49)
        have hB8 := Nat.le_of_lt HX.out.lt
        replace HO := Lib.hid (HO.out.alloc (.cells #[.int .i64 qx, .int .i64 qy] 49))
        replace HX := Lib.hid (HX.out.below (bl_one W9 (.cells #[.int .i64 qx, .int .i64 qy] 49)))
        refine hK.out _ _ (hHeld.alloc hB8 _) (fun hHeld2 => ?_)
        clear hK K hHeld hB8
        generalize W9.alloc (.cells #[.int .i64 qx, .int .i64 qy] 49) = W8 at *
        have hHeld := hHeld2
        clear hHeld2
        try simp only [Act.put, List.getElem_toArray, List.getElem_cons_succ, List.getElem_cons_zero, List.setIfInBounds_toArray, List.set_cons_zero, List.set_cons_succ]
        refine r1 (i := 12) rfl (fun K hK => ?_)
        refine app_pts10_wp Try.underlying35 info_pt10 (.tmp 21) (.tmp 31) rfl (by rfl) HO.out (L := [⟨qx, qy⟩]) (by rfl) HN.out ?lim (fun v2 w4 hO2 hg2 hloc2 => ?_)
        case lim => (have := HLT.out; simp; omega)
        have hB8 := Nat.le_of_lt HX.out.lt
        have hB9 := HX.out.lt
        have HNB2 : Hid (∀ g, v2.ownBlock = some g → (w.heap.size + 1 + 1) < g) := fun g e => by
          rcases hloc2 with h | h
          · exact HNB.out g (by rw [← h]; exact e)
          · rw [h] at e; cases e; exact hB9
        have hlo := fun k e => (HO.out.own.lt k e).1
        replace HX := Lib.hid (HX.out.grown10 hg2 (fun k e h => by have := HNB.out k e; omega))
        replace HO := Lib.hid hO2
        refine hK.out _ _ (hHeld.grown hg2 hB8 (fun k e => Nat.le_of_lt (HNB.out k e))) (fun hHeld2 => ?_)
        clear hK K hHeld hO2 hg2 hloc2 hlo hB8 hB9 HN HNB 
        have hHeld := hHeld2
        clear hHeld2
        try simp only [Act.put, List.getElem_toArray, List.getElem_cons_succ, List.getElem_cons_zero, List.setIfInBounds_toArray, List.set_cons_zero, List.set_cons_succ]
        refine wpAnyH_take (i := 13) (v := ?_) rfl (by kernel_rfl) (by kernel_rfl) (by kernel_rfl) (fun _ _ _ h => h) (Or.inl ⟨by rfl, ?_⟩) (by assumption) ?_
        rotate_left
        · intro Wq hSw
          clear hSw
          go_simp
          all_goals (with_reducible rfl)
        try simp only [Act.put, List.getElem_toArray, List.getElem_cons_succ, List.getElem_cons_zero, List.setIfInBounds_toArray, List.set_cons_zero, List.set_cons_succ]
        refine r1 (i := 14) rfl (fun K hK => ?_)
        obtain ⟨x0, x1, x2⟩ := HX.out.three
        obtain ⟨y0, y1, y2⟩ := HX.out.free3
        obtain ⟨a2, n2, c2, ev2⟩ : ∃ a m c, v2 = Value.slice a m c := by obtain ⟨a, c, e, -, -, -⟩ := HO.out.slice; exact ⟨a, _, c, e⟩
        subst ev2
        replace HX := Lib.hid (HX.out.setAt10 (k := 0) (by simp) (.slice a2 n2 c2))
        replace HO := Lib.hid (HO.out.set10 (g := (w.heap.size + 1 + 1)) (fun e => by have := HNB2.out _ e; omega) (by omega) 0 (.slice a2 n2 c2))
        go_simp
        refine hK.out _ _ (hHeld.setCell (Nat.le_refl _) _) (fun hHeld2 => ?_)
        clear hK K hHeld x0 x1 x2 y0 y1 y2
        have hHeld := hHeld2
        clear hHeld2
        try simp only [Act.put, List.getElem_toArray, List.getElem_cons_succ, List.getElem_cons_zero, List.setIfInBounds_toArray, List.set_cons_zero, List.set_cons_succ]
        refine wpAnyH_done (by kernel_rfl) ?_ _
        have hHeld9 := Lib.hid hHeld
        clear hHeld
        obtain ⟨m1, m2, m3, m4⟩ := wnum (i := k) (by omega)
        go_wp2_with fail
        clear m1 m2 m3 m4
        exact ⟨⟨k + 1, _, hlt, by rw [Int.natCast_add]; rfl, by have h := HO.out; rw [← HTk.out] at h; exact h, HX.out, HFv.out.belowB hHeld9.out (by omega), HVv.out.belowB hHeld9.out (by omega), HNB2.out⟩, by simp [intOf]; omega⟩
      · go_simp
        have HN := Lib.hid (row1_new W9 ⟨qx, qy⟩ 49)
        have hB8 := Nat.le_of_lt HX.out.lt
        replace HO := Lib.hid (HO.out.alloc (.cells #[.int .i64 qx, .int .i64 qy] 49))
        replace HX := Lib.hid (HX.out.below (bl_one W9 (.cells #[.int .i64 qx, .int .i64 qy] 49)))
        refine hK.out _ _ (hHeld.alloc hB8 _) (fun hHeld2 => ?_)
        clear hK K hHeld hB8
        generalize W9.alloc (.cells #[.int .i64 qx, .int .i64 qy] 49) = W8 at *
        have hHeld := hHeld2
        clear hHeld2
        try simp only [Act.put, List.getElem_toArray, List.getElem_cons_succ, List.getElem_cons_zero, List.setIfInBounds_toArray, List.set_cons_zero, List.set_cons_succ]
        refine r1 (i := 1) rfl (fun K hK => ?_)
        obtain ⟨x0, x1, x2⟩ := HX.out.three
        go_simp
        refine hK.out _ _ hHeld (fun hHeld2 => ?_)
        clear hK K hHeld x0 x1 x2
        have hHeld := hHeld2
        clear hHeld2
        try simp only [Act.put, List.getElem_toArray, List.getElem_cons_succ, List.getElem_cons_zero, List.setIfInBounds_toArray, List.set_cons_zero, List.set_cons_succ]
        refine r1 (i := 12) rfl (fun K hK => ?_)
        refine app_pts10_wp Try.underlying35 info_pt10 (.tmp 21) (.tmp 31) rfl (by rfl) HO.out (L := [⟨qx, qy⟩]) (by rfl) HN.out ?lim (fun v2 w4 hO2 hg2 hloc2 => ?_)
        case lim => (have := HLT.out; simp; omega)
        have hB8 := Nat.le_of_lt HX.out.lt
        have hB9 := HX.out.lt
        have HNB2 : Hid (∀ g, v2.ownBlock = some g → (w.heap.size + 1 + 1) < g) := fun g e => by
          rcases hloc2 with h | h
          · exact HNB.out g (by rw [← h]; exact e)
          · rw [h] at e; cases e; exact hB9
        have hlo := fun k e => (HO.out.own.lt k e).1
        replace HX := Lib.hid (HX.out.grown10 hg2 (fun k e h => by have := HNB.out k e; omega))
        replace HO := Lib.hid hO2
        refine hK.out _ _ (hHeld.grown hg2 hB8 (fun k e => Nat.le_of_lt (HNB.out k e))) (fun hHeld2 => ?_)
        clear hK K hHeld hO2 hg2 hloc2 hlo hB8 hB9 HN HNB 
        have hHeld := hHeld2
        clear hHeld2
        try simp only [Act.put, List.getElem_toArray, List.getElem_cons_succ, List.getElem_cons_zero, List.setIfInBounds_toArray, List.set_cons_zero, List.set_cons_succ]
        refine wpAnyH_take (i := 13) (v := ?_) rfl (by kernel_rfl) (by kernel_rfl) (by kernel_rfl) (fun _ _ _ h => h) (Or.inl ⟨by rfl, ?_⟩) (by assumption) ?_
        rotate_left
        · intro Wq hSw
          clear hSw
          go_simp
          all_goals (with_reducible rfl)
        try simp only [Act.put, List.getElem_toArray, List.getElem_cons_succ, List.getElem_cons_zero, List.setIfInBounds_toArray, List.set_cons_zero, List.set_cons_succ]
        refine r1 (i := 14) rfl (fun K hK => ?_)
        obtain ⟨x0, x1, x2⟩ := HX.out.three
        obtain ⟨y0, y1, y2⟩ := HX.out.free3
        obtain ⟨a2, n2, c2, ev2⟩ : ∃ a m c, v2 = Value.slice a m c := by obtain ⟨a, c, e, -, -, -⟩ := HO.out.slice; exact ⟨a, _, c, e⟩
        subst ev2
        replace HX := Lib.hid (HX.out.setAt10 (k := 0) (by simp) (.slice a2 n2 c2))
        replace HO := Lib.hid (HO.out.set10 (g := (w.heap.size + 1 + 1)) (fun e => by have := HNB2.out _ e; omega) (by omega) 0 (.slice a2 n2 c2))
        go_simp
        refine hK.out _ _ (hHeld.setCell (Nat.le_refl _) _) (fun hHeld2 => ?_)
        clear hK K hHeld x0 x1 x2 y0 y1 y2
        have hHeld := hHeld2
        clear hHeld2
        try simp only [Act.put, List.getElem_toArray, List.getElem_cons_succ, List.getElem_cons_zero, List.setIfInBounds_toArray, List.set_cons_zero, List.set_cons_succ]
        refine wpAnyH_done (by kernel_rfl) ?_ _
        have hHeld9 := Lib.hid hHeld
        clear hHeld
        obtain ⟨m1, m2, m3, m4⟩ := wnum (i := k) (by omega)
        go_wp2_with fail
        clear m1 m2 m3 m4
        exact ⟨⟨k + 1, _, hlt, by rw [Int.natCast_add]; rfl, by have h := HO.out; rw [← HTk.out] at h; exact h, HX.out, HFv.out.belowB hHeld9.out (by omega), HVv.out.belowB hHeld9.out (by omega), HNB2.out⟩, by simp [intOf]; omega⟩
    · obtain rfl : k = p.length := by omega
      have b2 : ((p.length : Int) < (p.length : Int)) = False := eq_false (by omega)
      obtain ⟨k0, k1, k2⟩ := HVv.out.three
      have hO9 := HO.out
      rw [List.take_of_length_le (by rw [renP_len]; exact Nat.le_refl _)] at hO9
      have HU := Lib.hid hO9
      have HU_ne : Hid (u.ownBlock ≠ some (w.heap.size + 1 + 1)) := fun e => by have := HNB.out _ e; omega
      have HU_n1 : Hid (u.ownBlock ≠ some (w.heap.size + 1)) := fun e => by have := HNB.out _ e; omega
      clear hO9 HO HNB hk hlt HBt
      obtain ⟨au, cu, eu, -, -, -⟩ := HU.out.slice
      rw [renP_len] at eu
      subst eu
      go_wp2_with fail
      clear k0 k1 k2 b2
      have HBt := Lib.hid HU.out.hb
      go_loopw [8] (fun iv W => ∃ k : Nat, ∃ v : Value, k ≤ l.length ∧ iv = .int .i64 k ∧ Op 57 w v ((renL p.length b l).take k) W ∧ Op 49 w (.slice au p.length cu) (renP p b) W ∧ Apart10 (.slice au p.length cu) v ∧ Var W (w.heap.size + 1 + 1) [.slice au p.length cu, v, .slice none 0 0] ∧ Var W (w.heap.size + 1) [.slice none 0 0, .slice none 0 0, .slice none 0 0] ∧ Var W w.heap.size [.slice ap p.length cp, .slice al l.length cl, .slice ai i.length ci] ∧ (∀ g, v.ownBlock = some g → w.heap.size + 1 + 1 < g)) (fun iv _ => l.length - (intOf iv).toNat)
      case atStart => exact ⟨0, _, Nat.zero_le _, rfl, ⟨World.ownsRow_nil _ _ _ _, HBt.out, HBt.out.size⟩, HU.out, fun g _ e => by (cases e), HX.out, HFv.out, HVv.out, fun g e => by cases e⟩
      case round =>
        obtain ⟨k, v, hk, rfl, hO, hu, hd, hx, hf, hv, hn⟩ := hrel
        clear HX HFv HVv HU HBt
        have HO := Lib.hid hO
        have HU := Lib.hid hu
        have HDv := Lib.hid hd
        have HX := Lib.hid hx
        have HFv := Lib.hid hf
        have HVv := Lib.hid hv
        have HNB := Lib.hid hn
        have HBt := Lib.hid hO.hb
        clear hO hu hd hx hf hv hn
        obtain ⟨k0, k1, k2⟩ := HVv.out.three
        by_cases hlt : k < l.length
        · have b2 : ((k : Int) < (l.length : Int)) = True := eq_true (by omega)
          have d2 : (k < l.length) = True := eq_true hlt
          have c2 : ((0 : Int) ≤ (k : Int)) = True := eq_true (by omega)
          obtain ⟨gl, ol, rfl⟩ := HA.out.ll.some (by omega)
          obtain ⟨⟨sx, sy⟩, hq⟩ : ∃ q, pget l k = q := ⟨_, rfl⟩
          have HQ := Lib.hid hq
          have hpe : (p = []) = False := eq_false (fun e => by subst e; simp at hb)
          have hin := sgInB_iff.1 (HC.out.sl k hlt)
          rw [hq] at hin
          dsimp only at hin
          obtain ⟨jx, hjx⟩ : ∃ j, sgm p.length b sx = j := ⟨_, rfl⟩
          obtain ⟨jy, hjy⟩ : ∃ j, sgm p.length b sy = j := ⟨_, rfl⟩
          have hpn := HC.out.n
          have hln := HC.out.nl
          have HWx := Lib.hid (wsgm10 hjx hin.1 hin.2.1 hpn hb)
          have HWy := Lib.hid (wsgm10 hjy hin.2.2.1 hin.2.2.2 hpn hb)
          have HTk : Hid ((renL p.length b l).take (k + 1) = (renL p.length b l).take k ++ [⟨jy, jx⟩]) := by
            unfold Hid
            rw [take_snocR _ (by rw [renL_len]; exact hlt), renL_at hlt, hq, ← hjx, ← hjy]; rfl
          have HLT : Hid (((renL p.length b l).take k).length = k) := by unfold Hid; rw [List.length_take, renL_len]; omega
          obtain ⟨av, cv, ev, -, -, -⟩ := HO.out.slice
          rw [HLT.out] at ev
          subst ev
          clear hq hin hjx hjy
          go_upto_region 10 with (fail)
          clear k0 k1 k2
          refine wp_region_held_drew (S := fun V => Below (w.heap.size + 1 + 1) wr V) (by kernel_rfl) ?_ (fun hHeld => ?_)
          · exact (Below.refl _ _).drew
          replace HO := Lib.hid HO.out.drew
          replace HX := Lib.hid (HX.out.below (bel_drew _))
          replace HU := Lib.hid HU.out.drew
          revert hHeld
          revert HU HX HO
          generalize World.drew _ = W9
          intro HO HX HU hHeld
          refine wpAnyH_take (i := 0) (v := ?_) rfl (by kernel_rfl) (by kernel_rfl) (by kernel_rfl) (fun _ _ _ h => h) (Or.inl ⟨by rfl, ?_⟩) (by assumption) ?_
          rotate_left
          · intro Wq hSw
            clear hSw
            go_simp
            all_goals (with_reducible rfl)
          try simp only [Act.put, List.getElem_toArray, List.getElem_cons_zero, List.setIfInBounds_toArray, List.set_cons_zero, List.set_cons_succ]
          refine wpAnyH_take (i := 2) (v := ?_) rfl (by kernel_rfl) (by kernel_rfl) (by kernel_rfl) (fun _ _ _ h => h) (Or.inl ⟨by rfl, ?_⟩) (by assumption) ?_
          rotate_left
          · intro Wq hSw
            clear hSw
            go_simp
            all_goals (with_reducible rfl)
          try simp only [Act.put, List.getElem_toArray, List.getElem_cons_succ, List.getElem_cons_zero, List.setIfInBounds_toArray, List.set_cons_zero, List.set_cons_succ]
          refine wpAnyH_take (i := 3) (v := ?_) rfl (by kernel_rfl) (by kernel_rfl) (by kernel_rfl) (fun _ _ _ h => h) (Or.inl ⟨by rfl, ?_⟩) (by assumption) ?_
          rotate_left
          · intro Wq hSw
            obtain ⟨k0, k1, k2⟩ := (HVv.out.belowB hSw (by omega)).three
            clear hSw
            go_simp
            all_goals (with_reducible rfl)
          try simp only [Act.put, List.getElem_toArray, List.getElem_cons_succ, List.getElem_cons_zero, List.setIfInBounds_toArray, List.set_cons_zero, List.set_cons_succ]
          refine wpAnyH_take (i := 4) (v := ?_) rfl (by kernel_rfl) (by kernel_rfl) (by kernel_rfl) (fun _ _ _ h => h) (Or.inl ⟨by rfl, ?_⟩) (by assumption) ?_
          rotate_left
          · intro Wq hSw
            clear hSw
            go_simp
            all_goals (with_reducible rfl)
          try simp only [Act.put, List.getElem_toArray, List.getElem_cons_succ, List.getElem_cons_zero, List.setIfInBounds_toArray, List.set_cons_zero, List.set_cons_succ]
          refine wpAnyH_take (i := 5) (v := ?_) rfl (by kernel_rfl) (by kernel_rfl) (by kernel_rfl) (fun _ _ _ h => h) (Or.inl ⟨by rfl, ?_⟩) (by assumption) ?_
          rotate_left
          · intro Wq hSw
            clear hSw
            go_simp
            all_goals (with_reducible rfl)
          try simp only [Act.put, List.getElem_toArray, List.getElem_cons_succ, List.getElem_cons_zero, List.setIfInBounds_toArray, List.set_cons_zero, List.set_cons_succ]
          refine wpAnyH_take (i := 6) (v := ?_) rfl (by kernel_rfl) (by kernel_rfl) (by kernel_rfl) (fun _ _ _ h => h) (Or.inl ⟨by rfl, ?_⟩) (by assumption) ?_
          rotate_left
          · intro Wq hSw
            clear hSw
            go_simp
            all_goals (with_reducible rfl)
          try simp only [Act.put, List.getElem_toArray, List.getElem_cons_succ, List.getElem_cons_zero, List.setIfInBounds_toArray, List.set_cons_zero, List.set_cons_succ]
          refine wpAnyH_take (i := 7) (v := ?_) rfl (by kernel_rfl) (by kernel_rfl) (by kernel_rfl) (fun _ _ _ h => h) (Or.inl ⟨by rfl, ?_⟩) (by assumption) ?_
          rotate_left
          · intro Wq hSw
            obtain ⟨c0, c1⟩ := ptRow_at (HA.out.ll.below (HBt.out.trans (hSw.mono (by omega)))) hlt HQ.out
            dsimp only at c0 c1
            clear hSw
            go_simp
            all_goals (with_reducible rfl)
          try simp only [Act.put, List.getElem_toArray, List.getElem_cons_succ, List.getElem_cons_zero, List.setIfInBounds_toArray, List.set_cons_zero, List.set_cons_succ]
          refine wpAnyH_take (i := 8) (v := ?_) rfl (by kernel_rfl) (by kernel_rfl) (by kernel_rfl) (fun _ _ _ h => h) (Or.inl ⟨by rfl, ?_⟩) (by assumption) ?_
          rotate_left
          · intro Wq hSw
            clear hSw
            go_simp
            all_goals (with_reducible rfl)
          try simp only [Act.put, List.getElem_toArray, List.getElem_cons_succ, List.getElem_cons_zero, List.setIfInBounds_toArray, List.set_cons_zero, List.set_cons_succ]
          refine wpAnyH_take (i := 9) (v := ?_) rfl (by kernel_rfl) (by kernel_rfl) (by kernel_rfl) (fun _ _ _ h => h) (Or.inl ⟨by rfl, ?_⟩) (by assumption) ?_
          rotate_left
          · intro Wq hSw
            obtain ⟨m1, m2, m3⟩ := HWy.out
            clear hSw
            go_simp
            all_goals (with_reducible rfl)
          try simp only [Act.put, List.getElem_toArray, List.getElem_cons_succ, List.getElem_cons_zero, List.setIfInBounds_toArray, List.set_cons_zero, List.set_cons_succ]
          refine wpAnyH_take (i := 10) (v := ?_) rfl (by kernel_rfl) (by kernel_rfl) (by kernel_rfl) (fun _ _ _ h => h) (Or.inl ⟨by rfl, ?_⟩) (by assumption) ?_
          rotate_left
          · intro Wq hSw
            clear hSw
            go_simp
            all_goals (with_reducible rfl)
          try simp only [Act.put, List.getElem_toArray, List.getElem_cons_succ, List.getElem_cons_zero, List.setIfInBounds_toArray, List.set_cons_zero, List.set_cons_succ]
          refine wpAnyH_take (i := 11) (v := ?_) rfl (by kernel_rfl) (by kernel_rfl) (by kernel_rfl) (fun _ _ _ h => h) (Or.inl ⟨by rfl, ?_⟩) (by assumption) ?_
          rotate_left
          · intro Wq hSw
            obtain ⟨m1, m2, m3⟩ := HWy.out
            clear hSw
            go_simp
            all_goals (with_reducible rfl)
          try simp only [Act.put, List.getElem_toArray, List.getElem_cons_succ, List.getElem_cons_zero, List.setIfInBounds_toArray, List.set_cons_zero, List.set_cons_succ]
          refine wpAnyH_take (i := 12) (v := ?_) rfl (by kernel_rfl) (by kernel_rfl) (by kernel_rfl) (fun _ _ _ h => h) (Or.inl ⟨by rfl, ?_⟩) (by assumption) ?_
          rotate_left
          · intro Wq hSw
            clear hSw
            go_simp
            all_goals (with_reducible rfl)
          try simp only [Act.put, List.getElem_toArray, List.getElem_cons_succ, List.getElem_cons_zero, List.setIfInBounds_toArray, List.set_cons_zero, List.set_cons_succ]
          refine wpAnyH_take (i := 13) (v := ?_) rfl (by kernel_rfl) (by kernel_rfl) (by kernel_rfl) (fun _ _ _ h => h) (Or.inl ⟨by rfl, ?_⟩) (by assumption) ?_
          rotate_left
          · intro Wq hSw
            obtain ⟨m1, m2, m3⟩ := HWy.out
            clear hSw
            go_simp
            all_goals (with_reducible rfl)
          try simp only [Act.put, List.getElem_toArray, List.getElem_cons_succ, List.getElem_cons_zero, List.setIfInBounds_toArray, List.set_cons_zero, List.set_cons_succ]
          refine wpAnyH_take (i := 14) (v := ?_) rfl (by kernel_rfl) (by kernel_rfl) (by kernel_rfl) (fun _ _ _ h => h) (Or.inl ⟨by rfl, ?_⟩) (by assumption) ?_
          rotate_left
          · intro Wq hSw
            clear hSw
            go_simp
            all_goals (with_reducible rfl)
          try simp only [Act.put, List.getElem_toArray, List.getElem_cons_succ, List.getElem_cons_zero, List.setIfInBounds_toArray, List.set_cons_zero, List.set_cons_succ]
          refine wpAnyH_take (i := 15) (v := ?_) rfl (by kernel_rfl) (by kernel_rfl) (by kernel_rfl) (fun _ _ _ h => h) (Or.inl ⟨by rfl, ?_⟩) (by assumption) ?_
          rotate_left
          · intro Wq hSw
            obtain ⟨k0, k1, k2⟩ := (HVv.out.belowB hSw (by omega)).three
            clear hSw
            go_simp
            all_goals (with_reducible rfl)
          try simp only [Act.put, List.getElem_toArray, List.getElem_cons_succ, List.getElem_cons_zero, List.setIfInBounds_toArray, List.set_cons_zero, List.set_cons_succ]
          refine wpAnyH_take (i := 16) (v := ?_) rfl (by kernel_rfl) (by kernel_rfl) (by kernel_rfl) (fun _ _ _ h => h) (Or.inl ⟨by rfl, ?_⟩) (by assumption) ?_
          rotate_left
          · intro Wq hSw
            clear hSw
            go_simp
            all_goals (with_reducible rfl)
          try simp only [Act.put, List.getElem_toArray, List.getElem_cons_succ, List.getElem_cons_zero, List.setIfInBounds_toArray, List.set_cons_zero, List.set_cons_succ]
          refine wpAnyH_take (i := 17) (v := ?_) rfl (by kernel_rfl) (by kernel_rfl) (by kernel_rfl) (fun _ _ _ h => h) (Or.inl ⟨by rfl, ?_⟩) (by assumption) ?_
          rotate_left
          · intro Wq hSw
            clear hSw
            go_simp
            all_goals (with_reducible rfl)
          try simp only [Act.put, List.getElem_toArray, List.getElem_cons_succ, List.getElem_cons_zero, List.setIfInBounds_toArray, List.set_cons_zero, List.set_cons_succ]
          refine wpAnyH_take (i := 18) (v := ?_) rfl (by kernel_rfl) (by kernel_rfl) (by kernel_rfl) (fun _ _ _ h => h) (Or.inl ⟨by rfl, ?_⟩) (by assumption) ?_
          rotate_left
          · intro Wq hSw
            clear hSw
            go_simp
            all_goals (with_reducible rfl)
          try simp only [Act.put, List.getElem_toArray, List.getElem_cons_succ, List.getElem_cons_zero, List.setIfInBounds_toArray, List.set_cons_zero, List.set_cons_succ]
          refine wpAnyH_take (i := 19) (v := ?_) rfl (by kernel_rfl) (by kernel_rfl) (by kernel_rfl) (fun _ _ _ h => h) (Or.inl ⟨by rfl, ?_⟩) (by assumption) ?_
          rotate_left
          · intro Wq hSw
            obtain ⟨c0, c1⟩ := ptRow_at (HA.out.ll.below (HBt.out.trans (hSw.mono (by omega)))) hlt HQ.out
            dsimp only at c0 c1
            clear hSw
            go_simp
            all_goals (with_reducible rfl)
          try simp only [Act.put, List.getElem_toArray, List.getElem_cons_succ, List.getElem_cons_zero, List.setIfInBounds_toArray, List.set_cons_zero, List.set_cons_succ]
          refine wpAnyH_take (i := 20) (v := ?_) rfl (by kernel_rfl) (by kernel_rfl) (by kernel_rfl) (fun _ _ _ h => h) (Or.inl ⟨by rfl, ?_⟩) (by assumption) ?_
          rotate_left
          · intro Wq hSw
            clear hSw
            go_simp
            all_goals (with_reducible rfl)
          try simp only [Act.put, List.getElem_toArray, List.getElem_cons_succ, List.getElem_cons_zero, List.setIfInBounds_toArray, List.set_cons_zero, List.set_cons_succ]
          refine wpAnyH_take (i := 21) (v := ?_) rfl (by kernel_rfl) (by kernel_rfl) (by kernel_rfl) (fun _ _ _ h => h) (Or.inl ⟨by rfl, ?_⟩) (by assumption) ?_
          rotate_left
          · intro Wq hSw
            obtain ⟨m1, m2, m3⟩ := HWx.out
            clear hSw
            go_simp
            all_goals (with_reducible rfl)
          try simp only [Act.put, List.getElem_toArray, List.getElem_cons_succ, List.getElem_cons_zero, List.setIfInBounds_toArray, List.set_cons_zero, List.set_cons_succ]
          refine wpAnyH_take (i := 22) (v := ?_) rfl (by kernel_rfl) (by kernel_rfl) (by kernel_rfl) (fun _ _ _ h => h) (Or.inl ⟨by rfl, ?_⟩) (by assumption) ?_
          rotate_left
          · intro Wq hSw
            clear hSw
            go_simp
            all_goals (with_reducible rfl)
          try simp only [Act.put, List.getElem_toArray, List.getElem_cons_succ, List.getElem_cons_zero, List.setIfInBounds_toArray, List.set_cons_zero, List.set_cons_succ]
          refine wpAnyH_take (i := 23) (v := ?_) rfl (by kernel_rfl) (by kernel_rfl) (by kernel_rfl) (fun _ _ _ h => h) (Or.inl ⟨by rfl, ?_⟩) (by assumption) ?_
          rotate_left
          · intro Wq hSw
            obtain ⟨m1, m2, m3⟩ := HWx.out
            clear hSw
            go_simp
            all_goals (with_reducible rfl)
          try simp only [Act.put, List.getElem_toArray, List.getElem_cons_succ, List.getElem_cons_zero, List.setIfInBounds_toArray, List.set_cons_zero, List.set_cons_succ]
          refine wpAnyH_take (i := 24) (v := ?_) rfl (by kernel_rfl) (by kernel_rfl) (by kernel_rfl) (fun _ _ _ h => h) (Or.inl ⟨by rfl, ?_⟩) (by assumption) ?_
          rotate_left
          · intro Wq hSw
            clear hSw
            go_simp
            all_goals (with_reducible rfl)
          try simp only [Act.put, List.getElem_toArray, List.getElem_cons_succ, List.getElem_cons_zero, List.setIfInBounds_toArray, List.set_cons_zero, List.set_cons_succ]
          refine wpAnyH_take (i := 25) (v := ?_) rfl (by kernel_rfl) (by kernel_rfl) (by kernel_rfl) (fun _ _ _ h => h) (Or.inl ⟨by rfl, ?_⟩) (by assumption) ?_
          rotate_left
          · intro Wq hSw
            obtain ⟨m1, m2, m3⟩ := HWx.out
            clear hSw
            go_simp
            all_goals (with_reducible rfl)
          try simp only [Act.put, List.getElem_toArray, List.getElem_cons_succ, List.getElem_cons_zero, List.setIfInBounds_toArray, List.set_cons_zero, List.set_cons_succ]
          refine wpAnyH_take (i := 26) (v := ?_) rfl (by kernel_rfl) (by kernel_rfl) (by kernel_rfl) (fun _ _ _ h => h) (Or.inl ⟨by rfl, ?_⟩) (by assumption) ?_
          rotate_left
          · intro Wq hSw
            clear hSw
            go_simp
            all_goals (with_reducible rfl)
          try simp only [Act.put, List.getElem_toArray, List.getElem_cons_succ, List.getElem_cons_zero, List.setIfInBounds_toArray, List.set_cons_zero, List.set_cons_succ]
          refine r2 (i := 1) (j := 27) rfl (fun K hK => ?_) rfl (fun K hK => ?_)
          · obtain ⟨x0, x1, x2⟩ := HX.out.three
            go_simp
            refine hK.out _ _ hHeld (fun hHeld2 => ?_)
            clear hK K hHeld x0 x1 x2
            have hHeld := hHeld2
            clear hHeld2
            try simp only [Act.put, List.getElem_toArray, List.getElem_cons_succ, List.getElem_cons_zero, List.setIfInBounds_toArray, List.set_cons_zero, List.set_cons_succ]
            refine r1 (i := 27) rfl (fun K hK => ?_)
            go_simp
            have HN := Lib.hid (row1_new W9 ⟨jy, jx⟩ 57)
            have hB8 := Nat.le_of_lt HX.out.lt
            replace HO := Lib.hid (HO.out.alloc (.cells #[.int .i64 jy, .int .i64 jx] 57))
            replace HX := Lib.hid (HX.out.below (bl_one W9 (.cells #[.int .i64 jy, .int .i64 jx] 57)))
            replace HU := Lib.hid (HU.out.alloc (.cells #[.int .i64 jy, .int .i64 jx] 57))
            refine hK.out _ _ (hHeld.alloc hB8 _) (fun hHeld2 => ?_)
            clear hK K hHeld hB8
            generalize W9.alloc (.cells #[.int .i64 jy, .int .i64 jx] 57) = W8 at *
            have hHeld := hHeld2
            clear hHeld2
            try simp only [Act.put, List.getElem_toArray, List.getElem_cons_succ, List.getElem_cons_zero, List.setIfInBounds_toArray, List.set_cons_zero, List.set_cons_succ]
            refine r1 (i := 28) rfl (fun K hK => ?_)
            refine app_pts10_wp Try.underlying36 info_eseg (.tmp 42) (.tmp 68) rfl (by rfl) HO.out (L := [⟨jy, jx⟩]) (by rfl) HN.out ?lim (fun v2 w4 hO2 hg2 hloc2 => ?_)
            case lim => (have := HLT.out; simp; omega)
            have hB8 := Nat.le_of_lt HX.out.lt
            have hB9 := HX.out.lt
            have HNB2 : Hid (∀ g, v2.ownBlock = some g → (w.heap.size + 1 + 1) < g) := fun g e => by
              rcases hloc2 with h | h
              · exact HNB.out g (by rw [← h]; exact e)
              · rw [h] at e; cases e; exact hB9
            have HDv2 : Hid (Apart10 _ v2) := fun g e k => by
              rcases hloc2 with h | h
              · exact HDv.out g e (by rw [← h]; exact k)
              · rw [h] at k; have h9 := (HU.out.own.lt g e).2; have h8 := Option.some.inj k; omega
            have hlo := fun k e => (HO.out.own.lt k e).1
            replace HX := Lib.hid (HX.out.grown10 hg2 (fun k e h => by have := HNB.out k e; omega))
            replace HU := Lib.hid (HU.out.other10 hg2 (fun g e k => HDv.out g k e) hlo)
            replace HO := Lib.hid hO2
            refine hK.out _ _ (hHeld.grown hg2 hB8 (fun k e => Nat.le_of_lt (HNB.out k e))) (fun hHeld2 => ?_)
            clear hK K hHeld hO2 hg2 hloc2 hlo hB8 hB9 HN HNB HDv
            have hHeld := hHeld2
            clear hHeld2
            try simp only [Act.put, List.getElem_toArray, List.getElem_cons_succ, List.getElem_cons_zero, List.setIfInBounds_toArray, List.set_cons_zero, List.set_cons_succ]
            refine wpAnyH_take (i := 29) (v := ?_) rfl (by kernel_rfl) (by kernel_rfl) (by kernel_rfl) (fun _ _ _ h => h) (Or.inl ⟨by rfl, ?_⟩) (by assumption) ?_
            rotate_left
            · intro Wq hSw
              clear hSw
              go_simp
              all_goals (with_reducible rfl)
            try simp only [Act.put, List.getElem_toArray, List.getElem_cons_succ, List.getElem_cons_zero, List.setIfInBounds_toArray, List.set_cons_zero, List.set_cons_succ]
            refine r1 (i := 30) rfl (fun K hK => ?_)
            obtain ⟨x0, x1, x2⟩ := HX.out.three
            obtain ⟨y0, y1, y2⟩ := HX.out.free3
            obtain ⟨a2, n2, c2, ev2⟩ : ∃ a m c, v2 = Value.slice a m c := by obtain ⟨a, c, e, -, -, -⟩ := HO.out.slice; exact ⟨a, _, c, e⟩
            subst ev2
            replace HX := Lib.hid (HX.out.setAt10 (k := 1) (by simp) (.slice a2 n2 c2))
            replace HO := Lib.hid (HO.out.set10 (g := (w.heap.size + 1 + 1)) (fun e => by have := HNB2.out _ e; omega) (by omega) 1 (.slice a2 n2 c2))
            replace HU := Lib.hid (HU.out.set10 (g := (w.heap.size + 1 + 1)) (HU_ne.out) (by omega) 1 (.slice a2 n2 c2))
            go_simp
            refine hK.out _ _ (hHeld.setCell (Nat.le_refl _) _) (fun hHeld2 => ?_)
            clear hK K hHeld x0 x1 x2 y0 y1 y2
            have hHeld := hHeld2
            clear hHeld2
            try simp only [Act.put, List.getElem_toArray, List.getElem_cons_succ, List.getElem_cons_zero, List.setIfInBounds_toArray, List.set_cons_zero, List.set_cons_succ]
            refine wpAnyH_done (by kernel_rfl) ?_ _
            have hHeld9 := Lib.hid hHeld
            clear hHeld
            obtain ⟨m1, m2, m3, m4⟩ := wnum (i := k) (by omega)
            go_wp2_with fail
            clear m1 m2 m3 m4
            exact ⟨⟨k + 1, _, hlt, by rw [Int.natCast_add]; rfl, by have h := HO.out; rw [← HTk.out] at h; exact h, HU.out, HDv2.out, HX.out, HFv.out.belowB hHeld9.out (by omega), HVv.out.belowB hHeld9.out (by omega), HNB2.out⟩, by simp [intOf]; omega⟩
          · go_simp
            have HN := Lib.hid (row1_new W9 ⟨jy, jx⟩ 57)
            have hB8 := Nat.le_of_lt HX.out.lt
            replace HO := Lib.hid (HO.out.alloc (.cells #[.int .i64 jy, .int .i64 jx] 57))
            replace HX := Lib.hid (HX.out.below (bl_one W9 (.cells #[.int .i64 jy, .int .i64 jx] 57)))
            replace HU := Lib.hid (HU.out.alloc (.cells #[.int .i64 jy, .int .i64 jx] 57))
            refine hK.out _ _ (hHeld.alloc hB8 _) (fun hHeld2 => ?_)
            clear hK K hHeld hB8
            generalize W9.alloc (.cells #[.int .i64 jy, .int .i64 jx] 57) = W8 at *
            have hHeld := hHeld2
            clear hHeld2
            try simp only [Act.put, List.getElem_toArray, List.getElem_cons_succ, List.getElem_cons_zero, List.setIfInBounds_toArray, List.set_cons_zero, List.set_cons_succ]
            refine r1 (i := 1) rfl (fun K hK => ?_)
            obtain ⟨x0, x1, x2⟩ := HX.out.three
            go_simp
            refine hK.out _ _ hHeld (fun hHeld2 => ?_)
            clear hK K hHeld x0 x1 x2
            have hHeld := hHeld2
            clear hHeld2
            try simp only [Act.put, List.getElem_toArray, List.getElem_cons_succ, List.getElem_cons_zero, List.setIfInBounds_toArray, List.set_cons_zero, List.set_cons_succ]
            refine r1 (i := 28) rfl (fun K hK => ?_)
            refine app_pts10_wp Try.underlying36 info_eseg (.tmp 42) (.tmp 68) rfl (by rfl) HO.out (L := [⟨jy, jx⟩]) (by rfl) HN.out ?lim (fun v2 w4 hO2 hg2 hloc2 => ?_)
            case lim => (have := HLT.out; simp; omega)
            have hB8 := Nat.le_of_lt HX.out.lt
            have hB9 := HX.out.lt
            have HNB2 : Hid (∀ g, v2.ownBlock = some g → (w.heap.size + 1 + 1) < g) := fun g e => by
              rcases hloc2 with h | h
              · exact HNB.out g (by rw [← h]; exact e)
              · rw [h] at e; cases e; exact hB9
            have HDv2 : Hid (Apart10 _ v2) := fun g e k => by
              rcases hloc2 with h | h
              · exact HDv.out g e (by rw [← h]; exact k)
              · rw [h] at k; have h9 := (HU.out.own.lt g e).2; have h8 := Option.some.inj k; omega
            have hlo := fun k e => (HO.out.own.lt k e).1
            replace HX := Lib.hid (HX.out.grown10 hg2 (fun k e h => by have := HNB.out k e; omega))
            replace HU := Lib.hid (HU.out.other10 hg2 (fun g e k => HDv.out g k e) hlo)
            replace HO := Lib.hid hO2
            refine hK.out _ _ (hHeld.grown hg2 hB8 (fun k e => Nat.le_of_lt (HNB.out k e))) (fun hHeld2 => ?_)
            clear hK K hHeld hO2 hg2 hloc2 hlo hB8 hB9 HN HNB HDv
            have hHeld := hHeld2
            clear hHeld2
            try simp only [Act.put, List.getElem_toArray, List.getElem_cons_succ, List.getElem_cons_zero, List.setIfInBounds_toArray, List.set_cons_zero, List.set_cons_succ]
            refine wpAnyH_take (i := 29) (v := ?_) rfl (by kernel_rfl) (by kernel_rfl) (by kernel_rfl) (fun _ _ _ h => h) (Or.inl ⟨by rfl, ?_⟩) (by assumption) ?_
            rotate_left
            · intro Wq hSw
              clear hSw
              go_simp
              all_goals (with_reducible rfl)
            try simp only [Act.put, List.getElem_toArray, List.getElem_cons_succ, List.getElem_cons_zero, List.setIfInBounds_toArray, List.set_cons_zero, List.set_cons_succ]
            refine r1 (i := 30) rfl (fun K hK => ?_)
            obtain ⟨x0, x1, x2⟩ := HX.out.three
            obtain ⟨y0, y1, y2⟩ := HX.out.free3
            obtain ⟨a2, n2, c2, ev2⟩ : ∃ a m c, v2 = Value.slice a m c := by obtain ⟨a, c, e, -, -, -⟩ := HO.out.slice; exact ⟨a, _, c, e⟩
            subst ev2
            replace HX := Lib.hid (HX.out.setAt10 (k := 1) (by simp) (.slice a2 n2 c2))
            replace HO := Lib.hid (HO.out.set10 (g := (w.heap.size + 1 + 1)) (fun e => by have := HNB2.out _ e; omega) (by omega) 1 (.slice a2 n2 c2))
            replace HU := Lib.hid (HU.out.set10 (g := (w.heap.size + 1 + 1)) (HU_ne.out) (by omega) 1 (.slice a2 n2 c2))
            go_simp
            refine hK.out _ _ (hHeld.setCell (Nat.le_refl _) _) (fun hHeld2 => ?_)
            clear hK K hHeld x0 x1 x2 y0 y1 y2
            have hHeld := hHeld2
            clear hHeld2
            try simp only [Act.put, List.getElem_toArray, List.getElem_cons_succ, List.getElem_cons_zero, List.setIfInBounds_toArray, List.set_cons_zero, List.set_cons_succ]
            refine wpAnyH_done (by kernel_rfl) ?_ _
            have hHeld9 := Lib.hid hHeld
            clear hHeld
            obtain ⟨m1, m2, m3, m4⟩ := wnum (i := k) (by omega)
            go_wp2_with fail
            clear m1 m2 m3 m4
            exact ⟨⟨k + 1, _, hlt, by rw [Int.natCast_add]; rfl, by have h := HO.out; rw [← HTk.out] at h; exact h, HU.out, HDv2.out, HX.out, HFv.out.belowB hHeld9.out (by omega), HVv.out.belowB hHeld9.out (by omega), HNB2.out⟩, by simp [intOf]; omega⟩
        · obtain rfl : k = l.length := by omega
          have b2 : ((l.length : Int) < (l.length : Int)) = False := eq_false (by omega)
          have hO9 := HO.out
          rw [List.take_of_length_le (by rw [renL_len]; exact Nat.le_refl _)] at hO9
          have HV2 := Lib.hid hO9
          have HV2_n1 : Hid (v.ownBlock ≠ some (w.heap.size + 1)) := fun e => by have := HNB.out _ e; omega
          have HV2_ne : Hid (v.ownBlock ≠ some (w.heap.size + 1 + 1)) := fun e => by have := HNB.out _ e; omega
          have HDuv := HDv
          clear hO9 HO HNB hk hlt HBt HDv
          obtain ⟨av, cv, ev, -, -, -⟩ := HV2.out.slice
          rw [renL_len] at ev
          subst ev
          go_wp2_with fail
          clear k0 k1 k2 b2
          have HBt := Lib.hid HU.out.hb
          go_loopw [9] (fun iv W => ∃ k : Nat, ∃ x : Value, k ≤ i.length ∧ iv = .int .i64 k ∧ Op 57 w x ((renI p.length b i).take k) W ∧ Op 49 w (.slice au p.length cu) (renP p b) W ∧ Op 57 w (.slice av l.length cv) (renL p.length b l) W ∧ Apart10 (.slice au p.length cu) x ∧ Apart10 (.slice av l.length cv) x ∧ Var W (w.heap.size + 1 + 1) [.slice au p.length cu, .slice av l.length cv, x] ∧ Var W (w.heap.size + 1) [.slice none 0 0, .slice none 0 0, .slice none 0 0] ∧ Var W w.heap.size [.slice ap p.length cp, .slice al l.length cl, .slice ai i.length ci] ∧ (∀ g, x.ownBlock = some g → w.heap.size + 1 + 1 < g)) (fun iv _ => i.length - (intOf iv).toNat)
          case atStart => exact ⟨0, _, Nat.zero_le _, rfl, ⟨World.ownsRow_nil _ _ _ _, HBt.out, HBt.out.size⟩, HU.out, HV2.out, fun g _ e => by (cases e), fun g _ e => by (cases e), HX.out, HFv.out, HVv.out, fun g e => by cases e⟩
          case round =>
            obtain ⟨k, x, hk, rfl, hO, hu, hv2, hd, hd2, hx, hf, hv, hn⟩ := hrel
            clear HX HFv HVv HU HV2 HBt
            have HO := Lib.hid hO
            have HU := Lib.hid hu
            have HV2 := Lib.hid hv2
            have HDx := Lib.hid hd
            have HEx := Lib.hid hd2
            have HX := Lib.hid hx
            have HFv := Lib.hid hf
            have HVv := Lib.hid hv
            have HNB := Lib.hid hn
            have HBt := Lib.hid hO.hb
            clear hO hu hv2 hd hd2 hx hf hv hn
            obtain ⟨k0, k1, k2⟩ := HVv.out.three
            by_cases hlt : k < i.length
            · have b2 : ((k : Int) < (i.length : Int)) = True := eq_true (by omega)
              have hln := HC.out.ni
              obtain ⟨j, hj⟩ : ∃ j : Nat, i.length - 1 - k = j := ⟨_, rfl⟩
              have hjl : j < i.length := by omega
              have HWj := Lib.hid (wrev10 hj hlt hln)
              have d2 : ((j : Int) < (i.length : Int)) = True := eq_true (by omega)
              have d3 : (j < i.length) = True := eq_true hjl
              have c2 : ((0 : Int) ≤ (j : Int)) = True := eq_true (by omega)
              obtain ⟨gi, oi, rfl⟩ := HA.out.ii.some (by omega)
              obtain ⟨⟨sx, sy⟩, hq⟩ : ∃ q, pget i j = q := ⟨_, rfl⟩
              have HQ := Lib.hid hq
              have hpe : (p = []) = False := eq_false (fun e => by subst e; simp at hb)
              have hin := sgInB_iff.1 (HC.out.si j hjl)
              rw [hq] at hin
              dsimp only at hin
              obtain ⟨jx, hjx⟩ : ∃ j, sgm p.length b sx = j := ⟨_, rfl⟩
              obtain ⟨jy, hjy⟩ : ∃ j, sgm p.length b sy = j := ⟨_, rfl⟩
              have hpn := HC.out.n
              have HWx := Lib.hid (wsgm10 hjx hin.1 hin.2.1 hpn hb)
              have HWy := Lib.hid (wsgm10 hjy hin.2.2.1 hin.2.2.2 hpn hb)
              have HTk : Hid ((renI p.length b i).take (k + 1) = (renI p.length b i).take k ++ [⟨jx, jy⟩]) := by
                unfold Hid
                rw [take_snocR _ (by rw [renI_len]; exact hlt), renI_at hlt, hj, hq, ← hjx, ← hjy]; rfl
              have HLT : Hid (((renI p.length b i).take k).length = k) := by unfold Hid; rw [List.length_take, renI_len]; omega
              obtain ⟨ax, cx, ex, -, -, -⟩ := HO.out.slice
              rw [HLT.out] at ex
              subst ex
              clear hq hin hjx hjy
              obtain ⟨j1, j2, j3, j4⟩ := HWj.out
              go_upto_region 15 with (fail)
              clear k0 k1 k2 j1 j2 j3 j4
              refine wp_region_held_drew (S := fun V => Below (w.heap.size + 1 + 1) wr V) (by kernel_rfl) ?_ (fun hHeld => ?_)
              · exact (Below.refl _ _).drew
              replace HO := Lib.hid HO.out.drew
              replace HX := Lib.hid (HX.out.below (bel_drew _))
              replace HU := Lib.hid HU.out.drew
              replace HV2 := Lib.hid HV2.out.drew
              revert hHeld
              revert HV2 HU HX HO
              generalize World.drew _ = W9
              intro HO HX HU HV2 hHeld
              refine wpAnyH_take (i := 0) (v := ?_) rfl (by kernel_rfl) (by kernel_rfl) (by kernel_rfl) (fun _ _ _ h => h) (Or.inl ⟨by rfl, ?_⟩) (by assumption) ?_
              rotate_left
              · intro Wq hSw
                clear hSw
                go_simp
                all_goals (with_reducible rfl)
              try simp only [Act.put, List.getElem_toArray, List.getElem_cons_zero, List.setIfInBounds_toArray, List.set_cons_zero, List.set_cons_succ]
              refine wpAnyH_take (i := 2) (v := ?_) rfl (by kernel_rfl) (by kernel_rfl) (by kernel_rfl) (fun _ _ _ h => h) (Or.inl ⟨by rfl, ?_⟩) (by assumption) ?_
              rotate_left
              · intro Wq hSw
                clear hSw
                go_simp
                all_goals (with_reducible rfl)
              try simp only [Act.put, List.getElem_toArray, List.getElem_cons_succ, List.getElem_cons_zero, List.setIfInBounds_toArray, List.set_cons_zero, List.set_cons_succ]
              refine wpAnyH_take (i := 3) (v := ?_) rfl (by kernel_rfl) (by kernel_rfl) (by kernel_rfl) (fun _ _ _ h => h) (Or.inl ⟨by rfl, ?_⟩) (by assumption) ?_
              rotate_left
              · intro Wq hSw
                obtain ⟨k0, k1, k2⟩ := (HVv.out.belowB hSw (by omega)).three
                clear hSw
                go_simp
                all_goals (with_reducible rfl)
              try simp only [Act.put, List.getElem_toArray, List.getElem_cons_succ, List.getElem_cons_zero, List.setIfInBounds_toArray, List.set_cons_zero, List.set_cons_succ]
              refine wpAnyH_take (i := 4) (v := ?_) rfl (by kernel_rfl) (by kernel_rfl) (by kernel_rfl) (fun _ _ _ h => h) (Or.inl ⟨by rfl, ?_⟩) (by assumption) ?_
              rotate_left
              · intro Wq hSw
                clear hSw
                go_simp
                all_goals (with_reducible rfl)
              try simp only [Act.put, List.getElem_toArray, List.getElem_cons_succ, List.getElem_cons_zero, List.setIfInBounds_toArray, List.set_cons_zero, List.set_cons_succ]
              refine wpAnyH_take (i := 5) (v := ?_) rfl (by kernel_rfl) (by kernel_rfl) (by kernel_rfl) (fun _ _ _ h => h) (Or.inl ⟨by rfl, ?_⟩) (by assumption) ?_
              rotate_left
              · intro Wq hSw
                clear hSw
                go_simp
                all_goals (with_reducible rfl)
              try simp only [Act.put, List.getElem_toArray, List.getElem_cons_succ, List.getElem_cons_zero, List.setIfInBounds_toArray, List.set_cons_zero, List.set_cons_succ]
              refine wpAnyH_take (i := 6) (v := ?_) rfl (by kernel_rfl) (by kernel_rfl) (by kernel_rfl) (fun _ _ _ h => h) (Or.inl ⟨by rfl, ?_⟩) (by assumption) ?_
              rotate_left
              · intro Wq hSw
                clear hSw
                go_simp
                all_goals (with_reducible rfl)
              try simp only [Act.put, List.getElem_toArray, List.getElem_cons_succ, List.getElem_cons_zero, List.setIfInBounds_toArray, List.set_cons_zero, List.set_cons_succ]
              refine wpAnyH_take (i := 7) (v := ?_) rfl (by kernel_rfl) (by kernel_rfl) (by kernel_rfl) (fun _ _ _ h => h) (Or.inl ⟨by rfl, ?_⟩) (by assumption) ?_
              rotate_left
              · intro Wq hSw
                obtain ⟨c0, c1⟩ := ptRow_at (HA.out.ii.below (HBt.out.trans (hSw.mono (by omega)))) hjl HQ.out
                dsimp only at c0 c1
                clear hSw
                go_simp
                all_goals (with_reducible rfl)
              try simp only [Act.put, List.getElem_toArray, List.getElem_cons_succ, List.getElem_cons_zero, List.setIfInBounds_toArray, List.set_cons_zero, List.set_cons_succ]
              refine wpAnyH_take (i := 8) (v := ?_) rfl (by kernel_rfl) (by kernel_rfl) (by kernel_rfl) (fun _ _ _ h => h) (Or.inl ⟨by rfl, ?_⟩) (by assumption) ?_
              rotate_left
              · intro Wq hSw
                clear hSw
                go_simp
                all_goals (with_reducible rfl)
              try simp only [Act.put, List.getElem_toArray, List.getElem_cons_succ, List.getElem_cons_zero, List.setIfInBounds_toArray, List.set_cons_zero, List.set_cons_succ]
              refine wpAnyH_take (i := 9) (v := ?_) rfl (by kernel_rfl) (by kernel_rfl) (by kernel_rfl) (fun _ _ _ h => h) (Or.inl ⟨by rfl, ?_⟩) (by assumption) ?_
              rotate_left
              · intro Wq hSw
                obtain ⟨m1, m2, m3⟩ := HWx.out
                clear hSw
                go_simp
                all_goals (with_reducible rfl)
              try simp only [Act.put, List.getElem_toArray, List.getElem_cons_succ, List.getElem_cons_zero, List.setIfInBounds_toArray, List.set_cons_zero, List.set_cons_succ]
              refine wpAnyH_take (i := 10) (v := ?_) rfl (by kernel_rfl) (by kernel_rfl) (by kernel_rfl) (fun _ _ _ h => h) (Or.inl ⟨by rfl, ?_⟩) (by assumption) ?_
              rotate_left
              · intro Wq hSw
                clear hSw
                go_simp
                all_goals (with_reducible rfl)
              try simp only [Act.put, List.getElem_toArray, List.getElem_cons_succ, List.getElem_cons_zero, List.setIfInBounds_toArray, List.set_cons_zero, List.set_cons_succ]
              refine wpAnyH_take (i := 11) (v := ?_) rfl (by kernel_rfl) (by kernel_rfl) (by kernel_rfl) (fun _ _ _ h => h) (Or.inl ⟨by rfl, ?_⟩) (by assumption) ?_
              rotate_left
              · intro Wq hSw
                obtain ⟨m1, m2, m3⟩ := HWx.out
                clear hSw
                go_simp
                all_goals (with_reducible rfl)
              try simp only [Act.put, List.getElem_toArray, List.getElem_cons_succ, List.getElem_cons_zero, List.setIfInBounds_toArray, List.set_cons_zero, List.set_cons_succ]
              refine wpAnyH_take (i := 12) (v := ?_) rfl (by kernel_rfl) (by kernel_rfl) (by kernel_rfl) (fun _ _ _ h => h) (Or.inl ⟨by rfl, ?_⟩) (by assumption) ?_
              rotate_left
              · intro Wq hSw
                clear hSw
                go_simp
                all_goals (with_reducible rfl)
              try simp only [Act.put, List.getElem_toArray, List.getElem_cons_succ, List.getElem_cons_zero, List.setIfInBounds_toArray, List.set_cons_zero, List.set_cons_succ]
              refine wpAnyH_take (i := 13) (v := ?_) rfl (by kernel_rfl) (by kernel_rfl) (by kernel_rfl) (fun _ _ _ h => h) (Or.inl ⟨by rfl, ?_⟩) (by assumption) ?_
              rotate_left
              · intro Wq hSw
                obtain ⟨m1, m2, m3⟩ := HWx.out
                clear hSw
                go_simp
                all_goals (with_reducible rfl)
              try simp only [Act.put, List.getElem_toArray, List.getElem_cons_succ, List.getElem_cons_zero, List.setIfInBounds_toArray, List.set_cons_zero, List.set_cons_succ]
              refine wpAnyH_take (i := 14) (v := ?_) rfl (by kernel_rfl) (by kernel_rfl) (by kernel_rfl) (fun _ _ _ h => h) (Or.inl ⟨by rfl, ?_⟩) (by assumption) ?_
              rotate_left
              · intro Wq hSw
                clear hSw
                go_simp
                all_goals (with_reducible rfl)
              try simp only [Act.put, List.getElem_toArray, List.getElem_cons_succ, List.getElem_cons_zero, List.setIfInBounds_toArray, List.set_cons_zero, List.set_cons_succ]
              refine wpAnyH_take (i := 15) (v := ?_) rfl (by kernel_rfl) (by kernel_rfl) (by kernel_rfl) (fun _ _ _ h => h) (Or.inl ⟨by rfl, ?_⟩) (by assumption) ?_
              rotate_left
              · intro Wq hSw
                obtain ⟨k0, k1, k2⟩ := (HVv.out.belowB hSw (by omega)).three
                clear hSw
                go_simp
                all_goals (with_reducible rfl)
              try simp only [Act.put, List.getElem_toArray, List.getElem_cons_succ, List.getElem_cons_zero, List.setIfInBounds_toArray, List.set_cons_zero, List.set_cons_succ]
              refine wpAnyH_take (i := 16) (v := ?_) rfl (by kernel_rfl) (by kernel_rfl) (by kernel_rfl) (fun _ _ _ h => h) (Or.inl ⟨by rfl, ?_⟩) (by assumption) ?_
              rotate_left
              · intro Wq hSw
                clear hSw
                go_simp
                all_goals (with_reducible rfl)
              try simp only [Act.put, List.getElem_toArray, List.getElem_cons_succ, List.getElem_cons_zero, List.setIfInBounds_toArray, List.set_cons_zero, List.set_cons_succ]
              refine wpAnyH_take (i := 17) (v := ?_) rfl (by kernel_rfl) (by kernel_rfl) (by kernel_rfl) (fun _ _ _ h => h) (Or.inl ⟨by rfl, ?_⟩) (by assumption) ?_
              rotate_left
              · intro Wq hSw
                clear hSw
                go_simp
                all_goals (with_reducible rfl)
              try simp only [Act.put, List.getElem_toArray, List.getElem_cons_succ, List.getElem_cons_zero, List.setIfInBounds_toArray, List.set_cons_zero, List.set_cons_succ]
              refine wpAnyH_take (i := 18) (v := ?_) rfl (by kernel_rfl) (by kernel_rfl) (by kernel_rfl) (fun _ _ _ h => h) (Or.inl ⟨by rfl, ?_⟩) (by assumption) ?_
              rotate_left
              · intro Wq hSw
                clear hSw
                go_simp
                all_goals (with_reducible rfl)
              try simp only [Act.put, List.getElem_toArray, List.getElem_cons_succ, List.getElem_cons_zero, List.setIfInBounds_toArray, List.set_cons_zero, List.set_cons_succ]
              refine wpAnyH_take (i := 19) (v := ?_) rfl (by kernel_rfl) (by kernel_rfl) (by kernel_rfl) (fun _ _ _ h => h) (Or.inl ⟨by rfl, ?_⟩) (by assumption) ?_
              rotate_left
              · intro Wq hSw
                obtain ⟨c0, c1⟩ := ptRow_at (HA.out.ii.below (HBt.out.trans (hSw.mono (by omega)))) hjl HQ.out
                dsimp only at c0 c1
                clear hSw
                go_simp
                all_goals (with_reducible rfl)
              try simp only [Act.put, List.getElem_toArray, List.getElem_cons_succ, List.getElem_cons_zero, List.setIfInBounds_toArray, List.set_cons_zero, List.set_cons_succ]
              refine wpAnyH_take (i := 20) (v := ?_) rfl (by kernel_rfl) (by kernel_rfl) (by kernel_rfl) (fun _ _ _ h => h) (Or.inl ⟨by rfl, ?_⟩) (by assumption) ?_
              rotate_left
              · intro Wq hSw
                clear hSw
                go_simp
                all_goals (with_reducible rfl)
              try simp only [Act.put, List.getElem_toArray, List.getElem_cons_succ, List.getElem_cons_zero, List.setIfInBounds_toArray, List.set_cons_zero, List.set_cons_succ]
              refine wpAnyH_take (i := 21) (v := ?_) rfl (by kernel_rfl) (by kernel_rfl) (by kernel_rfl) (fun _ _ _ h => h) (Or.inl ⟨by rfl, ?_⟩) (by assumption) ?_
              rotate_left
              · intro Wq hSw
                obtain ⟨m1, m2, m3⟩ := HWy.out
                clear hSw
                go_simp
                all_goals (with_reducible rfl)
              try simp only [Act.put, List.getElem_toArray, List.getElem_cons_succ, List.getElem_cons_zero, List.setIfInBounds_toArray, List.set_cons_zero, List.set_cons_succ]
              refine wpAnyH_take (i := 22) (v := ?_) rfl (by kernel_rfl) (by kernel_rfl) (by kernel_rfl) (fun _ _ _ h => h) (Or.inl ⟨by rfl, ?_⟩) (by assumption) ?_
              rotate_left
              · intro Wq hSw
                clear hSw
                go_simp
                all_goals (with_reducible rfl)
              try simp only [Act.put, List.getElem_toArray, List.getElem_cons_succ, List.getElem_cons_zero, List.setIfInBounds_toArray, List.set_cons_zero, List.set_cons_succ]
              refine wpAnyH_take (i := 23) (v := ?_) rfl (by kernel_rfl) (by kernel_rfl) (by kernel_rfl) (fun _ _ _ h => h) (Or.inl ⟨by rfl, ?_⟩) (by assumption) ?_
              rotate_left
              · intro Wq hSw
                obtain ⟨m1, m2, m3⟩ := HWy.out
                clear hSw
                go_simp
                all_goals (with_reducible rfl)
              try simp only [Act.put, List.getElem_toArray, List.getElem_cons_succ, List.getElem_cons_zero, List.setIfInBounds_toArray, List.set_cons_zero, List.set_cons_succ]
              refine wpAnyH_take (i := 24) (v := ?_) rfl (by kernel_rfl) (by kernel_rfl) (by kernel_rfl) (fun _ _ _ h => h) (Or.inl ⟨by rfl, ?_⟩) (by assumption) ?_
              rotate_left
              · intro Wq hSw
                clear hSw
                go_simp
                all_goals (with_reducible rfl)
              try simp only [Act.put, List.getElem_toArray, List.getElem_cons_succ, List.getElem_cons_zero, List.setIfInBounds_toArray, List.set_cons_zero, List.set_cons_succ]
              refine wpAnyH_take (i := 25) (v := ?_) rfl (by kernel_rfl) (by kernel_rfl) (by kernel_rfl) (fun _ _ _ h => h) (Or.inl ⟨by rfl, ?_⟩) (by assumption) ?_
              rotate_left
              · intro Wq hSw
                obtain ⟨m1, m2, m3⟩ := HWy.out
                clear hSw
                go_simp
                all_goals (with_reducible rfl)
              try simp only [Act.put, List.getElem_toArray, List.getElem_cons_succ, List.getElem_cons_zero, List.setIfInBounds_toArray, List.set_cons_zero, List.set_cons_succ]
              refine wpAnyH_take (i := 26) (v := ?_) rfl (by kernel_rfl) (by kernel_rfl) (by kernel_rfl) (fun _ _ _ h => h) (Or.inl ⟨by rfl, ?_⟩) (by assumption) ?_
              rotate_left
              · intro Wq hSw
                clear hSw
                go_simp
                all_goals (with_reducible rfl)
              try simp only [Act.put, List.getElem_toArray, List.getElem_cons_succ, List.getElem_cons_zero, List.setIfInBounds_toArray, List.set_cons_zero, List.set_cons_succ]
              refine r2 (i := 1) (j := 27) rfl (fun K hK => ?_) rfl (fun K hK => ?_)
              · obtain ⟨x0, x1, x2⟩ := HX.out.three
                go_simp
                refine hK.out _ _ hHeld (fun hHeld2 => ?_)
                clear hK K hHeld x0 x1 x2
                have hHeld := hHeld2
                clear hHeld2
                try simp only [Act.put, List.getElem_toArray, List.getElem_cons_succ, List.getElem_cons_zero, List.setIfInBounds_toArray, List.set_cons_zero, List.set_cons_succ]
                refine r1 (i := 27) rfl (fun K hK => ?_)
                go_simp
                have HN := Lib.hid (row1_new W9 ⟨jx, jy⟩ 57)
                have hB8 := Nat.le_of_lt HX.out.lt
                replace HO := Lib.hid (HO.out.alloc (.cells #[.int .i64 jx, .int .i64 jy] 57))
                replace HX := Lib.hid (HX.out.below (bl_one W9 (.cells #[.int .i64 jx, .int .i64 jy] 57)))
                replace HU := Lib.hid (HU.out.alloc (.cells #[.int .i64 jx, .int .i64 jy] 57))
                replace HV2 := Lib.hid (HV2.out.alloc (.cells #[.int .i64 jx, .int .i64 jy] 57))
                refine hK.out _ _ (hHeld.alloc hB8 _) (fun hHeld2 => ?_)
                clear hK K hHeld hB8
                generalize W9.alloc (.cells #[.int .i64 jx, .int .i64 jy] 57) = W8 at *
                have hHeld := hHeld2
                clear hHeld2
                try simp only [Act.put, List.getElem_toArray, List.getElem_cons_succ, List.getElem_cons_zero, List.setIfInBounds_toArray, List.set_cons_zero, List.set_cons_succ]
                refine r1 (i := 28) rfl (fun K hK => ?_)
                refine app_pts10_wp Try.underlying36 info_eseg (.tmp 85) (.tmp 111) rfl (by rfl) HO.out (L := [⟨jx, jy⟩]) (by rfl) HN.out ?lim (fun v2 w4 hO2 hg2 hloc2 => ?_)
                case lim => (have := HLT.out; simp; omega)
                have hB8 := Nat.le_of_lt HX.out.lt
                have hB9 := HX.out.lt
                have HNB2 : Hid (∀ g, v2.ownBlock = some g → (w.heap.size + 1 + 1) < g) := fun g e => by
                  rcases hloc2 with h | h
                  · exact HNB.out g (by rw [← h]; exact e)
                  · rw [h] at e; cases e; exact hB9
                have HDx2 : Hid (Apart10 _ v2) := fun g e k => by
                  rcases hloc2 with h | h
                  · exact HDx.out g e (by rw [← h]; exact k)
                  · rw [h] at k; have h9 := (HU.out.own.lt g e).2; have h8 := Option.some.inj k; omega
                have HEx2 : Hid (Apart10 _ v2) := fun g e k => by
                  rcases hloc2 with h | h
                  · exact HEx.out g e (by rw [← h]; exact k)
                  · rw [h] at k; have h9 := (HV2.out.own.lt g e).2; have h8 := Option.some.inj k; omega
                have hlo := fun k e => (HO.out.own.lt k e).1
                replace HX := Lib.hid (HX.out.grown10 hg2 (fun k e h => by have := HNB.out k e; omega))
                replace HU := Lib.hid (HU.out.other10 hg2 (fun g e k => HDx.out g k e) hlo)
                replace HV2 := Lib.hid (HV2.out.other10 hg2 (fun g e k => HEx.out g k e) hlo)
                replace HO := Lib.hid hO2
                refine hK.out _ _ (hHeld.grown hg2 hB8 (fun k e => Nat.le_of_lt (HNB.out k e))) (fun hHeld2 => ?_)
                clear hK K hHeld hO2 hg2 hloc2 hlo hB8 hB9 HN HNB HDx HEx
                have hHeld := hHeld2
                clear hHeld2
                try simp only [Act.put, List.getElem_toArray, List.getElem_cons_succ, List.getElem_cons_zero, List.setIfInBounds_toArray, List.set_cons_zero, List.set_cons_succ]
                refine wpAnyH_take (i := 29) (v := ?_) rfl (by kernel_rfl) (by kernel_rfl) (by kernel_rfl) (fun _ _ _ h => h) (Or.inl ⟨by rfl, ?_⟩) (by assumption) ?_
                rotate_left
                · intro Wq hSw
                  clear hSw
                  go_simp
                  all_goals (with_reducible rfl)
                try simp only [Act.put, List.getElem_toArray, List.getElem_cons_succ, List.getElem_cons_zero, List.setIfInBounds_toArray, List.set_cons_zero, List.set_cons_succ]
                refine r1 (i := 30) rfl (fun K hK => ?_)
                obtain ⟨x0, x1, x2⟩ := HX.out.three
                obtain ⟨y0, y1, y2⟩ := HX.out.free3
                obtain ⟨a2, n2, c2, ev2⟩ : ∃ a m c, v2 = Value.slice a m c := by obtain ⟨a, c, e, -, -, -⟩ := HO.out.slice; exact ⟨a, _, c, e⟩
                subst ev2
                replace HX := Lib.hid (HX.out.setAt10 (k := 2) (by simp) (.slice a2 n2 c2))
                replace HO := Lib.hid (HO.out.set10 (g := (w.heap.size + 1 + 1)) (fun e => by have := HNB2.out _ e; omega) (by omega) 2 (.slice a2 n2 c2))
                replace HU := Lib.hid (HU.out.set10 (g := (w.heap.size + 1 + 1)) (HU_ne.out) (by omega) 2 (.slice a2 n2 c2))
                replace HV2 := Lib.hid (HV2.out.set10 (g := (w.heap.size + 1 + 1)) (HV2_ne.out) (by omega) 2 (.slice a2 n2 c2))
                go_simp
                refine hK.out _ _ (hHeld.setCell (Nat.le_refl _) _) (fun hHeld2 => ?_)
                clear hK K hHeld x0 x1 x2 y0 y1 y2
                have hHeld := hHeld2
                clear hHeld2
                try simp only [Act.put, List.getElem_toArray, List.getElem_cons_succ, List.getElem_cons_zero, List.setIfInBounds_toArray, List.set_cons_zero, List.set_cons_succ]
                refine wpAnyH_done (by kernel_rfl) ?_ _
                have hHeld9 := Lib.hid hHeld
                clear hHeld
                obtain ⟨m1, m2, m3, m4⟩ := wnum (i := k) (by omega)
                go_wp2_with fail
                clear m1 m2 m3 m4
                exact ⟨⟨k + 1, _, hlt, by rw [Int.natCast_add]; rfl, by have h := HO.out; rw [← HTk.out] at h; exact h, HU.out, HV2.out, HDx2.out, HEx2.out, HX.out, HFv.out.belowB hHeld9.out (by omega), HVv.out.belowB hHeld9.out (by omega), HNB2.out⟩, by simp [intOf]; omega⟩
              · go_simp
                have HN := Lib.hid (row1_new W9 ⟨jx, jy⟩ 57)
                have hB8 := Nat.le_of_lt HX.out.lt
                replace HO := Lib.hid (HO.out.alloc (.cells #[.int .i64 jx, .int .i64 jy] 57))
                replace HX := Lib.hid (HX.out.below (bl_one W9 (.cells #[.int .i64 jx, .int .i64 jy] 57)))
                replace HU := Lib.hid (HU.out.alloc (.cells #[.int .i64 jx, .int .i64 jy] 57))
                replace HV2 := Lib.hid (HV2.out.alloc (.cells #[.int .i64 jx, .int .i64 jy] 57))
                refine hK.out _ _ (hHeld.alloc hB8 _) (fun hHeld2 => ?_)
                clear hK K hHeld hB8
                generalize W9.alloc (.cells #[.int .i64 jx, .int .i64 jy] 57) = W8 at *
                have hHeld := hHeld2
                clear hHeld2
                try simp only [Act.put, List.getElem_toArray, List.getElem_cons_succ, List.getElem_cons_zero, List.setIfInBounds_toArray, List.set_cons_zero, List.set_cons_succ]
                refine r1 (i := 1) rfl (fun K hK => ?_)
                obtain ⟨x0, x1, x2⟩ := HX.out.three
                go_simp
                refine hK.out _ _ hHeld (fun hHeld2 => ?_)
                clear hK K hHeld x0 x1 x2
                have hHeld := hHeld2
                clear hHeld2
                try simp only [Act.put, List.getElem_toArray, List.getElem_cons_succ, List.getElem_cons_zero, List.setIfInBounds_toArray, List.set_cons_zero, List.set_cons_succ]
                refine r1 (i := 28) rfl (fun K hK => ?_)
                refine app_pts10_wp Try.underlying36 info_eseg (.tmp 85) (.tmp 111) rfl (by rfl) HO.out (L := [⟨jx, jy⟩]) (by rfl) HN.out ?lim (fun v2 w4 hO2 hg2 hloc2 => ?_)
                case lim => (have := HLT.out; simp; omega)
                have hB8 := Nat.le_of_lt HX.out.lt
                have hB9 := HX.out.lt
                have HNB2 : Hid (∀ g, v2.ownBlock = some g → (w.heap.size + 1 + 1) < g) := fun g e => by
                  rcases hloc2 with h | h
                  · exact HNB.out g (by rw [← h]; exact e)
                  · rw [h] at e; cases e; exact hB9
                have HDx2 : Hid (Apart10 _ v2) := fun g e k => by
                  rcases hloc2 with h | h
                  · exact HDx.out g e (by rw [← h]; exact k)
                  · rw [h] at k; have h9 := (HU.out.own.lt g e).2; have h8 := Option.some.inj k; omega
                have HEx2 : Hid (Apart10 _ v2) := fun g e k => by
                  rcases hloc2 with h | h
                  · exact HEx.out g e (by rw [← h]; exact k)
                  · rw [h] at k; have h9 := (HV2.out.own.lt g e).2; have h8 := Option.some.inj k; omega
                have hlo := fun k e => (HO.out.own.lt k e).1
                replace HX := Lib.hid (HX.out.grown10 hg2 (fun k e h => by have := HNB.out k e; omega))
                replace HU := Lib.hid (HU.out.other10 hg2 (fun g e k => HDx.out g k e) hlo)
                replace HV2 := Lib.hid (HV2.out.other10 hg2 (fun g e k => HEx.out g k e) hlo)
                replace HO := Lib.hid hO2
                refine hK.out _ _ (hHeld.grown hg2 hB8 (fun k e => Nat.le_of_lt (HNB.out k e))) (fun hHeld2 => ?_)
                clear hK K hHeld hO2 hg2 hloc2 hlo hB8 hB9 HN HNB HDx HEx
                have hHeld := hHeld2
                clear hHeld2
                try simp only [Act.put, List.getElem_toArray, List.getElem_cons_succ, List.getElem_cons_zero, List.setIfInBounds_toArray, List.set_cons_zero, List.set_cons_succ]
                refine wpAnyH_take (i := 29) (v := ?_) rfl (by kernel_rfl) (by kernel_rfl) (by kernel_rfl) (fun _ _ _ h => h) (Or.inl ⟨by rfl, ?_⟩) (by assumption) ?_
                rotate_left
                · intro Wq hSw
                  clear hSw
                  go_simp
                  all_goals (with_reducible rfl)
                try simp only [Act.put, List.getElem_toArray, List.getElem_cons_succ, List.getElem_cons_zero, List.setIfInBounds_toArray, List.set_cons_zero, List.set_cons_succ]
                refine r1 (i := 30) rfl (fun K hK => ?_)
                obtain ⟨x0, x1, x2⟩ := HX.out.three
                obtain ⟨y0, y1, y2⟩ := HX.out.free3
                obtain ⟨a2, n2, c2, ev2⟩ : ∃ a m c, v2 = Value.slice a m c := by obtain ⟨a, c, e, -, -, -⟩ := HO.out.slice; exact ⟨a, _, c, e⟩
                subst ev2
                replace HX := Lib.hid (HX.out.setAt10 (k := 2) (by simp) (.slice a2 n2 c2))
                replace HO := Lib.hid (HO.out.set10 (g := (w.heap.size + 1 + 1)) (fun e => by have := HNB2.out _ e; omega) (by omega) 2 (.slice a2 n2 c2))
                replace HU := Lib.hid (HU.out.set10 (g := (w.heap.size + 1 + 1)) (HU_ne.out) (by omega) 2 (.slice a2 n2 c2))
                replace HV2 := Lib.hid (HV2.out.set10 (g := (w.heap.size + 1 + 1)) (HV2_ne.out) (by omega) 2 (.slice a2 n2 c2))
                go_simp
                refine hK.out _ _ (hHeld.setCell (Nat.le_refl _) _) (fun hHeld2 => ?_)
                clear hK K hHeld x0 x1 x2 y0 y1 y2
                have hHeld := hHeld2
                clear hHeld2
                try simp only [Act.put, List.getElem_toArray, List.getElem_cons_succ, List.getElem_cons_zero, List.setIfInBounds_toArray, List.set_cons_zero, List.set_cons_succ]
                refine wpAnyH_done (by kernel_rfl) ?_ _
                have hHeld9 := Lib.hid hHeld
                clear hHeld
                obtain ⟨m1, m2, m3, m4⟩ := wnum (i := k) (by omega)
                go_wp2_with fail
                clear m1 m2 m3 m4
                exact ⟨⟨k + 1, _, hlt, by rw [Int.natCast_add]; rfl, by have h := HO.out; rw [← HTk.out] at h; exact h, HU.out, HV2.out, HDx2.out, HEx2.out, HX.out, HFv.out.belowB hHeld9.out (by omega), HVv.out.belowB hHeld9.out (by omega), HNB2.out⟩, by simp [intOf]; omega⟩
            · obtain rfl : k = i.length := by omega
              have b2 : ((i.length : Int) < (i.length : Int)) = False := eq_false (by omega)
              have hO9 := HO.out
              rw [List.take_of_length_le (by rw [renI_len]; exact Nat.le_refl _)] at hO9
              have HX2 := Lib.hid hO9
              have HX2_ne : Hid (x.ownBlock ≠ some (w.heap.size + 1)) := fun e => by have := HNB.out _ e; omega
              clear hO9 HO HNB hk hlt HBt
              obtain ⟨ax, cx, ex, -, -, -⟩ := HX2.out.slice
              rw [renI_len] at ex
              subst ex
              obtain ⟨x0, x1, x2⟩ := HX.out.three
              obtain ⟨y0, y1, y2⟩ := HFv.out.free3
              have hsz := HFv.out.lt
              obtain ⟨d0, d1, d2⟩ := HFv.out.three
              have HOW : Hid (Own3 w (.slice au p.length cu) (.slice av l.length cv) (.slice ax i.length cx) (renP p b) (renL p.length b l) (renI p.length b i) wr) := ⟨HU.out, HV2.out, HX2.out, HDuv.out, HDx.out, HEx.out⟩
              have HZ := Lib.hid (((HOW.out.set (g := w.heap.size + 1) (by omega) HU_n1.out HV2_n1.out HX2_ne.out 0 (.slice au p.length cu)).set (by omega) HU_n1.out HV2_n1.out HX2_ne.out 1 (.slice av l.length cv)).set (by omega) HU_n1.out HV2_n1.out HX2_ne.out 2 (.slice ax i.length cx))
              clear HOW HU HV2 HX2
              go_wp2_with fail
              obtain ⟨e0, e1, e2⟩ := (HFv.out.set3 (.slice au p.length cu) (.slice av l.length cv) (.slice ax i.length cx)).three
              exact bodyPost_ret (v := .agg #[.slice au p.length cu, .slice av l.length cv, .slice ax i.length cx]) (by simp [results, Try.results17, go_sem, e0, e1, e2]; done) rfl ⟨_, _, _, rfl, HZ.out⟩
end Go.Proofs.Ytiebmlhglgpajaa
