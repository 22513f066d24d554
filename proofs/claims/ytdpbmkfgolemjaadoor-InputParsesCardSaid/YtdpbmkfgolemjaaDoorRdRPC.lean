/-
  The document's reading of an input: the rounds of its first segments.
-/
import Derived.Test.YtdpbmkfgolemjaaDoorRdRParse
set_option linter.unusedVariables false
set_option linter.unusedSimpArgs false
set_option linter.deprecated false
namespace Go.Proofs.YtdpbmkfgolemjaaDoor
open Go.RowKit Go.Maps

set_option maxHeartbeats 16000000 in
set_option maxRecDepth 100000 in
theorem rpC5 : rpA5.B := by
  intro R0
  unhygienic intros
  clear hl1 hl0 hl2 hl3 hl4 hp HGR HBB HGG
  obtain ⟨m, hm⟩ : ∃ m, 2 * k = m := ⟨_, rfl⟩
  obtain ⟨j1, hj1⟩ : ∃ j1, j + 1 = j1 := ⟨_, rfl⟩
  have b9 : ((j : Int) < (n : Int)) = True := eq_true (by have := HLN.out; omega)
  have b10 : (j < n) = True := eq_true (by have := HLN.out; omega)
  have b11 : ((j1 : Int) < (n : Int)) = True := eq_true (by have := HLN.out; omega)
  have b12 : (j1 < n) = True := eq_true (by have := HLN.out; omega)
  have b13 : ((0 : Int) < (n : Int)) = True := eq_true (by have := HLN.out; omega)
  have b14 : (0 < n) = True := eq_true (by have := HLN.out; omega)
  have b15 : ((1 : Int) < (n : Int)) = True := eq_true (by have := HLN.out; omega)
  have b16 : (1 < n) = True := eq_true (by have := HLN.out; omega)
  have hh := nums_head5 p l i
  have c9 := HP.out.int 0 _ hh.1
  have c8 := HP.out.int 1 _ hh.2.1
  have HJ2 : Hid (j + 2 = 3 + 2 * (k + 1)) := by unfold Hid; omega
  obtain ⟨j2, hj2⟩ : ∃ j2, j + 2 = j2 := ⟨_, rfl⟩
  rw [hj2] at HJ2
  have v1 : j2 ≤ 2999 := by have := HLN.out; omega
  have v2 : m ≤ 100000 := by omega
  have v3 : k ≤ 100000 := by omega
  have v4 : j1 ≤ 100000 := by omega
  have v5 : j2 ≤ 100000 := by omega
  have fw1 : (j : Int) - 3 = (m : Int) := by omega
  have fw5 : (j : Int) + 1 = (j1 : Int) := by omega
  have fw8 : (j : Int) + 2 = (j2 : Int) := by omega
  have HJL : Hid (j2 ≤ 2999 ∧ j < j2 ∧ j + 1 = j1) := by unfold Hid; omega
  have fw3 : (m : Int).tdiv 2 = (k : Int) := by rw [← hm]; exact wdiv5 k
  have fw9 := (wnat5 v5).1
  have fw2 := (wnat5 v2).1
  have fw4 := (wnat5 v3).1
  have fw6 := (wnat5 v4).1
  have fw6' := (wnat5 v4).2
  clear v1 v2 v3 v4 v5 hj2
  clear hh hj hm hj1
  have HK := Lib.hid hlt
  clear hk hlt
  have HOp := Lib.hid HP.out.op
  have HOl := Lib.hid HP.out.ol
  have HOi := Lib.hid HP.out.oi
  have HX := Lib.hid HP.out.var
  have A1 := Lib.hid HP.out.a1
  have A2 := Lib.hid HP.out.a2
  have A3 := Lib.hid HP.out.a3
  have b20 : ((k : Int) < (p.length : Int)) = False := eq_false (by clear fw9 fw2 fw4 fw6 fw6'; omega)
  have b21 : (k < p.length) = False := eq_false hA
  obtain ⟨pl, hpl⟩ : ∃ pl, p.length + l.length = pl := ⟨_, rfl⟩
  have fw10 : (p.length : Int) + (l.length : Int) = (pl : Int) := by clear fw9 fw2 fw4 fw6 fw6'; omega
  have HPL := Lib.hid hpl
  have v6 : pl ≤ 100000 := by have := HLN.out; clear fw9 fw2 fw4 fw6 fw6'; omega
  have fw11 := (wnat5 v6).1
  have fw11' := (wnat5 v6).2
  clear v6
  obtain ⟨m', hm'⟩ : ∃ m', k = p.length + m' := ⟨k - p.length, by clear fw11 fw11' fw9 fw2 fw4 fw6 fw6'; omega⟩
  have HM' := Lib.hid hm'
  clear hm' hA
  have hB : k < pl := by have h1 := HPL.out; clear fw11 fw11' fw9 fw2 fw4 fw6 fw6'; omega
  obtain ⟨q, hq⟩ : ∃ q, pget5 l m' = q := ⟨_, rfl⟩
  have hml : m' < l.length := by have h1 := HM'.out; have h2 := HPL.out; clear fw11 fw11' fw9 fw2 fw4 fw6 fw6'; omega
  have hc := nums_get5 (p := p) (l := l) (i := i) (k := k) (m := m') (.inr (.inl ⟨HM'.out, hml, hq⟩))
  rw [← HJ.out, HJL.out.2.2] at hc
  have HC0 := Lib.hid (HP.out.int j _ hc.1)
  have HC1 := Lib.hid (HP.out.int j1 _ hc.2)
  have HT : Hid (p.take (k + 1) = DP ∧ l.take (k + 1 - p.length) = DL ++ [q] ∧ i.take (k + 1 - p.length - l.length) = DI) := by
    have h1 := HM'.out
    clear fw11 fw11' fw9 fw2 fw4 fw6 fw6'
    refine ⟨?_, ?_, ?_⟩
    · rw [← HDD.out.1, List.take_of_length_le (by omega), List.take_of_length_le (by omega)]
    · rw [show k + 1 - p.length = m' + 1 by omega, take_snoc5 hml, hq, ← HDD.out.2.1, show k - p.length = m' by omega]
    · rw [← HDD.out.2.2]; congr 1; omega
  have HLM : Hid (DL.length + 1 ≤ 1000000) := by have := HDL.out; clear fw11 fw11' fw9 fw2 fw4 fw6 fw6'; unfold Hid; omega
  have b22 : ((k : Int) < (pl : Int)) = True := eq_true (by clear fw11 fw11' fw9 fw2 fw4 fw6 fw6'; omega)
  have b23 : (k < pl) = True := eq_true hB
  clear hq hc hB hpl hml
  obtain ⟨q1, q2⟩ := q
  go_upto_region 35 with (fail)
  go_region
  replace HOp := Lib.hid (owns_any5 HOp.out (bel_drew _))
  replace HOl := Lib.hid (owns_any5 HOl.out (bel_drew _))
  replace HOi := Lib.hid (owns_any5 HOi.out (bel_drew _))
  replace HX := Lib.hid (HX.out.below (bel_drew _))
  replace HC0 : Hid (wr_1.drew.cell? ⟨gn, j, none⟩ = some (.int .i64 q1)) := HC0.out
  replace HC1 : Hid (wr_1.drew.cell? ⟨gn, j1, none⟩ = some (.int .i64 q2)) := HC1.out
  replace HP := Lib.hid (HP.out.drew)
  generalize wr_1.drew = wr2 at *
  clear c8 c9 fw10 fw11 fw11'
  go_upto_region 36 with (fail)
  refine wp_region_held_drew (S := fun V => Below gp wr2 V) (by kernel_rfl) ?_ (fun hHeld => ?_)
  · exact (Below.refl _ _).drew
  replace HOp := Lib.hid (owns_any5 HOp.out (bel_drew _))
  replace HOl := Lib.hid (owns_any5 HOl.out (bel_drew _))
  replace HOi := Lib.hid (owns_any5 HOi.out (bel_drew _))
  replace HX := Lib.hid (HX.out.below (bel_drew _))
  revert hHeld
  revert HOp HOl HOi HX
  generalize World.drew _ = W9
  intro HOp HOl HOi HX hHeld
  refine wpAnyH_take (i := 0) (v := ?_) rfl (by kernel_rfl) (by kernel_rfl) (by kernel_rfl) (fun _ _ _ h => h) (Or.inl ⟨by rfl, ?_⟩) (by assumption) ?_
  rotate_left
  · intro Wq hSw
    clear hSw
    go_simp
    all_goals (with_reducible rfl)
  try simp only [Act.put, List.getElem_toArray, List.getElem_cons_zero, List.setIfInBounds_toArray, List.set_cons_zero, List.set_cons_succ]
  refine wpAnyH_take (i := 2) (v := ?_) rfl (by kernel_rfl) (by kernel_rfl) (by kernel_rfl) (fun _ _ _ h => h) (Or.inl ⟨by rfl, ?_⟩) (by assumption) ?_
  rotate_left
  · intro Wq hSw
    clear hSw
    go_simp
    all_goals (with_reducible rfl)
  try simp only [Act.put, List.getElem_toArray, List.getElem_cons_succ, List.getElem_cons_zero, List.setIfInBounds_toArray, List.set_cons_zero, List.set_cons_succ]
  refine wpAnyH_take (i := 3) (v := ?_) rfl (by kernel_rfl) (by kernel_rfl) (by kernel_rfl) (fun _ _ _ h => h) (Or.inl ⟨by rfl, ?_⟩) (by assumption) ?_
  rotate_left
  · intro Wq hSw
    clear hSw
    go_simp
    all_goals (with_reducible rfl)
  try simp only [Act.put, List.getElem_toArray, List.getElem_cons_succ, List.getElem_cons_zero, List.setIfInBounds_toArray, List.set_cons_zero, List.set_cons_succ]
  refine wpAnyH_take (i := 4) (v := ?_) rfl (by kernel_rfl) (by kernel_rfl) (by kernel_rfl) (fun _ _ _ h => h) (Or.inl ⟨by rfl, ?_⟩) (by assumption) ?_
  rotate_left
  · intro Wq hSw
    clear hSw
    go_simp
    all_goals (with_reducible rfl)
  try simp only [Act.put, List.getElem_toArray, List.getElem_cons_succ, List.getElem_cons_zero, List.setIfInBounds_toArray, List.set_cons_zero, List.set_cons_succ]
  refine wpAnyH_take (i := 5) (v := ?_) rfl (by kernel_rfl) (by kernel_rfl) (by kernel_rfl) (fun _ _ _ h => h) (Or.inl ⟨by rfl, ?_⟩) (by assumption) ?_
  rotate_left
  · intro Wq hSw
    have c0 := (hSw.cell (p := ⟨gn, j, none⟩) HGP.out.2.1).trans HC0.out
    clear hSw
    go_simp
    all_goals (with_reducible rfl)
  try simp only [Act.put, List.getElem_toArray, List.getElem_cons_succ, List.getElem_cons_zero, List.setIfInBounds_toArray, List.set_cons_zero, List.set_cons_succ]
  refine wpAnyH_take (i := 6) (v := ?_) rfl (by kernel_rfl) (by kernel_rfl) (by kernel_rfl) (fun _ _ _ h => h) (Or.inl ⟨by rfl, ?_⟩) (by assumption) ?_
  rotate_left
  · intro Wq hSw
    clear hSw
    go_simp
    all_goals (with_reducible rfl)
  try simp only [Act.put, List.getElem_toArray, List.getElem_cons_succ, List.getElem_cons_zero, List.setIfInBounds_toArray, List.set_cons_zero, List.set_cons_succ]
  refine wpAnyH_take (i := 7) (v := ?_) rfl (by kernel_rfl) (by kernel_rfl) (by kernel_rfl) (fun _ _ _ h => h) (Or.inl ⟨by rfl, ?_⟩) (by assumption) ?_
  rotate_left
  · intro Wq hSw
    clear hSw
    go_simp
    all_goals (with_reducible rfl)
  try simp only [Act.put, List.getElem_toArray, List.getElem_cons_succ, List.getElem_cons_zero, List.setIfInBounds_toArray, List.set_cons_zero, List.set_cons_succ]
  refine wpAnyH_take (i := 8) (v := ?_) rfl (by kernel_rfl) (by kernel_rfl) (by kernel_rfl) (fun _ _ _ h => h) (Or.inl ⟨by rfl, ?_⟩) (by assumption) ?_
  rotate_left
  · intro Wq hSw
    clear hSw
    go_simp
    all_goals (with_reducible rfl)
  try simp only [Act.put, List.getElem_toArray, List.getElem_cons_succ, List.getElem_cons_zero, List.setIfInBounds_toArray, List.set_cons_zero, List.set_cons_succ]
  refine wpAnyH_take (i := 9) (v := ?_) rfl (by kernel_rfl) (by kernel_rfl) (by kernel_rfl) (fun _ _ _ h => h) (Or.inl ⟨by rfl, ?_⟩) (by assumption) ?_
  rotate_left
  · intro Wq hSw
    clear hSw
    go_simp
    all_goals (with_reducible rfl)
  try simp only [Act.put, List.getElem_toArray, List.getElem_cons_succ, List.getElem_cons_zero, List.setIfInBounds_toArray, List.set_cons_zero, List.set_cons_succ]
  refine wpAnyH_take (i := 10) (v := ?_) rfl (by kernel_rfl) (by kernel_rfl) (by kernel_rfl) (fun _ _ _ h => h) (Or.inl ⟨by rfl, ?_⟩) (by assumption) ?_
  rotate_left
  · intro Wq hSw
    have c0 := (hSw.cell (p := ⟨gn, j1, none⟩) HGP.out.2.1).trans HC1.out
    clear hSw
    go_simp
    all_goals (with_reducible rfl)
  try simp only [Act.put, List.getElem_toArray, List.getElem_cons_succ, List.getElem_cons_zero, List.setIfInBounds_toArray, List.set_cons_zero, List.set_cons_succ]
  refine wpAnyH_take (i := 11) (v := ?_) rfl (by kernel_rfl) (by kernel_rfl) (by kernel_rfl) (fun _ _ _ h => h) (Or.inl ⟨by rfl, ?_⟩) (by assumption) ?_
  rotate_left
  · intro Wq hSw
    clear hSw
    go_simp
    all_goals (with_reducible rfl)
  try simp only [Act.put, List.getElem_toArray, List.getElem_cons_succ, List.getElem_cons_zero, List.setIfInBounds_toArray, List.set_cons_zero, List.set_cons_succ]
  refine r2 (i := 1) (j := 12) rfl (fun K hK => ?_) rfl (fun K hK => ?_)
  · obtain ⟨x0, x1, x2⟩ := HX.out.three6
    go_simp
    refine hK.out _ _ hHeld (fun hHeld2 => ?_)
    clear hK K hHeld x0 x1 x2
    have hHeld := hHeld2
    clear hHeld2
    try simp only [Act.put, List.getElem_toArray, List.getElem_cons_succ, List.getElem_cons_zero, List.setIfInBounds_toArray, List.set_cons_zero, List.set_cons_succ]
    refine r1 (i := 12) rfl (fun K hK => ?_)
    go_simp
    have HN := Lib.hid (row1_new5 W9 (q1, q2) 62)
    have hB8 := Nat.le_of_lt HX.out.lt
    replace HOp := Lib.hid (owns_any5 HOp.out (bl_one W9 (.cells #[.int .i64 q1, .int .i64 q2] 62)))
    replace HOl := Lib.hid (owns_any5 HOl.out (bl_one W9 (.cells #[.int .i64 q1, .int .i64 q2] 62)))
    replace HOi := Lib.hid (owns_any5 HOi.out (bl_one W9 (.cells #[.int .i64 q1, .int .i64 q2] 62)))
    replace HX := Lib.hid (HX.out.below (bl_one W9 (.cells #[.int .i64 q1, .int .i64 q2] 62)))
    refine hK.out _ _ (hHeld.alloc hB8 _) (fun hHeld2 => ?_)
    clear hK K hHeld hB8
    generalize W9.alloc (.cells #[.int .i64 q1, .int .i64 q2] 62) = W8 at *
    have hHeld := hHeld2
    clear hHeld2
    try simp only [Act.put, List.getElem_toArray, List.getElem_cons_succ, List.getElem_cons_zero, List.setIfInBounds_toArray, List.set_cons_zero, List.set_cons_succ]
    refine r1 (i := 13) rfl (fun K hK => ?_)
    refine app_one5_wp (p := (q1, q2)) Tryd.underlying23 info_eseg5 (.tmp 178) (.tmp 189) rfl (by rfl) HOl.out HX.out.lt (by rfl) HN.out HLM.out (fun v2 w4 hO2 hg2 hloc2 => ?_)
    have hB8 := Nat.le_of_lt HX.out.lt
    have hlo := fun k e => (HOl.out.lt k e).1
    have A1n := Lib.hid ((apart_new5 A1.out.symm hloc2 (fun g e => (HOp.out.lt g e).2)).symm)
    have A3n := Lib.hid (apart_new5 A3.out hloc2 (fun g e => (HOi.out.lt g e).2))
    replace HX := Lib.hid (HX.out.grown5 hg2 (fun k e h => by have := hlo k e; omega))
    replace HOp := Lib.hid (owns_grown5 HOp.out hg2 (fun g e k => A1.out g k e))
    replace HOi := Lib.hid (owns_grown5 HOi.out hg2 (fun g e k => A3.out g e k))
    replace HOl := Lib.hid hO2
    refine hK.out _ _ (hHeld.grown hg2 hB8 (fun k e => Nat.le_trans (Nat.le_succ _) (hlo k e))) (fun hHeld2 => ?_)
    clear hK K hHeld hO2 hg2 hloc2 hlo hB8 HN
    have hHeld := hHeld2
    clear hHeld2
    try simp only [Act.put, List.getElem_toArray, List.getElem_cons_succ, List.getElem_cons_zero, List.setIfInBounds_toArray, List.set_cons_zero, List.set_cons_succ]
    refine wpAnyH_take (i := 14) (v := ?_) rfl (by kernel_rfl) (by kernel_rfl) (by kernel_rfl) (fun _ _ _ h => h) (Or.inl ⟨by rfl, ?_⟩) (by assumption) ?_
    rotate_left
    · intro Wq hSw
      clear hSw
      go_simp
      all_goals (with_reducible rfl)
    try simp only [Act.put, List.getElem_toArray, List.getElem_cons_succ, List.getElem_cons_zero, List.setIfInBounds_toArray, List.set_cons_zero, List.set_cons_succ]
    refine r1 (i := 15) rfl (fun K hK => ?_)
    obtain ⟨x0, x1, x2⟩ := HX.out.three6
    obtain ⟨y0, y1, y2⟩ := HX.out.free36
    obtain ⟨a2, n2, c2, ev2⟩ : ∃ a m c, v2 = Value.slice a m c := by obtain ⟨a, c, e, -, -, -, -⟩ := own_row5 HOl.out; exact ⟨a, _, c, e⟩
    subst ev2
    replace HX := Lib.hid (HX.out.put5 (i := 1) (by simp) (.slice a2 n2 c2))
    replace HOp := Lib.hid (own_set5 HOp.out ⟨gp, 1, none⟩ (Nat.lt_succ_self _) (.slice a2 n2 c2))
    replace HOl := Lib.hid (own_set5 HOl.out ⟨gp, 1, none⟩ (Nat.lt_succ_self _) (.slice a2 n2 c2))
    replace HOi := Lib.hid (own_set5 HOi.out ⟨gp, 1, none⟩ (Nat.lt_succ_self _) (.slice a2 n2 c2))
    go_simp
    refine hK.out _ _ (hHeld.setCell (Nat.le_refl _) _) (fun hHeld2 => ?_)
    clear hK K hHeld x0 x1 x2 y0 y1 y2
    have hHeld := hHeld2
    clear hHeld2
    try simp only [Act.put, List.getElem_toArray, List.getElem_cons_succ, List.getElem_cons_zero, List.setIfInBounds_toArray, List.set_cons_zero, List.set_cons_succ]
    refine wpAnyH_done (by kernel_rfl) ?_ _
    have HPN := Lib.hid (po_next5 HP.out hHeld HX.out HOp.out HOl.out HOi.out A1n.out A2.out A3n.out HGP.out HT.out)
    clear hHeld HOp HOl HOi HX
    go_wp2
    go_roundw
    case rel => exact ⟨k + 1, j2, _, _, _, by first | rfl | exact congrArg _ fw9 | simp [fw9], HJ2.out, HK.out, HPN.out⟩
    case measure => have hv := HJL.out; clear fw2 fw4 fw6 fw6'; (try rw [fw9]); clear fw9; simp only [intOf, Int.toNat_natCast]; omega
  · go_simp
    have HN := Lib.hid (row1_new5 W9 (q1, q2) 62)
    have hB8 := Nat.le_of_lt HX.out.lt
    replace HOp := Lib.hid (owns_any5 HOp.out (bl_one W9 (.cells #[.int .i64 q1, .int .i64 q2] 62)))
    replace HOl := Lib.hid (owns_any5 HOl.out (bl_one W9 (.cells #[.int .i64 q1, .int .i64 q2] 62)))
    replace HOi := Lib.hid (owns_any5 HOi.out (bl_one W9 (.cells #[.int .i64 q1, .int .i64 q2] 62)))
    replace HX := Lib.hid (HX.out.below (bl_one W9 (.cells #[.int .i64 q1, .int .i64 q2] 62)))
    refine hK.out _ _ (hHeld.alloc hB8 _) (fun hHeld2 => ?_)
    clear hK K hHeld hB8
    generalize W9.alloc (.cells #[.int .i64 q1, .int .i64 q2] 62) = W8 at *
    have hHeld := hHeld2
    clear hHeld2
    try simp only [Act.put, List.getElem_toArray, List.getElem_cons_succ, List.getElem_cons_zero, List.setIfInBounds_toArray, List.set_cons_zero, List.set_cons_succ]
    refine r1 (i := 1) rfl (fun K hK => ?_)
    obtain ⟨x0, x1, x2⟩ := HX.out.three6
    go_simp
    refine hK.out _ _ hHeld (fun hHeld2 => ?_)
    clear hK K hHeld x0 x1 x2
    have hHeld := hHeld2
    clear hHeld2
    try simp only [Act.put, List.getElem_toArray, List.getElem_cons_succ, List.getElem_cons_zero, List.setIfInBounds_toArray, List.set_cons_zero, List.set_cons_succ]
    refine r1 (i := 13) rfl (fun K hK => ?_)
    refine app_one5_wp (p := (q1, q2)) Tryd.underlying23 info_eseg5 (.tmp 178) (.tmp 189) rfl (by rfl) HOl.out HX.out.lt (by rfl) HN.out HLM.out (fun v2 w4 hO2 hg2 hloc2 => ?_)
    have hB8 := Nat.le_of_lt HX.out.lt
    have hlo := fun k e => (HOl.out.lt k e).1
    have A1n := Lib.hid ((apart_new5 A1.out.symm hloc2 (fun g e => (HOp.out.lt g e).2)).symm)
    have A3n := Lib.hid (apart_new5 A3.out hloc2 (fun g e => (HOi.out.lt g e).2))
    replace HX := Lib.hid (HX.out.grown5 hg2 (fun k e h => by have := hlo k e; omega))
    replace HOp := Lib.hid (owns_grown5 HOp.out hg2 (fun g e k => A1.out g k e))
    replace HOi := Lib.hid (owns_grown5 HOi.out hg2 (fun g e k => A3.out g e k))
    replace HOl := Lib.hid hO2
    refine hK.out _ _ (hHeld.grown hg2 hB8 (fun k e => Nat.le_trans (Nat.le_succ _) (hlo k e))) (fun hHeld2 => ?_)
    clear hK K hHeld hO2 hg2 hloc2 hlo hB8 HN
    have hHeld := hHeld2
    clear hHeld2
    try simp only [Act.put, List.getElem_toArray, List.getElem_cons_succ, List.getElem_cons_zero, List.setIfInBounds_toArray, List.set_cons_zero, List.set_cons_succ]
    refine wpAnyH_take (i := 14) (v := ?_) rfl (by kernel_rfl) (by kernel_rfl) (by kernel_rfl) (fun _ _ _ h => h) (Or.inl ⟨by rfl, ?_⟩) (by assumption) ?_
    rotate_left
    · intro Wq hSw
      clear hSw
      go_simp
      all_goals (with_reducible rfl)
    try simp only [Act.put, List.getElem_toArray, List.getElem_cons_succ, List.getElem_cons_zero, List.setIfInBounds_toArray, List.set_cons_zero, List.set_cons_succ]
    refine r1 (i := 15) rfl (fun K hK => ?_)
    obtain ⟨x0, x1, x2⟩ := HX.out.three6
    obtain ⟨y0, y1, y2⟩ := HX.out.free36
    obtain ⟨a2, n2, c2, ev2⟩ : ∃ a m c, v2 = Value.slice a m c := by obtain ⟨a, c, e, -, -, -, -⟩ := own_row5 HOl.out; exact ⟨a, _, c, e⟩
    subst ev2
    replace HX := Lib.hid (HX.out.put5 (i := 1) (by simp) (.slice a2 n2 c2))
    replace HOp := Lib.hid (own_set5 HOp.out ⟨gp, 1, none⟩ (Nat.lt_succ_self _) (.slice a2 n2 c2))
    replace HOl := Lib.hid (own_set5 HOl.out ⟨gp, 1, none⟩ (Nat.lt_succ_self _) (.slice a2 n2 c2))
    replace HOi := Lib.hid (own_set5 HOi.out ⟨gp, 1, none⟩ (Nat.lt_succ_self _) (.slice a2 n2 c2))
    go_simp
    refine hK.out _ _ (hHeld.setCell (Nat.le_refl _) _) (fun hHeld2 => ?_)
    clear hK K hHeld x0 x1 x2 y0 y1 y2
    have hHeld := hHeld2
    clear hHeld2
    try simp only [Act.put, List.getElem_toArray, List.getElem_cons_succ, List.getElem_cons_zero, List.setIfInBounds_toArray, List.set_cons_zero, List.set_cons_succ]
    refine wpAnyH_done (by kernel_rfl) ?_ _
    have HPN := Lib.hid (po_next5 HP.out hHeld HX.out HOp.out HOl.out HOi.out A1n.out A2.out A3n.out HGP.out HT.out)
    clear hHeld HOp HOl HOi HX
    go_wp2
    go_roundw
    case rel => exact ⟨k + 1, j2, _, _, _, by first | rfl | exact congrArg _ fw9 | simp [fw9], HJ2.out, HK.out, HPN.out⟩
    case measure => have hv := HJL.out; clear fw2 fw4 fw6 fw6'; (try rw [fw9]); clear fw9; simp only [intOf, Int.toNat_natCast]; omega
end Go.Proofs.YtdpbmkfgolemjaaDoor
