/-
  The document's reading of options' words.
-/
import Derived.Test.YtoglibmdpgfpaaaDoorOpRds
import Derived.Test.YtoglibmdpgfpaaaDoorRefAll
import Derived.Test.YtoglibmdpgfpaaaDoorRefNumW
set_option linter.unusedVariables false
set_option linter.unusedSimpArgs false
set_option linter.deprecated false
namespace Go.Proofs.YtoglibmdpgfpaaaDoor
open Go.RowKit Go.Maps

theorem refAll_w6 (ad : Option Addr) (cap : Nat) (s : ByteArray) (hl : s.size ≤ 1048576) (hcap : s.size ≤ cap) (w : World) (hB : BytesIn w ad s) :
    Calls Tryd.prog 26 #[.slice ad s.size cap] w fun e W' => ∃ ad' cp, e = .returned (.tuple #[.slice ad' (wordsOf s).length cp, .int .i64 0]) ∧ TokCells W' ad' (wordsOf s) ∧ (∀ g o, ad' = some ⟨g, o, none⟩ → w.heap.size ≤ g) ∧ Below w.heap.size w W' := by
  refine (refAll_c ad cap s hl hcap w hB).mono ?_
  rintro e W' ⟨v, rfl, hT⟩
  have hr := hT.own
  have hlen : (wordsOf s).length = (toks (nums s)).length := by simp [wordsOf]
  rw [hlen]
  rcases hr.2 with ⟨rfl, h0⟩ | ⟨g, cp, cur, rfl, h1, -⟩
  · rw [h0]
    refine ⟨none, 0, rfl, fun i hi => ?_, fun g o e => (by cases e), hT.hb⟩
    rw [hlen, h0] at hi
    omega
  · refine ⟨_, cp, rfl, fun i hi => ?_, fun g' o' e => (by cases e; exact h1), hT.hb⟩
    have hi' : i < (toks (nums s)).length := by rw [← hlen]; exact hi
    obtain ⟨e1, e2⟩ := tokVals_get s (toks (nums s)) i hi'
    refine ⟨g, 0, rfl, ?_, ?_⟩
    · rw [Nat.zero_add, hr.cellAt (i * 2) (by omega), e1]
      simp [wordsOf]
    · rw [Nat.zero_add, hr.cellAt (i * 2 + 1) (by omega), e2]
      simp [wordsOf]
theorem tok_far6 {W : World} {g o : Nat} {L : List (Nat × ByteArray)} (h : TokCells W (some ⟨g, o, none⟩) L) {p : Addr} (hp : p.block ≠ g) (u : Value) : TokCells (W.setCell p u) (some ⟨g, o, none⟩) L := by
  intro i hi
  obtain ⟨g', o', e, h1, h2⟩ := h i hi
  cases e
  exact ⟨g, o, rfl, (World.cell?_setCell_far _ _ _ _ hp).trans h1, (World.cell?_setCell_far _ _ _ _ hp).trans h2⟩
/-- the variables of the document's loop -/
structure OpT (w : World) (gr gn go : Nat) (m b : Int) (r : Bool) (W : World) : Prop where
  hb : Below w.heap.size w W
  res : Var W gr [.int .i64 0, .int .i64 0, .bool false]
  non : Var W gn [.int .i64 0, .int .i64 0, .bool false]
  opt : Var W go [.int .i64 m, .int .i64 b, .bool r]
theorem OpT.turn {w : World} {gr gn go : Nat} {m b : Int} {r : Bool} {W W' : World} (h : OpT w gr gn go m b r W) (hb : Below W.heap.size W W') : OpT w gr gn go m b r W' := ⟨bl_trans h.hb hb, h.res.below hb, h.non.below hb, h.opt.below hb⟩
theorem steps_next6 {en m : Int} {ts : List (Nat × ByteArray)} {i : Nat} {b : Int} {r : Bool} {R : OpR6} (hi : i < ts.length) (hs : nums ts[i].2 = wBud6) (hR : steps6 en m ((tz6 ts).drop i) b false r = R) :
    (i + 1 = ts.length → R = bad6 en 11) ∧ ∀ h : i + 1 < ts.length, ((budZ6 (nums ts[i + 1].2)).2 ≠ 0 → R = bad6 ts[i + 1].1 (budZ6 (nums ts[i + 1].2)).2) ∧ ((budZ6 (nums ts[i + 1].2)).2 = 0 → steps6 en m ((tz6 ts).drop (i + 2)) (budZ6 (nums ts[i + 1].2)).1 true r = R) := by
  rw [tz_drop6 hi] at hR
  constructor
  · intro he
    rw [he, tz_end6, steps_end6 (x := ((ts[i].1 : Int), nums ts[i].2)) hs] at hR
    exact hR.symm
  · intro h
    rw [tz_drop6 h, steps_bud6 (x := ((ts[i].1 : Int), nums ts[i].2)) hs] at hR
    exact ⟨fun hn => by rw [if_neg hn] at hR; exact hR.symm, fun hz => by rw [if_pos hz] at hR; exact hR⟩
/-- the document's bound, case by case -/
theorem bud_f6 {t : List Int} {v er n e' : Int} (h : NumSpec t 9223372036854775807 v er) (hn : budZ6 t = (n, e')) :
    (er = 0 ∧ ¬ v < 0 ∧ ¬ 100 < v ∧ e' = 0 ∧ v = n) ∨ (er = 0 ∧ v < 0 ∧ e' = 10) ∨ (er = 0 ∧ ¬ v < 0 ∧ 100 < v ∧ e' = 10) ∨ (er = 10 ∧ e' = 10) ∨ (er = 11 ∧ e' = 11) := by
  rcases bud_doc6 h with ⟨h1, h2, h3, h4⟩ | ⟨h1, h2, h4⟩ | ⟨h1, h2, h4⟩
  · rw [hn] at h4
    injection h4 with e1 e2
    exact .inl ⟨h1, by omega, by omega, e2, e1.symm⟩
  · rw [hn] at h4
    injection h4 with e1 e2
    by_cases hv : v < 0
    · exact .inr (.inl ⟨h1, hv, e2⟩)
    · exact .inr (.inr (.inl ⟨h1, hv, by omega, e2⟩))
  · rw [hn] at h4
    injection h4 with e1 e2
    rcases h1 with rfl | rfl
    · exact .inr (.inr (.inr (.inl ⟨rfl, e2⟩)))
    · exact .inr (.inr (.inr (.inr ⟨rfl, e2⟩)))
set_option maxHeartbeats 16000000 in
set_option maxRecDepth 100000 in
theorem rparse_l (s : ByteArray) (hs : s.size ≤ 10000) (ad : Option Addr) (cap : Nat) (hcap : s.size ≤ cap) (w : World) (hB : BytesIn w ad s) :
    Calls Tryd.prog 31 #[.slice ad s.size cap] w (Gives (optV6 (parse6 (nums s))) w) := by
  have HB := Lib.hid hB
  have HCA := Lib.hid (fun W (h : Below w.heap.size w W) => refAll_w6 ad cap s (by omega) hcap W (hB.below h))
  have e0 : parse6 (nums s) = read6 (s.size : Int) (tz6 (wordsOf s)) := by unfold parse6; rw [nums_length, tz_words6]
  have hlen : (wordsOf s).length ≤ 20000 := by
    have := words_len s
    omega
  have HOK := Lib.hid (words_fit6 hs)
  rw [e0]
  generalize wordsOf s = ts at *
  obtain ⟨en, hen⟩ : ∃ en, s.size = en := ⟨_, rfl⟩
  rw [hen] at e0 ⊢ HCA
  obtain ⟨R, hR⟩ : ∃ R, read6 (en : Int) (tz6 ts) = R := ⟨_, rfl⟩
  rw [hR]
  clear e0 hB hcap HB hs hen
  have CM := Lib.hid (fun t W => rmode_l t W)
  have CN := Lib.hid (fun t (h : t.size ≤ 10000) W => refNumber_c t h 9223372036854775807 ⟨by omega, by omega⟩ W)
  go_enter Tryd.func31, Tryd.ntmps31
  go_upto_region 1 with (fail)
  go_upto_region 2 with (fail)
  obtain ⟨gr, hgr⟩ : ∃ gr, w.heap.size = gr := ⟨_, rfl⟩
  refine wp_abs (fun V => Below w.heap.size w V ∧ Var V gr [.int .i64 0, .int .i64 0, .bool false] ∧ Var V (gr + 1) [.int .i64 0, .int .i64 0, .bool false]) ?_ ?_
  · exact ⟨by repeat (first | (with_reducible exact Below.refl _ _) | (with_reducible refine bl_alloc ?_ _) | (with_reducible refine Below.drew ?_) | (with_reducible refine below_drewN' ?_ _) | ((with_reducible refine bl_set ?_ ?_ _); (rotate_left; (dsimp only; omega)))), (var3o_new _ _ _ _ _ _ hgr.symm).below (bl_one _ _), var3o_new _ _ _ _ _ _ (by simp; omega)⟩
  rintro W0 hS0
  have HGR : Hid (gr = w.heap.size) := hgr.symm
  have HS0 := Lib.hid hS0
  rw [hgr]
  clear hS0 hgr
  obtain ⟨gn, hgn⟩ : ∃ gn, gr + 1 = gn := ⟨_, rfl⟩
  rw [hgn] at HS0 ⊢
  have HGN : Hid (gr < gn ∧ w.heap.size < gn) := by have := HGR.out; unfold Hid; omega
  clear hgn
  go_wp2_with fail
  (with_reducible refine (HCA.out _ HS0.out.1).mono ?_); rintro e w1 ⟨ad1, cp1, rfl, hT1, hg1, hb1⟩
  have HT := Lib.hid hT1
  have HG1 : Hid (∀ g o, ad1 = some ⟨g, o, none⟩ → gn < g) := fun g o e => Nat.lt_of_lt_of_le HS0.out.2.2.lt (hg1 g o e)
  have HS1 : Hid (Below w.heap.size w w1 ∧ Var w1 gr [.int .i64 0, .int .i64 0, .bool false] ∧ Var w1 gn [.int .i64 0, .int .i64 0, .bool false]) := ⟨bl_trans HS0.out.1 hb1, HS0.out.2.1.below hb1, HS0.out.2.2.below hb1⟩
  clear hT1 hb1 hg1 HCA HS0 W0
  obtain ⟨k0, k1, k2⟩ := HS1.out.2.2.three6
  obtain ⟨d0, d1, d2⟩ := HS1.out.2.1.three6
  obtain ⟨f0, f1, f2⟩ := HS1.out.2.1.free36
  cases ts with
  | nil =>
    obtain rfl : bad6 en 11 = R := hR
    go_wp2_with fail
    obtain ⟨e0, e1, e2⟩ := (HS1.out.2.1.set3_6 (.int .i64 0) (.int .i64 0) (.bool false)).three6
    refine bodyPost_ret (v := optV6 (bad6 en 11)) (by simp [results, Tryd.results31, go_sem, e0, e1, e2, optV6, bad6]; done) rfl ⟨rfl, ?_⟩
    exact bl_set (bl_set (bl_set HS1.out.1 (by dsimp only; have := HGR.out; omega) _) (by dsimp only; have := HGR.out; omega) _) (by dsimp only; have := HGR.out; omega) _
  | cons x0 tr =>
  obtain ⟨a0, s0⟩ := x0
  obtain ⟨ts, hts⟩ : ∃ ts, (a0, s0) :: tr = ts := ⟨_, rfl⟩
  rw [hts] at HT hR hlen HOK ⊢
  have hl1 : 1 ≤ ts.length := by rw [← hts]; simp
  have HT0 : Hid (∀ h, ts[0]'h = (a0, s0)) := by
    intro h
    subst hts
    rfl
  have hR2 : (if mode6 (nums s0) = 0 then bad6 a0 11 else steps6 en (mode6 (nums s0)) ((tz6 ts).drop 1) 0 false false) = R := by rw [← hR, ← hts]; rfl
  have HR := Lib.hid hR2
  obtain ⟨g, o, rfl, -⟩ := HT.out 0 (by omega)
  have hgg := HG1.out g o rfl
  have hgl : g < w1.heap.size := cell_lt (tok_at6 HT.out (by omega) (HT0.out (by omega))).1
  obtain ⟨c0, c1⟩ := tok_at6 HT.out (by omega) (HT0.out (by omega))
  simp only [Nat.zero_mul, Nat.add_zero] at c0 c1
  clear hR hR2 hts tr k0 k1 k2 d0 d1 d2 f0 f1 f2
  have HCM := Lib.hid (CM.out s0)
  obtain ⟨m, hm⟩ : ∃ m, mode6 (nums s0) = m := ⟨_, rfl⟩
  rw [hm] at HR HCM
  clear hm CM
  have hl0 : ((ts.length : Int) == 0) = false := beq_eq_false_iff_ne.2 (by omega)
  have hl2 : ((ts.length : Int) = 0) = False := eq_false (by omega)
  have hl3 : ((0 : Int) < (ts.length : Int)) = True := eq_true (by omega)
  have hl4 : (0 < ts.length) = True := eq_true (by omega)
  go_wp2_with fail
  (with_reducible refine (HCM.out _).mono ?_); rintro e w2 ⟨rfl, hb2⟩
  have HT2 := Lib.hid (tok_below6 HT.out hb2)
  have HS2 : Hid (Below w.heap.size w w2 ∧ Var w2 gr [.int .i64 0, .int .i64 0, .bool false] ∧ Var w2 gn [.int .i64 0, .int .i64 0, .bool false]) := ⟨bl_trans HS1.out.1 hb2, HS1.out.2.1.below hb2, HS1.out.2.2.below hb2⟩
  have hs2 : w1.heap.size ≤ w2.heap.size := hb2.size
  clear hb2 HS1 HT HCM c0 c1 HG1
  obtain ⟨go, hgo⟩ : ∃ go, w2.heap.size = go := ⟨_, rfl⟩
  have HGO : Hid (gn < go ∧ gr < go) := by
    have := HS2.out.2.2.lt
    have := HGN.out
    unfold Hid; omega
  have HGT : Hid (gn < g ∧ g < go ∧ gr < g) := by have := HGN.out; unfold Hid; omega
  clear hgg hgl hs2
  go_upto_region 8 with (fail)
  refine wp_abs (fun V => OpT w gr gn go m 0 false V ∧ TokCells V (some ⟨g, o, none⟩) ts) ?_ ?_
  · exact ⟨⟨bl_trans HS2.out.1 (by repeat (first | (with_reducible exact Below.refl _ _) | (with_reducible refine bl_alloc ?_ _) | (with_reducible refine Below.drew ?_) | (with_reducible refine below_drewN' ?_ _) | ((with_reducible refine bl_set ?_ ?_ _); (rotate_left; (dsimp only; omega))))), HS2.out.2.1.below (by repeat (first | (with_reducible exact Below.refl _ _) | (with_reducible refine bl_alloc ?_ _) | (with_reducible refine Below.drew ?_) | (with_reducible refine below_drewN' ?_ _) | ((with_reducible refine bl_set ?_ ?_ _); (rotate_left; (dsimp only; omega))))), HS2.out.2.2.below (by repeat (first | (with_reducible exact Below.refl _ _) | (with_reducible refine bl_alloc ?_ _) | (with_reducible refine Below.drew ?_) | (with_reducible refine below_drewN' ?_ _) | ((with_reducible refine bl_set ?_ ?_ _); (rotate_left; (dsimp only; omega))))), var3o_new _ _ _ _ _ _ hgo.symm⟩, tok_below6 HT2.out (by repeat (first | (with_reducible exact Below.refl _ _) | (with_reducible refine bl_alloc ?_ _) | (with_reducible refine Below.drew ?_) | (with_reducible refine below_drewN' ?_ _) | ((with_reducible refine bl_set ?_ ?_ _); (rotate_left; (dsimp only; omega)))))⟩
  rintro W2 hS2
  have HS3 := Lib.hid hS2.1
  have HT3 := Lib.hid hS2.2
  try rw [hgo]
  clear hS2 hgo HS2 HT2
  obtain ⟨o0, o1, o2⟩ := HS3.out.opt.three6
  by_cases hm : m = 0
  · subst hm
    obtain rfl : bad6 a0 11 = R := by
      have := HR.out
      rwa [if_pos rfl] at this
    have c0 := (tok_at6 HT3.out (by omega) (HT0.out (by omega))).1
    simp only [Nat.zero_mul, Nat.add_zero] at c0
    have HS0 : Hid (Below w.heap.size w W2 ∧ Var W2 gr [.int .i64 0, .int .i64 0, .bool false] ∧ Var W2 gn [.int .i64 0, .int .i64 0, .bool false] ∧ W2.cell? ⟨g, o, none⟩ = some (.int .i64 (a0 : Int))) := ⟨HS3.out.hb, HS3.out.res, HS3.out.non, c0⟩
    clear c0
    clear HR HS3
    go_upto_region 9 with (fail)
    refine wp_region_held_drew (S := fun V => Below w.heap.size w V ∧ Var V gr [.int .i64 0, .int .i64 0, .bool false] ∧ Var V gn [.int .i64 0, .int .i64 0, .bool false] ∧ V.cell? ⟨g, o, none⟩ = some (.int .i64 (a0 : Int))) (by kernel_rfl) ?_ (fun hHeld => ?_)
    · exact ⟨bl_trans HS0.out.1 (bel_drew _), HS0.out.2.1.below (bel_drew _), HS0.out.2.2.1.below (bel_drew _), HS0.out.2.2.2⟩
    revert hHeld
    generalize World.drew _ = W1
    intro hHeld 
    refine wpAnyH_take (i := 0) (v := ?_) rfl (by kernel_rfl) (by kernel_rfl) (by kernel_rfl) (fun _ _ _ h => h) (Or.inl ⟨by rfl, ?_⟩) (by assumption) ?_
    rotate_left
    · intro Wq hSw
      obtain ⟨n0, n1, n2⟩ := hSw.2.2.1.three6
      clear hSw
      go_simp
      all_goals (with_reducible rfl)
    try simp only [Act.put, List.getElem_toArray, List.getElem_cons_zero, List.setIfInBounds_toArray, List.set_cons_zero, List.set_cons_succ]
    refine wpAnyH_take (i := 1) (v := ?_) rfl (by kernel_rfl) (by kernel_rfl) (by kernel_rfl) (fun _ _ _ h => h) (Or.inl ⟨by rfl, ?_⟩) (by assumption) ?_
    rotate_left
    · intro Wq hSw
      clear hSw
      go_simp
      all_goals (with_reducible rfl)
    try simp only [Act.put, List.getElem_toArray, List.getElem_cons_succ, List.getElem_cons_zero, List.setIfInBounds_toArray, List.set_cons_zero, List.set_cons_succ]
    refine wpAnyH_take (i := 2) (v := ?_) rfl (by kernel_rfl) (by kernel_rfl) (by kernel_rfl) (fun _ _ _ h => h) (Or.inl ⟨by rfl, ?_⟩) (by assumption) ?_
    rotate_left
    · intro Wq hSw
      clear hSw
      go_simp
      all_goals (with_reducible rfl)
    try simp only [Act.put, List.getElem_toArray, List.getElem_cons_succ, List.getElem_cons_zero, List.setIfInBounds_toArray, List.set_cons_zero, List.set_cons_succ]
    refine wpAnyH_take (i := 3) (v := ?_) rfl (by kernel_rfl) (by kernel_rfl) (by kernel_rfl) (fun _ _ _ h => h) (Or.inl ⟨by rfl, ?_⟩) (by assumption) ?_
    rotate_left
    · intro Wq hSw
      clear hSw
      go_simp
      all_goals (with_reducible rfl)
    try simp only [Act.put, List.getElem_toArray, List.getElem_cons_succ, List.getElem_cons_zero, List.setIfInBounds_toArray, List.set_cons_zero, List.set_cons_succ]
    refine wpAnyH_take (i := 4) (v := ?_) rfl (by kernel_rfl) (by kernel_rfl) (by kernel_rfl) (fun _ _ _ h => h) (Or.inl ⟨by rfl, ?_⟩) (by assumption) ?_
    rotate_left
    · intro Wq hSw
      have c0 := hSw.2.2.2
      clear hSw
      go_simp
      all_goals (with_reducible rfl)
    try simp only [Act.put, List.getElem_toArray, List.getElem_cons_succ, List.getElem_cons_zero, List.setIfInBounds_toArray, List.set_cons_zero, List.set_cons_succ]
    refine r1 (i := 5) rfl (fun K hK => ?_)
    obtain ⟨d0, d1, d2⟩ := hHeld.2.1.three6
    obtain ⟨f0, f1, f2⟩ := hHeld.2.1.free36
    go_simp
    refine hK.out _ _ ⟨bl_set (bl_set (bl_set hHeld.1 (by dsimp only; have := HGR.out; omega) _) (by dsimp only; have := HGR.out; omega) _) (by dsimp only; have := HGR.out; omega) _, hHeld.2.1.set3_6 _ _ _, ((hHeld.2.2.1.far (by dsimp only; have := HGN.out; have := HGT.out; omega) _).far (by dsimp only; have := HGN.out; have := HGT.out; omega) _).far (by dsimp only; have := HGN.out; have := HGT.out; omega) _, (World.cell?_setCell_far _ _ _ _ (by dsimp only; have := HGN.out; have := HGT.out; omega)).trans ((World.cell?_setCell_far _ _ _ _ (by dsimp only; have := HGN.out; have := HGT.out; omega)).trans ((World.cell?_setCell_far _ _ _ _ (by dsimp only; have := HGN.out; have := HGT.out; omega)).trans hHeld.2.2.2))⟩ (fun hHeld2 => ?_)
    clear hK K hHeld d0 d1 d2 f0 f1 f2
    have hHeld := hHeld2
    clear hHeld2
    try simp only [Act.put, List.getElem_toArray, List.getElem_cons_succ, List.getElem_cons_zero, List.setIfInBounds_toArray, List.set_cons_zero, List.set_cons_succ]
    refine wpAnyH_take (i := 6) (v := ?_) rfl (by kernel_rfl) (by kernel_rfl) (by kernel_rfl) (fun _ _ _ h => h) (Or.inl ⟨by rfl, ?_⟩) (by assumption) ?_
    rotate_left
    · intro Wq hSw
      clear hSw
      go_simp
      all_goals (with_reducible rfl)
    try simp only [Act.put, List.getElem_toArray, List.getElem_cons_succ, List.getElem_cons_zero, List.setIfInBounds_toArray, List.set_cons_zero, List.set_cons_succ]
    refine wpAnyH_take (i := 7) (v := ?_) rfl (by kernel_rfl) (by kernel_rfl) (by kernel_rfl) (fun _ _ _ h => h) (Or.inl ⟨by rfl, ?_⟩) (by assumption) ?_
    rotate_left
    · intro Wq hSw
      clear hSw
      go_simp
      all_goals (with_reducible rfl)
    try simp only [Act.put, List.getElem_toArray, List.getElem_cons_succ, List.getElem_cons_zero, List.setIfInBounds_toArray, List.set_cons_zero, List.set_cons_succ]
    refine wpAnyH_done (by kernel_rfl) ?_ _
    go_wp2_with fail
    obtain ⟨e0, e1, e2⟩ := hHeld.2.1.three6
    refine bodyPost_ret (v := optV6 (bad6 a0 11)) (by simp [results, Tryd.results31, go_sem, e0, e1, e2, optV6, bad6]; done) rfl ⟨rfl, hHeld.1⟩
  have hm1 : (m == 0) = false := beq_eq_false_iff_ne.2 hm
  have hm2 : (m = 0) = False := eq_false hm
  have HR1 : Hid (steps6 en m ((tz6 ts).drop 1) 0 false false = R) := by
    have := HR.out
    rwa [if_neg hm] at this
  clear HR hm
  go_wp2_with fail
  clear o0 o1 o2 hm1 hm2
  go_loopw [9, 10] (fun hv iv W => ∃ (i : Nat) (b : Int) (hb r : Bool), hv = .bool hb ∧ iv = .int .i64 i ∧ i ≤ ts.length ∧ Hid (steps6 en m ((tz6 ts).drop i) b hb r = R) ∧ OpT w gr gn go m b r W ∧ TokCells W (some ⟨g, o, none⟩) ts) (fun _ iv _ => ts.length + 1 - (intOf iv).toNat)
  case atStart => exact ⟨1, 0, false, false, rfl, rfl, hl1, HR1.out, HS3.out, HT3.out⟩
  case round =>
    obtain ⟨i, b, hb, r, rfl, rfl, hi, HX, hS, hT⟩ := hrel
    have HS := Lib.hid hS
    have HT := Lib.hid hT
    clear hS hT HR1 HS3 HT3 W2
    obtain ⟨gw, hgw⟩ : ∃ gw, wr.heap.size = gw := ⟨_, rfl⟩
    have HNE : Hid (gr < gw ∧ gn < gw ∧ go < gw) := by
      have := HS.out.res.lt
      have := HS.out.non.lt
      have := HS.out.opt.lt
      unfold Hid; omega
    by_cases hlt : i < ts.length
    · obtain ⟨x, hx⟩ : ∃ x, ts[i] = x := ⟨_, rfl⟩
      obtain ⟨a, s⟩ := x
      obtain ⟨c0, c1⟩ := tok_at6 HT.out hlt hx
      have b9 : ((i : Int) < (ts.length : Int)) = True := eq_true (by omega)
      have HDR := Lib.hid (tz_drop6 hlt)
      rw [hx] at HDR
      have HXI := Lib.hid hx
      obtain ⟨i', hi'⟩ : ∃ i', i + 1 = i' := ⟨_, rfl⟩
      have hw1 : wrap64 ((i : Int) + 1) = (i' : Int) := by unfold wrap64; omega
      clear hx
      go_upto_region 14 with (fail)
      refine wp_abs (fun V => OpT w gr gn go m b r V ∧ TokCells V (some ⟨g, o, none⟩) ts ∧ Var V gw [.int .i64 (a : Int), .string s]) ?_ ?_
      · exact ⟨HS.out.turn (by repeat (first | (with_reducible exact Below.refl _ _) | (with_reducible refine bl_alloc ?_ _) | (with_reducible refine Below.drew ?_) | (with_reducible refine below_drewN' ?_ _) | ((with_reducible refine bl_set ?_ ?_ _); (rotate_left; (dsimp only; omega))))), tok_below6 HT.out (by repeat (first | (with_reducible exact Below.refl _ _) | (with_reducible refine bl_alloc ?_ _) | (with_reducible refine Below.drew ?_) | (with_reducible refine below_drewN' ?_ _) | ((with_reducible refine bl_set ?_ ?_ _); (rotate_left; (dsimp only; omega))))), var2_new _ _ _ _ _ hgw.symm⟩
      rintro W3 hS3
      have HS3 := Lib.hid hS3
      try rw [hgw]
      clear hS3 HS HT hgw c0 c1
      obtain ⟨t0, t1⟩ := HS3.out.2.2.two
      obtain ⟨o0, o1, o2⟩ := HS3.out.1.opt.three6
      obtain ⟨p0, p1, p2⟩ := HS3.out.1.opt.free36
      by_cases hA : nums s = wRef6 ∧ r = false
      · obtain ⟨h1, rfl⟩ := hA
        have b1 := eqs_yes (L := [114, 101, 102, 105, 110, 101]) rfl h1
        have HQ : Hid (steps6 en m ((tz6 ts).drop (i + 1)) b hb true = R) := by
          have := HX.out
          rw [HDR.out, steps_ref6 (x := ((a : Int), nums s)) h1] at this
          exact this
        have HS4 := Lib.hid (HS3.out.1.opt.put6 (.bool true)).2.2
        clear h1 HX HDR
        go_wp2
        go_roundw
        case rel => exact ⟨i + 1, b, hb, true, rfl, by first | rfl | (simp; omega), hlt, HQ.out, ⟨bl_set HS3.out.1.hb (by dsimp only; have := HGO.out; have := HGN.out; omega) _, HS3.out.1.res.far (by dsimp only; have := HGO.out; omega) _, HS3.out.1.non.far (by dsimp only; have := HGO.out; omega) _, HS4.out⟩, tok_far6 HS3.out.2.1 (by dsimp only; have := HGT.out; omega) _⟩
        case measure => simp [intOf]; omega
      by_cases hB : nums s = wBud6 ∧ hb = false
      · obtain ⟨h2, rfl⟩ := hB
        have b1 := eqs_no (t := s) (L := [114, 101, 102, 105, 110, 101]) (l := wRef6) rfl (by rw [h2]; decide)
        have b2 := eqs_yes (L := [98, 117, 100, 103, 101, 116]) rfl h2
        have b3 : (s.toList != [98, 117, 100, 103, 101, 116]) = false := by unfold bne; rw [b2]; rfl
        obtain ⟨hy0, hy1⟩ := steps_next6 hlt (by rw [HXI.out]; exact h2) HX.out
        have hw2 : (i : Int) + 1 = (i' : Int) := by omega
        by_cases hend : i + 1 = ts.length
        · obtain rfl : bad6 en 11 = R := (hy0 hend).symm
          have hii : ((i' : Int) = (ts.length : Int)) = True := eq_true (by omega)
          have hij : ((i' : Int) == (ts.length : Int)) = true := beq_iff_eq.2 (by omega)
          have hik : (i' = ts.length) = True := eq_true (by omega)
          obtain ⟨n0, n1, n2⟩ := HS3.out.1.non.three6
          obtain ⟨q0, q1, q2⟩ := HS3.out.1.res.three6
          obtain ⟨f0, f1, f2⟩ := HS3.out.1.res.free36
          clear hy0 hy1 hA h2 HX HDR hend
          go_wp2_with fail
          obtain ⟨e0, e1, e2⟩ := (HS3.out.1.res.set3_6 (.int .i64 0) (.int .i64 0) (.bool false)).three6
          refine bodyPost_ret (v := optV6 (bad6 en 11)) (by simp [results, Tryd.results31, go_sem, e0, e1, e2, optV6, bad6]; done) rfl ⟨rfl, ?_⟩
          exact bl_set (bl_set (bl_set HS3.out.1.hb (by dsimp only; have := HGR.out; omega) _) (by dsimp only; have := HGR.out; omega) _) (by dsimp only; have := HGR.out; omega) _
        · have hlt2 : i + 1 < ts.length := by omega
          obtain ⟨y, hy⟩ : ∃ y, ts[i + 1] = y := ⟨_, rfl⟩
          obtain ⟨ya, ys⟩ := y
          have hyt := hy1 hlt2
          rw [hy] at hyt
          dsimp only at hyt
          have hys : ys.size ≤ 10000 := (HOK.out (ya, ys) (hy ▸ List.getElem_mem hlt2)).2
          have HCN := Lib.hid (CN.out ys hys)
          obtain ⟨⟨n, er⟩, hn⟩ : ∃ z, budZ6 (nums ys) = z := ⟨_, rfl⟩
          rw [hn] at hyt
          dsimp only at hyt
          have HBF : Hid (∀ v e, NumSpec (nums ys) 9223372036854775807 v e → (e = 0 ∧ ¬ v < 0 ∧ ¬ 100 < v ∧ er = 0 ∧ v = n) ∨ (e = 0 ∧ v < 0 ∧ er = 10) ∨ (e = 0 ∧ ¬ v < 0 ∧ 100 < v ∧ er = 10) ∨ (e = 10 ∧ er = 10) ∨ (e = 11 ∧ er = 11)) := fun v e h => bud_f6 h hn
          have HY2 := Lib.hid hyt.1
          have HY3 := Lib.hid hyt.2
          have hlt3 : i' < ts.length := by omega
          have hyi : ts[i'] = (ya, ys) := by subst hi'; exact hy
          have HYI := Lib.hid hyi
          obtain ⟨c0, c1⟩ := tok_at6 HS3.out.2.1 hlt3 hyi
          have hii : ((i' : Int) = (ts.length : Int)) = False := eq_false (by omega)
          have hij : ((i' : Int) == (ts.length : Int)) = false := beq_eq_false_iff_ne.2 (by omega)
          have hik : (i' = ts.length) = False := eq_false (by omega)
          have hil : ((i' : Int) < (ts.length : Int)) = True := eq_true (by omega)
          have hz1 : ((0 : Int) ≤ (i : Int) + 1) = True := eq_true (by omega)
          clear hy0 hy1 hyt hys hn hy hyi hA h2 HX HDR hend
          go_wp2_with fail
          (with_reducible refine (HCN.out _).mono ?_); rintro e w4 ⟨v, fe, rfl, hsp, hb4⟩
          have HBC := Lib.hid (HBF.out v fe hsp.out)
          have HS4 := Lib.hid (HS3.out.1.turn hb4)
          have HT4 := Lib.hid (tok_below6 HS3.out.2.1 hb4)
          clear hsp hb4 HBF HCN c0 c1 HS3 t0 t1 o0 o1 o2 p0 p1 p2
          rcases HBC.out with ⟨rfl, h1, h2, rfl, rfl⟩ | ⟨rfl, h1, rfl⟩ | ⟨rfl, h1, h2, rfl⟩ | ⟨rfl, rfl⟩ | ⟨rfl, rfl⟩
          · have HR2 := Lib.hid (HY3.out rfl)
            have HO5 := Lib.hid (HS4.out.opt.put6 (.int .i64 v)).2.1
            obtain ⟨o0, o1, o2⟩ := HS4.out.opt.three6
            obtain ⟨p0, p1, p2⟩ := HS4.out.opt.free36
            have hw3 : wrap64 ((i' : Int) + 1) = ((i' + 1 : Nat) : Int) := by unfold wrap64; omega
            clear HY2 HY3 HBC
            go_wp2
            go_roundw
            case rel => exact ⟨i + 2, v, true, r, rfl, by first | rfl | (subst hi'; rfl) | (subst hi'; simp; omega) | (simp; omega), by omega, HR2.out, ⟨bl_set HS4.out.hb (by dsimp only; have := HGO.out; have := HGN.out; omega) _, HS4.out.res.far (by dsimp only; have := HGO.out; omega) _, HS4.out.non.far (by dsimp only; have := HGO.out; omega) _, HO5.out⟩, tok_far6 HT4.out (by dsimp only; have := HGT.out; omega) _⟩
            case measure => simp [intOf]; omega
          · obtain rfl : bad6 ya 10 = R := (HY2.out (by decide)).symm
            have c0 := (tok_at6 HT4.out hlt3 HYI.out).1
            have HS0 : Hid (Below w.heap.size w w4 ∧ Var w4 gr [.int .i64 0, .int .i64 0, .bool false] ∧ Var w4 gn [.int .i64 0, .int .i64 0, .bool false] ∧ w4.cell? ⟨g, o + i' * 2, none⟩ = some (.int .i64 (ya : Int))) := ⟨HS4.out.hb, HS4.out.res, HS4.out.non, c0⟩
            clear HY2 HY3 HS4 HT4 HBC c0
            go_upto_region 26 with (fail)
            refine wp_region_held_drew (S := fun V => Below w.heap.size w V ∧ Var V gr [.int .i64 0, .int .i64 0, .bool false] ∧ Var V gn [.int .i64 0, .int .i64 0, .bool false] ∧ V.cell? ⟨g, o + i' * 2, none⟩ = some (.int .i64 (ya : Int))) (by kernel_rfl) ?_ (fun hHeld => ?_)
            · exact ⟨bl_trans HS0.out.1 (bel_drew _), HS0.out.2.1.below (bel_drew _), HS0.out.2.2.1.below (bel_drew _), HS0.out.2.2.2⟩
            revert hHeld
            generalize World.drew _ = W1
            intro hHeld 
            refine wpAnyH_take (i := 0) (v := ?_) rfl (by kernel_rfl) (by kernel_rfl) (by kernel_rfl) (fun _ _ _ h => h) (Or.inl ⟨by rfl, ?_⟩) (by assumption) ?_
            rotate_left
            · intro Wq hSw
              obtain ⟨n0, n1, n2⟩ := hSw.2.2.1.three6
              clear hSw
              go_simp
              all_goals (with_reducible rfl)
            try simp only [Act.put, List.getElem_toArray, List.getElem_cons_zero, List.setIfInBounds_toArray, List.set_cons_zero, List.set_cons_succ]
            refine wpAnyH_take (i := 1) (v := ?_) rfl (by kernel_rfl) (by kernel_rfl) (by kernel_rfl) (fun _ _ _ h => h) (Or.inl ⟨by rfl, ?_⟩) (by assumption) ?_
            rotate_left
            · intro Wq hSw
              clear hSw
              go_simp
              all_goals (with_reducible rfl)
            try simp only [Act.put, List.getElem_toArray, List.getElem_cons_succ, List.getElem_cons_zero, List.setIfInBounds_toArray, List.set_cons_zero, List.set_cons_succ]
            refine wpAnyH_take (i := 2) (v := ?_) rfl (by kernel_rfl) (by kernel_rfl) (by kernel_rfl) (fun _ _ _ h => h) (Or.inl ⟨by rfl, ?_⟩) (by assumption) ?_
            rotate_left
            · intro Wq hSw
              clear hSw
              go_simp
              all_goals (with_reducible rfl)
            try simp only [Act.put, List.getElem_toArray, List.getElem_cons_succ, List.getElem_cons_zero, List.setIfInBounds_toArray, List.set_cons_zero, List.set_cons_succ]
            refine wpAnyH_take (i := 3) (v := ?_) rfl (by kernel_rfl) (by kernel_rfl) (by kernel_rfl) (fun _ _ _ h => h) (Or.inl ⟨by rfl, ?_⟩) (by assumption) ?_
            rotate_left
            · intro Wq hSw
              clear hSw
              go_simp
              all_goals (with_reducible rfl)
            try simp only [Act.put, List.getElem_toArray, List.getElem_cons_succ, List.getElem_cons_zero, List.setIfInBounds_toArray, List.set_cons_zero, List.set_cons_succ]
            refine wpAnyH_take (i := 4) (v := ?_) rfl (by kernel_rfl) (by kernel_rfl) (by kernel_rfl) (fun _ _ _ h => h) (Or.inl ⟨by rfl, ?_⟩) (by assumption) ?_
            rotate_left
            · intro Wq hSw
              clear hSw
              go_simp
              all_goals (with_reducible rfl)
            try simp only [Act.put, List.getElem_toArray, List.getElem_cons_succ, List.getElem_cons_zero, List.setIfInBounds_toArray, List.set_cons_zero, List.set_cons_succ]
            refine wpAnyH_take (i := 5) (v := ?_) rfl (by kernel_rfl) (by kernel_rfl) (by kernel_rfl) (fun _ _ _ h => h) (Or.inl ⟨by rfl, ?_⟩) (by assumption) ?_
            rotate_left
            · intro Wq hSw
              have c0 := hSw.2.2.2
              clear hSw
              go_simp
              all_goals (with_reducible rfl)
            try simp only [Act.put, List.getElem_toArray, List.getElem_cons_succ, List.getElem_cons_zero, List.setIfInBounds_toArray, List.set_cons_zero, List.set_cons_succ]
            refine wpAnyH_take (i := 6) (v := ?_) rfl (by kernel_rfl) (by kernel_rfl) (by kernel_rfl) (fun _ _ _ h => h) (Or.inl ⟨by rfl, ?_⟩) (by assumption) ?_
            rotate_left
            · intro Wq hSw
              clear hSw
              go_simp
              all_goals (with_reducible rfl)
            try simp only [Act.put, List.getElem_toArray, List.getElem_cons_succ, List.getElem_cons_zero, List.setIfInBounds_toArray, List.set_cons_zero, List.set_cons_succ]
            refine r1 (i := 7) rfl (fun K hK => ?_)
            obtain ⟨d0, d1, d2⟩ := hHeld.2.1.three6
            obtain ⟨f0, f1, f2⟩ := hHeld.2.1.free36
            go_simp
            refine hK.out _ _ ⟨bl_set (bl_set (bl_set hHeld.1 (by dsimp only; have := HGR.out; omega) _) (by dsimp only; have := HGR.out; omega) _) (by dsimp only; have := HGR.out; omega) _, hHeld.2.1.set3_6 _ _ _, ((hHeld.2.2.1.far (by dsimp only; have := HGN.out; have := HGT.out; omega) _).far (by dsimp only; have := HGN.out; have := HGT.out; omega) _).far (by dsimp only; have := HGN.out; have := HGT.out; omega) _, (World.cell?_setCell_far _ _ _ _ (by dsimp only; have := HGN.out; have := HGT.out; omega)).trans ((World.cell?_setCell_far _ _ _ _ (by dsimp only; have := HGN.out; have := HGT.out; omega)).trans ((World.cell?_setCell_far _ _ _ _ (by dsimp only; have := HGN.out; have := HGT.out; omega)).trans hHeld.2.2.2))⟩ (fun hHeld2 => ?_)
            clear hK K hHeld d0 d1 d2 f0 f1 f2
            have hHeld := hHeld2
            clear hHeld2
            try simp only [Act.put, List.getElem_toArray, List.getElem_cons_succ, List.getElem_cons_zero, List.setIfInBounds_toArray, List.set_cons_zero, List.set_cons_succ]
            refine wpAnyH_take (i := 8) (v := ?_) rfl (by kernel_rfl) (by kernel_rfl) (by kernel_rfl) (fun _ _ _ h => h) (Or.inl ⟨by rfl, ?_⟩) (by assumption) ?_
            rotate_left
            · intro Wq hSw
              clear hSw
              go_simp
              all_goals (with_reducible rfl)
            try simp only [Act.put, List.getElem_toArray, List.getElem_cons_succ, List.getElem_cons_zero, List.setIfInBounds_toArray, List.set_cons_zero, List.set_cons_succ]
            refine wpAnyH_take (i := 9) (v := ?_) rfl (by kernel_rfl) (by kernel_rfl) (by kernel_rfl) (fun _ _ _ h => h) (Or.inl ⟨by rfl, ?_⟩) (by assumption) ?_
            rotate_left
            · intro Wq hSw
              clear hSw
              go_simp
              all_goals (with_reducible rfl)
            try simp only [Act.put, List.getElem_toArray, List.getElem_cons_succ, List.getElem_cons_zero, List.setIfInBounds_toArray, List.set_cons_zero, List.set_cons_succ]
            refine wpAnyH_done (by kernel_rfl) ?_ _
            go_wp2_with fail
            obtain ⟨e0, e1, e2⟩ := hHeld.2.1.three6
            refine bodyPost_ret (v := optV6 (bad6 ya 10)) (by simp [results, Tryd.results31, go_sem, e0, e1, e2, optV6, bad6]; done) rfl ⟨rfl, hHeld.1⟩
          · obtain rfl : bad6 ya 10 = R := (HY2.out (by decide)).symm
            have c0 := (tok_at6 HT4.out hlt3 HYI.out).1
            have HS0 : Hid (Below w.heap.size w w4 ∧ Var w4 gr [.int .i64 0, .int .i64 0, .bool false] ∧ Var w4 gn [.int .i64 0, .int .i64 0, .bool false] ∧ w4.cell? ⟨g, o + i' * 2, none⟩ = some (.int .i64 (ya : Int))) := ⟨HS4.out.hb, HS4.out.res, HS4.out.non, c0⟩
            clear HY2 HY3 HS4 HT4 HBC c0
            go_upto_region 26 with (fail)
            refine wp_region_held_drew (S := fun V => Below w.heap.size w V ∧ Var V gr [.int .i64 0, .int .i64 0, .bool false] ∧ Var V gn [.int .i64 0, .int .i64 0, .bool false] ∧ V.cell? ⟨g, o + i' * 2, none⟩ = some (.int .i64 (ya : Int))) (by kernel_rfl) ?_ (fun hHeld => ?_)
            · exact ⟨bl_trans HS0.out.1 (bel_drew _), HS0.out.2.1.below (bel_drew _), HS0.out.2.2.1.below (bel_drew _), HS0.out.2.2.2⟩
            revert hHeld
            generalize World.drew _ = W1
            intro hHeld 
            refine wpAnyH_take (i := 0) (v := ?_) rfl (by kernel_rfl) (by kernel_rfl) (by kernel_rfl) (fun _ _ _ h => h) (Or.inl ⟨by rfl, ?_⟩) (by assumption) ?_
            rotate_left
            · intro Wq hSw
              obtain ⟨n0, n1, n2⟩ := hSw.2.2.1.three6
              clear hSw
              go_simp
              all_goals (with_reducible rfl)
            try simp only [Act.put, List.getElem_toArray, List.getElem_cons_zero, List.setIfInBounds_toArray, List.set_cons_zero, List.set_cons_succ]
            refine wpAnyH_take (i := 1) (v := ?_) rfl (by kernel_rfl) (by kernel_rfl) (by kernel_rfl) (fun _ _ _ h => h) (Or.inl ⟨by rfl, ?_⟩) (by assumption) ?_
            rotate_left
            · intro Wq hSw
              clear hSw
              go_simp
              all_goals (with_reducible rfl)
            try simp only [Act.put, List.getElem_toArray, List.getElem_cons_succ, List.getElem_cons_zero, List.setIfInBounds_toArray, List.set_cons_zero, List.set_cons_succ]
            refine wpAnyH_take (i := 2) (v := ?_) rfl (by kernel_rfl) (by kernel_rfl) (by kernel_rfl) (fun _ _ _ h => h) (Or.inl ⟨by rfl, ?_⟩) (by assumption) ?_
            rotate_left
            · intro Wq hSw
              clear hSw
              go_simp
              all_goals (with_reducible rfl)
            try simp only [Act.put, List.getElem_toArray, List.getElem_cons_succ, List.getElem_cons_zero, List.setIfInBounds_toArray, List.set_cons_zero, List.set_cons_succ]
            refine wpAnyH_take (i := 3) (v := ?_) rfl (by kernel_rfl) (by kernel_rfl) (by kernel_rfl) (fun _ _ _ h => h) (Or.inl ⟨by rfl, ?_⟩) (by assumption) ?_
            rotate_left
            · intro Wq hSw
              clear hSw
              go_simp
              all_goals (with_reducible rfl)
            try simp only [Act.put, List.getElem_toArray, List.getElem_cons_succ, List.getElem_cons_zero, List.setIfInBounds_toArray, List.set_cons_zero, List.set_cons_succ]
            refine wpAnyH_take (i := 4) (v := ?_) rfl (by kernel_rfl) (by kernel_rfl) (by kernel_rfl) (fun _ _ _ h => h) (Or.inl ⟨by rfl, ?_⟩) (by assumption) ?_
            rotate_left
            · intro Wq hSw
              clear hSw
              go_simp
              all_goals (with_reducible rfl)
            try simp only [Act.put, List.getElem_toArray, List.getElem_cons_succ, List.getElem_cons_zero, List.setIfInBounds_toArray, List.set_cons_zero, List.set_cons_succ]
            refine wpAnyH_take (i := 5) (v := ?_) rfl (by kernel_rfl) (by kernel_rfl) (by kernel_rfl) (fun _ _ _ h => h) (Or.inl ⟨by rfl, ?_⟩) (by assumption) ?_
            rotate_left
            · intro Wq hSw
              have c0 := hSw.2.2.2
              clear hSw
              go_simp
              all_goals (with_reducible rfl)
            try simp only [Act.put, List.getElem_toArray, List.getElem_cons_succ, List.getElem_cons_zero, List.setIfInBounds_toArray, List.set_cons_zero, List.set_cons_succ]
            refine wpAnyH_take (i := 6) (v := ?_) rfl (by kernel_rfl) (by kernel_rfl) (by kernel_rfl) (fun _ _ _ h => h) (Or.inl ⟨by rfl, ?_⟩) (by assumption) ?_
            rotate_left
            · intro Wq hSw
              clear hSw
              go_simp
              all_goals (with_reducible rfl)
            try simp only [Act.put, List.getElem_toArray, List.getElem_cons_succ, List.getElem_cons_zero, List.setIfInBounds_toArray, List.set_cons_zero, List.set_cons_succ]
            refine r1 (i := 7) rfl (fun K hK => ?_)
            obtain ⟨d0, d1, d2⟩ := hHeld.2.1.three6
            obtain ⟨f0, f1, f2⟩ := hHeld.2.1.free36
            go_simp
            refine hK.out _ _ ⟨bl_set (bl_set (bl_set hHeld.1 (by dsimp only; have := HGR.out; omega) _) (by dsimp only; have := HGR.out; omega) _) (by dsimp only; have := HGR.out; omega) _, hHeld.2.1.set3_6 _ _ _, ((hHeld.2.2.1.far (by dsimp only; have := HGN.out; have := HGT.out; omega) _).far (by dsimp only; have := HGN.out; have := HGT.out; omega) _).far (by dsimp only; have := HGN.out; have := HGT.out; omega) _, (World.cell?_setCell_far _ _ _ _ (by dsimp only; have := HGN.out; have := HGT.out; omega)).trans ((World.cell?_setCell_far _ _ _ _ (by dsimp only; have := HGN.out; have := HGT.out; omega)).trans ((World.cell?_setCell_far _ _ _ _ (by dsimp only; have := HGN.out; have := HGT.out; omega)).trans hHeld.2.2.2))⟩ (fun hHeld2 => ?_)
            clear hK K hHeld d0 d1 d2 f0 f1 f2
            have hHeld := hHeld2
            clear hHeld2
            try simp only [Act.put, List.getElem_toArray, List.getElem_cons_succ, List.getElem_cons_zero, List.setIfInBounds_toArray, List.set_cons_zero, List.set_cons_succ]
            refine wpAnyH_take (i := 8) (v := ?_) rfl (by kernel_rfl) (by kernel_rfl) (by kernel_rfl) (fun _ _ _ h => h) (Or.inl ⟨by rfl, ?_⟩) (by assumption) ?_
            rotate_left
            · intro Wq hSw
              clear hSw
              go_simp
              all_goals (with_reducible rfl)
            try simp only [Act.put, List.getElem_toArray, List.getElem_cons_succ, List.getElem_cons_zero, List.setIfInBounds_toArray, List.set_cons_zero, List.set_cons_succ]
            refine wpAnyH_take (i := 9) (v := ?_) rfl (by kernel_rfl) (by kernel_rfl) (by kernel_rfl) (fun _ _ _ h => h) (Or.inl ⟨by rfl, ?_⟩) (by assumption) ?_
            rotate_left
            · intro Wq hSw
              clear hSw
              go_simp
              all_goals (with_reducible rfl)
            try simp only [Act.put, List.getElem_toArray, List.getElem_cons_succ, List.getElem_cons_zero, List.setIfInBounds_toArray, List.set_cons_zero, List.set_cons_succ]
            refine wpAnyH_done (by kernel_rfl) ?_ _
            go_wp2_with fail
            obtain ⟨e0, e1, e2⟩ := hHeld.2.1.three6
            refine bodyPost_ret (v := optV6 (bad6 ya 10)) (by simp [results, Tryd.results31, go_sem, e0, e1, e2, optV6, bad6]; done) rfl ⟨rfl, hHeld.1⟩
          · obtain rfl : bad6 ya 10 = R := (HY2.out (by decide)).symm
            have c0 := (tok_at6 HT4.out hlt3 HYI.out).1
            have HS0 : Hid (Below w.heap.size w w4 ∧ Var w4 gr [.int .i64 0, .int .i64 0, .bool false] ∧ Var w4 gn [.int .i64 0, .int .i64 0, .bool false] ∧ w4.cell? ⟨g, o + i' * 2, none⟩ = some (.int .i64 (ya : Int))) := ⟨HS4.out.hb, HS4.out.res, HS4.out.non, c0⟩
            clear HY2 HY3 HS4 HT4 HBC c0
            go_upto_region 26 with (fail)
            refine wp_region_held_drew (S := fun V => Below w.heap.size w V ∧ Var V gr [.int .i64 0, .int .i64 0, .bool false] ∧ Var V gn [.int .i64 0, .int .i64 0, .bool false] ∧ V.cell? ⟨g, o + i' * 2, none⟩ = some (.int .i64 (ya : Int))) (by kernel_rfl) ?_ (fun hHeld => ?_)
            · exact ⟨bl_trans HS0.out.1 (bel_drew _), HS0.out.2.1.below (bel_drew _), HS0.out.2.2.1.below (bel_drew _), HS0.out.2.2.2⟩
            revert hHeld
            generalize World.drew _ = W1
            intro hHeld 
            refine wpAnyH_take (i := 0) (v := ?_) rfl (by kernel_rfl) (by kernel_rfl) (by kernel_rfl) (fun _ _ _ h => h) (Or.inl ⟨by rfl, ?_⟩) (by assumption) ?_
            rotate_left
            · intro Wq hSw
              obtain ⟨n0, n1, n2⟩ := hSw.2.2.1.three6
              clear hSw
              go_simp
              all_goals (with_reducible rfl)
            try simp only [Act.put, List.getElem_toArray, List.getElem_cons_zero, List.setIfInBounds_toArray, List.set_cons_zero, List.set_cons_succ]
            refine wpAnyH_take (i := 1) (v := ?_) rfl (by kernel_rfl) (by kernel_rfl) (by kernel_rfl) (fun _ _ _ h => h) (Or.inl ⟨by rfl, ?_⟩) (by assumption) ?_
            rotate_left
            · intro Wq hSw
              clear hSw
              go_simp
              all_goals (with_reducible rfl)
            try simp only [Act.put, List.getElem_toArray, List.getElem_cons_succ, List.getElem_cons_zero, List.setIfInBounds_toArray, List.set_cons_zero, List.set_cons_succ]
            refine wpAnyH_take (i := 2) (v := ?_) rfl (by kernel_rfl) (by kernel_rfl) (by kernel_rfl) (fun _ _ _ h => h) (Or.inl ⟨by rfl, ?_⟩) (by assumption) ?_
            rotate_left
            · intro Wq hSw
              clear hSw
              go_simp
              all_goals (with_reducible rfl)
            try simp only [Act.put, List.getElem_toArray, List.getElem_cons_succ, List.getElem_cons_zero, List.setIfInBounds_toArray, List.set_cons_zero, List.set_cons_succ]
            refine wpAnyH_take (i := 3) (v := ?_) rfl (by kernel_rfl) (by kernel_rfl) (by kernel_rfl) (fun _ _ _ h => h) (Or.inl ⟨by rfl, ?_⟩) (by assumption) ?_
            rotate_left
            · intro Wq hSw
              clear hSw
              go_simp
              all_goals (with_reducible rfl)
            try simp only [Act.put, List.getElem_toArray, List.getElem_cons_succ, List.getElem_cons_zero, List.setIfInBounds_toArray, List.set_cons_zero, List.set_cons_succ]
            refine wpAnyH_take (i := 4) (v := ?_) rfl (by kernel_rfl) (by kernel_rfl) (by kernel_rfl) (fun _ _ _ h => h) (Or.inl ⟨by rfl, ?_⟩) (by assumption) ?_
            rotate_left
            · intro Wq hSw
              clear hSw
              go_simp
              all_goals (with_reducible rfl)
            try simp only [Act.put, List.getElem_toArray, List.getElem_cons_succ, List.getElem_cons_zero, List.setIfInBounds_toArray, List.set_cons_zero, List.set_cons_succ]
            refine wpAnyH_take (i := 5) (v := ?_) rfl (by kernel_rfl) (by kernel_rfl) (by kernel_rfl) (fun _ _ _ h => h) (Or.inl ⟨by rfl, ?_⟩) (by assumption) ?_
            rotate_left
            · intro Wq hSw
              have c0 := hSw.2.2.2
              clear hSw
              go_simp
              all_goals (with_reducible rfl)
            try simp only [Act.put, List.getElem_toArray, List.getElem_cons_succ, List.getElem_cons_zero, List.setIfInBounds_toArray, List.set_cons_zero, List.set_cons_succ]
            refine wpAnyH_take (i := 6) (v := ?_) rfl (by kernel_rfl) (by kernel_rfl) (by kernel_rfl) (fun _ _ _ h => h) (Or.inl ⟨by rfl, ?_⟩) (by assumption) ?_
            rotate_left
            · intro Wq hSw
              clear hSw
              go_simp
              all_goals (with_reducible rfl)
            try simp only [Act.put, List.getElem_toArray, List.getElem_cons_succ, List.getElem_cons_zero, List.setIfInBounds_toArray, List.set_cons_zero, List.set_cons_succ]
            refine r1 (i := 7) rfl (fun K hK => ?_)
            obtain ⟨d0, d1, d2⟩ := hHeld.2.1.three6
            obtain ⟨f0, f1, f2⟩ := hHeld.2.1.free36
            go_simp
            refine hK.out _ _ ⟨bl_set (bl_set (bl_set hHeld.1 (by dsimp only; have := HGR.out; omega) _) (by dsimp only; have := HGR.out; omega) _) (by dsimp only; have := HGR.out; omega) _, hHeld.2.1.set3_6 _ _ _, ((hHeld.2.2.1.far (by dsimp only; have := HGN.out; have := HGT.out; omega) _).far (by dsimp only; have := HGN.out; have := HGT.out; omega) _).far (by dsimp only; have := HGN.out; have := HGT.out; omega) _, (World.cell?_setCell_far _ _ _ _ (by dsimp only; have := HGN.out; have := HGT.out; omega)).trans ((World.cell?_setCell_far _ _ _ _ (by dsimp only; have := HGN.out; have := HGT.out; omega)).trans ((World.cell?_setCell_far _ _ _ _ (by dsimp only; have := HGN.out; have := HGT.out; omega)).trans hHeld.2.2.2))⟩ (fun hHeld2 => ?_)
            clear hK K hHeld d0 d1 d2 f0 f1 f2
            have hHeld := hHeld2
            clear hHeld2
            try simp only [Act.put, List.getElem_toArray, List.getElem_cons_succ, List.getElem_cons_zero, List.setIfInBounds_toArray, List.set_cons_zero, List.set_cons_succ]
            refine wpAnyH_take (i := 8) (v := ?_) rfl (by kernel_rfl) (by kernel_rfl) (by kernel_rfl) (fun _ _ _ h => h) (Or.inl ⟨by rfl, ?_⟩) (by assumption) ?_
            rotate_left
            · intro Wq hSw
              clear hSw
              go_simp
              all_goals (with_reducible rfl)
            try simp only [Act.put, List.getElem_toArray, List.getElem_cons_succ, List.getElem_cons_zero, List.setIfInBounds_toArray, List.set_cons_zero, List.set_cons_succ]
            refine wpAnyH_take (i := 9) (v := ?_) rfl (by kernel_rfl) (by kernel_rfl) (by kernel_rfl) (fun _ _ _ h => h) (Or.inl ⟨by rfl, ?_⟩) (by assumption) ?_
            rotate_left
            · intro Wq hSw
              clear hSw
              go_simp
              all_goals (with_reducible rfl)
            try simp only [Act.put, List.getElem_toArray, List.getElem_cons_succ, List.getElem_cons_zero, List.setIfInBounds_toArray, List.set_cons_zero, List.set_cons_succ]
            refine wpAnyH_done (by kernel_rfl) ?_ _
            go_wp2_with fail
            obtain ⟨e0, e1, e2⟩ := hHeld.2.1.three6
            refine bodyPost_ret (v := optV6 (bad6 ya 10)) (by simp [results, Tryd.results31, go_sem, e0, e1, e2, optV6, bad6]; done) rfl ⟨rfl, hHeld.1⟩
          · obtain rfl : bad6 ya 11 = R := (HY2.out (by decide)).symm
            have c0 := (tok_at6 HT4.out hlt3 HYI.out).1
            have HS0 : Hid (Below w.heap.size w w4 ∧ Var w4 gr [.int .i64 0, .int .i64 0, .bool false] ∧ Var w4 gn [.int .i64 0, .int .i64 0, .bool false] ∧ w4.cell? ⟨g, o + i' * 2, none⟩ = some (.int .i64 (ya : Int))) := ⟨HS4.out.hb, HS4.out.res, HS4.out.non, c0⟩
            clear HY2 HY3 HS4 HT4 HBC c0
            go_upto_region 26 with (fail)
            refine wp_region_held_drew (S := fun V => Below w.heap.size w V ∧ Var V gr [.int .i64 0, .int .i64 0, .bool false] ∧ Var V gn [.int .i64 0, .int .i64 0, .bool false] ∧ V.cell? ⟨g, o + i' * 2, none⟩ = some (.int .i64 (ya : Int))) (by kernel_rfl) ?_ (fun hHeld => ?_)
            · exact ⟨bl_trans HS0.out.1 (bel_drew _), HS0.out.2.1.below (bel_drew _), HS0.out.2.2.1.below (bel_drew _), HS0.out.2.2.2⟩
            revert hHeld
            generalize World.drew _ = W1
            intro hHeld 
            refine wpAnyH_take (i := 0) (v := ?_) rfl (by kernel_rfl) (by kernel_rfl) (by kernel_rfl) (fun _ _ _ h => h) (Or.inl ⟨by rfl, ?_⟩) (by assumption) ?_
            rotate_left
            · intro Wq hSw
              obtain ⟨n0, n1, n2⟩ := hSw.2.2.1.three6
              clear hSw
              go_simp
              all_goals (with_reducible rfl)
            try simp only [Act.put, List.getElem_toArray, List.getElem_cons_zero, List.setIfInBounds_toArray, List.set_cons_zero, List.set_cons_succ]
            refine wpAnyH_take (i := 1) (v := ?_) rfl (by kernel_rfl) (by kernel_rfl) (by kernel_rfl) (fun _ _ _ h => h) (Or.inl ⟨by rfl, ?_⟩) (by assumption) ?_
            rotate_left
            · intro Wq hSw
              clear hSw
              go_simp
              all_goals (with_reducible rfl)
            try simp only [Act.put, List.getElem_toArray, List.getElem_cons_succ, List.getElem_cons_zero, List.setIfInBounds_toArray, List.set_cons_zero, List.set_cons_succ]
            refine wpAnyH_take (i := 2) (v := ?_) rfl (by kernel_rfl) (by kernel_rfl) (by kernel_rfl) (fun _ _ _ h => h) (Or.inl ⟨by rfl, ?_⟩) (by assumption) ?_
            rotate_left
            · intro Wq hSw
              clear hSw
              go_simp
              all_goals (with_reducible rfl)
            try simp only [Act.put, List.getElem_toArray, List.getElem_cons_succ, List.getElem_cons_zero, List.setIfInBounds_toArray, List.set_cons_zero, List.set_cons_succ]
            refine wpAnyH_take (i := 3) (v := ?_) rfl (by kernel_rfl) (by kernel_rfl) (by kernel_rfl) (fun _ _ _ h => h) (Or.inl ⟨by rfl, ?_⟩) (by assumption) ?_
            rotate_left
            · intro Wq hSw
              clear hSw
              go_simp
              all_goals (with_reducible rfl)
            try simp only [Act.put, List.getElem_toArray, List.getElem_cons_succ, List.getElem_cons_zero, List.setIfInBounds_toArray, List.set_cons_zero, List.set_cons_succ]
            refine wpAnyH_take (i := 4) (v := ?_) rfl (by kernel_rfl) (by kernel_rfl) (by kernel_rfl) (fun _ _ _ h => h) (Or.inl ⟨by rfl, ?_⟩) (by assumption) ?_
            rotate_left
            · intro Wq hSw
              clear hSw
              go_simp
              all_goals (with_reducible rfl)
            try simp only [Act.put, List.getElem_toArray, List.getElem_cons_succ, List.getElem_cons_zero, List.setIfInBounds_toArray, List.set_cons_zero, List.set_cons_succ]
            refine wpAnyH_take (i := 5) (v := ?_) rfl (by kernel_rfl) (by kernel_rfl) (by kernel_rfl) (fun _ _ _ h => h) (Or.inl ⟨by rfl, ?_⟩) (by assumption) ?_
            rotate_left
            · intro Wq hSw
              have c0 := hSw.2.2.2
              clear hSw
              go_simp
              all_goals (with_reducible rfl)
            try simp only [Act.put, List.getElem_toArray, List.getElem_cons_succ, List.getElem_cons_zero, List.setIfInBounds_toArray, List.set_cons_zero, List.set_cons_succ]
            refine wpAnyH_take (i := 6) (v := ?_) rfl (by kernel_rfl) (by kernel_rfl) (by kernel_rfl) (fun _ _ _ h => h) (Or.inl ⟨by rfl, ?_⟩) (by assumption) ?_
            rotate_left
            · intro Wq hSw
              clear hSw
              go_simp
              all_goals (with_reducible rfl)
            try simp only [Act.put, List.getElem_toArray, List.getElem_cons_succ, List.getElem_cons_zero, List.setIfInBounds_toArray, List.set_cons_zero, List.set_cons_succ]
            refine r1 (i := 7) rfl (fun K hK => ?_)
            obtain ⟨d0, d1, d2⟩ := hHeld.2.1.three6
            obtain ⟨f0, f1, f2⟩ := hHeld.2.1.free36
            go_simp
            refine hK.out _ _ ⟨bl_set (bl_set (bl_set hHeld.1 (by dsimp only; have := HGR.out; omega) _) (by dsimp only; have := HGR.out; omega) _) (by dsimp only; have := HGR.out; omega) _, hHeld.2.1.set3_6 _ _ _, ((hHeld.2.2.1.far (by dsimp only; have := HGN.out; have := HGT.out; omega) _).far (by dsimp only; have := HGN.out; have := HGT.out; omega) _).far (by dsimp only; have := HGN.out; have := HGT.out; omega) _, (World.cell?_setCell_far _ _ _ _ (by dsimp only; have := HGN.out; have := HGT.out; omega)).trans ((World.cell?_setCell_far _ _ _ _ (by dsimp only; have := HGN.out; have := HGT.out; omega)).trans ((World.cell?_setCell_far _ _ _ _ (by dsimp only; have := HGN.out; have := HGT.out; omega)).trans hHeld.2.2.2))⟩ (fun hHeld2 => ?_)
            clear hK K hHeld d0 d1 d2 f0 f1 f2
            have hHeld := hHeld2
            clear hHeld2
            try simp only [Act.put, List.getElem_toArray, List.getElem_cons_succ, List.getElem_cons_zero, List.setIfInBounds_toArray, List.set_cons_zero, List.set_cons_succ]
            refine wpAnyH_take (i := 8) (v := ?_) rfl (by kernel_rfl) (by kernel_rfl) (by kernel_rfl) (fun _ _ _ h => h) (Or.inl ⟨by rfl, ?_⟩) (by assumption) ?_
            rotate_left
            · intro Wq hSw
              clear hSw
              go_simp
              all_goals (with_reducible rfl)
            try simp only [Act.put, List.getElem_toArray, List.getElem_cons_succ, List.getElem_cons_zero, List.setIfInBounds_toArray, List.set_cons_zero, List.set_cons_succ]
            refine wpAnyH_take (i := 9) (v := ?_) rfl (by kernel_rfl) (by kernel_rfl) (by kernel_rfl) (fun _ _ _ h => h) (Or.inl ⟨by rfl, ?_⟩) (by assumption) ?_
            rotate_left
            · intro Wq hSw
              clear hSw
              go_simp
              all_goals (with_reducible rfl)
            try simp only [Act.put, List.getElem_toArray, List.getElem_cons_succ, List.getElem_cons_zero, List.setIfInBounds_toArray, List.set_cons_zero, List.set_cons_succ]
            refine wpAnyH_done (by kernel_rfl) ?_ _
            go_wp2_with fail
            obtain ⟨e0, e1, e2⟩ := hHeld.2.1.three6
            refine bodyPost_ret (v := optV6 (bad6 ya 11)) (by simp [results, Tryd.results31, go_sem, e0, e1, e2, optV6, bad6]; done) rfl ⟨rfl, hHeld.1⟩
      obtain rfl : bad6 a 11 = R := by
        have := HX.out
        rwa [HDR.out, steps_bad6 (x := ((a : Int), nums s)) (fun h1 => by cases r; exact absurd ⟨h1, rfl⟩ hA; rfl) (fun h1 => by cases hb; exact absurd ⟨h1, rfl⟩ hB; rfl)] at this
      clear HX HDR
      have HS0 : Hid (Below w.heap.size w W3 ∧ Var W3 gr [.int .i64 0, .int .i64 0, .bool false] ∧ Var W3 gn [.int .i64 0, .int .i64 0, .bool false] ∧ Var W3 gw [.int .i64 (a : Int), .string s]) := ⟨HS3.out.1.hb, HS3.out.1.res, HS3.out.1.non, HS3.out.2.2⟩
      by_cases h1 : nums s = wRef6
      · obtain rfl : r = true := by cases r; exact absurd ⟨h1, rfl⟩ hA; rfl
        have b1 := eqs_yes (L := [114, 101, 102, 105, 110, 101]) rfl h1
        have b2 := eqs_no (t := s) (L := [98, 117, 100, 103, 101, 116]) (l := wBud6) rfl (by rw [h1]; decide)
        have b3 : (s.toList != [98, 117, 100, 103, 101, 116]) = true := by unfold bne; rw [b2]; rfl
        clear h1 hA hB HS3
        go_upto_region 18 with (fail)
        refine wp_region_held_drew (S := fun V => Below w.heap.size w V ∧ Var V gr [.int .i64 0, .int .i64 0, .bool false] ∧ Var V gn [.int .i64 0, .int .i64 0, .bool false] ∧ Var V gw [.int .i64 (a : Int), .string s]) (by kernel_rfl) ?_ (fun hHeld => ?_)
        · exact ⟨bl_trans HS0.out.1 (bel_drew _), HS0.out.2.1.below (bel_drew _), HS0.out.2.2.1.below (bel_drew _), HS0.out.2.2.2.below (bel_drew _)⟩
        revert hHeld
        generalize World.drew _ = W1
        intro hHeld 
        refine wpAnyH_take (i := 0) (v := ?_) rfl (by kernel_rfl) (by kernel_rfl) (by kernel_rfl) (fun _ _ _ h => h) (Or.inl ⟨by rfl, ?_⟩) (by assumption) ?_
        rotate_left
        · intro Wq hSw
          obtain ⟨n0, n1, n2⟩ := hSw.2.2.1.three6
          clear hSw
          go_simp
          all_goals (with_reducible rfl)
        try simp only [Act.put, List.getElem_toArray, List.getElem_cons_zero, List.setIfInBounds_toArray, List.set_cons_zero, List.set_cons_succ]
        refine wpAnyH_take (i := 1) (v := ?_) rfl (by kernel_rfl) (by kernel_rfl) (by kernel_rfl) (fun _ _ _ h => h) (Or.inl ⟨by rfl, ?_⟩) (by assumption) ?_
        rotate_left
        · intro Wq hSw
          clear hSw
          go_simp
          all_goals (with_reducible rfl)
        try simp only [Act.put, List.getElem_toArray, List.getElem_cons_succ, List.getElem_cons_zero, List.setIfInBounds_toArray, List.set_cons_zero, List.set_cons_succ]
        refine wpAnyH_take (i := 2) (v := ?_) rfl (by kernel_rfl) (by kernel_rfl) (by kernel_rfl) (fun _ _ _ h => h) (Or.inl ⟨by rfl, ?_⟩) (by assumption) ?_
        rotate_left
        · intro Wq hSw
          obtain ⟨c0, c1⟩ := hSw.2.2.2.two
          clear hSw
          go_simp
          all_goals (with_reducible rfl)
        try simp only [Act.put, List.getElem_toArray, List.getElem_cons_succ, List.getElem_cons_zero, List.setIfInBounds_toArray, List.set_cons_zero, List.set_cons_succ]
        refine r1 (i := 3) rfl (fun K hK => ?_)
        obtain ⟨d0, d1, d2⟩ := hHeld.2.1.three6
        obtain ⟨f0, f1, f2⟩ := hHeld.2.1.free36
        go_simp
        refine hK.out _ _ ⟨bl_set (bl_set (bl_set hHeld.1 (by dsimp only; have := HGR.out; omega) _) (by dsimp only; have := HGR.out; omega) _) (by dsimp only; have := HGR.out; omega) _, hHeld.2.1.set3_6 _ _ _, ((hHeld.2.2.1.far (by dsimp only; have := HGN.out; have := HGT.out; omega) _).far (by dsimp only; have := HGN.out; have := HGT.out; omega) _).far (by dsimp only; have := HGN.out; have := HGT.out; omega) _, ((hHeld.2.2.2.far (by dsimp only; have := HNE.out; omega) _).far (by dsimp only; have := HNE.out; omega) _).far (by dsimp only; have := HNE.out; omega) _⟩ (fun hHeld2 => ?_)
        clear hK K hHeld d0 d1 d2 f0 f1 f2
        have hHeld := hHeld2
        clear hHeld2
        try simp only [Act.put, List.getElem_toArray, List.getElem_cons_succ, List.getElem_cons_zero, List.setIfInBounds_toArray, List.set_cons_zero, List.set_cons_succ]
        refine wpAnyH_take (i := 4) (v := ?_) rfl (by kernel_rfl) (by kernel_rfl) (by kernel_rfl) (fun _ _ _ h => h) (Or.inl ⟨by rfl, ?_⟩) (by assumption) ?_
        rotate_left
        · intro Wq hSw
          clear hSw
          go_simp
          all_goals (with_reducible rfl)
        try simp only [Act.put, List.getElem_toArray, List.getElem_cons_succ, List.getElem_cons_zero, List.setIfInBounds_toArray, List.set_cons_zero, List.set_cons_succ]
        refine wpAnyH_take (i := 5) (v := ?_) rfl (by kernel_rfl) (by kernel_rfl) (by kernel_rfl) (fun _ _ _ h => h) (Or.inl ⟨by rfl, ?_⟩) (by assumption) ?_
        rotate_left
        · intro Wq hSw
          clear hSw
          go_simp
          all_goals (with_reducible rfl)
        try simp only [Act.put, List.getElem_toArray, List.getElem_cons_succ, List.getElem_cons_zero, List.setIfInBounds_toArray, List.set_cons_zero, List.set_cons_succ]
        refine wpAnyH_done (by kernel_rfl) ?_ _
        go_wp2_with fail
        obtain ⟨e0, e1, e2⟩ := hHeld.2.1.three6
        refine bodyPost_ret (v := optV6 (bad6 a 11)) (by simp [results, Tryd.results31, go_sem, e0, e1, e2, optV6, bad6]; done) rfl ⟨rfl, hHeld.1⟩
      have b1 := eqs_no (L := [114, 101, 102, 105, 110, 101]) rfl h1
      by_cases h2 : nums s = wBud6
      · obtain rfl : hb = true := by cases hb; exact absurd ⟨h2, rfl⟩ hB; rfl
        have b2 := eqs_yes (L := [98, 117, 100, 103, 101, 116]) rfl h2
        have b3 : (s.toList != [98, 117, 100, 103, 101, 116]) = false := by unfold bne; rw [b2]; rfl
        clear h1 h2 hA hB HS3
        go_upto_region 18 with (fail)
        refine wp_region_held_drew (S := fun V => Below w.heap.size w V ∧ Var V gr [.int .i64 0, .int .i64 0, .bool false] ∧ Var V gn [.int .i64 0, .int .i64 0, .bool false] ∧ Var V gw [.int .i64 (a : Int), .string s]) (by kernel_rfl) ?_ (fun hHeld => ?_)
        · exact ⟨bl_trans HS0.out.1 (bel_drew _), HS0.out.2.1.below (bel_drew _), HS0.out.2.2.1.below (bel_drew _), HS0.out.2.2.2.below (bel_drew _)⟩
        revert hHeld
        generalize World.drew _ = W1
        intro hHeld 
        refine wpAnyH_take (i := 0) (v := ?_) rfl (by kernel_rfl) (by kernel_rfl) (by kernel_rfl) (fun _ _ _ h => h) (Or.inl ⟨by rfl, ?_⟩) (by assumption) ?_
        rotate_left
        · intro Wq hSw
          obtain ⟨n0, n1, n2⟩ := hSw.2.2.1.three6
          clear hSw
          go_simp
          all_goals (with_reducible rfl)
        try simp only [Act.put, List.getElem_toArray, List.getElem_cons_zero, List.setIfInBounds_toArray, List.set_cons_zero, List.set_cons_succ]
        refine wpAnyH_take (i := 1) (v := ?_) rfl (by kernel_rfl) (by kernel_rfl) (by kernel_rfl) (fun _ _ _ h => h) (Or.inl ⟨by rfl, ?_⟩) (by assumption) ?_
        rotate_left
        · intro Wq hSw
          clear hSw
          go_simp
          all_goals (with_reducible rfl)
        try simp only [Act.put, List.getElem_toArray, List.getElem_cons_succ, List.getElem_cons_zero, List.setIfInBounds_toArray, List.set_cons_zero, List.set_cons_succ]
        refine wpAnyH_take (i := 2) (v := ?_) rfl (by kernel_rfl) (by kernel_rfl) (by kernel_rfl) (fun _ _ _ h => h) (Or.inl ⟨by rfl, ?_⟩) (by assumption) ?_
        rotate_left
        · intro Wq hSw
          obtain ⟨c0, c1⟩ := hSw.2.2.2.two
          clear hSw
          go_simp
          all_goals (with_reducible rfl)
        try simp only [Act.put, List.getElem_toArray, List.getElem_cons_succ, List.getElem_cons_zero, List.setIfInBounds_toArray, List.set_cons_zero, List.set_cons_succ]
        refine r1 (i := 3) rfl (fun K hK => ?_)
        obtain ⟨d0, d1, d2⟩ := hHeld.2.1.three6
        obtain ⟨f0, f1, f2⟩ := hHeld.2.1.free36
        go_simp
        refine hK.out _ _ ⟨bl_set (bl_set (bl_set hHeld.1 (by dsimp only; have := HGR.out; omega) _) (by dsimp only; have := HGR.out; omega) _) (by dsimp only; have := HGR.out; omega) _, hHeld.2.1.set3_6 _ _ _, ((hHeld.2.2.1.far (by dsimp only; have := HGN.out; have := HGT.out; omega) _).far (by dsimp only; have := HGN.out; have := HGT.out; omega) _).far (by dsimp only; have := HGN.out; have := HGT.out; omega) _, ((hHeld.2.2.2.far (by dsimp only; have := HNE.out; omega) _).far (by dsimp only; have := HNE.out; omega) _).far (by dsimp only; have := HNE.out; omega) _⟩ (fun hHeld2 => ?_)
        clear hK K hHeld d0 d1 d2 f0 f1 f2
        have hHeld := hHeld2
        clear hHeld2
        try simp only [Act.put, List.getElem_toArray, List.getElem_cons_succ, List.getElem_cons_zero, List.setIfInBounds_toArray, List.set_cons_zero, List.set_cons_succ]
        refine wpAnyH_take (i := 4) (v := ?_) rfl (by kernel_rfl) (by kernel_rfl) (by kernel_rfl) (fun _ _ _ h => h) (Or.inl ⟨by rfl, ?_⟩) (by assumption) ?_
        rotate_left
        · intro Wq hSw
          clear hSw
          go_simp
          all_goals (with_reducible rfl)
        try simp only [Act.put, List.getElem_toArray, List.getElem_cons_succ, List.getElem_cons_zero, List.setIfInBounds_toArray, List.set_cons_zero, List.set_cons_succ]
        refine wpAnyH_take (i := 5) (v := ?_) rfl (by kernel_rfl) (by kernel_rfl) (by kernel_rfl) (fun _ _ _ h => h) (Or.inl ⟨by rfl, ?_⟩) (by assumption) ?_
        rotate_left
        · intro Wq hSw
          clear hSw
          go_simp
          all_goals (with_reducible rfl)
        try simp only [Act.put, List.getElem_toArray, List.getElem_cons_succ, List.getElem_cons_zero, List.setIfInBounds_toArray, List.set_cons_zero, List.set_cons_succ]
        refine wpAnyH_done (by kernel_rfl) ?_ _
        go_wp2_with fail
        obtain ⟨e0, e1, e2⟩ := hHeld.2.1.three6
        refine bodyPost_ret (v := optV6 (bad6 a 11)) (by simp [results, Tryd.results31, go_sem, e0, e1, e2, optV6, bad6]; done) rfl ⟨rfl, hHeld.1⟩
      have b2 := eqs_no (L := [98, 117, 100, 103, 101, 116]) rfl h2
      have b3 : (s.toList != [98, 117, 100, 103, 101, 116]) = true := by unfold bne; rw [b2]; rfl
      clear h1 h2 hA hB HS3
      go_upto_region 18 with (fail)
      refine wp_region_held_drew (S := fun V => Below w.heap.size w V ∧ Var V gr [.int .i64 0, .int .i64 0, .bool false] ∧ Var V gn [.int .i64 0, .int .i64 0, .bool false] ∧ Var V gw [.int .i64 (a : Int), .string s]) (by kernel_rfl) ?_ (fun hHeld => ?_)
      · exact ⟨bl_trans HS0.out.1 (bel_drew _), HS0.out.2.1.below (bel_drew _), HS0.out.2.2.1.below (bel_drew _), HS0.out.2.2.2.below (bel_drew _)⟩
      revert hHeld
      generalize World.drew _ = W1
      intro hHeld 
      refine wpAnyH_take (i := 0) (v := ?_) rfl (by kernel_rfl) (by kernel_rfl) (by kernel_rfl) (fun _ _ _ h => h) (Or.inl ⟨by rfl, ?_⟩) (by assumption) ?_
      rotate_left
      · intro Wq hSw
        obtain ⟨n0, n1, n2⟩ := hSw.2.2.1.three6
        clear hSw
        go_simp
        all_goals (with_reducible rfl)
      try simp only [Act.put, List.getElem_toArray, List.getElem_cons_zero, List.setIfInBounds_toArray, List.set_cons_zero, List.set_cons_succ]
      refine wpAnyH_take (i := 1) (v := ?_) rfl (by kernel_rfl) (by kernel_rfl) (by kernel_rfl) (fun _ _ _ h => h) (Or.inl ⟨by rfl, ?_⟩) (by assumption) ?_
      rotate_left
      · intro Wq hSw
        clear hSw
        go_simp
        all_goals (with_reducible rfl)
      try simp only [Act.put, List.getElem_toArray, List.getElem_cons_succ, List.getElem_cons_zero, List.setIfInBounds_toArray, List.set_cons_zero, List.set_cons_succ]
      refine wpAnyH_take (i := 2) (v := ?_) rfl (by kernel_rfl) (by kernel_rfl) (by kernel_rfl) (fun _ _ _ h => h) (Or.inl ⟨by rfl, ?_⟩) (by assumption) ?_
      rotate_left
      · intro Wq hSw
        obtain ⟨c0, c1⟩ := hSw.2.2.2.two
        clear hSw
        go_simp
        all_goals (with_reducible rfl)
      try simp only [Act.put, List.getElem_toArray, List.getElem_cons_succ, List.getElem_cons_zero, List.setIfInBounds_toArray, List.set_cons_zero, List.set_cons_succ]
      refine r1 (i := 3) rfl (fun K hK => ?_)
      obtain ⟨d0, d1, d2⟩ := hHeld.2.1.three6
      obtain ⟨f0, f1, f2⟩ := hHeld.2.1.free36
      go_simp
      refine hK.out _ _ ⟨bl_set (bl_set (bl_set hHeld.1 (by dsimp only; have := HGR.out; omega) _) (by dsimp only; have := HGR.out; omega) _) (by dsimp only; have := HGR.out; omega) _, hHeld.2.1.set3_6 _ _ _, ((hHeld.2.2.1.far (by dsimp only; have := HGN.out; have := HGT.out; omega) _).far (by dsimp only; have := HGN.out; have := HGT.out; omega) _).far (by dsimp only; have := HGN.out; have := HGT.out; omega) _, ((hHeld.2.2.2.far (by dsimp only; have := HNE.out; omega) _).far (by dsimp only; have := HNE.out; omega) _).far (by dsimp only; have := HNE.out; omega) _⟩ (fun hHeld2 => ?_)
      clear hK K hHeld d0 d1 d2 f0 f1 f2
      have hHeld := hHeld2
      clear hHeld2
      try simp only [Act.put, List.getElem_toArray, List.getElem_cons_succ, List.getElem_cons_zero, List.setIfInBounds_toArray, List.set_cons_zero, List.set_cons_succ]
      refine wpAnyH_take (i := 4) (v := ?_) rfl (by kernel_rfl) (by kernel_rfl) (by kernel_rfl) (fun _ _ _ h => h) (Or.inl ⟨by rfl, ?_⟩) (by assumption) ?_
      rotate_left
      · intro Wq hSw
        clear hSw
        go_simp
        all_goals (with_reducible rfl)
      try simp only [Act.put, List.getElem_toArray, List.getElem_cons_succ, List.getElem_cons_zero, List.setIfInBounds_toArray, List.set_cons_zero, List.set_cons_succ]
      refine wpAnyH_take (i := 5) (v := ?_) rfl (by kernel_rfl) (by kernel_rfl) (by kernel_rfl) (fun _ _ _ h => h) (Or.inl ⟨by rfl, ?_⟩) (by assumption) ?_
      rotate_left
      · intro Wq hSw
        clear hSw
        go_simp
        all_goals (with_reducible rfl)
      try simp only [Act.put, List.getElem_toArray, List.getElem_cons_succ, List.getElem_cons_zero, List.setIfInBounds_toArray, List.set_cons_zero, List.set_cons_succ]
      refine wpAnyH_done (by kernel_rfl) ?_ _
      go_wp2_with fail
      obtain ⟨e0, e1, e2⟩ := hHeld.2.1.three6
      refine bodyPost_ret (v := optV6 (bad6 a 11)) (by simp [results, Tryd.results31, go_sem, e0, e1, e2, optV6, bad6]; done) rfl ⟨rfl, hHeld.1⟩
    · obtain rfl : i = ts.length := by omega
      have b9 : ((ts.length : Int) < (ts.length : Int)) = False := eq_false (by omega)
      obtain rfl : ⟨m, b, r, 0, 0⟩ = R := by
        have := HX.out
        rwa [tz_end6] at this
      obtain ⟨d0, d1, d2⟩ := HS.out.opt.three6
      obtain ⟨q0, q1, q2⟩ := HS.out.res.three6
      obtain ⟨f0, f1, f2⟩ := HS.out.res.free36
      go_wp2_with fail
      obtain ⟨e0, e1, e2⟩ := (HS.out.res.set3_6 (.int .i64 m) (.int .i64 b) (.bool r)).three6
      refine bodyPost_ret (v := optV6 ⟨m, b, r, 0, 0⟩) (by simp [results, Tryd.results31, go_sem, e0, e1, e2, optV6]; done) rfl ⟨rfl, ?_⟩
      exact bl_set (bl_set (bl_set HS.out.hb (by dsimp only; have := HGR.out; omega) _) (by dsimp only; have := HGR.out; omega) _) (by dsimp only; have := HGR.out; omega) _
end Go.Proofs.YtoglibmdpgfpaaaDoor
