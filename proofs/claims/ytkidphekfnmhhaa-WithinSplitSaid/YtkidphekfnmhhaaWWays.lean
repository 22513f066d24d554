/-
  The law WithinWays.
-/
import Derived.Test.YtkidphekfnmhhaaWChg
namespace Go.Proofs.Ytkidphekfnmhhaa
open Go.RowKit

theorem at9_p (p l : List Pt) (q : Pt) {n e : Int} (h : atN 1 p l q = n ∧ atE 1 p l q = e) (ap al : Option Addr) (cp cl np nl : Nat) (w : World) (hP : PtRow w ap p) (hL : PtRow w al l) (hll : l.length ≤ 10000) (ep : np = p.length) (el : nl = l.length) :
    Calls Try.prog 14 #[.slice ap np cp, .slice al nl cl, .agg #[.int .i64 q.x, .int .i64 q.y]] w (Gives (.tuple #[.int .i64 n, .int .i64 e]) w) := by
  subst ep el
  exact at9_u p l q h ap al cp cl w hP hL hll
/-- the law's loop, in memory: its places, mirrored or not, the last one the point -/
theorem last_row {W : World} {g o : Nat} {l : List Pt} {q : Pt} (h : PtRow W (some ⟨g, o, none⟩) (l ++ [q])) : PtRow W (some ⟨g, o, none⟩) l ∧ W.cell? ⟨g, o + l.length * 2, none⟩ = some (.int .i64 q.x) ∧ W.cell? ⟨g, o + l.length * 2 + 1, none⟩ = some (.int .i64 q.y) := by
  refine ⟨?_, ptRow_at h (by simp) (by simp [pget])⟩
  have := h.take l.length
  rwa [List.take_left] at this
set_option maxHeartbeats 16000000 in
set_option maxRecDepth 100000 in
theorem ways_l (w : World) (l : List Pt) (ap : Option Addr) (cp : Nat) (_ : l.length ≤ cp) (hP : PtRow w ap l ∧ ∀ i, i < l.length → (pget l i).wf) (hn : ap = none → cp = 0) (q : Pt) (hq : q.wf) :
    Calls Try.prog 6 #[.slice ap l.length cp, .agg #[.int .i64 q.x, .int .i64 q.y]] w (Gives (.bool true) w) := by
  have KN := Lib.hid (fun W => lawK_l W)
  have HP := Lib.hid hP.1
  have HWf := Lib.hid hP.2
  have HQw := Lib.hid hq
  clear hP hn hq
  go_enter Try.func6, Try.ntmps6
  go_upto_region 1 with (fail)
  have HV := Lib.hid (var2_new w (.int .i64 q.x) (.int .i64 q.y) 25 w.heap.size rfl)
  have HB := Lib.hid (bl_one w (.cells #[.int .i64 q.x, .int .i64 q.y] 25))
  generalize w.alloc (.cells #[.int .i64 q.x, .int .i64 q.y] 25) = W1 at *
  by_cases h1 : 60 < l.length
  · have b1 : ((60 : Int) < (l.length : Int)) = True := eq_true (by omega)
    have b1' : (60 < l.length) = True := eq_true h1
    go_wp2_with fail
    (with_reducible refine (KN.out _).mono ?_); rintro e wk ⟨rfl, hbk⟩
    have HZ := Lib.hid (bl_trans HB.out hbk)
    clear hbk
    go_wp2_with fail
    go_ret
    exact ⟨rfl, HZ.out⟩
  have b1 : ((60 : Int) < (l.length : Int)) = False := eq_false (by omega)
  have b1' : (60 < l.length) = False := eq_false h1
  by_cases h2 : l.length = 0
  · have b2 : ((l.length : Int) = 0) = True := eq_true (by omega)
    have b2' : (l = []) = True := eq_true (List.length_eq_zero_iff.1 h2)
    have b3 : ((l.length : Int) == 0) = true := beq_iff_eq.2 (by omega)
    go_wp2_with fail
    (with_reducible refine (KN.out _).mono ?_); rintro e wk ⟨rfl, hbk⟩
    have HZ := Lib.hid (bl_trans HB.out hbk)
    clear hbk
    go_wp2_with fail
    go_ret
    exact ⟨rfl, HZ.out⟩
  have b2 : ((l.length : Int) = 0) = False := eq_false (by omega)
  have b2' : (l = []) = False := eq_false fun h => h2 (by rw [h]; rfl)
  have b3 : ((l.length : Int) == 0) = false := beq_eq_false_iff_ne.2 (by omega)
  obtain ⟨g, o, rfl⟩ := HP.out.some (by omega)
  have HLn : Hid (l.length ≤ 60) := by unfold Hid; omega
  have hll : (ringL l.length).length ≤ 10000 := by rw [ringL_len]; omega
  have HLL := Lib.hid hll
  clear h1 hll
  obtain ⟨n0, hn0⟩ : ∃ z, atN 1 l (ringL l.length) q = z := ⟨_, rfl⟩
  obtain ⟨e0, he0⟩ : ∃ z, atE 1 l (ringL l.length) q = z := ⟨_, rfl⟩
  have HM1 := Lib.hid (And.intro hn0 he0)
  have HM2 := Lib.hid (ways_neg HWf.out HQw.out)
  have HM3 := Lib.hid (ways_swap HWf.out HQw.out)
  rw [hn0, he0] at HM2 HM3
  clear hn0 he0 HWf HQw
  have HRi := Lib.hid (fun ad cc W => ring9_l l.length ad cc W (by have := HLn.out; omega))
  go_upto_region 3 with (fail)
  go_cut [5, 6] (fun x y W => x = .int .i64 n0 ∧ y = .int .i64 e0 ∧ Below W1.heap.size W1 W)
  case first =>
    have HC : Hid (∀ al cl W, Below W1.heap.size W1 W → PtRow W al (ringL l.length) → Calls Try.prog 14 #[.slice (some ⟨g, o, none⟩) l.length cp, .slice al (ringL l.length).length cl, .agg #[.int .i64 q.x, .int .i64 q.y]] W (Gives (.tuple #[.int .i64 n0, .int .i64 e0]) W)) := fun al cl W h hL =>
      at9_p l (ringL l.length) q HM1.out _ al cp cl _ _ W (HP.out.below (bl_trans HB.out h)) hL HLL.out rfl rfl
    clear HM2 HM3
    refine wp_region_held_drew (S := fun V => Below W1.heap.size W1 V) (by kernel_rfl) ?_ (fun hHeld => ?_)
    · exact bel_drew W1
    revert hHeld
    generalize World.drew _ = W1
    intro hHeld 
    refine wpAnyH_take (i := 0) (v := ?_) rfl (by kernel_rfl) (by kernel_rfl) (by kernel_rfl) (fun _ _ _ h => h) (Or.inl ⟨by rfl, ?_⟩) (by assumption) ?_
    rotate_left
    · intro Wq hSw
      clear hSw
      go_simp
      all_goals (with_reducible rfl)
    try simp only [Act.put, List.getElem_toArray, List.getElem_cons_zero, List.setIfInBounds_toArray, List.set_cons_zero, List.set_cons_succ]
    refine wpAnyH_take (i := 1) (v := ?_) rfl (by kernel_rfl) (by kernel_rfl) (by kernel_rfl) (fun _ _ _ h => h) (Or.inl ⟨by rfl, ?_⟩) (by assumption) ?_
    rotate_left
    · intro Wq hSw
      clear hSw
      go_simp
      all_goals (with_reducible rfl)
    try simp only [Act.put, List.getElem_toArray, List.getElem_cons_succ, List.getElem_cons_zero, List.setIfInBounds_toArray, List.set_cons_zero, List.set_cons_succ]
    refine wpAnyH_take (i := 3) (v := ?_) rfl (by kernel_rfl) (by kernel_rfl) (by kernel_rfl) (fun _ _ _ h => h) (Or.inl ⟨by rfl, ?_⟩) (by assumption) ?_
    rotate_left
    · intro Wq hSw
      obtain ⟨k0, k1⟩ := (HV.out.below hSw).two
      clear hSw
      go_simp
      all_goals (with_reducible rfl)
    try simp only [Act.put, List.getElem_toArray, List.getElem_cons_succ, List.getElem_cons_zero, List.setIfInBounds_toArray, List.set_cons_zero, List.set_cons_succ]
    refine r1 (i := 2) rfl (fun K hK => ?_)
    go_simp
    (with_reducible refine (HRi.out _ _ _).mono ?_)
    rintro e w2 ⟨v2, rfl, hO⟩
    have hb1 := hO.hb
    obtain ⟨al, cl, rfl, -, hL, -⟩ := hO.pts
    have HL := Lib.hid hL
    clear hO hL
    go_wp2_with fail
    refine hK.out _ _ (bl_trans hHeld hb1) (fun hHeld2 => ?_)
    clear hK K hHeld
    have hHeld := hHeld2
    clear hHeld2
    try simp only [Act.put, List.getElem_toArray, List.getElem_cons_succ, List.getElem_cons_zero, List.setIfInBounds_toArray, List.set_cons_zero, List.set_cons_succ]
    refine r1 (i := 4) rfl (fun K hK => ?_)
    go_simp
    (with_reducible refine (HC.out _ _ _ hHeld HL.out).mono ?_)
    rintro e wz ⟨rfl, hb1⟩
    go_wp2_with fail
    refine hK.out _ _ (bl_trans hHeld hb1) (fun hHeld2 => ?_)
    clear hK K hHeld
    have hHeld := hHeld2
    clear hHeld2
    try simp only [Act.put, List.getElem_toArray, List.getElem_cons_succ, List.getElem_cons_zero, List.setIfInBounds_toArray, List.set_cons_zero, List.set_cons_succ]
    refine wpAnyH_take (i := 5) (v := ?_) rfl (by kernel_rfl) (by kernel_rfl) (by kernel_rfl) (fun _ _ _ h => h) (Or.inl ⟨by rfl, ?_⟩) (by assumption) ?_
    rotate_left
    · intro Wq hSw
      clear hSw
      go_simp
      all_goals (with_reducible rfl)
    try simp only [Act.put, List.getElem_toArray, List.getElem_cons_succ, List.getElem_cons_zero, List.setIfInBounds_toArray, List.set_cons_zero, List.set_cons_succ]
    refine wpAnyH_take (i := 6) (v := ?_) rfl (by kernel_rfl) (by kernel_rfl) (by kernel_rfl) (fun _ _ _ h => h) (Or.inl ⟨by rfl, ?_⟩) (by assumption) ?_
    rotate_left
    · intro Wq hSw
      clear hSw
      go_simp
      all_goals (with_reducible rfl)
    try simp only [Act.put, List.getElem_toArray, List.getElem_cons_succ, List.getElem_cons_zero, List.setIfInBounds_toArray, List.set_cons_zero, List.set_cons_succ]
    refine wpAnyH_take (i := 7) (v := ?_) rfl (by kernel_rfl) (by kernel_rfl) (by kernel_rfl) (fun _ _ _ h => h) (Or.inl ⟨by rfl, ?_⟩) (by assumption) ?_
    rotate_left
    · intro Wq hSw
      clear hSw
      go_simp
      all_goals (with_reducible rfl)
    try simp only [Act.put, List.getElem_toArray, List.getElem_cons_succ, List.getElem_cons_zero, List.setIfInBounds_toArray, List.set_cons_zero, List.set_cons_succ]
    refine wpAnyH_take (i := 8) (v := ?_) rfl (by kernel_rfl) (by kernel_rfl) (by kernel_rfl) (fun _ _ _ h => h) (Or.inl ⟨by rfl, ?_⟩) (by assumption) ?_
    rotate_left
    · intro Wq hSw
      clear hSw
      go_simp
      all_goals (with_reducible rfl)
    try simp only [Act.put, List.getElem_toArray, List.getElem_cons_succ, List.getElem_cons_zero, List.setIfInBounds_toArray, List.set_cons_zero, List.set_cons_succ]
    refine wpAnyH_take (i := 9) (v := ?_) rfl (by kernel_rfl) (by kernel_rfl) (by kernel_rfl) (fun _ _ _ h => h) (Or.inl ⟨by rfl, ?_⟩) (by assumption) ?_
    rotate_left
    · intro Wq hSw
      clear hSw
      go_simp
      all_goals (with_reducible rfl)
    try simp only [Act.put, List.getElem_toArray, List.getElem_cons_succ, List.getElem_cons_zero, List.setIfInBounds_toArray, List.set_cons_zero, List.set_cons_succ]
    refine wpAnyH_done (by kernel_rfl) ?_ _
    go_wp2_with fail
    go_meet
    case rel => exact ⟨rfl, rfl, hHeld⟩
  case rest =>
  obtain ⟨rfl, rfl, hbc⟩ := hcut
  replace HV := Lib.hid (HV.out.below hbc)
  replace HB := Lib.hid (bl_trans HB.out hbc)
  clear hbc HM1
  obtain ⟨c0, c1⟩ := HV.out.two
  obtain ⟨W3, eW⟩ : ∃ W, W = wc := ⟨_, rfl⟩
  subst eW
  have HP3 := Lib.hid (HP.out.below HB.out)
  go_wp2_with (at_builtin; refine app_pts rfl Try.underlying22 info_pt9 _ _ rfl rfl (op_nil _ W3) rfl (L := l) rfl HP3.out (fun h => by cases h) ?x1 ?_)
  case x1 => have := HLn.out; simp only [List.length_nil]; omega
  intro v1 w4 hO1
  have HO1 := Lib.hid hO1
  have HB4 := Lib.hid hO1.hb
  obtain ⟨a7, c7, rfl, -, -, -⟩ := hO1.slice
  clear hO1 c0 c1
  obtain ⟨c0, c1⟩ := (HV.out.below HB4.out).two
  go_wp2_with (at_builtin; refine app_pts rfl Try.underlying22 info_pt9 _ _ rfl rfl (HO1.out.alloc _) rfl (L := [q]) rfl (ptRow_new _ q _) (fun h => by cases h) ?x1 ?_)
  case x1 => have := HLn.out; simp only [List.length_singleton]; omega
  intro v2 w5 hO2
  have hb5 := hO2.hb
  obtain ⟨a7b, c7b, ev, hc7, hR7, -⟩ := hO2.slice
  rw [List.length_append, List.length_singleton] at ev
  subst ev
  have HR7 := Lib.hid hR7
  replace HB := Lib.hid (bl_trans HB.out hb5)
  replace HV := Lib.hid (HV.out.below hb5)
  clear hO2 hb5 HO1 HB4 hR7 c0 c1 hc7 HP3
  have hle : (l ++ [q]).length ≤ 10000 := by have := HLn.out; rw [List.length_append, List.length_singleton]; omega
  have HCh : Hid (∀ sw W, Below w5.heap.size w5 W → Calls Try.prog 23 #[.slice a7b (l.length + 1) c7b, .bool sw] W fun e w' => ∃ v, e = .returned v ∧ Op 25 W v ((l ++ [q]).map (chgF sw)) w') := fun sw W h => by
    have := changed_l (l ++ [q]) sw a7b c7b W (HR7.out.below h) hle
    rwa [List.length_append, List.length_singleton] at this
  clear hle
  go_wp2_with fail
  (with_reducible refine (HCh.out false _ (Below.refl _ _)).mono ?_); rintro e w8 ⟨v8, rfl, hO⟩
  have hb := hO.hb
  obtain ⟨ad8, cc8, ev, hcc8, hR, -⟩ := hO.pts
  rw [List.length_map, List.length_append, List.length_singleton] at ev
  subst ev
  rw [List.map_append, List.map_cons, List.map_nil] at hR
  have HR8 := Lib.hid hR
  replace HB := Lib.hid (bl_trans HB.out hb)
  replace HV := Lib.hid (HV.out.below hb)
  have HB8 := Lib.hid hb
  clear hO hb hR
  go_wp2_with fail
  (with_reducible refine (HCh.out true _ HB8.out).mono ?_); rintro e w9 ⟨v9, rfl, hO⟩
  have hb := hO.hb
  obtain ⟨ad9, cc9, ev, hcc9, hR, -⟩ := hO.pts
  rw [List.length_map, List.length_append, List.length_singleton] at ev
  subst ev
  rw [List.map_append, List.map_cons, List.map_nil] at hR
  have HR9 := Lib.hid hR
  replace HB := Lib.hid (bl_trans HB.out hb)
  replace HV := Lib.hid (HV.out.below hb)
  replace HR8 := Lib.hid (HR8.out.below hb)
  clear hO hb hR HB8 HCh HR7
  rw [List.length_map, List.length_append, List.length_singleton] at hcc8 hcc9
  obtain ⟨g8, o8, rfl⟩ := HR8.out.some (by simp)
  obtain ⟨g9, o9, rfl⟩ := HR9.out.some (by simp)
  have HL8 := Lib.hid (last_row HR8.out)
  have HL9 := Lib.hid (last_row HR9.out)
  rw [List.length_map] at HL8 HL9
  have HM2b : Hid (atN 1 (l.map (chgF false)) (ringL l.length) (chgF false q) = n0 ∧ atE 1 (l.map (chgF false)) (ringL l.length) (chgF false q) = e0) := HM2.out
  have HM3b : Hid (atN 1 (l.map (chgF true)) (ringL l.length) (chgF true q) = n0 ∧ atE 1 (l.map (chgF true)) (ringL l.length) (chgF true q) = e0) := HM3.out
  clear HM2 HM3 HR8 HR9
  generalize chgF false q = q8 at *
  generalize chgF true q = q9 at *
  go_upto_region 9 with (fail)
  obtain ⟨WC8, eW⟩ : ∃ W, W = w9 := ⟨_, rfl⟩
  subst eW
  go_cut [10, 11] (fun x y W => x = .int .i64 n0 ∧ y = .int .i64 e0 ∧ Below WC8.heap.size WC8 W)
  case first =>
    have HC : Hid (∀ al cl W, Below WC8.heap.size WC8 W → PtRow W al (ringL l.length) → Calls Try.prog 14 #[.slice (some ⟨g8, o8, none⟩) l.length cc8, .slice al (ringL l.length).length cl, .agg #[.int .i64 q8.x, .int .i64 q8.y]] W (Gives (.tuple #[.int .i64 n0, .int .i64 e0]) W)) := fun al cl W h hL =>
      at9_p (l.map (chgF false)) (ringL l.length) q8 HM2b.out _ al cc8 cl _ _ W (HL8.out.1.below h) hL HLL.out (by rw [List.length_map]) rfl
    refine wp_region_held_drew (S := fun V => Below WC8.heap.size WC8 V) (by kernel_rfl) ?_ (fun hHeld => ?_)
    · exact bel_drew WC8
    revert hHeld
    generalize World.drew _ = W1
    intro hHeld 
    refine wpAnyH_take (i := 0) (v := ?_) rfl (by kernel_rfl) (by kernel_rfl) (by kernel_rfl) (fun _ _ _ h => h) (Or.inl ⟨by rfl, ?_⟩) (by assumption) ?_
    rotate_left
    · intro Wq hSw
      clear hSw
      go_simp
      all_goals (with_reducible rfl)
    try simp only [Act.put, List.getElem_toArray, List.getElem_cons_zero, List.setIfInBounds_toArray, List.set_cons_zero, List.set_cons_succ]
    refine wpAnyH_take (i := 1) (v := ?_) rfl (by kernel_rfl) (by kernel_rfl) (by kernel_rfl) (fun _ _ _ h => h) (Or.inl ⟨by rfl, ?_⟩) (by assumption) ?_
    rotate_left
    · intro Wq hSw
      clear hSw
      go_simp
      all_goals (with_reducible rfl)
    try simp only [Act.put, List.getElem_toArray, List.getElem_cons_succ, List.getElem_cons_zero, List.setIfInBounds_toArray, List.set_cons_zero, List.set_cons_succ]
    refine wpAnyH_take (i := 2) (v := ?_) rfl (by kernel_rfl) (by kernel_rfl) (by kernel_rfl) (fun _ _ _ h => h) (Or.inl ⟨by rfl, ?_⟩) (by assumption) ?_
    rotate_left
    · intro Wq hSw
      clear hSw
      go_simp
      all_goals (with_reducible rfl)
    try simp only [Act.put, List.getElem_toArray, List.getElem_cons_succ, List.getElem_cons_zero, List.setIfInBounds_toArray, List.set_cons_zero, List.set_cons_succ]
    refine wpAnyH_take (i := 3) (v := ?_) rfl (by kernel_rfl) (by kernel_rfl) (by kernel_rfl) (fun _ _ _ h => h) (Or.inl ⟨by rfl, ?_⟩) (by assumption) ?_
    rotate_left
    · intro Wq hSw
      have b5 : ((l.length : Int) ≤ (cc8 : Int)) = True := eq_true (by omega)
      have d5 : (l.length ≤ cc8) = True := eq_true (by omega)
      have c5 : ((0 : Int) ≤ (l.length : Int)) = True := eq_true (by omega)
      clear hSw
      go_simp
      all_goals (with_reducible rfl)
    try simp only [Act.put, List.getElem_toArray, List.getElem_cons_succ, List.getElem_cons_zero, List.setIfInBounds_toArray, List.set_cons_zero, List.set_cons_succ]
    refine wpAnyH_take (i := 4) (v := ?_) rfl (by kernel_rfl) (by kernel_rfl) (by kernel_rfl) (fun _ _ _ h => h) (Or.inl ⟨by rfl, ?_⟩) (by assumption) ?_
    rotate_left
    · intro Wq hSw
      clear hSw
      go_simp
      all_goals (with_reducible rfl)
    try simp only [Act.put, List.getElem_toArray, List.getElem_cons_succ, List.getElem_cons_zero, List.setIfInBounds_toArray, List.set_cons_zero, List.set_cons_succ]
    refine wpAnyH_take (i := 6) (v := ?_) rfl (by kernel_rfl) (by kernel_rfl) (by kernel_rfl) (fun _ _ _ h => h) (Or.inl ⟨by rfl, ?_⟩) (by assumption) ?_
    rotate_left
    · intro Wq hSw
      clear hSw
      go_simp
      all_goals (with_reducible rfl)
    try simp only [Act.put, List.getElem_toArray, List.getElem_cons_succ, List.getElem_cons_zero, List.setIfInBounds_toArray, List.set_cons_zero, List.set_cons_succ]
    refine wpAnyH_take (i := 7) (v := ?_) rfl (by kernel_rfl) (by kernel_rfl) (by kernel_rfl) (fun _ _ _ h => h) (Or.inl ⟨by rfl, ?_⟩) (by assumption) ?_
    rotate_left
    · intro Wq hSw
      clear hSw
      go_simp
      all_goals (with_reducible rfl)
    try simp only [Act.put, List.getElem_toArray, List.getElem_cons_succ, List.getElem_cons_zero, List.setIfInBounds_toArray, List.set_cons_zero, List.set_cons_succ]
    refine wpAnyH_take (i := 8) (v := ?_) rfl (by kernel_rfl) (by kernel_rfl) (by kernel_rfl) (fun _ _ _ h => h) (Or.inl ⟨by rfl, ?_⟩) (by assumption) ?_
    rotate_left
    · intro Wq hSw
      clear hSw
      go_simp
      all_goals (with_reducible rfl)
    try simp only [Act.put, List.getElem_toArray, List.getElem_cons_succ, List.getElem_cons_zero, List.setIfInBounds_toArray, List.set_cons_zero, List.set_cons_succ]
    refine wpAnyH_take (i := 9) (v := ?_) rfl (by kernel_rfl) (by kernel_rfl) (by kernel_rfl) (fun _ _ _ h => h) (Or.inl ⟨by rfl, ?_⟩) (by assumption) ?_
    rotate_left
    · intro Wq hSw
      have b1 : ((l.length : Int) < (l.length : Int) + 1) = True := eq_true (by omega)
      have d1 : (l.length < l.length + 1) = True := eq_true (by omega)
      have c1 : ((0 : Int) ≤ (l.length : Int)) = True := eq_true (by omega)
      clear hSw
      go_simp
      all_goals (with_reducible rfl)
    try simp only [Act.put, List.getElem_toArray, List.getElem_cons_succ, List.getElem_cons_zero, List.setIfInBounds_toArray, List.set_cons_zero, List.set_cons_succ]
    refine wpAnyH_take (i := 10) (v := ?_) rfl (by kernel_rfl) (by kernel_rfl) (by kernel_rfl) (fun _ _ _ h => h) (Or.inl ⟨by rfl, ?_⟩) (by assumption) ?_
    rotate_left
    · intro Wq hSw
      have k0 := (hSw.cell (cell_lt HL8.out.2.1)).trans HL8.out.2.1
      have k1 := (hSw.cell (cell_lt HL8.out.2.2)).trans HL8.out.2.2
      clear hSw
      go_simp
      all_goals (with_reducible rfl)
    try simp only [Act.put, List.getElem_toArray, List.getElem_cons_succ, List.getElem_cons_zero, List.setIfInBounds_toArray, List.set_cons_zero, List.set_cons_succ]
    refine r1 (i := 5) rfl (fun K hK => ?_)
    go_simp
    (with_reducible refine (HRi.out _ _ _).mono ?_)
    rintro e w2 ⟨v2, rfl, hO⟩
    have hb1 := hO.hb
    obtain ⟨al, cl, rfl, -, hL, -⟩ := hO.pts
    have HL := Lib.hid hL
    clear hO hL
    go_wp2_with fail
    refine hK.out _ _ (bl_trans hHeld hb1) (fun hHeld2 => ?_)
    clear hK K hHeld
    have hHeld := hHeld2
    clear hHeld2
    try simp only [Act.put, List.getElem_toArray, List.getElem_cons_succ, List.getElem_cons_zero, List.setIfInBounds_toArray, List.set_cons_zero, List.set_cons_succ]
    refine r1 (i := 11) rfl (fun K hK => ?_)
    go_simp
    (with_reducible refine (HC.out _ _ _ hHeld HL.out).mono ?_)
    rintro e wz ⟨rfl, hb1⟩
    go_wp2_with fail
    refine hK.out _ _ (bl_trans hHeld hb1) (fun hHeld2 => ?_)
    clear hK K hHeld
    have hHeld := hHeld2
    clear hHeld2
    try simp only [Act.put, List.getElem_toArray, List.getElem_cons_succ, List.getElem_cons_zero, List.setIfInBounds_toArray, List.set_cons_zero, List.set_cons_succ]
    refine wpAnyH_take (i := 12) (v := ?_) rfl (by kernel_rfl) (by kernel_rfl) (by kernel_rfl) (fun _ _ _ h => h) (Or.inl ⟨by rfl, ?_⟩) (by assumption) ?_
    rotate_left
    · intro Wq hSw
      clear hSw
      go_simp
      all_goals (with_reducible rfl)
    try simp only [Act.put, List.getElem_toArray, List.getElem_cons_succ, List.getElem_cons_zero, List.setIfInBounds_toArray, List.set_cons_zero, List.set_cons_succ]
    refine wpAnyH_take (i := 13) (v := ?_) rfl (by kernel_rfl) (by kernel_rfl) (by kernel_rfl) (fun _ _ _ h => h) (Or.inl ⟨by rfl, ?_⟩) (by assumption) ?_
    rotate_left
    · intro Wq hSw
      clear hSw
      go_simp
      all_goals (with_reducible rfl)
    try simp only [Act.put, List.getElem_toArray, List.getElem_cons_succ, List.getElem_cons_zero, List.setIfInBounds_toArray, List.set_cons_zero, List.set_cons_succ]
    refine wpAnyH_take (i := 14) (v := ?_) rfl (by kernel_rfl) (by kernel_rfl) (by kernel_rfl) (fun _ _ _ h => h) (Or.inl ⟨by rfl, ?_⟩) (by assumption) ?_
    rotate_left
    · intro Wq hSw
      clear hSw
      go_simp
      all_goals (with_reducible rfl)
    try simp only [Act.put, List.getElem_toArray, List.getElem_cons_succ, List.getElem_cons_zero, List.setIfInBounds_toArray, List.set_cons_zero, List.set_cons_succ]
    refine wpAnyH_take (i := 15) (v := ?_) rfl (by kernel_rfl) (by kernel_rfl) (by kernel_rfl) (fun _ _ _ h => h) (Or.inl ⟨by rfl, ?_⟩) (by assumption) ?_
    rotate_left
    · intro Wq hSw
      clear hSw
      go_simp
      all_goals (with_reducible rfl)
    try simp only [Act.put, List.getElem_toArray, List.getElem_cons_succ, List.getElem_cons_zero, List.setIfInBounds_toArray, List.set_cons_zero, List.set_cons_succ]
    refine wpAnyH_take (i := 16) (v := ?_) rfl (by kernel_rfl) (by kernel_rfl) (by kernel_rfl) (fun _ _ _ h => h) (Or.inl ⟨by rfl, ?_⟩) (by assumption) ?_
    rotate_left
    · intro Wq hSw
      clear hSw
      go_simp
      all_goals (with_reducible rfl)
    try simp only [Act.put, List.getElem_toArray, List.getElem_cons_succ, List.getElem_cons_zero, List.setIfInBounds_toArray, List.set_cons_zero, List.set_cons_succ]
    refine wpAnyH_done (by kernel_rfl) ?_ _
    go_wp2_with fail
    go_meet
    case rel => exact ⟨rfl, rfl, hHeld⟩
  case rest =>
  obtain ⟨rfl, rfl, hbc⟩ := hcut
  replace HB := Lib.hid (bl_trans HB.out hbc)
  replace HL9 := Lib.hid (And.intro (HL9.out.1.below hbc) (And.intro ((hbc.cell (cell_lt HL9.out.2.1)).trans HL9.out.2.1) ((hbc.cell (cell_lt HL9.out.2.2)).trans HL9.out.2.2)))
  clear hbc HL8
  go_upto_region 10 with (fail)
  obtain ⟨WC9, eW⟩ : ∃ W, W = wc := ⟨_, rfl⟩
  subst eW
  go_cut [12, 13] (fun x y W => x = .int .i64 n0 ∧ y = .int .i64 e0 ∧ Below WC9.heap.size WC9 W)
  case first =>
    have HC : Hid (∀ al cl W, Below WC9.heap.size WC9 W → PtRow W al (ringL l.length) → Calls Try.prog 14 #[.slice (some ⟨g9, o9, none⟩) l.length cc9, .slice al (ringL l.length).length cl, .agg #[.int .i64 q9.x, .int .i64 q9.y]] W (Gives (.tuple #[.int .i64 n0, .int .i64 e0]) W)) := fun al cl W h hL =>
      at9_p (l.map (chgF true)) (ringL l.length) q9 HM3b.out _ al cc9 cl _ _ W (HL9.out.1.below h) hL HLL.out (by rw [List.length_map]) rfl
    refine wp_region_held_drew (S := fun V => Below WC9.heap.size WC9 V) (by kernel_rfl) ?_ (fun hHeld => ?_)
    · exact bel_drew WC9
    revert hHeld
    generalize World.drew _ = W1
    intro hHeld 
    refine wpAnyH_take (i := 0) (v := ?_) rfl (by kernel_rfl) (by kernel_rfl) (by kernel_rfl) (fun _ _ _ h => h) (Or.inl ⟨by rfl, ?_⟩) (by assumption) ?_
    rotate_left
    · intro Wq hSw
      clear hSw
      go_simp
      all_goals (with_reducible rfl)
    try simp only [Act.put, List.getElem_toArray, List.getElem_cons_zero, List.setIfInBounds_toArray, List.set_cons_zero, List.set_cons_succ]
    refine wpAnyH_take (i := 1) (v := ?_) rfl (by kernel_rfl) (by kernel_rfl) (by kernel_rfl) (fun _ _ _ h => h) (Or.inl ⟨by rfl, ?_⟩) (by assumption) ?_
    rotate_left
    · intro Wq hSw
      clear hSw
      go_simp
      all_goals (with_reducible rfl)
    try simp only [Act.put, List.getElem_toArray, List.getElem_cons_succ, List.getElem_cons_zero, List.setIfInBounds_toArray, List.set_cons_zero, List.set_cons_succ]
    refine wpAnyH_take (i := 2) (v := ?_) rfl (by kernel_rfl) (by kernel_rfl) (by kernel_rfl) (fun _ _ _ h => h) (Or.inl ⟨by rfl, ?_⟩) (by assumption) ?_
    rotate_left
    · intro Wq hSw
      clear hSw
      go_simp
      all_goals (with_reducible rfl)
    try simp only [Act.put, List.getElem_toArray, List.getElem_cons_succ, List.getElem_cons_zero, List.setIfInBounds_toArray, List.set_cons_zero, List.set_cons_succ]
    refine wpAnyH_take (i := 3) (v := ?_) rfl (by kernel_rfl) (by kernel_rfl) (by kernel_rfl) (fun _ _ _ h => h) (Or.inl ⟨by rfl, ?_⟩) (by assumption) ?_
    rotate_left
    · intro Wq hSw
      have b5 : ((l.length : Int) ≤ (cc9 : Int)) = True := eq_true (by omega)
      have d5 : (l.length ≤ cc9) = True := eq_true (by omega)
      have c5 : ((0 : Int) ≤ (l.length : Int)) = True := eq_true (by omega)
      clear hSw
      go_simp
      all_goals (with_reducible rfl)
    try simp only [Act.put, List.getElem_toArray, List.getElem_cons_succ, List.getElem_cons_zero, List.setIfInBounds_toArray, List.set_cons_zero, List.set_cons_succ]
    refine wpAnyH_take (i := 4) (v := ?_) rfl (by kernel_rfl) (by kernel_rfl) (by kernel_rfl) (fun _ _ _ h => h) (Or.inl ⟨by rfl, ?_⟩) (by assumption) ?_
    rotate_left
    · intro Wq hSw
      clear hSw
      go_simp
      all_goals (with_reducible rfl)
    try simp only [Act.put, List.getElem_toArray, List.getElem_cons_succ, List.getElem_cons_zero, List.setIfInBounds_toArray, List.set_cons_zero, List.set_cons_succ]
    refine wpAnyH_take (i := 6) (v := ?_) rfl (by kernel_rfl) (by kernel_rfl) (by kernel_rfl) (fun _ _ _ h => h) (Or.inl ⟨by rfl, ?_⟩) (by assumption) ?_
    rotate_left
    · intro Wq hSw
      clear hSw
      go_simp
      all_goals (with_reducible rfl)
    try simp only [Act.put, List.getElem_toArray, List.getElem_cons_succ, List.getElem_cons_zero, List.setIfInBounds_toArray, List.set_cons_zero, List.set_cons_succ]
    refine wpAnyH_take (i := 7) (v := ?_) rfl (by kernel_rfl) (by kernel_rfl) (by kernel_rfl) (fun _ _ _ h => h) (Or.inl ⟨by rfl, ?_⟩) (by assumption) ?_
    rotate_left
    · intro Wq hSw
      clear hSw
      go_simp
      all_goals (with_reducible rfl)
    try simp only [Act.put, List.getElem_toArray, List.getElem_cons_succ, List.getElem_cons_zero, List.setIfInBounds_toArray, List.set_cons_zero, List.set_cons_succ]
    refine wpAnyH_take (i := 8) (v := ?_) rfl (by kernel_rfl) (by kernel_rfl) (by kernel_rfl) (fun _ _ _ h => h) (Or.inl ⟨by rfl, ?_⟩) (by assumption) ?_
    rotate_left
    · intro Wq hSw
      clear hSw
      go_simp
      all_goals (with_reducible rfl)
    try simp only [Act.put, List.getElem_toArray, List.getElem_cons_succ, List.getElem_cons_zero, List.setIfInBounds_toArray, List.set_cons_zero, List.set_cons_succ]
    refine wpAnyH_take (i := 9) (v := ?_) rfl (by kernel_rfl) (by kernel_rfl) (by kernel_rfl) (fun _ _ _ h => h) (Or.inl ⟨by rfl, ?_⟩) (by assumption) ?_
    rotate_left
    · intro Wq hSw
      have b1 : ((l.length : Int) < (l.length : Int) + 1) = True := eq_true (by omega)
      have d1 : (l.length < l.length + 1) = True := eq_true (by omega)
      have c1 : ((0 : Int) ≤ (l.length : Int)) = True := eq_true (by omega)
      clear hSw
      go_simp
      all_goals (with_reducible rfl)
    try simp only [Act.put, List.getElem_toArray, List.getElem_cons_succ, List.getElem_cons_zero, List.setIfInBounds_toArray, List.set_cons_zero, List.set_cons_succ]
    refine wpAnyH_take (i := 10) (v := ?_) rfl (by kernel_rfl) (by kernel_rfl) (by kernel_rfl) (fun _ _ _ h => h) (Or.inl ⟨by rfl, ?_⟩) (by assumption) ?_
    rotate_left
    · intro Wq hSw
      have k0 := (hSw.cell (cell_lt HL9.out.2.1)).trans HL9.out.2.1
      have k1 := (hSw.cell (cell_lt HL9.out.2.2)).trans HL9.out.2.2
      clear hSw
      go_simp
      all_goals (with_reducible rfl)
    try simp only [Act.put, List.getElem_toArray, List.getElem_cons_succ, List.getElem_cons_zero, List.setIfInBounds_toArray, List.set_cons_zero, List.set_cons_succ]
    refine r1 (i := 5) rfl (fun K hK => ?_)
    go_simp
    (with_reducible refine (HRi.out _ _ _).mono ?_)
    rintro e w2 ⟨v2, rfl, hO⟩
    have hb1 := hO.hb
    obtain ⟨al, cl, rfl, -, hL, -⟩ := hO.pts
    have HL := Lib.hid hL
    clear hO hL
    go_wp2_with fail
    refine hK.out _ _ (bl_trans hHeld hb1) (fun hHeld2 => ?_)
    clear hK K hHeld
    have hHeld := hHeld2
    clear hHeld2
    try simp only [Act.put, List.getElem_toArray, List.getElem_cons_succ, List.getElem_cons_zero, List.setIfInBounds_toArray, List.set_cons_zero, List.set_cons_succ]
    refine r1 (i := 11) rfl (fun K hK => ?_)
    go_simp
    (with_reducible refine (HC.out _ _ _ hHeld HL.out).mono ?_)
    rintro e wz ⟨rfl, hb1⟩
    go_wp2_with fail
    refine hK.out _ _ (bl_trans hHeld hb1) (fun hHeld2 => ?_)
    clear hK K hHeld
    have hHeld := hHeld2
    clear hHeld2
    try simp only [Act.put, List.getElem_toArray, List.getElem_cons_succ, List.getElem_cons_zero, List.setIfInBounds_toArray, List.set_cons_zero, List.set_cons_succ]
    refine wpAnyH_take (i := 12) (v := ?_) rfl (by kernel_rfl) (by kernel_rfl) (by kernel_rfl) (fun _ _ _ h => h) (Or.inl ⟨by rfl, ?_⟩) (by assumption) ?_
    rotate_left
    · intro Wq hSw
      clear hSw
      go_simp
      all_goals (with_reducible rfl)
    try simp only [Act.put, List.getElem_toArray, List.getElem_cons_succ, List.getElem_cons_zero, List.setIfInBounds_toArray, List.set_cons_zero, List.set_cons_succ]
    refine wpAnyH_take (i := 13) (v := ?_) rfl (by kernel_rfl) (by kernel_rfl) (by kernel_rfl) (fun _ _ _ h => h) (Or.inl ⟨by rfl, ?_⟩) (by assumption) ?_
    rotate_left
    · intro Wq hSw
      clear hSw
      go_simp
      all_goals (with_reducible rfl)
    try simp only [Act.put, List.getElem_toArray, List.getElem_cons_succ, List.getElem_cons_zero, List.setIfInBounds_toArray, List.set_cons_zero, List.set_cons_succ]
    refine wpAnyH_take (i := 14) (v := ?_) rfl (by kernel_rfl) (by kernel_rfl) (by kernel_rfl) (fun _ _ _ h => h) (Or.inl ⟨by rfl, ?_⟩) (by assumption) ?_
    rotate_left
    · intro Wq hSw
      clear hSw
      go_simp
      all_goals (with_reducible rfl)
    try simp only [Act.put, List.getElem_toArray, List.getElem_cons_succ, List.getElem_cons_zero, List.setIfInBounds_toArray, List.set_cons_zero, List.set_cons_succ]
    refine wpAnyH_take (i := 15) (v := ?_) rfl (by kernel_rfl) (by kernel_rfl) (by kernel_rfl) (fun _ _ _ h => h) (Or.inl ⟨by rfl, ?_⟩) (by assumption) ?_
    rotate_left
    · intro Wq hSw
      clear hSw
      go_simp
      all_goals (with_reducible rfl)
    try simp only [Act.put, List.getElem_toArray, List.getElem_cons_succ, List.getElem_cons_zero, List.setIfInBounds_toArray, List.set_cons_zero, List.set_cons_succ]
    refine wpAnyH_take (i := 16) (v := ?_) rfl (by kernel_rfl) (by kernel_rfl) (by kernel_rfl) (fun _ _ _ h => h) (Or.inl ⟨by rfl, ?_⟩) (by assumption) ?_
    rotate_left
    · intro Wq hSw
      clear hSw
      go_simp
      all_goals (with_reducible rfl)
    try simp only [Act.put, List.getElem_toArray, List.getElem_cons_succ, List.getElem_cons_zero, List.setIfInBounds_toArray, List.set_cons_zero, List.set_cons_succ]
    refine wpAnyH_done (by kernel_rfl) ?_ _
    go_wp2_with fail
    go_meet
    case rel => exact ⟨rfl, rfl, hHeld⟩
  case rest =>
  obtain ⟨rfl, rfl, hbc⟩ := hcut
  replace HB := Lib.hid (bl_trans HB.out hbc)
  clear hbc HL9
  go_wp2_with fail
  (with_reducible refine (KN.out _).mono ?_); rintro e wk ⟨rfl, hbk⟩
  have HZ := Lib.hid (bl_trans HB.out hbk)
  clear hbk
  go_wp2_with fail
  go_ret
  exact ⟨rfl, HZ.out⟩
end Go.Proofs.Ytkidphekfnmhhaa
