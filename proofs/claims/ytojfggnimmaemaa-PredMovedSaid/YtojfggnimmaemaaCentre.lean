/-
  Contract of pred.Centre.
-/
import Derived.Test.YtojfggnimmaemaaShifts
import Derived.Test.YtojfggnimmaemaaGeoAll
namespace Go.Proofs.Ytojfggnimmaemaa
open Go.RowKit

/-- three places that turn left, in this order or in the other one, and where their centre is -/
structure Left (a b c : Pt) (p : Pt) (e : Int) : Prop where
  fa : fitB a = true
  fb : fitB b = true
  fc : fitB c = true
  hz : 0 < crossZ a b c
  hp : p = ctrP a b c
  he : e = ctrE a b c
theorem orient_fit {a b c : Pt} (h : orientZ a b c ≠ 0) : fitB a = true ∧ fitB b = true ∧ fitB c = true ∧ orientZ a b c = sg3 (crossZ a b c) := by
  by_cases k : (fitB a && fitB b && fitB c) = true
  · obtain ⟨fa, fb, fc⟩ := and3 k
    exact ⟨fa, fb, fc, by unfold orientZ; rw [if_pos k]⟩
  · exact absurd (by unfold orientZ; rw [if_neg k]) h
theorem left_pos {a b c : Pt} (h : 0 < orientZ a b c) : Left a b c (centreP a b c) (centreE a b c) := by
  obtain ⟨fa, fb, fc, e⟩ := orient_fit (show orientZ a b c ≠ 0 by omega)
  refine ⟨fa, fb, fc, ?_, ?_, ?_⟩
  · rw [e] at h
    rcases sg3_vals (crossZ a b c) with ⟨k, e⟩ | ⟨k, e⟩ | ⟨k, e⟩ <;> omega
  · unfold centreP; rw [if_neg (by omega), if_neg (by omega)]
  · unfold centreE; rw [if_neg (by omega), if_neg (by omega)]
theorem left_neg {a b c : Pt} (h : orientZ a b c < 0) : Left a c b (centreP a b c) (centreE a b c) := by
  obtain ⟨fa, fb, fc, e⟩ := orient_fit (show orientZ a b c ≠ 0 by omega)
  refine ⟨fa, fc, fb, ?_, ?_, ?_⟩
  · rw [e] at h
    have : crossZ a c b = - crossZ a b c := by unfold crossZ; grind
    rcases sg3_vals (crossZ a b c) with ⟨k, e⟩ | ⟨k, e⟩ | ⟨k, e⟩ <;> omega
  · unfold centreP; rw [if_neg (by omega), if_pos h]
  · unfold centreE; rw [if_neg (by omega), if_pos h]
theorem isI_fit {x y : Int} (h : isI x = false ∨ isI y = false) : fitB ⟨x, y⟩ = false := by
  refine fitB_no ?_
  unfold Pt.fits isI at *
  simp only [Bool.and_eq_false_iff, decide_eq_false_iff_not] at h
  dsimp only
  omega

set_option maxHeartbeats 8000000 in
set_option maxRecDepth 100000 in
theorem centre_l (a b c : Pt) (w : World) : Calls Try.prog 32 #[.agg #[.int .i64 a.x, .int .i64 a.y], .agg #[.int .i64 b.x, .int .i64 b.y], .agg #[.int .i64 c.x, .int .i64 c.y]] w (Gives (.tuple #[.agg #[.int .i64 (centreP a b c).x, .int .i64 (centreP a b c).y], .int .i64 (centreE a b c)]) w) := by
  have HL : Hid (0 < orientZ a b c → Left a b c (centreP a b c) (centreE a b c)) := left_pos
  have HN : Hid (orientZ a b c < 0 → Left a c b (centreP a b c) (centreE a b c)) := left_neg
  have H0 : Hid (orientZ a b c = 0 → centreP a b c = ⟨0, 0⟩ ∧ centreE a b c = 2) := fun h => ⟨by unfold centreP; rw [if_pos h], by unfold centreE; rw [if_pos h]⟩
  have hv := orient_vals a b c
  have CO := hi (fun W => orient_l a b c W)
  generalize centreP a b c = rp at *
  generalize centreE a b c = re at *
  generalize orientZ a b c = t at *
  go_enter Try.func32, Try.ntmps32
  go_upto_region 1 with (fail)
  refine wp_abs (fun W => Var W (w.heap.size) [.int .i64 a.x, .int .i64 a.y] ∧ Var W (w.heap.size + 1) [.int .i64 b.x, .int .i64 b.y] ∧ Var W (w.heap.size + 1 + 1) [.int .i64 c.x, .int .i64 c.y] ∧ Slot2 W (w.heap.size + 1 + 1 + 1) ∧ Grew w 4 W) ?_ ?_
  · exact ⟨(var2_new _ _ _ _ _ rfl).below (bl_alloc (bl_alloc (bl_one _ _) _) _), (var2_new _ _ _ _ _ (by simp)).below (bl_alloc (bl_one _ _) _), (var2_new _ _ _ _ _ (by simp)).below (bl_one _ _), ⟨_, _, var2_new _ _ _ _ _ (by simp)⟩, by repeat (first | (with_reducible exact Below.refl _ _) | (with_reducible refine bl_alloc ?_ _) | (with_reducible refine Below.drew ?_) | (with_reducible refine below_drewN' ?_ _) | ((with_reducible refine bl_set ?_ ?_ _); (rotate_left; (dsimp only; omega)))), by simp⟩
  rintro W0 hS0
  have HS0 := hi hS0
  obtain ⟨c0, c1⟩ := hS0.1.two
  obtain ⟨c2, c3⟩ := hS0.2.1.two
  obtain ⟨c4, c5⟩ := hS0.2.2.1.two
  clear hS0
  go_wp2_with fail
  (with_reducible refine (CO.out _).mono ?_); rintro e w1 ⟨rfl, hb1⟩
  replace HS0 : Hid ((fun W => Var W (w.heap.size) [.int .i64 a.x, .int .i64 a.y] ∧ Var W (w.heap.size + 1) [.int .i64 b.x, .int .i64 b.y] ∧ Var W (w.heap.size + 1 + 1) [.int .i64 c.x, .int .i64 c.y] ∧ Slot2 W (w.heap.size + 1 + 1 + 1) ∧ Grew w 4 W) w1) := ⟨HS0.out.1.below hb1, HS0.out.2.1.below hb1, HS0.out.2.2.1.below hb1, HS0.out.2.2.2.1.below hb1, HS0.out.2.2.2.2.below hb1⟩
  clear c0 c1 c2 c3 c4 c5 hb1 CO
  by_cases ht0 : t = 0
  · obtain ⟨e1, e2⟩ := H0.out ht0
    subst ht0 e1 e2
    obtain ⟨r0, r1, vr⟩ := HS0.out.2.2.2.1
    obtain ⟨k0, k1⟩ := vr.two
    obtain ⟨f0, f1⟩ := vr.free2
    have HG := hi HS0.out.2.2.2.2
    clear vr HS0 H0 HL HN hv
    go_wp2
    refine bodyPost_ret (v := .tuple #[.agg #[.int .i64 0, .int .i64 0], .int .i64 2]) (by simp [results, Try.results32, go_sem, k0, k1]; done) rfl ⟨rfl, ?_⟩
    repeat (first | (with_reducible exact Below.refl _ _) | (with_reducible refine bl_alloc ?_ _) | (with_reducible refine Below.drew ?_) | (with_reducible refine below_drewN' ?_ _) | ((with_reducible refine bl_set ?_ ?_ _); (rotate_left; (dsimp only; omega))))
    exact HG.out.hb
  go_upto_if 27 with (fail)
  go_cut [5] (fun p5 W => p5 = .pointer (some ⟨w.heap.size + 1 + 1, 0, none⟩) ∧ ∃ b2 c2 : Pt, Left a b2 c2 rp re ∧ (fun W => Var W (w.heap.size) [.int .i64 a.x, .int .i64 a.y] ∧ Var W (w.heap.size + 1) [.int .i64 b2.x, .int .i64 b2.y] ∧ Var W (w.heap.size + 1 + 1) [.int .i64 c2.x, .int .i64 c2.y] ∧ Slot2 W (w.heap.size + 1 + 1 + 1) ∧ Grew w 4 W) W)
  case first =>
    obtain ⟨c2, c3⟩ := HS0.out.2.1.two
    obtain ⟨c4, c5⟩ := HS0.out.2.2.1.two
    obtain ⟨f2, f3⟩ := HS0.out.2.1.free2
    obtain ⟨f4, f5⟩ := HS0.out.2.2.1.free2
    rcases hv with rfl | rfl | rfl
    · have HN := hi (HN.out (by decide))
      clear H0 HL
      go_wp2_with fail
      go_meet
      case rel => exact ⟨rfl, c, b, HN.out, ((((HS0.out.1.far (by dsimp only; omega) _).far (by dsimp only; omega) _).far (by dsimp only; omega) _).far (by dsimp only; omega) _), ((HS0.out.2.1.set2 _ _).far (by dsimp only; omega) _).far (by dsimp only; omega) _, ((HS0.out.2.2.1.far (by dsimp only; omega) _).far (by dsimp only; omega) _).set2 _ _, ((((HS0.out.2.2.2.1.far (by dsimp only; omega) _).far (by dsimp only; omega) _).far (by dsimp only; omega) _).far (by dsimp only; omega) _), ((((HS0.out.2.2.2.2.set (by dsimp only; omega) _).set (by dsimp only; omega) _).set (by dsimp only; omega) _).set (by dsimp only; omega) _)⟩
    · exact absurd rfl ht0
    · have HL := hi (HL.out (by decide))
      clear H0 HN
      go_wp2_with fail
      go_meet
      case rel => exact ⟨rfl, b, c, HL.out, HS0.out⟩
  case rest =>
  obtain ⟨rfl, b', c', hL, hS0⟩ := hcut
  clear HS0 HL HN H0 hv ht0
  have HS0 := hi hS0
  clear hS0
  obtain ⟨fa, fb, fc, hz, hp, he⟩ := hL
  have Rab := hi (dif_r fa fb)
  have Rac := hi (dif_r fa fc)
  have AU := dif_ab fa fb
  have AV := dif_ab fa fc
  have AD := cross_b fa fb fc
  have hK : Ab a.x 4294967296 ∧ Ab a.y 4294967296 := by have := fitB_iff.1 fa; unfold Pt.fits at this; unfold Ab; omega
  have HP : Hid (rp = ctrP a b' c' ∧ re = ctrE a b' c') := ⟨hp, he⟩
  clear fa fb fc hp he
  go_upto_region 6 with (fail)
  go_cut [9, 10] (fun pu pv W => ∃ g9 g10 : Nat, pu = .pointer (some ⟨g9, 0, none⟩) ∧ pv = .pointer (some ⟨g10, 0, none⟩) ∧ (w.heap.size + 4 ≤ g9 ∧ w.heap.size + 4 ≤ g10 ∧ g9 ≠ g10) ∧ Var W (w.heap.size) [.int .i64 a.x, .int .i64 a.y] ∧ Var W (g9) [.int .i64 (b'.x - a.x), .int .i64 (b'.y - a.y)] ∧ Var W (g10) [.int .i64 (c'.x - a.x), .int .i64 (c'.y - a.y)] ∧ Slot2 W (w.heap.size + 1 + 1 + 1) ∧ Grew w 4 W)
  case first =>
    clear HP AU AV AD hK hz
    refine wp_region_held_drew (S := fun W => Var W (w.heap.size) [.int .i64 a.x, .int .i64 a.y] ∧ Var W (w.heap.size + 1) [.int .i64 b'.x, .int .i64 b'.y] ∧ Var W (w.heap.size + 1 + 1) [.int .i64 c'.x, .int .i64 c'.y] ∧ Slot2 W (w.heap.size + 1 + 1 + 1) ∧ Grew w 4 W) (by kernel_rfl) ?_ (fun q1 => ?_)
    · exact ⟨HS0.out.1.below (bel_drew _), HS0.out.2.1.below (bel_drew _), HS0.out.2.2.1.below (bel_drew _), HS0.out.2.2.2.1.below (bel_drew _), HS0.out.2.2.2.2.below (bel_drew _)⟩
    revert q1
    generalize World.drew _ = W1
    intro q1
    refine tk (i := 0) (v := ?_) rfl (Or.inl ⟨by rfl, ?_⟩) ?_
    rotate_left
    · intro Wq hSw
      obtain ⟨k0, k1⟩ := (id hSw).1.two
      clear hSw
      go_simp
      all_goals (with_reducible rfl)
    try simp only [Act.put, x2, x4, x5, x6, x7]
    refine tk (i := 1) (v := ?_) rfl (Or.inl ⟨by rfl, ?_⟩) ?_
    rotate_left
    · intro Wq hSw
      obtain ⟨k0, k1⟩ := (id hSw).2.1.two
      clear hSw
      go_simp
      all_goals (with_reducible rfl)
    try simp only [Act.put, x2, x3, x4, x5, x6, x7]
    refine tk (i := 3) (v := ?_) rfl (Or.inl ⟨by rfl, ?_⟩) ?_
    rotate_left
    · intro Wq hSw
      obtain ⟨k0, k1⟩ := (id hSw).1.two
      clear hSw
      go_simp
      all_goals (with_reducible rfl)
    try simp only [Act.put, x2, x3, x4, x5, x6, x7]
    refine tk (i := 4) (v := ?_) rfl (Or.inl ⟨by rfl, ?_⟩) ?_
    rotate_left
    · intro Wq hSw
      obtain ⟨k0, k1⟩ := (id hSw).2.2.1.two
      clear hSw
      go_simp
      all_goals (with_reducible rfl)
    try simp only [Act.put, x2, x3, x4, x5, x6, x7]
    refine wpAnyH_named (fun ops0 Qx a0 S0 e1 e2 e3 e4 => ?_)
    obtain ⟨v32_, f32_⟩ : ∃ v : Value, .agg #[.int .i64 (b'.x - a.x), .int .i64 (b'.y - a.y)] = v := ⟨_, rfl⟩
    obtain ⟨v35_, f35_⟩ : ∃ v : Value, .agg #[.int .i64 (c'.x - a.x), .int .i64 (c'.y - a.y)] = v := ⟨_, rfl⟩
    have s0_ : Hid (∀ (W : World) (gHU : Nat) (gHV : Nat), S0 W → Hid (Var W gHU [.int .i64 0, .int .i64 0]) → w.heap.size + 4 ≤ gHU → Hid (Var W gHV [.int .i64 0, .int .i64 0]) → w.heap.size + 4 ≤ gHV → gHU ≠ gHV → wpAnyH Try.prog .any ops0 Qx S0 2 #[true, true, true, true, true, true, true, true, false, false] (Act.put (Act.put (Act.put (Act.put a0 (some 32) v32_) (some 35) v35_) (some 9) (.pointer (some ⟨gHU, 0, none⟩))) (some 10) (.pointer (some ⟨gHV, 0, none⟩))) W) := by
      refine hi ?_
      intro W1 gHU gHV q1 HU geHU HV geHV neHUHV
      cases e1; cases e2; cases e3; cases e4; cases f32_; cases f35_
      try simp only [Act.put, x5, x6, x7]
      refine r1 (i := 8) rfl (fun K hK => ?_)
      obtain ⟨k0, k1⟩ := HU.out.two
      obtain ⟨f0, f1⟩ := HU.out.free2
      go_simp
      refine hK.out _ _ ?_ (fun q2 => ?_)
      · exact ⟨(((id q1).1.far (by dsimp only; omega) _).far (by dsimp only; omega) _), (((id q1).2.1.far (by dsimp only; omega) _).far (by dsimp only; omega) _), (((id q1).2.2.1.far (by dsimp only; omega) _).far (by dsimp only; omega) _), (((id q1).2.2.2.1.far (by dsimp only; omega) _).far (by dsimp only; omega) _), (((id q1).2.2.2.2.set (by dsimp only; omega) _).set (by dsimp only; omega) _)⟩
      replace HV := hi ((id q2).2.2.2.2.far2 HV.out (by dsimp only; omega) (by dsimp only; omega))
      replace HU := hi (HU.out.set2 (.int .i64 (b'.x - a.x)) (.int .i64 (b'.y - a.y)))
      clear hK K q1 k0 k1 f0 f1
      have q1 := q2
      clear q2
      try simp only [x5, x6, x7]
      refine r1 (i := 9) rfl (fun K hK => ?_)
      obtain ⟨k0, k1⟩ := HV.out.two
      obtain ⟨f0, f1⟩ := HV.out.free2
      go_simp
      refine hK.out _ _ ?_ (fun q2 => ?_)
      · exact ⟨(((id q1).1.far (by dsimp only; omega) _).far (by dsimp only; omega) _), (((id q1).2.1.far (by dsimp only; omega) _).far (by dsimp only; omega) _), (((id q1).2.2.1.far (by dsimp only; omega) _).far (by dsimp only; omega) _), (((id q1).2.2.2.1.far (by dsimp only; omega) _).far (by dsimp only; omega) _), (((id q1).2.2.2.2.set (by dsimp only; omega) _).set (by dsimp only; omega) _)⟩
      replace HU := hi ((id q2).2.2.2.2.far2 HU.out (by dsimp only; omega) (by dsimp only; omega))
      replace HV := hi (HV.out.set2 (.int .i64 (c'.x - a.x)) (.int .i64 (c'.y - a.y)))
      clear hK K q1 k0 k1 f0 f1
      have q1 := q2
      clear q2
      try simp only [x5, x6, x7]
      refine wpAnyH_done (by kernel_rfl) ?_ _
      go_wp2_with fail
      go_meet
      case rel => exact ⟨gHU, gHV, rfl, rfl, ⟨geHU, geHV, neHUHV⟩, (id q1).1, HU.out, HV.out, (id q1).2.2.2.1, (id q1).2.2.2.2⟩
    have s1_ : Hid (∀ (W : World) (gHU : Nat), S0 W → Hid (Var W gHU [.int .i64 0, .int .i64 0]) → w.heap.size + 4 ≤ gHU → wpAnyH Try.prog .any ops0 Qx S0 3 #[true, true, true, true, true, true, true, false, false, false] (Act.put (Act.put (Act.put a0 (some 32) v32_) (some 35) v35_) (some 9) (.pointer (some ⟨gHU, 0, none⟩))) W) := by
      refine hi ?_
      intro W1 gHU q1 HU geHU
      cases e1; cases e2; cases e3; cases e4; cases f32_; cases f35_
      try simp only [Act.put, x5, x6, x7]
      refine r1 (i := 7) rfl (fun K hK => ?_)
      · go_simp
        refine hK.out _ _ ?_ (fun q2 => ?_)
        · exact ⟨(id q1).1.below (bl_one _ _), (id q1).2.1.below (bl_one _ _), (id q1).2.2.1.below (bl_one _ _), (id q1).2.2.2.1.below (bl_one _ _), (id q1).2.2.2.2.below (bl_one _ _)⟩
        refine wpAnyH_as (s0_.out _ gHU _ q2 (hi (HU.out.below (al_of (id q2).2.2.2.2 (bl_one _ _)))) geHU (hi ((id q1).2.2.2.2.var2 (.int .i64 0) (.int .i64 0) 23)) (id q1).2.2.2.2.sz (Nat.ne_of_lt HU.out.lt)) (by kernel_rfl) (by kernel_rfl) (by kernel_rfl)
    have s2_ : Hid (∀ (W : World) (gHV : Nat), S0 W → Hid (Var W gHV [.int .i64 0, .int .i64 0]) → w.heap.size + 4 ≤ gHV → wpAnyH Try.prog .any ops0 Qx S0 3 #[true, true, true, true, true, true, false, true, false, false] (Act.put (Act.put (Act.put a0 (some 32) v32_) (some 35) v35_) (some 10) (.pointer (some ⟨gHV, 0, none⟩))) W) := by
      clear s1_
      refine hi ?_
      intro W1 gHV q1 HV geHV
      cases e1; cases e2; cases e3; cases e4; cases f32_; cases f35_
      try simp only [Act.put, x5, x6, x7]
      refine r1 (i := 6) rfl (fun K hK => ?_)
      · go_simp
        refine hK.out _ _ ?_ (fun q2 => ?_)
        · exact ⟨(id q1).1.below (bl_one _ _), (id q1).2.1.below (bl_one _ _), (id q1).2.2.1.below (bl_one _ _), (id q1).2.2.2.1.below (bl_one _ _), (id q1).2.2.2.2.below (bl_one _ _)⟩
        refine wpAnyH_as (s0_.out _ _ gHV q2 (hi ((id q1).2.2.2.2.var2 (.int .i64 0) (.int .i64 0) 23)) (id q1).2.2.2.2.sz (hi (HV.out.below (al_of (id q2).2.2.2.2 (bl_one _ _)))) geHV (Nat.ne_of_gt HV.out.lt)) (by kernel_rfl) (by kernel_rfl) (by kernel_rfl)
    have s3_ : Hid (∀ (W : World), S0 W → wpAnyH Try.prog .any ops0 Qx S0 4 #[true, true, true, true, true, true, false, false, false, false] (Act.put (Act.put a0 (some 32) v32_) (some 35) v35_) W) := by
      clear s0_
      refine hi ?_
      intro W1  q1 
      cases e1; cases e2; cases e3; cases e4; cases f32_; cases f35_
      try simp only [Act.put, x5, x6, x7]
      refine r2 (i := 6) (j := 7) rfl (fun K hK => ?_) rfl (fun K hK => ?_)
      · go_simp
        refine hK.out _ _ ?_ (fun q2 => ?_)
        · exact ⟨(id q1).1.below (bl_one _ _), (id q1).2.1.below (bl_one _ _), (id q1).2.2.1.below (bl_one _ _), (id q1).2.2.2.1.below (bl_one _ _), (id q1).2.2.2.2.below (bl_one _ _)⟩
        refine wpAnyH_as (s1_.out _ _ q2 (hi ((id q1).2.2.2.2.var2 (.int .i64 0) (.int .i64 0) 23)) (id q1).2.2.2.2.sz) (by kernel_rfl) (by kernel_rfl) (by kernel_rfl)
      · go_simp
        refine hK.out _ _ ?_ (fun q2 => ?_)
        · exact ⟨(id q1).1.below (bl_one _ _), (id q1).2.1.below (bl_one _ _), (id q1).2.2.1.below (bl_one _ _), (id q1).2.2.2.1.below (bl_one _ _), (id q1).2.2.2.2.below (bl_one _ _)⟩
        refine wpAnyH_as (s2_.out _ _ q2 (hi ((id q1).2.2.2.2.var2 (.int .i64 0) (.int .i64 0) 23)) (id q1).2.2.2.2.sz) (by kernel_rfl) (by kernel_rfl) (by kernel_rfl)
    have s4_ : Hid (∀ (W : World) (gHU : Nat) (gHV : Nat), S0 W → Hid (Var W gHU [.int .i64 0, .int .i64 0]) → w.heap.size + 4 ≤ gHU → Hid (Var W gHV [.int .i64 0, .int .i64 0]) → w.heap.size + 4 ≤ gHV → gHU ≠ gHV → wpAnyH Try.prog .any ops0 Qx S0 3 #[true, true, true, true, true, false, true, true, false, false] (Act.put (Act.put (Act.put a0 (some 32) v32_) (some 9) (.pointer (some ⟨gHU, 0, none⟩))) (some 10) (.pointer (some ⟨gHV, 0, none⟩))) W) := by
      clear s1_ s2_ s3_
      refine hi ?_
      intro W1 gHU gHV q1 HU geHU HV geHV neHUHV
      cases e1; cases e2; cases e3; cases e4; cases f32_; cases f35_
      try simp only [Act.put, x5, x6, x7]
      refine r1 (i := 5) rfl (fun K hK => ?_)
      · go_simp
        go_at_call 56
        (with_reducible refine (way_l _ _ _ _ Rac.out.1 Rac.out.2 _).mono ?_); rintro e w1 ⟨rfl, hb1⟩
        go_wp2_with fail
        refine hK.out _ _ ?_ (fun q2 => ?_)
        · exact ⟨(id q1).1.below hb1, (id q1).2.1.below hb1, (id q1).2.2.1.below hb1, (id q1).2.2.2.1.below hb1, (id q1).2.2.2.2.below hb1⟩
        refine wpAnyH_as (s0_.out _ gHU gHV q2 (hi (HU.out.below hb1)) geHU (hi (HV.out.below hb1)) geHV neHUHV) (by kernel_rfl) (by kernel_rfl) (by kernel_rfl)
    have s5_ : Hid (∀ (W : World) (gHU : Nat), S0 W → Hid (Var W gHU [.int .i64 0, .int .i64 0]) → w.heap.size + 4 ≤ gHU → wpAnyH Try.prog .any ops0 Qx S0 4 #[true, true, true, true, true, false, true, false, false, false] (Act.put (Act.put a0 (some 32) v32_) (some 9) (.pointer (some ⟨gHU, 0, none⟩))) W) := by
      clear s0_ s2_ s3_
      refine hi ?_
      intro W1 gHU q1 HU geHU
      cases e1; cases e2; cases e3; cases e4; cases f32_; cases f35_
      try simp only [Act.put, x5, x6, x7]
      refine r2 (i := 5) (j := 7) rfl (fun K hK => ?_) rfl (fun K hK => ?_)
      · go_simp
        go_at_call 56
        (with_reducible refine (way_l _ _ _ _ Rac.out.1 Rac.out.2 _).mono ?_); rintro e w1 ⟨rfl, hb1⟩
        go_wp2_with fail
        refine hK.out _ _ ?_ (fun q2 => ?_)
        · exact ⟨(id q1).1.below hb1, (id q1).2.1.below hb1, (id q1).2.2.1.below hb1, (id q1).2.2.2.1.below hb1, (id q1).2.2.2.2.below hb1⟩
        refine wpAnyH_as (s1_.out _ gHU q2 (hi (HU.out.below hb1)) geHU) (by kernel_rfl) (by kernel_rfl) (by kernel_rfl)
      · go_simp
        refine hK.out _ _ ?_ (fun q2 => ?_)
        · exact ⟨(id q1).1.below (bl_one _ _), (id q1).2.1.below (bl_one _ _), (id q1).2.2.1.below (bl_one _ _), (id q1).2.2.2.1.below (bl_one _ _), (id q1).2.2.2.2.below (bl_one _ _)⟩
        refine wpAnyH_as (s4_.out _ gHU _ q2 (hi (HU.out.below (al_of (id q2).2.2.2.2 (bl_one _ _)))) geHU (hi ((id q1).2.2.2.2.var2 (.int .i64 0) (.int .i64 0) 23)) (id q1).2.2.2.2.sz (Nat.ne_of_lt HU.out.lt)) (by kernel_rfl) (by kernel_rfl) (by kernel_rfl)
    have s6_ : Hid (∀ (W : World) (gHV : Nat), S0 W → Hid (Var W gHV [.int .i64 0, .int .i64 0]) → w.heap.size + 4 ≤ gHV → wpAnyH Try.prog .any ops0 Qx S0 4 #[true, true, true, true, true, false, false, true, false, false] (Act.put (Act.put a0 (some 32) v32_) (some 10) (.pointer (some ⟨gHV, 0, none⟩))) W) := by
      clear s0_ s1_ s3_ s5_
      refine hi ?_
      intro W1 gHV q1 HV geHV
      cases e1; cases e2; cases e3; cases e4; cases f32_; cases f35_
      try simp only [Act.put, x5, x6, x7]
      refine r2 (i := 5) (j := 6) rfl (fun K hK => ?_) rfl (fun K hK => ?_)
      · go_simp
        go_at_call 56
        (with_reducible refine (way_l _ _ _ _ Rac.out.1 Rac.out.2 _).mono ?_); rintro e w1 ⟨rfl, hb1⟩
        go_wp2_with fail
        refine hK.out _ _ ?_ (fun q2 => ?_)
        · exact ⟨(id q1).1.below hb1, (id q1).2.1.below hb1, (id q1).2.2.1.below hb1, (id q1).2.2.2.1.below hb1, (id q1).2.2.2.2.below hb1⟩
        refine wpAnyH_as (s2_.out _ gHV q2 (hi (HV.out.below hb1)) geHV) (by kernel_rfl) (by kernel_rfl) (by kernel_rfl)
      · go_simp
        refine hK.out _ _ ?_ (fun q2 => ?_)
        · exact ⟨(id q1).1.below (bl_one _ _), (id q1).2.1.below (bl_one _ _), (id q1).2.2.1.below (bl_one _ _), (id q1).2.2.2.1.below (bl_one _ _), (id q1).2.2.2.2.below (bl_one _ _)⟩
        refine wpAnyH_as (s4_.out _ _ gHV q2 (hi ((id q1).2.2.2.2.var2 (.int .i64 0) (.int .i64 0) 23)) (id q1).2.2.2.2.sz (hi (HV.out.below (al_of (id q2).2.2.2.2 (bl_one _ _)))) geHV (Nat.ne_of_gt HV.out.lt)) (by kernel_rfl) (by kernel_rfl) (by kernel_rfl)
    have s7_ : Hid (∀ (W : World), S0 W → wpAnyH Try.prog .any ops0 Qx S0 5 #[true, true, true, true, true, false, false, false, false, false] (Act.put a0 (some 32) v32_) W) := by
      clear s0_ s1_ s2_ s4_
      refine hi ?_
      intro W1  q1 
      cases e1; cases e2; cases e3; cases e4; cases f32_; cases f35_
      try simp only [Act.put, x5, x6, x7]
      refine wpAnyH_ready (rs := [5, 6, 7]) (by kernel_rfl) (by simp) ?_
      refine (AllReadyH.cons rfl (fun K hK => ?_) (AllReadyH.cons rfl (fun K hK => ?_) (AllReadyH.cons rfl (fun K hK => ?_) AllReadyH.nil)))
      · rw [if_pos (by rfl)]
        go_simp
        go_at_call 56
        (with_reducible refine (way_l _ _ _ _ Rac.out.1 Rac.out.2 _).mono ?_); rintro e w1 ⟨rfl, hb1⟩
        go_wp2_with fail
        refine hK.out _ _ ?_ (fun q2 => ?_)
        · exact ⟨(id q1).1.below hb1, (id q1).2.1.below hb1, (id q1).2.2.1.below hb1, (id q1).2.2.2.1.below hb1, (id q1).2.2.2.2.below hb1⟩
        refine wpAnyH_as (s3_.out _ q2) (by kernel_rfl) (by kernel_rfl) (by kernel_rfl)
      · rw [if_pos (by rfl)]
        go_simp
        refine hK.out _ _ ?_ (fun q2 => ?_)
        · exact ⟨(id q1).1.below (bl_one _ _), (id q1).2.1.below (bl_one _ _), (id q1).2.2.1.below (bl_one _ _), (id q1).2.2.2.1.below (bl_one _ _), (id q1).2.2.2.2.below (bl_one _ _)⟩
        refine wpAnyH_as (s5_.out _ _ q2 (hi ((id q1).2.2.2.2.var2 (.int .i64 0) (.int .i64 0) 23)) (id q1).2.2.2.2.sz) (by kernel_rfl) (by kernel_rfl) (by kernel_rfl)
      · rw [if_pos (by rfl)]
        go_simp
        refine hK.out _ _ ?_ (fun q2 => ?_)
        · exact ⟨(id q1).1.below (bl_one _ _), (id q1).2.1.below (bl_one _ _), (id q1).2.2.1.below (bl_one _ _), (id q1).2.2.2.1.below (bl_one _ _), (id q1).2.2.2.2.below (bl_one _ _)⟩
        refine wpAnyH_as (s6_.out _ _ q2 (hi ((id q1).2.2.2.2.var2 (.int .i64 0) (.int .i64 0) 23)) (id q1).2.2.2.2.sz) (by kernel_rfl) (by kernel_rfl) (by kernel_rfl)
    have s8_ : Hid (∀ (W : World) (gHU : Nat) (gHV : Nat), S0 W → Hid (Var W gHU [.int .i64 0, .int .i64 0]) → w.heap.size + 4 ≤ gHU → Hid (Var W gHV [.int .i64 0, .int .i64 0]) → w.heap.size + 4 ≤ gHV → gHU ≠ gHV → wpAnyH Try.prog .any ops0 Qx S0 4 #[true, true, false, true, true, false, true, true, false, false] (Act.put (Act.put a0 (some 9) (.pointer (some ⟨gHU, 0, none⟩))) (some 10) (.pointer (some ⟨gHV, 0, none⟩))) W) := by
      clear s0_ s1_ s2_ s3_ s5_ s6_ s7_
      refine hi ?_
      intro W1 gHU gHV q1 HU geHU HV geHV neHUHV
      cases e1; cases e2; cases e3; cases e4; cases f32_; cases f35_
      try simp only [Act.put, x5, x6, x7]
      refine r1 (i := 2) rfl (fun K hK => ?_)
      · go_simp
        go_at_call 56
        (with_reducible refine (way_l _ _ _ _ Rab.out.1 Rab.out.2 _).mono ?_); rintro e w1 ⟨rfl, hb1⟩
        go_wp2_with fail
        refine hK.out _ _ ?_ (fun q2 => ?_)
        · exact ⟨(id q1).1.below hb1, (id q1).2.1.below hb1, (id q1).2.2.1.below hb1, (id q1).2.2.2.1.below hb1, (id q1).2.2.2.2.below hb1⟩
        refine wpAnyH_as (s4_.out _ gHU gHV q2 (hi (HU.out.below hb1)) geHU (hi (HV.out.below hb1)) geHV neHUHV) (by kernel_rfl) (by kernel_rfl) (by kernel_rfl)
    have s9_ : Hid (∀ (W : World) (gHU : Nat), S0 W → Hid (Var W gHU [.int .i64 0, .int .i64 0]) → w.heap.size + 4 ≤ gHU → wpAnyH Try.prog .any ops0 Qx S0 5 #[true, true, false, true, true, false, true, false, false, false] (Act.put a0 (some 9) (.pointer (some ⟨gHU, 0, none⟩))) W) := by
      clear s0_ s1_ s2_ s3_ s4_ s6_ s7_
      refine hi ?_
      intro W1 gHU q1 HU geHU
      cases e1; cases e2; cases e3; cases e4; cases f32_; cases f35_
      try simp only [Act.put, x5, x6, x7]
      refine r2 (i := 2) (j := 7) rfl (fun K hK => ?_) rfl (fun K hK => ?_)
      · go_simp
        go_at_call 56
        (with_reducible refine (way_l _ _ _ _ Rab.out.1 Rab.out.2 _).mono ?_); rintro e w1 ⟨rfl, hb1⟩
        go_wp2_with fail
        refine hK.out _ _ ?_ (fun q2 => ?_)
        · exact ⟨(id q1).1.below hb1, (id q1).2.1.below hb1, (id q1).2.2.1.below hb1, (id q1).2.2.2.1.below hb1, (id q1).2.2.2.2.below hb1⟩
        refine wpAnyH_as (s5_.out _ gHU q2 (hi (HU.out.below hb1)) geHU) (by kernel_rfl) (by kernel_rfl) (by kernel_rfl)
      · go_simp
        refine hK.out _ _ ?_ (fun q2 => ?_)
        · exact ⟨(id q1).1.below (bl_one _ _), (id q1).2.1.below (bl_one _ _), (id q1).2.2.1.below (bl_one _ _), (id q1).2.2.2.1.below (bl_one _ _), (id q1).2.2.2.2.below (bl_one _ _)⟩
        refine wpAnyH_as (s8_.out _ gHU _ q2 (hi (HU.out.below (al_of (id q2).2.2.2.2 (bl_one _ _)))) geHU (hi ((id q1).2.2.2.2.var2 (.int .i64 0) (.int .i64 0) 23)) (id q1).2.2.2.2.sz (Nat.ne_of_lt HU.out.lt)) (by kernel_rfl) (by kernel_rfl) (by kernel_rfl)
    have s10_ : Hid (∀ (W : World) (gHV : Nat), S0 W → Hid (Var W gHV [.int .i64 0, .int .i64 0]) → w.heap.size + 4 ≤ gHV → wpAnyH Try.prog .any ops0 Qx S0 5 #[true, true, false, true, true, false, false, true, false, false] (Act.put a0 (some 10) (.pointer (some ⟨gHV, 0, none⟩))) W) := by
      clear s0_ s1_ s2_ s3_ s4_ s5_ s7_ s9_
      refine hi ?_
      intro W1 gHV q1 HV geHV
      cases e1; cases e2; cases e3; cases e4; cases f32_; cases f35_
      try simp only [Act.put, x5, x6, x7]
      refine r2 (i := 2) (j := 6) rfl (fun K hK => ?_) rfl (fun K hK => ?_)
      · go_simp
        go_at_call 56
        (with_reducible refine (way_l _ _ _ _ Rab.out.1 Rab.out.2 _).mono ?_); rintro e w1 ⟨rfl, hb1⟩
        go_wp2_with fail
        refine hK.out _ _ ?_ (fun q2 => ?_)
        · exact ⟨(id q1).1.below hb1, (id q1).2.1.below hb1, (id q1).2.2.1.below hb1, (id q1).2.2.2.1.below hb1, (id q1).2.2.2.2.below hb1⟩
        refine wpAnyH_as (s6_.out _ gHV q2 (hi (HV.out.below hb1)) geHV) (by kernel_rfl) (by kernel_rfl) (by kernel_rfl)
      · go_simp
        refine hK.out _ _ ?_ (fun q2 => ?_)
        · exact ⟨(id q1).1.below (bl_one _ _), (id q1).2.1.below (bl_one _ _), (id q1).2.2.1.below (bl_one _ _), (id q1).2.2.2.1.below (bl_one _ _), (id q1).2.2.2.2.below (bl_one _ _)⟩
        refine wpAnyH_as (s8_.out _ _ gHV q2 (hi ((id q1).2.2.2.2.var2 (.int .i64 0) (.int .i64 0) 23)) (id q1).2.2.2.2.sz (hi (HV.out.below (al_of (id q2).2.2.2.2 (bl_one _ _)))) geHV (Nat.ne_of_gt HV.out.lt)) (by kernel_rfl) (by kernel_rfl) (by kernel_rfl)
    clear s0_ s1_ s2_ s3_ s4_ s5_ s6_ s8_
    cases e1; cases e2; cases e3; cases e4; cases f32_; cases f35_
    refine wpAnyH_ready (rs := [2, 6, 7]) (by kernel_rfl) (by simp) ?_
    refine (AllReadyH.cons rfl (fun K hK => ?_) (AllReadyH.cons rfl (fun K hK => ?_) (AllReadyH.cons rfl (fun K hK => ?_) AllReadyH.nil)))
    · rw [if_pos (by rfl)]
      go_simp
      go_at_call 56
      (with_reducible refine (way_l _ _ _ _ Rab.out.1 Rab.out.2 _).mono ?_); rintro e w1 ⟨rfl, hb1⟩
      go_wp2_with fail
      refine hK.out _ _ ?_ (fun q2 => ?_)
      · exact ⟨(id q1).1.below hb1, (id q1).2.1.below hb1, (id q1).2.2.1.below hb1, (id q1).2.2.2.1.below hb1, (id q1).2.2.2.2.below hb1⟩
      refine wpAnyH_as (s7_.out _ q2) (by kernel_rfl) (by kernel_rfl) (by kernel_rfl)
    · rw [if_pos (by rfl)]
      go_simp
      refine hK.out _ _ ?_ (fun q2 => ?_)
      · exact ⟨(id q1).1.below (bl_one _ _), (id q1).2.1.below (bl_one _ _), (id q1).2.2.1.below (bl_one _ _), (id q1).2.2.2.1.below (bl_one _ _), (id q1).2.2.2.2.below (bl_one _ _)⟩
      refine wpAnyH_as (s9_.out _ _ q2 (hi ((id q1).2.2.2.2.var2 (.int .i64 0) (.int .i64 0) 23)) (id q1).2.2.2.2.sz) (by kernel_rfl) (by kernel_rfl) (by kernel_rfl)
    · rw [if_pos (by rfl)]
      go_simp
      refine hK.out _ _ ?_ (fun q2 => ?_)
      · exact ⟨(id q1).1.below (bl_one _ _), (id q1).2.1.below (bl_one _ _), (id q1).2.2.1.below (bl_one _ _), (id q1).2.2.2.1.below (bl_one _ _), (id q1).2.2.2.2.below (bl_one _ _)⟩
      refine wpAnyH_as (s10_.out _ _ q2 (hi ((id q1).2.2.2.2.var2 (.int .i64 0) (.int .i64 0) 23)) (id q1).2.2.2.2.sz) (by kernel_rfl) (by kernel_rfl) (by kernel_rfl)
  case rest =>
  obtain ⟨g9, g10, rfl, rfl, ⟨n1, n2, n3⟩, v3, v9, v10, vr, hG⟩ := hcut
  have HP2 : Hid (ctrX a b' c' = shiftZ a.x (((b'.x - a.x) * (b'.x - a.x) + (b'.y - a.y) * (b'.y - a.y)) * (c'.y - a.y) - ((c'.x - a.x) * (c'.x - a.x) + (c'.y - a.y) * (c'.y - a.y)) * (b'.y - a.y)) ((b'.x - a.x) * (c'.y - a.y) - (b'.y - a.y) * (c'.x - a.x))) := rfl
  have HP3 : Hid (ctrY a b' c' = shiftZ a.y (((c'.x - a.x) * (c'.x - a.x) + (c'.y - a.y) * (c'.y - a.y)) * (b'.x - a.x) - ((b'.x - a.x) * (b'.x - a.x) + (b'.y - a.y) * (b'.y - a.y)) * (c'.x - a.x)) ((b'.x - a.x) * (c'.y - a.y) - (b'.y - a.y) * (c'.x - a.x))) := rfl
  unfold ctrP ctrE at HP
  generalize ctrX a b' c' = X at *
  generalize ctrY a b' c' = Y at *
  unfold crossZ at AD hz
  generalize b'.x - a.x = ux at *
  generalize b'.y - a.y = uy at *
  generalize c'.x - a.x = vx at *
  generalize c'.y - a.y = vy at *
  have HS1 : Hid ((fun W => Var W (w.heap.size) [.int .i64 a.x, .int .i64 a.y] ∧ Var W (g9) [.int .i64 (ux), .int .i64 (uy)] ∧ Var W (g10) [.int .i64 (vx), .int .i64 (vy)] ∧ Slot2 W (w.heap.size + 1 + 1 + 1) ∧ Grew w 4 W) _) := ⟨v3, v9, v10, vr, hG⟩
  have Rux := hi Rab.out.1
  have Ruy := hi Rab.out.2
  have Rvx := hi Rac.out.1
  have Rvy := hi Rac.out.2
  have Lux : Hid (-9223372036854775808 ≤ ux ∧ ux ≤ 9223372036854775807) := Rux.out
  have Luy : Hid (-9223372036854775808 ≤ uy ∧ uy ≤ 9223372036854775807) := Ruy.out
  have Lvx : Hid (-9223372036854775808 ≤ vx ∧ vx ≤ 9223372036854775807) := Rvx.out
  have Lvy : Hid (-9223372036854775808 ≤ vy ∧ vy ≤ 9223372036854775807) := Rvy.out
  clear v3 v9 v10 vr hG HS0 Rab Rac
  have AUU : Ab (ux * ux + uy * uy) 147573952589676412928 := ((AU.1.mul AU.1).add (AU.2.mul AU.2)).le (by decide)
  have AVV : Ab (vx * vx + vy * vy) 147573952589676412928 := ((AV.1.mul AV.1).add (AV.2.mul AV.2)).le (by decide)
  go_upto_region 7 with (fail)
  go_cut [11, 12, 13] (fun pa pb pc W => ∃ g11 g12 g13 : Nat, pa = .pointer (some ⟨g11, 0, none⟩) ∧ pb = .pointer (some ⟨g12, 0, none⟩) ∧ pc = .pointer (some ⟨g13, 0, none⟩) ∧ Var W (g11) [.int .u64 (LH (ux * vy - uy * vx)), .int .u64 (LL (ux * vy - uy * vx))] ∧ Var W (g12) [.int .u64 (LH (ux * ux + uy * uy)), .int .u64 (LL (ux * ux + uy * uy))] ∧ Var W (g13) [.int .u64 (LH (vx * vx + vy * vy)), .int .u64 (LL (vx * vx + vy * vy))] ∧ (fun W => Var W (w.heap.size) [.int .i64 a.x, .int .i64 a.y] ∧ Var W (g9) [.int .i64 (ux), .int .i64 (uy)] ∧ Var W (g10) [.int .i64 (vx), .int .i64 (vy)] ∧ Slot2 W (w.heap.size + 1 + 1 + 1) ∧ Grew w 4 W) W)
  case first =>
    clear HP HP2 HP3 AU AV AD hK hz AUU AVV Lux Luy Lvx Lvy
    refine wp_region_held_drew (S := fun W => Var W (w.heap.size) [.int .i64 a.x, .int .i64 a.y] ∧ Var W (g9) [.int .i64 (ux), .int .i64 (uy)] ∧ Var W (g10) [.int .i64 (vx), .int .i64 (vy)] ∧ Slot2 W (w.heap.size + 1 + 1 + 1) ∧ Grew w 4 W) (by kernel_rfl) ?_ (fun q1 => ?_)
    · exact ⟨HS1.out.1.below (bel_drew _), HS1.out.2.1.below (bel_drew _), HS1.out.2.2.1.below (bel_drew _), HS1.out.2.2.2.1.below (bel_drew _), HS1.out.2.2.2.2.below (bel_drew _)⟩
    revert q1
    generalize World.drew _ = W1
    intro q1
    refine tk (i := 0) (v := ?_) rfl (Or.inl ⟨by rfl, ?_⟩) ?_
    rotate_left
    · intro Wq hSw
      obtain ⟨k0, k1⟩ := (id hSw).2.1.two
      clear hSw
      go_simp
      all_goals (with_reducible rfl)
    try simp only [Act.put, x2, x4, x5, x6, x7]
    refine tk (i := 1) (v := ?_) rfl (Or.inl ⟨by rfl, ?_⟩) ?_
    rotate_left
    · intro Wq hSw
      obtain ⟨k0, k1⟩ := (id hSw).2.2.1.two
      clear hSw
      go_simp
      all_goals (with_reducible rfl)
    try simp only [Act.put, x2, x3, x4, x5, x6, x7]
    refine tk (i := 3) (v := ?_) rfl (Or.inl ⟨by rfl, ?_⟩) ?_
    rotate_left
    · intro Wq hSw
      obtain ⟨k0, k1⟩ := (id hSw).2.1.two
      clear hSw
      go_simp
      all_goals (with_reducible rfl)
    try simp only [Act.put, x2, x3, x4, x5, x6, x7]
    refine tk (i := 5) (v := ?_) rfl (Or.inl ⟨by rfl, ?_⟩) ?_
    rotate_left
    · intro Wq hSw
      obtain ⟨k0, k1⟩ := (id hSw).2.2.1.two
      clear hSw
      go_simp
      all_goals (with_reducible rfl)
    try simp only [Act.put, x2, x3, x4, x5, x6, x7]
    refine wpAnyH_named (fun ops0 Qx a0 S0 e1 e2 e3 e4 => ?_)
    obtain ⟨v38_, f38_⟩ : ∃ v : Value, .agg #[.int .u64 (LH (ux * vy - uy * vx)), .int .u64 (LL (ux * vy - uy * vx))] = v := ⟨_, rfl⟩
    obtain ⟨v40_, f40_⟩ : ∃ v : Value, .agg #[.int .u64 (LH (ux * ux + uy * uy)), .int .u64 (LL (ux * ux + uy * uy))] = v := ⟨_, rfl⟩
    obtain ⟨v42_, f42_⟩ : ∃ v : Value, .agg #[.int .u64 (LH (vx * vx + vy * vy)), .int .u64 (LL (vx * vx + vy * vy))] = v := ⟨_, rfl⟩
    have s0_ : Hid (∀ (W : World) (gHA : Nat) (gHB : Nat) (gHC : Nat), S0 W → g9 ≠ gHA → g10 ≠ gHA → g9 ≠ gHB → g10 ≠ gHB → g9 ≠ gHC → g10 ≠ gHC → Hid (Var W gHA [.int .u64 0, .int .u64 0]) → w.heap.size + 4 ≤ gHA → Hid (Var W gHB [.int .u64 0, .int .u64 0]) → w.heap.size + 4 ≤ gHB → Hid (Var W gHC [.int .u64 0, .int .u64 0]) → w.heap.size + 4 ≤ gHC → gHA ≠ gHB → gHA ≠ gHC → gHB ≠ gHC → wpAnyH Try.prog .any ops0 Qx S0 3 #[true, true, true, true, true, true, true, true, true, true, false, false, false] (Act.put (Act.put (Act.put (Act.put (Act.put (Act.put a0 (some 38) v38_) (some 40) v40_) (some 42) v42_) (some 11) (.pointer (some ⟨gHA, 0, none⟩))) (some 12) (.pointer (some ⟨gHB, 0, none⟩))) (some 13) (.pointer (some ⟨gHC, 0, none⟩))) W) := by
      refine hi ?_
      intro W1 gHA gHB gHC q1 ne_9_HA ne_10_HA ne_9_HB ne_10_HB ne_9_HC ne_10_HC HA geHA HB geHB HC geHC neHAHB neHAHC neHBHC
      cases e1; cases e2; cases e3; cases e4; cases f38_; cases f40_; cases f42_
      try simp only [Act.put, x5, x6, x7]
      refine r1 (i := 10) rfl (fun K hK => ?_)
      obtain ⟨k0, k1⟩ := HA.out.two
      obtain ⟨f0, f1⟩ := HA.out.free2
      go_simp
      refine hK.out _ _ ?_ (fun q2 => ?_)
      · exact ⟨(((id q1).1.far (by dsimp only; omega) _).far (by dsimp only; omega) _), (((id q1).2.1.far (by dsimp only; omega) _).far (by dsimp only; omega) _), (((id q1).2.2.1.far (by dsimp only; omega) _).far (by dsimp only; omega) _), (((id q1).2.2.2.1.far (by dsimp only; omega) _).far (by dsimp only; omega) _), (((id q1).2.2.2.2.set (by dsimp only; omega) _).set (by dsimp only; omega) _)⟩
      replace HB := hi ((id q2).2.2.2.2.far2 HB.out (by dsimp only; omega) (by dsimp only; omega))
      replace HC := hi ((id q2).2.2.2.2.far2 HC.out (by dsimp only; omega) (by dsimp only; omega))
      replace HA := hi (HA.out.set2 (.int .u64 (LH (ux * vy - uy * vx))) (.int .u64 (LL (ux * vy - uy * vx))))
      clear hK K q1 k0 k1 f0 f1
      have q1 := q2
      clear q2
      try simp only [x5, x6, x7]
      refine r1 (i := 11) rfl (fun K hK => ?_)
      obtain ⟨k0, k1⟩ := HB.out.two
      obtain ⟨f0, f1⟩ := HB.out.free2
      go_simp
      refine hK.out _ _ ?_ (fun q2 => ?_)
      · exact ⟨(((id q1).1.far (by dsimp only; omega) _).far (by dsimp only; omega) _), (((id q1).2.1.far (by dsimp only; omega) _).far (by dsimp only; omega) _), (((id q1).2.2.1.far (by dsimp only; omega) _).far (by dsimp only; omega) _), (((id q1).2.2.2.1.far (by dsimp only; omega) _).far (by dsimp only; omega) _), (((id q1).2.2.2.2.set (by dsimp only; omega) _).set (by dsimp only; omega) _)⟩
      replace HA := hi ((id q2).2.2.2.2.far2 HA.out (by dsimp only; omega) (by dsimp only; omega))
      replace HC := hi ((id q2).2.2.2.2.far2 HC.out (by dsimp only; omega) (by dsimp only; omega))
      replace HB := hi (HB.out.set2 (.int .u64 (LH (ux * ux + uy * uy))) (.int .u64 (LL (ux * ux + uy * uy))))
      clear hK K q1 k0 k1 f0 f1
      have q1 := q2
      clear q2
      try simp only [x5, x6, x7]
      refine r1 (i := 12) rfl (fun K hK => ?_)
      obtain ⟨k0, k1⟩ := HC.out.two
      obtain ⟨f0, f1⟩ := HC.out.free2
      go_simp
      refine hK.out _ _ ?_ (fun q2 => ?_)
      · exact ⟨(((id q1).1.far (by dsimp only; omega) _).far (by dsimp only; omega) _), (((id q1).2.1.far (by dsimp only; omega) _).far (by dsimp only; omega) _), (((id q1).2.2.1.far (by dsimp only; omega) _).far (by dsimp only; omega) _), (((id q1).2.2.2.1.far (by dsimp only; omega) _).far (by dsimp only; omega) _), (((id q1).2.2.2.2.set (by dsimp only; omega) _).set (by dsimp only; omega) _)⟩
      replace HA := hi ((id q2).2.2.2.2.far2 HA.out (by dsimp only; omega) (by dsimp only; omega))
      replace HB := hi ((id q2).2.2.2.2.far2 HB.out (by dsimp only; omega) (by dsimp only; omega))
      replace HC := hi (HC.out.set2 (.int .u64 (LH (vx * vx + vy * vy))) (.int .u64 (LL (vx * vx + vy * vy))))
      clear hK K q1 k0 k1 f0 f1
      have q1 := q2
      clear q2
      try simp only [x5, x6, x7]
      refine wpAnyH_done (by kernel_rfl) ?_ _
      go_wp2_with fail
      go_meet
      case rel => exact ⟨gHA, gHB, gHC, rfl, rfl, rfl, HA.out, HB.out, HC.out, id q1⟩
    have s1_ : Hid (∀ (W : World) (gHA : Nat) (gHB : Nat), S0 W → g9 ≠ gHA → g10 ≠ gHA → g9 ≠ gHB → g10 ≠ gHB → Hid (Var W gHA [.int .u64 0, .int .u64 0]) → w.heap.size + 4 ≤ gHA → Hid (Var W gHB [.int .u64 0, .int .u64 0]) → w.heap.size + 4 ≤ gHB → gHA ≠ gHB → wpAnyH Try.prog .any ops0 Qx S0 4 #[true, true, true, true, true, true, true, true, true, false, false, false, false] (Act.put (Act.put (Act.put (Act.put (Act.put a0 (some 38) v38_) (some 40) v40_) (some 42) v42_) (some 11) (.pointer (some ⟨gHA, 0, none⟩))) (some 12) (.pointer (some ⟨gHB, 0, none⟩))) W) := by
      refine hi ?_
      intro W1 gHA gHB q1 ne_9_HA ne_10_HA ne_9_HB ne_10_HB HA geHA HB geHB neHAHB
      cases e1; cases e2; cases e3; cases e4; cases f38_; cases f40_; cases f42_
      try simp only [Act.put, x5, x6, x7]
      refine r1 (i := 9) rfl (fun K hK => ?_)
      · go_simp
        refine hK.out _ _ ?_ (fun q2 => ?_)
        · exact ⟨(id q1).1.below (bl_one _ _), (id q1).2.1.below (bl_one _ _), (id q1).2.2.1.below (bl_one _ _), (id q1).2.2.2.1.below (bl_one _ _), (id q1).2.2.2.2.below (bl_one _ _)⟩
        refine wpAnyH_as (s0_.out _ gHA gHB _ q2 ne_9_HA ne_10_HA ne_9_HB ne_10_HB (Nat.ne_of_lt (id q1).2.1.lt) (Nat.ne_of_lt (id q1).2.2.1.lt) (hi (HA.out.below (al_of (id q2).2.2.2.2 (bl_one _ _)))) geHA (hi (HB.out.below (al_of (id q2).2.2.2.2 (bl_one _ _)))) geHB (hi ((id q1).2.2.2.2.var2 (.int .u64 0) (.int .u64 0) 67)) (id q1).2.2.2.2.sz neHAHB (Nat.ne_of_lt HA.out.lt) (Nat.ne_of_lt HB.out.lt)) (by kernel_rfl) (by kernel_rfl) (by kernel_rfl)
    have s2_ : Hid (∀ (W : World) (gHA : Nat) (gHC : Nat), S0 W → g9 ≠ gHA → g10 ≠ gHA → g9 ≠ gHC → g10 ≠ gHC → Hid (Var W gHA [.int .u64 0, .int .u64 0]) → w.heap.size + 4 ≤ gHA → Hid (Var W gHC [.int .u64 0, .int .u64 0]) → w.heap.size + 4 ≤ gHC → gHA ≠ gHC → wpAnyH Try.prog .any ops0 Qx S0 4 #[true, true, true, true, true, true, true, true, false, true, false, false, false] (Act.put (Act.put (Act.put (Act.put (Act.put a0 (some 38) v38_) (some 40) v40_) (some 42) v42_) (some 11) (.pointer (some ⟨gHA, 0, none⟩))) (some 13) (.pointer (some ⟨gHC, 0, none⟩))) W) := by
      clear s1_
      refine hi ?_
      intro W1 gHA gHC q1 ne_9_HA ne_10_HA ne_9_HC ne_10_HC HA geHA HC geHC neHAHC
      cases e1; cases e2; cases e3; cases e4; cases f38_; cases f40_; cases f42_
      try simp only [Act.put, x5, x6, x7]
      refine r1 (i := 8) rfl (fun K hK => ?_)
      · go_simp
        refine hK.out _ _ ?_ (fun q2 => ?_)
        · exact ⟨(id q1).1.below (bl_one _ _), (id q1).2.1.below (bl_one _ _), (id q1).2.2.1.below (bl_one _ _), (id q1).2.2.2.1.below (bl_one _ _), (id q1).2.2.2.2.below (bl_one _ _)⟩
        refine wpAnyH_as (s0_.out _ gHA _ gHC q2 ne_9_HA ne_10_HA (Nat.ne_of_lt (id q1).2.1.lt) (Nat.ne_of_lt (id q1).2.2.1.lt) ne_9_HC ne_10_HC (hi (HA.out.below (al_of (id q2).2.2.2.2 (bl_one _ _)))) geHA (hi ((id q1).2.2.2.2.var2 (.int .u64 0) (.int .u64 0) 67)) (id q1).2.2.2.2.sz (hi (HC.out.below (al_of (id q2).2.2.2.2 (bl_one _ _)))) geHC (Nat.ne_of_lt HA.out.lt) neHAHC (Nat.ne_of_gt HC.out.lt)) (by kernel_rfl) (by kernel_rfl) (by kernel_rfl)
    have s3_ : Hid (∀ (W : World) (gHA : Nat), S0 W → g9 ≠ gHA → g10 ≠ gHA → Hid (Var W gHA [.int .u64 0, .int .u64 0]) → w.heap.size + 4 ≤ gHA → wpAnyH Try.prog .any ops0 Qx S0 5 #[true, true, true, true, true, true, true, true, false, false, false, false, false] (Act.put (Act.put (Act.put (Act.put a0 (some 38) v38_) (some 40) v40_) (some 42) v42_) (some 11) (.pointer (some ⟨gHA, 0, none⟩))) W) := by
      clear s0_
      refine hi ?_
      intro W1 gHA q1 ne_9_HA ne_10_HA HA geHA
      cases e1; cases e2; cases e3; cases e4; cases f38_; cases f40_; cases f42_
      try simp only [Act.put, x5, x6, x7]
      refine r2 (i := 8) (j := 9) rfl (fun K hK => ?_) rfl (fun K hK => ?_)
      · go_simp
        refine hK.out _ _ ?_ (fun q2 => ?_)
        · exact ⟨(id q1).1.below (bl_one _ _), (id q1).2.1.below (bl_one _ _), (id q1).2.2.1.below (bl_one _ _), (id q1).2.2.2.1.below (bl_one _ _), (id q1).2.2.2.2.below (bl_one _ _)⟩
        refine wpAnyH_as (s1_.out _ gHA _ q2 ne_9_HA ne_10_HA (Nat.ne_of_lt (id q1).2.1.lt) (Nat.ne_of_lt (id q1).2.2.1.lt) (hi (HA.out.below (al_of (id q2).2.2.2.2 (bl_one _ _)))) geHA (hi ((id q1).2.2.2.2.var2 (.int .u64 0) (.int .u64 0) 67)) (id q1).2.2.2.2.sz (Nat.ne_of_lt HA.out.lt)) (by kernel_rfl) (by kernel_rfl) (by kernel_rfl)
      · go_simp
        refine hK.out _ _ ?_ (fun q2 => ?_)
        · exact ⟨(id q1).1.below (bl_one _ _), (id q1).2.1.below (bl_one _ _), (id q1).2.2.1.below (bl_one _ _), (id q1).2.2.2.1.below (bl_one _ _), (id q1).2.2.2.2.below (bl_one _ _)⟩
        refine wpAnyH_as (s2_.out _ gHA _ q2 ne_9_HA ne_10_HA (Nat.ne_of_lt (id q1).2.1.lt) (Nat.ne_of_lt (id q1).2.2.1.lt) (hi (HA.out.below (al_of (id q2).2.2.2.2 (bl_one _ _)))) geHA (hi ((id q1).2.2.2.2.var2 (.int .u64 0) (.int .u64 0) 67)) (id q1).2.2.2.2.sz (Nat.ne_of_lt HA.out.lt)) (by kernel_rfl) (by kernel_rfl) (by kernel_rfl)
    have s4_ : Hid (∀ (W : World) (gHB : Nat) (gHC : Nat), S0 W → g9 ≠ gHB → g10 ≠ gHB → g9 ≠ gHC → g10 ≠ gHC → Hid (Var W gHB [.int .u64 0, .int .u64 0]) → w.heap.size + 4 ≤ gHB → Hid (Var W gHC [.int .u64 0, .int .u64 0]) → w.heap.size + 4 ≤ gHC → gHB ≠ gHC → wpAnyH Try.prog .any ops0 Qx S0 4 #[true, true, true, true, true, true, true, false, true, true, false, false, false] (Act.put (Act.put (Act.put (Act.put (Act.put a0 (some 38) v38_) (some 40) v40_) (some 42) v42_) (some 12) (.pointer (some ⟨gHB, 0, none⟩))) (some 13) (.pointer (some ⟨gHC, 0, none⟩))) W) := by
      clear s1_ s2_ s3_
      refine hi ?_
      intro W1 gHB gHC q1 ne_9_HB ne_10_HB ne_9_HC ne_10_HC HB geHB HC geHC neHBHC
      cases e1; cases e2; cases e3; cases e4; cases f38_; cases f40_; cases f42_
      try simp only [Act.put, x5, x6, x7]
      refine r1 (i := 7) rfl (fun K hK => ?_)
      · go_simp
        refine hK.out _ _ ?_ (fun q2 => ?_)
        · exact ⟨(id q1).1.below (bl_one _ _), (id q1).2.1.below (bl_one _ _), (id q1).2.2.1.below (bl_one _ _), (id q1).2.2.2.1.below (bl_one _ _), (id q1).2.2.2.2.below (bl_one _ _)⟩
        refine wpAnyH_as (s0_.out _ _ gHB gHC q2 (Nat.ne_of_lt (id q1).2.1.lt) (Nat.ne_of_lt (id q1).2.2.1.lt) ne_9_HB ne_10_HB ne_9_HC ne_10_HC (hi ((id q1).2.2.2.2.var2 (.int .u64 0) (.int .u64 0) 67)) (id q1).2.2.2.2.sz (hi (HB.out.below (al_of (id q2).2.2.2.2 (bl_one _ _)))) geHB (hi (HC.out.below (al_of (id q2).2.2.2.2 (bl_one _ _)))) geHC (Nat.ne_of_gt HB.out.lt) (Nat.ne_of_gt HC.out.lt) neHBHC) (by kernel_rfl) (by kernel_rfl) (by kernel_rfl)
    have s5_ : Hid (∀ (W : World) (gHB : Nat), S0 W → g9 ≠ gHB → g10 ≠ gHB → Hid (Var W gHB [.int .u64 0, .int .u64 0]) → w.heap.size + 4 ≤ gHB → wpAnyH Try.prog .any ops0 Qx S0 5 #[true, true, true, true, true, true, true, false, true, false, false, false, false] (Act.put (Act.put (Act.put (Act.put a0 (some 38) v38_) (some 40) v40_) (some 42) v42_) (some 12) (.pointer (some ⟨gHB, 0, none⟩))) W) := by
      clear s0_ s2_ s3_
      refine hi ?_
      intro W1 gHB q1 ne_9_HB ne_10_HB HB geHB
      cases e1; cases e2; cases e3; cases e4; cases f38_; cases f40_; cases f42_
      try simp only [Act.put, x5, x6, x7]
      refine r2 (i := 7) (j := 9) rfl (fun K hK => ?_) rfl (fun K hK => ?_)
      · go_simp
        refine hK.out _ _ ?_ (fun q2 => ?_)
        · exact ⟨(id q1).1.below (bl_one _ _), (id q1).2.1.below (bl_one _ _), (id q1).2.2.1.below (bl_one _ _), (id q1).2.2.2.1.below (bl_one _ _), (id q1).2.2.2.2.below (bl_one _ _)⟩
        refine wpAnyH_as (s1_.out _ _ gHB q2 (Nat.ne_of_lt (id q1).2.1.lt) (Nat.ne_of_lt (id q1).2.2.1.lt) ne_9_HB ne_10_HB (hi ((id q1).2.2.2.2.var2 (.int .u64 0) (.int .u64 0) 67)) (id q1).2.2.2.2.sz (hi (HB.out.below (al_of (id q2).2.2.2.2 (bl_one _ _)))) geHB (Nat.ne_of_gt HB.out.lt)) (by kernel_rfl) (by kernel_rfl) (by kernel_rfl)
      · go_simp
        refine hK.out _ _ ?_ (fun q2 => ?_)
        · exact ⟨(id q1).1.below (bl_one _ _), (id q1).2.1.below (bl_one _ _), (id q1).2.2.1.below (bl_one _ _), (id q1).2.2.2.1.below (bl_one _ _), (id q1).2.2.2.2.below (bl_one _ _)⟩
        refine wpAnyH_as (s4_.out _ gHB _ q2 ne_9_HB ne_10_HB (Nat.ne_of_lt (id q1).2.1.lt) (Nat.ne_of_lt (id q1).2.2.1.lt) (hi (HB.out.below (al_of (id q2).2.2.2.2 (bl_one _ _)))) geHB (hi ((id q1).2.2.2.2.var2 (.int .u64 0) (.int .u64 0) 67)) (id q1).2.2.2.2.sz (Nat.ne_of_lt HB.out.lt)) (by kernel_rfl) (by kernel_rfl) (by kernel_rfl)
    have s6_ : Hid (∀ (W : World) (gHC : Nat), S0 W → g9 ≠ gHC → g10 ≠ gHC → Hid (Var W gHC [.int .u64 0, .int .u64 0]) → w.heap.size + 4 ≤ gHC → wpAnyH Try.prog .any ops0 Qx S0 5 #[true, true, true, true, true, true, true, false, false, true, false, false, false] (Act.put (Act.put (Act.put (Act.put a0 (some 38) v38_) (some 40) v40_) (some 42) v42_) (some 13) (.pointer (some ⟨gHC, 0, none⟩))) W) := by
      clear s0_ s1_ s3_ s5_
      refine hi ?_
      intro W1 gHC q1 ne_9_HC ne_10_HC HC geHC
      cases e1; cases e2; cases e3; cases e4; cases f38_; cases f40_; cases f42_
      try simp only [Act.put, x5, x6, x7]
      refine r2 (i := 7) (j := 8) rfl (fun K hK => ?_) rfl (fun K hK => ?_)
      · go_simp
        refine hK.out _ _ ?_ (fun q2 => ?_)
        · exact ⟨(id q1).1.below (bl_one _ _), (id q1).2.1.below (bl_one _ _), (id q1).2.2.1.below (bl_one _ _), (id q1).2.2.2.1.below (bl_one _ _), (id q1).2.2.2.2.below (bl_one _ _)⟩
        refine wpAnyH_as (s2_.out _ _ gHC q2 (Nat.ne_of_lt (id q1).2.1.lt) (Nat.ne_of_lt (id q1).2.2.1.lt) ne_9_HC ne_10_HC (hi ((id q1).2.2.2.2.var2 (.int .u64 0) (.int .u64 0) 67)) (id q1).2.2.2.2.sz (hi (HC.out.below (al_of (id q2).2.2.2.2 (bl_one _ _)))) geHC (Nat.ne_of_gt HC.out.lt)) (by kernel_rfl) (by kernel_rfl) (by kernel_rfl)
      · go_simp
        refine hK.out _ _ ?_ (fun q2 => ?_)
        · exact ⟨(id q1).1.below (bl_one _ _), (id q1).2.1.below (bl_one _ _), (id q1).2.2.1.below (bl_one _ _), (id q1).2.2.2.1.below (bl_one _ _), (id q1).2.2.2.2.below (bl_one _ _)⟩
        refine wpAnyH_as (s4_.out _ _ gHC q2 (Nat.ne_of_lt (id q1).2.1.lt) (Nat.ne_of_lt (id q1).2.2.1.lt) ne_9_HC ne_10_HC (hi ((id q1).2.2.2.2.var2 (.int .u64 0) (.int .u64 0) 67)) (id q1).2.2.2.2.sz (hi (HC.out.below (al_of (id q2).2.2.2.2 (bl_one _ _)))) geHC (Nat.ne_of_gt HC.out.lt)) (by kernel_rfl) (by kernel_rfl) (by kernel_rfl)
    have s7_ : Hid (∀ (W : World), S0 W → wpAnyH Try.prog .any ops0 Qx S0 6 #[true, true, true, true, true, true, true, false, false, false, false, false, false] (Act.put (Act.put (Act.put a0 (some 38) v38_) (some 40) v40_) (some 42) v42_) W) := by
      clear s0_ s1_ s2_ s4_
      refine hi ?_
      intro W1  q1 
      cases e1; cases e2; cases e3; cases e4; cases f38_; cases f40_; cases f42_
      try simp only [Act.put, x5, x6, x7]
      refine wpAnyH_ready (rs := [7, 8, 9]) (by kernel_rfl) (by simp) ?_
      refine (AllReadyH.cons rfl (fun K hK => ?_) (AllReadyH.cons rfl (fun K hK => ?_) (AllReadyH.cons rfl (fun K hK => ?_) AllReadyH.nil)))
      · rw [if_pos (by rfl)]
        go_simp
        refine hK.out _ _ ?_ (fun q2 => ?_)
        · exact ⟨(id q1).1.below (bl_one _ _), (id q1).2.1.below (bl_one _ _), (id q1).2.2.1.below (bl_one _ _), (id q1).2.2.2.1.below (bl_one _ _), (id q1).2.2.2.2.below (bl_one _ _)⟩
        refine wpAnyH_as (s3_.out _ _ q2 (Nat.ne_of_lt (id q1).2.1.lt) (Nat.ne_of_lt (id q1).2.2.1.lt) (hi ((id q1).2.2.2.2.var2 (.int .u64 0) (.int .u64 0) 67)) (id q1).2.2.2.2.sz) (by kernel_rfl) (by kernel_rfl) (by kernel_rfl)
      · rw [if_pos (by rfl)]
        go_simp
        refine hK.out _ _ ?_ (fun q2 => ?_)
        · exact ⟨(id q1).1.below (bl_one _ _), (id q1).2.1.below (bl_one _ _), (id q1).2.2.1.below (bl_one _ _), (id q1).2.2.2.1.below (bl_one _ _), (id q1).2.2.2.2.below (bl_one _ _)⟩
        refine wpAnyH_as (s5_.out _ _ q2 (Nat.ne_of_lt (id q1).2.1.lt) (Nat.ne_of_lt (id q1).2.2.1.lt) (hi ((id q1).2.2.2.2.var2 (.int .u64 0) (.int .u64 0) 67)) (id q1).2.2.2.2.sz) (by kernel_rfl) (by kernel_rfl) (by kernel_rfl)
      · rw [if_pos (by rfl)]
        go_simp
        refine hK.out _ _ ?_ (fun q2 => ?_)
        · exact ⟨(id q1).1.below (bl_one _ _), (id q1).2.1.below (bl_one _ _), (id q1).2.2.1.below (bl_one _ _), (id q1).2.2.2.1.below (bl_one _ _), (id q1).2.2.2.2.below (bl_one _ _)⟩
        refine wpAnyH_as (s6_.out _ _ q2 (Nat.ne_of_lt (id q1).2.1.lt) (Nat.ne_of_lt (id q1).2.2.1.lt) (hi ((id q1).2.2.2.2.var2 (.int .u64 0) (.int .u64 0) 67)) (id q1).2.2.2.2.sz) (by kernel_rfl) (by kernel_rfl) (by kernel_rfl)
    have s8_ : Hid (∀ (W : World) (gHA : Nat) (gHB : Nat) (gHC : Nat), S0 W → g9 ≠ gHA → g10 ≠ gHA → g9 ≠ gHB → g10 ≠ gHB → g9 ≠ gHC → g10 ≠ gHC → Hid (Var W gHA [.int .u64 0, .int .u64 0]) → w.heap.size + 4 ≤ gHA → Hid (Var W gHB [.int .u64 0, .int .u64 0]) → w.heap.size + 4 ≤ gHB → Hid (Var W gHC [.int .u64 0, .int .u64 0]) → w.heap.size + 4 ≤ gHC → gHA ≠ gHB → gHA ≠ gHC → gHB ≠ gHC → wpAnyH Try.prog .any ops0 Qx S0 4 #[true, true, true, true, true, true, false, true, true, true, false, false, false] (Act.put (Act.put (Act.put (Act.put (Act.put a0 (some 38) v38_) (some 40) v40_) (some 11) (.pointer (some ⟨gHA, 0, none⟩))) (some 12) (.pointer (some ⟨gHB, 0, none⟩))) (some 13) (.pointer (some ⟨gHC, 0, none⟩))) W) := by
      clear s1_ s2_ s3_ s4_ s5_ s6_ s7_
      refine hi ?_
      intro W1 gHA gHB gHC q1 ne_9_HA ne_10_HA ne_9_HB ne_10_HB ne_9_HC ne_10_HC HA geHA HB geHB HC geHC neHAHB neHAHC neHBHC
      cases e1; cases e2; cases e3; cases e4; cases f38_; cases f40_; cases f42_
      try simp only [Act.put, x5, x6, x7]
      refine r1 (i := 6) rfl (fun K hK => ?_)
      · go_simp
        go_at_call 64
        (with_reducible refine (square_l _ _ Rvx.out Rvy.out _).mono ?_); rintro e w1 ⟨rfl, hb1⟩
        go_wp2_with fail
        refine hK.out _ _ ?_ (fun q2 => ?_)
        · exact ⟨(id q1).1.below hb1, (id q1).2.1.below hb1, (id q1).2.2.1.below hb1, (id q1).2.2.2.1.below hb1, (id q1).2.2.2.2.below hb1⟩
        refine wpAnyH_as (s0_.out _ gHA gHB gHC q2 ne_9_HA ne_10_HA ne_9_HB ne_10_HB ne_9_HC ne_10_HC (hi (HA.out.below hb1)) geHA (hi (HB.out.below hb1)) geHB (hi (HC.out.below hb1)) geHC neHAHB neHAHC neHBHC) (by kernel_rfl) (by kernel_rfl) (by kernel_rfl)
    have s9_ : Hid (∀ (W : World) (gHA : Nat) (gHB : Nat), S0 W → g9 ≠ gHA → g10 ≠ gHA → g9 ≠ gHB → g10 ≠ gHB → Hid (Var W gHA [.int .u64 0, .int .u64 0]) → w.heap.size + 4 ≤ gHA → Hid (Var W gHB [.int .u64 0, .int .u64 0]) → w.heap.size + 4 ≤ gHB → gHA ≠ gHB → wpAnyH Try.prog .any ops0 Qx S0 5 #[true, true, true, true, true, true, false, true, true, false, false, false, false] (Act.put (Act.put (Act.put (Act.put a0 (some 38) v38_) (some 40) v40_) (some 11) (.pointer (some ⟨gHA, 0, none⟩))) (some 12) (.pointer (some ⟨gHB, 0, none⟩))) W) := by
      clear s0_ s2_ s3_ s4_ s5_ s6_ s7_
      refine hi ?_
      intro W1 gHA gHB q1 ne_9_HA ne_10_HA ne_9_HB ne_10_HB HA geHA HB geHB neHAHB
      cases e1; cases e2; cases e3; cases e4; cases f38_; cases f40_; cases f42_
      try simp only [Act.put, x5, x6, x7]
      refine r2 (i := 6) (j := 9) rfl (fun K hK => ?_) rfl (fun K hK => ?_)
      · go_simp
        go_at_call 64
        (with_reducible refine (square_l _ _ Rvx.out Rvy.out _).mono ?_); rintro e w1 ⟨rfl, hb1⟩
        go_wp2_with fail
        refine hK.out _ _ ?_ (fun q2 => ?_)
        · exact ⟨(id q1).1.below hb1, (id q1).2.1.below hb1, (id q1).2.2.1.below hb1, (id q1).2.2.2.1.below hb1, (id q1).2.2.2.2.below hb1⟩
        refine wpAnyH_as (s1_.out _ gHA gHB q2 ne_9_HA ne_10_HA ne_9_HB ne_10_HB (hi (HA.out.below hb1)) geHA (hi (HB.out.below hb1)) geHB neHAHB) (by kernel_rfl) (by kernel_rfl) (by kernel_rfl)
      · go_simp
        refine hK.out _ _ ?_ (fun q2 => ?_)
        · exact ⟨(id q1).1.below (bl_one _ _), (id q1).2.1.below (bl_one _ _), (id q1).2.2.1.below (bl_one _ _), (id q1).2.2.2.1.below (bl_one _ _), (id q1).2.2.2.2.below (bl_one _ _)⟩
        refine wpAnyH_as (s8_.out _ gHA gHB _ q2 ne_9_HA ne_10_HA ne_9_HB ne_10_HB (Nat.ne_of_lt (id q1).2.1.lt) (Nat.ne_of_lt (id q1).2.2.1.lt) (hi (HA.out.below (al_of (id q2).2.2.2.2 (bl_one _ _)))) geHA (hi (HB.out.below (al_of (id q2).2.2.2.2 (bl_one _ _)))) geHB (hi ((id q1).2.2.2.2.var2 (.int .u64 0) (.int .u64 0) 67)) (id q1).2.2.2.2.sz neHAHB (Nat.ne_of_lt HA.out.lt) (Nat.ne_of_lt HB.out.lt)) (by kernel_rfl) (by kernel_rfl) (by kernel_rfl)
    have s10_ : Hid (∀ (W : World) (gHA : Nat) (gHC : Nat), S0 W → g9 ≠ gHA → g10 ≠ gHA → g9 ≠ gHC → g10 ≠ gHC → Hid (Var W gHA [.int .u64 0, .int .u64 0]) → w.heap.size + 4 ≤ gHA → Hid (Var W gHC [.int .u64 0, .int .u64 0]) → w.heap.size + 4 ≤ gHC → gHA ≠ gHC → wpAnyH Try.prog .any ops0 Qx S0 5 #[true, true, true, true, true, true, false, true, false, true, false, false, false] (Act.put (Act.put (Act.put (Act.put a0 (some 38) v38_) (some 40) v40_) (some 11) (.pointer (some ⟨gHA, 0, none⟩))) (some 13) (.pointer (some ⟨gHC, 0, none⟩))) W) := by
      clear s0_ s1_ s3_ s4_ s5_ s6_ s7_ s9_
      refine hi ?_
      intro W1 gHA gHC q1 ne_9_HA ne_10_HA ne_9_HC ne_10_HC HA geHA HC geHC neHAHC
      cases e1; cases e2; cases e3; cases e4; cases f38_; cases f40_; cases f42_
      try simp only [Act.put, x5, x6, x7]
      refine r2 (i := 6) (j := 8) rfl (fun K hK => ?_) rfl (fun K hK => ?_)
      · go_simp
        go_at_call 64
        (with_reducible refine (square_l _ _ Rvx.out Rvy.out _).mono ?_); rintro e w1 ⟨rfl, hb1⟩
        go_wp2_with fail
        refine hK.out _ _ ?_ (fun q2 => ?_)
        · exact ⟨(id q1).1.below hb1, (id q1).2.1.below hb1, (id q1).2.2.1.below hb1, (id q1).2.2.2.1.below hb1, (id q1).2.2.2.2.below hb1⟩
        refine wpAnyH_as (s2_.out _ gHA gHC q2 ne_9_HA ne_10_HA ne_9_HC ne_10_HC (hi (HA.out.below hb1)) geHA (hi (HC.out.below hb1)) geHC neHAHC) (by kernel_rfl) (by kernel_rfl) (by kernel_rfl)
      · go_simp
        refine hK.out _ _ ?_ (fun q2 => ?_)
        · exact ⟨(id q1).1.below (bl_one _ _), (id q1).2.1.below (bl_one _ _), (id q1).2.2.1.below (bl_one _ _), (id q1).2.2.2.1.below (bl_one _ _), (id q1).2.2.2.2.below (bl_one _ _)⟩
        refine wpAnyH_as (s8_.out _ gHA _ gHC q2 ne_9_HA ne_10_HA (Nat.ne_of_lt (id q1).2.1.lt) (Nat.ne_of_lt (id q1).2.2.1.lt) ne_9_HC ne_10_HC (hi (HA.out.below (al_of (id q2).2.2.2.2 (bl_one _ _)))) geHA (hi ((id q1).2.2.2.2.var2 (.int .u64 0) (.int .u64 0) 67)) (id q1).2.2.2.2.sz (hi (HC.out.below (al_of (id q2).2.2.2.2 (bl_one _ _)))) geHC (Nat.ne_of_lt HA.out.lt) neHAHC (Nat.ne_of_gt HC.out.lt)) (by kernel_rfl) (by kernel_rfl) (by kernel_rfl)
    have s11_ : Hid (∀ (W : World) (gHA : Nat), S0 W → g9 ≠ gHA → g10 ≠ gHA → Hid (Var W gHA [.int .u64 0, .int .u64 0]) → w.heap.size + 4 ≤ gHA → wpAnyH Try.prog .any ops0 Qx S0 6 #[true, true, true, true, true, true, false, true, false, false, false, false, false] (Act.put (Act.put (Act.put a0 (some 38) v38_) (some 40) v40_) (some 11) (.pointer (some ⟨gHA, 0, none⟩))) W) := by
      clear s0_ s1_ s2_ s4_ s5_ s6_ s7_ s8_
      refine hi ?_
      intro W1 gHA q1 ne_9_HA ne_10_HA HA geHA
      cases e1; cases e2; cases e3; cases e4; cases f38_; cases f40_; cases f42_
      try simp only [Act.put, x5, x6, x7]
      refine wpAnyH_ready (rs := [6, 8, 9]) (by kernel_rfl) (by simp) ?_
      refine (AllReadyH.cons rfl (fun K hK => ?_) (AllReadyH.cons rfl (fun K hK => ?_) (AllReadyH.cons rfl (fun K hK => ?_) AllReadyH.nil)))
      · rw [if_pos (by rfl)]
        go_simp
        go_at_call 64
        (with_reducible refine (square_l _ _ Rvx.out Rvy.out _).mono ?_); rintro e w1 ⟨rfl, hb1⟩
        go_wp2_with fail
        refine hK.out _ _ ?_ (fun q2 => ?_)
        · exact ⟨(id q1).1.below hb1, (id q1).2.1.below hb1, (id q1).2.2.1.below hb1, (id q1).2.2.2.1.below hb1, (id q1).2.2.2.2.below hb1⟩
        refine wpAnyH_as (s3_.out _ gHA q2 ne_9_HA ne_10_HA (hi (HA.out.below hb1)) geHA) (by kernel_rfl) (by kernel_rfl) (by kernel_rfl)
      · rw [if_pos (by rfl)]
        go_simp
        refine hK.out _ _ ?_ (fun q2 => ?_)
        · exact ⟨(id q1).1.below (bl_one _ _), (id q1).2.1.below (bl_one _ _), (id q1).2.2.1.below (bl_one _ _), (id q1).2.2.2.1.below (bl_one _ _), (id q1).2.2.2.2.below (bl_one _ _)⟩
        refine wpAnyH_as (s9_.out _ gHA _ q2 ne_9_HA ne_10_HA (Nat.ne_of_lt (id q1).2.1.lt) (Nat.ne_of_lt (id q1).2.2.1.lt) (hi (HA.out.below (al_of (id q2).2.2.2.2 (bl_one _ _)))) geHA (hi ((id q1).2.2.2.2.var2 (.int .u64 0) (.int .u64 0) 67)) (id q1).2.2.2.2.sz (Nat.ne_of_lt HA.out.lt)) (by kernel_rfl) (by kernel_rfl) (by kernel_rfl)
      · rw [if_pos (by rfl)]
        go_simp
        refine hK.out _ _ ?_ (fun q2 => ?_)
        · exact ⟨(id q1).1.below (bl_one _ _), (id q1).2.1.below (bl_one _ _), (id q1).2.2.1.below (bl_one _ _), (id q1).2.2.2.1.below (bl_one _ _), (id q1).2.2.2.2.below (bl_one _ _)⟩
        refine wpAnyH_as (s10_.out _ gHA _ q2 ne_9_HA ne_10_HA (Nat.ne_of_lt (id q1).2.1.lt) (Nat.ne_of_lt (id q1).2.2.1.lt) (hi (HA.out.below (al_of (id q2).2.2.2.2 (bl_one _ _)))) geHA (hi ((id q1).2.2.2.2.var2 (.int .u64 0) (.int .u64 0) 67)) (id q1).2.2.2.2.sz (Nat.ne_of_lt HA.out.lt)) (by kernel_rfl) (by kernel_rfl) (by kernel_rfl)
    have s12_ : Hid (∀ (W : World) (gHB : Nat) (gHC : Nat), S0 W → g9 ≠ gHB → g10 ≠ gHB → g9 ≠ gHC → g10 ≠ gHC → Hid (Var W gHB [.int .u64 0, .int .u64 0]) → w.heap.size + 4 ≤ gHB → Hid (Var W gHC [.int .u64 0, .int .u64 0]) → w.heap.size + 4 ≤ gHC → gHB ≠ gHC → wpAnyH Try.prog .any ops0 Qx S0 5 #[true, true, true, true, true, true, false, false, true, true, false, false, false] (Act.put (Act.put (Act.put (Act.put a0 (some 38) v38_) (some 40) v40_) (some 12) (.pointer (some ⟨gHB, 0, none⟩))) (some 13) (.pointer (some ⟨gHC, 0, none⟩))) W) := by
      clear s0_ s1_ s2_ s3_ s5_ s6_ s7_ s9_ s10_ s11_
      refine hi ?_
      intro W1 gHB gHC q1 ne_9_HB ne_10_HB ne_9_HC ne_10_HC HB geHB HC geHC neHBHC
      cases e1; cases e2; cases e3; cases e4; cases f38_; cases f40_; cases f42_
      try simp only [Act.put, x5, x6, x7]
      refine r2 (i := 6) (j := 7) rfl (fun K hK => ?_) rfl (fun K hK => ?_)
      · go_simp
        go_at_call 64
        (with_reducible refine (square_l _ _ Rvx.out Rvy.out _).mono ?_); rintro e w1 ⟨rfl, hb1⟩
        go_wp2_with fail
        refine hK.out _ _ ?_ (fun q2 => ?_)
        · exact ⟨(id q1).1.below hb1, (id q1).2.1.below hb1, (id q1).2.2.1.below hb1, (id q1).2.2.2.1.below hb1, (id q1).2.2.2.2.below hb1⟩
        refine wpAnyH_as (s4_.out _ gHB gHC q2 ne_9_HB ne_10_HB ne_9_HC ne_10_HC (hi (HB.out.below hb1)) geHB (hi (HC.out.below hb1)) geHC neHBHC) (by kernel_rfl) (by kernel_rfl) (by kernel_rfl)
      · go_simp
        refine hK.out _ _ ?_ (fun q2 => ?_)
        · exact ⟨(id q1).1.below (bl_one _ _), (id q1).2.1.below (bl_one _ _), (id q1).2.2.1.below (bl_one _ _), (id q1).2.2.2.1.below (bl_one _ _), (id q1).2.2.2.2.below (bl_one _ _)⟩
        refine wpAnyH_as (s8_.out _ _ gHB gHC q2 (Nat.ne_of_lt (id q1).2.1.lt) (Nat.ne_of_lt (id q1).2.2.1.lt) ne_9_HB ne_10_HB ne_9_HC ne_10_HC (hi ((id q1).2.2.2.2.var2 (.int .u64 0) (.int .u64 0) 67)) (id q1).2.2.2.2.sz (hi (HB.out.below (al_of (id q2).2.2.2.2 (bl_one _ _)))) geHB (hi (HC.out.below (al_of (id q2).2.2.2.2 (bl_one _ _)))) geHC (Nat.ne_of_gt HB.out.lt) (Nat.ne_of_gt HC.out.lt) neHBHC) (by kernel_rfl) (by kernel_rfl) (by kernel_rfl)
    have s13_ : Hid (∀ (W : World) (gHB : Nat), S0 W → g9 ≠ gHB → g10 ≠ gHB → Hid (Var W gHB [.int .u64 0, .int .u64 0]) → w.heap.size + 4 ≤ gHB → wpAnyH Try.prog .any ops0 Qx S0 6 #[true, true, true, true, true, true, false, false, true, false, false, false, false] (Act.put (Act.put (Act.put a0 (some 38) v38_) (some 40) v40_) (some 12) (.pointer (some ⟨gHB, 0, none⟩))) W) := by
      clear s0_ s1_ s2_ s3_ s4_ s6_ s7_ s8_ s10_ s11_
      refine hi ?_
      intro W1 gHB q1 ne_9_HB ne_10_HB HB geHB
      cases e1; cases e2; cases e3; cases e4; cases f38_; cases f40_; cases f42_
      try simp only [Act.put, x5, x6, x7]
      refine wpAnyH_ready (rs := [6, 7, 9]) (by kernel_rfl) (by simp) ?_
      refine (AllReadyH.cons rfl (fun K hK => ?_) (AllReadyH.cons rfl (fun K hK => ?_) (AllReadyH.cons rfl (fun K hK => ?_) AllReadyH.nil)))
      · rw [if_pos (by rfl)]
        go_simp
        go_at_call 64
        (with_reducible refine (square_l _ _ Rvx.out Rvy.out _).mono ?_); rintro e w1 ⟨rfl, hb1⟩
        go_wp2_with fail
        refine hK.out _ _ ?_ (fun q2 => ?_)
        · exact ⟨(id q1).1.below hb1, (id q1).2.1.below hb1, (id q1).2.2.1.below hb1, (id q1).2.2.2.1.below hb1, (id q1).2.2.2.2.below hb1⟩
        refine wpAnyH_as (s5_.out _ gHB q2 ne_9_HB ne_10_HB (hi (HB.out.below hb1)) geHB) (by kernel_rfl) (by kernel_rfl) (by kernel_rfl)
      · rw [if_pos (by rfl)]
        go_simp
        refine hK.out _ _ ?_ (fun q2 => ?_)
        · exact ⟨(id q1).1.below (bl_one _ _), (id q1).2.1.below (bl_one _ _), (id q1).2.2.1.below (bl_one _ _), (id q1).2.2.2.1.below (bl_one _ _), (id q1).2.2.2.2.below (bl_one _ _)⟩
        refine wpAnyH_as (s9_.out _ _ gHB q2 (Nat.ne_of_lt (id q1).2.1.lt) (Nat.ne_of_lt (id q1).2.2.1.lt) ne_9_HB ne_10_HB (hi ((id q1).2.2.2.2.var2 (.int .u64 0) (.int .u64 0) 67)) (id q1).2.2.2.2.sz (hi (HB.out.below (al_of (id q2).2.2.2.2 (bl_one _ _)))) geHB (Nat.ne_of_gt HB.out.lt)) (by kernel_rfl) (by kernel_rfl) (by kernel_rfl)
      · rw [if_pos (by rfl)]
        go_simp
        refine hK.out _ _ ?_ (fun q2 => ?_)
        · exact ⟨(id q1).1.below (bl_one _ _), (id q1).2.1.below (bl_one _ _), (id q1).2.2.1.below (bl_one _ _), (id q1).2.2.2.1.below (bl_one _ _), (id q1).2.2.2.2.below (bl_one _ _)⟩
        refine wpAnyH_as (s12_.out _ gHB _ q2 ne_9_HB ne_10_HB (Nat.ne_of_lt (id q1).2.1.lt) (Nat.ne_of_lt (id q1).2.2.1.lt) (hi (HB.out.below (al_of (id q2).2.2.2.2 (bl_one _ _)))) geHB (hi ((id q1).2.2.2.2.var2 (.int .u64 0) (.int .u64 0) 67)) (id q1).2.2.2.2.sz (Nat.ne_of_lt HB.out.lt)) (by kernel_rfl) (by kernel_rfl) (by kernel_rfl)
    have s14_ : Hid (∀ (W : World) (gHC : Nat), S0 W → g9 ≠ gHC → g10 ≠ gHC → Hid (Var W gHC [.int .u64 0, .int .u64 0]) → w.heap.size + 4 ≤ gHC → wpAnyH Try.prog .any ops0 Qx S0 6 #[true, true, true, true, true, true, false, false, false, true, false, false, false] (Act.put (Act.put (Act.put a0 (some 38) v38_) (some 40) v40_) (some 13) (.pointer (some ⟨gHC, 0, none⟩))) W) := by
      clear s0_ s1_ s2_ s3_ s4_ s5_ s7_ s8_ s9_ s11_ s13_
      refine hi ?_
      intro W1 gHC q1 ne_9_HC ne_10_HC HC geHC
      cases e1; cases e2; cases e3; cases e4; cases f38_; cases f40_; cases f42_
      try simp only [Act.put, x5, x6, x7]
      refine wpAnyH_ready (rs := [6, 7, 8]) (by kernel_rfl) (by simp) ?_
      refine (AllReadyH.cons rfl (fun K hK => ?_) (AllReadyH.cons rfl (fun K hK => ?_) (AllReadyH.cons rfl (fun K hK => ?_) AllReadyH.nil)))
      · rw [if_pos (by rfl)]
        go_simp
        go_at_call 64
        (with_reducible refine (square_l _ _ Rvx.out Rvy.out _).mono ?_); rintro e w1 ⟨rfl, hb1⟩
        go_wp2_with fail
        refine hK.out _ _ ?_ (fun q2 => ?_)
        · exact ⟨(id q1).1.below hb1, (id q1).2.1.below hb1, (id q1).2.2.1.below hb1, (id q1).2.2.2.1.below hb1, (id q1).2.2.2.2.below hb1⟩
        refine wpAnyH_as (s6_.out _ gHC q2 ne_9_HC ne_10_HC (hi (HC.out.below hb1)) geHC) (by kernel_rfl) (by kernel_rfl) (by kernel_rfl)
      · rw [if_pos (by rfl)]
        go_simp
        refine hK.out _ _ ?_ (fun q2 => ?_)
        · exact ⟨(id q1).1.below (bl_one _ _), (id q1).2.1.below (bl_one _ _), (id q1).2.2.1.below (bl_one _ _), (id q1).2.2.2.1.below (bl_one _ _), (id q1).2.2.2.2.below (bl_one _ _)⟩
        refine wpAnyH_as (s10_.out _ _ gHC q2 (Nat.ne_of_lt (id q1).2.1.lt) (Nat.ne_of_lt (id q1).2.2.1.lt) ne_9_HC ne_10_HC (hi ((id q1).2.2.2.2.var2 (.int .u64 0) (.int .u64 0) 67)) (id q1).2.2.2.2.sz (hi (HC.out.below (al_of (id q2).2.2.2.2 (bl_one _ _)))) geHC (Nat.ne_of_gt HC.out.lt)) (by kernel_rfl) (by kernel_rfl) (by kernel_rfl)
      · rw [if_pos (by rfl)]
        go_simp
        refine hK.out _ _ ?_ (fun q2 => ?_)
        · exact ⟨(id q1).1.below (bl_one _ _), (id q1).2.1.below (bl_one _ _), (id q1).2.2.1.below (bl_one _ _), (id q1).2.2.2.1.below (bl_one _ _), (id q1).2.2.2.2.below (bl_one _ _)⟩
        refine wpAnyH_as (s12_.out _ _ gHC q2 (Nat.ne_of_lt (id q1).2.1.lt) (Nat.ne_of_lt (id q1).2.2.1.lt) ne_9_HC ne_10_HC (hi ((id q1).2.2.2.2.var2 (.int .u64 0) (.int .u64 0) 67)) (id q1).2.2.2.2.sz (hi (HC.out.below (al_of (id q2).2.2.2.2 (bl_one _ _)))) geHC (Nat.ne_of_gt HC.out.lt)) (by kernel_rfl) (by kernel_rfl) (by kernel_rfl)
    have s15_ : Hid (∀ (W : World), S0 W → wpAnyH Try.prog .any ops0 Qx S0 7 #[true, true, true, true, true, true, false, false, false, false, false, false, false] (Act.put (Act.put a0 (some 38) v38_) (some 40) v40_) W) := by
      clear s0_ s1_ s2_ s3_ s4_ s5_ s6_ s8_ s9_ s10_ s12_
      refine hi ?_
      intro W1  q1 
      cases e1; cases e2; cases e3; cases e4; cases f38_; cases f40_; cases f42_
      try simp only [Act.put, x5, x6, x7]
      refine wpAnyH_ready (rs := [6, 7, 8, 9]) (by kernel_rfl) (by simp) ?_
      refine (AllReadyH.cons rfl (fun K hK => ?_) (AllReadyH.cons rfl (fun K hK => ?_) (AllReadyH.cons rfl (fun K hK => ?_) (AllReadyH.cons rfl (fun K hK => ?_) AllReadyH.nil))))
      · rw [if_pos (by rfl)]
        go_simp
        go_at_call 64
        (with_reducible refine (square_l _ _ Rvx.out Rvy.out _).mono ?_); rintro e w1 ⟨rfl, hb1⟩
        go_wp2_with fail
        refine hK.out _ _ ?_ (fun q2 => ?_)
        · exact ⟨(id q1).1.below hb1, (id q1).2.1.below hb1, (id q1).2.2.1.below hb1, (id q1).2.2.2.1.below hb1, (id q1).2.2.2.2.below hb1⟩
        refine wpAnyH_as (s7_.out _ q2) (by kernel_rfl) (by kernel_rfl) (by kernel_rfl)
      · rw [if_pos (by rfl)]
        go_simp
        refine hK.out _ _ ?_ (fun q2 => ?_)
        · exact ⟨(id q1).1.below (bl_one _ _), (id q1).2.1.below (bl_one _ _), (id q1).2.2.1.below (bl_one _ _), (id q1).2.2.2.1.below (bl_one _ _), (id q1).2.2.2.2.below (bl_one _ _)⟩
        refine wpAnyH_as (s11_.out _ _ q2 (Nat.ne_of_lt (id q1).2.1.lt) (Nat.ne_of_lt (id q1).2.2.1.lt) (hi ((id q1).2.2.2.2.var2 (.int .u64 0) (.int .u64 0) 67)) (id q1).2.2.2.2.sz) (by kernel_rfl) (by kernel_rfl) (by kernel_rfl)
      · rw [if_pos (by rfl)]
        go_simp
        refine hK.out _ _ ?_ (fun q2 => ?_)
        · exact ⟨(id q1).1.below (bl_one _ _), (id q1).2.1.below (bl_one _ _), (id q1).2.2.1.below (bl_one _ _), (id q1).2.2.2.1.below (bl_one _ _), (id q1).2.2.2.2.below (bl_one _ _)⟩
        refine wpAnyH_as (s13_.out _ _ q2 (Nat.ne_of_lt (id q1).2.1.lt) (Nat.ne_of_lt (id q1).2.2.1.lt) (hi ((id q1).2.2.2.2.var2 (.int .u64 0) (.int .u64 0) 67)) (id q1).2.2.2.2.sz) (by kernel_rfl) (by kernel_rfl) (by kernel_rfl)
      · rw [if_pos (by rfl)]
        go_simp
        refine hK.out _ _ ?_ (fun q2 => ?_)
        · exact ⟨(id q1).1.below (bl_one _ _), (id q1).2.1.below (bl_one _ _), (id q1).2.2.1.below (bl_one _ _), (id q1).2.2.2.1.below (bl_one _ _), (id q1).2.2.2.2.below (bl_one _ _)⟩
        refine wpAnyH_as (s14_.out _ _ q2 (Nat.ne_of_lt (id q1).2.1.lt) (Nat.ne_of_lt (id q1).2.2.1.lt) (hi ((id q1).2.2.2.2.var2 (.int .u64 0) (.int .u64 0) 67)) (id q1).2.2.2.2.sz) (by kernel_rfl) (by kernel_rfl) (by kernel_rfl)
    have s16_ : Hid (∀ (W : World) (gHA : Nat) (gHB : Nat) (gHC : Nat), S0 W → g9 ≠ gHA → g10 ≠ gHA → g9 ≠ gHB → g10 ≠ gHB → g9 ≠ gHC → g10 ≠ gHC → Hid (Var W gHA [.int .u64 0, .int .u64 0]) → w.heap.size + 4 ≤ gHA → Hid (Var W gHB [.int .u64 0, .int .u64 0]) → w.heap.size + 4 ≤ gHB → Hid (Var W gHC [.int .u64 0, .int .u64 0]) → w.heap.size + 4 ≤ gHC → gHA ≠ gHB → gHA ≠ gHC → gHB ≠ gHC → wpAnyH Try.prog .any ops0 Qx S0 5 #[true, true, true, true, false, true, false, true, true, true, false, false, false] (Act.put (Act.put (Act.put (Act.put a0 (some 38) v38_) (some 11) (.pointer (some ⟨gHA, 0, none⟩))) (some 12) (.pointer (some ⟨gHB, 0, none⟩))) (some 13) (.pointer (some ⟨gHC, 0, none⟩))) W) := by
      clear s0_ s1_ s2_ s3_ s4_ s5_ s6_ s7_ s9_ s10_ s11_ s12_ s13_ s14_ s15_
      refine hi ?_
      intro W1 gHA gHB gHC q1 ne_9_HA ne_10_HA ne_9_HB ne_10_HB ne_9_HC ne_10_HC HA geHA HB geHB HC geHC neHAHB neHAHC neHBHC
      cases e1; cases e2; cases e3; cases e4; cases f38_; cases f40_; cases f42_
      try simp only [Act.put, x5, x6, x7]
      refine r1 (i := 4) rfl (fun K hK => ?_)
      · go_simp
        go_at_call 64
        (with_reducible refine (square_l _ _ Rux.out Ruy.out _).mono ?_); rintro e w1 ⟨rfl, hb1⟩
        go_wp2_with fail
        refine hK.out _ _ ?_ (fun q2 => ?_)
        · exact ⟨(id q1).1.below hb1, (id q1).2.1.below hb1, (id q1).2.2.1.below hb1, (id q1).2.2.2.1.below hb1, (id q1).2.2.2.2.below hb1⟩
        refine wpAnyH_as (s8_.out _ gHA gHB gHC q2 ne_9_HA ne_10_HA ne_9_HB ne_10_HB ne_9_HC ne_10_HC (hi (HA.out.below hb1)) geHA (hi (HB.out.below hb1)) geHB (hi (HC.out.below hb1)) geHC neHAHB neHAHC neHBHC) (by kernel_rfl) (by kernel_rfl) (by kernel_rfl)
    have s17_ : Hid (∀ (W : World) (gHA : Nat) (gHB : Nat), S0 W → g9 ≠ gHA → g10 ≠ gHA → g9 ≠ gHB → g10 ≠ gHB → Hid (Var W gHA [.int .u64 0, .int .u64 0]) → w.heap.size + 4 ≤ gHA → Hid (Var W gHB [.int .u64 0, .int .u64 0]) → w.heap.size + 4 ≤ gHB → gHA ≠ gHB → wpAnyH Try.prog .any ops0 Qx S0 6 #[true, true, true, true, false, true, false, true, true, false, false, false, false] (Act.put (Act.put (Act.put a0 (some 38) v38_) (some 11) (.pointer (some ⟨gHA, 0, none⟩))) (some 12) (.pointer (some ⟨gHB, 0, none⟩))) W) := by
      clear s0_ s1_ s2_ s3_ s4_ s5_ s6_ s7_ s8_ s10_ s11_ s12_ s13_ s14_ s15_
      refine hi ?_
      intro W1 gHA gHB q1 ne_9_HA ne_10_HA ne_9_HB ne_10_HB HA geHA HB geHB neHAHB
      cases e1; cases e2; cases e3; cases e4; cases f38_; cases f40_; cases f42_
      try simp only [Act.put, x5, x6, x7]
      refine r2 (i := 4) (j := 9) rfl (fun K hK => ?_) rfl (fun K hK => ?_)
      · go_simp
        go_at_call 64
        (with_reducible refine (square_l _ _ Rux.out Ruy.out _).mono ?_); rintro e w1 ⟨rfl, hb1⟩
        go_wp2_with fail
        refine hK.out _ _ ?_ (fun q2 => ?_)
        · exact ⟨(id q1).1.below hb1, (id q1).2.1.below hb1, (id q1).2.2.1.below hb1, (id q1).2.2.2.1.below hb1, (id q1).2.2.2.2.below hb1⟩
        refine wpAnyH_as (s9_.out _ gHA gHB q2 ne_9_HA ne_10_HA ne_9_HB ne_10_HB (hi (HA.out.below hb1)) geHA (hi (HB.out.below hb1)) geHB neHAHB) (by kernel_rfl) (by kernel_rfl) (by kernel_rfl)
      · go_simp
        refine hK.out _ _ ?_ (fun q2 => ?_)
        · exact ⟨(id q1).1.below (bl_one _ _), (id q1).2.1.below (bl_one _ _), (id q1).2.2.1.below (bl_one _ _), (id q1).2.2.2.1.below (bl_one _ _), (id q1).2.2.2.2.below (bl_one _ _)⟩
        refine wpAnyH_as (s16_.out _ gHA gHB _ q2 ne_9_HA ne_10_HA ne_9_HB ne_10_HB (Nat.ne_of_lt (id q1).2.1.lt) (Nat.ne_of_lt (id q1).2.2.1.lt) (hi (HA.out.below (al_of (id q2).2.2.2.2 (bl_one _ _)))) geHA (hi (HB.out.below (al_of (id q2).2.2.2.2 (bl_one _ _)))) geHB (hi ((id q1).2.2.2.2.var2 (.int .u64 0) (.int .u64 0) 67)) (id q1).2.2.2.2.sz neHAHB (Nat.ne_of_lt HA.out.lt) (Nat.ne_of_lt HB.out.lt)) (by kernel_rfl) (by kernel_rfl) (by kernel_rfl)
    have s18_ : Hid (∀ (W : World) (gHA : Nat) (gHC : Nat), S0 W → g9 ≠ gHA → g10 ≠ gHA → g9 ≠ gHC → g10 ≠ gHC → Hid (Var W gHA [.int .u64 0, .int .u64 0]) → w.heap.size + 4 ≤ gHA → Hid (Var W gHC [.int .u64 0, .int .u64 0]) → w.heap.size + 4 ≤ gHC → gHA ≠ gHC → wpAnyH Try.prog .any ops0 Qx S0 6 #[true, true, true, true, false, true, false, true, false, true, false, false, false] (Act.put (Act.put (Act.put a0 (some 38) v38_) (some 11) (.pointer (some ⟨gHA, 0, none⟩))) (some 13) (.pointer (some ⟨gHC, 0, none⟩))) W) := by
      clear s0_ s1_ s2_ s3_ s4_ s5_ s6_ s7_ s8_ s9_ s11_ s12_ s13_ s14_ s15_ s17_
      refine hi ?_
      intro W1 gHA gHC q1 ne_9_HA ne_10_HA ne_9_HC ne_10_HC HA geHA HC geHC neHAHC
      cases e1; cases e2; cases e3; cases e4; cases f38_; cases f40_; cases f42_
      try simp only [Act.put, x5, x6, x7]
      refine r2 (i := 4) (j := 8) rfl (fun K hK => ?_) rfl (fun K hK => ?_)
      · go_simp
        go_at_call 64
        (with_reducible refine (square_l _ _ Rux.out Ruy.out _).mono ?_); rintro e w1 ⟨rfl, hb1⟩
        go_wp2_with fail
        refine hK.out _ _ ?_ (fun q2 => ?_)
        · exact ⟨(id q1).1.below hb1, (id q1).2.1.below hb1, (id q1).2.2.1.below hb1, (id q1).2.2.2.1.below hb1, (id q1).2.2.2.2.below hb1⟩
        refine wpAnyH_as (s10_.out _ gHA gHC q2 ne_9_HA ne_10_HA ne_9_HC ne_10_HC (hi (HA.out.below hb1)) geHA (hi (HC.out.below hb1)) geHC neHAHC) (by kernel_rfl) (by kernel_rfl) (by kernel_rfl)
      · go_simp
        refine hK.out _ _ ?_ (fun q2 => ?_)
        · exact ⟨(id q1).1.below (bl_one _ _), (id q1).2.1.below (bl_one _ _), (id q1).2.2.1.below (bl_one _ _), (id q1).2.2.2.1.below (bl_one _ _), (id q1).2.2.2.2.below (bl_one _ _)⟩
        refine wpAnyH_as (s16_.out _ gHA _ gHC q2 ne_9_HA ne_10_HA (Nat.ne_of_lt (id q1).2.1.lt) (Nat.ne_of_lt (id q1).2.2.1.lt) ne_9_HC ne_10_HC (hi (HA.out.below (al_of (id q2).2.2.2.2 (bl_one _ _)))) geHA (hi ((id q1).2.2.2.2.var2 (.int .u64 0) (.int .u64 0) 67)) (id q1).2.2.2.2.sz (hi (HC.out.below (al_of (id q2).2.2.2.2 (bl_one _ _)))) geHC (Nat.ne_of_lt HA.out.lt) neHAHC (Nat.ne_of_gt HC.out.lt)) (by kernel_rfl) (by kernel_rfl) (by kernel_rfl)
    have s19_ : Hid (∀ (W : World) (gHA : Nat), S0 W → g9 ≠ gHA → g10 ≠ gHA → Hid (Var W gHA [.int .u64 0, .int .u64 0]) → w.heap.size + 4 ≤ gHA → wpAnyH Try.prog .any ops0 Qx S0 7 #[true, true, true, true, false, true, false, true, false, false, false, false, false] (Act.put (Act.put a0 (some 38) v38_) (some 11) (.pointer (some ⟨gHA, 0, none⟩))) W) := by
      clear s0_ s1_ s2_ s3_ s4_ s5_ s6_ s7_ s8_ s9_ s10_ s12_ s13_ s14_ s15_ s16_
      refine hi ?_
      intro W1 gHA q1 ne_9_HA ne_10_HA HA geHA
      cases e1; cases e2; cases e3; cases e4; cases f38_; cases f40_; cases f42_
      try simp only [Act.put, x5, x6, x7]
      refine wpAnyH_ready (rs := [4, 8, 9]) (by kernel_rfl) (by simp) ?_
      refine (AllReadyH.cons rfl (fun K hK => ?_) (AllReadyH.cons rfl (fun K hK => ?_) (AllReadyH.cons rfl (fun K hK => ?_) AllReadyH.nil)))
      · rw [if_pos (by rfl)]
        go_simp
        go_at_call 64
        (with_reducible refine (square_l _ _ Rux.out Ruy.out _).mono ?_); rintro e w1 ⟨rfl, hb1⟩
        go_wp2_with fail
        refine hK.out _ _ ?_ (fun q2 => ?_)
        · exact ⟨(id q1).1.below hb1, (id q1).2.1.below hb1, (id q1).2.2.1.below hb1, (id q1).2.2.2.1.below hb1, (id q1).2.2.2.2.below hb1⟩
        refine wpAnyH_as (s11_.out _ gHA q2 ne_9_HA ne_10_HA (hi (HA.out.below hb1)) geHA) (by kernel_rfl) (by kernel_rfl) (by kernel_rfl)
      · rw [if_pos (by rfl)]
        go_simp
        refine hK.out _ _ ?_ (fun q2 => ?_)
        · exact ⟨(id q1).1.below (bl_one _ _), (id q1).2.1.below (bl_one _ _), (id q1).2.2.1.below (bl_one _ _), (id q1).2.2.2.1.below (bl_one _ _), (id q1).2.2.2.2.below (bl_one _ _)⟩
        refine wpAnyH_as (s17_.out _ gHA _ q2 ne_9_HA ne_10_HA (Nat.ne_of_lt (id q1).2.1.lt) (Nat.ne_of_lt (id q1).2.2.1.lt) (hi (HA.out.below (al_of (id q2).2.2.2.2 (bl_one _ _)))) geHA (hi ((id q1).2.2.2.2.var2 (.int .u64 0) (.int .u64 0) 67)) (id q1).2.2.2.2.sz (Nat.ne_of_lt HA.out.lt)) (by kernel_rfl) (by kernel_rfl) (by kernel_rfl)
      · rw [if_pos (by rfl)]
        go_simp
        refine hK.out _ _ ?_ (fun q2 => ?_)
        · exact ⟨(id q1).1.below (bl_one _ _), (id q1).2.1.below (bl_one _ _), (id q1).2.2.1.below (bl_one _ _), (id q1).2.2.2.1.below (bl_one _ _), (id q1).2.2.2.2.below (bl_one _ _)⟩
        refine wpAnyH_as (s18_.out _ gHA _ q2 ne_9_HA ne_10_HA (Nat.ne_of_lt (id q1).2.1.lt) (Nat.ne_of_lt (id q1).2.2.1.lt) (hi (HA.out.below (al_of (id q2).2.2.2.2 (bl_one _ _)))) geHA (hi ((id q1).2.2.2.2.var2 (.int .u64 0) (.int .u64 0) 67)) (id q1).2.2.2.2.sz (Nat.ne_of_lt HA.out.lt)) (by kernel_rfl) (by kernel_rfl) (by kernel_rfl)
    have s20_ : Hid (∀ (W : World) (gHB : Nat) (gHC : Nat), S0 W → g9 ≠ gHB → g10 ≠ gHB → g9 ≠ gHC → g10 ≠ gHC → Hid (Var W gHB [.int .u64 0, .int .u64 0]) → w.heap.size + 4 ≤ gHB → Hid (Var W gHC [.int .u64 0, .int .u64 0]) → w.heap.size + 4 ≤ gHC → gHB ≠ gHC → wpAnyH Try.prog .any ops0 Qx S0 6 #[true, true, true, true, false, true, false, false, true, true, false, false, false] (Act.put (Act.put (Act.put a0 (some 38) v38_) (some 12) (.pointer (some ⟨gHB, 0, none⟩))) (some 13) (.pointer (some ⟨gHC, 0, none⟩))) W) := by
      clear s0_ s1_ s2_ s3_ s4_ s5_ s6_ s7_ s8_ s9_ s10_ s11_ s13_ s14_ s15_ s17_ s18_ s19_
      refine hi ?_
      intro W1 gHB gHC q1 ne_9_HB ne_10_HB ne_9_HC ne_10_HC HB geHB HC geHC neHBHC
      cases e1; cases e2; cases e3; cases e4; cases f38_; cases f40_; cases f42_
      try simp only [Act.put, x5, x6, x7]
      refine r2 (i := 4) (j := 7) rfl (fun K hK => ?_) rfl (fun K hK => ?_)
      · go_simp
        go_at_call 64
        (with_reducible refine (square_l _ _ Rux.out Ruy.out _).mono ?_); rintro e w1 ⟨rfl, hb1⟩
        go_wp2_with fail
        refine hK.out _ _ ?_ (fun q2 => ?_)
        · exact ⟨(id q1).1.below hb1, (id q1).2.1.below hb1, (id q1).2.2.1.below hb1, (id q1).2.2.2.1.below hb1, (id q1).2.2.2.2.below hb1⟩
        refine wpAnyH_as (s12_.out _ gHB gHC q2 ne_9_HB ne_10_HB ne_9_HC ne_10_HC (hi (HB.out.below hb1)) geHB (hi (HC.out.below hb1)) geHC neHBHC) (by kernel_rfl) (by kernel_rfl) (by kernel_rfl)
      · go_simp
        refine hK.out _ _ ?_ (fun q2 => ?_)
        · exact ⟨(id q1).1.below (bl_one _ _), (id q1).2.1.below (bl_one _ _), (id q1).2.2.1.below (bl_one _ _), (id q1).2.2.2.1.below (bl_one _ _), (id q1).2.2.2.2.below (bl_one _ _)⟩
        refine wpAnyH_as (s16_.out _ _ gHB gHC q2 (Nat.ne_of_lt (id q1).2.1.lt) (Nat.ne_of_lt (id q1).2.2.1.lt) ne_9_HB ne_10_HB ne_9_HC ne_10_HC (hi ((id q1).2.2.2.2.var2 (.int .u64 0) (.int .u64 0) 67)) (id q1).2.2.2.2.sz (hi (HB.out.below (al_of (id q2).2.2.2.2 (bl_one _ _)))) geHB (hi (HC.out.below (al_of (id q2).2.2.2.2 (bl_one _ _)))) geHC (Nat.ne_of_gt HB.out.lt) (Nat.ne_of_gt HC.out.lt) neHBHC) (by kernel_rfl) (by kernel_rfl) (by kernel_rfl)
    have s21_ : Hid (∀ (W : World) (gHB : Nat), S0 W → g9 ≠ gHB → g10 ≠ gHB → Hid (Var W gHB [.int .u64 0, .int .u64 0]) → w.heap.size + 4 ≤ gHB → wpAnyH Try.prog .any ops0 Qx S0 7 #[true, true, true, true, false, true, false, false, true, false, false, false, false] (Act.put (Act.put a0 (some 38) v38_) (some 12) (.pointer (some ⟨gHB, 0, none⟩))) W) := by
      clear s0_ s1_ s2_ s3_ s4_ s5_ s6_ s7_ s8_ s9_ s10_ s11_ s12_ s14_ s15_ s16_ s18_ s19_
      refine hi ?_
      intro W1 gHB q1 ne_9_HB ne_10_HB HB geHB
      cases e1; cases e2; cases e3; cases e4; cases f38_; cases f40_; cases f42_
      try simp only [Act.put, x5, x6, x7]
      refine wpAnyH_ready (rs := [4, 7, 9]) (by kernel_rfl) (by simp) ?_
      refine (AllReadyH.cons rfl (fun K hK => ?_) (AllReadyH.cons rfl (fun K hK => ?_) (AllReadyH.cons rfl (fun K hK => ?_) AllReadyH.nil)))
      · rw [if_pos (by rfl)]
        go_simp
        go_at_call 64
        (with_reducible refine (square_l _ _ Rux.out Ruy.out _).mono ?_); rintro e w1 ⟨rfl, hb1⟩
        go_wp2_with fail
        refine hK.out _ _ ?_ (fun q2 => ?_)
        · exact ⟨(id q1).1.below hb1, (id q1).2.1.below hb1, (id q1).2.2.1.below hb1, (id q1).2.2.2.1.below hb1, (id q1).2.2.2.2.below hb1⟩
        refine wpAnyH_as (s13_.out _ gHB q2 ne_9_HB ne_10_HB (hi (HB.out.below hb1)) geHB) (by kernel_rfl) (by kernel_rfl) (by kernel_rfl)
      · rw [if_pos (by rfl)]
        go_simp
        refine hK.out _ _ ?_ (fun q2 => ?_)
        · exact ⟨(id q1).1.below (bl_one _ _), (id q1).2.1.below (bl_one _ _), (id q1).2.2.1.below (bl_one _ _), (id q1).2.2.2.1.below (bl_one _ _), (id q1).2.2.2.2.below (bl_one _ _)⟩
        refine wpAnyH_as (s17_.out _ _ gHB q2 (Nat.ne_of_lt (id q1).2.1.lt) (Nat.ne_of_lt (id q1).2.2.1.lt) ne_9_HB ne_10_HB (hi ((id q1).2.2.2.2.var2 (.int .u64 0) (.int .u64 0) 67)) (id q1).2.2.2.2.sz (hi (HB.out.below (al_of (id q2).2.2.2.2 (bl_one _ _)))) geHB (Nat.ne_of_gt HB.out.lt)) (by kernel_rfl) (by kernel_rfl) (by kernel_rfl)
      · rw [if_pos (by rfl)]
        go_simp
        refine hK.out _ _ ?_ (fun q2 => ?_)
        · exact ⟨(id q1).1.below (bl_one _ _), (id q1).2.1.below (bl_one _ _), (id q1).2.2.1.below (bl_one _ _), (id q1).2.2.2.1.below (bl_one _ _), (id q1).2.2.2.2.below (bl_one _ _)⟩
        refine wpAnyH_as (s20_.out _ gHB _ q2 ne_9_HB ne_10_HB (Nat.ne_of_lt (id q1).2.1.lt) (Nat.ne_of_lt (id q1).2.2.1.lt) (hi (HB.out.below (al_of (id q2).2.2.2.2 (bl_one _ _)))) geHB (hi ((id q1).2.2.2.2.var2 (.int .u64 0) (.int .u64 0) 67)) (id q1).2.2.2.2.sz (Nat.ne_of_lt HB.out.lt)) (by kernel_rfl) (by kernel_rfl) (by kernel_rfl)
    have s22_ : Hid (∀ (W : World) (gHC : Nat), S0 W → g9 ≠ gHC → g10 ≠ gHC → Hid (Var W gHC [.int .u64 0, .int .u64 0]) → w.heap.size + 4 ≤ gHC → wpAnyH Try.prog .any ops0 Qx S0 7 #[true, true, true, true, false, true, false, false, false, true, false, false, false] (Act.put (Act.put a0 (some 38) v38_) (some 13) (.pointer (some ⟨gHC, 0, none⟩))) W) := by
      clear s0_ s1_ s2_ s3_ s4_ s5_ s6_ s7_ s8_ s9_ s10_ s11_ s12_ s13_ s15_ s16_ s17_ s19_ s21_
      refine hi ?_
      intro W1 gHC q1 ne_9_HC ne_10_HC HC geHC
      cases e1; cases e2; cases e3; cases e4; cases f38_; cases f40_; cases f42_
      try simp only [Act.put, x5, x6, x7]
      refine wpAnyH_ready (rs := [4, 7, 8]) (by kernel_rfl) (by simp) ?_
      refine (AllReadyH.cons rfl (fun K hK => ?_) (AllReadyH.cons rfl (fun K hK => ?_) (AllReadyH.cons rfl (fun K hK => ?_) AllReadyH.nil)))
      · rw [if_pos (by rfl)]
        go_simp
        go_at_call 64
        (with_reducible refine (square_l _ _ Rux.out Ruy.out _).mono ?_); rintro e w1 ⟨rfl, hb1⟩
        go_wp2_with fail
        refine hK.out _ _ ?_ (fun q2 => ?_)
        · exact ⟨(id q1).1.below hb1, (id q1).2.1.below hb1, (id q1).2.2.1.below hb1, (id q1).2.2.2.1.below hb1, (id q1).2.2.2.2.below hb1⟩
        refine wpAnyH_as (s14_.out _ gHC q2 ne_9_HC ne_10_HC (hi (HC.out.below hb1)) geHC) (by kernel_rfl) (by kernel_rfl) (by kernel_rfl)
      · rw [if_pos (by rfl)]
        go_simp
        refine hK.out _ _ ?_ (fun q2 => ?_)
        · exact ⟨(id q1).1.below (bl_one _ _), (id q1).2.1.below (bl_one _ _), (id q1).2.2.1.below (bl_one _ _), (id q1).2.2.2.1.below (bl_one _ _), (id q1).2.2.2.2.below (bl_one _ _)⟩
        refine wpAnyH_as (s18_.out _ _ gHC q2 (Nat.ne_of_lt (id q1).2.1.lt) (Nat.ne_of_lt (id q1).2.2.1.lt) ne_9_HC ne_10_HC (hi ((id q1).2.2.2.2.var2 (.int .u64 0) (.int .u64 0) 67)) (id q1).2.2.2.2.sz (hi (HC.out.below (al_of (id q2).2.2.2.2 (bl_one _ _)))) geHC (Nat.ne_of_gt HC.out.lt)) (by kernel_rfl) (by kernel_rfl) (by kernel_rfl)
      · rw [if_pos (by rfl)]
        go_simp
        refine hK.out _ _ ?_ (fun q2 => ?_)
        · exact ⟨(id q1).1.below (bl_one _ _), (id q1).2.1.below (bl_one _ _), (id q1).2.2.1.below (bl_one _ _), (id q1).2.2.2.1.below (bl_one _ _), (id q1).2.2.2.2.below (bl_one _ _)⟩
        refine wpAnyH_as (s20_.out _ _ gHC q2 (Nat.ne_of_lt (id q1).2.1.lt) (Nat.ne_of_lt (id q1).2.2.1.lt) ne_9_HC ne_10_HC (hi ((id q1).2.2.2.2.var2 (.int .u64 0) (.int .u64 0) 67)) (id q1).2.2.2.2.sz (hi (HC.out.below (al_of (id q2).2.2.2.2 (bl_one _ _)))) geHC (Nat.ne_of_gt HC.out.lt)) (by kernel_rfl) (by kernel_rfl) (by kernel_rfl)
    have s23_ : Hid (∀ (W : World), S0 W → wpAnyH Try.prog .any ops0 Qx S0 8 #[true, true, true, true, false, true, false, false, false, false, false, false, false] (Act.put a0 (some 38) v38_) W) := by
      clear s0_ s1_ s2_ s3_ s4_ s5_ s6_ s7_ s8_ s9_ s10_ s11_ s12_ s13_ s14_ s16_ s17_ s18_ s20_
      refine hi ?_
      intro W1  q1 
      cases e1; cases e2; cases e3; cases e4; cases f38_; cases f40_; cases f42_
      try simp only [Act.put, x5, x6, x7]
      refine wpAnyH_ready (rs := [4, 7, 8, 9]) (by kernel_rfl) (by simp) ?_
      refine (AllReadyH.cons rfl (fun K hK => ?_) (AllReadyH.cons rfl (fun K hK => ?_) (AllReadyH.cons rfl (fun K hK => ?_) (AllReadyH.cons rfl (fun K hK => ?_) AllReadyH.nil))))
      · rw [if_pos (by rfl)]
        go_simp
        go_at_call 64
        (with_reducible refine (square_l _ _ Rux.out Ruy.out _).mono ?_); rintro e w1 ⟨rfl, hb1⟩
        go_wp2_with fail
        refine hK.out _ _ ?_ (fun q2 => ?_)
        · exact ⟨(id q1).1.below hb1, (id q1).2.1.below hb1, (id q1).2.2.1.below hb1, (id q1).2.2.2.1.below hb1, (id q1).2.2.2.2.below hb1⟩
        refine wpAnyH_as (s15_.out _ q2) (by kernel_rfl) (by kernel_rfl) (by kernel_rfl)
      · rw [if_pos (by rfl)]
        go_simp
        refine hK.out _ _ ?_ (fun q2 => ?_)
        · exact ⟨(id q1).1.below (bl_one _ _), (id q1).2.1.below (bl_one _ _), (id q1).2.2.1.below (bl_one _ _), (id q1).2.2.2.1.below (bl_one _ _), (id q1).2.2.2.2.below (bl_one _ _)⟩
        refine wpAnyH_as (s19_.out _ _ q2 (Nat.ne_of_lt (id q1).2.1.lt) (Nat.ne_of_lt (id q1).2.2.1.lt) (hi ((id q1).2.2.2.2.var2 (.int .u64 0) (.int .u64 0) 67)) (id q1).2.2.2.2.sz) (by kernel_rfl) (by kernel_rfl) (by kernel_rfl)
      · rw [if_pos (by rfl)]
        go_simp
        refine hK.out _ _ ?_ (fun q2 => ?_)
        · exact ⟨(id q1).1.below (bl_one _ _), (id q1).2.1.below (bl_one _ _), (id q1).2.2.1.below (bl_one _ _), (id q1).2.2.2.1.below (bl_one _ _), (id q1).2.2.2.2.below (bl_one _ _)⟩
        refine wpAnyH_as (s21_.out _ _ q2 (Nat.ne_of_lt (id q1).2.1.lt) (Nat.ne_of_lt (id q1).2.2.1.lt) (hi ((id q1).2.2.2.2.var2 (.int .u64 0) (.int .u64 0) 67)) (id q1).2.2.2.2.sz) (by kernel_rfl) (by kernel_rfl) (by kernel_rfl)
      · rw [if_pos (by rfl)]
        go_simp
        refine hK.out _ _ ?_ (fun q2 => ?_)
        · exact ⟨(id q1).1.below (bl_one _ _), (id q1).2.1.below (bl_one _ _), (id q1).2.2.1.below (bl_one _ _), (id q1).2.2.2.1.below (bl_one _ _), (id q1).2.2.2.2.below (bl_one _ _)⟩
        refine wpAnyH_as (s22_.out _ _ q2 (Nat.ne_of_lt (id q1).2.1.lt) (Nat.ne_of_lt (id q1).2.2.1.lt) (hi ((id q1).2.2.2.2.var2 (.int .u64 0) (.int .u64 0) 67)) (id q1).2.2.2.2.sz) (by kernel_rfl) (by kernel_rfl) (by kernel_rfl)
    have s24_ : Hid (∀ (W : World) (gHA : Nat) (gHB : Nat) (gHC : Nat), S0 W → g9 ≠ gHA → g10 ≠ gHA → g9 ≠ gHB → g10 ≠ gHB → g9 ≠ gHC → g10 ≠ gHC → Hid (Var W gHA [.int .u64 0, .int .u64 0]) → w.heap.size + 4 ≤ gHA → Hid (Var W gHB [.int .u64 0, .int .u64 0]) → w.heap.size + 4 ≤ gHB → Hid (Var W gHC [.int .u64 0, .int .u64 0]) → w.heap.size + 4 ≤ gHC → gHA ≠ gHB → gHA ≠ gHC → gHB ≠ gHC → wpAnyH Try.prog .any ops0 Qx S0 6 #[true, true, false, true, false, true, false, true, true, true, false, false, false] (Act.put (Act.put (Act.put a0 (some 11) (.pointer (some ⟨gHA, 0, none⟩))) (some 12) (.pointer (some ⟨gHB, 0, none⟩))) (some 13) (.pointer (some ⟨gHC, 0, none⟩))) W) := by
      clear s0_ s1_ s2_ s3_ s4_ s5_ s6_ s7_ s8_ s9_ s10_ s11_ s12_ s13_ s14_ s15_ s17_ s18_ s19_ s20_ s21_ s22_ s23_
      refine hi ?_
      intro W1 gHA gHB gHC q1 ne_9_HA ne_10_HA ne_9_HB ne_10_HB ne_9_HC ne_10_HC HA geHA HB geHB HC geHC neHAHB neHAHC neHBHC
      cases e1; cases e2; cases e3; cases e4; cases f38_; cases f40_; cases f42_
      try simp only [Act.put, x5, x6, x7]
      refine r1 (i := 2) rfl (fun K hK => ?_)
      · go_simp
        go_at_call 55
        (with_reducible refine (cross_l _ _ _ _ Rux.out Ruy.out Rvx.out Rvy.out _).mono ?_); rintro e w1 ⟨rfl, hb1⟩
        go_wp2_with fail
        refine hK.out _ _ ?_ (fun q2 => ?_)
        · exact ⟨(id q1).1.below hb1, (id q1).2.1.below hb1, (id q1).2.2.1.below hb1, (id q1).2.2.2.1.below hb1, (id q1).2.2.2.2.below hb1⟩
        refine wpAnyH_as (s16_.out _ gHA gHB gHC q2 ne_9_HA ne_10_HA ne_9_HB ne_10_HB ne_9_HC ne_10_HC (hi (HA.out.below hb1)) geHA (hi (HB.out.below hb1)) geHB (hi (HC.out.below hb1)) geHC neHAHB neHAHC neHBHC) (by kernel_rfl) (by kernel_rfl) (by kernel_rfl)
    have s25_ : Hid (∀ (W : World) (gHA : Nat) (gHB : Nat), S0 W → g9 ≠ gHA → g10 ≠ gHA → g9 ≠ gHB → g10 ≠ gHB → Hid (Var W gHA [.int .u64 0, .int .u64 0]) → w.heap.size + 4 ≤ gHA → Hid (Var W gHB [.int .u64 0, .int .u64 0]) → w.heap.size + 4 ≤ gHB → gHA ≠ gHB → wpAnyH Try.prog .any ops0 Qx S0 7 #[true, true, false, true, false, true, false, true, true, false, false, false, false] (Act.put (Act.put a0 (some 11) (.pointer (some ⟨gHA, 0, none⟩))) (some 12) (.pointer (some ⟨gHB, 0, none⟩))) W) := by
      clear s0_ s1_ s2_ s3_ s4_ s5_ s6_ s7_ s8_ s9_ s10_ s11_ s12_ s13_ s14_ s15_ s16_ s18_ s19_ s20_ s21_ s22_ s23_
      refine hi ?_
      intro W1 gHA gHB q1 ne_9_HA ne_10_HA ne_9_HB ne_10_HB HA geHA HB geHB neHAHB
      cases e1; cases e2; cases e3; cases e4; cases f38_; cases f40_; cases f42_
      try simp only [Act.put, x5, x6, x7]
      refine r2 (i := 2) (j := 9) rfl (fun K hK => ?_) rfl (fun K hK => ?_)
      · go_simp
        go_at_call 55
        (with_reducible refine (cross_l _ _ _ _ Rux.out Ruy.out Rvx.out Rvy.out _).mono ?_); rintro e w1 ⟨rfl, hb1⟩
        go_wp2_with fail
        refine hK.out _ _ ?_ (fun q2 => ?_)
        · exact ⟨(id q1).1.below hb1, (id q1).2.1.below hb1, (id q1).2.2.1.below hb1, (id q1).2.2.2.1.below hb1, (id q1).2.2.2.2.below hb1⟩
        refine wpAnyH_as (s17_.out _ gHA gHB q2 ne_9_HA ne_10_HA ne_9_HB ne_10_HB (hi (HA.out.below hb1)) geHA (hi (HB.out.below hb1)) geHB neHAHB) (by kernel_rfl) (by kernel_rfl) (by kernel_rfl)
      · go_simp
        refine hK.out _ _ ?_ (fun q2 => ?_)
        · exact ⟨(id q1).1.below (bl_one _ _), (id q1).2.1.below (bl_one _ _), (id q1).2.2.1.below (bl_one _ _), (id q1).2.2.2.1.below (bl_one _ _), (id q1).2.2.2.2.below (bl_one _ _)⟩
        refine wpAnyH_as (s24_.out _ gHA gHB _ q2 ne_9_HA ne_10_HA ne_9_HB ne_10_HB (Nat.ne_of_lt (id q1).2.1.lt) (Nat.ne_of_lt (id q1).2.2.1.lt) (hi (HA.out.below (al_of (id q2).2.2.2.2 (bl_one _ _)))) geHA (hi (HB.out.below (al_of (id q2).2.2.2.2 (bl_one _ _)))) geHB (hi ((id q1).2.2.2.2.var2 (.int .u64 0) (.int .u64 0) 67)) (id q1).2.2.2.2.sz neHAHB (Nat.ne_of_lt HA.out.lt) (Nat.ne_of_lt HB.out.lt)) (by kernel_rfl) (by kernel_rfl) (by kernel_rfl)
    have s26_ : Hid (∀ (W : World) (gHA : Nat) (gHC : Nat), S0 W → g9 ≠ gHA → g10 ≠ gHA → g9 ≠ gHC → g10 ≠ gHC → Hid (Var W gHA [.int .u64 0, .int .u64 0]) → w.heap.size + 4 ≤ gHA → Hid (Var W gHC [.int .u64 0, .int .u64 0]) → w.heap.size + 4 ≤ gHC → gHA ≠ gHC → wpAnyH Try.prog .any ops0 Qx S0 7 #[true, true, false, true, false, true, false, true, false, true, false, false, false] (Act.put (Act.put a0 (some 11) (.pointer (some ⟨gHA, 0, none⟩))) (some 13) (.pointer (some ⟨gHC, 0, none⟩))) W) := by
      clear s0_ s1_ s2_ s3_ s4_ s5_ s6_ s7_ s8_ s9_ s10_ s11_ s12_ s13_ s14_ s15_ s16_ s17_ s19_ s20_ s21_ s22_ s23_ s25_
      refine hi ?_
      intro W1 gHA gHC q1 ne_9_HA ne_10_HA ne_9_HC ne_10_HC HA geHA HC geHC neHAHC
      cases e1; cases e2; cases e3; cases e4; cases f38_; cases f40_; cases f42_
      try simp only [Act.put, x5, x6, x7]
      refine r2 (i := 2) (j := 8) rfl (fun K hK => ?_) rfl (fun K hK => ?_)
      · go_simp
        go_at_call 55
        (with_reducible refine (cross_l _ _ _ _ Rux.out Ruy.out Rvx.out Rvy.out _).mono ?_); rintro e w1 ⟨rfl, hb1⟩
        go_wp2_with fail
        refine hK.out _ _ ?_ (fun q2 => ?_)
        · exact ⟨(id q1).1.below hb1, (id q1).2.1.below hb1, (id q1).2.2.1.below hb1, (id q1).2.2.2.1.below hb1, (id q1).2.2.2.2.below hb1⟩
        refine wpAnyH_as (s18_.out _ gHA gHC q2 ne_9_HA ne_10_HA ne_9_HC ne_10_HC (hi (HA.out.below hb1)) geHA (hi (HC.out.below hb1)) geHC neHAHC) (by kernel_rfl) (by kernel_rfl) (by kernel_rfl)
      · go_simp
        refine hK.out _ _ ?_ (fun q2 => ?_)
        · exact ⟨(id q1).1.below (bl_one _ _), (id q1).2.1.below (bl_one _ _), (id q1).2.2.1.below (bl_one _ _), (id q1).2.2.2.1.below (bl_one _ _), (id q1).2.2.2.2.below (bl_one _ _)⟩
        refine wpAnyH_as (s24_.out _ gHA _ gHC q2 ne_9_HA ne_10_HA (Nat.ne_of_lt (id q1).2.1.lt) (Nat.ne_of_lt (id q1).2.2.1.lt) ne_9_HC ne_10_HC (hi (HA.out.below (al_of (id q2).2.2.2.2 (bl_one _ _)))) geHA (hi ((id q1).2.2.2.2.var2 (.int .u64 0) (.int .u64 0) 67)) (id q1).2.2.2.2.sz (hi (HC.out.below (al_of (id q2).2.2.2.2 (bl_one _ _)))) geHC (Nat.ne_of_lt HA.out.lt) neHAHC (Nat.ne_of_gt HC.out.lt)) (by kernel_rfl) (by kernel_rfl) (by kernel_rfl)
    have s27_ : Hid (∀ (W : World) (gHA : Nat), S0 W → g9 ≠ gHA → g10 ≠ gHA → Hid (Var W gHA [.int .u64 0, .int .u64 0]) → w.heap.size + 4 ≤ gHA → wpAnyH Try.prog .any ops0 Qx S0 8 #[true, true, false, true, false, true, false, true, false, false, false, false, false] (Act.put a0 (some 11) (.pointer (some ⟨gHA, 0, none⟩))) W) := by
      clear s0_ s1_ s2_ s3_ s4_ s5_ s6_ s7_ s8_ s9_ s10_ s11_ s12_ s13_ s14_ s15_ s16_ s17_ s18_ s20_ s21_ s22_ s23_ s24_
      refine hi ?_
      intro W1 gHA q1 ne_9_HA ne_10_HA HA geHA
      cases e1; cases e2; cases e3; cases e4; cases f38_; cases f40_; cases f42_
      try simp only [Act.put, x5, x6, x7]
      refine wpAnyH_ready (rs := [2, 8, 9]) (by kernel_rfl) (by simp) ?_
      refine (AllReadyH.cons rfl (fun K hK => ?_) (AllReadyH.cons rfl (fun K hK => ?_) (AllReadyH.cons rfl (fun K hK => ?_) AllReadyH.nil)))
      · rw [if_pos (by rfl)]
        go_simp
        go_at_call 55
        (with_reducible refine (cross_l _ _ _ _ Rux.out Ruy.out Rvx.out Rvy.out _).mono ?_); rintro e w1 ⟨rfl, hb1⟩
        go_wp2_with fail
        refine hK.out _ _ ?_ (fun q2 => ?_)
        · exact ⟨(id q1).1.below hb1, (id q1).2.1.below hb1, (id q1).2.2.1.below hb1, (id q1).2.2.2.1.below hb1, (id q1).2.2.2.2.below hb1⟩
        refine wpAnyH_as (s19_.out _ gHA q2 ne_9_HA ne_10_HA (hi (HA.out.below hb1)) geHA) (by kernel_rfl) (by kernel_rfl) (by kernel_rfl)
      · rw [if_pos (by rfl)]
        go_simp
        refine hK.out _ _ ?_ (fun q2 => ?_)
        · exact ⟨(id q1).1.below (bl_one _ _), (id q1).2.1.below (bl_one _ _), (id q1).2.2.1.below (bl_one _ _), (id q1).2.2.2.1.below (bl_one _ _), (id q1).2.2.2.2.below (bl_one _ _)⟩
        refine wpAnyH_as (s25_.out _ gHA _ q2 ne_9_HA ne_10_HA (Nat.ne_of_lt (id q1).2.1.lt) (Nat.ne_of_lt (id q1).2.2.1.lt) (hi (HA.out.below (al_of (id q2).2.2.2.2 (bl_one _ _)))) geHA (hi ((id q1).2.2.2.2.var2 (.int .u64 0) (.int .u64 0) 67)) (id q1).2.2.2.2.sz (Nat.ne_of_lt HA.out.lt)) (by kernel_rfl) (by kernel_rfl) (by kernel_rfl)
      · rw [if_pos (by rfl)]
        go_simp
        refine hK.out _ _ ?_ (fun q2 => ?_)
        · exact ⟨(id q1).1.below (bl_one _ _), (id q1).2.1.below (bl_one _ _), (id q1).2.2.1.below (bl_one _ _), (id q1).2.2.2.1.below (bl_one _ _), (id q1).2.2.2.2.below (bl_one _ _)⟩
        refine wpAnyH_as (s26_.out _ gHA _ q2 ne_9_HA ne_10_HA (Nat.ne_of_lt (id q1).2.1.lt) (Nat.ne_of_lt (id q1).2.2.1.lt) (hi (HA.out.below (al_of (id q2).2.2.2.2 (bl_one _ _)))) geHA (hi ((id q1).2.2.2.2.var2 (.int .u64 0) (.int .u64 0) 67)) (id q1).2.2.2.2.sz (Nat.ne_of_lt HA.out.lt)) (by kernel_rfl) (by kernel_rfl) (by kernel_rfl)
    have s28_ : Hid (∀ (W : World) (gHB : Nat) (gHC : Nat), S0 W → g9 ≠ gHB → g10 ≠ gHB → g9 ≠ gHC → g10 ≠ gHC → Hid (Var W gHB [.int .u64 0, .int .u64 0]) → w.heap.size + 4 ≤ gHB → Hid (Var W gHC [.int .u64 0, .int .u64 0]) → w.heap.size + 4 ≤ gHC → gHB ≠ gHC → wpAnyH Try.prog .any ops0 Qx S0 7 #[true, true, false, true, false, true, false, false, true, true, false, false, false] (Act.put (Act.put a0 (some 12) (.pointer (some ⟨gHB, 0, none⟩))) (some 13) (.pointer (some ⟨gHC, 0, none⟩))) W) := by
      clear s0_ s1_ s2_ s3_ s4_ s5_ s6_ s7_ s8_ s9_ s10_ s11_ s12_ s13_ s14_ s15_ s16_ s17_ s18_ s19_ s21_ s22_ s23_ s25_ s26_ s27_
      refine hi ?_
      intro W1 gHB gHC q1 ne_9_HB ne_10_HB ne_9_HC ne_10_HC HB geHB HC geHC neHBHC
      cases e1; cases e2; cases e3; cases e4; cases f38_; cases f40_; cases f42_
      try simp only [Act.put, x5, x6, x7]
      refine r2 (i := 2) (j := 7) rfl (fun K hK => ?_) rfl (fun K hK => ?_)
      · go_simp
        go_at_call 55
        (with_reducible refine (cross_l _ _ _ _ Rux.out Ruy.out Rvx.out Rvy.out _).mono ?_); rintro e w1 ⟨rfl, hb1⟩
        go_wp2_with fail
        refine hK.out _ _ ?_ (fun q2 => ?_)
        · exact ⟨(id q1).1.below hb1, (id q1).2.1.below hb1, (id q1).2.2.1.below hb1, (id q1).2.2.2.1.below hb1, (id q1).2.2.2.2.below hb1⟩
        refine wpAnyH_as (s20_.out _ gHB gHC q2 ne_9_HB ne_10_HB ne_9_HC ne_10_HC (hi (HB.out.below hb1)) geHB (hi (HC.out.below hb1)) geHC neHBHC) (by kernel_rfl) (by kernel_rfl) (by kernel_rfl)
      · go_simp
        refine hK.out _ _ ?_ (fun q2 => ?_)
        · exact ⟨(id q1).1.below (bl_one _ _), (id q1).2.1.below (bl_one _ _), (id q1).2.2.1.below (bl_one _ _), (id q1).2.2.2.1.below (bl_one _ _), (id q1).2.2.2.2.below (bl_one _ _)⟩
        refine wpAnyH_as (s24_.out _ _ gHB gHC q2 (Nat.ne_of_lt (id q1).2.1.lt) (Nat.ne_of_lt (id q1).2.2.1.lt) ne_9_HB ne_10_HB ne_9_HC ne_10_HC (hi ((id q1).2.2.2.2.var2 (.int .u64 0) (.int .u64 0) 67)) (id q1).2.2.2.2.sz (hi (HB.out.below (al_of (id q2).2.2.2.2 (bl_one _ _)))) geHB (hi (HC.out.below (al_of (id q2).2.2.2.2 (bl_one _ _)))) geHC (Nat.ne_of_gt HB.out.lt) (Nat.ne_of_gt HC.out.lt) neHBHC) (by kernel_rfl) (by kernel_rfl) (by kernel_rfl)
    have s29_ : Hid (∀ (W : World) (gHB : Nat), S0 W → g9 ≠ gHB → g10 ≠ gHB → Hid (Var W gHB [.int .u64 0, .int .u64 0]) → w.heap.size + 4 ≤ gHB → wpAnyH Try.prog .any ops0 Qx S0 8 #[true, true, false, true, false, true, false, false, true, false, false, false, false] (Act.put a0 (some 12) (.pointer (some ⟨gHB, 0, none⟩))) W) := by
      clear s0_ s1_ s2_ s3_ s4_ s5_ s6_ s7_ s8_ s9_ s10_ s11_ s12_ s13_ s14_ s15_ s16_ s17_ s18_ s19_ s20_ s22_ s23_ s24_ s26_ s27_
      refine hi ?_
      intro W1 gHB q1 ne_9_HB ne_10_HB HB geHB
      cases e1; cases e2; cases e3; cases e4; cases f38_; cases f40_; cases f42_
      try simp only [Act.put, x5, x6, x7]
      refine wpAnyH_ready (rs := [2, 7, 9]) (by kernel_rfl) (by simp) ?_
      refine (AllReadyH.cons rfl (fun K hK => ?_) (AllReadyH.cons rfl (fun K hK => ?_) (AllReadyH.cons rfl (fun K hK => ?_) AllReadyH.nil)))
      · rw [if_pos (by rfl)]
        go_simp
        go_at_call 55
        (with_reducible refine (cross_l _ _ _ _ Rux.out Ruy.out Rvx.out Rvy.out _).mono ?_); rintro e w1 ⟨rfl, hb1⟩
        go_wp2_with fail
        refine hK.out _ _ ?_ (fun q2 => ?_)
        · exact ⟨(id q1).1.below hb1, (id q1).2.1.below hb1, (id q1).2.2.1.below hb1, (id q1).2.2.2.1.below hb1, (id q1).2.2.2.2.below hb1⟩
        refine wpAnyH_as (s21_.out _ gHB q2 ne_9_HB ne_10_HB (hi (HB.out.below hb1)) geHB) (by kernel_rfl) (by kernel_rfl) (by kernel_rfl)
      · rw [if_pos (by rfl)]
        go_simp
        refine hK.out _ _ ?_ (fun q2 => ?_)
        · exact ⟨(id q1).1.below (bl_one _ _), (id q1).2.1.below (bl_one _ _), (id q1).2.2.1.below (bl_one _ _), (id q1).2.2.2.1.below (bl_one _ _), (id q1).2.2.2.2.below (bl_one _ _)⟩
        refine wpAnyH_as (s25_.out _ _ gHB q2 (Nat.ne_of_lt (id q1).2.1.lt) (Nat.ne_of_lt (id q1).2.2.1.lt) ne_9_HB ne_10_HB (hi ((id q1).2.2.2.2.var2 (.int .u64 0) (.int .u64 0) 67)) (id q1).2.2.2.2.sz (hi (HB.out.below (al_of (id q2).2.2.2.2 (bl_one _ _)))) geHB (Nat.ne_of_gt HB.out.lt)) (by kernel_rfl) (by kernel_rfl) (by kernel_rfl)
      · rw [if_pos (by rfl)]
        go_simp
        refine hK.out _ _ ?_ (fun q2 => ?_)
        · exact ⟨(id q1).1.below (bl_one _ _), (id q1).2.1.below (bl_one _ _), (id q1).2.2.1.below (bl_one _ _), (id q1).2.2.2.1.below (bl_one _ _), (id q1).2.2.2.2.below (bl_one _ _)⟩
        refine wpAnyH_as (s28_.out _ gHB _ q2 ne_9_HB ne_10_HB (Nat.ne_of_lt (id q1).2.1.lt) (Nat.ne_of_lt (id q1).2.2.1.lt) (hi (HB.out.below (al_of (id q2).2.2.2.2 (bl_one _ _)))) geHB (hi ((id q1).2.2.2.2.var2 (.int .u64 0) (.int .u64 0) 67)) (id q1).2.2.2.2.sz (Nat.ne_of_lt HB.out.lt)) (by kernel_rfl) (by kernel_rfl) (by kernel_rfl)
    have s30_ : Hid (∀ (W : World) (gHC : Nat), S0 W → g9 ≠ gHC → g10 ≠ gHC → Hid (Var W gHC [.int .u64 0, .int .u64 0]) → w.heap.size + 4 ≤ gHC → wpAnyH Try.prog .any ops0 Qx S0 8 #[true, true, false, true, false, true, false, false, false, true, false, false, false] (Act.put a0 (some 13) (.pointer (some ⟨gHC, 0, none⟩))) W) := by
      clear s0_ s1_ s2_ s3_ s4_ s5_ s6_ s7_ s8_ s9_ s10_ s11_ s12_ s13_ s14_ s15_ s16_ s17_ s18_ s19_ s20_ s21_ s23_ s24_ s25_ s27_ s29_
      refine hi ?_
      intro W1 gHC q1 ne_9_HC ne_10_HC HC geHC
      cases e1; cases e2; cases e3; cases e4; cases f38_; cases f40_; cases f42_
      try simp only [Act.put, x5, x6, x7]
      refine wpAnyH_ready (rs := [2, 7, 8]) (by kernel_rfl) (by simp) ?_
      refine (AllReadyH.cons rfl (fun K hK => ?_) (AllReadyH.cons rfl (fun K hK => ?_) (AllReadyH.cons rfl (fun K hK => ?_) AllReadyH.nil)))
      · rw [if_pos (by rfl)]
        go_simp
        go_at_call 55
        (with_reducible refine (cross_l _ _ _ _ Rux.out Ruy.out Rvx.out Rvy.out _).mono ?_); rintro e w1 ⟨rfl, hb1⟩
        go_wp2_with fail
        refine hK.out _ _ ?_ (fun q2 => ?_)
        · exact ⟨(id q1).1.below hb1, (id q1).2.1.below hb1, (id q1).2.2.1.below hb1, (id q1).2.2.2.1.below hb1, (id q1).2.2.2.2.below hb1⟩
        refine wpAnyH_as (s22_.out _ gHC q2 ne_9_HC ne_10_HC (hi (HC.out.below hb1)) geHC) (by kernel_rfl) (by kernel_rfl) (by kernel_rfl)
      · rw [if_pos (by rfl)]
        go_simp
        refine hK.out _ _ ?_ (fun q2 => ?_)
        · exact ⟨(id q1).1.below (bl_one _ _), (id q1).2.1.below (bl_one _ _), (id q1).2.2.1.below (bl_one _ _), (id q1).2.2.2.1.below (bl_one _ _), (id q1).2.2.2.2.below (bl_one _ _)⟩
        refine wpAnyH_as (s26_.out _ _ gHC q2 (Nat.ne_of_lt (id q1).2.1.lt) (Nat.ne_of_lt (id q1).2.2.1.lt) ne_9_HC ne_10_HC (hi ((id q1).2.2.2.2.var2 (.int .u64 0) (.int .u64 0) 67)) (id q1).2.2.2.2.sz (hi (HC.out.below (al_of (id q2).2.2.2.2 (bl_one _ _)))) geHC (Nat.ne_of_gt HC.out.lt)) (by kernel_rfl) (by kernel_rfl) (by kernel_rfl)
      · rw [if_pos (by rfl)]
        go_simp
        refine hK.out _ _ ?_ (fun q2 => ?_)
        · exact ⟨(id q1).1.below (bl_one _ _), (id q1).2.1.below (bl_one _ _), (id q1).2.2.1.below (bl_one _ _), (id q1).2.2.2.1.below (bl_one _ _), (id q1).2.2.2.2.below (bl_one _ _)⟩
        refine wpAnyH_as (s28_.out _ _ gHC q2 (Nat.ne_of_lt (id q1).2.1.lt) (Nat.ne_of_lt (id q1).2.2.1.lt) ne_9_HC ne_10_HC (hi ((id q1).2.2.2.2.var2 (.int .u64 0) (.int .u64 0) 67)) (id q1).2.2.2.2.sz (hi (HC.out.below (al_of (id q2).2.2.2.2 (bl_one _ _)))) geHC (Nat.ne_of_gt HC.out.lt)) (by kernel_rfl) (by kernel_rfl) (by kernel_rfl)
    clear s0_ s1_ s2_ s3_ s4_ s5_ s6_ s7_ s8_ s9_ s10_ s11_ s12_ s13_ s14_ s15_ s16_ s17_ s18_ s19_ s20_ s21_ s22_ s24_ s25_ s26_ s28_
    cases e1; cases e2; cases e3; cases e4; cases f38_; cases f40_; cases f42_
    refine wpAnyH_ready (rs := [2, 7, 8, 9]) (by kernel_rfl) (by simp) ?_
    refine (AllReadyH.cons rfl (fun K hK => ?_) (AllReadyH.cons rfl (fun K hK => ?_) (AllReadyH.cons rfl (fun K hK => ?_) (AllReadyH.cons rfl (fun K hK => ?_) AllReadyH.nil))))
    · rw [if_pos (by rfl)]
      go_simp
      go_at_call 55
      (with_reducible refine (cross_l _ _ _ _ Rux.out Ruy.out Rvx.out Rvy.out _).mono ?_); rintro e w1 ⟨rfl, hb1⟩
      go_wp2_with fail
      refine hK.out _ _ ?_ (fun q2 => ?_)
      · exact ⟨(id q1).1.below hb1, (id q1).2.1.below hb1, (id q1).2.2.1.below hb1, (id q1).2.2.2.1.below hb1, (id q1).2.2.2.2.below hb1⟩
      refine wpAnyH_as (s23_.out _ q2) (by kernel_rfl) (by kernel_rfl) (by kernel_rfl)
    · rw [if_pos (by rfl)]
      go_simp
      refine hK.out _ _ ?_ (fun q2 => ?_)
      · exact ⟨(id q1).1.below (bl_one _ _), (id q1).2.1.below (bl_one _ _), (id q1).2.2.1.below (bl_one _ _), (id q1).2.2.2.1.below (bl_one _ _), (id q1).2.2.2.2.below (bl_one _ _)⟩
      refine wpAnyH_as (s27_.out _ _ q2 (Nat.ne_of_lt (id q1).2.1.lt) (Nat.ne_of_lt (id q1).2.2.1.lt) (hi ((id q1).2.2.2.2.var2 (.int .u64 0) (.int .u64 0) 67)) (id q1).2.2.2.2.sz) (by kernel_rfl) (by kernel_rfl) (by kernel_rfl)
    · rw [if_pos (by rfl)]
      go_simp
      refine hK.out _ _ ?_ (fun q2 => ?_)
      · exact ⟨(id q1).1.below (bl_one _ _), (id q1).2.1.below (bl_one _ _), (id q1).2.2.1.below (bl_one _ _), (id q1).2.2.2.1.below (bl_one _ _), (id q1).2.2.2.2.below (bl_one _ _)⟩
      refine wpAnyH_as (s29_.out _ _ q2 (Nat.ne_of_lt (id q1).2.1.lt) (Nat.ne_of_lt (id q1).2.2.1.lt) (hi ((id q1).2.2.2.2.var2 (.int .u64 0) (.int .u64 0) 67)) (id q1).2.2.2.2.sz) (by kernel_rfl) (by kernel_rfl) (by kernel_rfl)
    · rw [if_pos (by rfl)]
      go_simp
      refine hK.out _ _ ?_ (fun q2 => ?_)
      · exact ⟨(id q1).1.below (bl_one _ _), (id q1).2.1.below (bl_one _ _), (id q1).2.2.1.below (bl_one _ _), (id q1).2.2.2.1.below (bl_one _ _), (id q1).2.2.2.2.below (bl_one _ _)⟩
      refine wpAnyH_as (s30_.out _ _ q2 (Nat.ne_of_lt (id q1).2.1.lt) (Nat.ne_of_lt (id q1).2.2.1.lt) (hi ((id q1).2.2.2.2.var2 (.int .u64 0) (.int .u64 0) 67)) (id q1).2.2.2.2.sz) (by kernel_rfl) (by kernel_rfl) (by kernel_rfl)
  case rest =>
  obtain ⟨g11, g12, g13, rfl, rfl, rfl, v11, v12, v13, hS1⟩ := hcut
  generalize ux * vy - uy * vx = d at *
  generalize ux * ux + uy * uy = uu at *
  generalize vx * vx + vy * vy = vv at *
  have HS2 : Hid ((fun W => Var W (w.heap.size) [.int .i64 a.x, .int .i64 a.y] ∧ Var W (g9) [.int .i64 (ux), .int .i64 (uy)] ∧ Var W (g10) [.int .i64 (vx), .int .i64 (vy)] ∧ Var W (g11) [.int .u64 (LH (d)), .int .u64 (LL (d))] ∧ Var W (g12) [.int .u64 (LH (uu)), .int .u64 (LL (uu))] ∧ Var W (g13) [.int .u64 (LH (vv)), .int .u64 (LL (vv))] ∧ Slot2 W (w.heap.size + 1 + 1 + 1) ∧ Grew w 4 W) _) := ⟨hS1.1, hS1.2.1, hS1.2.2.1, v11, v12, v13, hS1.2.2.2⟩
  have Buu := hi (AUU.b127 (by decide))
  have Bvv := hi (AVV.b127 (by decide))
  have Bux := hi (AU.1.b127 (by decide))
  have Buy := hi (AU.2.b127 (by decide))
  have Bvx := hi (AV.1.b127 (by decide))
  have Bvy := hi (AV.2.b127 (by decide))
  have Wuuvy := hi ((AUU.mul AV.2).bw (by decide))
  have Wvvuy := hi ((AVV.mul AU.2).bw (by decide))
  have Wvvux := hi ((AVV.mul AU.1).bw (by decide))
  have Wuuvx := hi ((AUU.mul AV.1).bw (by decide))
  have WX := hi (((AUU.mul AV.2).sub (AVV.mul AU.2)).bw (by decide))
  have WY := hi (((AVV.mul AU.1).sub (AUU.mul AV.1)).bw (by decide))
  have NX : Hid (Ab (uu * vy - vv * uy) 5070602400912917605986812821504) := ((AUU.mul AV.2).sub (AVV.mul AU.2)).le (by decide)
  have NY : Hid (Ab (vv * ux - uu * vx) 5070602400912917605986812821504) := ((AVV.mul AU.1).sub (AUU.mul AV.1)).le (by decide)
  have KX := hi hK.1
  have KY := hi hK.2
  have D0 := hi hz
  have Ad := hi AD
  clear hS1 v11 v12 v13 HS1 AU AV AUU AVV AD hz hK
  go_upto_region 8 with (fail)
  go_cut [14, 15] (fun x f W => x = .int .i64 (intV (shiftZ a.x (uu * vy - vv * uy) d)) ∧ f = .bool (isI (shiftZ a.x (uu * vy - vv * uy) d)) ∧ (fun W => Var W (w.heap.size) [.int .i64 a.x, .int .i64 a.y] ∧ Var W (g9) [.int .i64 (ux), .int .i64 (uy)] ∧ Var W (g10) [.int .i64 (vx), .int .i64 (vy)] ∧ Var W (g11) [.int .u64 (LH (d)), .int .u64 (LL (d))] ∧ Var W (g12) [.int .u64 (LH (uu)), .int .u64 (LL (uu))] ∧ Var W (g13) [.int .u64 (LH (vv)), .int .u64 (LL (vv))] ∧ Slot2 W (w.heap.size + 1 + 1 + 1) ∧ Grew w 4 W) W)
  case first =>
    clear HP HP2 HP3
    refine wp_region_held_drew (S := fun W => Var W (w.heap.size) [.int .i64 a.x, .int .i64 a.y] ∧ Var W (g9) [.int .i64 (ux), .int .i64 (uy)] ∧ Var W (g10) [.int .i64 (vx), .int .i64 (vy)] ∧ Var W (g11) [.int .u64 (LH (d)), .int .u64 (LL (d))] ∧ Var W (g12) [.int .u64 (LH (uu)), .int .u64 (LL (uu))] ∧ Var W (g13) [.int .u64 (LH (vv)), .int .u64 (LL (vv))] ∧ Slot2 W (w.heap.size + 1 + 1 + 1) ∧ Grew w 4 W) (by kernel_rfl) ?_ (fun q1 => ?_)
    · exact ⟨HS2.out.1.below (bel_drew _), HS2.out.2.1.below (bel_drew _), HS2.out.2.2.1.below (bel_drew _), HS2.out.2.2.2.1.below (bel_drew _), HS2.out.2.2.2.2.1.below (bel_drew _), HS2.out.2.2.2.2.2.1.below (bel_drew _), HS2.out.2.2.2.2.2.2.1.below (bel_drew _), HS2.out.2.2.2.2.2.2.2.below (bel_drew _)⟩
    revert q1
    generalize World.drew _ = W1
    intro q1 
    refine tk (i := 0) (v := ?_) rfl (Or.inl ⟨by rfl, ?_⟩) ?_
    rotate_left
    · intro Wq hSw
      clear hSw
      go_simp
      all_goals (with_reducible rfl)
    try simp only [Act.put, x2, x4, x5, x6, x7]
    refine tk (i := 1) (v := ?_) rfl (Or.inl ⟨by rfl, ?_⟩) ?_
    rotate_left
    · intro Wq hSw
      obtain ⟨k0, k1⟩ := (id hSw).1.two
      clear hSw
      go_simp
      all_goals (with_reducible rfl)
    try simp only [Act.put, x2, x3, x4, x5, x6, x7]
    refine tk (i := 2) (v := ?_) rfl (Or.inl ⟨by rfl, ?_⟩) ?_
    rotate_left
    · intro Wq hSw
      obtain ⟨k0, k1⟩ := (id hSw).2.2.2.2.1.two
      clear hSw
      go_simp
      all_goals (with_reducible rfl)
    try simp only [Act.put, x2, x3, x4, x5, x6, x7]
    refine tk (i := 3) (v := ?_) rfl (Or.inl ⟨by rfl, ?_⟩) ?_
    rotate_left
    · intro Wq hSw
      clear hSw
      go_simp
      all_goals (with_reducible rfl)
    try simp only [Act.put, x2, x3, x4, x5, x6, x7]
    refine tk (i := 4) (v := ?_) rfl (Or.inl ⟨by rfl, ?_⟩) ?_
    rotate_left
    · intro Wq hSw
      obtain ⟨k0, k1⟩ := (id hSw).2.2.1.two
      clear hSw
      go_simp
      all_goals (with_reducible rfl)
    try simp only [Act.put, x2, x3, x4, x5, x6, x7]
    refine tk (i := 7) (v := ?_) rfl (Or.inl ⟨by rfl, ?_⟩) ?_
    rotate_left
    · intro Wq hSw
      obtain ⟨k0, k1⟩ := (id hSw).2.2.2.2.2.1.two
      clear hSw
      go_simp
      all_goals (with_reducible rfl)
    try simp only [Act.put, x2, x3, x4, x5, x6, x7]
    refine tk (i := 8) (v := ?_) rfl (Or.inl ⟨by rfl, ?_⟩) ?_
    rotate_left
    · intro Wq hSw
      clear hSw
      go_simp
      all_goals (with_reducible rfl)
    try simp only [Act.put, x2, x3, x4, x5, x6, x7]
    refine tk (i := 9) (v := ?_) rfl (Or.inl ⟨by rfl, ?_⟩) ?_
    rotate_left
    · intro Wq hSw
      obtain ⟨k0, k1⟩ := (id hSw).2.1.two
      clear hSw
      go_simp
      all_goals (with_reducible rfl)
    try simp only [Act.put, x2, x3, x4, x5, x6, x7]
    refine tk (i := 13) (v := ?_) rfl (Or.inl ⟨by rfl, ?_⟩) ?_
    rotate_left
    · intro Wq hSw
      obtain ⟨k0, k1⟩ := (id hSw).2.2.2.1.two
      clear hSw
      go_simp
      all_goals (with_reducible rfl)
    try simp only [Act.put, x2, x3, x4, x5, x6, x7]
    refine r1 (i := 5) rfl (fun K hK => ?_)
    go_simp
    go_at_call 73
    (with_reducible refine (longOf_l vy Lvy.out _).mono ?_); rintro e w1 ⟨rfl, hb1⟩
    go_wp2_with fail
    refine hK.out _ _ ?_ (fun q2 => ?_)
    · exact ⟨(id q1).1.below hb1, (id q1).2.1.below hb1, (id q1).2.2.1.below hb1, (id q1).2.2.2.1.below hb1, (id q1).2.2.2.2.1.below hb1, (id q1).2.2.2.2.2.1.below hb1, (id q1).2.2.2.2.2.2.1.below hb1, (id q1).2.2.2.2.2.2.2.below hb1⟩
    clear hK K q1 hb1
    have q1 := q2
    clear q2
    try simp only [Act.put, x2, x3, x4, x5, x6, x7]
    refine r1 (i := 6) rfl (fun K hK => ?_)
    go_simp
    go_at_call 66
    (with_reducible refine (product_l uu vy Buu.out Bvy.out _).mono ?_); rintro e w1 ⟨rfl, hb1⟩
    go_wp2_with fail
    refine hK.out _ _ ?_ (fun q2 => ?_)
    · exact ⟨(id q1).1.below hb1, (id q1).2.1.below hb1, (id q1).2.2.1.below hb1, (id q1).2.2.2.1.below hb1, (id q1).2.2.2.2.1.below hb1, (id q1).2.2.2.2.2.1.below hb1, (id q1).2.2.2.2.2.2.1.below hb1, (id q1).2.2.2.2.2.2.2.below hb1⟩
    clear hK K q1 hb1
    have q1 := q2
    clear q2
    try simp only [Act.put, x2, x3, x4, x5, x6, x7]
    refine r1 (i := 10) rfl (fun K hK => ?_)
    go_simp
    go_at_call 73
    (with_reducible refine (longOf_l uy Luy.out _).mono ?_); rintro e w1 ⟨rfl, hb1⟩
    go_wp2_with fail
    refine hK.out _ _ ?_ (fun q2 => ?_)
    · exact ⟨(id q1).1.below hb1, (id q1).2.1.below hb1, (id q1).2.2.1.below hb1, (id q1).2.2.2.1.below hb1, (id q1).2.2.2.2.1.below hb1, (id q1).2.2.2.2.2.1.below hb1, (id q1).2.2.2.2.2.2.1.below hb1, (id q1).2.2.2.2.2.2.2.below hb1⟩
    clear hK K q1 hb1
    have q1 := q2
    clear q2
    try simp only [Act.put, x2, x3, x4, x5, x6, x7]
    refine r1 (i := 11) rfl (fun K hK => ?_)
    go_simp
    go_at_call 66
    (with_reducible refine (product_l vv uy Bvv.out Buy.out _).mono ?_); rintro e w1 ⟨rfl, hb1⟩
    go_wp2_with fail
    refine hK.out _ _ ?_ (fun q2 => ?_)
    · exact ⟨(id q1).1.below hb1, (id q1).2.1.below hb1, (id q1).2.2.1.below hb1, (id q1).2.2.2.1.below hb1, (id q1).2.2.2.2.1.below hb1, (id q1).2.2.2.2.2.1.below hb1, (id q1).2.2.2.2.2.2.1.below hb1, (id q1).2.2.2.2.2.2.2.below hb1⟩
    clear hK K q1 hb1
    have q1 := q2
    clear q2
    try simp only [Act.put, x2, x3, x4, x5, x6, x7]
    refine r1 (i := 12) rfl (fun K hK => ?_)
    go_simp
    go_at_call 72
    (with_reducible refine (difference_l (uu * vy) (vv * uy) Wuuvy.out Wvvuy.out WX.out _).mono ?_); rintro e w1 ⟨rfl, hb1⟩
    go_wp2_with fail
    refine hK.out _ _ ?_ (fun q2 => ?_)
    · exact ⟨(id q1).1.below hb1, (id q1).2.1.below hb1, (id q1).2.2.1.below hb1, (id q1).2.2.2.1.below hb1, (id q1).2.2.2.2.1.below hb1, (id q1).2.2.2.2.2.1.below hb1, (id q1).2.2.2.2.2.2.1.below hb1, (id q1).2.2.2.2.2.2.2.below hb1⟩
    clear hK K q1 hb1
    have q1 := q2
    clear q2
    try simp only [Act.put, x2, x3, x4, x5, x6, x7]
    refine r1 (i := 14) rfl (fun K hK => ?_)
    go_simp
    go_at_call 71
    (with_reducible refine (shifted_l a.x (uu * vy - vv * uy) d KX.out NX.out D0.out Ad.out _).mono ?_); rintro e w1 ⟨rfl, hb1⟩
    go_wp2_with fail
    refine hK.out _ _ ?_ (fun q2 => ?_)
    · exact ⟨(id q1).1.below hb1, (id q1).2.1.below hb1, (id q1).2.2.1.below hb1, (id q1).2.2.2.1.below hb1, (id q1).2.2.2.2.1.below hb1, (id q1).2.2.2.2.2.1.below hb1, (id q1).2.2.2.2.2.2.1.below hb1, (id q1).2.2.2.2.2.2.2.below hb1⟩
    clear hK K q1 hb1
    have q1 := q2
    clear q2
    try simp only [Act.put, x2, x3, x4, x5, x6, x7]
    refine tk (i := 15) (v := ?_) rfl (Or.inl ⟨by rfl, ?_⟩) ?_
    rotate_left
    · intro Wq hSw
      clear hSw
      go_simp
      all_goals (with_reducible rfl)
    try simp only [Act.put, x2, x3, x4, x5, x6, x7]
    refine tk (i := 16) (v := ?_) rfl (Or.inl ⟨by rfl, ?_⟩) ?_
    rotate_left
    · intro Wq hSw
      clear hSw
      go_simp
      all_goals (with_reducible rfl)
    try simp only [Act.put, x2, x3, x4, x5, x6, x7]
    refine tk (i := 17) (v := ?_) rfl (Or.inl ⟨by rfl, ?_⟩) ?_
    rotate_left
    · intro Wq hSw
      clear hSw
      go_simp
      all_goals (with_reducible rfl)
    try simp only [Act.put, x2, x3, x4, x5, x6, x7]
    refine tk (i := 18) (v := ?_) rfl (Or.inl ⟨by rfl, ?_⟩) ?_
    rotate_left
    · intro Wq hSw
      clear hSw
      go_simp
      all_goals (with_reducible rfl)
    try simp only [Act.put, x2, x3, x4, x5, x6, x7]
    refine tk (i := 19) (v := ?_) rfl (Or.inl ⟨by rfl, ?_⟩) ?_
    rotate_left
    · intro Wq hSw
      clear hSw
      go_simp
      all_goals (with_reducible rfl)
    try simp only [Act.put, x2, x3, x4, x5, x6, x7]
    refine wpAnyH_done (by kernel_rfl) ?_ _
    go_wp2_with fail
    go_meet
    case rel => exact ⟨rfl, rfl, id q1⟩
  case rest =>
  obtain ⟨rfl, rfl, hS2⟩ := hcut
  rw [show shiftZ a.x (uu * vy - vv * uy) d = X from HP2.out.symm]
  replace HS2 := hi hS2
  clear hS2 HP2
  go_upto_region 9 with (fail)
  go_cut [16, 17] (fun x f W => x = .int .i64 (intV (shiftZ a.y (vv * ux - uu * vx) d)) ∧ f = .bool (isI (shiftZ a.y (vv * ux - uu * vx) d)) ∧ (fun W => Var W (w.heap.size) [.int .i64 a.x, .int .i64 a.y] ∧ Var W (g9) [.int .i64 (ux), .int .i64 (uy)] ∧ Var W (g10) [.int .i64 (vx), .int .i64 (vy)] ∧ Var W (g11) [.int .u64 (LH (d)), .int .u64 (LL (d))] ∧ Var W (g12) [.int .u64 (LH (uu)), .int .u64 (LL (uu))] ∧ Var W (g13) [.int .u64 (LH (vv)), .int .u64 (LL (vv))] ∧ Slot2 W (w.heap.size + 1 + 1 + 1) ∧ Grew w 4 W) W)
  case first =>
    clear HP HP3
    refine wp_region_held_drew (S := fun W => Var W (w.heap.size) [.int .i64 a.x, .int .i64 a.y] ∧ Var W (g9) [.int .i64 (ux), .int .i64 (uy)] ∧ Var W (g10) [.int .i64 (vx), .int .i64 (vy)] ∧ Var W (g11) [.int .u64 (LH (d)), .int .u64 (LL (d))] ∧ Var W (g12) [.int .u64 (LH (uu)), .int .u64 (LL (uu))] ∧ Var W (g13) [.int .u64 (LH (vv)), .int .u64 (LL (vv))] ∧ Slot2 W (w.heap.size + 1 + 1 + 1) ∧ Grew w 4 W) (by kernel_rfl) ?_ (fun q1 => ?_)
    · exact ⟨HS2.out.1.below (bel_drew _), HS2.out.2.1.below (bel_drew _), HS2.out.2.2.1.below (bel_drew _), HS2.out.2.2.2.1.below (bel_drew _), HS2.out.2.2.2.2.1.below (bel_drew _), HS2.out.2.2.2.2.2.1.below (bel_drew _), HS2.out.2.2.2.2.2.2.1.below (bel_drew _), HS2.out.2.2.2.2.2.2.2.below (bel_drew _)⟩
    revert q1
    generalize World.drew _ = W1
    intro q1 
    refine tk (i := 0) (v := ?_) rfl (Or.inl ⟨by rfl, ?_⟩) ?_
    rotate_left
    · intro Wq hSw
      clear hSw
      go_simp
      all_goals (with_reducible rfl)
    try simp only [Act.put, x2, x4, x5, x6, x7]
    refine tk (i := 1) (v := ?_) rfl (Or.inl ⟨by rfl, ?_⟩) ?_
    rotate_left
    · intro Wq hSw
      obtain ⟨k0, k1⟩ := (id hSw).1.two
      clear hSw
      go_simp
      all_goals (with_reducible rfl)
    try simp only [Act.put, x2, x3, x4, x5, x6, x7]
    refine tk (i := 2) (v := ?_) rfl (Or.inl ⟨by rfl, ?_⟩) ?_
    rotate_left
    · intro Wq hSw
      obtain ⟨k0, k1⟩ := (id hSw).2.2.2.2.2.1.two
      clear hSw
      go_simp
      all_goals (with_reducible rfl)
    try simp only [Act.put, x2, x3, x4, x5, x6, x7]
    refine tk (i := 3) (v := ?_) rfl (Or.inl ⟨by rfl, ?_⟩) ?_
    rotate_left
    · intro Wq hSw
      clear hSw
      go_simp
      all_goals (with_reducible rfl)
    try simp only [Act.put, x2, x3, x4, x5, x6, x7]
    refine tk (i := 4) (v := ?_) rfl (Or.inl ⟨by rfl, ?_⟩) ?_
    rotate_left
    · intro Wq hSw
      obtain ⟨k0, k1⟩ := (id hSw).2.1.two
      clear hSw
      go_simp
      all_goals (with_reducible rfl)
    try simp only [Act.put, x2, x3, x4, x5, x6, x7]
    refine tk (i := 7) (v := ?_) rfl (Or.inl ⟨by rfl, ?_⟩) ?_
    rotate_left
    · intro Wq hSw
      obtain ⟨k0, k1⟩ := (id hSw).2.2.2.2.1.two
      clear hSw
      go_simp
      all_goals (with_reducible rfl)
    try simp only [Act.put, x2, x3, x4, x5, x6, x7]
    refine tk (i := 8) (v := ?_) rfl (Or.inl ⟨by rfl, ?_⟩) ?_
    rotate_left
    · intro Wq hSw
      clear hSw
      go_simp
      all_goals (with_reducible rfl)
    try simp only [Act.put, x2, x3, x4, x5, x6, x7]
    refine tk (i := 9) (v := ?_) rfl (Or.inl ⟨by rfl, ?_⟩) ?_
    rotate_left
    · intro Wq hSw
      obtain ⟨k0, k1⟩ := (id hSw).2.2.1.two
      clear hSw
      go_simp
      all_goals (with_reducible rfl)
    try simp only [Act.put, x2, x3, x4, x5, x6, x7]
    refine tk (i := 13) (v := ?_) rfl (Or.inl ⟨by rfl, ?_⟩) ?_
    rotate_left
    · intro Wq hSw
      obtain ⟨k0, k1⟩ := (id hSw).2.2.2.1.two
      clear hSw
      go_simp
      all_goals (with_reducible rfl)
    try simp only [Act.put, x2, x3, x4, x5, x6, x7]
    refine r1 (i := 5) rfl (fun K hK => ?_)
    go_simp
    go_at_call 73
    (with_reducible refine (longOf_l ux Lux.out _).mono ?_); rintro e w1 ⟨rfl, hb1⟩
    go_wp2_with fail
    refine hK.out _ _ ?_ (fun q2 => ?_)
    · exact ⟨(id q1).1.below hb1, (id q1).2.1.below hb1, (id q1).2.2.1.below hb1, (id q1).2.2.2.1.below hb1, (id q1).2.2.2.2.1.below hb1, (id q1).2.2.2.2.2.1.below hb1, (id q1).2.2.2.2.2.2.1.below hb1, (id q1).2.2.2.2.2.2.2.below hb1⟩
    clear hK K q1 hb1
    have q1 := q2
    clear q2
    try simp only [Act.put, x2, x3, x4, x5, x6, x7]
    refine r1 (i := 6) rfl (fun K hK => ?_)
    go_simp
    go_at_call 66
    (with_reducible refine (product_l vv ux Bvv.out Bux.out _).mono ?_); rintro e w1 ⟨rfl, hb1⟩
    go_wp2_with fail
    refine hK.out _ _ ?_ (fun q2 => ?_)
    · exact ⟨(id q1).1.below hb1, (id q1).2.1.below hb1, (id q1).2.2.1.below hb1, (id q1).2.2.2.1.below hb1, (id q1).2.2.2.2.1.below hb1, (id q1).2.2.2.2.2.1.below hb1, (id q1).2.2.2.2.2.2.1.below hb1, (id q1).2.2.2.2.2.2.2.below hb1⟩
    clear hK K q1 hb1
    have q1 := q2
    clear q2
    try simp only [Act.put, x2, x3, x4, x5, x6, x7]
    refine r1 (i := 10) rfl (fun K hK => ?_)
    go_simp
    go_at_call 73
    (with_reducible refine (longOf_l vx Lvx.out _).mono ?_); rintro e w1 ⟨rfl, hb1⟩
    go_wp2_with fail
    refine hK.out _ _ ?_ (fun q2 => ?_)
    · exact ⟨(id q1).1.below hb1, (id q1).2.1.below hb1, (id q1).2.2.1.below hb1, (id q1).2.2.2.1.below hb1, (id q1).2.2.2.2.1.below hb1, (id q1).2.2.2.2.2.1.below hb1, (id q1).2.2.2.2.2.2.1.below hb1, (id q1).2.2.2.2.2.2.2.below hb1⟩
    clear hK K q1 hb1
    have q1 := q2
    clear q2
    try simp only [Act.put, x2, x3, x4, x5, x6, x7]
    refine r1 (i := 11) rfl (fun K hK => ?_)
    go_simp
    go_at_call 66
    (with_reducible refine (product_l uu vx Buu.out Bvx.out _).mono ?_); rintro e w1 ⟨rfl, hb1⟩
    go_wp2_with fail
    refine hK.out _ _ ?_ (fun q2 => ?_)
    · exact ⟨(id q1).1.below hb1, (id q1).2.1.below hb1, (id q1).2.2.1.below hb1, (id q1).2.2.2.1.below hb1, (id q1).2.2.2.2.1.below hb1, (id q1).2.2.2.2.2.1.below hb1, (id q1).2.2.2.2.2.2.1.below hb1, (id q1).2.2.2.2.2.2.2.below hb1⟩
    clear hK K q1 hb1
    have q1 := q2
    clear q2
    try simp only [Act.put, x2, x3, x4, x5, x6, x7]
    refine r1 (i := 12) rfl (fun K hK => ?_)
    go_simp
    go_at_call 72
    (with_reducible refine (difference_l (vv * ux) (uu * vx) Wvvux.out Wuuvx.out WY.out _).mono ?_); rintro e w1 ⟨rfl, hb1⟩
    go_wp2_with fail
    refine hK.out _ _ ?_ (fun q2 => ?_)
    · exact ⟨(id q1).1.below hb1, (id q1).2.1.below hb1, (id q1).2.2.1.below hb1, (id q1).2.2.2.1.below hb1, (id q1).2.2.2.2.1.below hb1, (id q1).2.2.2.2.2.1.below hb1, (id q1).2.2.2.2.2.2.1.below hb1, (id q1).2.2.2.2.2.2.2.below hb1⟩
    clear hK K q1 hb1
    have q1 := q2
    clear q2
    try simp only [Act.put, x2, x3, x4, x5, x6, x7]
    refine r1 (i := 14) rfl (fun K hK => ?_)
    go_simp
    go_at_call 71
    (with_reducible refine (shifted_l a.y (vv * ux - uu * vx) d KY.out NY.out D0.out Ad.out _).mono ?_); rintro e w1 ⟨rfl, hb1⟩
    go_wp2_with fail
    refine hK.out _ _ ?_ (fun q2 => ?_)
    · exact ⟨(id q1).1.below hb1, (id q1).2.1.below hb1, (id q1).2.2.1.below hb1, (id q1).2.2.2.1.below hb1, (id q1).2.2.2.2.1.below hb1, (id q1).2.2.2.2.2.1.below hb1, (id q1).2.2.2.2.2.2.1.below hb1, (id q1).2.2.2.2.2.2.2.below hb1⟩
    clear hK K q1 hb1
    have q1 := q2
    clear q2
    try simp only [Act.put, x2, x3, x4, x5, x6, x7]
    refine tk (i := 15) (v := ?_) rfl (Or.inl ⟨by rfl, ?_⟩) ?_
    rotate_left
    · intro Wq hSw
      clear hSw
      go_simp
      all_goals (with_reducible rfl)
    try simp only [Act.put, x2, x3, x4, x5, x6, x7]
    refine tk (i := 16) (v := ?_) rfl (Or.inl ⟨by rfl, ?_⟩) ?_
    rotate_left
    · intro Wq hSw
      clear hSw
      go_simp
      all_goals (with_reducible rfl)
    try simp only [Act.put, x2, x3, x4, x5, x6, x7]
    refine tk (i := 17) (v := ?_) rfl (Or.inl ⟨by rfl, ?_⟩) ?_
    rotate_left
    · intro Wq hSw
      clear hSw
      go_simp
      all_goals (with_reducible rfl)
    try simp only [Act.put, x2, x3, x4, x5, x6, x7]
    refine tk (i := 18) (v := ?_) rfl (Or.inl ⟨by rfl, ?_⟩) ?_
    rotate_left
    · intro Wq hSw
      clear hSw
      go_simp
      all_goals (with_reducible rfl)
    try simp only [Act.put, x2, x3, x4, x5, x6, x7]
    refine tk (i := 19) (v := ?_) rfl (Or.inl ⟨by rfl, ?_⟩) ?_
    rotate_left
    · intro Wq hSw
      clear hSw
      go_simp
      all_goals (with_reducible rfl)
    try simp only [Act.put, x2, x3, x4, x5, x6, x7]
    refine wpAnyH_done (by kernel_rfl) ?_ _
    go_wp2_with fail
    go_meet
    case rel => exact ⟨rfl, rfl, id q1⟩
  case rest =>
  obtain ⟨rfl, rfl, hS2⟩ := hcut
  rw [show shiftZ a.y (vv * ux - uu * vx) d = Y from HP3.out.symm]
  obtain ⟨r0, r1, vr⟩ := hS2.2.2.2.2.2.2.1
  have HG := hi hS2.2.2.2.2.2.2.2
  have HVR := hi vr
  clear hS2 HS2 HP3 vr Buu Bvv Bux Buy Bvx Bvy Wuuvy Wvvuy Wvvux Wuuvx WX WY NX NY KX KY D0 Ad Rux Ruy Rvx Rvy Lux Luy Lvx Lvy n1 n2 n3
  go_upto_region 10 with (fail)
  go_cut [18] (fun p18 W => ∃ g18 : Nat, p18 = .pointer (some ⟨g18, 0, none⟩) ∧ Var W g18 [.int .i64 (intV X), .int .i64 (intV Y)] ∧ Slot2 W (w.heap.size + 1 + 1 + 1) ∧ Grew w 4 W)
  case first =>
    clear HP
    generalize intV X = x at *
    generalize intV Y = y at *
    generalize isI X = bx at *
    generalize isI Y = b_y at *
    go_wp2_with fail
    go_meet
    case rel => exact ⟨_, rfl, var2_new _ _ _ _ _ rfl, ⟨_, _, HVR.out.below (bl_one _ _)⟩, HG.out.new _⟩
  case rest =>
  obtain ⟨g18, rfl, v18, ⟨s0, s1, vs⟩, hG⟩ := hcut
  clear HG HVR
  have HG := hi hG
  clear hG
  by_cases hI : isI X = false ∨ isI Y = false
  · have hf := isI_fit hI
    have HP4 : Hid (rp = ⟨0, 0⟩ ∧ re = 10) := by have := HP.out; rw [hf] at this; exact this
    clear HP hf
    obtain ⟨c0, c1⟩ := v18.two
    obtain ⟨k0, k1⟩ := vs.two
    obtain ⟨f0, f1⟩ := vs.free2
    generalize intV X = x at *
    generalize intV Y = y at *
    generalize isI X = bx at *
    generalize isI Y = b_y at *
    obtain ⟨rfl, rfl⟩ := HP4.out
    clear HP4 v18 vs
    cases bx <;> cases b_y
    case true.true => simp at hI
    all_goals
      clear hI
      go_wp2
      refine bodyPost_ret (v := .tuple #[.agg #[.int .i64 0, .int .i64 0], .int .i64 10]) (by simp [results, Try.results32, go_sem, k0, k1]; done) rfl ⟨rfl, ?_⟩
      repeat (first | (with_reducible exact Below.refl _ _) | (with_reducible refine bl_alloc ?_ _) | (with_reducible refine Below.drew ?_) | (with_reducible refine below_drewN' ?_ _) | ((with_reducible refine bl_set ?_ ?_ _); (rotate_left; (dsimp only; omega))))
      exact HG.out.hb
  · have hx : isI X = true := by cases h : isI X; exact absurd (.inl h) hI; rfl
    have hy : isI Y = true := by cases h : isI Y; exact absurd (.inr h) hI; rfl
    have e1 : intV X = X := by unfold intV; rw [hx]; rfl
    have e2 : intV Y = Y := by unfold intV; rw [hy]; rfl
    rw [e1, e2] at v18
    rw [hx, hy]
    clear hx hy e1 e2 hI
    obtain ⟨p, hpx, hpy⟩ : ∃ p : Pt, p.x = X ∧ p.y = Y := ⟨⟨X, Y⟩, rfl, rfl⟩
    subst hpx hpy
    have HP5 : Hid (rp = (if fitB p then p else ⟨0, 0⟩) ∧ re = (if fitB p then 0 else 10)) := HP.out
    clear HP
    have HV := hi v18
    have HS := hi vs
    obtain ⟨c0, c1⟩ := v18.two
    clear v18 vs
    go_wp2_with fail
    refine (fits1 _ p _ _ rfl).mono ?_
    rintro e w1 ⟨rfl, hb1⟩
    have v18 := HV.out.below (bl_trans (bl_one _ _) hb1)
    have vs := HS.out.below (bl_trans (bl_one _ _) hb1)
    have hG := HG.out.below (bl_trans (bl_one _ _) hb1)
    clear HG HV HS hb1 c0 c1
    have HG := hi hG
    obtain ⟨c0, c1⟩ := v18.two
    obtain ⟨k0, k1⟩ := vs.two
    obtain ⟨f0, f1⟩ := vs.free2
    clear hG v18 vs
    generalize fitB p = r at *
    obtain ⟨rfl, rfl⟩ := HP5.out
    clear HP5
    cases r
    · go_wp2
      refine bodyPost_ret (v := .tuple #[.agg #[.int .i64 0, .int .i64 0], .int .i64 10]) (by simp [results, Try.results32, go_sem, k0, k1]; done) rfl ⟨rfl, ?_⟩
      repeat (first | (with_reducible exact Below.refl _ _) | (with_reducible refine bl_alloc ?_ _) | (with_reducible refine Below.drew ?_) | (with_reducible refine below_drewN' ?_ _) | ((with_reducible refine bl_set ?_ ?_ _); (rotate_left; (dsimp only; omega))))
      exact HG.out.hb
    · go_wp2
      refine bodyPost_ret (v := .tuple #[.agg #[.int .i64 p.x, .int .i64 p.y], .int .i64 0]) (by simp [results, Try.results32, go_sem, k0, k1]; done) rfl ⟨rfl, ?_⟩
      repeat (first | (with_reducible exact Below.refl _ _) | (with_reducible refine bl_alloc ?_ _) | (with_reducible refine Below.drew ?_) | (with_reducible refine below_drewN' ?_ _) | ((with_reducible refine bl_set ?_ ?_ _); (rotate_left; (dsimp only; omega))))
      exact HG.out.hb
end Go.Proofs.Ytojfggnimmaemaa
