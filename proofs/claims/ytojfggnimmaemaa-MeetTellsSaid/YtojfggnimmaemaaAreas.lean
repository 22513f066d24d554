/-
  Contracts of the document's num, minus, Det.
-/
import Derived.Test.YtojfggnimmaemaaEnvN
import Derived.Test.YtojfggnimmaemaaRefSub
import Derived.Test.YtojfggnimmaemaaRefLit
import Derived.Test.YtojfggnimmaemaaRefTimes
import Derived.Test.YtojfggnimmaemaaVars
import Derived.Test.YtojfggnimmaemaaLongs
import Derived.Test.YtojfggnimmaemaaMeetAll
namespace Go.Proofs.Ytojfggnimmaemaa
open Go.RowKit

/-- it answers the number z -/
def NumP (z : Int) (w : World) (e : Ending) (w' : World) : Prop := ∃ x, e = .returned x ∧ NumIs x z w' ∧ Below w.heap.size w w'
theorem NumIs.res {v : Value} {z : Int} {W : World} (h : NumIs v z W) {b : Nat} {x : Bool} {s : Value} (hv : Var W b [.bool x, s]) (y : Bool) (s' : Value) : NumIs v z ((W.setCell ⟨b, 0, none⟩ (.bool y)).setCell ⟨b, 1, none⟩ s') := by
  obtain ⟨m, ad, n, c, f, e, hd, hm, hz⟩ := h
  exact ⟨m, ad, n, c, f, e, hd.res hv.two.1 _ _, hm, hz⟩
theorem Ab.big {x A : Int} (hx : Ab x A) (h : A < 65536 ^ 100) : -BIG < x ∧ x < BIG := by unfold Ab at hx; unfold BIG; omega

set_option maxHeartbeats 1000000 in
set_option maxRecDepth 100000 in
theorem num_n (x : Int) (hx : R64 x) (w : World) : Calls Try.prog 70 #[.int .i64 x] w (NumP x w) := by
  have HX := Lib.hid hx
  clear hx
  go_enter Try.func70, Try.ntmps70
  go_upto_region 1 with (fail)
  refine wp_abs (fun W => Var W w.heap.size [.bool false, .slice none 0 0] ∧ Grew w 1 W) ?_ ?_
  · exact ⟨var2_new _ _ _ _ _ rfl, by repeat (first | (with_reducible exact Below.refl _ _) | (with_reducible refine bl_alloc ?_ _) | (with_reducible refine Below.drew ?_) | (with_reducible refine below_drewN' ?_ _) | ((with_reducible refine bl_set ?_ ?_ _); (rotate_left; (dsimp only; omega)))), by simp⟩
  rintro W0 ⟨v1, hG⟩
  have HV := Lib.hid (And.intro v1 hG)
  clear v1 hG
  go_wp2_with fail
  refine (small_num x HX.out.1 HX.out.2 _).mono ?_
  rintro e w1 ⟨v, rfl, hN, hb1⟩
  obtain ⟨m, ad, n, c, rfl⟩ := hN.shape
  have HN := Lib.hid hN
  have HV1 := Lib.hid (And.intro (HV.out.1.below hb1) (HV.out.2.below hb1))
  clear HV hN hb1
  obtain ⟨k0, k1⟩ := HV1.out.1.two
  obtain ⟨f0, f1⟩ := HV1.out.1.free2
  go_wp2
  refine bodyPost_ret (v := .agg #[.bool m, .slice ad n c]) (by simp [results, Try.results70, go_sem, k0, k1]; done) rfl ⟨_, rfl, HN.out.res HV1.out.1 _ _, ((HV1.out.2.set (by dsimp only; omega) _).set (by dsimp only; omega) _).hb⟩

set_option maxHeartbeats 1000000 in
set_option maxRecDepth 100000 in
theorem minus_n (u0 u1 : Value) (z0 z1 : Int) (hb0 : -BIG < z0 ∧ z0 < BIG) (hb1 : -BIG < z1 ∧ z1 < BIG) (w : World) (h0 : NumIs u0 z0 w) (h1 : NumIs u1 z1 w) : Calls Try.prog 61 #[u0, u1] w (NumP (z0 - z1) w) := by
  obtain ⟨m0, ad0, n0, c0, rfl⟩ := h0.shape
  have HI0 := Lib.hid h0
  clear h0
  obtain ⟨m1, ad1, n1, c1, rfl⟩ := h1.shape
  have HI1 := Lib.hid h1
  clear h1
  have HB : Hid ((-BIG < z0 ∧ z0 < BIG) ∧ (-BIG < -z1 ∧ -z1 < BIG)) := ⟨hb0, by omega⟩
  clear hb0 hb1
  go_enter Try.func61, Try.ntmps61
  go_upto_region 1 with (fail)
  refine wp_abs (fun W => (fun W => Var W (w.heap.size) [.bool m0, .slice ad0 n0 c0] ∧ Var W (w.heap.size + 1) [.bool m1, .slice ad1 n1 c1] ∧ Grew w 3 W) W ∧ Var W (w.heap.size + 1 + 1) [.bool false, .slice none 0 0]) ?_ ?_
  · exact ⟨⟨(var2_new _ _ _ _ _ rfl).below (bl_alloc (bl_one _ _) _), (var2_new _ _ _ _ _ (by simp)).below (bl_one _ _), by repeat (first | (with_reducible exact Below.refl _ _) | (with_reducible refine bl_alloc ?_ _) | (with_reducible refine Below.drew ?_) | (with_reducible refine below_drewN' ?_ _) | ((with_reducible refine bl_set ?_ ?_ _); (rotate_left; (dsimp only; omega)))), by simp⟩, var2_new _ _ _ _ _ (by simp)⟩
  rintro W0 ⟨hS0, hr⟩
  have HS0 := Lib.hid hS0
  have HR := Lib.hid hr
  replace HI0 := Lib.hid (HI0.out.below HS0.out.2.2.hb)
  replace HI1 := Lib.hid (HI1.out.below HS0.out.2.2.hb)
  clear hS0 hr
  refine wp_region_held_drew (S := fun W => Var W (w.heap.size) [.bool m0, .slice ad0 n0 c0] ∧ Var W (w.heap.size + 1) [.bool m1, .slice ad1 n1 c1] ∧ Grew w 3 W) (by kernel_rfl) ?_ (fun hHeld => ?_)
  · exact ⟨HS0.out.1.below (bel_drew _), HS0.out.2.1.below (bel_drew _), HS0.out.2.2.below (bel_drew _)⟩
  replace HR := Lib.hid (HR.out.below (bel_drew _))
  replace HI0 := Lib.hid (HI0.out.below (bel_drew _))
  replace HI1 := Lib.hid (HI1.out.below (bel_drew _))
  revert HR
  revert HI0
  revert HI1
  revert hHeld
  generalize World.drew _ = W1
  intro hHeld HI1 HI0 HR
  refine wpAnyH_take (i := 0) (v := ?_) rfl (by kernel_rfl) (by kernel_rfl) (by kernel_rfl) (fun _ _ _ h => h) (Or.inl ⟨by rfl, ?_⟩) (by assumption) ?_
  rotate_left
  · intro Wq hSw
    obtain ⟨k0, k1⟩ := (id hSw).1.two
    clear hSw
    go_simp
    all_goals (with_reducible rfl)
  try simp only [Act.put, List.getElem_toArray, List.getElem_cons_zero, List.setIfInBounds_toArray, List.set_cons_zero, List.set_cons_succ]
  refine wpAnyH_take (i := 1) (v := ?_) rfl (by kernel_rfl) (by kernel_rfl) (by kernel_rfl) (fun _ _ _ h => h) (Or.inl ⟨by rfl, ?_⟩) (by assumption) ?_
  rotate_left
  · intro Wq hSw
    obtain ⟨k0, k1⟩ := (id hSw).2.1.two
    clear hSw
    go_simp
    all_goals (with_reducible rfl)
  try simp only [Act.put, List.getElem_toArray, List.getElem_cons_succ, List.getElem_cons_zero, List.setIfInBounds_toArray, List.set_cons_zero, List.set_cons_succ]
  refine wpAnyH_ready (rs := [2]) (by kernel_rfl) (by simp) ?_
  refine (AllReadyH.cons rfl (fun K hK => ?_) AllReadyH.nil)
  rw [if_pos (by rfl)]
  go_simp
  go_at_call 39
  (with_reducible refine (neg_num _ z1 _ HI1.out).mono ?_); rintro e w1 ⟨va, rfl, hNa, hb1⟩
  obtain ⟨ma, ada, na, ca, rfl⟩ := hNa.shape
  have HNa := Lib.hid hNa
  clear hNa
  go_wp2_with fail
  refine hK.out _ _ ?_ (fun hHeld2 => ?_)
  · exact ⟨(id hHeld).1.below hb1, (id hHeld).2.1.below hb1, (id hHeld).2.2.below hb1⟩
  replace HR := Lib.hid (HR.out.below hb1)
  replace HI0 := Lib.hid (HI0.out.below hb1)
  replace HI1 := Lib.hid (HI1.out.below hb1)
  clear hK K hHeld hb1
  have hHeld := hHeld2
  clear hHeld2
  try simp only [Act.put, List.getElem_toArray, List.getElem_cons_succ, List.getElem_cons_zero, List.setIfInBounds_toArray, List.set_cons_zero, List.set_cons_succ]
  refine wpAnyH_ready (rs := [3]) (by kernel_rfl) (by simp) ?_
  refine (AllReadyH.cons rfl (fun K hK => ?_) AllReadyH.nil)
  rw [if_pos (by rfl)]
  go_simp
  go_at_call 38
  (with_reducible refine (plus_c _ _ z0 (-z1) _ HI0.out HNa.out HB.out.1 HB.out.2).mono ?_); rintro e w1 ⟨vb, rfl, hNb, hb1⟩
  obtain ⟨mb, adb, nb, cb, rfl⟩ := hNb.shape
  have HNb := Lib.hid hNb
  clear hNb
  go_wp2_with fail
  refine hK.out _ _ ?_ (fun hHeld2 => ?_)
  · exact ⟨(id hHeld).1.below hb1, (id hHeld).2.1.below hb1, (id hHeld).2.2.below hb1⟩
  replace HR := Lib.hid (HR.out.below hb1)
  replace HI0 := Lib.hid (HI0.out.below hb1)
  replace HI1 := Lib.hid (HI1.out.below hb1)
  replace HNa := Lib.hid (HNa.out.below hb1)
  clear hK K hHeld hb1
  have hHeld := hHeld2
  clear hHeld2
  try simp only [Act.put, List.getElem_toArray, List.getElem_cons_succ, List.getElem_cons_zero, List.setIfInBounds_toArray, List.set_cons_zero, List.set_cons_succ]
  refine wpAnyH_ready (rs := [4]) (by kernel_rfl) (by simp) ?_
  refine (AllReadyH.cons rfl (fun K hK => ?_) AllReadyH.nil)
  rw [if_pos (by rfl)]
  obtain ⟨k0, k1⟩ := HR.out.two
  obtain ⟨f0, f1⟩ := HR.out.free2
  go_simp
  refine hK.out _ _ ?_ (fun hHeld2 => ?_)
  · exact ⟨(((id hHeld).1.far (by dsimp only; omega) _).far (by dsimp only; omega) _), (((id hHeld).2.1.far (by dsimp only; omega) _).far (by dsimp only; omega) _), (((id hHeld).2.2.set (by dsimp only; omega) _).set (by dsimp only; omega) _)⟩
  replace HI0 := Lib.hid (HI0.out.res HR.out (mb) (.slice adb nb cb))
  replace HI1 := Lib.hid (HI1.out.res HR.out (mb) (.slice adb nb cb))
  replace HNa := Lib.hid (HNa.out.res HR.out (mb) (.slice adb nb cb))
  replace HNb := Lib.hid (HNb.out.res HR.out (mb) (.slice adb nb cb))
  replace HR := Lib.hid (HR.out.set2 (.bool mb) (.slice adb nb cb))
  clear hK K hHeld k0 k1 f0 f1
  have hHeld := hHeld2
  clear hHeld2
  try simp only [Act.put, List.getElem_toArray, List.getElem_cons_succ, List.getElem_cons_zero, List.setIfInBounds_toArray, List.set_cons_zero, List.set_cons_succ]
  refine wpAnyH_done (by kernel_rfl) ?_ _
  go_wp2_with fail
  obtain ⟨k0, k1⟩ := HR.out.two
  refine bodyPost_ret (v := .agg #[.bool mb, .slice adb nb cb]) (by simp [results, Try.results61, go_sem, k0, k1]; done) rfl ⟨_, rfl, HNb.out, (id hHeld).2.2.hb⟩

set_option maxHeartbeats 4000000 in
set_option maxRecDepth 100000 in
theorem det_n (u0 u1 u2 u3 : Value) (z0 z1 z2 z3 : Int) (hb0 : Ab z0 1208925819614629174706176) (hb1 : Ab z1 1208925819614629174706176) (hb2 : Ab z2 1208925819614629174706176) (hb3 : Ab z3 1208925819614629174706176) (w : World) (h0 : NumIs u0 z0 w) (h1 : NumIs u1 z1 w) (h2 : NumIs u2 z2 w) (h3 : NumIs u3 z3 w) : Calls Try.prog 74 #[u0, u1, u2, u3] w (NumP (z0 * z3 - z1 * z2) w) := by
  obtain ⟨m0, ad0, n0, c0, rfl⟩ := h0.shape
  have HI0 := Lib.hid h0
  clear h0
  obtain ⟨m1, ad1, n1, c1, rfl⟩ := h1.shape
  have HI1 := Lib.hid h1
  clear h1
  obtain ⟨m2, ad2, n2, c2, rfl⟩ := h2.shape
  have HI2 := Lib.hid h2
  clear h2
  obtain ⟨m3, ad3, n3, c3, rfl⟩ := h3.shape
  have HI3 := Lib.hid h3
  clear h3
  have HB0 := Lib.hid (hb0.big (by decide))
  have HB1 := Lib.hid (hb1.big (by decide))
  have HB2 := Lib.hid (hb2.big (by decide))
  have HB3 := Lib.hid (hb3.big (by decide))
  have HP0 := Lib.hid ((hb0.mul hb3).big (by decide))
  have HP1 := Lib.hid ((hb1.mul hb2).big (by decide))
  clear hb0 hb1 hb2 hb3
  go_enter Try.func74, Try.ntmps74
  go_upto_region 1 with (fail)
  refine wp_abs (fun W => (fun W => Var W (w.heap.size) [.bool m0, .slice ad0 n0 c0] ∧ Var W (w.heap.size + 1) [.bool m1, .slice ad1 n1 c1] ∧ Var W (w.heap.size + 1 + 1) [.bool m2, .slice ad2 n2 c2] ∧ Var W (w.heap.size + 1 + 1 + 1) [.bool m3, .slice ad3 n3 c3] ∧ Grew w 5 W) W ∧ Var W (w.heap.size + 1 + 1 + 1 + 1) [.bool false, .slice none 0 0]) ?_ ?_
  · exact ⟨⟨(var2_new _ _ _ _ _ rfl).below (bl_alloc (bl_alloc (bl_alloc (bl_one _ _) _) _) _), (var2_new _ _ _ _ _ (by simp)).below (bl_alloc (bl_alloc (bl_one _ _) _) _), (var2_new _ _ _ _ _ (by simp)).below (bl_alloc (bl_one _ _) _), (var2_new _ _ _ _ _ (by simp)).below (bl_one _ _), by repeat (first | (with_reducible exact Below.refl _ _) | (with_reducible refine bl_alloc ?_ _) | (with_reducible refine Below.drew ?_) | (with_reducible refine below_drewN' ?_ _) | ((with_reducible refine bl_set ?_ ?_ _); (rotate_left; (dsimp only; omega)))), by simp⟩, var2_new _ _ _ _ _ (by simp)⟩
  rintro W0 ⟨hS0, hr⟩
  have HS0 := Lib.hid hS0
  have HR := Lib.hid hr
  replace HI0 := Lib.hid (HI0.out.below HS0.out.2.2.2.2.hb)
  replace HI1 := Lib.hid (HI1.out.below HS0.out.2.2.2.2.hb)
  replace HI2 := Lib.hid (HI2.out.below HS0.out.2.2.2.2.hb)
  replace HI3 := Lib.hid (HI3.out.below HS0.out.2.2.2.2.hb)
  clear hS0 hr
  refine wp_region_held_drew (S := fun W => Var W (w.heap.size) [.bool m0, .slice ad0 n0 c0] ∧ Var W (w.heap.size + 1) [.bool m1, .slice ad1 n1 c1] ∧ Var W (w.heap.size + 1 + 1) [.bool m2, .slice ad2 n2 c2] ∧ Var W (w.heap.size + 1 + 1 + 1) [.bool m3, .slice ad3 n3 c3] ∧ Grew w 5 W) (by kernel_rfl) ?_ (fun hHeld => ?_)
  · exact ⟨HS0.out.1.below (bel_drew _), HS0.out.2.1.below (bel_drew _), HS0.out.2.2.1.below (bel_drew _), HS0.out.2.2.2.1.below (bel_drew _), HS0.out.2.2.2.2.below (bel_drew _)⟩
  replace HR := Lib.hid (HR.out.below (bel_drew _))
  replace HI0 := Lib.hid (HI0.out.below (bel_drew _))
  replace HI1 := Lib.hid (HI1.out.below (bel_drew _))
  replace HI2 := Lib.hid (HI2.out.below (bel_drew _))
  replace HI3 := Lib.hid (HI3.out.below (bel_drew _))
  revert HR
  revert HI0
  revert HI1
  revert HI2
  revert HI3
  revert hHeld
  generalize World.drew _ = W1
  intro hHeld HI3 HI2 HI1 HI0 HR
  refine wpAnyH_take (i := 0) (v := ?_) rfl (by kernel_rfl) (by kernel_rfl) (by kernel_rfl) (fun _ _ _ h => h) (Or.inl ⟨by rfl, ?_⟩) (by assumption) ?_
  rotate_left
  · intro Wq hSw
    obtain ⟨k0, k1⟩ := (id hSw).1.two
    clear hSw
    go_simp
    all_goals (with_reducible rfl)
  try simp only [Act.put, List.getElem_toArray, List.getElem_cons_zero, List.setIfInBounds_toArray, List.set_cons_zero, List.set_cons_succ]
  refine wpAnyH_take (i := 1) (v := ?_) rfl (by kernel_rfl) (by kernel_rfl) (by kernel_rfl) (fun _ _ _ h => h) (Or.inl ⟨by rfl, ?_⟩) (by assumption) ?_
  rotate_left
  · intro Wq hSw
    obtain ⟨k0, k1⟩ := (id hSw).2.2.2.1.two
    clear hSw
    go_simp
    all_goals (with_reducible rfl)
  try simp only [Act.put, List.getElem_toArray, List.getElem_cons_succ, List.getElem_cons_zero, List.setIfInBounds_toArray, List.set_cons_zero, List.set_cons_succ]
  refine wpAnyH_take (i := 3) (v := ?_) rfl (by kernel_rfl) (by kernel_rfl) (by kernel_rfl) (fun _ _ _ h => h) (Or.inl ⟨by rfl, ?_⟩) (by assumption) ?_
  rotate_left
  · intro Wq hSw
    obtain ⟨k0, k1⟩ := (id hSw).2.1.two
    clear hSw
    go_simp
    all_goals (with_reducible rfl)
  try simp only [Act.put, List.getElem_toArray, List.getElem_cons_succ, List.getElem_cons_zero, List.setIfInBounds_toArray, List.set_cons_zero, List.set_cons_succ]
  refine wpAnyH_take (i := 4) (v := ?_) rfl (by kernel_rfl) (by kernel_rfl) (by kernel_rfl) (fun _ _ _ h => h) (Or.inl ⟨by rfl, ?_⟩) (by assumption) ?_
  rotate_left
  · intro Wq hSw
    obtain ⟨k0, k1⟩ := (id hSw).2.2.1.two
    clear hSw
    go_simp
    all_goals (with_reducible rfl)
  try simp only [Act.put, List.getElem_toArray, List.getElem_cons_succ, List.getElem_cons_zero, List.setIfInBounds_toArray, List.set_cons_zero, List.set_cons_succ]
  refine wpAnyH_ready (rs := [2]) (by kernel_rfl) (by simp) ?_
  refine (AllReadyH.cons rfl (fun K hK => ?_) AllReadyH.nil)
  rw [if_pos (by rfl)]
  go_simp
  go_at_call 36
  (with_reducible refine (times_num _ _ z0 z3 _ HI0.out HI3.out HB0.out HB3.out).mono ?_); rintro e w1 ⟨va, rfl, hNa, hb1⟩
  obtain ⟨ma, ada, na, ca, rfl⟩ := hNa.shape
  have HNa := Lib.hid hNa
  clear hNa
  go_wp2_with fail
  refine hK.out _ _ ?_ (fun hHeld2 => ?_)
  · exact ⟨(id hHeld).1.below hb1, (id hHeld).2.1.below hb1, (id hHeld).2.2.1.below hb1, (id hHeld).2.2.2.1.below hb1, (id hHeld).2.2.2.2.below hb1⟩
  replace HR := Lib.hid (HR.out.below hb1)
  replace HI0 := Lib.hid (HI0.out.below hb1)
  replace HI1 := Lib.hid (HI1.out.below hb1)
  replace HI2 := Lib.hid (HI2.out.below hb1)
  replace HI3 := Lib.hid (HI3.out.below hb1)
  clear hK K hHeld hb1
  have hHeld := hHeld2
  clear hHeld2
  try simp only [Act.put, List.getElem_toArray, List.getElem_cons_succ, List.getElem_cons_zero, List.setIfInBounds_toArray, List.set_cons_zero, List.set_cons_succ]
  refine wpAnyH_ready (rs := [5]) (by kernel_rfl) (by simp) ?_
  refine (AllReadyH.cons rfl (fun K hK => ?_) AllReadyH.nil)
  rw [if_pos (by rfl)]
  go_simp
  go_at_call 36
  (with_reducible refine (times_num _ _ z1 z2 _ HI1.out HI2.out HB1.out HB2.out).mono ?_); rintro e w1 ⟨vb, rfl, hNb, hb1⟩
  obtain ⟨mb, adb, nb, cb, rfl⟩ := hNb.shape
  have HNb := Lib.hid hNb
  clear hNb
  go_wp2_with fail
  refine hK.out _ _ ?_ (fun hHeld2 => ?_)
  · exact ⟨(id hHeld).1.below hb1, (id hHeld).2.1.below hb1, (id hHeld).2.2.1.below hb1, (id hHeld).2.2.2.1.below hb1, (id hHeld).2.2.2.2.below hb1⟩
  replace HR := Lib.hid (HR.out.below hb1)
  replace HI0 := Lib.hid (HI0.out.below hb1)
  replace HI1 := Lib.hid (HI1.out.below hb1)
  replace HI2 := Lib.hid (HI2.out.below hb1)
  replace HI3 := Lib.hid (HI3.out.below hb1)
  replace HNa := Lib.hid (HNa.out.below hb1)
  clear hK K hHeld hb1
  have hHeld := hHeld2
  clear hHeld2
  try simp only [Act.put, List.getElem_toArray, List.getElem_cons_succ, List.getElem_cons_zero, List.setIfInBounds_toArray, List.set_cons_zero, List.set_cons_succ]
  refine wpAnyH_ready (rs := [6]) (by kernel_rfl) (by simp) ?_
  refine (AllReadyH.cons rfl (fun K hK => ?_) AllReadyH.nil)
  rw [if_pos (by rfl)]
  go_simp
  go_at_call 61
  (with_reducible refine (minus_n _ _ (z0 * z3) (z1 * z2) HP0.out HP1.out _ HNa.out HNb.out).mono ?_); rintro e w1 ⟨vc, rfl, hNc, hb1⟩
  obtain ⟨mc, adc, nc, cc, rfl⟩ := hNc.shape
  have HNc := Lib.hid hNc
  clear hNc
  go_wp2_with fail
  refine hK.out _ _ ?_ (fun hHeld2 => ?_)
  · exact ⟨(id hHeld).1.below hb1, (id hHeld).2.1.below hb1, (id hHeld).2.2.1.below hb1, (id hHeld).2.2.2.1.below hb1, (id hHeld).2.2.2.2.below hb1⟩
  replace HR := Lib.hid (HR.out.below hb1)
  replace HI0 := Lib.hid (HI0.out.below hb1)
  replace HI1 := Lib.hid (HI1.out.below hb1)
  replace HI2 := Lib.hid (HI2.out.below hb1)
  replace HI3 := Lib.hid (HI3.out.below hb1)
  replace HNa := Lib.hid (HNa.out.below hb1)
  replace HNb := Lib.hid (HNb.out.below hb1)
  clear hK K hHeld hb1
  have hHeld := hHeld2
  clear hHeld2
  try simp only [Act.put, List.getElem_toArray, List.getElem_cons_succ, List.getElem_cons_zero, List.setIfInBounds_toArray, List.set_cons_zero, List.set_cons_succ]
  refine wpAnyH_ready (rs := [7]) (by kernel_rfl) (by simp) ?_
  refine (AllReadyH.cons rfl (fun K hK => ?_) AllReadyH.nil)
  rw [if_pos (by rfl)]
  obtain ⟨k0, k1⟩ := HR.out.two
  obtain ⟨f0, f1⟩ := HR.out.free2
  go_simp
  refine hK.out _ _ ?_ (fun hHeld2 => ?_)
  · exact ⟨(((id hHeld).1.far (by dsimp only; omega) _).far (by dsimp only; omega) _), (((id hHeld).2.1.far (by dsimp only; omega) _).far (by dsimp only; omega) _), (((id hHeld).2.2.1.far (by dsimp only; omega) _).far (by dsimp only; omega) _), (((id hHeld).2.2.2.1.far (by dsimp only; omega) _).far (by dsimp only; omega) _), (((id hHeld).2.2.2.2.set (by dsimp only; omega) _).set (by dsimp only; omega) _)⟩
  replace HI0 := Lib.hid (HI0.out.res HR.out (mc) (.slice adc nc cc))
  replace HI1 := Lib.hid (HI1.out.res HR.out (mc) (.slice adc nc cc))
  replace HI2 := Lib.hid (HI2.out.res HR.out (mc) (.slice adc nc cc))
  replace HI3 := Lib.hid (HI3.out.res HR.out (mc) (.slice adc nc cc))
  replace HNa := Lib.hid (HNa.out.res HR.out (mc) (.slice adc nc cc))
  replace HNb := Lib.hid (HNb.out.res HR.out (mc) (.slice adc nc cc))
  replace HNc := Lib.hid (HNc.out.res HR.out (mc) (.slice adc nc cc))
  replace HR := Lib.hid (HR.out.set2 (.bool mc) (.slice adc nc cc))
  clear hK K hHeld k0 k1 f0 f1
  have hHeld := hHeld2
  clear hHeld2
  try simp only [Act.put, List.getElem_toArray, List.getElem_cons_succ, List.getElem_cons_zero, List.setIfInBounds_toArray, List.set_cons_zero, List.set_cons_succ]
  refine wpAnyH_done (by kernel_rfl) ?_ _
  go_wp2_with fail
  obtain ⟨k0, k1⟩ := HR.out.two
  refine bodyPost_ret (v := .agg #[.bool mc, .slice adc nc cc]) (by simp [results, Try.results74, go_sem, k0, k1]; done) rfl ⟨_, rfl, HNc.out, (id hHeld).2.2.2.2.hb⟩
end Go.Proofs.Ytojfggnimmaemaa

/-
  Contracts of the document's Area, Orient.
-/
namespace Go.Proofs.Ytojfggnimmaemaa
open Go.RowKit

set_option maxHeartbeats 8000000 in
set_option maxRecDepth 100000 in
theorem area_n (a b c : Pt) (ha : a.wf) (hb : b.wf) (hc : c.wf) (w : World) : Calls Try.prog 35 #[.agg #[.int .i64 a.x, .int .i64 a.y], .agg #[.int .i64 b.x, .int .i64 b.y], .agg #[.int .i64 c.x, .int .i64 c.y]] w (NumP (crossZ a b c) w) := by
  have Ra : Hid (R64 a.x ∧ R64 a.y) := ⟨⟨ha.1, ha.2.1⟩, ⟨ha.2.2.1, ha.2.2.2⟩⟩
  have Za : Hid (Ab a.x 1208925819614629174706176 ∧ Ab a.y 1208925819614629174706176) := by have := Ra.out; unfold R64 at this; unfold Hid Ab; omega
  have Rb : Hid (R64 b.x ∧ R64 b.y) := ⟨⟨hb.1, hb.2.1⟩, ⟨hb.2.2.1, hb.2.2.2⟩⟩
  have Zb : Hid (Ab b.x 1208925819614629174706176 ∧ Ab b.y 1208925819614629174706176) := by have := Rb.out; unfold R64 at this; unfold Hid Ab; omega
  have Rc : Hid (R64 c.x ∧ R64 c.y) := ⟨⟨hc.1, hc.2.1⟩, ⟨hc.2.2.1, hc.2.2.2⟩⟩
  have Zc : Hid (Ab c.x 1208925819614629174706176 ∧ Ab c.y 1208925819614629174706176) := by have := Rc.out; unfold R64 at this; unfold Hid Ab; omega
  have d0 := (Za.out.1.mul Zb.out.2).sub (Za.out.2.mul Zb.out.1)
  have d1 := (Zb.out.1.mul Zc.out.2).sub (Zb.out.2.mul Zc.out.1)
  have d2 := (Zc.out.1.mul Za.out.2).sub (Zc.out.2.mul Za.out.1)
  have D0 := Lib.hid (d0.big (by decide))
  have D1 := Lib.hid (d1.big (by decide))
  have D2 := Lib.hid (d2.big (by decide))
  have D3 := Lib.hid ((d0.add d1).big (by decide))
  clear d0 d1 d2 ha hb hc
  have HE : Hid (a.x * b.y - a.y * b.x + (b.x * c.y - b.y * c.x) + (c.x * a.y - c.y * a.x) = crossZ a b c) := by unfold Hid crossZ; grind
  go_enter Try.func35, Try.ntmps35
  go_upto_region 1 with (fail)
  refine wp_abs (fun W => (fun W => Var W (w.heap.size) [.int .i64 a.x, .int .i64 a.y] ∧ Var W (w.heap.size + 1) [.int .i64 b.x, .int .i64 b.y] ∧ Var W (w.heap.size + 1 + 1) [.int .i64 c.x, .int .i64 c.y] ∧ Grew w 4 W) W ∧ Var W (w.heap.size + 1 + 1 + 1) [.bool false, .slice none 0 0]) ?_ ?_
  · exact ⟨⟨(var2_new _ _ _ _ _ rfl).below (bl_alloc (bl_alloc (bl_one _ _) _) _), (var2_new _ _ _ _ _ (by simp)).below (bl_alloc (bl_one _ _) _), (var2_new _ _ _ _ _ (by simp)).below (bl_one _ _), by repeat (first | (with_reducible exact Below.refl _ _) | (with_reducible refine bl_alloc ?_ _) | (with_reducible refine Below.drew ?_) | (with_reducible refine below_drewN' ?_ _) | ((with_reducible refine bl_set ?_ ?_ _); (rotate_left; (dsimp only; omega)))), by simp⟩, var2_new _ _ _ _ _ (by simp)⟩
  rintro W0 ⟨hS0, hr⟩
  have HS0 := Lib.hid hS0
  have HR := Lib.hid hr
  clear hS0 hr
  go_upto_region 1 with (fail)
  go_cut [7] (fun x W => ∃ g mm am nm cm, x = .pointer (some ⟨g, 0, none⟩) ∧ w.heap.size + 4 ≤ g ∧ Var W g [.bool mm, .slice am nm cm] ∧ NumIs (.agg #[.bool mm, .slice am nm cm]) (a.x * b.y - a.y * b.x) W ∧ Var W (w.heap.size + 1 + 1 + 1) [.bool false, .slice none 0 0] ∧ (fun W => Var W (w.heap.size) [.int .i64 a.x, .int .i64 a.y] ∧ Var W (w.heap.size + 1) [.int .i64 b.x, .int .i64 b.y] ∧ Var W (w.heap.size + 1 + 1) [.int .i64 c.x, .int .i64 c.y] ∧ Grew w 4 W) W)
  case first =>
    refine wp_region_held_drew (S := fun W => Var W (w.heap.size) [.int .i64 a.x, .int .i64 a.y] ∧ Var W (w.heap.size + 1) [.int .i64 b.x, .int .i64 b.y] ∧ Var W (w.heap.size + 1 + 1) [.int .i64 c.x, .int .i64 c.y] ∧ Grew w 4 W) (by kernel_rfl) ?_ (fun hHeld => ?_)
    · exact ⟨HS0.out.1.below (bel_drew _), HS0.out.2.1.below (bel_drew _), HS0.out.2.2.1.below (bel_drew _), HS0.out.2.2.2.below (bel_drew _)⟩
    replace HR := Lib.hid (HR.out.below (bel_drew _))
    revert HR
    revert hHeld
    generalize World.drew _ = W1
    intro hHeld HR
    refine wpAnyH_take (i := 0) (v := ?_) rfl (by kernel_rfl) (by kernel_rfl) (by kernel_rfl) (fun _ _ _ h => h) (Or.inl ⟨by rfl, ?_⟩) (by assumption) ?_
    rotate_left
    · intro Wq hSw
      clear hSw
      go_simp
      all_goals (with_reducible rfl)
    try simp only [Act.put, List.getElem_toArray, List.getElem_cons_zero, List.setIfInBounds_toArray, List.set_cons_zero, List.set_cons_succ]
    refine wpAnyH_take (i := 1) (v := ?_) rfl (by kernel_rfl) (by kernel_rfl) (by kernel_rfl) (fun _ _ _ h => h) (Or.inl ⟨by rfl, ?_⟩) (by assumption) ?_
    rotate_left
    · intro Wq hSw
      obtain ⟨k0, k1⟩ := (id hSw).1.two
      clear hSw
      go_simp
      all_goals (with_reducible rfl)
    try simp only [Act.put, List.getElem_toArray, List.getElem_cons_succ, List.getElem_cons_zero, List.setIfInBounds_toArray, List.set_cons_zero, List.set_cons_succ]
    refine wpAnyH_take (i := 3) (v := ?_) rfl (by kernel_rfl) (by kernel_rfl) (by kernel_rfl) (fun _ _ _ h => h) (Or.inl ⟨by rfl, ?_⟩) (by assumption) ?_
    rotate_left
    · intro Wq hSw
      clear hSw
      go_simp
      all_goals (with_reducible rfl)
    try simp only [Act.put, List.getElem_toArray, List.getElem_cons_succ, List.getElem_cons_zero, List.setIfInBounds_toArray, List.set_cons_zero, List.set_cons_succ]
    refine wpAnyH_take (i := 4) (v := ?_) rfl (by kernel_rfl) (by kernel_rfl) (by kernel_rfl) (fun _ _ _ h => h) (Or.inl ⟨by rfl, ?_⟩) (by assumption) ?_
    rotate_left
    · intro Wq hSw
      obtain ⟨k0, k1⟩ := (id hSw).1.two
      clear hSw
      go_simp
      all_goals (with_reducible rfl)
    try simp only [Act.put, List.getElem_toArray, List.getElem_cons_succ, List.getElem_cons_zero, List.setIfInBounds_toArray, List.set_cons_zero, List.set_cons_succ]
    refine wpAnyH_take (i := 6) (v := ?_) rfl (by kernel_rfl) (by kernel_rfl) (by kernel_rfl) (fun _ _ _ h => h) (Or.inl ⟨by rfl, ?_⟩) (by assumption) ?_
    rotate_left
    · intro Wq hSw
      clear hSw
      go_simp
      all_goals (with_reducible rfl)
    try simp only [Act.put, List.getElem_toArray, List.getElem_cons_succ, List.getElem_cons_zero, List.setIfInBounds_toArray, List.set_cons_zero, List.set_cons_succ]
    refine wpAnyH_take (i := 7) (v := ?_) rfl (by kernel_rfl) (by kernel_rfl) (by kernel_rfl) (fun _ _ _ h => h) (Or.inl ⟨by rfl, ?_⟩) (by assumption) ?_
    rotate_left
    · intro Wq hSw
      obtain ⟨k0, k1⟩ := (id hSw).2.1.two
      clear hSw
      go_simp
      all_goals (with_reducible rfl)
    try simp only [Act.put, List.getElem_toArray, List.getElem_cons_succ, List.getElem_cons_zero, List.setIfInBounds_toArray, List.set_cons_zero, List.set_cons_succ]
    refine wpAnyH_take (i := 9) (v := ?_) rfl (by kernel_rfl) (by kernel_rfl) (by kernel_rfl) (fun _ _ _ h => h) (Or.inl ⟨by rfl, ?_⟩) (by assumption) ?_
    rotate_left
    · intro Wq hSw
      clear hSw
      go_simp
      all_goals (with_reducible rfl)
    try simp only [Act.put, List.getElem_toArray, List.getElem_cons_succ, List.getElem_cons_zero, List.setIfInBounds_toArray, List.set_cons_zero, List.set_cons_succ]
    refine wpAnyH_take (i := 10) (v := ?_) rfl (by kernel_rfl) (by kernel_rfl) (by kernel_rfl) (fun _ _ _ h => h) (Or.inl ⟨by rfl, ?_⟩) (by assumption) ?_
    rotate_left
    · intro Wq hSw
      obtain ⟨k0, k1⟩ := (id hSw).2.1.two
      clear hSw
      go_simp
      all_goals (with_reducible rfl)
    try simp only [Act.put, List.getElem_toArray, List.getElem_cons_succ, List.getElem_cons_zero, List.setIfInBounds_toArray, List.set_cons_zero, List.set_cons_succ]
    refine wpAnyH_ready (rs := [2, 13]) (by kernel_rfl) (by simp) ?_
    refine (AllReadyH.cons rfl (fun K hK => ?_) (AllReadyH.cons rfl (fun K hK => ?_) AllReadyH.nil))
    · rw [if_pos (by rfl)]
      go_simp
      go_at_call 70
      (with_reducible refine (num_n a.x Ra.out.1 _).mono ?_); rintro e w1 ⟨vp0, rfl, hNp0, hb1⟩
      obtain ⟨mp0, adp0, np0, cp0, rfl⟩ := hNp0.shape
      have HNp0 := Lib.hid hNp0
      clear hNp0
      go_wp2_with fail
      refine hK.out _ _ ?_ (fun hHeld2 => ?_)
      · exact ⟨(id hHeld).1.below hb1, (id hHeld).2.1.below hb1, (id hHeld).2.2.1.below hb1, (id hHeld).2.2.2.below hb1⟩
      replace HR := Lib.hid (HR.out.below hb1)
      clear hK K hHeld hb1
      have hHeld := hHeld2
      clear hHeld2
      try simp only [Act.put, List.getElem_toArray, List.getElem_cons_succ, List.getElem_cons_zero, List.setIfInBounds_toArray, List.set_cons_zero, List.set_cons_succ]
      refine wpAnyH_ready (rs := [5, 13]) (by kernel_rfl) (by simp) ?_
      refine (AllReadyH.cons rfl (fun K hK => ?_) (AllReadyH.cons rfl (fun K hK => ?_) AllReadyH.nil))
      · rw [if_pos (by rfl)]
        go_simp
        go_at_call 70
        (with_reducible refine (num_n a.y Ra.out.2 _).mono ?_); rintro e w1 ⟨vp1, rfl, hNp1, hb1⟩
        obtain ⟨mp1, adp1, np1, cp1, rfl⟩ := hNp1.shape
        have HNp1 := Lib.hid hNp1
        clear hNp1
        go_wp2_with fail
        refine hK.out _ _ ?_ (fun hHeld2 => ?_)
        · exact ⟨(id hHeld).1.below hb1, (id hHeld).2.1.below hb1, (id hHeld).2.2.1.below hb1, (id hHeld).2.2.2.below hb1⟩
        replace HR := Lib.hid (HR.out.below hb1)
        replace HNp0 := Lib.hid (HNp0.out.below hb1)
        clear hK K hHeld hb1
        have hHeld := hHeld2
        clear hHeld2
        try simp only [Act.put, List.getElem_toArray, List.getElem_cons_succ, List.getElem_cons_zero, List.setIfInBounds_toArray, List.set_cons_zero, List.set_cons_succ]
        refine wpAnyH_ready (rs := [8, 13]) (by kernel_rfl) (by simp) ?_
        refine (AllReadyH.cons rfl (fun K hK => ?_) (AllReadyH.cons rfl (fun K hK => ?_) AllReadyH.nil))
        · rw [if_pos (by rfl)]
          go_simp
          go_at_call 70
          (with_reducible refine (num_n b.x Rb.out.1 _).mono ?_); rintro e w1 ⟨vp2, rfl, hNp2, hb1⟩
          obtain ⟨mp2, adp2, np2, cp2, rfl⟩ := hNp2.shape
          have HNp2 := Lib.hid hNp2
          clear hNp2
          go_wp2_with fail
          refine hK.out _ _ ?_ (fun hHeld2 => ?_)
          · exact ⟨(id hHeld).1.below hb1, (id hHeld).2.1.below hb1, (id hHeld).2.2.1.below hb1, (id hHeld).2.2.2.below hb1⟩
          replace HR := Lib.hid (HR.out.below hb1)
          replace HNp0 := Lib.hid (HNp0.out.below hb1)
          replace HNp1 := Lib.hid (HNp1.out.below hb1)
          clear hK K hHeld hb1
          have hHeld := hHeld2
          clear hHeld2
          try simp only [Act.put, List.getElem_toArray, List.getElem_cons_succ, List.getElem_cons_zero, List.setIfInBounds_toArray, List.set_cons_zero, List.set_cons_succ]
          refine wpAnyH_ready (rs := [11, 13]) (by kernel_rfl) (by simp) ?_
          refine (AllReadyH.cons rfl (fun K hK => ?_) (AllReadyH.cons rfl (fun K hK => ?_) AllReadyH.nil))
          · rw [if_pos (by rfl)]
            go_simp
            go_at_call 70
            (with_reducible refine (num_n b.y Rb.out.2 _).mono ?_); rintro e w1 ⟨vp3, rfl, hNp3, hb1⟩
            obtain ⟨mp3, adp3, np3, cp3, rfl⟩ := hNp3.shape
            have HNp3 := Lib.hid hNp3
            clear hNp3
            go_wp2_with fail
            refine hK.out _ _ ?_ (fun hHeld2 => ?_)
            · exact ⟨(id hHeld).1.below hb1, (id hHeld).2.1.below hb1, (id hHeld).2.2.1.below hb1, (id hHeld).2.2.2.below hb1⟩
            replace HR := Lib.hid (HR.out.below hb1)
            replace HNp0 := Lib.hid (HNp0.out.below hb1)
            replace HNp1 := Lib.hid (HNp1.out.below hb1)
            replace HNp2 := Lib.hid (HNp2.out.below hb1)
            clear hK K hHeld hb1
            have hHeld := hHeld2
            clear hHeld2
            try simp only [Act.put, List.getElem_toArray, List.getElem_cons_succ, List.getElem_cons_zero, List.setIfInBounds_toArray, List.set_cons_zero, List.set_cons_succ]
            refine wpAnyH_ready (rs := [12, 13]) (by kernel_rfl) (by simp) ?_
            refine (AllReadyH.cons rfl (fun K hK => ?_) (AllReadyH.cons rfl (fun K hK => ?_) AllReadyH.nil))
            · rw [if_pos (by rfl)]
              go_simp
              go_at_call 74
              (with_reducible refine (det_n _ _ _ _ a.x a.y b.x b.y Za.out.1 Za.out.2 Zb.out.1 Zb.out.2 _ HNp0.out HNp1.out HNp2.out HNp3.out).mono ?_); rintro e w1 ⟨vpd, rfl, hNpd, hb1⟩
              obtain ⟨mpd, adpd, npd, cpd, rfl⟩ := hNpd.shape
              have HNpd := Lib.hid hNpd
              clear hNpd
              go_wp2_with fail
              refine hK.out _ _ ?_ (fun hHeld2 => ?_)
              · exact ⟨(id hHeld).1.below hb1, (id hHeld).2.1.below hb1, (id hHeld).2.2.1.below hb1, (id hHeld).2.2.2.below hb1⟩
              replace HR := Lib.hid (HR.out.below hb1)
              replace HNp0 := Lib.hid (HNp0.out.below hb1)
              replace HNp1 := Lib.hid (HNp1.out.below hb1)
              replace HNp2 := Lib.hid (HNp2.out.below hb1)
              replace HNp3 := Lib.hid (HNp3.out.below hb1)
              clear hK K hHeld hb1
              have hHeld := hHeld2
              clear hHeld2
              try simp only [Act.put, List.getElem_toArray, List.getElem_cons_succ, List.getElem_cons_zero, List.setIfInBounds_toArray, List.set_cons_zero, List.set_cons_succ]
              refine wpAnyH_ready (rs := [13]) (by kernel_rfl) (by simp) ?_
              refine (AllReadyH.cons rfl (fun K hK => ?_) AllReadyH.nil)
              rw [if_pos (by rfl)]
              go_simp
              refine hK.out _ _ ?_ (fun hHeld2 => ?_)
              · exact ⟨(id hHeld).1.below (bl_one _ _), (id hHeld).2.1.below (bl_one _ _), (id hHeld).2.2.1.below (bl_one _ _), (id hHeld).2.2.2.below (bl_one _ _)⟩
              replace HR := Lib.hid (HR.out.below (al_of (id hHeld2).2.2.2 (bl_one _ _)))
              replace HNp0 := Lib.hid (HNp0.out.below (al_of (id hHeld2).2.2.2 (bl_one _ _)))
              replace HNp1 := Lib.hid (HNp1.out.below (al_of (id hHeld2).2.2.2 (bl_one _ _)))
              replace HNp2 := Lib.hid (HNp2.out.below (al_of (id hHeld2).2.2.2 (bl_one _ _)))
              replace HNp3 := Lib.hid (HNp3.out.below (al_of (id hHeld2).2.2.2 (bl_one _ _)))
              replace HNpd := Lib.hid (HNpd.out.below (al_of (id hHeld2).2.2.2 (bl_one _ _)))
              have hgeHT := (id hHeld).2.2.2.sz
              have HT := Lib.hid ((id hHeld).2.2.2.var2 (.bool false) (.slice none 0 0) 42)
              clear hK K hHeld
              have hHeld := hHeld2
              clear hHeld2
              try simp only [Act.put, List.getElem_toArray, List.getElem_cons_succ, List.getElem_cons_zero, List.setIfInBounds_toArray, List.set_cons_zero, List.set_cons_succ]
              revert HR
              revert HNp0
              revert HNp1
              revert HNp2
              revert HNp3
              revert HNpd
              revert HT
              revert hHeld
              generalize World.alloc _ _ = W2
              intro hHeld HT HNpd HNp3 HNp2 HNp1 HNp0 HR
              refine wpAnyH_ready (rs := [14]) (by kernel_rfl) (by simp) ?_
              refine (AllReadyH.cons rfl (fun K hK => ?_) AllReadyH.nil)
              rw [if_pos (by rfl)]
              obtain ⟨k0, k1⟩ := HT.out.two
              obtain ⟨f0, f1⟩ := HT.out.free2
              go_simp
              refine hK.out _ _ ?_ (fun hHeld2 => ?_)
              · exact ⟨(((id hHeld).1.far (by dsimp only; omega) _).far (by dsimp only; omega) _), (((id hHeld).2.1.far (by dsimp only; omega) _).far (by dsimp only; omega) _), (((id hHeld).2.2.1.far (by dsimp only; omega) _).far (by dsimp only; omega) _), (((id hHeld).2.2.2.set (by dsimp only; omega) _).set (by dsimp only; omega) _)⟩
              replace HR := Lib.hid ((id hHeld2).2.2.2.far2 HR.out (by dsimp only; omega) (by dsimp only; omega))
              replace HNp0 := Lib.hid (HNp0.out.res HT.out (mpd) (.slice adpd npd cpd))
              replace HNp1 := Lib.hid (HNp1.out.res HT.out (mpd) (.slice adpd npd cpd))
              replace HNp2 := Lib.hid (HNp2.out.res HT.out (mpd) (.slice adpd npd cpd))
              replace HNp3 := Lib.hid (HNp3.out.res HT.out (mpd) (.slice adpd npd cpd))
              replace HNpd := Lib.hid (HNpd.out.res HT.out (mpd) (.slice adpd npd cpd))
              replace HT := Lib.hid (HT.out.set2 (.bool mpd) (.slice adpd npd cpd))
              clear hK K hHeld k0 k1 f0 f1
              have hHeld := hHeld2
              clear hHeld2
              try simp only [Act.put, List.getElem_toArray, List.getElem_cons_succ, List.getElem_cons_zero, List.setIfInBounds_toArray, List.set_cons_zero, List.set_cons_succ]
              refine wpAnyH_done (by kernel_rfl) ?_ _
              go_wp2_with fail
              go_meet
              case rel => exact ⟨_, _, _, _, _, rfl, by first | exact hgeHT | exact hge1, HT.out, HNpd.out, HR.out, id hHeld⟩
            · rw [if_pos (by rfl)]
              go_simp
              refine hK.out _ _ ?_ (fun hHeld2 => ?_)
              · exact ⟨(id hHeld).1.below (bl_one _ _), (id hHeld).2.1.below (bl_one _ _), (id hHeld).2.2.1.below (bl_one _ _), (id hHeld).2.2.2.below (bl_one _ _)⟩
              replace HR := Lib.hid (HR.out.below (al_of (id hHeld2).2.2.2 (bl_one _ _)))
              replace HNp0 := Lib.hid (HNp0.out.below (al_of (id hHeld2).2.2.2 (bl_one _ _)))
              replace HNp1 := Lib.hid (HNp1.out.below (al_of (id hHeld2).2.2.2 (bl_one _ _)))
              replace HNp2 := Lib.hid (HNp2.out.below (al_of (id hHeld2).2.2.2 (bl_one _ _)))
              replace HNp3 := Lib.hid (HNp3.out.below (al_of (id hHeld2).2.2.2 (bl_one _ _)))
              have hgeHT := (id hHeld).2.2.2.sz
              have HT := Lib.hid ((id hHeld).2.2.2.var2 (.bool false) (.slice none 0 0) 42)
              clear hK K hHeld
              have hHeld := hHeld2
              clear hHeld2
              try simp only [Act.put, List.getElem_toArray, List.getElem_cons_succ, List.getElem_cons_zero, List.setIfInBounds_toArray, List.set_cons_zero, List.set_cons_succ]
              revert HR
              revert HNp0
              revert HNp1
              revert HNp2
              revert HNp3
              revert HT
              revert hHeld
              generalize World.alloc _ _ = W2
              intro hHeld HT HNp3 HNp2 HNp1 HNp0 HR
              refine wpAnyH_ready (rs := [12]) (by kernel_rfl) (by simp) ?_
              refine (AllReadyH.cons rfl (fun K hK => ?_) AllReadyH.nil)
              rw [if_pos (by rfl)]
              go_simp
              go_at_call 74
              (with_reducible refine (det_n _ _ _ _ a.x a.y b.x b.y Za.out.1 Za.out.2 Zb.out.1 Zb.out.2 _ HNp0.out HNp1.out HNp2.out HNp3.out).mono ?_); rintro e w1 ⟨vpd, rfl, hNpd, hb1⟩
              obtain ⟨mpd, adpd, npd, cpd, rfl⟩ := hNpd.shape
              have HNpd := Lib.hid hNpd
              clear hNpd
              go_wp2_with fail
              refine hK.out _ _ ?_ (fun hHeld2 => ?_)
              · exact ⟨(id hHeld).1.below hb1, (id hHeld).2.1.below hb1, (id hHeld).2.2.1.below hb1, (id hHeld).2.2.2.below hb1⟩
              replace HR := Lib.hid (HR.out.below hb1)
              replace HNp0 := Lib.hid (HNp0.out.below hb1)
              replace HNp1 := Lib.hid (HNp1.out.below hb1)
              replace HNp2 := Lib.hid (HNp2.out.below hb1)
              replace HNp3 := Lib.hid (HNp3.out.below hb1)
              replace HT := Lib.hid (HT.out.below hb1)
              clear hK K hHeld hb1
              have hHeld := hHeld2
              clear hHeld2
              try simp only [Act.put, List.getElem_toArray, List.getElem_cons_succ, List.getElem_cons_zero, List.setIfInBounds_toArray, List.set_cons_zero, List.set_cons_succ]
              refine wpAnyH_ready (rs := [14]) (by kernel_rfl) (by simp) ?_
              refine (AllReadyH.cons rfl (fun K hK => ?_) AllReadyH.nil)
              rw [if_pos (by rfl)]
              obtain ⟨k0, k1⟩ := HT.out.two
              obtain ⟨f0, f1⟩ := HT.out.free2
              go_simp
              refine hK.out _ _ ?_ (fun hHeld2 => ?_)
              · exact ⟨(((id hHeld).1.far (by dsimp only; omega) _).far (by dsimp only; omega) _), (((id hHeld).2.1.far (by dsimp only; omega) _).far (by dsimp only; omega) _), (((id hHeld).2.2.1.far (by dsimp only; omega) _).far (by dsimp only; omega) _), (((id hHeld).2.2.2.set (by dsimp only; omega) _).set (by dsimp only; omega) _)⟩
              replace HR := Lib.hid ((id hHeld2).2.2.2.far2 HR.out (by dsimp only; omega) (by dsimp only; omega))
              replace HNp0 := Lib.hid (HNp0.out.res HT.out (mpd) (.slice adpd npd cpd))
              replace HNp1 := Lib.hid (HNp1.out.res HT.out (mpd) (.slice adpd npd cpd))
              replace HNp2 := Lib.hid (HNp2.out.res HT.out (mpd) (.slice adpd npd cpd))
              replace HNp3 := Lib.hid (HNp3.out.res HT.out (mpd) (.slice adpd npd cpd))
              replace HNpd := Lib.hid (HNpd.out.res HT.out (mpd) (.slice adpd npd cpd))
              replace HT := Lib.hid (HT.out.set2 (.bool mpd) (.slice adpd npd cpd))
              clear hK K hHeld k0 k1 f0 f1
              have hHeld := hHeld2
              clear hHeld2
              try simp only [Act.put, List.getElem_toArray, List.getElem_cons_succ, List.getElem_cons_zero, List.setIfInBounds_toArray, List.set_cons_zero, List.set_cons_succ]
              refine wpAnyH_done (by kernel_rfl) ?_ _
              go_wp2_with fail
              go_meet
              case rel => exact ⟨_, _, _, _, _, rfl, by first | exact hgeHT | exact hge1, HT.out, HNpd.out, HR.out, id hHeld⟩
          · rw [if_pos (by rfl)]
            go_simp
            refine hK.out _ _ ?_ (fun hHeld2 => ?_)
            · exact ⟨(id hHeld).1.below (bl_one _ _), (id hHeld).2.1.below (bl_one _ _), (id hHeld).2.2.1.below (bl_one _ _), (id hHeld).2.2.2.below (bl_one _ _)⟩
            replace HR := Lib.hid (HR.out.below (al_of (id hHeld2).2.2.2 (bl_one _ _)))
            replace HNp0 := Lib.hid (HNp0.out.below (al_of (id hHeld2).2.2.2 (bl_one _ _)))
            replace HNp1 := Lib.hid (HNp1.out.below (al_of (id hHeld2).2.2.2 (bl_one _ _)))
            replace HNp2 := Lib.hid (HNp2.out.below (al_of (id hHeld2).2.2.2 (bl_one _ _)))
            have hgeHT := (id hHeld).2.2.2.sz
            have HT := Lib.hid ((id hHeld).2.2.2.var2 (.bool false) (.slice none 0 0) 42)
            clear hK K hHeld
            have hHeld := hHeld2
            clear hHeld2
            try simp only [Act.put, List.getElem_toArray, List.getElem_cons_succ, List.getElem_cons_zero, List.setIfInBounds_toArray, List.set_cons_zero, List.set_cons_succ]
            revert HR
            revert HNp0
            revert HNp1
            revert HNp2
            revert HT
            revert hHeld
            generalize World.alloc _ _ = W2
            intro hHeld HT HNp2 HNp1 HNp0 HR
            refine wpAnyH_ready (rs := [11]) (by kernel_rfl) (by simp) ?_
            refine (AllReadyH.cons rfl (fun K hK => ?_) AllReadyH.nil)
            rw [if_pos (by rfl)]
            go_simp
            go_at_call 70
            (with_reducible refine (num_n b.y Rb.out.2 _).mono ?_); rintro e w1 ⟨vp3, rfl, hNp3, hb1⟩
            obtain ⟨mp3, adp3, np3, cp3, rfl⟩ := hNp3.shape
            have HNp3 := Lib.hid hNp3
            clear hNp3
            go_wp2_with fail
            refine hK.out _ _ ?_ (fun hHeld2 => ?_)
            · exact ⟨(id hHeld).1.below hb1, (id hHeld).2.1.below hb1, (id hHeld).2.2.1.below hb1, (id hHeld).2.2.2.below hb1⟩
            replace HR := Lib.hid (HR.out.below hb1)
            replace HNp0 := Lib.hid (HNp0.out.below hb1)
            replace HNp1 := Lib.hid (HNp1.out.below hb1)
            replace HNp2 := Lib.hid (HNp2.out.below hb1)
            replace HT := Lib.hid (HT.out.below hb1)
            clear hK K hHeld hb1
            have hHeld := hHeld2
            clear hHeld2
            try simp only [Act.put, List.getElem_toArray, List.getElem_cons_succ, List.getElem_cons_zero, List.setIfInBounds_toArray, List.set_cons_zero, List.set_cons_succ]
            refine wpAnyH_ready (rs := [12]) (by kernel_rfl) (by simp) ?_
            refine (AllReadyH.cons rfl (fun K hK => ?_) AllReadyH.nil)
            rw [if_pos (by rfl)]
            go_simp
            go_at_call 74
            (with_reducible refine (det_n _ _ _ _ a.x a.y b.x b.y Za.out.1 Za.out.2 Zb.out.1 Zb.out.2 _ HNp0.out HNp1.out HNp2.out HNp3.out).mono ?_); rintro e w1 ⟨vpd, rfl, hNpd, hb1⟩
            obtain ⟨mpd, adpd, npd, cpd, rfl⟩ := hNpd.shape
            have HNpd := Lib.hid hNpd
            clear hNpd
            go_wp2_with fail
            refine hK.out _ _ ?_ (fun hHeld2 => ?_)
            · exact ⟨(id hHeld).1.below hb1, (id hHeld).2.1.below hb1, (id hHeld).2.2.1.below hb1, (id hHeld).2.2.2.below hb1⟩
            replace HR := Lib.hid (HR.out.below hb1)
            replace HNp0 := Lib.hid (HNp0.out.below hb1)
            replace HNp1 := Lib.hid (HNp1.out.below hb1)
            replace HNp2 := Lib.hid (HNp2.out.below hb1)
            replace HT := Lib.hid (HT.out.below hb1)
            replace HNp3 := Lib.hid (HNp3.out.below hb1)
            clear hK K hHeld hb1
            have hHeld := hHeld2
            clear hHeld2
            try simp only [Act.put, List.getElem_toArray, List.getElem_cons_succ, List.getElem_cons_zero, List.setIfInBounds_toArray, List.set_cons_zero, List.set_cons_succ]
            refine wpAnyH_ready (rs := [14]) (by kernel_rfl) (by simp) ?_
            refine (AllReadyH.cons rfl (fun K hK => ?_) AllReadyH.nil)
            rw [if_pos (by rfl)]
            obtain ⟨k0, k1⟩ := HT.out.two
            obtain ⟨f0, f1⟩ := HT.out.free2
            go_simp
            refine hK.out _ _ ?_ (fun hHeld2 => ?_)
            · exact ⟨(((id hHeld).1.far (by dsimp only; omega) _).far (by dsimp only; omega) _), (((id hHeld).2.1.far (by dsimp only; omega) _).far (by dsimp only; omega) _), (((id hHeld).2.2.1.far (by dsimp only; omega) _).far (by dsimp only; omega) _), (((id hHeld).2.2.2.set (by dsimp only; omega) _).set (by dsimp only; omega) _)⟩
            replace HR := Lib.hid ((id hHeld2).2.2.2.far2 HR.out (by dsimp only; omega) (by dsimp only; omega))
            replace HNp0 := Lib.hid (HNp0.out.res HT.out (mpd) (.slice adpd npd cpd))
            replace HNp1 := Lib.hid (HNp1.out.res HT.out (mpd) (.slice adpd npd cpd))
            replace HNp2 := Lib.hid (HNp2.out.res HT.out (mpd) (.slice adpd npd cpd))
            replace HNp3 := Lib.hid (HNp3.out.res HT.out (mpd) (.slice adpd npd cpd))
            replace HNpd := Lib.hid (HNpd.out.res HT.out (mpd) (.slice adpd npd cpd))
            replace HT := Lib.hid (HT.out.set2 (.bool mpd) (.slice adpd npd cpd))
            clear hK K hHeld k0 k1 f0 f1
            have hHeld := hHeld2
            clear hHeld2
            try simp only [Act.put, List.getElem_toArray, List.getElem_cons_succ, List.getElem_cons_zero, List.setIfInBounds_toArray, List.set_cons_zero, List.set_cons_succ]
            refine wpAnyH_done (by kernel_rfl) ?_ _
            go_wp2_with fail
            go_meet
            case rel => exact ⟨_, _, _, _, _, rfl, by first | exact hgeHT | exact hge1, HT.out, HNpd.out, HR.out, id hHeld⟩
        · rw [if_pos (by rfl)]
          go_simp
          refine hK.out _ _ ?_ (fun hHeld2 => ?_)
          · exact ⟨(id hHeld).1.below (bl_one _ _), (id hHeld).2.1.below (bl_one _ _), (id hHeld).2.2.1.below (bl_one _ _), (id hHeld).2.2.2.below (bl_one _ _)⟩
          replace HR := Lib.hid (HR.out.below (al_of (id hHeld2).2.2.2 (bl_one _ _)))
          replace HNp0 := Lib.hid (HNp0.out.below (al_of (id hHeld2).2.2.2 (bl_one _ _)))
          replace HNp1 := Lib.hid (HNp1.out.below (al_of (id hHeld2).2.2.2 (bl_one _ _)))
          have hgeHT := (id hHeld).2.2.2.sz
          have HT := Lib.hid ((id hHeld).2.2.2.var2 (.bool false) (.slice none 0 0) 42)
          clear hK K hHeld
          have hHeld := hHeld2
          clear hHeld2
          try simp only [Act.put, List.getElem_toArray, List.getElem_cons_succ, List.getElem_cons_zero, List.setIfInBounds_toArray, List.set_cons_zero, List.set_cons_succ]
          revert HR
          revert HNp0
          revert HNp1
          revert HT
          revert hHeld
          generalize World.alloc _ _ = W2
          intro hHeld HT HNp1 HNp0 HR
          refine wpAnyH_ready (rs := [8]) (by kernel_rfl) (by simp) ?_
          refine (AllReadyH.cons rfl (fun K hK => ?_) AllReadyH.nil)
          rw [if_pos (by rfl)]
          go_simp
          go_at_call 70
          (with_reducible refine (num_n b.x Rb.out.1 _).mono ?_); rintro e w1 ⟨vp2, rfl, hNp2, hb1⟩
          obtain ⟨mp2, adp2, np2, cp2, rfl⟩ := hNp2.shape
          have HNp2 := Lib.hid hNp2
          clear hNp2
          go_wp2_with fail
          refine hK.out _ _ ?_ (fun hHeld2 => ?_)
          · exact ⟨(id hHeld).1.below hb1, (id hHeld).2.1.below hb1, (id hHeld).2.2.1.below hb1, (id hHeld).2.2.2.below hb1⟩
          replace HR := Lib.hid (HR.out.below hb1)
          replace HNp0 := Lib.hid (HNp0.out.below hb1)
          replace HNp1 := Lib.hid (HNp1.out.below hb1)
          replace HT := Lib.hid (HT.out.below hb1)
          clear hK K hHeld hb1
          have hHeld := hHeld2
          clear hHeld2
          try simp only [Act.put, List.getElem_toArray, List.getElem_cons_succ, List.getElem_cons_zero, List.setIfInBounds_toArray, List.set_cons_zero, List.set_cons_succ]
          refine wpAnyH_ready (rs := [11]) (by kernel_rfl) (by simp) ?_
          refine (AllReadyH.cons rfl (fun K hK => ?_) AllReadyH.nil)
          rw [if_pos (by rfl)]
          go_simp
          go_at_call 70
          (with_reducible refine (num_n b.y Rb.out.2 _).mono ?_); rintro e w1 ⟨vp3, rfl, hNp3, hb1⟩
          obtain ⟨mp3, adp3, np3, cp3, rfl⟩ := hNp3.shape
          have HNp3 := Lib.hid hNp3
          clear hNp3
          go_wp2_with fail
          refine hK.out _ _ ?_ (fun hHeld2 => ?_)
          · exact ⟨(id hHeld).1.below hb1, (id hHeld).2.1.below hb1, (id hHeld).2.2.1.below hb1, (id hHeld).2.2.2.below hb1⟩
          replace HR := Lib.hid (HR.out.below hb1)
          replace HNp0 := Lib.hid (HNp0.out.below hb1)
          replace HNp1 := Lib.hid (HNp1.out.below hb1)
          replace HT := Lib.hid (HT.out.below hb1)
          replace HNp2 := Lib.hid (HNp2.out.below hb1)
          clear hK K hHeld hb1
          have hHeld := hHeld2
          clear hHeld2
          try simp only [Act.put, List.getElem_toArray, List.getElem_cons_succ, List.getElem_cons_zero, List.setIfInBounds_toArray, List.set_cons_zero, List.set_cons_succ]
          refine wpAnyH_ready (rs := [12]) (by kernel_rfl) (by simp) ?_
          refine (AllReadyH.cons rfl (fun K hK => ?_) AllReadyH.nil)
          rw [if_pos (by rfl)]
          go_simp
          go_at_call 74
          (with_reducible refine (det_n _ _ _ _ a.x a.y b.x b.y Za.out.1 Za.out.2 Zb.out.1 Zb.out.2 _ HNp0.out HNp1.out HNp2.out HNp3.out).mono ?_); rintro e w1 ⟨vpd, rfl, hNpd, hb1⟩
          obtain ⟨mpd, adpd, npd, cpd, rfl⟩ := hNpd.shape
          have HNpd := Lib.hid hNpd
          clear hNpd
          go_wp2_with fail
          refine hK.out _ _ ?_ (fun hHeld2 => ?_)
          · exact ⟨(id hHeld).1.below hb1, (id hHeld).2.1.below hb1, (id hHeld).2.2.1.below hb1, (id hHeld).2.2.2.below hb1⟩
          replace HR := Lib.hid (HR.out.below hb1)
          replace HNp0 := Lib.hid (HNp0.out.below hb1)
          replace HNp1 := Lib.hid (HNp1.out.below hb1)
          replace HT := Lib.hid (HT.out.below hb1)
          replace HNp2 := Lib.hid (HNp2.out.below hb1)
          replace HNp3 := Lib.hid (HNp3.out.below hb1)
          clear hK K hHeld hb1
          have hHeld := hHeld2
          clear hHeld2
          try simp only [Act.put, List.getElem_toArray, List.getElem_cons_succ, List.getElem_cons_zero, List.setIfInBounds_toArray, List.set_cons_zero, List.set_cons_succ]
          refine wpAnyH_ready (rs := [14]) (by kernel_rfl) (by simp) ?_
          refine (AllReadyH.cons rfl (fun K hK => ?_) AllReadyH.nil)
          rw [if_pos (by rfl)]
          obtain ⟨k0, k1⟩ := HT.out.two
          obtain ⟨f0, f1⟩ := HT.out.free2
          go_simp
          refine hK.out _ _ ?_ (fun hHeld2 => ?_)
          · exact ⟨(((id hHeld).1.far (by dsimp only; omega) _).far (by dsimp only; omega) _), (((id hHeld).2.1.far (by dsimp only; omega) _).far (by dsimp only; omega) _), (((id hHeld).2.2.1.far (by dsimp only; omega) _).far (by dsimp only; omega) _), (((id hHeld).2.2.2.set (by dsimp only; omega) _).set (by dsimp only; omega) _)⟩
          replace HR := Lib.hid ((id hHeld2).2.2.2.far2 HR.out (by dsimp only; omega) (by dsimp only; omega))
          replace HNp0 := Lib.hid (HNp0.out.res HT.out (mpd) (.slice adpd npd cpd))
          replace HNp1 := Lib.hid (HNp1.out.res HT.out (mpd) (.slice adpd npd cpd))
          replace HNp2 := Lib.hid (HNp2.out.res HT.out (mpd) (.slice adpd npd cpd))
          replace HNp3 := Lib.hid (HNp3.out.res HT.out (mpd) (.slice adpd npd cpd))
          replace HNpd := Lib.hid (HNpd.out.res HT.out (mpd) (.slice adpd npd cpd))
          replace HT := Lib.hid (HT.out.set2 (.bool mpd) (.slice adpd npd cpd))
          clear hK K hHeld k0 k1 f0 f1
          have hHeld := hHeld2
          clear hHeld2
          try simp only [Act.put, List.getElem_toArray, List.getElem_cons_succ, List.getElem_cons_zero, List.setIfInBounds_toArray, List.set_cons_zero, List.set_cons_succ]
          refine wpAnyH_done (by kernel_rfl) ?_ _
          go_wp2_with fail
          go_meet
          case rel => exact ⟨_, _, _, _, _, rfl, by first | exact hgeHT | exact hge1, HT.out, HNpd.out, HR.out, id hHeld⟩
      · rw [if_pos (by rfl)]
        go_simp
        refine hK.out _ _ ?_ (fun hHeld2 => ?_)
        · exact ⟨(id hHeld).1.below (bl_one _ _), (id hHeld).2.1.below (bl_one _ _), (id hHeld).2.2.1.below (bl_one _ _), (id hHeld).2.2.2.below (bl_one _ _)⟩
        replace HR := Lib.hid (HR.out.below (al_of (id hHeld2).2.2.2 (bl_one _ _)))
        replace HNp0 := Lib.hid (HNp0.out.below (al_of (id hHeld2).2.2.2 (bl_one _ _)))
        have hgeHT := (id hHeld).2.2.2.sz
        have HT := Lib.hid ((id hHeld).2.2.2.var2 (.bool false) (.slice none 0 0) 42)
        clear hK K hHeld
        have hHeld := hHeld2
        clear hHeld2
        try simp only [Act.put, List.getElem_toArray, List.getElem_cons_succ, List.getElem_cons_zero, List.setIfInBounds_toArray, List.set_cons_zero, List.set_cons_succ]
        revert HR
        revert HNp0
        revert HT
        revert hHeld
        generalize World.alloc _ _ = W2
        intro hHeld HT HNp0 HR
        refine wpAnyH_ready (rs := [5]) (by kernel_rfl) (by simp) ?_
        refine (AllReadyH.cons rfl (fun K hK => ?_) AllReadyH.nil)
        rw [if_pos (by rfl)]
        go_simp
        go_at_call 70
        (with_reducible refine (num_n a.y Ra.out.2 _).mono ?_); rintro e w1 ⟨vp1, rfl, hNp1, hb1⟩
        obtain ⟨mp1, adp1, np1, cp1, rfl⟩ := hNp1.shape
        have HNp1 := Lib.hid hNp1
        clear hNp1
        go_wp2_with fail
        refine hK.out _ _ ?_ (fun hHeld2 => ?_)
        · exact ⟨(id hHeld).1.below hb1, (id hHeld).2.1.below hb1, (id hHeld).2.2.1.below hb1, (id hHeld).2.2.2.below hb1⟩
        replace HR := Lib.hid (HR.out.below hb1)
        replace HNp0 := Lib.hid (HNp0.out.below hb1)
        replace HT := Lib.hid (HT.out.below hb1)
        clear hK K hHeld hb1
        have hHeld := hHeld2
        clear hHeld2
        try simp only [Act.put, List.getElem_toArray, List.getElem_cons_succ, List.getElem_cons_zero, List.setIfInBounds_toArray, List.set_cons_zero, List.set_cons_succ]
        refine wpAnyH_ready (rs := [8]) (by kernel_rfl) (by simp) ?_
        refine (AllReadyH.cons rfl (fun K hK => ?_) AllReadyH.nil)
        rw [if_pos (by rfl)]
        go_simp
        go_at_call 70
        (with_reducible refine (num_n b.x Rb.out.1 _).mono ?_); rintro e w1 ⟨vp2, rfl, hNp2, hb1⟩
        obtain ⟨mp2, adp2, np2, cp2, rfl⟩ := hNp2.shape
        have HNp2 := Lib.hid hNp2
        clear hNp2
        go_wp2_with fail
        refine hK.out _ _ ?_ (fun hHeld2 => ?_)
        · exact ⟨(id hHeld).1.below hb1, (id hHeld).2.1.below hb1, (id hHeld).2.2.1.below hb1, (id hHeld).2.2.2.below hb1⟩
        replace HR := Lib.hid (HR.out.below hb1)
        replace HNp0 := Lib.hid (HNp0.out.below hb1)
        replace HT := Lib.hid (HT.out.below hb1)
        replace HNp1 := Lib.hid (HNp1.out.below hb1)
        clear hK K hHeld hb1
        have hHeld := hHeld2
        clear hHeld2
        try simp only [Act.put, List.getElem_toArray, List.getElem_cons_succ, List.getElem_cons_zero, List.setIfInBounds_toArray, List.set_cons_zero, List.set_cons_succ]
        refine wpAnyH_ready (rs := [11]) (by kernel_rfl) (by simp) ?_
        refine (AllReadyH.cons rfl (fun K hK => ?_) AllReadyH.nil)
        rw [if_pos (by rfl)]
        go_simp
        go_at_call 70
        (with_reducible refine (num_n b.y Rb.out.2 _).mono ?_); rintro e w1 ⟨vp3, rfl, hNp3, hb1⟩
        obtain ⟨mp3, adp3, np3, cp3, rfl⟩ := hNp3.shape
        have HNp3 := Lib.hid hNp3
        clear hNp3
        go_wp2_with fail
        refine hK.out _ _ ?_ (fun hHeld2 => ?_)
        · exact ⟨(id hHeld).1.below hb1, (id hHeld).2.1.below hb1, (id hHeld).2.2.1.below hb1, (id hHeld).2.2.2.below hb1⟩
        replace HR := Lib.hid (HR.out.below hb1)
        replace HNp0 := Lib.hid (HNp0.out.below hb1)
        replace HT := Lib.hid (HT.out.below hb1)
        replace HNp1 := Lib.hid (HNp1.out.below hb1)
        replace HNp2 := Lib.hid (HNp2.out.below hb1)
        clear hK K hHeld hb1
        have hHeld := hHeld2
        clear hHeld2
        try simp only [Act.put, List.getElem_toArray, List.getElem_cons_succ, List.getElem_cons_zero, List.setIfInBounds_toArray, List.set_cons_zero, List.set_cons_succ]
        refine wpAnyH_ready (rs := [12]) (by kernel_rfl) (by simp) ?_
        refine (AllReadyH.cons rfl (fun K hK => ?_) AllReadyH.nil)
        rw [if_pos (by rfl)]
        go_simp
        go_at_call 74
        (with_reducible refine (det_n _ _ _ _ a.x a.y b.x b.y Za.out.1 Za.out.2 Zb.out.1 Zb.out.2 _ HNp0.out HNp1.out HNp2.out HNp3.out).mono ?_); rintro e w1 ⟨vpd, rfl, hNpd, hb1⟩
        obtain ⟨mpd, adpd, npd, cpd, rfl⟩ := hNpd.shape
        have HNpd := Lib.hid hNpd
        clear hNpd
        go_wp2_with fail
        refine hK.out _ _ ?_ (fun hHeld2 => ?_)
        · exact ⟨(id hHeld).1.below hb1, (id hHeld).2.1.below hb1, (id hHeld).2.2.1.below hb1, (id hHeld).2.2.2.below hb1⟩
        replace HR := Lib.hid (HR.out.below hb1)
        replace HNp0 := Lib.hid (HNp0.out.below hb1)
        replace HT := Lib.hid (HT.out.below hb1)
        replace HNp1 := Lib.hid (HNp1.out.below hb1)
        replace HNp2 := Lib.hid (HNp2.out.below hb1)
        replace HNp3 := Lib.hid (HNp3.out.below hb1)
        clear hK K hHeld hb1
        have hHeld := hHeld2
        clear hHeld2
        try simp only [Act.put, List.getElem_toArray, List.getElem_cons_succ, List.getElem_cons_zero, List.setIfInBounds_toArray, List.set_cons_zero, List.set_cons_succ]
        refine wpAnyH_ready (rs := [14]) (by kernel_rfl) (by simp) ?_
        refine (AllReadyH.cons rfl (fun K hK => ?_) AllReadyH.nil)
        rw [if_pos (by rfl)]
        obtain ⟨k0, k1⟩ := HT.out.two
        obtain ⟨f0, f1⟩ := HT.out.free2
        go_simp
        refine hK.out _ _ ?_ (fun hHeld2 => ?_)
        · exact ⟨(((id hHeld).1.far (by dsimp only; omega) _).far (by dsimp only; omega) _), (((id hHeld).2.1.far (by dsimp only; omega) _).far (by dsimp only; omega) _), (((id hHeld).2.2.1.far (by dsimp only; omega) _).far (by dsimp only; omega) _), (((id hHeld).2.2.2.set (by dsimp only; omega) _).set (by dsimp only; omega) _)⟩
        replace HR := Lib.hid ((id hHeld2).2.2.2.far2 HR.out (by dsimp only; omega) (by dsimp only; omega))
        replace HNp0 := Lib.hid (HNp0.out.res HT.out (mpd) (.slice adpd npd cpd))
        replace HNp1 := Lib.hid (HNp1.out.res HT.out (mpd) (.slice adpd npd cpd))
        replace HNp2 := Lib.hid (HNp2.out.res HT.out (mpd) (.slice adpd npd cpd))
        replace HNp3 := Lib.hid (HNp3.out.res HT.out (mpd) (.slice adpd npd cpd))
        replace HNpd := Lib.hid (HNpd.out.res HT.out (mpd) (.slice adpd npd cpd))
        replace HT := Lib.hid (HT.out.set2 (.bool mpd) (.slice adpd npd cpd))
        clear hK K hHeld k0 k1 f0 f1
        have hHeld := hHeld2
        clear hHeld2
        try simp only [Act.put, List.getElem_toArray, List.getElem_cons_succ, List.getElem_cons_zero, List.setIfInBounds_toArray, List.set_cons_zero, List.set_cons_succ]
        refine wpAnyH_done (by kernel_rfl) ?_ _
        go_wp2_with fail
        go_meet
        case rel => exact ⟨_, _, _, _, _, rfl, by first | exact hgeHT | exact hge1, HT.out, HNpd.out, HR.out, id hHeld⟩
    · rw [if_pos (by rfl)]
      go_simp
      refine hK.out _ _ ?_ (fun hHeld2 => ?_)
      · exact ⟨(id hHeld).1.below (bl_one _ _), (id hHeld).2.1.below (bl_one _ _), (id hHeld).2.2.1.below (bl_one _ _), (id hHeld).2.2.2.below (bl_one _ _)⟩
      replace HR := Lib.hid (HR.out.below (al_of (id hHeld2).2.2.2 (bl_one _ _)))
      have hgeHT := (id hHeld).2.2.2.sz
      have HT := Lib.hid ((id hHeld).2.2.2.var2 (.bool false) (.slice none 0 0) 42)
      clear hK K hHeld
      have hHeld := hHeld2
      clear hHeld2
      try simp only [Act.put, List.getElem_toArray, List.getElem_cons_succ, List.getElem_cons_zero, List.setIfInBounds_toArray, List.set_cons_zero, List.set_cons_succ]
      revert HR
      revert HT
      revert hHeld
      generalize World.alloc _ _ = W2
      intro hHeld HT HR
      refine wpAnyH_ready (rs := [2]) (by kernel_rfl) (by simp) ?_
      refine (AllReadyH.cons rfl (fun K hK => ?_) AllReadyH.nil)
      rw [if_pos (by rfl)]
      go_simp
      go_at_call 70
      (with_reducible refine (num_n a.x Ra.out.1 _).mono ?_); rintro e w1 ⟨vp0, rfl, hNp0, hb1⟩
      obtain ⟨mp0, adp0, np0, cp0, rfl⟩ := hNp0.shape
      have HNp0 := Lib.hid hNp0
      clear hNp0
      go_wp2_with fail
      refine hK.out _ _ ?_ (fun hHeld2 => ?_)
      · exact ⟨(id hHeld).1.below hb1, (id hHeld).2.1.below hb1, (id hHeld).2.2.1.below hb1, (id hHeld).2.2.2.below hb1⟩
      replace HR := Lib.hid (HR.out.below hb1)
      replace HT := Lib.hid (HT.out.below hb1)
      clear hK K hHeld hb1
      have hHeld := hHeld2
      clear hHeld2
      try simp only [Act.put, List.getElem_toArray, List.getElem_cons_succ, List.getElem_cons_zero, List.setIfInBounds_toArray, List.set_cons_zero, List.set_cons_succ]
      refine wpAnyH_ready (rs := [5]) (by kernel_rfl) (by simp) ?_
      refine (AllReadyH.cons rfl (fun K hK => ?_) AllReadyH.nil)
      rw [if_pos (by rfl)]
      go_simp
      go_at_call 70
      (with_reducible refine (num_n a.y Ra.out.2 _).mono ?_); rintro e w1 ⟨vp1, rfl, hNp1, hb1⟩
      obtain ⟨mp1, adp1, np1, cp1, rfl⟩ := hNp1.shape
      have HNp1 := Lib.hid hNp1
      clear hNp1
      go_wp2_with fail
      refine hK.out _ _ ?_ (fun hHeld2 => ?_)
      · exact ⟨(id hHeld).1.below hb1, (id hHeld).2.1.below hb1, (id hHeld).2.2.1.below hb1, (id hHeld).2.2.2.below hb1⟩
      replace HR := Lib.hid (HR.out.below hb1)
      replace HT := Lib.hid (HT.out.below hb1)
      replace HNp0 := Lib.hid (HNp0.out.below hb1)
      clear hK K hHeld hb1
      have hHeld := hHeld2
      clear hHeld2
      try simp only [Act.put, List.getElem_toArray, List.getElem_cons_succ, List.getElem_cons_zero, List.setIfInBounds_toArray, List.set_cons_zero, List.set_cons_succ]
      refine wpAnyH_ready (rs := [8]) (by kernel_rfl) (by simp) ?_
      refine (AllReadyH.cons rfl (fun K hK => ?_) AllReadyH.nil)
      rw [if_pos (by rfl)]
      go_simp
      go_at_call 70
      (with_reducible refine (num_n b.x Rb.out.1 _).mono ?_); rintro e w1 ⟨vp2, rfl, hNp2, hb1⟩
      obtain ⟨mp2, adp2, np2, cp2, rfl⟩ := hNp2.shape
      have HNp2 := Lib.hid hNp2
      clear hNp2
      go_wp2_with fail
      refine hK.out _ _ ?_ (fun hHeld2 => ?_)
      · exact ⟨(id hHeld).1.below hb1, (id hHeld).2.1.below hb1, (id hHeld).2.2.1.below hb1, (id hHeld).2.2.2.below hb1⟩
      replace HR := Lib.hid (HR.out.below hb1)
      replace HT := Lib.hid (HT.out.below hb1)
      replace HNp0 := Lib.hid (HNp0.out.below hb1)
      replace HNp1 := Lib.hid (HNp1.out.below hb1)
      clear hK K hHeld hb1
      have hHeld := hHeld2
      clear hHeld2
      try simp only [Act.put, List.getElem_toArray, List.getElem_cons_succ, List.getElem_cons_zero, List.setIfInBounds_toArray, List.set_cons_zero, List.set_cons_succ]
      refine wpAnyH_ready (rs := [11]) (by kernel_rfl) (by simp) ?_
      refine (AllReadyH.cons rfl (fun K hK => ?_) AllReadyH.nil)
      rw [if_pos (by rfl)]
      go_simp
      go_at_call 70
      (with_reducible refine (num_n b.y Rb.out.2 _).mono ?_); rintro e w1 ⟨vp3, rfl, hNp3, hb1⟩
      obtain ⟨mp3, adp3, np3, cp3, rfl⟩ := hNp3.shape
      have HNp3 := Lib.hid hNp3
      clear hNp3
      go_wp2_with fail
      refine hK.out _ _ ?_ (fun hHeld2 => ?_)
      · exact ⟨(id hHeld).1.below hb1, (id hHeld).2.1.below hb1, (id hHeld).2.2.1.below hb1, (id hHeld).2.2.2.below hb1⟩
      replace HR := Lib.hid (HR.out.below hb1)
      replace HT := Lib.hid (HT.out.below hb1)
      replace HNp0 := Lib.hid (HNp0.out.below hb1)
      replace HNp1 := Lib.hid (HNp1.out.below hb1)
      replace HNp2 := Lib.hid (HNp2.out.below hb1)
      clear hK K hHeld hb1
      have hHeld := hHeld2
      clear hHeld2
      try simp only [Act.put, List.getElem_toArray, List.getElem_cons_succ, List.getElem_cons_zero, List.setIfInBounds_toArray, List.set_cons_zero, List.set_cons_succ]
      refine wpAnyH_ready (rs := [12]) (by kernel_rfl) (by simp) ?_
      refine (AllReadyH.cons rfl (fun K hK => ?_) AllReadyH.nil)
      rw [if_pos (by rfl)]
      go_simp
      go_at_call 74
      (with_reducible refine (det_n _ _ _ _ a.x a.y b.x b.y Za.out.1 Za.out.2 Zb.out.1 Zb.out.2 _ HNp0.out HNp1.out HNp2.out HNp3.out).mono ?_); rintro e w1 ⟨vpd, rfl, hNpd, hb1⟩
      obtain ⟨mpd, adpd, npd, cpd, rfl⟩ := hNpd.shape
      have HNpd := Lib.hid hNpd
      clear hNpd
      go_wp2_with fail
      refine hK.out _ _ ?_ (fun hHeld2 => ?_)
      · exact ⟨(id hHeld).1.below hb1, (id hHeld).2.1.below hb1, (id hHeld).2.2.1.below hb1, (id hHeld).2.2.2.below hb1⟩
      replace HR := Lib.hid (HR.out.below hb1)
      replace HT := Lib.hid (HT.out.below hb1)
      replace HNp0 := Lib.hid (HNp0.out.below hb1)
      replace HNp1 := Lib.hid (HNp1.out.below hb1)
      replace HNp2 := Lib.hid (HNp2.out.below hb1)
      replace HNp3 := Lib.hid (HNp3.out.below hb1)
      clear hK K hHeld hb1
      have hHeld := hHeld2
      clear hHeld2
      try simp only [Act.put, List.getElem_toArray, List.getElem_cons_succ, List.getElem_cons_zero, List.setIfInBounds_toArray, List.set_cons_zero, List.set_cons_succ]
      refine wpAnyH_ready (rs := [14]) (by kernel_rfl) (by simp) ?_
      refine (AllReadyH.cons rfl (fun K hK => ?_) AllReadyH.nil)
      rw [if_pos (by rfl)]
      obtain ⟨k0, k1⟩ := HT.out.two
      obtain ⟨f0, f1⟩ := HT.out.free2
      go_simp
      refine hK.out _ _ ?_ (fun hHeld2 => ?_)
      · exact ⟨(((id hHeld).1.far (by dsimp only; omega) _).far (by dsimp only; omega) _), (((id hHeld).2.1.far (by dsimp only; omega) _).far (by dsimp only; omega) _), (((id hHeld).2.2.1.far (by dsimp only; omega) _).far (by dsimp only; omega) _), (((id hHeld).2.2.2.set (by dsimp only; omega) _).set (by dsimp only; omega) _)⟩
      replace HR := Lib.hid ((id hHeld2).2.2.2.far2 HR.out (by dsimp only; omega) (by dsimp only; omega))
      replace HNp0 := Lib.hid (HNp0.out.res HT.out (mpd) (.slice adpd npd cpd))
      replace HNp1 := Lib.hid (HNp1.out.res HT.out (mpd) (.slice adpd npd cpd))
      replace HNp2 := Lib.hid (HNp2.out.res HT.out (mpd) (.slice adpd npd cpd))
      replace HNp3 := Lib.hid (HNp3.out.res HT.out (mpd) (.slice adpd npd cpd))
      replace HNpd := Lib.hid (HNpd.out.res HT.out (mpd) (.slice adpd npd cpd))
      replace HT := Lib.hid (HT.out.set2 (.bool mpd) (.slice adpd npd cpd))
      clear hK K hHeld k0 k1 f0 f1
      have hHeld := hHeld2
      clear hHeld2
      try simp only [Act.put, List.getElem_toArray, List.getElem_cons_succ, List.getElem_cons_zero, List.setIfInBounds_toArray, List.set_cons_zero, List.set_cons_succ]
      refine wpAnyH_done (by kernel_rfl) ?_ _
      go_wp2_with fail
      go_meet
      case rel => exact ⟨_, _, _, _, _, rfl, by first | exact hgeHT | exact hge1, HT.out, HNpd.out, HR.out, id hHeld⟩
  case rest =>
  obtain ⟨g1, m1, ad1, n1, c1, rfl, hge1, hT, hN, hr, hS0⟩ := hcut
  replace HS0 := Lib.hid hS0
  replace HR := Lib.hid hr
  have HT := Lib.hid hT
  have HN1 := Lib.hid hN
  clear hS0 hr hT hN
  go_upto_region 2 with (fail)
  go_cut [7] (fun x W => ∃ g mm am nm cm, x = .pointer (some ⟨g, 0, none⟩) ∧ w.heap.size + 4 ≤ g ∧ Var W g [.bool mm, .slice am nm cm] ∧ NumIs (.agg #[.bool mm, .slice am nm cm]) (a.x * b.y - a.y * b.x + (b.x * c.y - b.y * c.x)) W ∧ Var W (w.heap.size + 1 + 1 + 1) [.bool false, .slice none 0 0] ∧ (fun W => Var W (w.heap.size) [.int .i64 a.x, .int .i64 a.y] ∧ Var W (w.heap.size + 1) [.int .i64 b.x, .int .i64 b.y] ∧ Var W (w.heap.size + 1 + 1) [.int .i64 c.x, .int .i64 c.y] ∧ Grew w 4 W) W)
  case first =>
    refine wp_region_held_drew (S := fun W => Var W (w.heap.size) [.int .i64 a.x, .int .i64 a.y] ∧ Var W (w.heap.size + 1) [.int .i64 b.x, .int .i64 b.y] ∧ Var W (w.heap.size + 1 + 1) [.int .i64 c.x, .int .i64 c.y] ∧ Grew w 4 W) (by kernel_rfl) ?_ (fun hHeld => ?_)
    · exact ⟨HS0.out.1.below (bel_drew _), HS0.out.2.1.below (bel_drew _), HS0.out.2.2.1.below (bel_drew _), HS0.out.2.2.2.below (bel_drew _)⟩
    replace HR := Lib.hid (HR.out.below (bel_drew _))
    replace HT := Lib.hid (HT.out.below (bel_drew _))
    replace HN1 := Lib.hid (HN1.out.below (bel_drew _))
    revert HR
    revert HT
    revert HN1
    revert hHeld
    generalize World.drew _ = W1
    intro hHeld HN1 HT HR
    refine wpAnyH_take (i := 1) (v := ?_) rfl (by kernel_rfl) (by kernel_rfl) (by kernel_rfl) (fun _ _ _ h => h) (Or.inl ⟨by rfl, ?_⟩) (by assumption) ?_
    rotate_left
    · intro Wq hSw
      clear hSw
      go_simp
      all_goals (with_reducible rfl)
    try simp only [Act.put, List.getElem_toArray, List.getElem_cons_succ, List.getElem_cons_zero, List.setIfInBounds_toArray, List.set_cons_zero, List.set_cons_succ]
    refine wpAnyH_take (i := 2) (v := ?_) rfl (by kernel_rfl) (by kernel_rfl) (by kernel_rfl) (fun _ _ _ h => h) (Or.inl ⟨by rfl, ?_⟩) (by assumption) ?_
    rotate_left
    · intro Wq hSw
      obtain ⟨k0, k1⟩ := (id hSw).2.1.two
      clear hSw
      go_simp
      all_goals (with_reducible rfl)
    try simp only [Act.put, List.getElem_toArray, List.getElem_cons_succ, List.getElem_cons_zero, List.setIfInBounds_toArray, List.set_cons_zero, List.set_cons_succ]
    refine wpAnyH_take (i := 4) (v := ?_) rfl (by kernel_rfl) (by kernel_rfl) (by kernel_rfl) (fun _ _ _ h => h) (Or.inl ⟨by rfl, ?_⟩) (by assumption) ?_
    rotate_left
    · intro Wq hSw
      clear hSw
      go_simp
      all_goals (with_reducible rfl)
    try simp only [Act.put, List.getElem_toArray, List.getElem_cons_succ, List.getElem_cons_zero, List.setIfInBounds_toArray, List.set_cons_zero, List.set_cons_succ]
    refine wpAnyH_take (i := 5) (v := ?_) rfl (by kernel_rfl) (by kernel_rfl) (by kernel_rfl) (fun _ _ _ h => h) (Or.inl ⟨by rfl, ?_⟩) (by assumption) ?_
    rotate_left
    · intro Wq hSw
      obtain ⟨k0, k1⟩ := (id hSw).2.1.two
      clear hSw
      go_simp
      all_goals (with_reducible rfl)
    try simp only [Act.put, List.getElem_toArray, List.getElem_cons_succ, List.getElem_cons_zero, List.setIfInBounds_toArray, List.set_cons_zero, List.set_cons_succ]
    refine wpAnyH_take (i := 7) (v := ?_) rfl (by kernel_rfl) (by kernel_rfl) (by kernel_rfl) (fun _ _ _ h => h) (Or.inl ⟨by rfl, ?_⟩) (by assumption) ?_
    rotate_left
    · intro Wq hSw
      clear hSw
      go_simp
      all_goals (with_reducible rfl)
    try simp only [Act.put, List.getElem_toArray, List.getElem_cons_succ, List.getElem_cons_zero, List.setIfInBounds_toArray, List.set_cons_zero, List.set_cons_succ]
    refine wpAnyH_take (i := 8) (v := ?_) rfl (by kernel_rfl) (by kernel_rfl) (by kernel_rfl) (fun _ _ _ h => h) (Or.inl ⟨by rfl, ?_⟩) (by assumption) ?_
    rotate_left
    · intro Wq hSw
      obtain ⟨k0, k1⟩ := (id hSw).2.2.1.two
      clear hSw
      go_simp
      all_goals (with_reducible rfl)
    try simp only [Act.put, List.getElem_toArray, List.getElem_cons_succ, List.getElem_cons_zero, List.setIfInBounds_toArray, List.set_cons_zero, List.set_cons_succ]
    refine wpAnyH_take (i := 10) (v := ?_) rfl (by kernel_rfl) (by kernel_rfl) (by kernel_rfl) (fun _ _ _ h => h) (Or.inl ⟨by rfl, ?_⟩) (by assumption) ?_
    rotate_left
    · intro Wq hSw
      clear hSw
      go_simp
      all_goals (with_reducible rfl)
    try simp only [Act.put, List.getElem_toArray, List.getElem_cons_succ, List.getElem_cons_zero, List.setIfInBounds_toArray, List.set_cons_zero, List.set_cons_succ]
    refine wpAnyH_take (i := 11) (v := ?_) rfl (by kernel_rfl) (by kernel_rfl) (by kernel_rfl) (fun _ _ _ h => h) (Or.inl ⟨by rfl, ?_⟩) (by assumption) ?_
    rotate_left
    · intro Wq hSw
      obtain ⟨k0, k1⟩ := (id hSw).2.2.1.two
      clear hSw
      go_simp
      all_goals (with_reducible rfl)
    try simp only [Act.put, List.getElem_toArray, List.getElem_cons_succ, List.getElem_cons_zero, List.setIfInBounds_toArray, List.set_cons_zero, List.set_cons_succ]
    refine wpAnyH_ready (rs := [0, 3]) (by kernel_rfl) (by simp) ?_
    refine (AllReadyH.cons rfl (fun K hK => ?_) (AllReadyH.cons rfl (fun K hK => ?_) AllReadyH.nil))
    · rw [if_pos (by rfl)]
      obtain ⟨k0, k1⟩ := HT.out.two
      go_simp
      refine hK.out _ _ ?_ (fun hHeld2 => ?_)
      · exact hHeld
      clear hK K hHeld k0 k1
      have hHeld := hHeld2
      clear hHeld2
      try simp only [Act.put, List.getElem_toArray, List.getElem_cons_succ, List.getElem_cons_zero, List.setIfInBounds_toArray, List.set_cons_zero, List.set_cons_succ]
      refine wpAnyH_ready (rs := [3]) (by kernel_rfl) (by simp) ?_
      refine (AllReadyH.cons rfl (fun K hK => ?_) AllReadyH.nil)
      rw [if_pos (by rfl)]
      go_simp
      go_at_call 70
      (with_reducible refine (num_n b.x Rb.out.1 _).mono ?_); rintro e w1 ⟨vq0, rfl, hNq0, hb1⟩
      obtain ⟨mq0, adq0, nq0, cq0, rfl⟩ := hNq0.shape
      have HNq0 := Lib.hid hNq0
      clear hNq0
      go_wp2_with fail
      refine hK.out _ _ ?_ (fun hHeld2 => ?_)
      · exact ⟨(id hHeld).1.below hb1, (id hHeld).2.1.below hb1, (id hHeld).2.2.1.below hb1, (id hHeld).2.2.2.below hb1⟩
      replace HR := Lib.hid (HR.out.below hb1)
      replace HT := Lib.hid (HT.out.below hb1)
      replace HN1 := Lib.hid (HN1.out.below hb1)
      clear hK K hHeld hb1
      have hHeld := hHeld2
      clear hHeld2
      try simp only [Act.put, List.getElem_toArray, List.getElem_cons_succ, List.getElem_cons_zero, List.setIfInBounds_toArray, List.set_cons_zero, List.set_cons_succ]
      refine wpAnyH_ready (rs := [6]) (by kernel_rfl) (by simp) ?_
      refine (AllReadyH.cons rfl (fun K hK => ?_) AllReadyH.nil)
      rw [if_pos (by rfl)]
      go_simp
      go_at_call 70
      (with_reducible refine (num_n b.y Rb.out.2 _).mono ?_); rintro e w1 ⟨vq1, rfl, hNq1, hb1⟩
      obtain ⟨mq1, adq1, nq1, cq1, rfl⟩ := hNq1.shape
      have HNq1 := Lib.hid hNq1
      clear hNq1
      go_wp2_with fail
      refine hK.out _ _ ?_ (fun hHeld2 => ?_)
      · exact ⟨(id hHeld).1.below hb1, (id hHeld).2.1.below hb1, (id hHeld).2.2.1.below hb1, (id hHeld).2.2.2.below hb1⟩
      replace HR := Lib.hid (HR.out.below hb1)
      replace HT := Lib.hid (HT.out.below hb1)
      replace HN1 := Lib.hid (HN1.out.below hb1)
      replace HNq0 := Lib.hid (HNq0.out.below hb1)
      clear hK K hHeld hb1
      have hHeld := hHeld2
      clear hHeld2
      try simp only [Act.put, List.getElem_toArray, List.getElem_cons_succ, List.getElem_cons_zero, List.setIfInBounds_toArray, List.set_cons_zero, List.set_cons_succ]
      refine wpAnyH_ready (rs := [9]) (by kernel_rfl) (by simp) ?_
      refine (AllReadyH.cons rfl (fun K hK => ?_) AllReadyH.nil)
      rw [if_pos (by rfl)]
      go_simp
      go_at_call 70
      (with_reducible refine (num_n c.x Rc.out.1 _).mono ?_); rintro e w1 ⟨vq2, rfl, hNq2, hb1⟩
      obtain ⟨mq2, adq2, nq2, cq2, rfl⟩ := hNq2.shape
      have HNq2 := Lib.hid hNq2
      clear hNq2
      go_wp2_with fail
      refine hK.out _ _ ?_ (fun hHeld2 => ?_)
      · exact ⟨(id hHeld).1.below hb1, (id hHeld).2.1.below hb1, (id hHeld).2.2.1.below hb1, (id hHeld).2.2.2.below hb1⟩
      replace HR := Lib.hid (HR.out.below hb1)
      replace HT := Lib.hid (HT.out.below hb1)
      replace HN1 := Lib.hid (HN1.out.below hb1)
      replace HNq0 := Lib.hid (HNq0.out.below hb1)
      replace HNq1 := Lib.hid (HNq1.out.below hb1)
      clear hK K hHeld hb1
      have hHeld := hHeld2
      clear hHeld2
      try simp only [Act.put, List.getElem_toArray, List.getElem_cons_succ, List.getElem_cons_zero, List.setIfInBounds_toArray, List.set_cons_zero, List.set_cons_succ]
      refine wpAnyH_ready (rs := [12]) (by kernel_rfl) (by simp) ?_
      refine (AllReadyH.cons rfl (fun K hK => ?_) AllReadyH.nil)
      rw [if_pos (by rfl)]
      go_simp
      go_at_call 70
      (with_reducible refine (num_n c.y Rc.out.2 _).mono ?_); rintro e w1 ⟨vq3, rfl, hNq3, hb1⟩
      obtain ⟨mq3, adq3, nq3, cq3, rfl⟩ := hNq3.shape
      have HNq3 := Lib.hid hNq3
      clear hNq3
      go_wp2_with fail
      refine hK.out _ _ ?_ (fun hHeld2 => ?_)
      · exact ⟨(id hHeld).1.below hb1, (id hHeld).2.1.below hb1, (id hHeld).2.2.1.below hb1, (id hHeld).2.2.2.below hb1⟩
      replace HR := Lib.hid (HR.out.below hb1)
      replace HT := Lib.hid (HT.out.below hb1)
      replace HN1 := Lib.hid (HN1.out.below hb1)
      replace HNq0 := Lib.hid (HNq0.out.below hb1)
      replace HNq1 := Lib.hid (HNq1.out.below hb1)
      replace HNq2 := Lib.hid (HNq2.out.below hb1)
      clear hK K hHeld hb1
      have hHeld := hHeld2
      clear hHeld2
      try simp only [Act.put, List.getElem_toArray, List.getElem_cons_succ, List.getElem_cons_zero, List.setIfInBounds_toArray, List.set_cons_zero, List.set_cons_succ]
      refine wpAnyH_ready (rs := [13]) (by kernel_rfl) (by simp) ?_
      refine (AllReadyH.cons rfl (fun K hK => ?_) AllReadyH.nil)
      rw [if_pos (by rfl)]
      go_simp
      go_at_call 74
      (with_reducible refine (det_n _ _ _ _ b.x b.y c.x c.y Zb.out.1 Zb.out.2 Zc.out.1 Zc.out.2 _ HNq0.out HNq1.out HNq2.out HNq3.out).mono ?_); rintro e w1 ⟨vqd, rfl, hNqd, hb1⟩
      obtain ⟨mqd, adqd, nqd, cqd, rfl⟩ := hNqd.shape
      have HNqd := Lib.hid hNqd
      clear hNqd
      go_wp2_with fail
      refine hK.out _ _ ?_ (fun hHeld2 => ?_)
      · exact ⟨(id hHeld).1.below hb1, (id hHeld).2.1.below hb1, (id hHeld).2.2.1.below hb1, (id hHeld).2.2.2.below hb1⟩
      replace HR := Lib.hid (HR.out.below hb1)
      replace HT := Lib.hid (HT.out.below hb1)
      replace HN1 := Lib.hid (HN1.out.below hb1)
      replace HNq0 := Lib.hid (HNq0.out.below hb1)
      replace HNq1 := Lib.hid (HNq1.out.below hb1)
      replace HNq2 := Lib.hid (HNq2.out.below hb1)
      replace HNq3 := Lib.hid (HNq3.out.below hb1)
      clear hK K hHeld hb1
      have hHeld := hHeld2
      clear hHeld2
      try simp only [Act.put, List.getElem_toArray, List.getElem_cons_succ, List.getElem_cons_zero, List.setIfInBounds_toArray, List.set_cons_zero, List.set_cons_succ]
      refine wpAnyH_ready (rs := [14]) (by kernel_rfl) (by simp) ?_
      refine (AllReadyH.cons rfl (fun K hK => ?_) AllReadyH.nil)
      rw [if_pos (by rfl)]
      go_simp
      go_at_call 38
      (with_reducible refine (plus_c _ _ (a.x * b.y - a.y * b.x) (b.x * c.y - b.y * c.x) _ HN1.out HNqd.out D0.out D1.out).mono ?_); rintro e w1 ⟨vqs, rfl, hNqs, hb1⟩
      obtain ⟨mqs, adqs, nqs, cqs, rfl⟩ := hNqs.shape
      have HNqs := Lib.hid hNqs
      clear hNqs
      go_wp2_with fail
      refine hK.out _ _ ?_ (fun hHeld2 => ?_)
      · exact ⟨(id hHeld).1.below hb1, (id hHeld).2.1.below hb1, (id hHeld).2.2.1.below hb1, (id hHeld).2.2.2.below hb1⟩
      replace HR := Lib.hid (HR.out.below hb1)
      replace HT := Lib.hid (HT.out.below hb1)
      replace HN1 := Lib.hid (HN1.out.below hb1)
      replace HNq0 := Lib.hid (HNq0.out.below hb1)
      replace HNq1 := Lib.hid (HNq1.out.below hb1)
      replace HNq2 := Lib.hid (HNq2.out.below hb1)
      replace HNq3 := Lib.hid (HNq3.out.below hb1)
      replace HNqd := Lib.hid (HNqd.out.below hb1)
      clear hK K hHeld hb1
      have hHeld := hHeld2
      clear hHeld2
      try simp only [Act.put, List.getElem_toArray, List.getElem_cons_succ, List.getElem_cons_zero, List.setIfInBounds_toArray, List.set_cons_zero, List.set_cons_succ]
      refine wpAnyH_ready (rs := [15]) (by kernel_rfl) (by simp) ?_
      refine (AllReadyH.cons rfl (fun K hK => ?_) AllReadyH.nil)
      rw [if_pos (by rfl)]
      obtain ⟨k0, k1⟩ := HT.out.two
      obtain ⟨f0, f1⟩ := HT.out.free2
      go_simp
      refine hK.out _ _ ?_ (fun hHeld2 => ?_)
      · exact ⟨(((id hHeld).1.far (by dsimp only; omega) _).far (by dsimp only; omega) _), (((id hHeld).2.1.far (by dsimp only; omega) _).far (by dsimp only; omega) _), (((id hHeld).2.2.1.far (by dsimp only; omega) _).far (by dsimp only; omega) _), (((id hHeld).2.2.2.set (by dsimp only; omega) _).set (by dsimp only; omega) _)⟩
      replace HR := Lib.hid ((id hHeld2).2.2.2.far2 HR.out (by dsimp only; omega) (by dsimp only; omega))
      replace HN1 := Lib.hid (HN1.out.res HT.out (mqs) (.slice adqs nqs cqs))
      replace HNq0 := Lib.hid (HNq0.out.res HT.out (mqs) (.slice adqs nqs cqs))
      replace HNq1 := Lib.hid (HNq1.out.res HT.out (mqs) (.slice adqs nqs cqs))
      replace HNq2 := Lib.hid (HNq2.out.res HT.out (mqs) (.slice adqs nqs cqs))
      replace HNq3 := Lib.hid (HNq3.out.res HT.out (mqs) (.slice adqs nqs cqs))
      replace HNqd := Lib.hid (HNqd.out.res HT.out (mqs) (.slice adqs nqs cqs))
      replace HNqs := Lib.hid (HNqs.out.res HT.out (mqs) (.slice adqs nqs cqs))
      replace HT := Lib.hid (HT.out.set2 (.bool mqs) (.slice adqs nqs cqs))
      clear hK K hHeld k0 k1 f0 f1
      have hHeld := hHeld2
      clear hHeld2
      try simp only [Act.put, List.getElem_toArray, List.getElem_cons_succ, List.getElem_cons_zero, List.setIfInBounds_toArray, List.set_cons_zero, List.set_cons_succ]
      refine wpAnyH_done (by kernel_rfl) ?_ _
      go_wp2_with fail
      go_meet
      case rel => exact ⟨_, _, _, _, _, rfl, by first | exact hgeHT | exact hge1, HT.out, HNqs.out, HR.out, id hHeld⟩
    · rw [if_pos (by rfl)]
      go_simp
      go_at_call 70
      (with_reducible refine (num_n b.x Rb.out.1 _).mono ?_); rintro e w1 ⟨vq0, rfl, hNq0, hb1⟩
      obtain ⟨mq0, adq0, nq0, cq0, rfl⟩ := hNq0.shape
      have HNq0 := Lib.hid hNq0
      clear hNq0
      go_wp2_with fail
      refine hK.out _ _ ?_ (fun hHeld2 => ?_)
      · exact ⟨(id hHeld).1.below hb1, (id hHeld).2.1.below hb1, (id hHeld).2.2.1.below hb1, (id hHeld).2.2.2.below hb1⟩
      replace HR := Lib.hid (HR.out.below hb1)
      replace HT := Lib.hid (HT.out.below hb1)
      replace HN1 := Lib.hid (HN1.out.below hb1)
      clear hK K hHeld hb1
      have hHeld := hHeld2
      clear hHeld2
      try simp only [Act.put, List.getElem_toArray, List.getElem_cons_succ, List.getElem_cons_zero, List.setIfInBounds_toArray, List.set_cons_zero, List.set_cons_succ]
      refine wpAnyH_ready (rs := [0, 6]) (by kernel_rfl) (by simp) ?_
      refine (AllReadyH.cons rfl (fun K hK => ?_) (AllReadyH.cons rfl (fun K hK => ?_) AllReadyH.nil))
      · rw [if_pos (by rfl)]
        obtain ⟨k0, k1⟩ := HT.out.two
        go_simp
        refine hK.out _ _ ?_ (fun hHeld2 => ?_)
        · exact hHeld
        clear hK K hHeld k0 k1
        have hHeld := hHeld2
        clear hHeld2
        try simp only [Act.put, List.getElem_toArray, List.getElem_cons_succ, List.getElem_cons_zero, List.setIfInBounds_toArray, List.set_cons_zero, List.set_cons_succ]
        refine wpAnyH_ready (rs := [6]) (by kernel_rfl) (by simp) ?_
        refine (AllReadyH.cons rfl (fun K hK => ?_) AllReadyH.nil)
        rw [if_pos (by rfl)]
        go_simp
        go_at_call 70
        (with_reducible refine (num_n b.y Rb.out.2 _).mono ?_); rintro e w1 ⟨vq1, rfl, hNq1, hb1⟩
        obtain ⟨mq1, adq1, nq1, cq1, rfl⟩ := hNq1.shape
        have HNq1 := Lib.hid hNq1
        clear hNq1
        go_wp2_with fail
        refine hK.out _ _ ?_ (fun hHeld2 => ?_)
        · exact ⟨(id hHeld).1.below hb1, (id hHeld).2.1.below hb1, (id hHeld).2.2.1.below hb1, (id hHeld).2.2.2.below hb1⟩
        replace HR := Lib.hid (HR.out.below hb1)
        replace HT := Lib.hid (HT.out.below hb1)
        replace HN1 := Lib.hid (HN1.out.below hb1)
        replace HNq0 := Lib.hid (HNq0.out.below hb1)
        clear hK K hHeld hb1
        have hHeld := hHeld2
        clear hHeld2
        try simp only [Act.put, List.getElem_toArray, List.getElem_cons_succ, List.getElem_cons_zero, List.setIfInBounds_toArray, List.set_cons_zero, List.set_cons_succ]
        refine wpAnyH_ready (rs := [9]) (by kernel_rfl) (by simp) ?_
        refine (AllReadyH.cons rfl (fun K hK => ?_) AllReadyH.nil)
        rw [if_pos (by rfl)]
        go_simp
        go_at_call 70
        (with_reducible refine (num_n c.x Rc.out.1 _).mono ?_); rintro e w1 ⟨vq2, rfl, hNq2, hb1⟩
        obtain ⟨mq2, adq2, nq2, cq2, rfl⟩ := hNq2.shape
        have HNq2 := Lib.hid hNq2
        clear hNq2
        go_wp2_with fail
        refine hK.out _ _ ?_ (fun hHeld2 => ?_)
        · exact ⟨(id hHeld).1.below hb1, (id hHeld).2.1.below hb1, (id hHeld).2.2.1.below hb1, (id hHeld).2.2.2.below hb1⟩
        replace HR := Lib.hid (HR.out.below hb1)
        replace HT := Lib.hid (HT.out.below hb1)
        replace HN1 := Lib.hid (HN1.out.below hb1)
        replace HNq0 := Lib.hid (HNq0.out.below hb1)
        replace HNq1 := Lib.hid (HNq1.out.below hb1)
        clear hK K hHeld hb1
        have hHeld := hHeld2
        clear hHeld2
        try simp only [Act.put, List.getElem_toArray, List.getElem_cons_succ, List.getElem_cons_zero, List.setIfInBounds_toArray, List.set_cons_zero, List.set_cons_succ]
        refine wpAnyH_ready (rs := [12]) (by kernel_rfl) (by simp) ?_
        refine (AllReadyH.cons rfl (fun K hK => ?_) AllReadyH.nil)
        rw [if_pos (by rfl)]
        go_simp
        go_at_call 70
        (with_reducible refine (num_n c.y Rc.out.2 _).mono ?_); rintro e w1 ⟨vq3, rfl, hNq3, hb1⟩
        obtain ⟨mq3, adq3, nq3, cq3, rfl⟩ := hNq3.shape
        have HNq3 := Lib.hid hNq3
        clear hNq3
        go_wp2_with fail
        refine hK.out _ _ ?_ (fun hHeld2 => ?_)
        · exact ⟨(id hHeld).1.below hb1, (id hHeld).2.1.below hb1, (id hHeld).2.2.1.below hb1, (id hHeld).2.2.2.below hb1⟩
        replace HR := Lib.hid (HR.out.below hb1)
        replace HT := Lib.hid (HT.out.below hb1)
        replace HN1 := Lib.hid (HN1.out.below hb1)
        replace HNq0 := Lib.hid (HNq0.out.below hb1)
        replace HNq1 := Lib.hid (HNq1.out.below hb1)
        replace HNq2 := Lib.hid (HNq2.out.below hb1)
        clear hK K hHeld hb1
        have hHeld := hHeld2
        clear hHeld2
        try simp only [Act.put, List.getElem_toArray, List.getElem_cons_succ, List.getElem_cons_zero, List.setIfInBounds_toArray, List.set_cons_zero, List.set_cons_succ]
        refine wpAnyH_ready (rs := [13]) (by kernel_rfl) (by simp) ?_
        refine (AllReadyH.cons rfl (fun K hK => ?_) AllReadyH.nil)
        rw [if_pos (by rfl)]
        go_simp
        go_at_call 74
        (with_reducible refine (det_n _ _ _ _ b.x b.y c.x c.y Zb.out.1 Zb.out.2 Zc.out.1 Zc.out.2 _ HNq0.out HNq1.out HNq2.out HNq3.out).mono ?_); rintro e w1 ⟨vqd, rfl, hNqd, hb1⟩
        obtain ⟨mqd, adqd, nqd, cqd, rfl⟩ := hNqd.shape
        have HNqd := Lib.hid hNqd
        clear hNqd
        go_wp2_with fail
        refine hK.out _ _ ?_ (fun hHeld2 => ?_)
        · exact ⟨(id hHeld).1.below hb1, (id hHeld).2.1.below hb1, (id hHeld).2.2.1.below hb1, (id hHeld).2.2.2.below hb1⟩
        replace HR := Lib.hid (HR.out.below hb1)
        replace HT := Lib.hid (HT.out.below hb1)
        replace HN1 := Lib.hid (HN1.out.below hb1)
        replace HNq0 := Lib.hid (HNq0.out.below hb1)
        replace HNq1 := Lib.hid (HNq1.out.below hb1)
        replace HNq2 := Lib.hid (HNq2.out.below hb1)
        replace HNq3 := Lib.hid (HNq3.out.below hb1)
        clear hK K hHeld hb1
        have hHeld := hHeld2
        clear hHeld2
        try simp only [Act.put, List.getElem_toArray, List.getElem_cons_succ, List.getElem_cons_zero, List.setIfInBounds_toArray, List.set_cons_zero, List.set_cons_succ]
        refine wpAnyH_ready (rs := [14]) (by kernel_rfl) (by simp) ?_
        refine (AllReadyH.cons rfl (fun K hK => ?_) AllReadyH.nil)
        rw [if_pos (by rfl)]
        go_simp
        go_at_call 38
        (with_reducible refine (plus_c _ _ (a.x * b.y - a.y * b.x) (b.x * c.y - b.y * c.x) _ HN1.out HNqd.out D0.out D1.out).mono ?_); rintro e w1 ⟨vqs, rfl, hNqs, hb1⟩
        obtain ⟨mqs, adqs, nqs, cqs, rfl⟩ := hNqs.shape
        have HNqs := Lib.hid hNqs
        clear hNqs
        go_wp2_with fail
        refine hK.out _ _ ?_ (fun hHeld2 => ?_)
        · exact ⟨(id hHeld).1.below hb1, (id hHeld).2.1.below hb1, (id hHeld).2.2.1.below hb1, (id hHeld).2.2.2.below hb1⟩
        replace HR := Lib.hid (HR.out.below hb1)
        replace HT := Lib.hid (HT.out.below hb1)
        replace HN1 := Lib.hid (HN1.out.below hb1)
        replace HNq0 := Lib.hid (HNq0.out.below hb1)
        replace HNq1 := Lib.hid (HNq1.out.below hb1)
        replace HNq2 := Lib.hid (HNq2.out.below hb1)
        replace HNq3 := Lib.hid (HNq3.out.below hb1)
        replace HNqd := Lib.hid (HNqd.out.below hb1)
        clear hK K hHeld hb1
        have hHeld := hHeld2
        clear hHeld2
        try simp only [Act.put, List.getElem_toArray, List.getElem_cons_succ, List.getElem_cons_zero, List.setIfInBounds_toArray, List.set_cons_zero, List.set_cons_succ]
        refine wpAnyH_ready (rs := [15]) (by kernel_rfl) (by simp) ?_
        refine (AllReadyH.cons rfl (fun K hK => ?_) AllReadyH.nil)
        rw [if_pos (by rfl)]
        obtain ⟨k0, k1⟩ := HT.out.two
        obtain ⟨f0, f1⟩ := HT.out.free2
        go_simp
        refine hK.out _ _ ?_ (fun hHeld2 => ?_)
        · exact ⟨(((id hHeld).1.far (by dsimp only; omega) _).far (by dsimp only; omega) _), (((id hHeld).2.1.far (by dsimp only; omega) _).far (by dsimp only; omega) _), (((id hHeld).2.2.1.far (by dsimp only; omega) _).far (by dsimp only; omega) _), (((id hHeld).2.2.2.set (by dsimp only; omega) _).set (by dsimp only; omega) _)⟩
        replace HR := Lib.hid ((id hHeld2).2.2.2.far2 HR.out (by dsimp only; omega) (by dsimp only; omega))
        replace HN1 := Lib.hid (HN1.out.res HT.out (mqs) (.slice adqs nqs cqs))
        replace HNq0 := Lib.hid (HNq0.out.res HT.out (mqs) (.slice adqs nqs cqs))
        replace HNq1 := Lib.hid (HNq1.out.res HT.out (mqs) (.slice adqs nqs cqs))
        replace HNq2 := Lib.hid (HNq2.out.res HT.out (mqs) (.slice adqs nqs cqs))
        replace HNq3 := Lib.hid (HNq3.out.res HT.out (mqs) (.slice adqs nqs cqs))
        replace HNqd := Lib.hid (HNqd.out.res HT.out (mqs) (.slice adqs nqs cqs))
        replace HNqs := Lib.hid (HNqs.out.res HT.out (mqs) (.slice adqs nqs cqs))
        replace HT := Lib.hid (HT.out.set2 (.bool mqs) (.slice adqs nqs cqs))
        clear hK K hHeld k0 k1 f0 f1
        have hHeld := hHeld2
        clear hHeld2
        try simp only [Act.put, List.getElem_toArray, List.getElem_cons_succ, List.getElem_cons_zero, List.setIfInBounds_toArray, List.set_cons_zero, List.set_cons_succ]
        refine wpAnyH_done (by kernel_rfl) ?_ _
        go_wp2_with fail
        go_meet
        case rel => exact ⟨_, _, _, _, _, rfl, by first | exact hgeHT | exact hge1, HT.out, HNqs.out, HR.out, id hHeld⟩
      · rw [if_pos (by rfl)]
        go_simp
        go_at_call 70
        (with_reducible refine (num_n b.y Rb.out.2 _).mono ?_); rintro e w1 ⟨vq1, rfl, hNq1, hb1⟩
        obtain ⟨mq1, adq1, nq1, cq1, rfl⟩ := hNq1.shape
        have HNq1 := Lib.hid hNq1
        clear hNq1
        go_wp2_with fail
        refine hK.out _ _ ?_ (fun hHeld2 => ?_)
        · exact ⟨(id hHeld).1.below hb1, (id hHeld).2.1.below hb1, (id hHeld).2.2.1.below hb1, (id hHeld).2.2.2.below hb1⟩
        replace HR := Lib.hid (HR.out.below hb1)
        replace HT := Lib.hid (HT.out.below hb1)
        replace HN1 := Lib.hid (HN1.out.below hb1)
        replace HNq0 := Lib.hid (HNq0.out.below hb1)
        clear hK K hHeld hb1
        have hHeld := hHeld2
        clear hHeld2
        try simp only [Act.put, List.getElem_toArray, List.getElem_cons_succ, List.getElem_cons_zero, List.setIfInBounds_toArray, List.set_cons_zero, List.set_cons_succ]
        refine wpAnyH_ready (rs := [0, 9]) (by kernel_rfl) (by simp) ?_
        refine (AllReadyH.cons rfl (fun K hK => ?_) (AllReadyH.cons rfl (fun K hK => ?_) AllReadyH.nil))
        · rw [if_pos (by rfl)]
          obtain ⟨k0, k1⟩ := HT.out.two
          go_simp
          refine hK.out _ _ ?_ (fun hHeld2 => ?_)
          · exact hHeld
          clear hK K hHeld k0 k1
          have hHeld := hHeld2
          clear hHeld2
          try simp only [Act.put, List.getElem_toArray, List.getElem_cons_succ, List.getElem_cons_zero, List.setIfInBounds_toArray, List.set_cons_zero, List.set_cons_succ]
          refine wpAnyH_ready (rs := [9]) (by kernel_rfl) (by simp) ?_
          refine (AllReadyH.cons rfl (fun K hK => ?_) AllReadyH.nil)
          rw [if_pos (by rfl)]
          go_simp
          go_at_call 70
          (with_reducible refine (num_n c.x Rc.out.1 _).mono ?_); rintro e w1 ⟨vq2, rfl, hNq2, hb1⟩
          obtain ⟨mq2, adq2, nq2, cq2, rfl⟩ := hNq2.shape
          have HNq2 := Lib.hid hNq2
          clear hNq2
          go_wp2_with fail
          refine hK.out _ _ ?_ (fun hHeld2 => ?_)
          · exact ⟨(id hHeld).1.below hb1, (id hHeld).2.1.below hb1, (id hHeld).2.2.1.below hb1, (id hHeld).2.2.2.below hb1⟩
          replace HR := Lib.hid (HR.out.below hb1)
          replace HT := Lib.hid (HT.out.below hb1)
          replace HN1 := Lib.hid (HN1.out.below hb1)
          replace HNq0 := Lib.hid (HNq0.out.below hb1)
          replace HNq1 := Lib.hid (HNq1.out.below hb1)
          clear hK K hHeld hb1
          have hHeld := hHeld2
          clear hHeld2
          try simp only [Act.put, List.getElem_toArray, List.getElem_cons_succ, List.getElem_cons_zero, List.setIfInBounds_toArray, List.set_cons_zero, List.set_cons_succ]
          refine wpAnyH_ready (rs := [12]) (by kernel_rfl) (by simp) ?_
          refine (AllReadyH.cons rfl (fun K hK => ?_) AllReadyH.nil)
          rw [if_pos (by rfl)]
          go_simp
          go_at_call 70
          (with_reducible refine (num_n c.y Rc.out.2 _).mono ?_); rintro e w1 ⟨vq3, rfl, hNq3, hb1⟩
          obtain ⟨mq3, adq3, nq3, cq3, rfl⟩ := hNq3.shape
          have HNq3 := Lib.hid hNq3
          clear hNq3
          go_wp2_with fail
          refine hK.out _ _ ?_ (fun hHeld2 => ?_)
          · exact ⟨(id hHeld).1.below hb1, (id hHeld).2.1.below hb1, (id hHeld).2.2.1.below hb1, (id hHeld).2.2.2.below hb1⟩
          replace HR := Lib.hid (HR.out.below hb1)
          replace HT := Lib.hid (HT.out.below hb1)
          replace HN1 := Lib.hid (HN1.out.below hb1)
          replace HNq0 := Lib.hid (HNq0.out.below hb1)
          replace HNq1 := Lib.hid (HNq1.out.below hb1)
          replace HNq2 := Lib.hid (HNq2.out.below hb1)
          clear hK K hHeld hb1
          have hHeld := hHeld2
          clear hHeld2
          try simp only [Act.put, List.getElem_toArray, List.getElem_cons_succ, List.getElem_cons_zero, List.setIfInBounds_toArray, List.set_cons_zero, List.set_cons_succ]
          refine wpAnyH_ready (rs := [13]) (by kernel_rfl) (by simp) ?_
          refine (AllReadyH.cons rfl (fun K hK => ?_) AllReadyH.nil)
          rw [if_pos (by rfl)]
          go_simp
          go_at_call 74
          (with_reducible refine (det_n _ _ _ _ b.x b.y c.x c.y Zb.out.1 Zb.out.2 Zc.out.1 Zc.out.2 _ HNq0.out HNq1.out HNq2.out HNq3.out).mono ?_); rintro e w1 ⟨vqd, rfl, hNqd, hb1⟩
          obtain ⟨mqd, adqd, nqd, cqd, rfl⟩ := hNqd.shape
          have HNqd := Lib.hid hNqd
          clear hNqd
          go_wp2_with fail
          refine hK.out _ _ ?_ (fun hHeld2 => ?_)
          · exact ⟨(id hHeld).1.below hb1, (id hHeld).2.1.below hb1, (id hHeld).2.2.1.below hb1, (id hHeld).2.2.2.below hb1⟩
          replace HR := Lib.hid (HR.out.below hb1)
          replace HT := Lib.hid (HT.out.below hb1)
          replace HN1 := Lib.hid (HN1.out.below hb1)
          replace HNq0 := Lib.hid (HNq0.out.below hb1)
          replace HNq1 := Lib.hid (HNq1.out.below hb1)
          replace HNq2 := Lib.hid (HNq2.out.below hb1)
          replace HNq3 := Lib.hid (HNq3.out.below hb1)
          clear hK K hHeld hb1
          have hHeld := hHeld2
          clear hHeld2
          try simp only [Act.put, List.getElem_toArray, List.getElem_cons_succ, List.getElem_cons_zero, List.setIfInBounds_toArray, List.set_cons_zero, List.set_cons_succ]
          refine wpAnyH_ready (rs := [14]) (by kernel_rfl) (by simp) ?_
          refine (AllReadyH.cons rfl (fun K hK => ?_) AllReadyH.nil)
          rw [if_pos (by rfl)]
          go_simp
          go_at_call 38
          (with_reducible refine (plus_c _ _ (a.x * b.y - a.y * b.x) (b.x * c.y - b.y * c.x) _ HN1.out HNqd.out D0.out D1.out).mono ?_); rintro e w1 ⟨vqs, rfl, hNqs, hb1⟩
          obtain ⟨mqs, adqs, nqs, cqs, rfl⟩ := hNqs.shape
          have HNqs := Lib.hid hNqs
          clear hNqs
          go_wp2_with fail
          refine hK.out _ _ ?_ (fun hHeld2 => ?_)
          · exact ⟨(id hHeld).1.below hb1, (id hHeld).2.1.below hb1, (id hHeld).2.2.1.below hb1, (id hHeld).2.2.2.below hb1⟩
          replace HR := Lib.hid (HR.out.below hb1)
          replace HT := Lib.hid (HT.out.below hb1)
          replace HN1 := Lib.hid (HN1.out.below hb1)
          replace HNq0 := Lib.hid (HNq0.out.below hb1)
          replace HNq1 := Lib.hid (HNq1.out.below hb1)
          replace HNq2 := Lib.hid (HNq2.out.below hb1)
          replace HNq3 := Lib.hid (HNq3.out.below hb1)
          replace HNqd := Lib.hid (HNqd.out.below hb1)
          clear hK K hHeld hb1
          have hHeld := hHeld2
          clear hHeld2
          try simp only [Act.put, List.getElem_toArray, List.getElem_cons_succ, List.getElem_cons_zero, List.setIfInBounds_toArray, List.set_cons_zero, List.set_cons_succ]
          refine wpAnyH_ready (rs := [15]) (by kernel_rfl) (by simp) ?_
          refine (AllReadyH.cons rfl (fun K hK => ?_) AllReadyH.nil)
          rw [if_pos (by rfl)]
          obtain ⟨k0, k1⟩ := HT.out.two
          obtain ⟨f0, f1⟩ := HT.out.free2
          go_simp
          refine hK.out _ _ ?_ (fun hHeld2 => ?_)
          · exact ⟨(((id hHeld).1.far (by dsimp only; omega) _).far (by dsimp only; omega) _), (((id hHeld).2.1.far (by dsimp only; omega) _).far (by dsimp only; omega) _), (((id hHeld).2.2.1.far (by dsimp only; omega) _).far (by dsimp only; omega) _), (((id hHeld).2.2.2.set (by dsimp only; omega) _).set (by dsimp only; omega) _)⟩
          replace HR := Lib.hid ((id hHeld2).2.2.2.far2 HR.out (by dsimp only; omega) (by dsimp only; omega))
          replace HN1 := Lib.hid (HN1.out.res HT.out (mqs) (.slice adqs nqs cqs))
          replace HNq0 := Lib.hid (HNq0.out.res HT.out (mqs) (.slice adqs nqs cqs))
          replace HNq1 := Lib.hid (HNq1.out.res HT.out (mqs) (.slice adqs nqs cqs))
          replace HNq2 := Lib.hid (HNq2.out.res HT.out (mqs) (.slice adqs nqs cqs))
          replace HNq3 := Lib.hid (HNq3.out.res HT.out (mqs) (.slice adqs nqs cqs))
          replace HNqd := Lib.hid (HNqd.out.res HT.out (mqs) (.slice adqs nqs cqs))
          replace HNqs := Lib.hid (HNqs.out.res HT.out (mqs) (.slice adqs nqs cqs))
          replace HT := Lib.hid (HT.out.set2 (.bool mqs) (.slice adqs nqs cqs))
          clear hK K hHeld k0 k1 f0 f1
          have hHeld := hHeld2
          clear hHeld2
          try simp only [Act.put, List.getElem_toArray, List.getElem_cons_succ, List.getElem_cons_zero, List.setIfInBounds_toArray, List.set_cons_zero, List.set_cons_succ]
          refine wpAnyH_done (by kernel_rfl) ?_ _
          go_wp2_with fail
          go_meet
          case rel => exact ⟨_, _, _, _, _, rfl, by first | exact hgeHT | exact hge1, HT.out, HNqs.out, HR.out, id hHeld⟩
        · rw [if_pos (by rfl)]
          go_simp
          go_at_call 70
          (with_reducible refine (num_n c.x Rc.out.1 _).mono ?_); rintro e w1 ⟨vq2, rfl, hNq2, hb1⟩
          obtain ⟨mq2, adq2, nq2, cq2, rfl⟩ := hNq2.shape
          have HNq2 := Lib.hid hNq2
          clear hNq2
          go_wp2_with fail
          refine hK.out _ _ ?_ (fun hHeld2 => ?_)
          · exact ⟨(id hHeld).1.below hb1, (id hHeld).2.1.below hb1, (id hHeld).2.2.1.below hb1, (id hHeld).2.2.2.below hb1⟩
          replace HR := Lib.hid (HR.out.below hb1)
          replace HT := Lib.hid (HT.out.below hb1)
          replace HN1 := Lib.hid (HN1.out.below hb1)
          replace HNq0 := Lib.hid (HNq0.out.below hb1)
          replace HNq1 := Lib.hid (HNq1.out.below hb1)
          clear hK K hHeld hb1
          have hHeld := hHeld2
          clear hHeld2
          try simp only [Act.put, List.getElem_toArray, List.getElem_cons_succ, List.getElem_cons_zero, List.setIfInBounds_toArray, List.set_cons_zero, List.set_cons_succ]
          refine wpAnyH_ready (rs := [0, 12]) (by kernel_rfl) (by simp) ?_
          refine (AllReadyH.cons rfl (fun K hK => ?_) (AllReadyH.cons rfl (fun K hK => ?_) AllReadyH.nil))
          · rw [if_pos (by rfl)]
            obtain ⟨k0, k1⟩ := HT.out.two
            go_simp
            refine hK.out _ _ ?_ (fun hHeld2 => ?_)
            · exact hHeld
            clear hK K hHeld k0 k1
            have hHeld := hHeld2
            clear hHeld2
            try simp only [Act.put, List.getElem_toArray, List.getElem_cons_succ, List.getElem_cons_zero, List.setIfInBounds_toArray, List.set_cons_zero, List.set_cons_succ]
            refine wpAnyH_ready (rs := [12]) (by kernel_rfl) (by simp) ?_
            refine (AllReadyH.cons rfl (fun K hK => ?_) AllReadyH.nil)
            rw [if_pos (by rfl)]
            go_simp
            go_at_call 70
            (with_reducible refine (num_n c.y Rc.out.2 _).mono ?_); rintro e w1 ⟨vq3, rfl, hNq3, hb1⟩
            obtain ⟨mq3, adq3, nq3, cq3, rfl⟩ := hNq3.shape
            have HNq3 := Lib.hid hNq3
            clear hNq3
            go_wp2_with fail
            refine hK.out _ _ ?_ (fun hHeld2 => ?_)
            · exact ⟨(id hHeld).1.below hb1, (id hHeld).2.1.below hb1, (id hHeld).2.2.1.below hb1, (id hHeld).2.2.2.below hb1⟩
            replace HR := Lib.hid (HR.out.below hb1)
            replace HT := Lib.hid (HT.out.below hb1)
            replace HN1 := Lib.hid (HN1.out.below hb1)
            replace HNq0 := Lib.hid (HNq0.out.below hb1)
            replace HNq1 := Lib.hid (HNq1.out.below hb1)
            replace HNq2 := Lib.hid (HNq2.out.below hb1)
            clear hK K hHeld hb1
            have hHeld := hHeld2
            clear hHeld2
            try simp only [Act.put, List.getElem_toArray, List.getElem_cons_succ, List.getElem_cons_zero, List.setIfInBounds_toArray, List.set_cons_zero, List.set_cons_succ]
            refine wpAnyH_ready (rs := [13]) (by kernel_rfl) (by simp) ?_
            refine (AllReadyH.cons rfl (fun K hK => ?_) AllReadyH.nil)
            rw [if_pos (by rfl)]
            go_simp
            go_at_call 74
            (with_reducible refine (det_n _ _ _ _ b.x b.y c.x c.y Zb.out.1 Zb.out.2 Zc.out.1 Zc.out.2 _ HNq0.out HNq1.out HNq2.out HNq3.out).mono ?_); rintro e w1 ⟨vqd, rfl, hNqd, hb1⟩
            obtain ⟨mqd, adqd, nqd, cqd, rfl⟩ := hNqd.shape
            have HNqd := Lib.hid hNqd
            clear hNqd
            go_wp2_with fail
            refine hK.out _ _ ?_ (fun hHeld2 => ?_)
            · exact ⟨(id hHeld).1.below hb1, (id hHeld).2.1.below hb1, (id hHeld).2.2.1.below hb1, (id hHeld).2.2.2.below hb1⟩
            replace HR := Lib.hid (HR.out.below hb1)
            replace HT := Lib.hid (HT.out.below hb1)
            replace HN1 := Lib.hid (HN1.out.below hb1)
            replace HNq0 := Lib.hid (HNq0.out.below hb1)
            replace HNq1 := Lib.hid (HNq1.out.below hb1)
            replace HNq2 := Lib.hid (HNq2.out.below hb1)
            replace HNq3 := Lib.hid (HNq3.out.below hb1)
            clear hK K hHeld hb1
            have hHeld := hHeld2
            clear hHeld2
            try simp only [Act.put, List.getElem_toArray, List.getElem_cons_succ, List.getElem_cons_zero, List.setIfInBounds_toArray, List.set_cons_zero, List.set_cons_succ]
            refine wpAnyH_ready (rs := [14]) (by kernel_rfl) (by simp) ?_
            refine (AllReadyH.cons rfl (fun K hK => ?_) AllReadyH.nil)
            rw [if_pos (by rfl)]
            go_simp
            go_at_call 38
            (with_reducible refine (plus_c _ _ (a.x * b.y - a.y * b.x) (b.x * c.y - b.y * c.x) _ HN1.out HNqd.out D0.out D1.out).mono ?_); rintro e w1 ⟨vqs, rfl, hNqs, hb1⟩
            obtain ⟨mqs, adqs, nqs, cqs, rfl⟩ := hNqs.shape
            have HNqs := Lib.hid hNqs
            clear hNqs
            go_wp2_with fail
            refine hK.out _ _ ?_ (fun hHeld2 => ?_)
            · exact ⟨(id hHeld).1.below hb1, (id hHeld).2.1.below hb1, (id hHeld).2.2.1.below hb1, (id hHeld).2.2.2.below hb1⟩
            replace HR := Lib.hid (HR.out.below hb1)
            replace HT := Lib.hid (HT.out.below hb1)
            replace HN1 := Lib.hid (HN1.out.below hb1)
            replace HNq0 := Lib.hid (HNq0.out.below hb1)
            replace HNq1 := Lib.hid (HNq1.out.below hb1)
            replace HNq2 := Lib.hid (HNq2.out.below hb1)
            replace HNq3 := Lib.hid (HNq3.out.below hb1)
            replace HNqd := Lib.hid (HNqd.out.below hb1)
            clear hK K hHeld hb1
            have hHeld := hHeld2
            clear hHeld2
            try simp only [Act.put, List.getElem_toArray, List.getElem_cons_succ, List.getElem_cons_zero, List.setIfInBounds_toArray, List.set_cons_zero, List.set_cons_succ]
            refine wpAnyH_ready (rs := [15]) (by kernel_rfl) (by simp) ?_
            refine (AllReadyH.cons rfl (fun K hK => ?_) AllReadyH.nil)
            rw [if_pos (by rfl)]
            obtain ⟨k0, k1⟩ := HT.out.two
            obtain ⟨f0, f1⟩ := HT.out.free2
            go_simp
            refine hK.out _ _ ?_ (fun hHeld2 => ?_)
            · exact ⟨(((id hHeld).1.far (by dsimp only; omega) _).far (by dsimp only; omega) _), (((id hHeld).2.1.far (by dsimp only; omega) _).far (by dsimp only; omega) _), (((id hHeld).2.2.1.far (by dsimp only; omega) _).far (by dsimp only; omega) _), (((id hHeld).2.2.2.set (by dsimp only; omega) _).set (by dsimp only; omega) _)⟩
            replace HR := Lib.hid ((id hHeld2).2.2.2.far2 HR.out (by dsimp only; omega) (by dsimp only; omega))
            replace HN1 := Lib.hid (HN1.out.res HT.out (mqs) (.slice adqs nqs cqs))
            replace HNq0 := Lib.hid (HNq0.out.res HT.out (mqs) (.slice adqs nqs cqs))
            replace HNq1 := Lib.hid (HNq1.out.res HT.out (mqs) (.slice adqs nqs cqs))
            replace HNq2 := Lib.hid (HNq2.out.res HT.out (mqs) (.slice adqs nqs cqs))
            replace HNq3 := Lib.hid (HNq3.out.res HT.out (mqs) (.slice adqs nqs cqs))
            replace HNqd := Lib.hid (HNqd.out.res HT.out (mqs) (.slice adqs nqs cqs))
            replace HNqs := Lib.hid (HNqs.out.res HT.out (mqs) (.slice adqs nqs cqs))
            replace HT := Lib.hid (HT.out.set2 (.bool mqs) (.slice adqs nqs cqs))
            clear hK K hHeld k0 k1 f0 f1
            have hHeld := hHeld2
            clear hHeld2
            try simp only [Act.put, List.getElem_toArray, List.getElem_cons_succ, List.getElem_cons_zero, List.setIfInBounds_toArray, List.set_cons_zero, List.set_cons_succ]
            refine wpAnyH_done (by kernel_rfl) ?_ _
            go_wp2_with fail
            go_meet
            case rel => exact ⟨_, _, _, _, _, rfl, by first | exact hgeHT | exact hge1, HT.out, HNqs.out, HR.out, id hHeld⟩
          · rw [if_pos (by rfl)]
            go_simp
            go_at_call 70
            (with_reducible refine (num_n c.y Rc.out.2 _).mono ?_); rintro e w1 ⟨vq3, rfl, hNq3, hb1⟩
            obtain ⟨mq3, adq3, nq3, cq3, rfl⟩ := hNq3.shape
            have HNq3 := Lib.hid hNq3
            clear hNq3
            go_wp2_with fail
            refine hK.out _ _ ?_ (fun hHeld2 => ?_)
            · exact ⟨(id hHeld).1.below hb1, (id hHeld).2.1.below hb1, (id hHeld).2.2.1.below hb1, (id hHeld).2.2.2.below hb1⟩
            replace HR := Lib.hid (HR.out.below hb1)
            replace HT := Lib.hid (HT.out.below hb1)
            replace HN1 := Lib.hid (HN1.out.below hb1)
            replace HNq0 := Lib.hid (HNq0.out.below hb1)
            replace HNq1 := Lib.hid (HNq1.out.below hb1)
            replace HNq2 := Lib.hid (HNq2.out.below hb1)
            clear hK K hHeld hb1
            have hHeld := hHeld2
            clear hHeld2
            try simp only [Act.put, List.getElem_toArray, List.getElem_cons_succ, List.getElem_cons_zero, List.setIfInBounds_toArray, List.set_cons_zero, List.set_cons_succ]
            refine wpAnyH_ready (rs := [0, 13]) (by kernel_rfl) (by simp) ?_
            refine (AllReadyH.cons rfl (fun K hK => ?_) (AllReadyH.cons rfl (fun K hK => ?_) AllReadyH.nil))
            · rw [if_pos (by rfl)]
              obtain ⟨k0, k1⟩ := HT.out.two
              go_simp
              refine hK.out _ _ ?_ (fun hHeld2 => ?_)
              · exact hHeld
              clear hK K hHeld k0 k1
              have hHeld := hHeld2
              clear hHeld2
              try simp only [Act.put, List.getElem_toArray, List.getElem_cons_succ, List.getElem_cons_zero, List.setIfInBounds_toArray, List.set_cons_zero, List.set_cons_succ]
              refine wpAnyH_ready (rs := [13]) (by kernel_rfl) (by simp) ?_
              refine (AllReadyH.cons rfl (fun K hK => ?_) AllReadyH.nil)
              rw [if_pos (by rfl)]
              go_simp
              go_at_call 74
              (with_reducible refine (det_n _ _ _ _ b.x b.y c.x c.y Zb.out.1 Zb.out.2 Zc.out.1 Zc.out.2 _ HNq0.out HNq1.out HNq2.out HNq3.out).mono ?_); rintro e w1 ⟨vqd, rfl, hNqd, hb1⟩
              obtain ⟨mqd, adqd, nqd, cqd, rfl⟩ := hNqd.shape
              have HNqd := Lib.hid hNqd
              clear hNqd
              go_wp2_with fail
              refine hK.out _ _ ?_ (fun hHeld2 => ?_)
              · exact ⟨(id hHeld).1.below hb1, (id hHeld).2.1.below hb1, (id hHeld).2.2.1.below hb1, (id hHeld).2.2.2.below hb1⟩
              replace HR := Lib.hid (HR.out.below hb1)
              replace HT := Lib.hid (HT.out.below hb1)
              replace HN1 := Lib.hid (HN1.out.below hb1)
              replace HNq0 := Lib.hid (HNq0.out.below hb1)
              replace HNq1 := Lib.hid (HNq1.out.below hb1)
              replace HNq2 := Lib.hid (HNq2.out.below hb1)
              replace HNq3 := Lib.hid (HNq3.out.below hb1)
              clear hK K hHeld hb1
              have hHeld := hHeld2
              clear hHeld2
              try simp only [Act.put, List.getElem_toArray, List.getElem_cons_succ, List.getElem_cons_zero, List.setIfInBounds_toArray, List.set_cons_zero, List.set_cons_succ]
              refine wpAnyH_ready (rs := [14]) (by kernel_rfl) (by simp) ?_
              refine (AllReadyH.cons rfl (fun K hK => ?_) AllReadyH.nil)
              rw [if_pos (by rfl)]
              go_simp
              go_at_call 38
              (with_reducible refine (plus_c _ _ (a.x * b.y - a.y * b.x) (b.x * c.y - b.y * c.x) _ HN1.out HNqd.out D0.out D1.out).mono ?_); rintro e w1 ⟨vqs, rfl, hNqs, hb1⟩
              obtain ⟨mqs, adqs, nqs, cqs, rfl⟩ := hNqs.shape
              have HNqs := Lib.hid hNqs
              clear hNqs
              go_wp2_with fail
              refine hK.out _ _ ?_ (fun hHeld2 => ?_)
              · exact ⟨(id hHeld).1.below hb1, (id hHeld).2.1.below hb1, (id hHeld).2.2.1.below hb1, (id hHeld).2.2.2.below hb1⟩
              replace HR := Lib.hid (HR.out.below hb1)
              replace HT := Lib.hid (HT.out.below hb1)
              replace HN1 := Lib.hid (HN1.out.below hb1)
              replace HNq0 := Lib.hid (HNq0.out.below hb1)
              replace HNq1 := Lib.hid (HNq1.out.below hb1)
              replace HNq2 := Lib.hid (HNq2.out.below hb1)
              replace HNq3 := Lib.hid (HNq3.out.below hb1)
              replace HNqd := Lib.hid (HNqd.out.below hb1)
              clear hK K hHeld hb1
              have hHeld := hHeld2
              clear hHeld2
              try simp only [Act.put, List.getElem_toArray, List.getElem_cons_succ, List.getElem_cons_zero, List.setIfInBounds_toArray, List.set_cons_zero, List.set_cons_succ]
              refine wpAnyH_ready (rs := [15]) (by kernel_rfl) (by simp) ?_
              refine (AllReadyH.cons rfl (fun K hK => ?_) AllReadyH.nil)
              rw [if_pos (by rfl)]
              obtain ⟨k0, k1⟩ := HT.out.two
              obtain ⟨f0, f1⟩ := HT.out.free2
              go_simp
              refine hK.out _ _ ?_ (fun hHeld2 => ?_)
              · exact ⟨(((id hHeld).1.far (by dsimp only; omega) _).far (by dsimp only; omega) _), (((id hHeld).2.1.far (by dsimp only; omega) _).far (by dsimp only; omega) _), (((id hHeld).2.2.1.far (by dsimp only; omega) _).far (by dsimp only; omega) _), (((id hHeld).2.2.2.set (by dsimp only; omega) _).set (by dsimp only; omega) _)⟩
              replace HR := Lib.hid ((id hHeld2).2.2.2.far2 HR.out (by dsimp only; omega) (by dsimp only; omega))
              replace HN1 := Lib.hid (HN1.out.res HT.out (mqs) (.slice adqs nqs cqs))
              replace HNq0 := Lib.hid (HNq0.out.res HT.out (mqs) (.slice adqs nqs cqs))
              replace HNq1 := Lib.hid (HNq1.out.res HT.out (mqs) (.slice adqs nqs cqs))
              replace HNq2 := Lib.hid (HNq2.out.res HT.out (mqs) (.slice adqs nqs cqs))
              replace HNq3 := Lib.hid (HNq3.out.res HT.out (mqs) (.slice adqs nqs cqs))
              replace HNqd := Lib.hid (HNqd.out.res HT.out (mqs) (.slice adqs nqs cqs))
              replace HNqs := Lib.hid (HNqs.out.res HT.out (mqs) (.slice adqs nqs cqs))
              replace HT := Lib.hid (HT.out.set2 (.bool mqs) (.slice adqs nqs cqs))
              clear hK K hHeld k0 k1 f0 f1
              have hHeld := hHeld2
              clear hHeld2
              try simp only [Act.put, List.getElem_toArray, List.getElem_cons_succ, List.getElem_cons_zero, List.setIfInBounds_toArray, List.set_cons_zero, List.set_cons_succ]
              refine wpAnyH_done (by kernel_rfl) ?_ _
              go_wp2_with fail
              go_meet
              case rel => exact ⟨_, _, _, _, _, rfl, by first | exact hgeHT | exact hge1, HT.out, HNqs.out, HR.out, id hHeld⟩
            · rw [if_pos (by rfl)]
              go_simp
              go_at_call 74
              (with_reducible refine (det_n _ _ _ _ b.x b.y c.x c.y Zb.out.1 Zb.out.2 Zc.out.1 Zc.out.2 _ HNq0.out HNq1.out HNq2.out HNq3.out).mono ?_); rintro e w1 ⟨vqd, rfl, hNqd, hb1⟩
              obtain ⟨mqd, adqd, nqd, cqd, rfl⟩ := hNqd.shape
              have HNqd := Lib.hid hNqd
              clear hNqd
              go_wp2_with fail
              refine hK.out _ _ ?_ (fun hHeld2 => ?_)
              · exact ⟨(id hHeld).1.below hb1, (id hHeld).2.1.below hb1, (id hHeld).2.2.1.below hb1, (id hHeld).2.2.2.below hb1⟩
              replace HR := Lib.hid (HR.out.below hb1)
              replace HT := Lib.hid (HT.out.below hb1)
              replace HN1 := Lib.hid (HN1.out.below hb1)
              replace HNq0 := Lib.hid (HNq0.out.below hb1)
              replace HNq1 := Lib.hid (HNq1.out.below hb1)
              replace HNq2 := Lib.hid (HNq2.out.below hb1)
              replace HNq3 := Lib.hid (HNq3.out.below hb1)
              clear hK K hHeld hb1
              have hHeld := hHeld2
              clear hHeld2
              try simp only [Act.put, List.getElem_toArray, List.getElem_cons_succ, List.getElem_cons_zero, List.setIfInBounds_toArray, List.set_cons_zero, List.set_cons_succ]
              refine wpAnyH_ready (rs := [0]) (by kernel_rfl) (by simp) ?_
              refine (AllReadyH.cons rfl (fun K hK => ?_) AllReadyH.nil)
              rw [if_pos (by rfl)]
              obtain ⟨k0, k1⟩ := HT.out.two
              go_simp
              refine hK.out _ _ ?_ (fun hHeld2 => ?_)
              · exact hHeld
              clear hK K hHeld k0 k1
              have hHeld := hHeld2
              clear hHeld2
              try simp only [Act.put, List.getElem_toArray, List.getElem_cons_succ, List.getElem_cons_zero, List.setIfInBounds_toArray, List.set_cons_zero, List.set_cons_succ]
              refine wpAnyH_ready (rs := [14]) (by kernel_rfl) (by simp) ?_
              refine (AllReadyH.cons rfl (fun K hK => ?_) AllReadyH.nil)
              rw [if_pos (by rfl)]
              go_simp
              go_at_call 38
              (with_reducible refine (plus_c _ _ (a.x * b.y - a.y * b.x) (b.x * c.y - b.y * c.x) _ HN1.out HNqd.out D0.out D1.out).mono ?_); rintro e w1 ⟨vqs, rfl, hNqs, hb1⟩
              obtain ⟨mqs, adqs, nqs, cqs, rfl⟩ := hNqs.shape
              have HNqs := Lib.hid hNqs
              clear hNqs
              go_wp2_with fail
              refine hK.out _ _ ?_ (fun hHeld2 => ?_)
              · exact ⟨(id hHeld).1.below hb1, (id hHeld).2.1.below hb1, (id hHeld).2.2.1.below hb1, (id hHeld).2.2.2.below hb1⟩
              replace HR := Lib.hid (HR.out.below hb1)
              replace HT := Lib.hid (HT.out.below hb1)
              replace HN1 := Lib.hid (HN1.out.below hb1)
              replace HNq0 := Lib.hid (HNq0.out.below hb1)
              replace HNq1 := Lib.hid (HNq1.out.below hb1)
              replace HNq2 := Lib.hid (HNq2.out.below hb1)
              replace HNq3 := Lib.hid (HNq3.out.below hb1)
              replace HNqd := Lib.hid (HNqd.out.below hb1)
              clear hK K hHeld hb1
              have hHeld := hHeld2
              clear hHeld2
              try simp only [Act.put, List.getElem_toArray, List.getElem_cons_succ, List.getElem_cons_zero, List.setIfInBounds_toArray, List.set_cons_zero, List.set_cons_succ]
              refine wpAnyH_ready (rs := [15]) (by kernel_rfl) (by simp) ?_
              refine (AllReadyH.cons rfl (fun K hK => ?_) AllReadyH.nil)
              rw [if_pos (by rfl)]
              obtain ⟨k0, k1⟩ := HT.out.two
              obtain ⟨f0, f1⟩ := HT.out.free2
              go_simp
              refine hK.out _ _ ?_ (fun hHeld2 => ?_)
              · exact ⟨(((id hHeld).1.far (by dsimp only; omega) _).far (by dsimp only; omega) _), (((id hHeld).2.1.far (by dsimp only; omega) _).far (by dsimp only; omega) _), (((id hHeld).2.2.1.far (by dsimp only; omega) _).far (by dsimp only; omega) _), (((id hHeld).2.2.2.set (by dsimp only; omega) _).set (by dsimp only; omega) _)⟩
              replace HR := Lib.hid ((id hHeld2).2.2.2.far2 HR.out (by dsimp only; omega) (by dsimp only; omega))
              replace HN1 := Lib.hid (HN1.out.res HT.out (mqs) (.slice adqs nqs cqs))
              replace HNq0 := Lib.hid (HNq0.out.res HT.out (mqs) (.slice adqs nqs cqs))
              replace HNq1 := Lib.hid (HNq1.out.res HT.out (mqs) (.slice adqs nqs cqs))
              replace HNq2 := Lib.hid (HNq2.out.res HT.out (mqs) (.slice adqs nqs cqs))
              replace HNq3 := Lib.hid (HNq3.out.res HT.out (mqs) (.slice adqs nqs cqs))
              replace HNqd := Lib.hid (HNqd.out.res HT.out (mqs) (.slice adqs nqs cqs))
              replace HNqs := Lib.hid (HNqs.out.res HT.out (mqs) (.slice adqs nqs cqs))
              replace HT := Lib.hid (HT.out.set2 (.bool mqs) (.slice adqs nqs cqs))
              clear hK K hHeld k0 k1 f0 f1
              have hHeld := hHeld2
              clear hHeld2
              try simp only [Act.put, List.getElem_toArray, List.getElem_cons_succ, List.getElem_cons_zero, List.setIfInBounds_toArray, List.set_cons_zero, List.set_cons_succ]
              refine wpAnyH_done (by kernel_rfl) ?_ _
              go_wp2_with fail
              go_meet
              case rel => exact ⟨_, _, _, _, _, rfl, by first | exact hgeHT | exact hge1, HT.out, HNqs.out, HR.out, id hHeld⟩
  case rest =>
  obtain ⟨g2, m2, ad2, n2, c2, rfl, hge2, hT, hN, hr, hS0⟩ := hcut
  replace HS0 := Lib.hid hS0
  replace HR := Lib.hid hr
  have HT := Lib.hid hT
  have HN2 := Lib.hid hN
  clear hS0 hr hT hN
  go_upto_region 3 with (fail)
  refine wp_region_held_drew (S := fun W => Var W (w.heap.size) [.int .i64 a.x, .int .i64 a.y] ∧ Var W (w.heap.size + 1) [.int .i64 b.x, .int .i64 b.y] ∧ Var W (w.heap.size + 1 + 1) [.int .i64 c.x, .int .i64 c.y] ∧ Grew w 4 W) (by kernel_rfl) ?_ (fun hHeld => ?_)
  · exact ⟨HS0.out.1.below (bel_drew _), HS0.out.2.1.below (bel_drew _), HS0.out.2.2.1.below (bel_drew _), HS0.out.2.2.2.below (bel_drew _)⟩
  replace HR := Lib.hid (HR.out.below (bel_drew _))
  replace HT := Lib.hid (HT.out.below (bel_drew _))
  replace HN2 := Lib.hid (HN2.out.below (bel_drew _))
  revert HR
  revert HT
  revert HN2
  revert hHeld
  generalize World.drew _ = W1
  intro hHeld HN2 HT HR
  refine wpAnyH_take (i := 1) (v := ?_) rfl (by kernel_rfl) (by kernel_rfl) (by kernel_rfl) (fun _ _ _ h => h) (Or.inl ⟨by rfl, ?_⟩) (by assumption) ?_
  rotate_left
  · intro Wq hSw
    clear hSw
    go_simp
    all_goals (with_reducible rfl)
  try simp only [Act.put, List.getElem_toArray, List.getElem_cons_succ, List.getElem_cons_zero, List.setIfInBounds_toArray, List.set_cons_zero, List.set_cons_succ]
  refine wpAnyH_take (i := 2) (v := ?_) rfl (by kernel_rfl) (by kernel_rfl) (by kernel_rfl) (fun _ _ _ h => h) (Or.inl ⟨by rfl, ?_⟩) (by assumption) ?_
  rotate_left
  · intro Wq hSw
    obtain ⟨k0, k1⟩ := (id hSw).2.2.1.two
    clear hSw
    go_simp
    all_goals (with_reducible rfl)
  try simp only [Act.put, List.getElem_toArray, List.getElem_cons_succ, List.getElem_cons_zero, List.setIfInBounds_toArray, List.set_cons_zero, List.set_cons_succ]
  refine wpAnyH_take (i := 4) (v := ?_) rfl (by kernel_rfl) (by kernel_rfl) (by kernel_rfl) (fun _ _ _ h => h) (Or.inl ⟨by rfl, ?_⟩) (by assumption) ?_
  rotate_left
  · intro Wq hSw
    clear hSw
    go_simp
    all_goals (with_reducible rfl)
  try simp only [Act.put, List.getElem_toArray, List.getElem_cons_succ, List.getElem_cons_zero, List.setIfInBounds_toArray, List.set_cons_zero, List.set_cons_succ]
  refine wpAnyH_take (i := 5) (v := ?_) rfl (by kernel_rfl) (by kernel_rfl) (by kernel_rfl) (fun _ _ _ h => h) (Or.inl ⟨by rfl, ?_⟩) (by assumption) ?_
  rotate_left
  · intro Wq hSw
    obtain ⟨k0, k1⟩ := (id hSw).2.2.1.two
    clear hSw
    go_simp
    all_goals (with_reducible rfl)
  try simp only [Act.put, List.getElem_toArray, List.getElem_cons_succ, List.getElem_cons_zero, List.setIfInBounds_toArray, List.set_cons_zero, List.set_cons_succ]
  refine wpAnyH_take (i := 7) (v := ?_) rfl (by kernel_rfl) (by kernel_rfl) (by kernel_rfl) (fun _ _ _ h => h) (Or.inl ⟨by rfl, ?_⟩) (by assumption) ?_
  rotate_left
  · intro Wq hSw
    clear hSw
    go_simp
    all_goals (with_reducible rfl)
  try simp only [Act.put, List.getElem_toArray, List.getElem_cons_succ, List.getElem_cons_zero, List.setIfInBounds_toArray, List.set_cons_zero, List.set_cons_succ]
  refine wpAnyH_take (i := 8) (v := ?_) rfl (by kernel_rfl) (by kernel_rfl) (by kernel_rfl) (fun _ _ _ h => h) (Or.inl ⟨by rfl, ?_⟩) (by assumption) ?_
  rotate_left
  · intro Wq hSw
    obtain ⟨k0, k1⟩ := (id hSw).1.two
    clear hSw
    go_simp
    all_goals (with_reducible rfl)
  try simp only [Act.put, List.getElem_toArray, List.getElem_cons_succ, List.getElem_cons_zero, List.setIfInBounds_toArray, List.set_cons_zero, List.set_cons_succ]
  refine wpAnyH_take (i := 10) (v := ?_) rfl (by kernel_rfl) (by kernel_rfl) (by kernel_rfl) (fun _ _ _ h => h) (Or.inl ⟨by rfl, ?_⟩) (by assumption) ?_
  rotate_left
  · intro Wq hSw
    clear hSw
    go_simp
    all_goals (with_reducible rfl)
  try simp only [Act.put, List.getElem_toArray, List.getElem_cons_succ, List.getElem_cons_zero, List.setIfInBounds_toArray, List.set_cons_zero, List.set_cons_succ]
  refine wpAnyH_take (i := 11) (v := ?_) rfl (by kernel_rfl) (by kernel_rfl) (by kernel_rfl) (fun _ _ _ h => h) (Or.inl ⟨by rfl, ?_⟩) (by assumption) ?_
  rotate_left
  · intro Wq hSw
    obtain ⟨k0, k1⟩ := (id hSw).1.two
    clear hSw
    go_simp
    all_goals (with_reducible rfl)
  try simp only [Act.put, List.getElem_toArray, List.getElem_cons_succ, List.getElem_cons_zero, List.setIfInBounds_toArray, List.set_cons_zero, List.set_cons_succ]
  refine wpAnyH_ready (rs := [0, 3]) (by kernel_rfl) (by simp) ?_
  refine (AllReadyH.cons rfl (fun K hK => ?_) (AllReadyH.cons rfl (fun K hK => ?_) AllReadyH.nil))
  · rw [if_pos (by rfl)]
    obtain ⟨k0, k1⟩ := HT.out.two
    go_simp
    refine hK.out _ _ ?_ (fun hHeld2 => ?_)
    · exact hHeld
    clear hK K hHeld k0 k1
    have hHeld := hHeld2
    clear hHeld2
    try simp only [Act.put, List.getElem_toArray, List.getElem_cons_succ, List.getElem_cons_zero, List.setIfInBounds_toArray, List.set_cons_zero, List.set_cons_succ]
    refine wpAnyH_ready (rs := [3]) (by kernel_rfl) (by simp) ?_
    refine (AllReadyH.cons rfl (fun K hK => ?_) AllReadyH.nil)
    rw [if_pos (by rfl)]
    go_simp
    go_at_call 70
    (with_reducible refine (num_n c.x Rc.out.1 _).mono ?_); rintro e w1 ⟨vr0, rfl, hNr0, hb1⟩
    obtain ⟨mr0, adr0, nr0, cr0, rfl⟩ := hNr0.shape
    have HNr0 := Lib.hid hNr0
    clear hNr0
    go_wp2_with fail
    refine hK.out _ _ ?_ (fun hHeld2 => ?_)
    · exact ⟨(id hHeld).1.below hb1, (id hHeld).2.1.below hb1, (id hHeld).2.2.1.below hb1, (id hHeld).2.2.2.below hb1⟩
    replace HR := Lib.hid (HR.out.below hb1)
    replace HT := Lib.hid (HT.out.below hb1)
    replace HN2 := Lib.hid (HN2.out.below hb1)
    clear hK K hHeld hb1
    have hHeld := hHeld2
    clear hHeld2
    try simp only [Act.put, List.getElem_toArray, List.getElem_cons_succ, List.getElem_cons_zero, List.setIfInBounds_toArray, List.set_cons_zero, List.set_cons_succ]
    refine wpAnyH_ready (rs := [6]) (by kernel_rfl) (by simp) ?_
    refine (AllReadyH.cons rfl (fun K hK => ?_) AllReadyH.nil)
    rw [if_pos (by rfl)]
    go_simp
    go_at_call 70
    (with_reducible refine (num_n c.y Rc.out.2 _).mono ?_); rintro e w1 ⟨vr1, rfl, hNr1, hb1⟩
    obtain ⟨mr1, adr1, nr1, cr1, rfl⟩ := hNr1.shape
    have HNr1 := Lib.hid hNr1
    clear hNr1
    go_wp2_with fail
    refine hK.out _ _ ?_ (fun hHeld2 => ?_)
    · exact ⟨(id hHeld).1.below hb1, (id hHeld).2.1.below hb1, (id hHeld).2.2.1.below hb1, (id hHeld).2.2.2.below hb1⟩
    replace HR := Lib.hid (HR.out.below hb1)
    replace HT := Lib.hid (HT.out.below hb1)
    replace HN2 := Lib.hid (HN2.out.below hb1)
    replace HNr0 := Lib.hid (HNr0.out.below hb1)
    clear hK K hHeld hb1
    have hHeld := hHeld2
    clear hHeld2
    try simp only [Act.put, List.getElem_toArray, List.getElem_cons_succ, List.getElem_cons_zero, List.setIfInBounds_toArray, List.set_cons_zero, List.set_cons_succ]
    refine wpAnyH_ready (rs := [9]) (by kernel_rfl) (by simp) ?_
    refine (AllReadyH.cons rfl (fun K hK => ?_) AllReadyH.nil)
    rw [if_pos (by rfl)]
    go_simp
    go_at_call 70
    (with_reducible refine (num_n a.x Ra.out.1 _).mono ?_); rintro e w1 ⟨vr2, rfl, hNr2, hb1⟩
    obtain ⟨mr2, adr2, nr2, cr2, rfl⟩ := hNr2.shape
    have HNr2 := Lib.hid hNr2
    clear hNr2
    go_wp2_with fail
    refine hK.out _ _ ?_ (fun hHeld2 => ?_)
    · exact ⟨(id hHeld).1.below hb1, (id hHeld).2.1.below hb1, (id hHeld).2.2.1.below hb1, (id hHeld).2.2.2.below hb1⟩
    replace HR := Lib.hid (HR.out.below hb1)
    replace HT := Lib.hid (HT.out.below hb1)
    replace HN2 := Lib.hid (HN2.out.below hb1)
    replace HNr0 := Lib.hid (HNr0.out.below hb1)
    replace HNr1 := Lib.hid (HNr1.out.below hb1)
    clear hK K hHeld hb1
    have hHeld := hHeld2
    clear hHeld2
    try simp only [Act.put, List.getElem_toArray, List.getElem_cons_succ, List.getElem_cons_zero, List.setIfInBounds_toArray, List.set_cons_zero, List.set_cons_succ]
    refine wpAnyH_ready (rs := [12]) (by kernel_rfl) (by simp) ?_
    refine (AllReadyH.cons rfl (fun K hK => ?_) AllReadyH.nil)
    rw [if_pos (by rfl)]
    go_simp
    go_at_call 70
    (with_reducible refine (num_n a.y Ra.out.2 _).mono ?_); rintro e w1 ⟨vr3, rfl, hNr3, hb1⟩
    obtain ⟨mr3, adr3, nr3, cr3, rfl⟩ := hNr3.shape
    have HNr3 := Lib.hid hNr3
    clear hNr3
    go_wp2_with fail
    refine hK.out _ _ ?_ (fun hHeld2 => ?_)
    · exact ⟨(id hHeld).1.below hb1, (id hHeld).2.1.below hb1, (id hHeld).2.2.1.below hb1, (id hHeld).2.2.2.below hb1⟩
    replace HR := Lib.hid (HR.out.below hb1)
    replace HT := Lib.hid (HT.out.below hb1)
    replace HN2 := Lib.hid (HN2.out.below hb1)
    replace HNr0 := Lib.hid (HNr0.out.below hb1)
    replace HNr1 := Lib.hid (HNr1.out.below hb1)
    replace HNr2 := Lib.hid (HNr2.out.below hb1)
    clear hK K hHeld hb1
    have hHeld := hHeld2
    clear hHeld2
    try simp only [Act.put, List.getElem_toArray, List.getElem_cons_succ, List.getElem_cons_zero, List.setIfInBounds_toArray, List.set_cons_zero, List.set_cons_succ]
    refine wpAnyH_ready (rs := [13]) (by kernel_rfl) (by simp) ?_
    refine (AllReadyH.cons rfl (fun K hK => ?_) AllReadyH.nil)
    rw [if_pos (by rfl)]
    go_simp
    go_at_call 74
    (with_reducible refine (det_n _ _ _ _ c.x c.y a.x a.y Zc.out.1 Zc.out.2 Za.out.1 Za.out.2 _ HNr0.out HNr1.out HNr2.out HNr3.out).mono ?_); rintro e w1 ⟨vrd, rfl, hNrd, hb1⟩
    obtain ⟨mrd, adrd, nrd, crd, rfl⟩ := hNrd.shape
    have HNrd := Lib.hid hNrd
    clear hNrd
    go_wp2_with fail
    refine hK.out _ _ ?_ (fun hHeld2 => ?_)
    · exact ⟨(id hHeld).1.below hb1, (id hHeld).2.1.below hb1, (id hHeld).2.2.1.below hb1, (id hHeld).2.2.2.below hb1⟩
    replace HR := Lib.hid (HR.out.below hb1)
    replace HT := Lib.hid (HT.out.below hb1)
    replace HN2 := Lib.hid (HN2.out.below hb1)
    replace HNr0 := Lib.hid (HNr0.out.below hb1)
    replace HNr1 := Lib.hid (HNr1.out.below hb1)
    replace HNr2 := Lib.hid (HNr2.out.below hb1)
    replace HNr3 := Lib.hid (HNr3.out.below hb1)
    clear hK K hHeld hb1
    have hHeld := hHeld2
    clear hHeld2
    try simp only [Act.put, List.getElem_toArray, List.getElem_cons_succ, List.getElem_cons_zero, List.setIfInBounds_toArray, List.set_cons_zero, List.set_cons_succ]
    refine wpAnyH_ready (rs := [14]) (by kernel_rfl) (by simp) ?_
    refine (AllReadyH.cons rfl (fun K hK => ?_) AllReadyH.nil)
    rw [if_pos (by rfl)]
    go_simp
    go_at_call 38
    (with_reducible refine (plus_c _ _ (a.x * b.y - a.y * b.x + (b.x * c.y - b.y * c.x)) (c.x * a.y - c.y * a.x) _ HN2.out HNrd.out D3.out D2.out).mono ?_); rintro e w1 ⟨vrs, rfl, hNrs, hb1⟩
    obtain ⟨mrs, adrs, nrs, crs, rfl⟩ := hNrs.shape
    have HNrs := Lib.hid hNrs
    clear hNrs
    go_wp2_with fail
    refine hK.out _ _ ?_ (fun hHeld2 => ?_)
    · exact ⟨(id hHeld).1.below hb1, (id hHeld).2.1.below hb1, (id hHeld).2.2.1.below hb1, (id hHeld).2.2.2.below hb1⟩
    replace HR := Lib.hid (HR.out.below hb1)
    replace HT := Lib.hid (HT.out.below hb1)
    replace HN2 := Lib.hid (HN2.out.below hb1)
    replace HNr0 := Lib.hid (HNr0.out.below hb1)
    replace HNr1 := Lib.hid (HNr1.out.below hb1)
    replace HNr2 := Lib.hid (HNr2.out.below hb1)
    replace HNr3 := Lib.hid (HNr3.out.below hb1)
    replace HNrd := Lib.hid (HNrd.out.below hb1)
    clear hK K hHeld hb1
    have hHeld := hHeld2
    clear hHeld2
    try simp only [Act.put, List.getElem_toArray, List.getElem_cons_succ, List.getElem_cons_zero, List.setIfInBounds_toArray, List.set_cons_zero, List.set_cons_succ]
    refine wpAnyH_ready (rs := [15]) (by kernel_rfl) (by simp) ?_
    refine (AllReadyH.cons rfl (fun K hK => ?_) AllReadyH.nil)
    rw [if_pos (by rfl)]
    obtain ⟨k0, k1⟩ := HR.out.two
    obtain ⟨f0, f1⟩ := HR.out.free2
    go_simp
    refine hK.out _ _ ?_ (fun hHeld2 => ?_)
    · exact ⟨(((id hHeld).1.far (by dsimp only; omega) _).far (by dsimp only; omega) _), (((id hHeld).2.1.far (by dsimp only; omega) _).far (by dsimp only; omega) _), (((id hHeld).2.2.1.far (by dsimp only; omega) _).far (by dsimp only; omega) _), (((id hHeld).2.2.2.set (by dsimp only; omega) _).set (by dsimp only; omega) _)⟩
    replace HT := Lib.hid ((id hHeld2).2.2.2.far2 HT.out (by dsimp only; omega) (by dsimp only; omega))
    replace HN2 := Lib.hid (HN2.out.res HR.out (mrs) (.slice adrs nrs crs))
    replace HNr0 := Lib.hid (HNr0.out.res HR.out (mrs) (.slice adrs nrs crs))
    replace HNr1 := Lib.hid (HNr1.out.res HR.out (mrs) (.slice adrs nrs crs))
    replace HNr2 := Lib.hid (HNr2.out.res HR.out (mrs) (.slice adrs nrs crs))
    replace HNr3 := Lib.hid (HNr3.out.res HR.out (mrs) (.slice adrs nrs crs))
    replace HNrd := Lib.hid (HNrd.out.res HR.out (mrs) (.slice adrs nrs crs))
    replace HNrs := Lib.hid (HNrs.out.res HR.out (mrs) (.slice adrs nrs crs))
    replace HR := Lib.hid (HR.out.set2 (.bool mrs) (.slice adrs nrs crs))
    clear hK K hHeld k0 k1 f0 f1
    have hHeld := hHeld2
    clear hHeld2
    try simp only [Act.put, List.getElem_toArray, List.getElem_cons_succ, List.getElem_cons_zero, List.setIfInBounds_toArray, List.set_cons_zero, List.set_cons_succ]
    refine wpAnyH_done (by kernel_rfl) ?_ _
    go_wp2_with fail
    obtain ⟨k0, k1⟩ := HR.out.two
    rw [HE.out] at HNrs
    refine bodyPost_ret (v := .agg #[.bool mrs, .slice adrs nrs crs]) (by simp [results, Try.results35, go_sem, k0, k1]; done) rfl ⟨_, rfl, HNrs.out, (id hHeld).2.2.2.hb⟩
  · rw [if_pos (by rfl)]
    go_simp
    go_at_call 70
    (with_reducible refine (num_n c.x Rc.out.1 _).mono ?_); rintro e w1 ⟨vr0, rfl, hNr0, hb1⟩
    obtain ⟨mr0, adr0, nr0, cr0, rfl⟩ := hNr0.shape
    have HNr0 := Lib.hid hNr0
    clear hNr0
    go_wp2_with fail
    refine hK.out _ _ ?_ (fun hHeld2 => ?_)
    · exact ⟨(id hHeld).1.below hb1, (id hHeld).2.1.below hb1, (id hHeld).2.2.1.below hb1, (id hHeld).2.2.2.below hb1⟩
    replace HR := Lib.hid (HR.out.below hb1)
    replace HT := Lib.hid (HT.out.below hb1)
    replace HN2 := Lib.hid (HN2.out.below hb1)
    clear hK K hHeld hb1
    have hHeld := hHeld2
    clear hHeld2
    try simp only [Act.put, List.getElem_toArray, List.getElem_cons_succ, List.getElem_cons_zero, List.setIfInBounds_toArray, List.set_cons_zero, List.set_cons_succ]
    refine wpAnyH_ready (rs := [0, 6]) (by kernel_rfl) (by simp) ?_
    refine (AllReadyH.cons rfl (fun K hK => ?_) (AllReadyH.cons rfl (fun K hK => ?_) AllReadyH.nil))
    · rw [if_pos (by rfl)]
      obtain ⟨k0, k1⟩ := HT.out.two
      go_simp
      refine hK.out _ _ ?_ (fun hHeld2 => ?_)
      · exact hHeld
      clear hK K hHeld k0 k1
      have hHeld := hHeld2
      clear hHeld2
      try simp only [Act.put, List.getElem_toArray, List.getElem_cons_succ, List.getElem_cons_zero, List.setIfInBounds_toArray, List.set_cons_zero, List.set_cons_succ]
      refine wpAnyH_ready (rs := [6]) (by kernel_rfl) (by simp) ?_
      refine (AllReadyH.cons rfl (fun K hK => ?_) AllReadyH.nil)
      rw [if_pos (by rfl)]
      go_simp
      go_at_call 70
      (with_reducible refine (num_n c.y Rc.out.2 _).mono ?_); rintro e w1 ⟨vr1, rfl, hNr1, hb1⟩
      obtain ⟨mr1, adr1, nr1, cr1, rfl⟩ := hNr1.shape
      have HNr1 := Lib.hid hNr1
      clear hNr1
      go_wp2_with fail
      refine hK.out _ _ ?_ (fun hHeld2 => ?_)
      · exact ⟨(id hHeld).1.below hb1, (id hHeld).2.1.below hb1, (id hHeld).2.2.1.below hb1, (id hHeld).2.2.2.below hb1⟩
      replace HR := Lib.hid (HR.out.below hb1)
      replace HT := Lib.hid (HT.out.below hb1)
      replace HN2 := Lib.hid (HN2.out.below hb1)
      replace HNr0 := Lib.hid (HNr0.out.below hb1)
      clear hK K hHeld hb1
      have hHeld := hHeld2
      clear hHeld2
      try simp only [Act.put, List.getElem_toArray, List.getElem_cons_succ, List.getElem_cons_zero, List.setIfInBounds_toArray, List.set_cons_zero, List.set_cons_succ]
      refine wpAnyH_ready (rs := [9]) (by kernel_rfl) (by simp) ?_
      refine (AllReadyH.cons rfl (fun K hK => ?_) AllReadyH.nil)
      rw [if_pos (by rfl)]
      go_simp
      go_at_call 70
      (with_reducible refine (num_n a.x Ra.out.1 _).mono ?_); rintro e w1 ⟨vr2, rfl, hNr2, hb1⟩
      obtain ⟨mr2, adr2, nr2, cr2, rfl⟩ := hNr2.shape
      have HNr2 := Lib.hid hNr2
      clear hNr2
      go_wp2_with fail
      refine hK.out _ _ ?_ (fun hHeld2 => ?_)
      · exact ⟨(id hHeld).1.below hb1, (id hHeld).2.1.below hb1, (id hHeld).2.2.1.below hb1, (id hHeld).2.2.2.below hb1⟩
      replace HR := Lib.hid (HR.out.below hb1)
      replace HT := Lib.hid (HT.out.below hb1)
      replace HN2 := Lib.hid (HN2.out.below hb1)
      replace HNr0 := Lib.hid (HNr0.out.below hb1)
      replace HNr1 := Lib.hid (HNr1.out.below hb1)
      clear hK K hHeld hb1
      have hHeld := hHeld2
      clear hHeld2
      try simp only [Act.put, List.getElem_toArray, List.getElem_cons_succ, List.getElem_cons_zero, List.setIfInBounds_toArray, List.set_cons_zero, List.set_cons_succ]
      refine wpAnyH_ready (rs := [12]) (by kernel_rfl) (by simp) ?_
      refine (AllReadyH.cons rfl (fun K hK => ?_) AllReadyH.nil)
      rw [if_pos (by rfl)]
      go_simp
      go_at_call 70
      (with_reducible refine (num_n a.y Ra.out.2 _).mono ?_); rintro e w1 ⟨vr3, rfl, hNr3, hb1⟩
      obtain ⟨mr3, adr3, nr3, cr3, rfl⟩ := hNr3.shape
      have HNr3 := Lib.hid hNr3
      clear hNr3
      go_wp2_with fail
      refine hK.out _ _ ?_ (fun hHeld2 => ?_)
      · exact ⟨(id hHeld).1.below hb1, (id hHeld).2.1.below hb1, (id hHeld).2.2.1.below hb1, (id hHeld).2.2.2.below hb1⟩
      replace HR := Lib.hid (HR.out.below hb1)
      replace HT := Lib.hid (HT.out.below hb1)
      replace HN2 := Lib.hid (HN2.out.below hb1)
      replace HNr0 := Lib.hid (HNr0.out.below hb1)
      replace HNr1 := Lib.hid (HNr1.out.below hb1)
      replace HNr2 := Lib.hid (HNr2.out.below hb1)
      clear hK K hHeld hb1
      have hHeld := hHeld2
      clear hHeld2
      try simp only [Act.put, List.getElem_toArray, List.getElem_cons_succ, List.getElem_cons_zero, List.setIfInBounds_toArray, List.set_cons_zero, List.set_cons_succ]
      refine wpAnyH_ready (rs := [13]) (by kernel_rfl) (by simp) ?_
      refine (AllReadyH.cons rfl (fun K hK => ?_) AllReadyH.nil)
      rw [if_pos (by rfl)]
      go_simp
      go_at_call 74
      (with_reducible refine (det_n _ _ _ _ c.x c.y a.x a.y Zc.out.1 Zc.out.2 Za.out.1 Za.out.2 _ HNr0.out HNr1.out HNr2.out HNr3.out).mono ?_); rintro e w1 ⟨vrd, rfl, hNrd, hb1⟩
      obtain ⟨mrd, adrd, nrd, crd, rfl⟩ := hNrd.shape
      have HNrd := Lib.hid hNrd
      clear hNrd
      go_wp2_with fail
      refine hK.out _ _ ?_ (fun hHeld2 => ?_)
      · exact ⟨(id hHeld).1.below hb1, (id hHeld).2.1.below hb1, (id hHeld).2.2.1.below hb1, (id hHeld).2.2.2.below hb1⟩
      replace HR := Lib.hid (HR.out.below hb1)
      replace HT := Lib.hid (HT.out.below hb1)
      replace HN2 := Lib.hid (HN2.out.below hb1)
      replace HNr0 := Lib.hid (HNr0.out.below hb1)
      replace HNr1 := Lib.hid (HNr1.out.below hb1)
      replace HNr2 := Lib.hid (HNr2.out.below hb1)
      replace HNr3 := Lib.hid (HNr3.out.below hb1)
      clear hK K hHeld hb1
      have hHeld := hHeld2
      clear hHeld2
      try simp only [Act.put, List.getElem_toArray, List.getElem_cons_succ, List.getElem_cons_zero, List.setIfInBounds_toArray, List.set_cons_zero, List.set_cons_succ]
      refine wpAnyH_ready (rs := [14]) (by kernel_rfl) (by simp) ?_
      refine (AllReadyH.cons rfl (fun K hK => ?_) AllReadyH.nil)
      rw [if_pos (by rfl)]
      go_simp
      go_at_call 38
      (with_reducible refine (plus_c _ _ (a.x * b.y - a.y * b.x + (b.x * c.y - b.y * c.x)) (c.x * a.y - c.y * a.x) _ HN2.out HNrd.out D3.out D2.out).mono ?_); rintro e w1 ⟨vrs, rfl, hNrs, hb1⟩
      obtain ⟨mrs, adrs, nrs, crs, rfl⟩ := hNrs.shape
      have HNrs := Lib.hid hNrs
      clear hNrs
      go_wp2_with fail
      refine hK.out _ _ ?_ (fun hHeld2 => ?_)
      · exact ⟨(id hHeld).1.below hb1, (id hHeld).2.1.below hb1, (id hHeld).2.2.1.below hb1, (id hHeld).2.2.2.below hb1⟩
      replace HR := Lib.hid (HR.out.below hb1)
      replace HT := Lib.hid (HT.out.below hb1)
      replace HN2 := Lib.hid (HN2.out.below hb1)
      replace HNr0 := Lib.hid (HNr0.out.below hb1)
      replace HNr1 := Lib.hid (HNr1.out.below hb1)
      replace HNr2 := Lib.hid (HNr2.out.below hb1)
      replace HNr3 := Lib.hid (HNr3.out.below hb1)
      replace HNrd := Lib.hid (HNrd.out.below hb1)
      clear hK K hHeld hb1
      have hHeld := hHeld2
      clear hHeld2
      try simp only [Act.put, List.getElem_toArray, List.getElem_cons_succ, List.getElem_cons_zero, List.setIfInBounds_toArray, List.set_cons_zero, List.set_cons_succ]
      refine wpAnyH_ready (rs := [15]) (by kernel_rfl) (by simp) ?_
      refine (AllReadyH.cons rfl (fun K hK => ?_) AllReadyH.nil)
      rw [if_pos (by rfl)]
      obtain ⟨k0, k1⟩ := HR.out.two
      obtain ⟨f0, f1⟩ := HR.out.free2
      go_simp
      refine hK.out _ _ ?_ (fun hHeld2 => ?_)
      · exact ⟨(((id hHeld).1.far (by dsimp only; omega) _).far (by dsimp only; omega) _), (((id hHeld).2.1.far (by dsimp only; omega) _).far (by dsimp only; omega) _), (((id hHeld).2.2.1.far (by dsimp only; omega) _).far (by dsimp only; omega) _), (((id hHeld).2.2.2.set (by dsimp only; omega) _).set (by dsimp only; omega) _)⟩
      replace HT := Lib.hid ((id hHeld2).2.2.2.far2 HT.out (by dsimp only; omega) (by dsimp only; omega))
      replace HN2 := Lib.hid (HN2.out.res HR.out (mrs) (.slice adrs nrs crs))
      replace HNr0 := Lib.hid (HNr0.out.res HR.out (mrs) (.slice adrs nrs crs))
      replace HNr1 := Lib.hid (HNr1.out.res HR.out (mrs) (.slice adrs nrs crs))
      replace HNr2 := Lib.hid (HNr2.out.res HR.out (mrs) (.slice adrs nrs crs))
      replace HNr3 := Lib.hid (HNr3.out.res HR.out (mrs) (.slice adrs nrs crs))
      replace HNrd := Lib.hid (HNrd.out.res HR.out (mrs) (.slice adrs nrs crs))
      replace HNrs := Lib.hid (HNrs.out.res HR.out (mrs) (.slice adrs nrs crs))
      replace HR := Lib.hid (HR.out.set2 (.bool mrs) (.slice adrs nrs crs))
      clear hK K hHeld k0 k1 f0 f1
      have hHeld := hHeld2
      clear hHeld2
      try simp only [Act.put, List.getElem_toArray, List.getElem_cons_succ, List.getElem_cons_zero, List.setIfInBounds_toArray, List.set_cons_zero, List.set_cons_succ]
      refine wpAnyH_done (by kernel_rfl) ?_ _
      go_wp2_with fail
      obtain ⟨k0, k1⟩ := HR.out.two
      rw [HE.out] at HNrs
      refine bodyPost_ret (v := .agg #[.bool mrs, .slice adrs nrs crs]) (by simp [results, Try.results35, go_sem, k0, k1]; done) rfl ⟨_, rfl, HNrs.out, (id hHeld).2.2.2.hb⟩
    · rw [if_pos (by rfl)]
      go_simp
      go_at_call 70
      (with_reducible refine (num_n c.y Rc.out.2 _).mono ?_); rintro e w1 ⟨vr1, rfl, hNr1, hb1⟩
      obtain ⟨mr1, adr1, nr1, cr1, rfl⟩ := hNr1.shape
      have HNr1 := Lib.hid hNr1
      clear hNr1
      go_wp2_with fail
      refine hK.out _ _ ?_ (fun hHeld2 => ?_)
      · exact ⟨(id hHeld).1.below hb1, (id hHeld).2.1.below hb1, (id hHeld).2.2.1.below hb1, (id hHeld).2.2.2.below hb1⟩
      replace HR := Lib.hid (HR.out.below hb1)
      replace HT := Lib.hid (HT.out.below hb1)
      replace HN2 := Lib.hid (HN2.out.below hb1)
      replace HNr0 := Lib.hid (HNr0.out.below hb1)
      clear hK K hHeld hb1
      have hHeld := hHeld2
      clear hHeld2
      try simp only [Act.put, List.getElem_toArray, List.getElem_cons_succ, List.getElem_cons_zero, List.setIfInBounds_toArray, List.set_cons_zero, List.set_cons_succ]
      refine wpAnyH_ready (rs := [0, 9]) (by kernel_rfl) (by simp) ?_
      refine (AllReadyH.cons rfl (fun K hK => ?_) (AllReadyH.cons rfl (fun K hK => ?_) AllReadyH.nil))
      · rw [if_pos (by rfl)]
        obtain ⟨k0, k1⟩ := HT.out.two
        go_simp
        refine hK.out _ _ ?_ (fun hHeld2 => ?_)
        · exact hHeld
        clear hK K hHeld k0 k1
        have hHeld := hHeld2
        clear hHeld2
        try simp only [Act.put, List.getElem_toArray, List.getElem_cons_succ, List.getElem_cons_zero, List.setIfInBounds_toArray, List.set_cons_zero, List.set_cons_succ]
        refine wpAnyH_ready (rs := [9]) (by kernel_rfl) (by simp) ?_
        refine (AllReadyH.cons rfl (fun K hK => ?_) AllReadyH.nil)
        rw [if_pos (by rfl)]
        go_simp
        go_at_call 70
        (with_reducible refine (num_n a.x Ra.out.1 _).mono ?_); rintro e w1 ⟨vr2, rfl, hNr2, hb1⟩
        obtain ⟨mr2, adr2, nr2, cr2, rfl⟩ := hNr2.shape
        have HNr2 := Lib.hid hNr2
        clear hNr2
        go_wp2_with fail
        refine hK.out _ _ ?_ (fun hHeld2 => ?_)
        · exact ⟨(id hHeld).1.below hb1, (id hHeld).2.1.below hb1, (id hHeld).2.2.1.below hb1, (id hHeld).2.2.2.below hb1⟩
        replace HR := Lib.hid (HR.out.below hb1)
        replace HT := Lib.hid (HT.out.below hb1)
        replace HN2 := Lib.hid (HN2.out.below hb1)
        replace HNr0 := Lib.hid (HNr0.out.below hb1)
        replace HNr1 := Lib.hid (HNr1.out.below hb1)
        clear hK K hHeld hb1
        have hHeld := hHeld2
        clear hHeld2
        try simp only [Act.put, List.getElem_toArray, List.getElem_cons_succ, List.getElem_cons_zero, List.setIfInBounds_toArray, List.set_cons_zero, List.set_cons_succ]
        refine wpAnyH_ready (rs := [12]) (by kernel_rfl) (by simp) ?_
        refine (AllReadyH.cons rfl (fun K hK => ?_) AllReadyH.nil)
        rw [if_pos (by rfl)]
        go_simp
        go_at_call 70
        (with_reducible refine (num_n a.y Ra.out.2 _).mono ?_); rintro e w1 ⟨vr3, rfl, hNr3, hb1⟩
        obtain ⟨mr3, adr3, nr3, cr3, rfl⟩ := hNr3.shape
        have HNr3 := Lib.hid hNr3
        clear hNr3
        go_wp2_with fail
        refine hK.out _ _ ?_ (fun hHeld2 => ?_)
        · exact ⟨(id hHeld).1.below hb1, (id hHeld).2.1.below hb1, (id hHeld).2.2.1.below hb1, (id hHeld).2.2.2.below hb1⟩
        replace HR := Lib.hid (HR.out.below hb1)
        replace HT := Lib.hid (HT.out.below hb1)
        replace HN2 := Lib.hid (HN2.out.below hb1)
        replace HNr0 := Lib.hid (HNr0.out.below hb1)
        replace HNr1 := Lib.hid (HNr1.out.below hb1)
        replace HNr2 := Lib.hid (HNr2.out.below hb1)
        clear hK K hHeld hb1
        have hHeld := hHeld2
        clear hHeld2
        try simp only [Act.put, List.getElem_toArray, List.getElem_cons_succ, List.getElem_cons_zero, List.setIfInBounds_toArray, List.set_cons_zero, List.set_cons_succ]
        refine wpAnyH_ready (rs := [13]) (by kernel_rfl) (by simp) ?_
        refine (AllReadyH.cons rfl (fun K hK => ?_) AllReadyH.nil)
        rw [if_pos (by rfl)]
        go_simp
        go_at_call 74
        (with_reducible refine (det_n _ _ _ _ c.x c.y a.x a.y Zc.out.1 Zc.out.2 Za.out.1 Za.out.2 _ HNr0.out HNr1.out HNr2.out HNr3.out).mono ?_); rintro e w1 ⟨vrd, rfl, hNrd, hb1⟩
        obtain ⟨mrd, adrd, nrd, crd, rfl⟩ := hNrd.shape
        have HNrd := Lib.hid hNrd
        clear hNrd
        go_wp2_with fail
        refine hK.out _ _ ?_ (fun hHeld2 => ?_)
        · exact ⟨(id hHeld).1.below hb1, (id hHeld).2.1.below hb1, (id hHeld).2.2.1.below hb1, (id hHeld).2.2.2.below hb1⟩
        replace HR := Lib.hid (HR.out.below hb1)
        replace HT := Lib.hid (HT.out.below hb1)
        replace HN2 := Lib.hid (HN2.out.below hb1)
        replace HNr0 := Lib.hid (HNr0.out.below hb1)
        replace HNr1 := Lib.hid (HNr1.out.below hb1)
        replace HNr2 := Lib.hid (HNr2.out.below hb1)
        replace HNr3 := Lib.hid (HNr3.out.below hb1)
        clear hK K hHeld hb1
        have hHeld := hHeld2
        clear hHeld2
        try simp only [Act.put, List.getElem_toArray, List.getElem_cons_succ, List.getElem_cons_zero, List.setIfInBounds_toArray, List.set_cons_zero, List.set_cons_succ]
        refine wpAnyH_ready (rs := [14]) (by kernel_rfl) (by simp) ?_
        refine (AllReadyH.cons rfl (fun K hK => ?_) AllReadyH.nil)
        rw [if_pos (by rfl)]
        go_simp
        go_at_call 38
        (with_reducible refine (plus_c _ _ (a.x * b.y - a.y * b.x + (b.x * c.y - b.y * c.x)) (c.x * a.y - c.y * a.x) _ HN2.out HNrd.out D3.out D2.out).mono ?_); rintro e w1 ⟨vrs, rfl, hNrs, hb1⟩
        obtain ⟨mrs, adrs, nrs, crs, rfl⟩ := hNrs.shape
        have HNrs := Lib.hid hNrs
        clear hNrs
        go_wp2_with fail
        refine hK.out _ _ ?_ (fun hHeld2 => ?_)
        · exact ⟨(id hHeld).1.below hb1, (id hHeld).2.1.below hb1, (id hHeld).2.2.1.below hb1, (id hHeld).2.2.2.below hb1⟩
        replace HR := Lib.hid (HR.out.below hb1)
        replace HT := Lib.hid (HT.out.below hb1)
        replace HN2 := Lib.hid (HN2.out.below hb1)
        replace HNr0 := Lib.hid (HNr0.out.below hb1)
        replace HNr1 := Lib.hid (HNr1.out.below hb1)
        replace HNr2 := Lib.hid (HNr2.out.below hb1)
        replace HNr3 := Lib.hid (HNr3.out.below hb1)
        replace HNrd := Lib.hid (HNrd.out.below hb1)
        clear hK K hHeld hb1
        have hHeld := hHeld2
        clear hHeld2
        try simp only [Act.put, List.getElem_toArray, List.getElem_cons_succ, List.getElem_cons_zero, List.setIfInBounds_toArray, List.set_cons_zero, List.set_cons_succ]
        refine wpAnyH_ready (rs := [15]) (by kernel_rfl) (by simp) ?_
        refine (AllReadyH.cons rfl (fun K hK => ?_) AllReadyH.nil)
        rw [if_pos (by rfl)]
        obtain ⟨k0, k1⟩ := HR.out.two
        obtain ⟨f0, f1⟩ := HR.out.free2
        go_simp
        refine hK.out _ _ ?_ (fun hHeld2 => ?_)
        · exact ⟨(((id hHeld).1.far (by dsimp only; omega) _).far (by dsimp only; omega) _), (((id hHeld).2.1.far (by dsimp only; omega) _).far (by dsimp only; omega) _), (((id hHeld).2.2.1.far (by dsimp only; omega) _).far (by dsimp only; omega) _), (((id hHeld).2.2.2.set (by dsimp only; omega) _).set (by dsimp only; omega) _)⟩
        replace HT := Lib.hid ((id hHeld2).2.2.2.far2 HT.out (by dsimp only; omega) (by dsimp only; omega))
        replace HN2 := Lib.hid (HN2.out.res HR.out (mrs) (.slice adrs nrs crs))
        replace HNr0 := Lib.hid (HNr0.out.res HR.out (mrs) (.slice adrs nrs crs))
        replace HNr1 := Lib.hid (HNr1.out.res HR.out (mrs) (.slice adrs nrs crs))
        replace HNr2 := Lib.hid (HNr2.out.res HR.out (mrs) (.slice adrs nrs crs))
        replace HNr3 := Lib.hid (HNr3.out.res HR.out (mrs) (.slice adrs nrs crs))
        replace HNrd := Lib.hid (HNrd.out.res HR.out (mrs) (.slice adrs nrs crs))
        replace HNrs := Lib.hid (HNrs.out.res HR.out (mrs) (.slice adrs nrs crs))
        replace HR := Lib.hid (HR.out.set2 (.bool mrs) (.slice adrs nrs crs))
        clear hK K hHeld k0 k1 f0 f1
        have hHeld := hHeld2
        clear hHeld2
        try simp only [Act.put, List.getElem_toArray, List.getElem_cons_succ, List.getElem_cons_zero, List.setIfInBounds_toArray, List.set_cons_zero, List.set_cons_succ]
        refine wpAnyH_done (by kernel_rfl) ?_ _
        go_wp2_with fail
        obtain ⟨k0, k1⟩ := HR.out.two
        rw [HE.out] at HNrs
        refine bodyPost_ret (v := .agg #[.bool mrs, .slice adrs nrs crs]) (by simp [results, Try.results35, go_sem, k0, k1]; done) rfl ⟨_, rfl, HNrs.out, (id hHeld).2.2.2.hb⟩
      · rw [if_pos (by rfl)]
        go_simp
        go_at_call 70
        (with_reducible refine (num_n a.x Ra.out.1 _).mono ?_); rintro e w1 ⟨vr2, rfl, hNr2, hb1⟩
        obtain ⟨mr2, adr2, nr2, cr2, rfl⟩ := hNr2.shape
        have HNr2 := Lib.hid hNr2
        clear hNr2
        go_wp2_with fail
        refine hK.out _ _ ?_ (fun hHeld2 => ?_)
        · exact ⟨(id hHeld).1.below hb1, (id hHeld).2.1.below hb1, (id hHeld).2.2.1.below hb1, (id hHeld).2.2.2.below hb1⟩
        replace HR := Lib.hid (HR.out.below hb1)
        replace HT := Lib.hid (HT.out.below hb1)
        replace HN2 := Lib.hid (HN2.out.below hb1)
        replace HNr0 := Lib.hid (HNr0.out.below hb1)
        replace HNr1 := Lib.hid (HNr1.out.below hb1)
        clear hK K hHeld hb1
        have hHeld := hHeld2
        clear hHeld2
        try simp only [Act.put, List.getElem_toArray, List.getElem_cons_succ, List.getElem_cons_zero, List.setIfInBounds_toArray, List.set_cons_zero, List.set_cons_succ]
        refine wpAnyH_ready (rs := [0, 12]) (by kernel_rfl) (by simp) ?_
        refine (AllReadyH.cons rfl (fun K hK => ?_) (AllReadyH.cons rfl (fun K hK => ?_) AllReadyH.nil))
        · rw [if_pos (by rfl)]
          obtain ⟨k0, k1⟩ := HT.out.two
          go_simp
          refine hK.out _ _ ?_ (fun hHeld2 => ?_)
          · exact hHeld
          clear hK K hHeld k0 k1
          have hHeld := hHeld2
          clear hHeld2
          try simp only [Act.put, List.getElem_toArray, List.getElem_cons_succ, List.getElem_cons_zero, List.setIfInBounds_toArray, List.set_cons_zero, List.set_cons_succ]
          refine wpAnyH_ready (rs := [12]) (by kernel_rfl) (by simp) ?_
          refine (AllReadyH.cons rfl (fun K hK => ?_) AllReadyH.nil)
          rw [if_pos (by rfl)]
          go_simp
          go_at_call 70
          (with_reducible refine (num_n a.y Ra.out.2 _).mono ?_); rintro e w1 ⟨vr3, rfl, hNr3, hb1⟩
          obtain ⟨mr3, adr3, nr3, cr3, rfl⟩ := hNr3.shape
          have HNr3 := Lib.hid hNr3
          clear hNr3
          go_wp2_with fail
          refine hK.out _ _ ?_ (fun hHeld2 => ?_)
          · exact ⟨(id hHeld).1.below hb1, (id hHeld).2.1.below hb1, (id hHeld).2.2.1.below hb1, (id hHeld).2.2.2.below hb1⟩
          replace HR := Lib.hid (HR.out.below hb1)
          replace HT := Lib.hid (HT.out.below hb1)
          replace HN2 := Lib.hid (HN2.out.below hb1)
          replace HNr0 := Lib.hid (HNr0.out.below hb1)
          replace HNr1 := Lib.hid (HNr1.out.below hb1)
          replace HNr2 := Lib.hid (HNr2.out.below hb1)
          clear hK K hHeld hb1
          have hHeld := hHeld2
          clear hHeld2
          try simp only [Act.put, List.getElem_toArray, List.getElem_cons_succ, List.getElem_cons_zero, List.setIfInBounds_toArray, List.set_cons_zero, List.set_cons_succ]
          refine wpAnyH_ready (rs := [13]) (by kernel_rfl) (by simp) ?_
          refine (AllReadyH.cons rfl (fun K hK => ?_) AllReadyH.nil)
          rw [if_pos (by rfl)]
          go_simp
          go_at_call 74
          (with_reducible refine (det_n _ _ _ _ c.x c.y a.x a.y Zc.out.1 Zc.out.2 Za.out.1 Za.out.2 _ HNr0.out HNr1.out HNr2.out HNr3.out).mono ?_); rintro e w1 ⟨vrd, rfl, hNrd, hb1⟩
          obtain ⟨mrd, adrd, nrd, crd, rfl⟩ := hNrd.shape
          have HNrd := Lib.hid hNrd
          clear hNrd
          go_wp2_with fail
          refine hK.out _ _ ?_ (fun hHeld2 => ?_)
          · exact ⟨(id hHeld).1.below hb1, (id hHeld).2.1.below hb1, (id hHeld).2.2.1.below hb1, (id hHeld).2.2.2.below hb1⟩
          replace HR := Lib.hid (HR.out.below hb1)
          replace HT := Lib.hid (HT.out.below hb1)
          replace HN2 := Lib.hid (HN2.out.below hb1)
          replace HNr0 := Lib.hid (HNr0.out.below hb1)
          replace HNr1 := Lib.hid (HNr1.out.below hb1)
          replace HNr2 := Lib.hid (HNr2.out.below hb1)
          replace HNr3 := Lib.hid (HNr3.out.below hb1)
          clear hK K hHeld hb1
          have hHeld := hHeld2
          clear hHeld2
          try simp only [Act.put, List.getElem_toArray, List.getElem_cons_succ, List.getElem_cons_zero, List.setIfInBounds_toArray, List.set_cons_zero, List.set_cons_succ]
          refine wpAnyH_ready (rs := [14]) (by kernel_rfl) (by simp) ?_
          refine (AllReadyH.cons rfl (fun K hK => ?_) AllReadyH.nil)
          rw [if_pos (by rfl)]
          go_simp
          go_at_call 38
          (with_reducible refine (plus_c _ _ (a.x * b.y - a.y * b.x + (b.x * c.y - b.y * c.x)) (c.x * a.y - c.y * a.x) _ HN2.out HNrd.out D3.out D2.out).mono ?_); rintro e w1 ⟨vrs, rfl, hNrs, hb1⟩
          obtain ⟨mrs, adrs, nrs, crs, rfl⟩ := hNrs.shape
          have HNrs := Lib.hid hNrs
          clear hNrs
          go_wp2_with fail
          refine hK.out _ _ ?_ (fun hHeld2 => ?_)
          · exact ⟨(id hHeld).1.below hb1, (id hHeld).2.1.below hb1, (id hHeld).2.2.1.below hb1, (id hHeld).2.2.2.below hb1⟩
          replace HR := Lib.hid (HR.out.below hb1)
          replace HT := Lib.hid (HT.out.below hb1)
          replace HN2 := Lib.hid (HN2.out.below hb1)
          replace HNr0 := Lib.hid (HNr0.out.below hb1)
          replace HNr1 := Lib.hid (HNr1.out.below hb1)
          replace HNr2 := Lib.hid (HNr2.out.below hb1)
          replace HNr3 := Lib.hid (HNr3.out.below hb1)
          replace HNrd := Lib.hid (HNrd.out.below hb1)
          clear hK K hHeld hb1
          have hHeld := hHeld2
          clear hHeld2
          try simp only [Act.put, List.getElem_toArray, List.getElem_cons_succ, List.getElem_cons_zero, List.setIfInBounds_toArray, List.set_cons_zero, List.set_cons_succ]
          refine wpAnyH_ready (rs := [15]) (by kernel_rfl) (by simp) ?_
          refine (AllReadyH.cons rfl (fun K hK => ?_) AllReadyH.nil)
          rw [if_pos (by rfl)]
          obtain ⟨k0, k1⟩ := HR.out.two
          obtain ⟨f0, f1⟩ := HR.out.free2
          go_simp
          refine hK.out _ _ ?_ (fun hHeld2 => ?_)
          · exact ⟨(((id hHeld).1.far (by dsimp only; omega) _).far (by dsimp only; omega) _), (((id hHeld).2.1.far (by dsimp only; omega) _).far (by dsimp only; omega) _), (((id hHeld).2.2.1.far (by dsimp only; omega) _).far (by dsimp only; omega) _), (((id hHeld).2.2.2.set (by dsimp only; omega) _).set (by dsimp only; omega) _)⟩
          replace HT := Lib.hid ((id hHeld2).2.2.2.far2 HT.out (by dsimp only; omega) (by dsimp only; omega))
          replace HN2 := Lib.hid (HN2.out.res HR.out (mrs) (.slice adrs nrs crs))
          replace HNr0 := Lib.hid (HNr0.out.res HR.out (mrs) (.slice adrs nrs crs))
          replace HNr1 := Lib.hid (HNr1.out.res HR.out (mrs) (.slice adrs nrs crs))
          replace HNr2 := Lib.hid (HNr2.out.res HR.out (mrs) (.slice adrs nrs crs))
          replace HNr3 := Lib.hid (HNr3.out.res HR.out (mrs) (.slice adrs nrs crs))
          replace HNrd := Lib.hid (HNrd.out.res HR.out (mrs) (.slice adrs nrs crs))
          replace HNrs := Lib.hid (HNrs.out.res HR.out (mrs) (.slice adrs nrs crs))
          replace HR := Lib.hid (HR.out.set2 (.bool mrs) (.slice adrs nrs crs))
          clear hK K hHeld k0 k1 f0 f1
          have hHeld := hHeld2
          clear hHeld2
          try simp only [Act.put, List.getElem_toArray, List.getElem_cons_succ, List.getElem_cons_zero, List.setIfInBounds_toArray, List.set_cons_zero, List.set_cons_succ]
          refine wpAnyH_done (by kernel_rfl) ?_ _
          go_wp2_with fail
          obtain ⟨k0, k1⟩ := HR.out.two
          rw [HE.out] at HNrs
          refine bodyPost_ret (v := .agg #[.bool mrs, .slice adrs nrs crs]) (by simp [results, Try.results35, go_sem, k0, k1]; done) rfl ⟨_, rfl, HNrs.out, (id hHeld).2.2.2.hb⟩
        · rw [if_pos (by rfl)]
          go_simp
          go_at_call 70
          (with_reducible refine (num_n a.y Ra.out.2 _).mono ?_); rintro e w1 ⟨vr3, rfl, hNr3, hb1⟩
          obtain ⟨mr3, adr3, nr3, cr3, rfl⟩ := hNr3.shape
          have HNr3 := Lib.hid hNr3
          clear hNr3
          go_wp2_with fail
          refine hK.out _ _ ?_ (fun hHeld2 => ?_)
          · exact ⟨(id hHeld).1.below hb1, (id hHeld).2.1.below hb1, (id hHeld).2.2.1.below hb1, (id hHeld).2.2.2.below hb1⟩
          replace HR := Lib.hid (HR.out.below hb1)
          replace HT := Lib.hid (HT.out.below hb1)
          replace HN2 := Lib.hid (HN2.out.below hb1)
          replace HNr0 := Lib.hid (HNr0.out.below hb1)
          replace HNr1 := Lib.hid (HNr1.out.below hb1)
          replace HNr2 := Lib.hid (HNr2.out.below hb1)
          clear hK K hHeld hb1
          have hHeld := hHeld2
          clear hHeld2
          try simp only [Act.put, List.getElem_toArray, List.getElem_cons_succ, List.getElem_cons_zero, List.setIfInBounds_toArray, List.set_cons_zero, List.set_cons_succ]
          refine wpAnyH_ready (rs := [0, 13]) (by kernel_rfl) (by simp) ?_
          refine (AllReadyH.cons rfl (fun K hK => ?_) (AllReadyH.cons rfl (fun K hK => ?_) AllReadyH.nil))
          · rw [if_pos (by rfl)]
            obtain ⟨k0, k1⟩ := HT.out.two
            go_simp
            refine hK.out _ _ ?_ (fun hHeld2 => ?_)
            · exact hHeld
            clear hK K hHeld k0 k1
            have hHeld := hHeld2
            clear hHeld2
            try simp only [Act.put, List.getElem_toArray, List.getElem_cons_succ, List.getElem_cons_zero, List.setIfInBounds_toArray, List.set_cons_zero, List.set_cons_succ]
            refine wpAnyH_ready (rs := [13]) (by kernel_rfl) (by simp) ?_
            refine (AllReadyH.cons rfl (fun K hK => ?_) AllReadyH.nil)
            rw [if_pos (by rfl)]
            go_simp
            go_at_call 74
            (with_reducible refine (det_n _ _ _ _ c.x c.y a.x a.y Zc.out.1 Zc.out.2 Za.out.1 Za.out.2 _ HNr0.out HNr1.out HNr2.out HNr3.out).mono ?_); rintro e w1 ⟨vrd, rfl, hNrd, hb1⟩
            obtain ⟨mrd, adrd, nrd, crd, rfl⟩ := hNrd.shape
            have HNrd := Lib.hid hNrd
            clear hNrd
            go_wp2_with fail
            refine hK.out _ _ ?_ (fun hHeld2 => ?_)
            · exact ⟨(id hHeld).1.below hb1, (id hHeld).2.1.below hb1, (id hHeld).2.2.1.below hb1, (id hHeld).2.2.2.below hb1⟩
            replace HR := Lib.hid (HR.out.below hb1)
            replace HT := Lib.hid (HT.out.below hb1)
            replace HN2 := Lib.hid (HN2.out.below hb1)
            replace HNr0 := Lib.hid (HNr0.out.below hb1)
            replace HNr1 := Lib.hid (HNr1.out.below hb1)
            replace HNr2 := Lib.hid (HNr2.out.below hb1)
            replace HNr3 := Lib.hid (HNr3.out.below hb1)
            clear hK K hHeld hb1
            have hHeld := hHeld2
            clear hHeld2
            try simp only [Act.put, List.getElem_toArray, List.getElem_cons_succ, List.getElem_cons_zero, List.setIfInBounds_toArray, List.set_cons_zero, List.set_cons_succ]
            refine wpAnyH_ready (rs := [14]) (by kernel_rfl) (by simp) ?_
            refine (AllReadyH.cons rfl (fun K hK => ?_) AllReadyH.nil)
            rw [if_pos (by rfl)]
            go_simp
            go_at_call 38
            (with_reducible refine (plus_c _ _ (a.x * b.y - a.y * b.x + (b.x * c.y - b.y * c.x)) (c.x * a.y - c.y * a.x) _ HN2.out HNrd.out D3.out D2.out).mono ?_); rintro e w1 ⟨vrs, rfl, hNrs, hb1⟩
            obtain ⟨mrs, adrs, nrs, crs, rfl⟩ := hNrs.shape
            have HNrs := Lib.hid hNrs
            clear hNrs
            go_wp2_with fail
            refine hK.out _ _ ?_ (fun hHeld2 => ?_)
            · exact ⟨(id hHeld).1.below hb1, (id hHeld).2.1.below hb1, (id hHeld).2.2.1.below hb1, (id hHeld).2.2.2.below hb1⟩
            replace HR := Lib.hid (HR.out.below hb1)
            replace HT := Lib.hid (HT.out.below hb1)
            replace HN2 := Lib.hid (HN2.out.below hb1)
            replace HNr0 := Lib.hid (HNr0.out.below hb1)
            replace HNr1 := Lib.hid (HNr1.out.below hb1)
            replace HNr2 := Lib.hid (HNr2.out.below hb1)
            replace HNr3 := Lib.hid (HNr3.out.below hb1)
            replace HNrd := Lib.hid (HNrd.out.below hb1)
            clear hK K hHeld hb1
            have hHeld := hHeld2
            clear hHeld2
            try simp only [Act.put, List.getElem_toArray, List.getElem_cons_succ, List.getElem_cons_zero, List.setIfInBounds_toArray, List.set_cons_zero, List.set_cons_succ]
            refine wpAnyH_ready (rs := [15]) (by kernel_rfl) (by simp) ?_
            refine (AllReadyH.cons rfl (fun K hK => ?_) AllReadyH.nil)
            rw [if_pos (by rfl)]
            obtain ⟨k0, k1⟩ := HR.out.two
            obtain ⟨f0, f1⟩ := HR.out.free2
            go_simp
            refine hK.out _ _ ?_ (fun hHeld2 => ?_)
            · exact ⟨(((id hHeld).1.far (by dsimp only; omega) _).far (by dsimp only; omega) _), (((id hHeld).2.1.far (by dsimp only; omega) _).far (by dsimp only; omega) _), (((id hHeld).2.2.1.far (by dsimp only; omega) _).far (by dsimp only; omega) _), (((id hHeld).2.2.2.set (by dsimp only; omega) _).set (by dsimp only; omega) _)⟩
            replace HT := Lib.hid ((id hHeld2).2.2.2.far2 HT.out (by dsimp only; omega) (by dsimp only; omega))
            replace HN2 := Lib.hid (HN2.out.res HR.out (mrs) (.slice adrs nrs crs))
            replace HNr0 := Lib.hid (HNr0.out.res HR.out (mrs) (.slice adrs nrs crs))
            replace HNr1 := Lib.hid (HNr1.out.res HR.out (mrs) (.slice adrs nrs crs))
            replace HNr2 := Lib.hid (HNr2.out.res HR.out (mrs) (.slice adrs nrs crs))
            replace HNr3 := Lib.hid (HNr3.out.res HR.out (mrs) (.slice adrs nrs crs))
            replace HNrd := Lib.hid (HNrd.out.res HR.out (mrs) (.slice adrs nrs crs))
            replace HNrs := Lib.hid (HNrs.out.res HR.out (mrs) (.slice adrs nrs crs))
            replace HR := Lib.hid (HR.out.set2 (.bool mrs) (.slice adrs nrs crs))
            clear hK K hHeld k0 k1 f0 f1
            have hHeld := hHeld2
            clear hHeld2
            try simp only [Act.put, List.getElem_toArray, List.getElem_cons_succ, List.getElem_cons_zero, List.setIfInBounds_toArray, List.set_cons_zero, List.set_cons_succ]
            refine wpAnyH_done (by kernel_rfl) ?_ _
            go_wp2_with fail
            obtain ⟨k0, k1⟩ := HR.out.two
            rw [HE.out] at HNrs
            refine bodyPost_ret (v := .agg #[.bool mrs, .slice adrs nrs crs]) (by simp [results, Try.results35, go_sem, k0, k1]; done) rfl ⟨_, rfl, HNrs.out, (id hHeld).2.2.2.hb⟩
          · rw [if_pos (by rfl)]
            go_simp
            go_at_call 74
            (with_reducible refine (det_n _ _ _ _ c.x c.y a.x a.y Zc.out.1 Zc.out.2 Za.out.1 Za.out.2 _ HNr0.out HNr1.out HNr2.out HNr3.out).mono ?_); rintro e w1 ⟨vrd, rfl, hNrd, hb1⟩
            obtain ⟨mrd, adrd, nrd, crd, rfl⟩ := hNrd.shape
            have HNrd := Lib.hid hNrd
            clear hNrd
            go_wp2_with fail
            refine hK.out _ _ ?_ (fun hHeld2 => ?_)
            · exact ⟨(id hHeld).1.below hb1, (id hHeld).2.1.below hb1, (id hHeld).2.2.1.below hb1, (id hHeld).2.2.2.below hb1⟩
            replace HR := Lib.hid (HR.out.below hb1)
            replace HT := Lib.hid (HT.out.below hb1)
            replace HN2 := Lib.hid (HN2.out.below hb1)
            replace HNr0 := Lib.hid (HNr0.out.below hb1)
            replace HNr1 := Lib.hid (HNr1.out.below hb1)
            replace HNr2 := Lib.hid (HNr2.out.below hb1)
            replace HNr3 := Lib.hid (HNr3.out.below hb1)
            clear hK K hHeld hb1
            have hHeld := hHeld2
            clear hHeld2
            try simp only [Act.put, List.getElem_toArray, List.getElem_cons_succ, List.getElem_cons_zero, List.setIfInBounds_toArray, List.set_cons_zero, List.set_cons_succ]
            refine wpAnyH_ready (rs := [0]) (by kernel_rfl) (by simp) ?_
            refine (AllReadyH.cons rfl (fun K hK => ?_) AllReadyH.nil)
            rw [if_pos (by rfl)]
            obtain ⟨k0, k1⟩ := HT.out.two
            go_simp
            refine hK.out _ _ ?_ (fun hHeld2 => ?_)
            · exact hHeld
            clear hK K hHeld k0 k1
            have hHeld := hHeld2
            clear hHeld2
            try simp only [Act.put, List.getElem_toArray, List.getElem_cons_succ, List.getElem_cons_zero, List.setIfInBounds_toArray, List.set_cons_zero, List.set_cons_succ]
            refine wpAnyH_ready (rs := [14]) (by kernel_rfl) (by simp) ?_
            refine (AllReadyH.cons rfl (fun K hK => ?_) AllReadyH.nil)
            rw [if_pos (by rfl)]
            go_simp
            go_at_call 38
            (with_reducible refine (plus_c _ _ (a.x * b.y - a.y * b.x + (b.x * c.y - b.y * c.x)) (c.x * a.y - c.y * a.x) _ HN2.out HNrd.out D3.out D2.out).mono ?_); rintro e w1 ⟨vrs, rfl, hNrs, hb1⟩
            obtain ⟨mrs, adrs, nrs, crs, rfl⟩ := hNrs.shape
            have HNrs := Lib.hid hNrs
            clear hNrs
            go_wp2_with fail
            refine hK.out _ _ ?_ (fun hHeld2 => ?_)
            · exact ⟨(id hHeld).1.below hb1, (id hHeld).2.1.below hb1, (id hHeld).2.2.1.below hb1, (id hHeld).2.2.2.below hb1⟩
            replace HR := Lib.hid (HR.out.below hb1)
            replace HT := Lib.hid (HT.out.below hb1)
            replace HN2 := Lib.hid (HN2.out.below hb1)
            replace HNr0 := Lib.hid (HNr0.out.below hb1)
            replace HNr1 := Lib.hid (HNr1.out.below hb1)
            replace HNr2 := Lib.hid (HNr2.out.below hb1)
            replace HNr3 := Lib.hid (HNr3.out.below hb1)
            replace HNrd := Lib.hid (HNrd.out.below hb1)
            clear hK K hHeld hb1
            have hHeld := hHeld2
            clear hHeld2
            try simp only [Act.put, List.getElem_toArray, List.getElem_cons_succ, List.getElem_cons_zero, List.setIfInBounds_toArray, List.set_cons_zero, List.set_cons_succ]
            refine wpAnyH_ready (rs := [15]) (by kernel_rfl) (by simp) ?_
            refine (AllReadyH.cons rfl (fun K hK => ?_) AllReadyH.nil)
            rw [if_pos (by rfl)]
            obtain ⟨k0, k1⟩ := HR.out.two
            obtain ⟨f0, f1⟩ := HR.out.free2
            go_simp
            refine hK.out _ _ ?_ (fun hHeld2 => ?_)
            · exact ⟨(((id hHeld).1.far (by dsimp only; omega) _).far (by dsimp only; omega) _), (((id hHeld).2.1.far (by dsimp only; omega) _).far (by dsimp only; omega) _), (((id hHeld).2.2.1.far (by dsimp only; omega) _).far (by dsimp only; omega) _), (((id hHeld).2.2.2.set (by dsimp only; omega) _).set (by dsimp only; omega) _)⟩
            replace HT := Lib.hid ((id hHeld2).2.2.2.far2 HT.out (by dsimp only; omega) (by dsimp only; omega))
            replace HN2 := Lib.hid (HN2.out.res HR.out (mrs) (.slice adrs nrs crs))
            replace HNr0 := Lib.hid (HNr0.out.res HR.out (mrs) (.slice adrs nrs crs))
            replace HNr1 := Lib.hid (HNr1.out.res HR.out (mrs) (.slice adrs nrs crs))
            replace HNr2 := Lib.hid (HNr2.out.res HR.out (mrs) (.slice adrs nrs crs))
            replace HNr3 := Lib.hid (HNr3.out.res HR.out (mrs) (.slice adrs nrs crs))
            replace HNrd := Lib.hid (HNrd.out.res HR.out (mrs) (.slice adrs nrs crs))
            replace HNrs := Lib.hid (HNrs.out.res HR.out (mrs) (.slice adrs nrs crs))
            replace HR := Lib.hid (HR.out.set2 (.bool mrs) (.slice adrs nrs crs))
            clear hK K hHeld k0 k1 f0 f1
            have hHeld := hHeld2
            clear hHeld2
            try simp only [Act.put, List.getElem_toArray, List.getElem_cons_succ, List.getElem_cons_zero, List.setIfInBounds_toArray, List.set_cons_zero, List.set_cons_succ]
            refine wpAnyH_done (by kernel_rfl) ?_ _
            go_wp2_with fail
            obtain ⟨k0, k1⟩ := HR.out.two
            rw [HE.out] at HNrs
            refine bodyPost_ret (v := .agg #[.bool mrs, .slice adrs nrs crs]) (by simp [results, Try.results35, go_sem, k0, k1]; done) rfl ⟨_, rfl, HNrs.out, (id hHeld).2.2.2.hb⟩
end Go.Proofs.Ytojfggnimmaemaa

/-
  Contract of the document's Orient.
-/
namespace Go.Proofs.Ytojfggnimmaemaa
open Go.RowKit

set_option maxHeartbeats 2000000 in
set_option maxRecDepth 100000 in
theorem refOrient_l (a b c : Pt) (w : World) : Calls Try.prog 20 #[.agg #[.int .i64 a.x, .int .i64 a.y], .agg #[.int .i64 b.x, .int .i64 b.y], .agg #[.int .i64 c.x, .int .i64 c.y]] w (Gives (.int .i64 (orientZ a b c)) w) := by
  have C1 := Lib.hid (fun W => refFits_l a W)
  have C2 := Lib.hid (fun W => refFits_l b W)
  have C3 := Lib.hid (fun W => refFits_l c W)
  have HZ : Hid (orientZ a b c = if fitB a && fitB b && fitB c then sg3 (crossZ a b c) else 0) := rfl
  have WA : Hid (fitB a = true → a.wf) := fun h => (fitB_iff.1 h).wf
  have WB : Hid (fitB b = true → b.wf) := fun h => (fitB_iff.1 h).wf
  have WC : Hid (fitB c = true → c.wf) := fun h => (fitB_iff.1 h).wf
  generalize fitB a = fa at *
  generalize fitB b = fb at *
  generalize fitB c = fc at *
  go_enter Try.func20, Try.ntmps20
  go_upto_region 1 with (fail)
  refine wp_abs (fun W => Var W w.heap.size [.int .i64 a.x, .int .i64 a.y] ∧ Var W (w.heap.size + 1) [.int .i64 b.x, .int .i64 b.y] ∧ Var W (w.heap.size + 1 + 1) [.int .i64 c.x, .int .i64 c.y] ∧ Grew w 3 W) ?_ ?_
  · exact ⟨(var2_new _ _ _ _ _ rfl).below (bl_alloc (bl_one _ _) _), (var2_new _ _ _ _ _ (by simp)).below (bl_one _ _), var2_new _ _ _ _ _ (by simp), by repeat (first | (with_reducible exact Below.refl _ _) | (with_reducible refine bl_alloc ?_ _) | (with_reducible refine Below.drew ?_) | (with_reducible refine below_drewN' ?_ _) | ((with_reducible refine bl_set ?_ ?_ _); (rotate_left; (dsimp only; omega)))), by simp⟩
  rintro W0 ⟨v1, v2, v3, hG⟩
  have HV := Lib.hid (And.intro v1 (And.intro v2 (And.intro v3 hG)))
  obtain ⟨c0, c1⟩ := v1.two
  obtain ⟨c2, c3⟩ := v2.two
  obtain ⟨c4, c5⟩ := v3.two
  clear v1 v2 v3 hG
  go_wp2_with fail
  (with_reducible refine (C1.out _).mono ?_); rintro e w1 ⟨rfl, hb1⟩
  replace HV := Lib.hid (And.intro (HV.out.1.below hb1) (And.intro (HV.out.2.1.below hb1) (And.intro (HV.out.2.2.1.below hb1) (HV.out.2.2.2.below hb1))))
  clear c0 c1 c2 c3 c4 c5 hb1
  obtain ⟨c0, c1⟩ := HV.out.1.two
  obtain ⟨c2, c3⟩ := HV.out.2.1.two
  obtain ⟨c4, c5⟩ := HV.out.2.2.1.two
  cases fa
  case false =>
    go_wp2
    go_ret
    exact ⟨by rw [HZ.out]; rfl, HV.out.2.2.2.hb⟩
  case true =>
  go_wp2_with fail
  (with_reducible refine (C2.out _).mono ?_); rintro e w1 ⟨rfl, hb1⟩
  replace HV := Lib.hid (And.intro (HV.out.1.below hb1) (And.intro (HV.out.2.1.below hb1) (And.intro (HV.out.2.2.1.below hb1) (HV.out.2.2.2.below hb1))))
  clear c0 c1 c2 c3 c4 c5 hb1
  obtain ⟨c0, c1⟩ := HV.out.1.two
  obtain ⟨c2, c3⟩ := HV.out.2.1.two
  obtain ⟨c4, c5⟩ := HV.out.2.2.1.two
  cases fb
  case false =>
    go_wp2
    go_ret
    exact ⟨by rw [HZ.out]; rfl, HV.out.2.2.2.hb⟩
  case true =>
  go_wp2_with fail
  (with_reducible refine (C3.out _).mono ?_); rintro e w1 ⟨rfl, hb1⟩
  replace HV := Lib.hid (And.intro (HV.out.1.below hb1) (And.intro (HV.out.2.1.below hb1) (And.intro (HV.out.2.2.1.below hb1) (HV.out.2.2.2.below hb1))))
  clear c0 c1 c2 c3 c4 c5 hb1
  obtain ⟨c0, c1⟩ := HV.out.1.two
  obtain ⟨c2, c3⟩ := HV.out.2.1.two
  obtain ⟨c4, c5⟩ := HV.out.2.2.1.two
  cases fc
  case false =>
    go_wp2
    go_ret
    exact ⟨by rw [HZ.out]; rfl, HV.out.2.2.2.hb⟩
  case true =>
  go_wp2_with fail
  (with_reducible refine (area_n a b c (WA.out (by first | rfl | trivial)) (WB.out (by first | rfl | trivial)) (WC.out (by first | rfl | trivial)) _).mono ?_)
  rintro e w1 ⟨v, rfl, hN, hb1⟩
  have HN := Lib.hid hN
  have HG := Lib.hid (HV.out.2.2.2.below hb1)
  clear c0 c1 c2 c3 c4 c5 hb1 hN HV
  go_wp2_with fail
  (with_reducible refine (sign_num v _ _ HN.out).mono ?_)
  rintro e w2 ⟨rfl, hb2⟩
  go_wp2
  go_ret
  exact ⟨by rw [HZ.out]; rfl, (HG.out.below hb2).hb⟩
end Go.Proofs.Ytojfggnimmaemaa
