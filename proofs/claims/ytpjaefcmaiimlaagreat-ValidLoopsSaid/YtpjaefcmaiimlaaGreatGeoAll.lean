/-
  Contract of pred.Fits: places in a slice.
-/
import Derived.Test.YtpjaefcmaiimlaaGreatGeoMath
import Derived.Test.YtpjaefcmaiimlaaGreatVars
import Derived.Test.YtpjaefcmaiimlaaGreatQuots
import Derived.Test.YtpjaefcmaiimlaaGreatLongs
import Derived.Test.YtpjaefcmaiimlaaGreatRefNums
set_option linter.unusedVariables false
set_option linter.unusedSimpArgs false
set_option linter.deprecated false
namespace Go.Proofs.YtpjaefcmaiimlaaGreat
open Go.RowKit

def pget (l : List Pt) (i : Nat) : Pt := l.getD i ⟨0, 0⟩
/-- places in a row, from an address on -/
def PtsAt (W : World) (g o : Nat) (l : List Pt) : Prop := ∀ i, i < l.length → W.cell? ⟨g, o + i * 2, none⟩ = some (.int .i64 (pget l i).x) ∧ W.cell? ⟨g, o + i * 2 + 1, none⟩ = some (.int .i64 (pget l i).y)
theorem PtsAt.below {W W' : World} {g o : Nat} {l : List Pt} (h : PtsAt W g o l) (hb : Below W.heap.size W W') : PtsAt W' g o l := fun i hi =>
  ⟨(hb.cell (p := ⟨g, _, none⟩) (cell_lt (h i hi).1)).trans (h i hi).1, (hb.cell (p := ⟨g, _, none⟩) (cell_lt (h i hi).1)).trans (h i hi).2⟩
def fitL (l : List Pt) : Bool := l.all fitB
theorem fitL_step (l : List Pt) (k : Nat) (h : k < l.length) : fitL (l.take (k + 1)) = (fitL (l.take k) && fitB (pget l k)) := by
  unfold fitL pget
  rw [List.take_succ_eq_append_getElem h, List.all_append]
  simp [List.getD_eq_getElem?_getD, List.getElem?_eq_getElem h]
theorem fitL_no (l : List Pt) (k : Nat) (h : k < l.length) (hf : fitB (pget l k) = false) : fitL l = false := by
  unfold fitL
  rw [List.all_eq_false]
  exact ⟨l[k], List.getElem_mem h, by
    have : pget l k = l[k] := by unfold pget; simp [List.getD_eq_getElem?_getD, List.getElem?_eq_getElem h]
    rw [← this, hf]; simp⟩
theorem fitB_no {p : Pt} (h : ¬ p.fits) : fitB p = false := by unfold fitB; simp [h]
theorem fitB_yes {p : Pt} (h : p.fits) : fitB p = true := fitB_iff.2 h

set_option maxHeartbeats 1000000 in
set_option maxRecDepth 100000 in
theorem fits_l (l : List Pt) (g o cap : Nat) (hbig : l.length ≤ 4611686018427387904) (w : World) (hl : PtsAt w g o l) :
    Calls Tryz.prog 82 #[.slice (some ⟨g, o, none⟩) l.length cap] w (Gives (.bool (fitL l)) w) := by
  have HL := hi hl
  clear hl
  go_enter Tryz.func82, Tryz.ntmps82
  go_wp2
  go_loopw [7] (fun kv W => ∃ k : Nat, k ≤ l.length ∧ kv = .int .i64 k ∧ fitL (l.take k) = true ∧ Grew w 0 W) (fun kv _ => l.length - (intOf kv).toNat)
  case atStart => exact ⟨0, by omega, rfl, rfl, by repeat (first | (with_reducible exact Below.refl _ _) | (with_reducible refine bl_alloc ?_ _) | (with_reducible refine Below.drew ?_) | (with_reducible refine below_drewN' ?_ _) | ((with_reducible refine bl_set ?_ ?_ _); (rotate_left; (dsimp only; omega)))), by simp⟩
  case round =>
    obtain ⟨k, hk, rfl, hf, hG⟩ := hrel
    have HF := hi hf
    have HG := hi hG
    clear hf hG
    by_cases hlt : k < l.length
    · obtain ⟨g0, g1⟩ := (HL.out.below HG.out.hb) k hlt
      have hst := hi (fitL_step l k hlt)
      have hno := hi (fitL_no l k hlt)
      generalize pget l k = q at *
      go_wp2
      all_goals
        first
          | (go_roundw
             case rel => exact ⟨k + 1, by omega, by go_num, by rw [hst.out, HF.out, fitB_yes (by unfold Pt.fits; omega)]; rfl, HG.out.new _⟩
             case measure => simp [intOf]; omega)
          | (go_ret
             exact ⟨by rw [hno.out (fitB_no (by unfold Pt.fits; omega))]; rfl, (HG.out.new _).hb⟩)
    · obtain rfl : k = l.length := by omega
      go_wp2
      go_ret
      exact ⟨by have := HF.out; rw [List.take_length] at this; rw [this]; rfl, HG.out.hb⟩
theorem pts1 (W : World) (a : Pt) (t : TypeId) : PtsAt (W.alloc (.cells #[.int .i64 a.x, .int .i64 a.y] t)) W.heap.size 0 [a] := by
  intro i hi
  have : i = 0 := by simp at hi; omega
  subst this
  constructor <;> simp [go_sem, pget]
theorem pts2 (W : World) (a b : Pt) (t : TypeId) : PtsAt (W.alloc (.cells #[.int .i64 a.x, .int .i64 a.y, .int .i64 b.x, .int .i64 b.y] t)) W.heap.size 0 [a, b] := by
  intro i hi
  have : i = 0 ∨ i = 1 := by simp at hi; omega
  rcases this with rfl | rfl <;> constructor <;> simp [go_sem, pget]
theorem pts3 (W : World) (a b c : Pt) (t : TypeId) : PtsAt (W.alloc (.cells #[.int .i64 a.x, .int .i64 a.y, .int .i64 b.x, .int .i64 b.y, .int .i64 c.x, .int .i64 c.y] t)) W.heap.size 0 [a, b, c] := by
  intro i hi
  have : i = 0 ∨ i = 1 ∨ i = 2 := by simp at hi; omega
  rcases this with rfl | rfl | rfl <;> constructor <;> simp [go_sem, pget]
/-- Fits of places just laid out -/
theorem fits1 (W : World) (a : Pt) (t : TypeId) (r : Bool) (h : fitB a = r) : Calls Tryz.prog 82 #[.slice (some ⟨W.heap.size, 0, none⟩) 1 1] (W.alloc (.cells #[.int .i64 a.x, .int .i64 a.y] t)) (Gives (.bool r) (W.alloc (.cells #[.int .i64 a.x, .int .i64 a.y] t))) := by
  have := fits_l [a] W.heap.size 0 1 (by simp) _ (pts1 W a t)
  simpa [fitL, h] using this
theorem fits2 (W : World) (a b : Pt) (t : TypeId) (r : Bool) (h : (fitB a && fitB b) = r) : Calls Tryz.prog 82 #[.slice (some ⟨W.heap.size, 0, none⟩) 2 2] (W.alloc (.cells #[.int .i64 a.x, .int .i64 a.y, .int .i64 b.x, .int .i64 b.y] t)) (Gives (.bool r) (W.alloc (.cells #[.int .i64 a.x, .int .i64 a.y, .int .i64 b.x, .int .i64 b.y] t))) := by
  have := fits_l [a, b] W.heap.size 0 2 (by simp) _ (pts2 W a b t)
  rw [show fitL [a, b] = r by rw [← h]; simp [fitL]] at this
  exact this
theorem fits3 (W : World) (a b c : Pt) (t : TypeId) (r : Bool) (h : (fitB a && fitB b && fitB c) = r) : Calls Tryz.prog 82 #[.slice (some ⟨W.heap.size, 0, none⟩) 3 3] (W.alloc (.cells #[.int .i64 a.x, .int .i64 a.y, .int .i64 b.x, .int .i64 b.y, .int .i64 c.x, .int .i64 c.y] t)) (Gives (.bool r) (W.alloc (.cells #[.int .i64 a.x, .int .i64 a.y, .int .i64 b.x, .int .i64 b.y, .int .i64 c.x, .int .i64 c.y] t))) := by
  have := fits_l [a, b, c] W.heap.size 0 3 (by simp) _ (pts3 W a b c t)
  rw [show fitL [a, b, c] = r by rw [← h]; simp [fitL, Bool.and_assoc]] at this
  exact this
end Go.Proofs.YtpjaefcmaiimlaaGreat

/-
  Contracts of pred's way, cross, dot, square.
-/
namespace Go.Proofs.YtpjaefcmaiimlaaGreat
open Go.RowKit

set_option maxHeartbeats 1000000 in
set_option maxRecDepth 100000 in
theorem way_l (ax ay bx b_y : Int) (hx : R64 (bx - ax)) (hy : R64 (b_y - ay)) (w : World) : Calls Tryz.prog 106 #[.agg #[.int .i64 ax, .int .i64 ay], .agg #[.int .i64 bx, .int .i64 b_y]] w (Gives (.agg #[.int .i64 (bx - ax), .int .i64 (b_y - ay)]) w) := by
  unfold R64 at hx hy
  go_enter Tryz.func106, Tryz.ntmps106
  go_wp2
  refine bodyPost_ret (v := .agg #[.int .i64 (bx - ax), .int .i64 (b_y - ay)]) (by simp [results, Tryz.results106, go_sem]; done) rfl ⟨rfl, by repeat (first | (with_reducible exact Below.refl _ _) | (with_reducible refine bl_alloc ?_ _) | (with_reducible refine Below.drew ?_) | (with_reducible refine below_drewN' ?_ _) | ((with_reducible refine bl_set ?_ ?_ _); (rotate_left; (dsimp only; omega))))⟩

set_option maxHeartbeats 1000000 in
set_option maxRecDepth 100000 in
theorem cross_l (ux uy vx vy : Int) (h1 : R64 ux) (h2 : R64 uy) (h3 : R64 vx) (h4 : R64 vy) (w : World) : Calls Tryz.prog 105 #[.agg #[.int .i64 ux, .int .i64 uy], .agg #[.int .i64 vx, .int .i64 vy]] w (Gives (.agg #[.int .u64 (LH (ux * vy - uy * vx)), .int .u64 (LL (ux * vy - uy * vx))]) w) := by
  have T1 := hi h1
  have T2 := hi h2
  have T3 := hi h3
  have T4 := hi h4
  clear h1 h2 h3 h4
  go_enter Tryz.func105, Tryz.ntmps105
  go_upto_region 1 with (fail)
  refine wp_abs (fun W => Var W (w.heap.size) [.int .i64 ux, .int .i64 uy] ∧ Var W (w.heap.size + 1) [.int .i64 vx, .int .i64 vy] ∧ Slot2 W (w.heap.size + 2) ∧ Grew w 3 W) ?_ ?_
  · exact ⟨(var2_new _ _ _ _ _ rfl).below (bl_alloc (bl_one _ _) _), (var2_new _ _ _ _ _ (by simp)).below (bl_one _ _), ⟨_, _, var2_new _ _ _ _ _ (by simp)⟩, by repeat (first | (with_reducible exact Below.refl _ _) | (with_reducible refine bl_alloc ?_ _) | (with_reducible refine Below.drew ?_) | (with_reducible refine below_drewN' ?_ _) | ((with_reducible refine bl_set ?_ ?_ _); (rotate_left; (dsimp only; omega)))), by simp⟩
  rintro W0 hS0
  have HS0 := hi hS0
  clear hS0
  refine wp_region_held_drew (S := fun W => Var W (w.heap.size) [.int .i64 ux, .int .i64 uy] ∧ Var W (w.heap.size + 1) [.int .i64 vx, .int .i64 vy] ∧ Slot2 W (w.heap.size + 2) ∧ Grew w 3 W) (by kernel_rfl) ?_ (fun q1 => ?_)
  · exact ⟨HS0.out.1.below (bel_drew _), HS0.out.2.1.below (bel_drew _), HS0.out.2.2.1.below (bel_drew _), HS0.out.2.2.2.below (bel_drew _)⟩
  refine tk (i := 0) (v := ?_) rfl (Or.inl ⟨by rfl, ?_⟩) ?_
  rotate_left
  · intro Wq hSw
    clear hSw
    go_simp
    all_goals (with_reducible rfl)
  try simp only [Act.put, x2, x4, x5, x6, x7]
  refine tk (i := 1) (v := ?_) rfl (Or.inl ⟨by rfl, ?_⟩) ?_
  rotate_left
  · intro Wq hSw
    obtain ⟨k0, k1⟩ := (id hSw).1.two
    clear hSw
    go_simp
    all_goals (with_reducible rfl)
  try simp only [Act.put, x2, x3, x4, x5, x6, x7]
  refine tk (i := 2) (v := ?_) rfl (Or.inl ⟨by rfl, ?_⟩) ?_
  rotate_left
  · intro Wq hSw
    clear hSw
    go_simp
    all_goals (with_reducible rfl)
  try simp only [Act.put, x2, x3, x4, x5, x6, x7]
  refine tk (i := 3) (v := ?_) rfl (Or.inl ⟨by rfl, ?_⟩) ?_
  rotate_left
  · intro Wq hSw
    obtain ⟨k0, k1⟩ := (id hSw).2.1.two
    clear hSw
    go_simp
    all_goals (with_reducible rfl)
  try simp only [Act.put, x2, x3, x4, x5, x6, x7]
  refine tk (i := 5) (v := ?_) rfl (Or.inl ⟨by rfl, ?_⟩) ?_
  rotate_left
  · intro Wq hSw
    clear hSw
    go_simp
    all_goals (with_reducible rfl)
  try simp only [Act.put, x2, x3, x4, x5, x6, x7]
  refine tk (i := 6) (v := ?_) rfl (Or.inl ⟨by rfl, ?_⟩) ?_
  rotate_left
  · intro Wq hSw
    obtain ⟨k0, k1⟩ := (id hSw).1.two
    clear hSw
    go_simp
    all_goals (with_reducible rfl)
  try simp only [Act.put, x2, x3, x4, x5, x6, x7]
  refine tk (i := 7) (v := ?_) rfl (Or.inl ⟨by rfl, ?_⟩) ?_
  rotate_left
  · intro Wq hSw
    clear hSw
    go_simp
    all_goals (with_reducible rfl)
  try simp only [Act.put, x2, x3, x4, x5, x6, x7]
  refine tk (i := 8) (v := ?_) rfl (Or.inl ⟨by rfl, ?_⟩) ?_
  rotate_left
  · intro Wq hSw
    obtain ⟨k0, k1⟩ := (id hSw).2.1.two
    clear hSw
    go_simp
    all_goals (with_reducible rfl)
  try simp only [Act.put, x2, x3, x4, x5, x6, x7]
  refine r1 (i := 4) rfl (fun K hK => ?_)
  go_simp
  go_at_call 120
  (with_reducible refine (times_r _ _ T1.out T4.out _).mono ?_); rintro e w1 ⟨rfl, hb1⟩
  go_wp2_with fail
  refine hK.out _ _ ?_ (fun q2 => ?_)
  · exact ⟨(id q1).1.below hb1, (id q1).2.1.below hb1, (id q1).2.2.1.below hb1, (id q1).2.2.2.below hb1⟩
  clear hK K q1
  have q1 := q2
  clear q2
  try simp only [Act.put, x2, x3, x4, x5, x6, x7]
  try clear hb1
  refine r1 (i := 9) rfl (fun K hK => ?_)
  go_simp
  go_at_call 120
  (with_reducible refine (times_r _ _ T2.out T3.out _).mono ?_); rintro e w1 ⟨rfl, hb1⟩
  go_wp2_with fail
  refine hK.out _ _ ?_ (fun q2 => ?_)
  · exact ⟨(id q1).1.below hb1, (id q1).2.1.below hb1, (id q1).2.2.1.below hb1, (id q1).2.2.2.below hb1⟩
  clear hK K q1
  have q1 := q2
  clear q2
  try simp only [Act.put, x2, x3, x4, x5, x6, x7]
  try clear hb1
  refine r1 (i := 10) rfl (fun K hK => ?_)
  go_simp
  go_at_call 121
  (with_reducible refine (minus_l _ _ _).mono ?_); rintro e w1 ⟨rfl, hb1⟩
  go_wp2_with fail
  refine hK.out _ _ ?_ (fun q2 => ?_)
  · exact ⟨(id q1).1.below hb1, (id q1).2.1.below hb1, (id q1).2.2.1.below hb1, (id q1).2.2.2.below hb1⟩
  clear hK K q1
  have q1 := q2
  clear q2
  try simp only [Act.put, x2, x3, x4, x5, x6, x7]
  try clear hb1
  refine r1 (i := 11) rfl (fun K hK => ?_)
  obtain ⟨_, _, vr⟩ := (id q1).2.2.1
  obtain ⟨k0, k1⟩ := vr.two
  obtain ⟨f0, f1⟩ := vr.free2
  go_simp
  refine hK.out _ _ ?_ (fun q2 => ?_)
  · exact ⟨(((id q1).1.far (by dsimp only; omega) _).far (by dsimp only; omega) _), (((id q1).2.1.far (by dsimp only; omega) _).far (by dsimp only; omega) _), ⟨_, _, vr.set2 _ _⟩, (((id q1).2.2.2.set (by dsimp only; omega) _).set (by dsimp only; omega) _)⟩
  clear hK K q1
  have q1 := q2
  clear q2
  try simp only [Act.put, x2, x3, x4, x5, x6, x7]
  refine wpAnyH_done (by kernel_rfl) ?_ _
  go_wp2_with fail
  refine bodyPost_ret (v := (.agg #[.int .u64 (LH (ux * vy - uy * vx)), .int .u64 (LL (ux * vy - uy * vx))])) (by simp [results, Tryz.results105, go_sem, k0, k1]; done) rfl ⟨rfl, (id q1).2.2.2.hb⟩

set_option maxHeartbeats 1000000 in
set_option maxRecDepth 100000 in
theorem dot_l (ux uy vx vy : Int) (h1 : R64 ux) (h2 : R64 uy) (h3 : R64 vx) (h4 : R64 vy) (w : World) : Calls Tryz.prog 108 #[.agg #[.int .i64 ux, .int .i64 uy], .agg #[.int .i64 vx, .int .i64 vy]] w (Gives (.agg #[.int .u64 (LH (ux * vx + uy * vy)), .int .u64 (LL (ux * vx + uy * vy))]) w) := by
  have T1 := hi h1
  have T2 := hi h2
  have T3 := hi h3
  have T4 := hi h4
  clear h1 h2 h3 h4
  go_enter Tryz.func108, Tryz.ntmps108
  go_upto_region 1 with (fail)
  refine wp_abs (fun W => Var W (w.heap.size) [.int .i64 ux, .int .i64 uy] ∧ Var W (w.heap.size + 1) [.int .i64 vx, .int .i64 vy] ∧ Slot2 W (w.heap.size + 2) ∧ Grew w 3 W) ?_ ?_
  · exact ⟨(var2_new _ _ _ _ _ rfl).below (bl_alloc (bl_one _ _) _), (var2_new _ _ _ _ _ (by simp)).below (bl_one _ _), ⟨_, _, var2_new _ _ _ _ _ (by simp)⟩, by repeat (first | (with_reducible exact Below.refl _ _) | (with_reducible refine bl_alloc ?_ _) | (with_reducible refine Below.drew ?_) | (with_reducible refine below_drewN' ?_ _) | ((with_reducible refine bl_set ?_ ?_ _); (rotate_left; (dsimp only; omega)))), by simp⟩
  rintro W0 hS0
  have HS0 := hi hS0
  clear hS0
  refine wp_region_held_drew (S := fun W => Var W (w.heap.size) [.int .i64 ux, .int .i64 uy] ∧ Var W (w.heap.size + 1) [.int .i64 vx, .int .i64 vy] ∧ Slot2 W (w.heap.size + 2) ∧ Grew w 3 W) (by kernel_rfl) ?_ (fun q1 => ?_)
  · exact ⟨HS0.out.1.below (bel_drew _), HS0.out.2.1.below (bel_drew _), HS0.out.2.2.1.below (bel_drew _), HS0.out.2.2.2.below (bel_drew _)⟩
  refine tk (i := 0) (v := ?_) rfl (Or.inl ⟨by rfl, ?_⟩) ?_
  rotate_left
  · intro Wq hSw
    clear hSw
    go_simp
    all_goals (with_reducible rfl)
  try simp only [Act.put, x2, x4, x5, x6, x7]
  refine tk (i := 1) (v := ?_) rfl (Or.inl ⟨by rfl, ?_⟩) ?_
  rotate_left
  · intro Wq hSw
    obtain ⟨k0, k1⟩ := (id hSw).1.two
    clear hSw
    go_simp
    all_goals (with_reducible rfl)
  try simp only [Act.put, x2, x3, x4, x5, x6, x7]
  refine tk (i := 2) (v := ?_) rfl (Or.inl ⟨by rfl, ?_⟩) ?_
  rotate_left
  · intro Wq hSw
    clear hSw
    go_simp
    all_goals (with_reducible rfl)
  try simp only [Act.put, x2, x3, x4, x5, x6, x7]
  refine tk (i := 3) (v := ?_) rfl (Or.inl ⟨by rfl, ?_⟩) ?_
  rotate_left
  · intro Wq hSw
    obtain ⟨k0, k1⟩ := (id hSw).2.1.two
    clear hSw
    go_simp
    all_goals (with_reducible rfl)
  try simp only [Act.put, x2, x3, x4, x5, x6, x7]
  refine tk (i := 5) (v := ?_) rfl (Or.inl ⟨by rfl, ?_⟩) ?_
  rotate_left
  · intro Wq hSw
    clear hSw
    go_simp
    all_goals (with_reducible rfl)
  try simp only [Act.put, x2, x3, x4, x5, x6, x7]
  refine tk (i := 6) (v := ?_) rfl (Or.inl ⟨by rfl, ?_⟩) ?_
  rotate_left
  · intro Wq hSw
    obtain ⟨k0, k1⟩ := (id hSw).1.two
    clear hSw
    go_simp
    all_goals (with_reducible rfl)
  try simp only [Act.put, x2, x3, x4, x5, x6, x7]
  refine tk (i := 7) (v := ?_) rfl (Or.inl ⟨by rfl, ?_⟩) ?_
  rotate_left
  · intro Wq hSw
    clear hSw
    go_simp
    all_goals (with_reducible rfl)
  try simp only [Act.put, x2, x3, x4, x5, x6, x7]
  refine tk (i := 8) (v := ?_) rfl (Or.inl ⟨by rfl, ?_⟩) ?_
  rotate_left
  · intro Wq hSw
    obtain ⟨k0, k1⟩ := (id hSw).2.1.two
    clear hSw
    go_simp
    all_goals (with_reducible rfl)
  try simp only [Act.put, x2, x3, x4, x5, x6, x7]
  refine r1 (i := 4) rfl (fun K hK => ?_)
  go_simp
  go_at_call 120
  (with_reducible refine (times_r _ _ T1.out T3.out _).mono ?_); rintro e w1 ⟨rfl, hb1⟩
  go_wp2_with fail
  refine hK.out _ _ ?_ (fun q2 => ?_)
  · exact ⟨(id q1).1.below hb1, (id q1).2.1.below hb1, (id q1).2.2.1.below hb1, (id q1).2.2.2.below hb1⟩
  clear hK K q1
  have q1 := q2
  clear q2
  try simp only [Act.put, x2, x3, x4, x5, x6, x7]
  try clear hb1
  refine r1 (i := 9) rfl (fun K hK => ?_)
  go_simp
  go_at_call 120
  (with_reducible refine (times_r _ _ T2.out T4.out _).mono ?_); rintro e w1 ⟨rfl, hb1⟩
  go_wp2_with fail
  refine hK.out _ _ ?_ (fun q2 => ?_)
  · exact ⟨(id q1).1.below hb1, (id q1).2.1.below hb1, (id q1).2.2.1.below hb1, (id q1).2.2.2.below hb1⟩
  clear hK K q1
  have q1 := q2
  clear q2
  try simp only [Act.put, x2, x3, x4, x5, x6, x7]
  try clear hb1
  refine r1 (i := 10) rfl (fun K hK => ?_)
  go_simp
  go_at_call 122
  (with_reducible refine (plus_l _ _ _).mono ?_); rintro e w1 ⟨rfl, hb1⟩
  go_wp2_with fail
  refine hK.out _ _ ?_ (fun q2 => ?_)
  · exact ⟨(id q1).1.below hb1, (id q1).2.1.below hb1, (id q1).2.2.1.below hb1, (id q1).2.2.2.below hb1⟩
  clear hK K q1
  have q1 := q2
  clear q2
  try simp only [Act.put, x2, x3, x4, x5, x6, x7]
  try clear hb1
  refine r1 (i := 11) rfl (fun K hK => ?_)
  obtain ⟨_, _, vr⟩ := (id q1).2.2.1
  obtain ⟨k0, k1⟩ := vr.two
  obtain ⟨f0, f1⟩ := vr.free2
  go_simp
  refine hK.out _ _ ?_ (fun q2 => ?_)
  · exact ⟨(((id q1).1.far (by dsimp only; omega) _).far (by dsimp only; omega) _), (((id q1).2.1.far (by dsimp only; omega) _).far (by dsimp only; omega) _), ⟨_, _, vr.set2 _ _⟩, (((id q1).2.2.2.set (by dsimp only; omega) _).set (by dsimp only; omega) _)⟩
  clear hK K q1
  have q1 := q2
  clear q2
  try simp only [Act.put, x2, x3, x4, x5, x6, x7]
  refine wpAnyH_done (by kernel_rfl) ?_ _
  go_wp2_with fail
  refine bodyPost_ret (v := (.agg #[.int .u64 (LH (ux * vx + uy * vy)), .int .u64 (LL (ux * vx + uy * vy))])) (by simp [results, Tryz.results108, go_sem, k0, k1]; done) rfl ⟨rfl, (id q1).2.2.2.hb⟩

end Go.Proofs.YtpjaefcmaiimlaaGreat

/-
  Contracts of pred's Orient, InDisc.
-/
namespace Go.Proofs.YtpjaefcmaiimlaaGreat
open Go.RowKit

theorem dif_ab {p q : Pt} (hp : fitB p = true) (hq : fitB q = true) : Ab (q.x - p.x) 8589934592 ∧ Ab (q.y - p.y) 8589934592 := by
  rw [fitB_iff] at hp hq
  unfold Pt.fits at hp hq
  unfold Ab
  omega
theorem dif_r {p q : Pt} (hp : fitB p = true) (hq : fitB q = true) : R64 (q.x - p.x) ∧ R64 (q.y - p.y) := by
  have h := dif_ab hp hq
  exact ⟨h.1.r64 (by decide), h.2.r64 (by decide)⟩
theorem cross_b {a b c : Pt} (ha : fitB a = true) (hb : fitB b = true) (hc : fitB c = true) : Ab (crossZ a b c) 147573952589676412928 := by
  have h := dif_ab ha hb
  have k := dif_ab ha hc
  exact ((h.1.mul k.2).sub (h.2.mul k.1)).le (by decide)
theorem dot_b {a b p : Pt} (ha : fitB a = true) (hb : fitB b = true) (hp : fitB p = true) : Ab (dotZ a b p) 147573952589676412928 := by
  have h := dif_ab hp ha
  have k := dif_ab hp hb
  exact ((h.1.mul k.1).add (h.2.mul k.2)).le (by decide)
theorem and3 {a b c : Bool} (h : (a && b && c) = true) : a = true ∧ b = true ∧ c = true := by cases a <;> cases b <;> cases c <;> simp_all
/-- '== api.Point' -/
theorem eqPt (a b : Pt) (w : World) : (Op.equalIn 10000 64 (.agg #[.int .i64 a.x, .int .i64 a.y]) (.agg #[.int .i64 b.x, .int .i64 b.y])).run Tryz.prog w = .ok (decide (a = b)) w := by
  have hS : Tryz.prog.underlying 64 = some (.struct (Tryz.prog.fieldsOf 64)) := by kernel_rfl
  have hp : Tryz.prog.stoodInHeld 64 = false := by kernel_rfl
  have u4 := Tryz.underlying3
  rw [show (10000 : Nat) = 9999 + 1 from rfl, run_equalIn_agg w 9999 64 _ _ hS hp]
  simp only [Program.fieldsOf, Tryz.underlying64]
  go_simp
  have e : (a = b) ↔ (a.x = b.x ∧ a.y = b.y) := ⟨fun h => by rw [h]; exact ⟨rfl, rfl⟩, fun h => Pt.ext' h.1 h.2⟩
  by_cases h1 : a.x = b.x <;> by_cases h2 : a.y = b.y <;> simp [h1, h2, e]

set_option maxHeartbeats 4000000 in
set_option maxRecDepth 100000 in
theorem orient_l (a b c : Pt) (w : World) : Calls Tryz.prog 79 #[.agg #[.int .i64 a.x, .int .i64 a.y], .agg #[.int .i64 b.x, .int .i64 b.y], .agg #[.int .i64 c.x, .int .i64 c.y]] w (Gives (.int .i64 (orientZ a b c)) w) := by
  obtain ⟨r, hr⟩ : ∃ r, (fitB a && fitB b && fitB c) = r := ⟨_, rfl⟩
  have HR := hi hr
  have HZ : Hid (orientZ a b c = if r then sg3 (crossZ a b c) else 0) := by unfold orientZ; rw [hr]; exact rfl
  clear hr
  go_enter Tryz.func79, Tryz.ntmps79
  go_upto_region 1 with (fail)
  refine wp_abs (fun W => Var W (w.heap.size) [.int .i64 a.x, .int .i64 a.y] ∧ Var W (w.heap.size + 1) [.int .i64 b.x, .int .i64 b.y] ∧ Var W (w.heap.size + 2) [.int .i64 c.x, .int .i64 c.y] ∧ Grew w 3 W) ?_ ?_
  · exact ⟨(var2_new _ _ _ _ _ rfl).below (bl_alloc (bl_one _ _) _), (var2_new _ _ _ _ _ (by simp)).below (bl_one _ _), var2_new _ _ _ _ _ (by simp), by repeat (first | (with_reducible exact Below.refl _ _) | (with_reducible refine bl_alloc ?_ _) | (with_reducible refine Below.drew ?_) | (with_reducible refine below_drewN' ?_ _) | ((with_reducible refine bl_set ?_ ?_ _); (rotate_left; (dsimp only; omega)))), by simp⟩
  rintro W0 hS0
  have HS0 := hi hS0
  obtain ⟨c0, c1⟩ := hS0.1.two
  obtain ⟨c2, c3⟩ := hS0.2.1.two
  obtain ⟨c4, c5⟩ := hS0.2.2.1.two
  clear hS0
  go_wp2_with fail
  refine (fits3 _ a b c _ r HR.out).mono ?_
  rintro e w1 ⟨rfl, hb1⟩
  replace HS0 : Hid ((fun W => Var W (w.heap.size) [.int .i64 a.x, .int .i64 a.y] ∧ Var W (w.heap.size + 1) [.int .i64 b.x, .int .i64 b.y] ∧ Var W (w.heap.size + 2) [.int .i64 c.x, .int .i64 c.y] ∧ Grew w 3 W) w1) := ⟨HS0.out.1.below (bl_trans (bl_one _ _) hb1), HS0.out.2.1.below (bl_trans (bl_one _ _) hb1), HS0.out.2.2.1.below (bl_trans (bl_one _ _) hb1), HS0.out.2.2.2.below (bl_trans (bl_one _ _) hb1)⟩
  clear c0 c1 c2 c3 c4 c5 hb1
  obtain ⟨c0, c1⟩ := HS0.out.1.two
  obtain ⟨c2, c3⟩ := HS0.out.2.1.two
  obtain ⟨c4, c5⟩ := HS0.out.2.2.1.two
  cases r
  · go_wp2
    go_ret
    exact ⟨by rw [HZ.out]; rfl, HS0.out.2.2.2.hb⟩
  · obtain ⟨ha, hb, hc⟩ := and3 HR.out
    have D1 := hi (dif_r ha hb)
    have D2 := hi (dif_r ha hc)
    have CB : Hid (B127 ((b.x - a.x) * (c.y - a.y) - (b.y - a.y) * (c.x - a.x))) := (cross_b ha hb hc).b127 (by decide)
    clear ha hb hc c0 c1 c2 c3 c4 c5
    go_upto_region 3 with (fail)
    refine wp_region_held_drew (S := fun W => Var W (w.heap.size) [.int .i64 a.x, .int .i64 a.y] ∧ Var W (w.heap.size + 1) [.int .i64 b.x, .int .i64 b.y] ∧ Var W (w.heap.size + 2) [.int .i64 c.x, .int .i64 c.y] ∧ Grew w 3 W) (by kernel_rfl) ?_ (fun q1 => ?_)
    · exact ⟨HS0.out.1.below (bel_drew _), HS0.out.2.1.below (bel_drew _), HS0.out.2.2.1.below (bel_drew _), HS0.out.2.2.2.below (bel_drew _)⟩
    revert q1
    generalize World.drew _ = W1
    intro q1 
    refine tk (i := 0) (v := ?_) rfl (Or.inl ⟨by rfl, ?_⟩) ?_
    rotate_left
    · intro Wq hSw
      obtain ⟨k0, k1⟩ := (id hSw).1.two
      clear hSw
      go_simp
      all_goals (with_reducible rfl)
    try simp only [Act.put, x2, x4, x5, x6, x7]
    refine tk (i := 1) (v := ?_) rfl (Or.inl ⟨by rfl, ?_⟩) ?_
    rotate_left
    · intro Wq hSw
      obtain ⟨k0, k1⟩ := (id hSw).2.1.two
      clear hSw
      go_simp
      all_goals (with_reducible rfl)
    try simp only [Act.put, x2, x3, x4, x5, x6, x7]
    refine tk (i := 3) (v := ?_) rfl (Or.inl ⟨by rfl, ?_⟩) ?_
    rotate_left
    · intro Wq hSw
      obtain ⟨k0, k1⟩ := (id hSw).1.two
      clear hSw
      go_simp
      all_goals (with_reducible rfl)
    try simp only [Act.put, x2, x3, x4, x5, x6, x7]
    refine tk (i := 4) (v := ?_) rfl (Or.inl ⟨by rfl, ?_⟩) ?_
    rotate_left
    · intro Wq hSw
      obtain ⟨k0, k1⟩ := (id hSw).2.2.1.two
      clear hSw
      go_simp
      all_goals (with_reducible rfl)
    try simp only [Act.put, x2, x3, x4, x5, x6, x7]
    refine r1 (i := 2) rfl (fun K hK => ?_)
    go_simp
    go_at_call 106
    (with_reducible refine (way_l _ _ _ _ D1.out.1 D1.out.2 _).mono ?_); rintro e w1 ⟨rfl, hb1⟩
    go_wp2_with fail
    refine hK.out _ _ ?_ (fun q2 => ?_)
    · exact ⟨(id q1).1.below hb1, (id q1).2.1.below hb1, (id q1).2.2.1.below hb1, (id q1).2.2.2.below hb1⟩
    clear hK K q1 hb1
    have q1 := q2
    clear q2
    try simp only [Act.put, x2, x3, x4, x5, x6, x7]
    refine r1 (i := 5) rfl (fun K hK => ?_)
    go_simp
    go_at_call 106
    (with_reducible refine (way_l _ _ _ _ D2.out.1 D2.out.2 _).mono ?_); rintro e w1 ⟨rfl, hb1⟩
    go_wp2_with fail
    refine hK.out _ _ ?_ (fun q2 => ?_)
    · exact ⟨(id q1).1.below hb1, (id q1).2.1.below hb1, (id q1).2.2.1.below hb1, (id q1).2.2.2.below hb1⟩
    clear hK K q1 hb1
    have q1 := q2
    clear q2
    try simp only [Act.put, x2, x3, x4, x5, x6, x7]
    refine r1 (i := 6) rfl (fun K hK => ?_)
    go_simp
    go_at_call 105
    (with_reducible refine (cross_l _ _ _ _ D1.out.1 D1.out.2 D2.out.1 D2.out.2 _).mono ?_); rintro e w1 ⟨rfl, hb1⟩
    go_wp2_with fail
    refine hK.out _ _ ?_ (fun q2 => ?_)
    · exact ⟨(id q1).1.below hb1, (id q1).2.1.below hb1, (id q1).2.2.1.below hb1, (id q1).2.2.2.below hb1⟩
    clear hK K q1 hb1
    have q1 := q2
    clear q2
    try simp only [Act.put, x2, x3, x4, x5, x6, x7]
    refine r1 (i := 7) rfl (fun K hK => ?_)
    go_simp
    go_at_call 107
    (with_reducible refine (sign_l _ CB.out _).mono ?_); rintro e w1 ⟨rfl, hb1⟩
    go_wp2_with fail
    refine hK.out _ _ ?_ (fun q2 => ?_)
    · exact ⟨(id q1).1.below hb1, (id q1).2.1.below hb1, (id q1).2.2.1.below hb1, (id q1).2.2.2.below hb1⟩
    clear hK K q1 hb1
    have q1 := q2
    clear q2
    try simp only [Act.put, x2, x3, x4, x5, x6, x7]
    refine tk (i := 8) (v := ?_) rfl (Or.inl ⟨by rfl, ?_⟩) ?_
    rotate_left
    · intro Wq hSw
      clear hSw
      go_simp
      all_goals (with_reducible rfl)
    try simp only [Act.put, x2, x3, x4, x5, x6, x7]
    refine wpAnyH_done (by kernel_rfl) ?_ _
    go_wp2_with fail
    go_ret
    exact ⟨by rw [HZ.out]; rfl, (id q1).2.2.2.hb⟩

theorem or3 {r e1 e2 : Bool} (h : (!r || e1 || e2) = true) : r = false ∨ (r = true ∧ e1 = true) ∨ (r = true ∧ e1 = false ∧ e2 = true) := by cases r <;> cases e1 <;> cases e2 <;> simp_all
set_option maxHeartbeats 4000000 in
set_option maxRecDepth 100000 in
theorem inDisc_l (a b c : Pt) (w : World) : Calls Tryz.prog 80 #[.agg #[.int .i64 a.x, .int .i64 a.y], .agg #[.int .i64 b.x, .int .i64 b.y], .agg #[.int .i64 c.x, .int .i64 c.y]] w (Gives (.bool (discB a b c)) w) := by
  obtain ⟨r, hr⟩ : ∃ r, (fitB a && fitB b && fitB c) = r := ⟨_, rfl⟩
  have HR := hi hr
  obtain ⟨e1, he1⟩ : ∃ e, decide (c = a) = e := ⟨_, rfl⟩
  obtain ⟨e2, he2⟩ : ∃ e, decide (c = b) = e := ⟨_, rfl⟩
  have HZ : Hid (discB a b c = (r && !e1 && !e2 && decide (dotZ a b c ≤ 0))) := by unfold discB; rw [hr, he1, he2]; exact rfl
  have q1 := eqPt c a
  have q2 := eqPt c b
  rw [he1] at q1
  rw [he2] at q2
  have HE1 := hi he1
  have HE2 := hi he2
  clear hr he1 he2
  go_enter Tryz.func80, Tryz.ntmps80
  go_upto_region 1 with (fail)
  refine wp_abs (fun W => Var W (w.heap.size) [.int .i64 a.x, .int .i64 a.y] ∧ Var W (w.heap.size + 1) [.int .i64 b.x, .int .i64 b.y] ∧ Var W (w.heap.size + 2) [.int .i64 c.x, .int .i64 c.y] ∧ Grew w 3 W) ?_ ?_
  · exact ⟨(var2_new _ _ _ _ _ rfl).below (bl_alloc (bl_one _ _) _), (var2_new _ _ _ _ _ (by simp)).below (bl_one _ _), var2_new _ _ _ _ _ (by simp), by repeat (first | (with_reducible exact Below.refl _ _) | (with_reducible refine bl_alloc ?_ _) | (with_reducible refine Below.drew ?_) | (with_reducible refine below_drewN' ?_ _) | ((with_reducible refine bl_set ?_ ?_ _); (rotate_left; (dsimp only; omega)))), by simp⟩
  rintro W0 hS0
  have HS0 := hi hS0
  obtain ⟨c0, c1⟩ := hS0.1.two
  obtain ⟨c2, c3⟩ := hS0.2.1.two
  obtain ⟨c4, c5⟩ := hS0.2.2.1.two
  clear hS0
  go_cut [22] (fun bv W => bv = .bool (!r || e1 || e2) ∧ (fun W => Var W (w.heap.size) [.int .i64 a.x, .int .i64 a.y] ∧ Var W (w.heap.size + 1) [.int .i64 b.x, .int .i64 b.y] ∧ Var W (w.heap.size + 2) [.int .i64 c.x, .int .i64 c.y] ∧ Grew w 3 W) W)
  case first =>
    go_wp2_with fail
    refine (fits3 _ a b c _ r HR.out).mono ?_
    rintro e w1 ⟨rfl, hb1⟩
    have HS1 : Hid ((fun W => Var W (w.heap.size) [.int .i64 a.x, .int .i64 a.y] ∧ Var W (w.heap.size + 1) [.int .i64 b.x, .int .i64 b.y] ∧ Var W (w.heap.size + 2) [.int .i64 c.x, .int .i64 c.y] ∧ Grew w 3 W) w1) := ⟨HS0.out.1.below (bl_trans (bl_one _ _) hb1), HS0.out.2.1.below (bl_trans (bl_one _ _) hb1), HS0.out.2.2.1.below (bl_trans (bl_one _ _) hb1), HS0.out.2.2.2.below (bl_trans (bl_one _ _) hb1)⟩
    obtain ⟨d0, d1⟩ := HS1.out.1.two
    obtain ⟨d2, d3⟩ := HS1.out.2.1.two
    obtain ⟨d4, d5⟩ := HS1.out.2.2.1.two
    clear c0 c1 c2 c3 c4 c5 hb1
    cases r <;> cases e1 <;> cases e2
    all_goals
      go_wp2_with fail
      go_meet
      case rel => exact ⟨rfl, HS1.out⟩
  case rest =>
  obtain ⟨rfl, hS0⟩ := hcut
  replace HS0 := hi hS0
  clear hS0 c0 c1 c2 c3 c4 c5 q1 q2
  have hcase : (!r || e1 || e2) = true ∨ (!r || e1 || e2) = false := by cases (!r || e1 || e2) <;> simp
  rcases hcase with hno | hyes
  · rw [hno]
    go_wp2
    go_ret
    exact ⟨by rw [HZ.out]; (rcases or3 hno with rfl | ⟨rfl, rfl⟩ | ⟨rfl, rfl, rfl⟩ <;> rfl), HS0.out.2.2.2.hb⟩
  · obtain ⟨rfl, rfl, rfl⟩ : r = true ∧ e1 = false ∧ e2 = false := by cases r <;> cases e1 <;> cases e2 <;> simp_all
    obtain ⟨ha, hb, hc⟩ := and3 HR.out
    have D1 := hi (dif_r hc ha)
    have D2 := hi (dif_r hc hb)
    have CB : Hid (B127 ((a.x - c.x) * (b.x - c.x) + (a.y - c.y) * (b.y - c.y))) := (dot_b ha hb hc).b127 (by decide)
    have hsg : Hid (∃ s : Int, sg3 (dotZ a b c) = s ∧ decide (s ≤ 0) = decide (dotZ a b c ≤ 0)) := by
      refine ⟨_, rfl, ?_⟩
      rcases sg3_vals (dotZ a b c) with ⟨h, e⟩ | ⟨h, e⟩ | ⟨h, e⟩ <;> rw [e] <;> simp <;> omega
    obtain ⟨s, hs1, hs2⟩ := hsg.out
    have HS1 := hi hs1
    have HS2 := hi hs2
    clear ha hb hc hsg hs1 hs2 hyes
    go_upto_region 3 with (fail)
    refine wp_region_held_drew (S := fun W => Var W (w.heap.size) [.int .i64 a.x, .int .i64 a.y] ∧ Var W (w.heap.size + 1) [.int .i64 b.x, .int .i64 b.y] ∧ Var W (w.heap.size + 2) [.int .i64 c.x, .int .i64 c.y] ∧ Grew w 3 W) (by kernel_rfl) ?_ (fun q1 => ?_)
    · exact ⟨HS0.out.1.below (bel_drew _), HS0.out.2.1.below (bel_drew _), HS0.out.2.2.1.below (bel_drew _), HS0.out.2.2.2.below (bel_drew _)⟩
    revert q1
    generalize World.drew _ = W1
    intro q1 
    refine tk (i := 0) (v := ?_) rfl (Or.inl ⟨by rfl, ?_⟩) ?_
    rotate_left
    · intro Wq hSw
      obtain ⟨k0, k1⟩ := (id hSw).2.2.1.two
      clear hSw
      go_simp
      all_goals (with_reducible rfl)
    try simp only [Act.put, x2, x4, x5, x6, x7]
    refine tk (i := 1) (v := ?_) rfl (Or.inl ⟨by rfl, ?_⟩) ?_
    rotate_left
    · intro Wq hSw
      obtain ⟨k0, k1⟩ := (id hSw).1.two
      clear hSw
      go_simp
      all_goals (with_reducible rfl)
    try simp only [Act.put, x2, x3, x4, x5, x6, x7]
    refine tk (i := 3) (v := ?_) rfl (Or.inl ⟨by rfl, ?_⟩) ?_
    rotate_left
    · intro Wq hSw
      obtain ⟨k0, k1⟩ := (id hSw).2.2.1.two
      clear hSw
      go_simp
      all_goals (with_reducible rfl)
    try simp only [Act.put, x2, x3, x4, x5, x6, x7]
    refine tk (i := 4) (v := ?_) rfl (Or.inl ⟨by rfl, ?_⟩) ?_
    rotate_left
    · intro Wq hSw
      obtain ⟨k0, k1⟩ := (id hSw).2.1.two
      clear hSw
      go_simp
      all_goals (with_reducible rfl)
    try simp only [Act.put, x2, x3, x4, x5, x6, x7]
    refine r1 (i := 2) rfl (fun K hK => ?_)
    go_simp
    go_at_call 106
    (with_reducible refine (way_l _ _ _ _ D1.out.1 D1.out.2 _).mono ?_); rintro e w1 ⟨rfl, hb1⟩
    go_wp2_with fail
    refine hK.out _ _ ?_ (fun q2 => ?_)
    · exact ⟨(id q1).1.below hb1, (id q1).2.1.below hb1, (id q1).2.2.1.below hb1, (id q1).2.2.2.below hb1⟩
    clear hK K q1 hb1
    have q1 := q2
    clear q2
    try simp only [Act.put, x2, x3, x4, x5, x6, x7]
    refine r1 (i := 5) rfl (fun K hK => ?_)
    go_simp
    go_at_call 106
    (with_reducible refine (way_l _ _ _ _ D2.out.1 D2.out.2 _).mono ?_); rintro e w1 ⟨rfl, hb1⟩
    go_wp2_with fail
    refine hK.out _ _ ?_ (fun q2 => ?_)
    · exact ⟨(id q1).1.below hb1, (id q1).2.1.below hb1, (id q1).2.2.1.below hb1, (id q1).2.2.2.below hb1⟩
    clear hK K q1 hb1
    have q1 := q2
    clear q2
    try simp only [Act.put, x2, x3, x4, x5, x6, x7]
    refine r1 (i := 6) rfl (fun K hK => ?_)
    go_simp
    go_at_call 108
    (with_reducible refine (dot_l _ _ _ _ D1.out.1 D1.out.2 D2.out.1 D2.out.2 _).mono ?_); rintro e w1 ⟨rfl, hb1⟩
    go_wp2_with fail
    refine hK.out _ _ ?_ (fun q2 => ?_)
    · exact ⟨(id q1).1.below hb1, (id q1).2.1.below hb1, (id q1).2.2.1.below hb1, (id q1).2.2.2.below hb1⟩
    clear hK K q1 hb1
    have q1 := q2
    clear q2
    try simp only [Act.put, x2, x3, x4, x5, x6, x7]
    refine r1 (i := 7) rfl (fun K hK => ?_)
    go_simp
    go_at_call 107
    (with_reducible refine (sign_l _ CB.out _).mono ?_); rintro e w1 ⟨rfl, hb1⟩
    rw [show sg3 ((a.x - c.x) * (b.x - c.x) + (a.y - c.y) * (b.y - c.y)) = s from HS1.out]
    go_wp2_with fail
    refine hK.out _ _ ?_ (fun q2 => ?_)
    · exact ⟨(id q1).1.below hb1, (id q1).2.1.below hb1, (id q1).2.2.1.below hb1, (id q1).2.2.2.below hb1⟩
    clear hK K q1 hb1
    have q1 := q2
    clear q2
    try simp only [Act.put, x2, x3, x4, x5, x6, x7]
    refine tk (i := 8) (v := ?_) rfl (Or.inl ⟨by rfl, ?_⟩) ?_
    rotate_left
    · intro Wq hSw
      clear hSw
      go_simp
      all_goals (with_reducible rfl)
    try simp only [Act.put, x2, x3, x4, x5, x6, x7]
    refine tk (i := 9) (v := ?_) rfl (Or.inl ⟨by rfl, ?_⟩) ?_
    rotate_left
    · intro Wq hSw
      clear hSw
      go_simp
      all_goals (with_reducible rfl)
    try simp only [Act.put, x2, x3, x4, x5, x6, x7]
    refine wpAnyH_done (by kernel_rfl) ?_ _
    go_wp2_with fail
    go_ret
    exact ⟨by rw [HZ.out, ← HS2.out]; rfl, (id q1).2.2.2.hb⟩
end Go.Proofs.YtpjaefcmaiimlaaGreat

/-
  The document's Fits (layer 3), where layer 4 is not wanted.
-/
namespace Go.Proofs.YtpjaefcmaiimlaaGreat
open Go.RowKit

set_option maxHeartbeats 1000000 in
set_option maxRecDepth 100000 in
theorem refFits3_l (a : Pt) (w : World) : Calls Tryz.prog 72 #[.agg #[.int .i64 a.x, .int .i64 a.y]] w (Gives (.bool (fitB a)) w) := by
  go_enter Tryz.func72, Tryz.ntmps72
  go_upto_region 1 with (fail)
  refine wp_abs (fun W => Var W w.heap.size [.int .i64 a.x, .int .i64 a.y] ∧ Grew w 1 W) ?_ ?_
  · exact ⟨var2_new _ _ _ _ _ rfl, by repeat (first | (with_reducible exact Below.refl _ _) | (with_reducible refine bl_alloc ?_ _) | (with_reducible refine Below.drew ?_) | (with_reducible refine below_drewN' ?_ _) | ((with_reducible refine bl_set ?_ ?_ _); (rotate_left; (dsimp only; omega)))), by simp⟩
  rintro W0 ⟨v1, hG⟩
  have HG := hi hG
  obtain ⟨c0, c1⟩ := v1.two
  clear v1 hG
  rcases Int.lt_or_le a.x (-4294967296) with h1 | h1
  · have b1 : decide (-4294967296 ≤ a.x) = false := by simp; omega
    have HF : Hid (fitB a = false) := fitB_no (by unfold Pt.fits; omega)
    clear h1
    go_wp2
    go_ret
    exact ⟨by rw [HF.out]; rfl, HG.out.hb⟩
  have b1 : decide (-4294967296 ≤ a.x) = true := by simp; omega
  rcases Int.lt_or_le 4294967296 a.x with h2 | h2
  · have b2 : decide (a.x ≤ 4294967296) = false := by simp; omega
    have HF : Hid (fitB a = false) := fitB_no (by unfold Pt.fits; omega)
    clear h1 h2
    go_wp2
    go_ret
    exact ⟨by rw [HF.out]; rfl, HG.out.hb⟩
  have b2 : decide (a.x ≤ 4294967296) = true := by simp; omega
  rcases Int.lt_or_le a.y (-4294967296) with h3 | h3
  · have b3 : decide (-4294967296 ≤ a.y) = false := by simp; omega
    have HF : Hid (fitB a = false) := fitB_no (by unfold Pt.fits; omega)
    clear h1 h2 h3
    go_wp2
    go_ret
    exact ⟨by rw [HF.out]; rfl, HG.out.hb⟩
  have b3 : decide (-4294967296 ≤ a.y) = true := by simp; omega
  rcases Int.lt_or_le 4294967296 a.y with h4 | h4
  · have b4 : decide (a.y ≤ 4294967296) = false := by simp; omega
    have HF : Hid (fitB a = false) := fitB_no (by unfold Pt.fits; omega)
    clear h1 h2 h3 h4
    go_wp2
    go_ret
    exact ⟨by rw [HF.out]; rfl, HG.out.hb⟩
  have b4 : decide (a.y ≤ 4294967296) = true := by simp; omega
  have HF : Hid (fitB a = true) := fitB_yes (by unfold Pt.fits; omega)
  clear h1 h2 h3 h4
  go_wp2
  go_ret
  exact ⟨by rw [HF.out]; rfl, HG.out.hb⟩

end Go.Proofs.YtpjaefcmaiimlaaGreat

/-
  Contract of wide.Int.
-/
namespace Go.Proofs.YtpjaefcmaiimlaaGreat
open Go.RowKit

end Go.Proofs.YtpjaefcmaiimlaaGreat

/-
  The program's Wides by the numbers that they say: Mul, Add, Sub, Sign, Cmp, Of, Int, DivMod.
-/
namespace Go.Proofs.YtpjaefcmaiimlaaGreat
open Go.RowKit

end Go.Proofs.YtpjaefcmaiimlaaGreat
