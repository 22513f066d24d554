/-
  Contract of pred.Fits: places in a slice.
-/
import Derived.Test.YtpockemjfbaheaaGeoMath
import Derived.Test.YtpockemjfbaheaaVars
import Derived.Test.YtpockemjfbaheaaKnown0
import Derived.Test.YtpockemjfbaheaaTwo2
import Derived.Test.YtpockemjfbaheaaLongs
import Derived.Test.YtpockemjfbaheaaEnv
import Derived.Test.YtpockemjfbaheaaWCmps
namespace Go.Proofs.Ytpockemjfbaheaa
open Go.RowKit

def pget (l : List Pt) (i : Nat) : Pt := l.getD i ⟨0, 0⟩
/-- places in a row, from an address on -/
def PtsAt (W : World) (g o : Nat) (l : List Pt) : Prop := ∀ i, i < l.length → W.cell? ⟨g, o + i * 2, none⟩ = some (.int .i64 (pget l i).x) ∧ W.cell? ⟨g, o + i * 2 + 1, none⟩ = some (.int .i64 (pget l i).y)
theorem PtsAt.below {W W' : World} {g o : Nat} {l : List Pt} (h : PtsAt W g o l) (hb : Below W.heap.size W W') : PtsAt W' g o l := fun i hi =>
  ⟨(hb.cell (p := ⟨g, _, none⟩) (cell_lt (h i hi).1)).trans (h i hi).1, (hb.cell (p := ⟨g, _, none⟩) (cell_lt (h i hi).1)).trans (h i hi).2⟩
def fitL (l : List Pt) : Bool := l.all fitB
theorem fitL_step (l : List Pt) (k : Nat) (h : k < l.length) : fitL (l.take (k + 1)) = (fitL (l.take k) && fitB (pget l k)) := by
  unfold fitL pget
  rw [List.take_succ_eq_append_getElem h, List.all_append]
  simp [List.getD_eq_getElem?_getD, List.getElem?_eq_getElem h]
theorem fitL_no (l : List Pt) (k : Nat) (h : k < l.length) (hf : fitB (pget l k) = false) : fitL l = false := by
  unfold fitL
  rw [List.all_eq_false]
  exact ⟨l[k], List.getElem_mem h, by
    have : pget l k = l[k] := by unfold pget; simp [List.getD_eq_getElem?_getD, List.getElem?_eq_getElem h]
    rw [← this, hf]; simp⟩
theorem fitB_no {p : Pt} (h : ¬ p.fits) : fitB p = false := by unfold fitB; simp [h]
theorem fitB_yes {p : Pt} (h : p.fits) : fitB p = true := fitB_iff.2 h

set_option maxHeartbeats 1000000 in
set_option maxRecDepth 100000 in
theorem fits_l (l : List Pt) (g o cap : Nat) (hbig : l.length ≤ 4611686018427387904) (w : World) (hl : PtsAt w g o l) :
    Calls Try.prog 31 #[.slice (some ⟨g, o, none⟩) l.length cap] w (Gives (.bool (fitL l)) w) := by
  have HL := hi hl
  clear hl
  go_enter Try.func31, Try.ntmps31
  go_wp2
  go_loopw [7] (fun kv W => ∃ k : Nat, k ≤ l.length ∧ kv = .int .i64 k ∧ fitL (l.take k) = true ∧ Grew w 0 W) (fun kv _ => l.length - (intOf kv).toNat)
  case atStart => exact ⟨0, by omega, rfl, rfl, by repeat (first | (with_reducible exact Below.refl _ _) | (with_reducible refine bl_alloc ?_ _) | (with_reducible refine Below.drew ?_) | (with_reducible refine below_drewN' ?_ _) | ((with_reducible refine bl_set ?_ ?_ _); (rotate_left; (dsimp only; omega)))), by simp⟩
  case round =>
    obtain ⟨k, hk, rfl, hf, hG⟩ := hrel
    have HF := hi hf
    have HG := hi hG
    clear hf hG
    by_cases hlt : k < l.length
    · obtain ⟨g0, g1⟩ := (HL.out.below HG.out.hb) k hlt
      have hst := hi (fitL_step l k hlt)
      have hno := hi (fitL_no l k hlt)
      generalize pget l k = q at *
      go_wp2
      all_goals
        first
          | (go_roundw
             case rel => exact ⟨k + 1, by omega, by go_num, by rw [hst.out, HF.out, fitB_yes (by unfold Pt.fits; omega)]; rfl, HG.out.new _⟩
             case measure => simp [intOf]; omega)
          | (go_ret
             exact ⟨by rw [hno.out (fitB_no (by unfold Pt.fits; omega))]; rfl, (HG.out.new _).hb⟩)
    · obtain rfl : k = l.length := by omega
      go_wp2
      go_ret
      exact ⟨by have := HF.out; rw [List.take_length] at this; rw [this]; rfl, HG.out.hb⟩
theorem pts1 (W : World) (a : Pt) (t : TypeId) : PtsAt (W.alloc (.cells #[.int .i64 a.x, .int .i64 a.y] t)) W.heap.size 0 [a] := by
  intro i hi
  have : i = 0 := by simp at hi; omega
  subst this
  constructor <;> simp [go_sem, pget]
theorem pts2 (W : World) (a b : Pt) (t : TypeId) : PtsAt (W.alloc (.cells #[.int .i64 a.x, .int .i64 a.y, .int .i64 b.x, .int .i64 b.y] t)) W.heap.size 0 [a, b] := by
  intro i hi
  have : i = 0 ∨ i = 1 := by simp at hi; omega
  rcases this with rfl | rfl <;> constructor <;> simp [go_sem, pget]
theorem pts3 (W : World) (a b c : Pt) (t : TypeId) : PtsAt (W.alloc (.cells #[.int .i64 a.x, .int .i64 a.y, .int .i64 b.x, .int .i64 b.y, .int .i64 c.x, .int .i64 c.y] t)) W.heap.size 0 [a, b, c] := by
  intro i hi
  have : i = 0 ∨ i = 1 ∨ i = 2 := by simp at hi; omega
  rcases this with rfl | rfl | rfl <;> constructor <;> simp [go_sem, pget]
theorem pts4 (W : World) (a b c d : Pt) (t : TypeId) : PtsAt (W.alloc (.cells #[.int .i64 a.x, .int .i64 a.y, .int .i64 b.x, .int .i64 b.y, .int .i64 c.x, .int .i64 c.y, .int .i64 d.x, .int .i64 d.y] t)) W.heap.size 0 [a, b, c, d] := by
  intro i hi
  have : i = 0 ∨ i = 1 ∨ i = 2 ∨ i = 3 := by simp at hi; omega
  rcases this with rfl | rfl | rfl | rfl <;> constructor <;> simp [go_sem, pget]
/-- Fits of places just laid out -/
theorem fits1 (W : World) (a : Pt) (t : TypeId) (r : Bool) (h : fitB a = r) : Calls Try.prog 31 #[.slice (some ⟨W.heap.size, 0, none⟩) 1 1] (W.alloc (.cells #[.int .i64 a.x, .int .i64 a.y] t)) (Gives (.bool r) (W.alloc (.cells #[.int .i64 a.x, .int .i64 a.y] t))) := by
  have := fits_l [a] W.heap.size 0 1 (by simp) _ (pts1 W a t)
  simpa [fitL, h] using this
theorem fits2 (W : World) (a b : Pt) (t : TypeId) (r : Bool) (h : (fitB a && fitB b) = r) : Calls Try.prog 31 #[.slice (some ⟨W.heap.size, 0, none⟩) 2 2] (W.alloc (.cells #[.int .i64 a.x, .int .i64 a.y, .int .i64 b.x, .int .i64 b.y] t)) (Gives (.bool r) (W.alloc (.cells #[.int .i64 a.x, .int .i64 a.y, .int .i64 b.x, .int .i64 b.y] t))) := by
  have := fits_l [a, b] W.heap.size 0 2 (by simp) _ (pts2 W a b t)
  rw [show fitL [a, b] = r by rw [← h]; simp [fitL]] at this
  exact this
theorem fits3 (W : World) (a b c : Pt) (t : TypeId) (r : Bool) (h : (fitB a && fitB b && fitB c) = r) : Calls Try.prog 31 #[.slice (some ⟨W.heap.size, 0, none⟩) 3 3] (W.alloc (.cells #[.int .i64 a.x, .int .i64 a.y, .int .i64 b.x, .int .i64 b.y, .int .i64 c.x, .int .i64 c.y] t)) (Gives (.bool r) (W.alloc (.cells #[.int .i64 a.x, .int .i64 a.y, .int .i64 b.x, .int .i64 b.y, .int .i64 c.x, .int .i64 c.y] t))) := by
  have := fits_l [a, b, c] W.heap.size 0 3 (by simp) _ (pts3 W a b c t)
  rw [show fitL [a, b, c] = r by rw [← h]; simp [fitL, Bool.and_assoc]] at this
  exact this
theorem fits4 (W : World) (a b c d : Pt) (t : TypeId) (r : Bool) (h : (fitB a && fitB b && fitB c && fitB d) = r) : Calls Try.prog 31 #[.slice (some ⟨W.heap.size, 0, none⟩) 4 4] (W.alloc (.cells #[.int .i64 a.x, .int .i64 a.y, .int .i64 b.x, .int .i64 b.y, .int .i64 c.x, .int .i64 c.y, .int .i64 d.x, .int .i64 d.y] t)) (Gives (.bool r) (W.alloc (.cells #[.int .i64 a.x, .int .i64 a.y, .int .i64 b.x, .int .i64 b.y, .int .i64 c.x, .int .i64 c.y, .int .i64 d.x, .int .i64 d.y] t))) := by
  have := fits_l [a, b, c, d] W.heap.size 0 4 (by simp) _ (pts4 W a b c d t)
  rw [show fitL [a, b, c, d] = r by rw [← h]; simp [fitL, Bool.and_assoc]] at this
  exact this
end Go.Proofs.Ytpockemjfbaheaa

/-
  Contract of wide.Int.
-/
namespace Go.Proofs.Ytpockemjfbaheaa
open Go.RowKit

def IntIs (v er z : Int) : Prop := (er = 0 ∧ v = z ∧ -9223372036854775808 ≤ z ∧ z ≤ 9223372036854775807) ∨ (er = 10 ∧ v = 0 ∧ (z < -9223372036854775808 ∨ 9223372036854775807 < z))
def IntCP (z : Int) (w : World) (e : Ending) (w' : World) : Prop := ∃ v er, e = .returned (.tuple #[.int .i64 v, .int .i64 er]) ∧ Hid (IntIs v er z) ∧ Below w.heap.size w w'
theorem negW (a : Int) (h0 : 0 ≤ a) (h1 : a ≤ 9223372036854775808) : ∃ x, IntKind.u64.wrap (-a) = x ∧ IntKind.i64.wrap x = -a ∧ wrap64 x = -a := by
  refine ⟨_, rfl, ?_, ?_⟩
  · rw [IntKind.wrap_u64, IntKind.wrap_i64]; omega
  · rw [IntKind.wrap_u64]; unfold wrap64; omega

end Go.Proofs.Ytpockemjfbaheaa

/-
  The program's Wides by the numbers that they say: Mul, Add, Sub, Sign, Cmp, Of, Int, DivMod.
-/
namespace Go.Proofs.Ytpockemjfbaheaa
open Go.RowKit

/-- z fits in a Wide -/
def BW (z : Int) : Prop := -M256 < z ∧ z < M256
theorem Ab.bw {x A : Int} (hx : Ab x A) (h : A < 115792089237316195423570985008687907853269984665640564039457584007913129639936) : BW x := by unfold Ab at hx; unfold BW M256; omega
def wd (z : Int) : Wd := ⟨QM z, Q0 z, Q1 z, Q2 z, Q3 z⟩
theorem wd_val {z : Int} (h : BW z) : (wd z).val = z := q_val h
theorem wd_ok (z : Int) : (wd z).ok := q_in z

theorem mulQ (x y : Int) (hx : BW x) (hy : BW y) (hxy : BW (x * y)) (W : World) (g : Nat) (cap : Nat) (hl : WidesAt W g 0 [wd x, wd y]) :
    Calls Try.prog 33 #[.slice (some ⟨g, 0, none⟩) 2 cap] W (Gives (.tuple #[(.agg #[.bool (QM (x * y)), .int .u64 (Q0 (x * y)), .int .u64 (Q1 (x * y)), .int .u64 (Q2 (x * y)), .int .u64 (Q3 (x * y))]), .int .i64 0]) W) := by
  refine mul_some g 2 cap _ rfl (by omega) _ _ _ _ _ (q_in (x * y)) (q_norm hxy) ?_ W hl
  rw [q_val hxy]
  simp only [fres, wd_val hx, wd_val hy, Int.one_mul]
  unfold BW at hx hxy
  rw [if_pos hx, if_pos hxy]
theorem addQ3 (x y z : Int) (hx : BW x) (hy : BW y) (hz : BW z) (hxy : BW (x + y)) (hs : BW (x + y + z)) (W : World) (g : Nat) (cap : Nat) (hl : WidesAt W g 0 [wd x, wd y, wd z]) :
    Calls Try.prog 34 #[.slice (some ⟨g, 0, none⟩) 3 cap] W (Gives (.tuple #[(.agg #[.bool (QM (x + y + z)), .int .u64 (Q0 (x + y + z)), .int .u64 (Q1 (x + y + z)), .int .u64 (Q2 (x + y + z)), .int .u64 (Q3 (x + y + z))]), .int .i64 0]) W) := by
  refine add_some g 3 cap _ rfl (by omega) _ _ _ _ _ (q_in (x + y + z)) (q_norm hs) ?_ W hl
  rw [q_val hs]
  simp only [fres, wd_val hx, wd_val hy, wd_val hz, Int.zero_add]
  unfold BW at hx hxy hs
  rw [if_pos hx, if_pos hxy, if_pos hs]
theorem addQ2 (x y : Int) (hx : BW x) (hy : BW y) (hxy : BW (x + y)) (W : World) (g : Nat) (cap : Nat) (hl : WidesAt W g 0 [wd x, wd y]) :
    Calls Try.prog 34 #[.slice (some ⟨g, 0, none⟩) 2 cap] W (Gives (.tuple #[(.agg #[.bool (QM (x + y)), .int .u64 (Q0 (x + y)), .int .u64 (Q1 (x + y)), .int .u64 (Q2 (x + y)), .int .u64 (Q3 (x + y))]), .int .i64 0]) W) := by
  refine add_some g 2 cap _ rfl (by omega) _ _ _ _ _ (q_in (x + y)) (q_norm hxy) ?_ W hl
  rw [q_val hxy]
  simp only [fres, wd_val hx, wd_val hy, Int.zero_add]
  unfold BW at hx hxy
  rw [if_pos hx, if_pos hxy]
theorem sg3_eqZ (z : Int) : sgZ z = sg3 z := rfl
theorem ofQ (n : Int) (h0 : -9223372036854775808 ≤ n) (h1 : n ≤ 9223372036854775807) (W : World) : Calls Try.prog 32 #[.int .i64 n] W (Gives (.agg #[.bool (QM (n)), .int .u64 (Q0 (n)), .int .u64 (Q1 (n)), .int .u64 (Q2 (n)), .int .u64 (Q3 (n))]) W) := by
  refine (of_c n h0 h1 W).mono ?_
  rintro e w' ⟨m, a, ha, hk, rfl, hb⟩
  have hn : Norm m a 0 0 0 := fun e => by
    rw [hk.out.1] at e
    simp at e
    rw [v4_small, hk.out.2, if_pos e]
    omega
  have hv : WV m a 0 0 0 = n := by
    unfold WV
    rw [v4_small, hk.out.1, hk.out.2]
    by_cases h : n < 0 <;> simp [h]
  obtain ⟨rfl, rfl, e1, e2, e3⟩ := q_of (in4_small ha) hn hv
  rw [← e1, ← e2, ← e3]
  exact ⟨rfl, hb⟩
end Go.Proofs.Ytpockemjfbaheaa

/-
  Contracts of pred's way, cross, dot, square.
-/
namespace Go.Proofs.Ytpockemjfbaheaa
open Go.RowKit

end Go.Proofs.Ytpockemjfbaheaa

/-
  Contracts of pred's Orient, InDisc.
-/
namespace Go.Proofs.Ytpockemjfbaheaa
open Go.RowKit

theorem dif_ab {p q : Pt} (hp : fitB p = true) (hq : fitB q = true) : Ab (q.x - p.x) 8589934592 ∧ Ab (q.y - p.y) 8589934592 := by
  rw [fitB_iff] at hp hq
  unfold Pt.fits at hp hq
  unfold Ab
  omega
theorem dif_r {p q : Pt} (hp : fitB p = true) (hq : fitB q = true) : R64 (q.x - p.x) ∧ R64 (q.y - p.y) := by
  have h := dif_ab hp hq
  exact ⟨h.1.r64 (by decide), h.2.r64 (by decide)⟩
theorem cross_b {a b c : Pt} (ha : fitB a = true) (hb : fitB b = true) (hc : fitB c = true) : Ab (crossZ a b c) 147573952589676412928 := by
  have h := dif_ab ha hb
  have k := dif_ab ha hc
  exact ((h.1.mul k.2).sub (h.2.mul k.1)).le (by decide)
theorem dot_b {a b p : Pt} (ha : fitB a = true) (hb : fitB b = true) (hp : fitB p = true) : Ab (dotZ a b p) 147573952589676412928 := by
  have h := dif_ab hp ha
  have k := dif_ab hp hb
  exact ((h.1.mul k.1).add (h.2.mul k.2)).le (by decide)
theorem and3 {a b c : Bool} (h : (a && b && c) = true) : a = true ∧ b = true ∧ c = true := by cases a <;> cases b <;> cases c <;> simp_all
theorem and4 {a b c d : Bool} (h : (a && b && c && d) = true) : a = true ∧ b = true ∧ c = true ∧ d = true := by cases a <;> cases b <;> cases c <;> cases d <;> simp_all
/-- '== api.Point' -/
theorem eqPt (a b : Pt) (w : World) : (Op.equalIn 10000 66 (.agg #[.int .i64 a.x, .int .i64 a.y]) (.agg #[.int .i64 b.x, .int .i64 b.y])).run Try.prog w = .ok (decide (a = b)) w := by
  have hS : Try.prog.underlying 66 = some (.struct (Try.prog.fieldsOf 66)) := by kernel_rfl
  have hp : Try.prog.stoodInHeld 66 = false := by kernel_rfl
  have u4 := Try.underlying3
  rw [show (10000 : Nat) = 9999 + 1 from rfl, run_equalIn_agg w 9999 66 _ _ hS hp]
  simp only [Program.fieldsOf, Try.underlying66]
  go_simp
  have e : (a = b) ↔ (a.x = b.x ∧ a.y = b.y) := ⟨fun h => by rw [h]; exact ⟨rfl, rfl⟩, fun h => Pt.ext' h.1 h.2⟩
  by_cases h1 : a.x = b.x <;> by_cases h2 : a.y = b.y <;> simp [h1, h2, e]

theorem or3 {r e1 e2 : Bool} (h : (!r || e1 || e2) = true) : r = false ∨ (r = true ∧ e1 = true) ∨ (r = true ∧ e1 = false ∧ e2 = true) := by cases r <;> cases e1 <;> cases e2 <;> simp_all
end Go.Proofs.Ytpockemjfbaheaa

/-
  The document's Fits (layer 3), where layer 4 is not wanted.
-/
namespace Go.Proofs.Ytpockemjfbaheaa
open Go.RowKit

set_option maxHeartbeats 1000000 in
set_option maxRecDepth 100000 in
theorem refFits3_l (a : Pt) (w : World) : Calls Try.prog 35 #[.agg #[.int .i64 a.x, .int .i64 a.y]] w (Gives (.bool (fitB a)) w) := by
  go_enter Try.func35, Try.ntmps35
  go_upto_region 1 with (fail)
  refine wp_abs (fun W => Var W w.heap.size [.int .i64 a.x, .int .i64 a.y] ∧ Grew w 1 W) ?_ ?_
  · exact ⟨var2_new _ _ _ _ _ rfl, by repeat (first | (with_reducible exact Below.refl _ _) | (with_reducible refine bl_alloc ?_ _) | (with_reducible refine Below.drew ?_) | (with_reducible refine below_drewN' ?_ _) | ((with_reducible refine bl_set ?_ ?_ _); (rotate_left; (dsimp only; omega)))), by simp⟩
  rintro W0 ⟨v1, hG⟩
  have HG := hi hG
  obtain ⟨c0, c1⟩ := v1.two
  clear v1 hG
  rcases Int.lt_or_le a.x (-4294967296) with h1 | h1
  · have b1 : decide (-4294967296 ≤ a.x) = false := by simp; omega
    have HF : Hid (fitB a = false) := fitB_no (by unfold Pt.fits; omega)
    clear h1
    go_wp2
    go_ret
    exact ⟨by rw [HF.out]; rfl, HG.out.hb⟩
  have b1 : decide (-4294967296 ≤ a.x) = true := by simp; omega
  rcases Int.lt_or_le 4294967296 a.x with h2 | h2
  · have b2 : decide (a.x ≤ 4294967296) = false := by simp; omega
    have HF : Hid (fitB a = false) := fitB_no (by unfold Pt.fits; omega)
    clear h1 h2
    go_wp2
    go_ret
    exact ⟨by rw [HF.out]; rfl, HG.out.hb⟩
  have b2 : decide (a.x ≤ 4294967296) = true := by simp; omega
  rcases Int.lt_or_le a.y (-4294967296) with h3 | h3
  · have b3 : decide (-4294967296 ≤ a.y) = false := by simp; omega
    have HF : Hid (fitB a = false) := fitB_no (by unfold Pt.fits; omega)
    clear h1 h2 h3
    go_wp2
    go_ret
    exact ⟨by rw [HF.out]; rfl, HG.out.hb⟩
  have b3 : decide (-4294967296 ≤ a.y) = true := by simp; omega
  rcases Int.lt_or_le 4294967296 a.y with h4 | h4
  · have b4 : decide (a.y ≤ 4294967296) = false := by simp; omega
    have HF : Hid (fitB a = false) := fitB_no (by unfold Pt.fits; omega)
    clear h1 h2 h3 h4
    go_wp2
    go_ret
    exact ⟨by rw [HF.out]; rfl, HG.out.hb⟩
  have b4 : decide (a.y ≤ 4294967296) = true := by simp; omega
  have HF : Hid (fitB a = true) := fitB_yes (by unfold Pt.fits; omega)
  clear h1 h2 h3 h4
  go_wp2
  go_ret
  exact ⟨by rw [HF.out]; rfl, HG.out.hb⟩

end Go.Proofs.Ytpockemjfbaheaa
