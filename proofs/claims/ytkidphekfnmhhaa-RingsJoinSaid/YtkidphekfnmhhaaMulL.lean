/-
  Contract of wide.mulLimbs: both halves of the product.
-/
import Derived.Test.YtkidphekfnmhhaaMul
namespace Go.Proofs.Ytkidphekfnmhhaa
open Go.RowKit
attribute [local go_sem ↓] Go.wp_at_zero Go.wp_at_succ

def sel4 (x0 x1 x2 x3 : Int) : Nat → Int
  | 0 => x0
  | 1 => x1
  | 2 => x2
  | _ => x3
/-- 2^(64 n), for n up to 8 -/
def pw64 : Nat → Int
  | 0 => 1
  | n + 1 => 18446744073709551616 * pw64 n
/-- the number of the first n limbs -/
def sumTo (f : Nat → Int) : Nat → Int
  | 0 => 0
  | n + 1 => sumTo f n + f n * pw64 n
def upd (o : Nat → Int) (j : Nat) (v : Int) : Nat → Int := fun i => if i = j then v else o i

theorem sumTo_congr (f g : Nat → Int) (n : Nat) (h : ∀ i, i < n → f i = g i) : sumTo f n = sumTo g n := by
  induction n with
  | zero => rfl
  | succ n ih => simp only [sumTo]; rw [ih (fun i hi => h i (by omega)), h n (by omega)]
theorem sumTo_upd (o : Nat → Int) (j : Nat) (v : Int) (n : Nat) (h : j < n) : sumTo (upd o j v) n = sumTo o n + (v - o j) * pw64 j := by
  induction n with
  | zero => omega
  | succ n ih =>
    simp only [sumTo]
    by_cases e : j = n
    · subst e
      rw [sumTo_congr (upd o j v) o j (fun i hi => by simp [upd]; omega)]
      simp only [upd, if_true]
      grind
    · rw [ih (by omega)]
      have : upd o j v n = o n := by simp [upd]; omega
      rw [this]; omega
theorem in1_sel {x0 x1 x2 x3 : Int} (h : In4 x0 x1 x2 x3) (i : Nat) : In1 (sel4 x0 x1 x2 x3 i) := by
  unfold sel4
  split
  · exact h.1
  · exact h.2.1
  · exact h.2.2.1
  · exact h.2.2.2
theorem pw64_add (i k : Nat) : pw64 (i + k) = pw64 i * pw64 k := by
  induction k with
  | zero => simp [pw64]
  | succ k ih => rw [Nat.add_succ]; simp only [pw64]; rw [ih]; grind

/-- one step of the school method -/
theorem mul_step (S c l h a b o : Int) (i k : Nat) (SX SY Y : Int) (e : S + c * pw64 (i + k) = SX * Y + a * SY * pw64 i) (g : h * 18446744073709551616 + l = a * b + o + c) :
    S + (l - o) * pw64 (i + k) + h * pw64 (i + (k + 1)) = SX * Y + a * (SY + b * pw64 k) * pw64 i := by
  have e1 : pw64 (i + (k + 1)) = 18446744073709551616 * pw64 (i + k) := by rw [← Nat.add_assoc]; rfl
  rw [e1]
  rw [pw64_add] at *
  generalize pw64 i = p at *
  generalize pw64 k = q at *
  grind
theorem mul_last (S c a SX Y : Int) (i : Nat) (e : S + c * pw64 (i + 4) = SX * Y + a * Y * pw64 i) : S + (c - 0) * pw64 (i + 4) = (SX + a * pw64 i) * Y := by
  grind

structure MW (w : World) (x0 x1 x2 x3 y0 y1 y2 y3 : Int) (o : Nat → Int) (W : World) : Prop where
  hx : ∀ i, i < 4 → W.cell? ⟨w.heap.size, i, none⟩ = some (.int .u64 (sel4 x0 x1 x2 x3 i))
  hy : ∀ i, i < 4 → W.cell? ⟨w.heap.size + 1, i, none⟩ = some (.int .u64 (sel4 y0 y1 y2 y3 i))
  ho : ∀ i, i < 8 → W.cell? ⟨w.heap.size + 1 + 1 + 1 + 1, i, none⟩ = some (.int .u64 (o i))
  fo : ∀ i, i < 8 → W.frozen? ⟨w.heap.size + 1 + 1 + 1 + 1, i, none⟩ = false
  r1 : ∀ i, i < 4 → W.cell? ⟨w.heap.size + 1 + 1, i, none⟩ = some (.int .u64 0)
  f1 : ∀ i, i < 4 → W.frozen? ⟨w.heap.size + 1 + 1, i, none⟩ = false
  r2 : ∀ i, i < 4 → W.cell? ⟨w.heap.size + 1 + 1 + 1, i, none⟩ = some (.int .u64 0)
  f2 : ∀ i, i < 4 → W.frozen? ⟨w.heap.size + 1 + 1 + 1, i, none⟩ = false
  hb : Below w.heap.size w W

theorem MW.drew {w : World} {x0 x1 x2 x3 y0 y1 y2 y3 : Int} {o : Nat → Int} {W : World} (h : MW w x0 x1 x2 x3 y0 y1 y2 y3 o W) : MW w x0 x1 x2 x3 y0 y1 y2 y3 o W.drew :=
  ⟨h.hx, h.hy, h.ho, h.fo, h.r1, h.f1, h.r2, h.f2, h.hb.drew⟩
theorem MW.set {w : World} {x0 x1 x2 x3 y0 y1 y2 y3 : Int} {o : Nat → Int} {W : World} (h : MW w x0 x1 x2 x3 y0 y1 y2 y3 o W) (j : Nat) (hj : j < 8) (v : Int) :
    MW w x0 x1 x2 x3 y0 y1 y2 y3 (upd o j v) (W.setCell ⟨w.heap.size + 1 + 1 + 1 + 1, j, none⟩ (.int .u64 v)) := by
  have far : ∀ b i, b ≠ w.heap.size + 1 + 1 + 1 + 1 → (W.setCell ⟨w.heap.size + 1 + 1 + 1 + 1, j, none⟩ (.int .u64 v)).cell? ⟨b, i, none⟩ = W.cell? ⟨b, i, none⟩ := fun b i hb => World.cell?_setCell_far _ _ _ _ (fun e => hb e.symm)
  refine ⟨fun i hi => ?_, fun i hi => ?_, fun i hi => ?_, fun i hi => ?_, fun i hi => ?_, fun i hi => ?_, fun i hi => ?_, fun i hi => ?_, bl_set h.hb (by show w.heap.size ≤ w.heap.size + 1 + 1 + 1 + 1; omega) _⟩
  · rw [far _ _ (by omega)]; exact h.hx i hi
  · rw [far _ _ (by omega)]; exact h.hy i hi
  · by_cases e : i = j
    · subst e
      rw [World.cell?_setCell_same _ _ _ (h.ho i hi)]
      simp [upd]
    · rw [World.cell?_setCell_other _ _ _ _ (by intro e'; injection e' with _ e2; omega)]
      rw [h.ho i hi]
      simp [upd, e]
  · rw [World.frozen?_setCell]; exact h.fo i hi
  · rw [far _ _ (by omega)]; exact h.r1 i hi
  · rw [World.frozen?_setCell]; exact h.f1 i hi
  · rw [far _ _ (by omega)]; exact h.r2 i hi
  · rw [World.frozen?_setCell]; exact h.f2 i hi

def MulP (A B : Int) (w : World) (e : Ending) (w' : World) : Prop :=
  ∃ s0 s1 s2 s3 t0 t1 t2 t3 : Int, In4 s0 s1 s2 s3 ∧ In4 t0 t1 t2 t3 ∧ Hid (V4 s0 s1 s2 s3 + M256 * V4 t0 t1 t2 t3 = A * B) ∧ e = .returned (.tuple #[(.agg #[.int .u64 s0, .int .u64 s1, .int .u64 s2, .int .u64 s3]), (.agg #[.int .u64 t0, .int .u64 t1, .int .u64 t2, .int .u64 t3])]) ∧ Below w.heap.size w w'

/-- the outer loop, ahead of round i -/
def MulOut (w : World) (x0 x1 x2 x3 y0 y1 y2 y3 : Int) (iv : Value) (W : World) : Prop :=
  ∃ (i : Nat) (o : Nat → Int), i ≤ 4 ∧ iv = .int .i64 i ∧ MW w x0 x1 x2 x3 y0 y1 y2 y3 o W ∧ (∀ j, In1 (o j)) ∧ (∀ j, i + 4 ≤ j → o j = 0) ∧ sumTo o 8 = sumTo (sel4 x0 x1 x2 x3) i * sumTo (sel4 y0 y1 y2 y3) 4
/-- the inner loop, ahead of round k -/
def MulIn (w : World) (x0 x1 x2 x3 y0 y1 y2 y3 : Int) (i : Nat) (cv kv : Value) (W : World) : Prop :=
  ∃ (k : Nat) (o : Nat → Int) (c : Int), k ≤ 4 ∧ kv = .int .i64 k ∧ cv = .int .u64 c ∧ In1 c ∧ MW w x0 x1 x2 x3 y0 y1 y2 y3 o W ∧ (∀ j, In1 (o j)) ∧ (∀ j, i + 4 ≤ j → o j = 0) ∧
    sumTo o 8 + c * pw64 (i + k) = sumTo (sel4 x0 x1 x2 x3) i * sumTo (sel4 y0 y1 y2 y3) 4 + sel4 x0 x1 x2 x3 i * sumTo (sel4 y0 y1 y2 y3) k * pw64 i

theorem in1_zero : In1 0 := by unfold In1; omega
theorem in1_upd {o : Nat → Int} (h : ∀ j, In1 (o j)) (i : Nat) {v : Int} (hv : In1 v) : ∀ j, In1 (upd o i v j) := by
  intro j; unfold upd; split
  · exact hv
  · exact h j

set_option maxHeartbeats 4000000 in
set_option maxRecDepth 100000 in
theorem mulLimbs_c (x0 x1 x2 x3 y0 y1 y2 y3 : Int) (hX : In4 x0 x1 x2 x3) (hY : In4 y0 y1 y2 y3) (w : World) :
    Calls Try.prog 83 #[(.agg #[.int .u64 x0, .int .u64 x1, .int .u64 x2, .int .u64 x3]), (.agg #[.int .u64 y0, .int .u64 y1, .int .u64 y2, .int .u64 y3])] w (MulP (V4 x0 x1 x2 x3) (V4 y0 y1 y2 y3) w) := by
  have HX := hid_mk hX
  have HY := hid_mk hY
  clear hX hY
  go_enter Try.func83, Try.ntmps83
  go_wp2
  go_loopw [10] (fun iv W => MulOut w x0 x1 x2 x3 y0 y1 y2 y3 iv W) (fun iv _ => 4 - (intOf iv).toNat)
  case atStart =>
    refine ⟨0, fun _ => 0, by omega, rfl, ⟨?_, ?_, ?_, ?_, ?_, ?_, ?_, ?_, ?_⟩, fun _ => in1_zero, fun _ _ => rfl, ?_⟩
    · intro i hi
      have : i = 0 ∨ i = 1 ∨ i = 2 ∨ i = 3 := by omega
      rcases this with rfl | rfl | rfl | rfl <;> simp [go_sem, sel4]
    · intro i hi
      have : i = 0 ∨ i = 1 ∨ i = 2 ∨ i = 3 := by omega
      rcases this with rfl | rfl | rfl | rfl <;> simp [go_sem, sel4]
    · intro i hi
      have : i = 0 ∨ i = 1 ∨ i = 2 ∨ i = 3 ∨ i = 4 ∨ i = 5 ∨ i = 6 ∨ i = 7 := by omega
      rcases this with rfl | rfl | rfl | rfl | rfl | rfl | rfl | rfl <;> simp [go_sem]
    · intro i hi; simp [go_sem]
    · intro i hi
      have : i = 0 ∨ i = 1 ∨ i = 2 ∨ i = 3 := by omega
      rcases this with rfl | rfl | rfl | rfl <;> simp [go_sem]
    · intro i hi; simp [go_sem]
    · intro i hi
      have : i = 0 ∨ i = 1 ∨ i = 2 ∨ i = 3 := by omega
      rcases this with rfl | rfl | rfl | rfl <;> simp [go_sem]
    · intro i hi; simp [go_sem]
    · repeat (first | (with_reducible exact Below.refl _ _) | (with_reducible refine bl_alloc ?_ _) | (with_reducible refine Below.drew ?_) | (with_reducible refine below_drewN' ?_ _) | ((with_reducible refine bl_set ?_ ?_ _); (rotate_left; (dsimp only; omega))))
    · simp [sumTo]
  case round =>
    obtain ⟨i, o, hi, rfl, hM, h1, h2, h3⟩ := hrel
    by_cases hlt : i < 4
    · have H := hid_mk (And.intro hM (And.intro h1 (And.intro h2 h3)))
      clear hM h1 h2 h3
      have hb4 : decide ((i : Int) < 4) = true := by simp; omega
      go_wp2
      go_loopw [8, 13] (fun cv kv W => MulIn w x0 x1 x2 x3 y0 y1 y2 y3 i cv kv W) (fun _ kv _ => 4 - (intOf kv).toNat)
      case atStart =>
        refine ⟨0, o, 0, by omega, rfl, rfl, in1_zero, H.out.1, H.out.2.1, H.out.2.2.1, ?_⟩
        rw [H.out.2.2.2]; simp [sumTo]
      case round =>
        obtain ⟨k, o', c, hk, rfl, rfl, hc, hM, h1, h2, h3⟩ := hrel
        by_cases hkt : k < 4
        · have gx := hM.hx i hlt
          have gy := hM.hy k hkt
          have go' := hM.ho (i + k) (by omega)
          have fo' := hM.fo (i + k) (by omega)
          have H' := hid_mk (And.intro hM (And.intro h1 (And.intro h2 h3)))
          clear hM h1 h2 h3 H
          go_wp2
          have wr1 : IntKind.i64.wrap ((i : Int) + (k : Int)) = (i : Int) + (k : Int) := IntWalk.i64_in _ (by omega)
          have wr2 : (0 : Int) ≤ (i : Int) + (k : Int) := by omega
          have wr3 : (i : Int) + (k : Int) < 8 := by omega
          have wr4 : ((i : Int) + (k : Int)).toNat = i + k := by omega
          go_region_with ((go_at_call 91; refine (timesPlus_c (sel4 x0 x1 x2 x3 i) (sel4 y0 y1 y2 y3 k) (o' (i + k)) c (in1_sel HX.out i) (in1_sel HY.out k) (H'.out.2.1 _) hc _).mono ?_; rintro e w' ⟨l, h, q1, q2, q3, rfl, rfl⟩; have g := hid_mk (And.intro q1 (And.intro q2 q3.out)); clear q1 q2 q3))
          all_goals clear wr1 wr2 wr3 wr4 gx gy go' fo'
          all_goals
            go_wp2
            go_roundw
            case rel =>
              refine ⟨k + 1, upd o' (i + k) l, h, by omega, by go_num, rfl, g.out.2.1, ?_, in1_upd H'.out.2.1 _ g.out.1, ?_, ?_⟩
              · first | exact (H'.out.1.drew).set (i + k) (by omega) l | exact (H'.out.1.set (i + k) (by omega) l).drew
              · intro j hj
                have := H'.out.2.2.1 j hj
                simp only [upd]; rw [if_neg (by omega)]; exact this
              · rw [sumTo_upd _ _ _ _ (by omega)]
                exact mul_step _ _ _ _ _ _ _ _ _ _ _ _ H'.out.2.2.2 g.out.2.2
            case measure => simp [intOf]; omega
        · obtain rfl : k = 4 := by omega
          have go' := hM.ho (i + 4) (by omega)
          have fo' := hM.fo (i + 4) (by omega)
          have H' := hid_mk (And.intro hM (And.intro h1 (And.intro h2 h3)))
          clear hM h1 h2 h3 H
          go_wp2
          go_roundw
          case rel =>
            refine ⟨i + 1, upd o' (i + 4) c, by omega, by go_num, H'.out.1.set (i + 4) (by omega) c, in1_upd H'.out.2.1 _ hc, ?_, ?_⟩
            · intro j hj
              have := H'.out.2.2.1 j (by omega)
              simp only [upd]; rw [if_neg (by omega)]; exact this
            · rw [sumTo_upd _ _ _ _ (by omega), H'.out.2.2.1 (i + 4) (by omega)]
              exact mul_last _ _ _ _ _ _ H'.out.2.2.2
          case measure => simp [intOf]; omega
    · obtain rfl : i = 4 := by omega
      have c0 := hM.ho 0 (by omega)
      have c1 := hM.ho 1 (by omega)
      have c2 := hM.ho 2 (by omega)
      have c3 := hM.ho 3 (by omega)
      have c4 := hM.ho 4 (by omega)
      have c5 := hM.ho 5 (by omega)
      have c6 := hM.ho 6 (by omega)
      have c7 := hM.ho 7 (by omega)
      have d0 := hM.r1 0 (by omega)
      have d1 := hM.r1 1 (by omega)
      have d2 := hM.r1 2 (by omega)
      have d3 := hM.r1 3 (by omega)
      have k0 := hM.f1 0 (by omega)
      have k1 := hM.f1 1 (by omega)
      have k2 := hM.f1 2 (by omega)
      have k3 := hM.f1 3 (by omega)
      have d4 := hM.r2 0 (by omega)
      have d5 := hM.r2 1 (by omega)
      have d6 := hM.r2 2 (by omega)
      have d7 := hM.r2 3 (by omega)
      have k4 := hM.f2 0 (by omega)
      have k5 := hM.f2 1 (by omega)
      have k6 := hM.f2 2 (by omega)
      have k7 := hM.f2 3 (by omega)
      have H' := hid_mk (And.intro hM (And.intro h1 (And.intro h2 h3)))
      clear hM h1 h2 h3
      go_wp2
      go_region_held3 (fun w' => w'.cell? ⟨w.heap.size + 1 + 1 + 1 + 1, 0, none⟩ = some (.int .u64 (o 0)) ∧ w'.cell? ⟨w.heap.size + 1 + 1 + 1 + 1, 1, none⟩ = some (.int .u64 (o 1)) ∧ w'.cell? ⟨w.heap.size + 1 + 1 + 1 + 1, 2, none⟩ = some (.int .u64 (o 2)) ∧ w'.cell? ⟨w.heap.size + 1 + 1 + 1 + 1, 3, none⟩ = some (.int .u64 (o 3)) ∧ w'.cell? ⟨w.heap.size + 1 + 1 + 1 + 1, 4, none⟩ = some (.int .u64 (o 4)) ∧ w'.cell? ⟨w.heap.size + 1 + 1 + 1 + 1, 5, none⟩ = some (.int .u64 (o 5)) ∧ w'.cell? ⟨w.heap.size + 1 + 1 + 1 + 1, 6, none⟩ = some (.int .u64 (o 6)) ∧ w'.cell? ⟨w.heap.size + 1 + 1 + 1 + 1, 7, none⟩ = some (.int .u64 (o 7))) (go_keep) (fail)
      go_wp2
      refine bodyPost_ret (v := .tuple #[(.agg #[.int .u64 (o 0), .int .u64 (o 1), .int .u64 (o 2), .int .u64 (o 3)]), (.agg #[.int .u64 (o 4), .int .u64 (o 5), .int .u64 (o 6), .int .u64 (o 7)])]) (by simp [results, Try.results83, go_sem, d0, d1, d2, d3, d4, d5, d6, d7]) rfl ⟨o 0, o 1, o 2, o 3, o 4, o 5, o 6, o 7, ⟨H'.out.2.1 0, H'.out.2.1 1, H'.out.2.1 2, H'.out.2.1 3⟩, ⟨H'.out.2.1 4, H'.out.2.1 5, H'.out.2.1 6, H'.out.2.1 7⟩, ?_, rfl, ?_⟩
      · have e := H'.out.2.2.2
        have ex : ∀ a b c d : Int, sumTo (sel4 a b c d) 4 = V4 a b c d := fun a b c d => by simp [sumTo, sel4, pw64, V4]
        rw [ex, ex] at e
        show V4 _ _ _ _ + M256 * V4 _ _ _ _ = _
        rw [← e]
        simp [sumTo, pw64, V4, M256]
        omega
      · have hb := H'.out.1.hb
        repeat (first | (with_reducible exact Below.refl _ _) | (with_reducible refine bl_alloc ?_ _) | (with_reducible refine Below.drew ?_) | (with_reducible refine below_drewN' ?_ _) | ((with_reducible refine bl_set ?_ ?_ _); (rotate_left; (dsimp only; omega))))
        exact hb
end Go.Proofs.Ytkidphekfnmhhaa
