/-
  Contracts: math/bits.Div64 by ten, wide.tenth, wide.tenfold.
-/
import Derived.Test.YtbgbmimgkhchhaaLen
import Derived.Test.YtbgbmimgkhchhaaHalf
import Derived.Test.YtbgbmimgkhchhaaMul
import Derived.Test.YtbgbmimgkhchhaaAt4
import Derived.Deep.QuietTactic
import Derived.BigQuiet
namespace Go.Proofs.Ytbgbmimgkhchhaa
open Go.RowKit

set_option maxHeartbeats 1000000 in
set_option maxRecDepth 100000 in
theorem lz10 (w : World) : Calls Try.prog 64 #[.int .u64 10] w fun e w' => e = .returned (.int .i64 60) ∧ w = w' := by
  go_enter Try.func64, Try.ntmps64
  go_wp2_with fail
  refine (len64_c 10 (by unfold In1; omega) _).mono ?_
  rintro e w1 ⟨n, hn, rfl, rfl⟩
  have e4 : n = 4 := by
    obtain ⟨⟨h0, h1, h2, h3⟩, h4⟩ := hn.out
    have h5 := h3 (by omega)
    have : n.toNat ≤ 4 := by
      rcases Nat.lt_or_ge 4 n.toNat with h | h
      · exfalso
        obtain ⟨k, hk⟩ := Nat.exists_eq_add_of_le (show 5 ≤ n.toNat from h)
        rw [hk, Int.pow_add, show (2 : Int) ^ 5 = 32 from rfl] at h5
        have : (0 : Int) < 2 ^ k := Int.pow_pos (by omega)
        omega
      · exact h
    have : 4 ≤ n.toNat := by
      rcases Nat.lt_or_ge n.toNat 4 with h | h
      · exfalso
        have : n.toNat = 0 ∨ n.toNat = 1 ∨ n.toNat = 2 ∨ n.toNat = 3 := by omega
        rcases this with h | h | h | h <;> rw [h] at h1 <;> revert h1 <;> decide
      · exact h
    omega
  subst e4
  go_wp2
  go_ret
  exact ⟨rfl, rfl⟩

set_option maxHeartbeats 2000000 in
set_option maxRecDepth 100000 in
theorem div64_zero (lo : Int) (hl : In1 lo) (w : World) :
    Calls Try.prog 53 #[.int .u64 0, .int .u64 lo, .int .u64 10] w fun e w' => e = .returned (.tuple #[.int .u64 (lo / 10), .int .u64 (lo % 10)]) ∧ ∃ k, w' = w.drewN k := by
  unfold In1 at hl
  obtain ⟨h0, h1⟩ := hl
  go_enter Try.func53, Try.ntmps53
  go_wp2
  go_quiet (fail)
  go_wp2
  go_ret2
  exact ⟨rfl, _, rfl⟩

theorem or60 (hi lo : Int) (h : 0 < hi) (h9 : hi < 10) (h0 : 0 ≤ lo) (h1 : lo < 18446744073709551616) : bits BinOp.or IntKind.u64 (hi * 1152921504606846976) (lo / 16) = hi * 1152921504606846976 + lo / 16 :=
  orU 60 _ hi _ (by rw [show (2 : Int) ^ 60 = 1152921504606846976 from rfl] <;> omega) (by omega) (by omega) (by rw [show (2 : Int) ^ 60 = 1152921504606846976 from rfl] <;> omega) (by omega) (by omega)
theorem and_y0 : bits BinOp.and IntKind.u64 11529215046068469760 4294967295 = 0 := by
  rw [and_low32 _ (by omega) (by omega)]; rfl

def Div10P (n : Int) (w : World) (e : Ending) (w' : World) : Prop :=
  ∃ q r : Int, In1 q ∧ Hid (q * 10 + r = n ∧ 0 ≤ r ∧ r < 10) ∧ e = .returned (.tuple #[.int .u64 q, .int .u64 r]) ∧ Below w.heap.size w w'

set_option maxHeartbeats 2000000 in
set_option maxRecDepth 100000 in
theorem div64_more (hi lo : Int) (h : 0 < hi) (h9 : hi < 10) (hl : In1 lo) (w : World) :
    Calls Try.prog 53 #[.int .u64 hi, .int .u64 lo, .int .u64 10] w (Div10P (hi * 18446744073709551616 + lo) w) := by
  unfold In1 at hl
  obtain ⟨h0, h1⟩ := hl
  have hne : (hi == 0) = false := by simp; omega
  have hle : decide (10 ≤ hi) = false := by simp; omega
  obtain ⟨U, eU, HU, u0, u1⟩ : ∃ U : Int, bits BinOp.or IntKind.u64 (hi * 1152921504606846976) (lo / 16) = U ∧ Hid (U = hi * 1152921504606846976 + lo / 16) ∧ 0 ≤ U ∧ U < 11529215046068469760 :=
    ⟨_, rfl, or60 hi lo h h9 h0 h1, by rw [or60 hi lo h h9 h0 h1]; omega, by rw [or60 hi lo h h9 h0 h1]; omega⟩
  obtain ⟨L, eL, HL, l0, l1⟩ : ∃ L : Int, IntKind.u64.wrap (lo * 1152921504606846976) = L ∧ Hid (L = lo % 16 * 1152921504606846976) ∧ 0 ≤ L ∧ L < 18446744073709551616 := by
    refine ⟨_, rfl, ?_, ?_, ?_⟩ <;> rw [IntKind.wrap_u64] <;> first | omega | (unfold Hid; omega)
  have eA : bits BinOp.and IntKind.u64 L 4294967295 = 0 := by
    rw [and_low32 _ l0 l1]; have := HL.out; omega
  have eY := and_y0
  obtain ⟨Z, eZ, HZ, z0, z1⟩ : ∃ Z : Int, IntKind.u64.wrap (IntKind.u64.wrap (IntKind.u64.wrap (U * 4294967296) + L / 4294967296) - IntKind.u64.wrap (U / 2684354560 * 11529215046068469760)) = Z ∧ Hid (Z = (U - U / 2684354560 * 2684354560) * 4294967296 + L / 4294967296) ∧ 0 ≤ Z ∧ Z < 11529215046068469760 := by
    refine ⟨_, rfl, ?_, ?_, ?_⟩ <;> simp only [IntKind.wrap_u64] <;> first | omega | (unfold Hid; omega)
  go_enter Try.func53, Try.ntmps53
  go_wp2_with fail
  refine (lz10 _).mono ?_
  rintro e w1 ⟨rfl, rfl⟩
  go_wp2
  refine wp_loop_rounds 1 ?_
  rw [rounds_succ]
  go_wp2
  refine wp_loop_rounds 1 ?_
  rw [rounds_succ]
  go_wp2
  refine bodyPost_ret (v := .tuple #[.int .u64 (U / 2684354560 * 4294967296 + Z / 2684354560), .int .u64 (IntKind.u64.wrap (IntKind.u64.wrap (IntKind.u64.wrap (Z * 4294967296)) - IntKind.u64.wrap (Z / 2684354560 * 11529215046068469760)) / 1152921504606846976)]) (by simp [results, Try.results53, go_sem]) rfl ⟨_, _, ?_, ?_, rfl, Below.refl _ _⟩
  · unfold In1; omega
  · have a1 := HU.out; have a2 := HL.out; have a3 := HZ.out
    clear eU eL eA eY eZ hne hle
    unfold Hid
    simp only [IntKind.wrap_u64]
    omega

theorem div64_c (hi lo : Int) (h : 0 ≤ hi) (h9 : hi < 10) (hl : In1 lo) (w : World) :
    Calls Try.prog 53 #[.int .u64 hi, .int .u64 lo, .int .u64 10] w (Div10P (hi * 18446744073709551616 + lo) w) := by
  by_cases h0 : hi = 0
  · subst h0
    refine (div64_zero lo hl w).mono ?_
    rintro e w' ⟨rfl, k, rfl⟩
    unfold In1 at hl
    exact ⟨_, _, by unfold In1; omega, by unfold Hid; omega, rfl, below_drewN' (Below.refl _ _) _⟩
  · exact div64_more hi lo (by omega) h9 hl w

/-- a tenth of a number, and its last digit -/
def TenthP (V : Int) (w : World) (e : Ending) (w' : World) : Prop :=
  ∃ s0 s1 s2 s3 r : Int, In4 s0 s1 s2 s3 ∧ Hid (V = V4 s0 s1 s2 s3 * 10 + r ∧ 0 ≤ r ∧ r < 10) ∧ e = .returned (.tuple #[(.agg #[.int .u64 s0, .int .u64 s1, .int .u64 s2, .int .u64 s3]), .int .u64 r]) ∧ Below w.heap.size w w'

structure TW (w : World) (g : Nat) (a b c d : Int) (W : World) : Prop where
  x1 : At4 W w.heap.size a b c d
  x2 : Free4 W w.heap.size
  r1 : At4 W g 0 0 0 0
  r2 : Free4 W g
  hb : Below w.heap.size w W
theorem TW.below {w : World} {g : Nat} {a b c d : Int} {W W' : World} (h : TW w g a b c d W) (hb : Below W.heap.size W W') : TW w g a b c d W' :=
  ⟨h.x1.below hb, h.x2.below h.x1.lt hb, h.r1.below hb, h.r2.below h.r1.lt hb, bl_trans h.hb hb⟩
theorem TW.set0 {w : World} {g : Nat} {a b c d : Int} {W : World} (h : TW w g a b c d W) (hg : w.heap.size < g) (v : Int) : TW w g v b c d (W.setCell ⟨w.heap.size, 0, none⟩ (.int .u64 v)) :=
  ⟨h.x1.set0 v, h.x2.far _ _, h.r1.far (by omega) _ _, h.r2.far _ _, bl_set h.hb (by dsimp only; omega) _⟩
theorem TW.set1 {w : World} {g : Nat} {a b c d : Int} {W : World} (h : TW w g a b c d W) (hg : w.heap.size < g) (v : Int) : TW w g a v c d (W.setCell ⟨w.heap.size, 1, none⟩ (.int .u64 v)) :=
  ⟨h.x1.set1 v, h.x2.far _ _, h.r1.far (by omega) _ _, h.r2.far _ _, bl_set h.hb (by dsimp only; omega) _⟩
theorem TW.set2 {w : World} {g : Nat} {a b c d : Int} {W : World} (h : TW w g a b c d W) (hg : w.heap.size < g) (v : Int) : TW w g a b v d (W.setCell ⟨w.heap.size, 2, none⟩ (.int .u64 v)) :=
  ⟨h.x1.set2 v, h.x2.far _ _, h.r1.far (by omega) _ _, h.r2.far _ _, bl_set h.hb (by dsimp only; omega) _⟩
theorem TW.set3 {w : World} {g : Nat} {a b c d : Int} {W : World} (h : TW w g a b c d W) (hg : w.heap.size < g) (v : Int) : TW w g a b c v (W.setCell ⟨w.heap.size, 3, none⟩ (.int .u64 v)) :=
  ⟨h.x1.set3 v, h.x2.far _ _, h.r1.far (by omega) _ _, h.r2.far _ _, bl_set h.hb (by dsimp only; omega) _⟩

set_option maxHeartbeats 2000000 in
set_option maxRecDepth 100000 in
theorem tenth_c (a b c d : Int) (hA : In4 a b c d) (w : World) :
    Calls Try.prog 37 #[(.agg #[.int .u64 a, .int .u64 b, .int .u64 c, .int .u64 d])] w (TenthP (V4 a b c d) w) := by
  have HA := hid_mk hA
  have hg : w.heap.size < w.heap.size + 1 := by omega
  clear hA
  go_enter Try.func37, Try.ntmps37
  go_wp2
  refine wp_abs (fun W => TW w (w.heap.size + 1) a b c d W) ?_ ?_
  · refine ⟨?_, ?_, ?_, ?_, by repeat (first | (with_reducible exact Below.refl _ _) | (with_reducible refine bl_alloc ?_ _) | (with_reducible refine Below.drew ?_) | (with_reducible refine below_drewN' ?_ _) | ((with_reducible refine bl_set ?_ ?_ _); (rotate_left; (dsimp only; omega))))⟩
    all_goals (constructor <;> simp [go_sem])
  intro W0 S0
  have H0 := Lib.hid S0
  obtain ⟨⟨c0, c1, c2, c3⟩, -, -, -, -⟩ := S0
  refine wp_loop_rounds 5 ?_
  rw [rounds_succ]
  go_wp2_with fail
  refine (div64_c 0 d (by omega) (by omega) HA.out.2.2.2 _).mono ?_
  rintro e w3 ⟨q3, r3, hq3, hr3, rfl, hb3⟩
  have k3 := Lib.hid (And.intro hq3 hr3.out)
  have H3' := Lib.hid (H0.out.below hb3)
  clear c0 c1 c2 c3 hq3 hr3 hb3
  obtain ⟨⟨c0, c1, c2, c3⟩, ⟨f0, f1, f2, f3⟩, -, -, -⟩ := H3'.out
  go_wp2
  rw [rounds_succ]
  go_wp2_with fail
  refine (div64_c r3 c k3.out.2.2.1 k3.out.2.2.2 HA.out.2.2.1 _).mono ?_
  rintro e w2 ⟨q2, r2, hq2, hr2, rfl, hb2⟩
  have k2 := Lib.hid (And.intro hq2 hr2.out)
  have H2' := Lib.hid ((H3'.out.set3 hg q3).below hb2)
  clear c0 c1 c2 c3 f0 f1 f2 f3 hq2 hr2 hb2
  obtain ⟨⟨c0, c1, c2, c3⟩, ⟨f0, f1, f2, f3⟩, -, -, -⟩ := H2'.out
  go_wp2
  rw [rounds_succ]
  go_wp2_with fail
  refine (div64_c r2 b k2.out.2.2.1 k2.out.2.2.2 HA.out.2.1 _).mono ?_
  rintro e w1 ⟨q1, r1, hq1, hr1, rfl, hb1⟩
  have k1 := Lib.hid (And.intro hq1 hr1.out)
  have H1' := Lib.hid ((H2'.out.set2 hg q2).below hb1)
  clear c0 c1 c2 c3 f0 f1 f2 f3 hq1 hr1 hb1
  obtain ⟨⟨c0, c1, c2, c3⟩, ⟨f0, f1, f2, f3⟩, -, -, -⟩ := H1'.out
  go_wp2
  rw [rounds_succ]
  go_wp2_with fail
  refine (div64_c r1 a k1.out.2.2.1 k1.out.2.2.2 HA.out.1 _).mono ?_
  rintro e w0 ⟨q0, r0, hq0, hr0, rfl, hb0⟩
  have k0 := Lib.hid (And.intro hq0 hr0.out)
  have H0' := Lib.hid ((H1'.out.set1 hg q1).below hb0)
  clear c0 c1 c2 c3 f0 f1 f2 f3 hq0 hr0 hb0
  obtain ⟨⟨c0, c1, c2, c3⟩, ⟨f0, f1, f2, f3⟩, -, -, -⟩ := H0'.out
  go_wp2
  have HF := Lib.hid (H0'.out.set0 hg q0)
  obtain ⟨⟨p0, p1, p2, p3⟩, ⟨g0, g1, g2, g3⟩⟩ := And.intro H0'.out.r1 H0'.out.r2
  rw [rounds_succ]
  go_wp2
  refine bodyPost_ret (v := .tuple #[(.agg #[.int .u64 q0, .int .u64 q1, .int .u64 q2, .int .u64 q3]), .int .u64 r0]) (by simp [results, Try.results37, go_sem, p0, p1, p2, p3]) rfl ⟨q0, q1, q2, q3, r0, ⟨k0.out.1, k1.out.1, k2.out.1, k3.out.1⟩, ?_, rfl, ?_⟩
  · have a0 := k0.out; have a1 := k1.out; have a2 := k2.out; have a3 := k3.out
    unfold Hid V4; omega
  · have := H0'.out.hb
    repeat (first | (with_reducible exact Below.refl _ _) | (with_reducible refine bl_alloc ?_ _) | (with_reducible refine Below.drew ?_) | (with_reducible refine below_drewN' ?_ _) | ((with_reducible refine bl_set ?_ ?_ _); (rotate_left; (dsimp only; omega))))
    exact this

/-- ten times a number and a digit, and what is carried out -/
def TenfoldP (n : Int) (w : World) (e : Ending) (w' : World) : Prop :=
  ∃ s0 s1 s2 s3 co : Int, In4 s0 s1 s2 s3 ∧ In1 co ∧ Hid (V4 s0 s1 s2 s3 + M256 * co = n) ∧ e = .returned (.tuple #[(.agg #[.int .u64 s0, .int .u64 s1, .int .u64 s2, .int .u64 s3]), .int .u64 co]) ∧ Below w.heap.size w w'

set_option maxHeartbeats 2000000 in
set_option maxRecDepth 100000 in
theorem tenfold_c (a b c d r : Int) (hA : In4 a b c d) (hr : In1 r) (w : World) :
    Calls Try.prog 52 #[(.agg #[.int .u64 a, .int .u64 b, .int .u64 c, .int .u64 d]), .int .u64 r] w (TenfoldP (V4 a b c d * 10 + r) w) := by
  have HA := hid_mk hA
  have h10 : In1 10 := by unfold In1; omega
  have h00 : In1 0 := by unfold In1; omega
  have HR := hid_mk (And.intro hr (And.intro h10 h00))
  clear hA hr h10 h00
  go_enter Try.func52, Try.ntmps52
  go_wp2
  refine wp_loop_rounds 5 ?_
  rw [rounds_succ]
  go_wp2_with fail
  refine (timesPlus_c a 10 r 0 HA.out.1 HR.out.2.1 HR.out.1 HR.out.2.2 _).mono ?_
  rintro e w' ⟨l0, h0, q1, q2, q3, rfl, rfl⟩
  have k0 := Lib.hid (And.intro q1 (And.intro q2 q3.out))
  clear q1 q2 q3
  go_wp2
  rw [rounds_succ]
  go_wp2_with fail
  refine (timesPlus_c b 10 h0 0 HA.out.2.1 HR.out.2.1 k0.out.2.1 HR.out.2.2 _).mono ?_
  rintro e w' ⟨l1, h1, q1, q2, q3, rfl, rfl⟩
  have k1 := Lib.hid (And.intro q1 (And.intro q2 q3.out))
  clear q1 q2 q3
  go_wp2
  rw [rounds_succ]
  go_wp2_with fail
  refine (timesPlus_c c 10 h1 0 HA.out.2.2.1 HR.out.2.1 k1.out.2.1 HR.out.2.2 _).mono ?_
  rintro e w' ⟨l2, h2, q1, q2, q3, rfl, rfl⟩
  have k2 := Lib.hid (And.intro q1 (And.intro q2 q3.out))
  clear q1 q2 q3
  go_wp2
  rw [rounds_succ]
  go_wp2_with fail
  refine (timesPlus_c d 10 h2 0 HA.out.2.2.2 HR.out.2.1 k2.out.2.1 HR.out.2.2 _).mono ?_
  rintro e w' ⟨l3, h3, q1, q2, q3, rfl, rfl⟩
  have k3 := Lib.hid (And.intro q1 (And.intro q2 q3.out))
  clear q1 q2 q3
  go_wp2
  rw [rounds_succ]
  go_wp2
  refine bodyPost_ret (v := .tuple #[(.agg #[.int .u64 l0, .int .u64 l1, .int .u64 l2, .int .u64 l3]), .int .u64 h3]) (by simp [results, Try.results52, go_sem]) rfl ⟨l0, l1, l2, l3, h3, ⟨k0.out.1, k1.out.1, k2.out.1, k3.out.1⟩, k3.out.2.1, ?_, rfl, by repeat (first | (with_reducible exact Below.refl _ _) | (with_reducible refine bl_alloc ?_ _) | (with_reducible refine Below.drew ?_) | (with_reducible refine below_drewN' ?_ _) | ((with_reducible refine bl_set ?_ ?_ _); (rotate_left; (dsimp only; omega))))⟩
  have a0 := k0.out.2.2; have a1 := k1.out.2.2; have a2 := k2.out.2.2; have a3 := k3.out.2.2
  unfold Hid V4 M256; omega
end Go.Proofs.Ytbgbmimgkhchhaa
