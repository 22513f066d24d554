/-
  The document's Num.Wide, of what number a Num is.
-/
import Derived.Test.YtpockemjfbaheaaRefNum
namespace Go.Proofs.Ytpockemjfbaheaa
open Go.RowKit

set_option maxHeartbeats 1000000 in
set_option maxRecDepth 100000 in
theorem wide_zero (ad : Option Addr) (c : Nat) (w : World) :
    Calls Try.prog 19 #[.agg #[.bool false, .slice ad 0 c]] w fun e w' => e = .returned (.tuple #[(.agg #[.bool false, .int .u64 0, .int .u64 0, .int .u64 0, .int .u64 0]), .bool true]) ∧ Below w.heap.size w w' := by
  go_enter Try.func19, Try.ntmps19
  go_wp2
  refine wp_loop_rounds 1 ?_
  rw [rounds_succ]
  go_wp2
  refine bodyPost_ret (v := .tuple #[(.agg #[.bool false, .int .u64 0, .int .u64 0, .int .u64 0, .int .u64 0]), .bool true]) (by simp [results, Try.results19, go_sem]) rfl ⟨rfl, by repeat (first | (with_reducible exact Below.refl _ _) | (with_reducible refine bl_alloc ?_ _) | (with_reducible refine Below.drew ?_) | (with_reducible refine below_drewN' ?_ _) | ((with_reducible refine bl_set ?_ ?_ _); (rotate_left; (dsimp only; omega))))⟩

set_option maxHeartbeats 1000000 in
set_option maxRecDepth 100000 in
theorem wide_far (m : Bool) (ad : Option Addr) (n c : Nat) (hn : 16 < n) (w : World) :
    Calls Try.prog 19 #[.agg #[.bool m, .slice ad n c]] w fun e w' => e = .returned (.tuple #[(.agg #[.bool false, .int .u64 0, .int .u64 0, .int .u64 0, .int .u64 0]), .bool false]) ∧ Below w.heap.size w w' := by
  have h1 : decide ((16 : Int) < (n : Int)) = true := by simp; omega
  go_enter Try.func19, Try.ntmps19
  go_wp2
  refine bodyPost_ret (v := .tuple #[(.agg #[.bool false, .int .u64 0, .int .u64 0, .int .u64 0, .int .u64 0]), .bool false]) (by simp [results, Try.results19, go_sem]) rfl ⟨rfl, by repeat (first | (with_reducible exact Below.refl _ _) | (with_reducible refine bl_alloc ?_ _) | (with_reducible refine Below.drew ?_) | (with_reducible refine below_drewN' ?_ _) | ((with_reducible refine bl_set ?_ ?_ _); (rotate_left; (dsimp only; omega))))⟩

theorem LW_full (f : Nat → Int) (q : Nat) : LW f 0 q = ((f (4 * q + 3) * 65536 + f (4 * q + 2)) * 65536 + f (4 * q + 1)) * 65536 + f (4 * q + 0) := by
  unfold LW
  rw [show kq 0 q = 4 by unfold kq; omega]
  simp only [hz, Nat.sub_zero, Nat.reduceSub]
  omega
theorem LW_in (f : Nat → Int) (hf : ∀ j, 0 ≤ f j ∧ f j < 65536) (q : Nat) : In1 (LW f 0 q) := by
  rw [LW_full]
  have h0 := hf (4 * q + 0)
  have h1 := hf (4 * q + 1)
  have h2 := hf (4 * q + 2)
  have h3 := hf (4 * q + 3)
  unfold In1
  omega
theorem LW_val (f : Nat → Int) : V4 (LW f 0 0) (LW f 0 1) (LW f 0 2) (LW f 0 3) = dval f 16 := by
  rw [LW_full, LW_full, LW_full, LW_full]
  simp only [dval, Nat.mul_zero, Nat.zero_add, Nat.reduceMul, Nat.reduceAdd]
  generalize f 0 = a0
  generalize f 1 = a1
  generalize f 2 = a2
  generalize f 3 = a3
  generalize f 4 = a4
  generalize f 5 = a5
  generalize f 6 = a6
  generalize f 7 = a7
  generalize f 8 = a8
  generalize f 9 = a9
  generalize f 10 = a10
  generalize f 11 = a11
  generalize f 12 = a12
  generalize f 13 = a13
  generalize f 14 = a14
  generalize f 15 = a15
  unfold V4
  omega

/-- what Num.Wide answers of the number z -/
def ToldP (z : Int) (w : World) (e : Ending) (w' : World) : Prop :=
  ∃ (m : Bool) (a b c d : Int) (ok : Bool), In4 a b c d ∧ Hid ((ok = true ∧ WV m a b c d = z ∧ Norm m a b c d ∧ -M256 < z ∧ z < M256) ∨ (ok = false ∧ (m = false ∧ a = 0 ∧ b = 0 ∧ c = 0 ∧ d = 0) ∧ (z ≤ -M256 ∨ M256 ≤ z))) ∧ e = .returned (.tuple #[(.agg #[.bool m, .int .u64 a, .int .u64 b, .int .u64 c, .int .u64 d]), .bool ok]) ∧ Below w.heap.size w w'
theorem m256_16 : M256 = 65536 ^ 16 := by unfold M256; decide
theorem wide_num (v : Value) (z : Int) (w : World) (h : NumIs v z w) : Calls Try.prog 19 #[v] w (ToldP z w) := by
  obtain ⟨m, ad, n, c, f, rfl, hd, hm, rfl⟩ := h
  rcases Nat.lt_or_ge 16 n with h16 | h16
  · refine (wide_far m ad n c h16 w).mono ?_
    rintro e w' ⟨rfl, hb⟩
    refine ⟨false, 0, 0, 0, 0, false, in4_zero, .inr ⟨rfl, ⟨rfl, rfl, rfl, rfl, rfl⟩, ?_⟩, rfl, hb⟩
    rcases hd.top with h0 | h0
    · omega
    · have h1 := dval_low hd.bd (by omega) h0
      have h2 : M256 ≤ 65536 ^ (n - 1) := by rw [m256_16]; exact p16_le (by omega)
      cases m <;> simp [sg] <;> omega
  · have hv : dval f n = V4 (LW f 0 0) (LW f 0 1) (LW f 0 2) (LW f 0 3) := by rw [LW_val, dval_ge hd.hi h16]
    have hb0 := dval_bound hd.bd n
    have hb1 : (65536 : Int) ^ n ≤ M256 := by rw [m256_16]; exact p16_le h16
    rcases Nat.eq_zero_or_pos n with h0 | h0
    · subst h0
      obtain rfl := hm rfl
      refine (wide_zero ad c w).mono ?_
      rintro e w' ⟨rfl, hb⟩
      exact ⟨false, 0, 0, 0, 0, true, in4_zero, .inl ⟨rfl, by simp [WV, V4, sg, dval], (fun h => Bool.noConfusion h), (by simp [sg, dval, M256]), (by simp [sg, dval, M256])⟩, rfl, hb⟩
    · rcases hd.mem with h1 | ⟨g, rfl, a1, a2, a3, a4⟩
      · omega
      · refine (refWide_c m g c n f h16 ⟨hd.bd, hd.hi⟩ w a3 a4).mono ?_
        rintro e w' ⟨rfl, hb⟩
        have hpos := num_pos hd (by omega)
        refine ⟨m, _, _, _, _, true, ⟨LW_in f hd.bd 0, LW_in f hd.bd 1, LW_in f hd.bd 2, LW_in f hd.bd 3⟩, .inl ⟨rfl, ?_, ?_, ?_, ?_⟩, rfl, hb⟩
        · rw [hv]; cases m <;> simp [WV, sg]
        · intro _; rw [← hv]; omega
        · cases m <;> simp [sg] <;> omega
        · cases m <;> simp [sg] <;> omega
end Go.Proofs.Ytpockemjfbaheaa
