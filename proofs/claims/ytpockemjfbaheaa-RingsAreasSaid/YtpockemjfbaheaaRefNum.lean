/-
  The document's numbers: Of, Neg, Sign, Cmp, Wide, of what number a Num is.
-/
import Derived.Test.YtpockemjfbaheaaRefSub
import Derived.Deep.DeepCutAuto
namespace Go.Proofs.Ytpockemjfbaheaa
open Go.RowKit

/-- its sign -/
def sgZ (z : Int) : Int := if z < 0 then -1 else if z = 0 then 0 else 1
theorem num_pos {W : World} {ad : Option Addr} {n cap : Nat} {f : Nat → Int} (h : DigAt W ad n cap f) (h0 : n ≠ 0) : 0 < dval f n := by
  have h1 := (dval_bound h.bd n).1
  have h2 := num_zero h
  omega

theorem NumIs.shape {v : Value} {z : Int} {W : World} (h : NumIs v z W) : ∃ (m : Bool) (ad : Option Addr) (n c : Nat), v = .agg #[.bool m, .slice ad n c] := by
  obtain ⟨m, ad, n, c, f, e, -⟩ := h
  exact ⟨m, ad, n, c, e⟩
theorem neg_num (v : Value) (z : Int) (w : World) (h : NumIs v z w) :
    Calls Try.prog 22 #[v] w fun e w' => ∃ x, e = .returned x ∧ NumIs x (-z) w' ∧ Below w.heap.size w w' := by
  obtain ⟨m, ad, n, c, f, rfl, d, hm, rfl⟩ := h
  refine (refNeg_c m ad c n w).mono ?_
  rintro e w' ⟨rfl, hb⟩
  refine ⟨_, rfl, ⟨_, ad, n, c, f, rfl, d.below hb, fun h => by simp [h], ?_⟩, hb⟩
  rcases Nat.eq_zero_or_pos n with h | h
  · subst h; simp [dval]
  · cases m <;> simp [sg, h]
theorem sign_num (v : Value) (z : Int) (w : World) (h : NumIs v z w) :
    Calls Try.prog 39 #[v] w fun e w' => e = .returned (.int .i64 (sgZ z)) ∧ Below w.heap.size w w' := by
  obtain ⟨m, ad, n, c, f, rfl, d, hm, rfl⟩ := h
  refine (refSign_c m ad c n w).mono ?_
  rintro e w' ⟨rfl, hb⟩
  refine ⟨?_, hb⟩
  rcases Nat.eq_zero_or_pos n with h | h
  · subst h; simp [dval, sgZ]
  · have := num_pos d (by omega)
    rw [if_neg (by omega)]
    cases m
    · rw [show sgZ (sg false * dval f n) = 1 by simp [sg, sgZ]; rw [if_neg (by omega), if_neg (by omega)]]; rfl
    · rw [show sgZ (sg true * dval f n) = -1 by simp [sg, sgZ]; omega]; rfl

set_option maxHeartbeats 1000000 in
set_option maxRecDepth 100000 in
theorem cmp_num (v u : Value) (z y : Int) (w : World) (h1 : NumIs v z w) (h2 : NumIs u y w) (b1 : -BIG < z ∧ z < BIG) (b2 : -BIG < y ∧ y < BIG) :
    Calls Try.prog 21 #[v, u] w fun e w' => e = .returned (.int .i64 (sgZ (z - y))) ∧ Below w.heap.size w w' := by
  obtain ⟨m, ad, n, c, rfl⟩ := h1.shape
  obtain ⟨m', ad', n', c', rfl⟩ := h2.shape
  have H1 := Lib.hid h1
  have H2 := Lib.hid h2
  clear h1 h2
  go_enter Try.func21, Try.ntmps21
  go_upto_region 1 with (fail)
  refine wp_abs (fun W => w.heap.size + 2 ≤ W.heap.size ∧ Below w.heap.size w W ∧ W.cell? ⟨w.heap.size, 0, none⟩ = some (.bool m) ∧ W.cell? ⟨w.heap.size, 1, none⟩ = some (.slice ad n c) ∧ W.cell? ⟨w.heap.size + 1, 0, none⟩ = some (.bool m') ∧ W.cell? ⟨w.heap.size + 1, 1, none⟩ = some (.slice ad' n' c')) ?_ ?_
  · refine ⟨by simp, by repeat (first | (with_reducible exact Below.refl _ _) | (with_reducible refine bl_alloc ?_ _) | (with_reducible refine Below.drew ?_) | (with_reducible refine below_drewN' ?_ _) | ((with_reducible refine bl_set ?_ ?_ _); (rotate_left; (dsimp only; omega)))), ?_, ?_, ?_, ?_⟩ <;> simp [go_sem]
  rintro W ⟨hs, hb, c0, c1, c2, c3⟩
  have HB := Lib.hid hb
  clear hb
  go_region_with (first
    | (go_at_call 22; (with_reducible refine (neg_num _ y _ ((H2.out.below HB.out).below (bl_drew1 _))).mono ?_); rintro e w1 ⟨x, rfl, hN, hb1⟩
       have HN := Lib.hid hN
       clear hN
       have c4 : w1.cell? ⟨w.heap.size, 0, none⟩ = some (.bool m) := (hb1.cell (by simp; omega)).trans c0
       have c5 : w1.cell? ⟨w.heap.size, 1, none⟩ = some (.slice ad n c) := (hb1.cell (by simp; omega)).trans c1
       have H3 := Lib.hid ((H1.out.below HB.out).below (bl_trans (bl_drew1 _) hb1)))
    | (go_at_call 36; (with_reducible refine (plus_c _ x z (-y) w1 H3.out HN.out b1 (by omega)).mono ?_); rintro e w2 ⟨x2, rfl, hN2, hb2⟩
       have HN2 := Lib.hid hN2
       clear hN2)
    | (go_at_call 39; (with_reducible refine (sign_num x2 (z + -y) w2 HN2.out).mono ?_); rintro e w3 ⟨rfl, hb3⟩))
  all_goals
    go_wp2
    exact bodyPost_ret (v := .int .i64 (sgZ (z + -y))) (by simp [results, Try.results21, go_sem]) rfl ⟨by rw [Int.sub_eq_add_neg], bl_trans (bl_trans (bl_trans (bl_trans HB.out (bl_drew1 _)) hb1) hb2) hb3⟩

theorem dval_dgt (a b c d : Int) (hA : In4 a b c d) : dval (dgt a b c d) 16 = V4 a b c d := by
  obtain ⟨i0, i1, i2, i3⟩ := hA
  unfold In1 at i0 i1 i2 i3
  have e : ∀ q t, q < 4 → t < 4 → dgt a b c d (4 * q + t) = lim a b c d q / 65536 ^ t % 65536 := fun q t h1 h2 => dgt_at a b c d q t h1 h2
  simp only [dval]
  rw [show dgt a b c d 0 = a / 65536 ^ 0 % 65536 from e 0 0 (by omega) (by omega), show dgt a b c d 1 = a / 65536 ^ 1 % 65536 from e 0 1 (by omega) (by omega), show dgt a b c d 2 = a / 65536 ^ 2 % 65536 from e 0 2 (by omega) (by omega), show dgt a b c d 3 = a / 65536 ^ 3 % 65536 from e 0 3 (by omega) (by omega),
    show dgt a b c d 4 = b / 65536 ^ 0 % 65536 from e 1 0 (by omega) (by omega), show dgt a b c d 5 = b / 65536 ^ 1 % 65536 from e 1 1 (by omega) (by omega), show dgt a b c d 6 = b / 65536 ^ 2 % 65536 from e 1 2 (by omega) (by omega), show dgt a b c d 7 = b / 65536 ^ 3 % 65536 from e 1 3 (by omega) (by omega),
    show dgt a b c d 8 = c / 65536 ^ 0 % 65536 from e 2 0 (by omega) (by omega), show dgt a b c d 9 = c / 65536 ^ 1 % 65536 from e 2 1 (by omega) (by omega), show dgt a b c d 10 = c / 65536 ^ 2 % 65536 from e 2 2 (by omega) (by omega), show dgt a b c d 11 = c / 65536 ^ 3 % 65536 from e 2 3 (by omega) (by omega),
    show dgt a b c d 12 = d / 65536 ^ 0 % 65536 from e 3 0 (by omega) (by omega), show dgt a b c d 13 = d / 65536 ^ 1 % 65536 from e 3 1 (by omega) (by omega), show dgt a b c d 14 = d / 65536 ^ 2 % 65536 from e 3 2 (by omega) (by omega), show dgt a b c d 15 = d / 65536 ^ 3 % 65536 from e 3 3 (by omega) (by omega)]
  have k : ∀ x : Int, 0 ≤ x ∧ x < 18446744073709551616 → x / 65536 ^ 0 % 65536 + x / 65536 ^ 1 % 65536 * 65536 + x / 65536 ^ 2 % 65536 * 4294967296 + x / 65536 ^ 3 % 65536 * 281474976710656 = x := by
    intro x hx
    simp only [show (65536 : Int) ^ 3 = 281474976710656 from rfl, show (65536 : Int) ^ 2 = 4294967296 from rfl, show (65536 : Int) ^ 1 = 65536 from rfl, show (65536 : Int) ^ 0 = 1 from rfl]
    omega
  have ka := k a i0
  have kb := k b i1
  have kc := k c i2
  have kd := k d i3
  generalize a / 65536 ^ 0 % 65536 = a0 at *
  generalize a / 65536 ^ 1 % 65536 = a1 at *
  generalize a / 65536 ^ 2 % 65536 = a2 at *
  generalize a / 65536 ^ 3 % 65536 = a3 at *
  generalize b / 65536 ^ 0 % 65536 = b0 at *
  generalize b / 65536 ^ 1 % 65536 = b1 at *
  generalize b / 65536 ^ 2 % 65536 = b2 at *
  generalize b / 65536 ^ 3 % 65536 = b3 at *
  generalize c / 65536 ^ 0 % 65536 = c0 at *
  generalize c / 65536 ^ 1 % 65536 = c1 at *
  generalize c / 65536 ^ 2 % 65536 = c2 at *
  generalize c / 65536 ^ 3 % 65536 = c3 at *
  generalize d / 65536 ^ 0 % 65536 = d0 at *
  generalize d / 65536 ^ 1 % 65536 = d1 at *
  generalize d / 65536 ^ 2 % 65536 = d2 at *
  generalize d / 65536 ^ 3 % 65536 = d3 at *
  unfold V4
  omega

theorem of_num (m : Bool) (a b c d : Int) (hA : In4 a b c d) (w : World) :
    Calls Try.prog 20 #[(.agg #[.bool m, .int .u64 a, .int .u64 b, .int .u64 c, .int .u64 d])] w fun e w' => ∃ v, e = .returned v ∧ NumIs v (WV m a b c d) w' ∧ Below w.heap.size w w' := by
  refine (refOf_c m a b c d hA w).mono ?_
  rintro e w' ⟨n, g, cap, hn, rfl, h1, h2, h3, h4, h5⟩
  have hz' := trim_zero a b c d hA n hn
  have hn16 : n ≤ 16 := by have := hn.1; rw [dsOf_len] at this; exact this
  refine ⟨_, rfl, ⟨_, _, n, cap, dgt a b c d, rfl, ⟨dgt_bound a b c d, hz'.1, hn.2.2, .inr ⟨g, rfl, h2, h3, h1, fun j hj => h4.out j (by omega)⟩⟩, fun h => by simp [h], ?_⟩, h5⟩
  rw [← dval_ge hz'.1 hn16, dval_dgt a b c d hA]
  rcases Nat.eq_zero_or_pos n with h | h
  · have : V4 a b c d = 0 := by
      have := hz'.2
      omega
    cases m <;> simp [WV, sg, this]
  · cases m <;> simp [WV, sg, h]
end Go.Proofs.Ytpockemjfbaheaa
