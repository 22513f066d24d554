/-
  Contract of the document's side: Small.
-/
import Derived.Test.YtojfggnimmaemaaRefNum
namespace Go.Proofs.Ytojfggnimmaemaa
open Go.RowKit

def SmallI (B : Nat) (W2 : World) (m : Bool) (Z : Int) (dv xv : Value) (W : World) : Prop :=
  ∃ (ds : List Int) (X : Int), xv = .int .i64 (sg m * X) ∧ Rw B W2 dv ds W ∧ Bd ds ∧ Hid (Z = lval ds + X * 65536 ^ ds.length) ∧ 0 ≤ X ∧ X ≤ Z ∧ ds.length ≤ 4

theorem small_len {ds : List Int} {Z X : Int} (hB : Bd ds) (hq : Z = lval ds + X * 65536 ^ ds.length) (hZ : Z ≤ 9223372036854775808) (h0 : 0 < X) : ds.length ≤ 3 := by
  rcases Nat.lt_or_ge 3 ds.length with h | h
  · exfalso
    have c5 : (65536 : Int) ^ 4 ≤ 65536 ^ ds.length := p16_le (by omega)
    have c6 : 1 * (65536 : Int) ^ ds.length ≤ X * 65536 ^ ds.length := Int.mul_le_mul_of_nonneg_right (by omega) (by have := p16_pos ds.length; omega)
    have c7 := (lval_bound hB).1
    rw [show (65536 : Int) ^ 4 = 18446744073709551616 from rfl] at c5
    omega
  · exact h
theorem small_step {ds : List Int} {Z X : Int} (hq : Z = lval ds + X * 65536 ^ ds.length) :
    Z = lval (ds ++ [X % 65536]) + X / 65536 * 65536 ^ (ds ++ [X % 65536]).length := by
  rw [lval_snoc, List.length_append, List.length_singleton, Int.pow_succ, hq]
  have e2 : X / 65536 * (65536 ^ ds.length * 65536) = X / 65536 * 65536 * 65536 ^ ds.length := by
    rw [Int.mul_comm (65536 ^ ds.length), Int.mul_assoc]
  have e3 : X * 65536 ^ ds.length = (X % 65536 + X / 65536 * 65536) * 65536 ^ ds.length := by
    congr 1; omega
  rw [e2, e3, Int.add_mul]
  omega
theorem sg_tdiv (m : Bool) (X : Int) (h : 0 ≤ X) : (sg m * X).tdiv 65536 = sg m * (X / 65536) ∧ (sg m * X).tmod 65536 = sg m * (X % 65536) := by
  cases m
  · simp only [sg, Bool.false_eq_true, if_false, Int.one_mul]
    exact ⟨Int.tdiv_eq_ediv_of_nonneg h, Int.tmod_eq_emod_of_nonneg h⟩
  · have e1 : (-1 : Int) * X = -X := by omega
    have e2 : (-1 : Int) * (X / 65536) = -(X / 65536) := by omega
    have e3 : (-1 : Int) * (X % 65536) = -(X % 65536) := by omega
    simp only [sg, if_true]
    rw [e1, e2, e3, Int.neg_tdiv, Int.neg_tmod, Int.tdiv_eq_ediv_of_nonneg h, Int.tmod_eq_emod_of_nonneg h]
    exact ⟨rfl, rfl⟩

set_option maxHeartbeats 1000000 in
set_option maxRecDepth 100000 in
theorem small_num (z : Int) (h0 : -9223372036854775808 ≤ z) (h1 : z ≤ 9223372036854775807) (w : World) :
    Calls Try.prog 37 #[.int .i64 z] w fun e w' => ∃ v, e = .returned v ∧ NumIs v z w' ∧ Below w.heap.size w w' := by
  obtain ⟨i0, hi, hz0, hz1, hz2⟩ := info_parts info_int
  obtain ⟨m, Z, hm, hz, hZ0, hZ1⟩ : ∃ (m : Bool) (Z : Int), decide (z < 0) = m ∧ z = sg m * Z ∧ 0 ≤ Z ∧ Z ≤ 9223372036854775808 := by
    by_cases h : z < 0
    · exact ⟨true, -z, by simp; omega, by simp [sg], by omega, by omega⟩
    · exact ⟨false, z, by simp; omega, by simp [sg], by omega, by omega⟩
  have HZ := Lib.hid hz
  clear hz
  go_enter Try.func37, Try.ntmps37
  go_wp2
  refine wp_abs (fun W => w.heap.size + 1 ≤ W.heap.size ∧ Below w.heap.size w W ∧ W.frozen? ⟨w.heap.size, 0, none⟩ = false ∧ W.frozen? ⟨w.heap.size, 1, none⟩ = false ∧ W.cell? ⟨w.heap.size, 0, none⟩ = some (.bool false) ∧ W.cell? ⟨w.heap.size, 1, none⟩ = some (.slice none 0 0)) ?_ ?_
  · refine ⟨by simp, by repeat (first | (with_reducible exact Below.refl _ _) | (with_reducible refine bl_alloc ?_ _) | (with_reducible refine Below.drew ?_) | (with_reducible refine below_drewN' ?_ _) | ((with_reducible refine bl_set ?_ ?_ _); (rotate_left; (dsimp only; omega)))), ?_, ?_, ?_, ?_⟩ <;> simp [go_sem]
  rintro W2 ⟨hs, hb2, f0, f1, z0, z1⟩
  have HF : Hid (W2.frozen? ⟨w.heap.size, 0, none⟩ = false ∧ W2.frozen? ⟨w.heap.size, 1, none⟩ = false ∧ W2.cell? ⟨w.heap.size, 0, none⟩ = some (.bool false) ∧ W2.cell? ⟨w.heap.size, 1, none⟩ = some (.slice none 0 0)) := ⟨f0, f1, z0, z1⟩
  clear f0 f1 z0 z1
  go_loopw [3, 4] (fun dv xv W => SmallI W2.heap.size W2 m Z dv xv W) (fun _ xv _ => (sg m * intOf xv).toNat)
  case atStart => exact ⟨[], Z, by rw [← HZ.out], Rw.nil (Nat.le_refl _), bd_nil, by unfold Hid; simp [lval, dval], hZ0, by omega, by simp⟩
  case round =>
    obtain ⟨ds, X, rfl, hR, hB, HQ, hX0, hXZ, hl4⟩ := hrel
    have HR := Lib.hid hR
    have HB := Lib.hid hB
    have hRs := hR.sz
    clear hR hB
    by_cases hx0 : X = 0
    · subst hx0
      have hdone : Hid (Z = lval ds) := by have := HQ.out; unfold Hid; rw [this]; simp
      have hx1 : (sg m * 0 == 0) = true := by simp
      have hbW : Hid (Below w.heap.size w wr ∧ wr.frozen? ⟨w.heap.size, 0, none⟩ = false ∧ wr.frozen? ⟨w.heap.size, 1, none⟩ = false ∧ wr.cell? ⟨w.heap.size, 0, none⟩ = some (.bool false) ∧ wr.cell? ⟨w.heap.size, 1, none⟩ = some (.slice none 0 0)) :=
        ⟨bl_trans hb2 HR.out.hb, (HR.out.hb.frozen (by dsimp only; omega)).trans HF.out.1, (HR.out.hb.frozen (by dsimp only; omega)).trans HF.out.2.1, (HR.out.hb.cell (by dsimp only; omega)).trans HF.out.2.2.1, (HR.out.hb.cell (by dsimp only; omega)).trans HF.out.2.2.2⟩
      go_wp2_with fail
      refine (trim_row m HR.out HB.out).mono ?_
      rintro e w3 ⟨u, rfl, hN, hb3⟩
      obtain ⟨m3, ad3, n3, cap3, f3, rfl, hD3, hm3, hz3⟩ := hN
      have HD := Lib.hid hD3
      clear hD3
      have f0 : w3.frozen? ⟨w.heap.size, 0, none⟩ = false := (hb3.frozen (by dsimp only; omega)).trans hbW.out.2.1
      have f1 : w3.frozen? ⟨w.heap.size, 1, none⟩ = false := (hb3.frozen (by dsimp only; omega)).trans hbW.out.2.2.1
      have z0 : w3.cell? ⟨w.heap.size, 0, none⟩ = some (.bool false) := (hb3.cell (by dsimp only; omega)).trans hbW.out.2.2.2.1
      have z1 : w3.cell? ⟨w.heap.size, 1, none⟩ = some (.slice none 0 0) := (hb3.cell (by dsimp only; omega)).trans hbW.out.2.2.2.2
      go_wp2
      refine bodyPost_ret (v := .agg #[.bool m3, .slice ad3 n3 cap3]) (by simp [results, Try.results37, go_sem, z0, z1]) rfl ⟨_, rfl, ⟨m3, ad3, n3, cap3, f3, rfl, HD.out.res z0 _ _, hm3, by rw [HZ.out, hdone.out]; exact hz3⟩, ?_⟩
      have hb5 : Below w.heap.size w w3 := bl_trans hbW.out.1 hb3
      exact bl_set (bl_set hb5 (by dsimp only; omega) _) (by dsimp only; omega) _
    · have hl : ds.length ≤ 3 := small_len HB.out HQ.out hZ1 (by omega)
      have hts := sg_tdiv m X hX0
      obtain ⟨x, hx⟩ : ∃ x, x = sg m * X := ⟨_, rfl⟩
      obtain ⟨q, hq⟩ : ∃ q, q = sg m * (X / 65536) := ⟨_, rfl⟩
      obtain ⟨rr, hrr⟩ : ∃ rr, rr = sg m * (X % 65536) := ⟨_, rfl⟩
      rw [← hx, ← hq, ← hrr] at hts
      rw [← hx]
      have hx1 : (x == 0) = false := by simp; rw [hx]; cases m <;> simp [sg] <;> omega
      have hsel : (decide (rr < 0) = true ∧ rr < 0 ∧ -rr = X % 65536) ∨ (decide (rr < 0) = false ∧ rr = X % 65536) := by
        cases m
        · simp [sg] at hrr
          exact .inr ⟨by simp; omega, by omega⟩
        · simp [sg] at hrr
          by_cases h : rr < 0
          · exact .inl ⟨by simp; omega, h, by omega⟩
          · exact .inr ⟨by simp; omega, by omega⟩
      have brr : -65536 < rr ∧ rr < 65536 := by omega
      have bq : -9223372036854775808 ≤ q ∧ q ≤ 9223372036854775807 := by rw [hq]; cases m <;> simp [sg] <;> omega
      have hme : Hid ((sg m * q).toNat < (sg m * x).toNat) := by
        unfold Hid; rw [hq, hx]
        cases m <;> simp [sg] <;> omega
      have HQQ := Lib.hid hq
      have t1 := hts.1
      have t2 := hts.2
      clear hq hx hrr hts
      rcases hsel with ⟨s1, s2, s3⟩ | ⟨s1, s3⟩
      case' inl =>
        have en : IntKind.i64.wrap (-rr) = X % 65536 := by rw [s3]; exact IntWalk.i64_in _ (by omega)
        have en' : wrap64 (-rr) = X % 65536 := by rw [s3]; unfold wrap64; omega
        clear s3
      case' inr => subst s3
      all_goals
        go_wp2_with (first
          | (at_builtin; refine wpList_append_own _ rfl _ _ 40 rfl W2.heap.size 3 i0 (.int .i64 0) 1 8 Try.underlying40 hi hz0 hz1 hz2 rfl (by decide) _ _ _ rfl (HR.out.alloc _).own ⟨wr.heap.size, 0, none⟩ 1 1 [.int .i64 (X % 65536)] rfl rfl (cell_one_new _ _ _) (by intro u hu; simp at hu; subst hu; rfl) (by unfold maxLen; omega) (by omega) (by simp; omega) ?_)
          | go_in)
        intro v' w1 hown' hgrow _
        have R : Hid (Rw W2.heap.size W2 v' (ds ++ [X % 65536]) w1) := (HR.out.alloc _).more hown' hgrow
        clear hown' hgrow
        go_wp2
        go_roundw
        case rel =>
          refine ⟨ds ++ [X % 65536], X / 65536, by rw [← HQQ.out], R.out, bd_snoc HB.out (by omega) (by omega), small_step HQ.out, by omega, by omega, by simp; omega⟩
        case measure => simp only [intOf]; exact hme.out
end Go.Proofs.Ytojfggnimmaemaa
