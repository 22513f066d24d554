/-
  Contract of the document's side: tenth.
-/
import Derived.Test.YtdpbmkfgolemjaaDoorAreas
set_option linter.unusedVariables false
set_option linter.unusedSimpArgs false
set_option linter.deprecated false
namespace Go.Proofs.YtdpbmkfgolemjaaDoor
open Go.RowKit

/-- ahead of place k - 1 -/
def TenR (w : World) (g n : Nat) (f : Nat → Int) (lv iv : Value) (W : World) : Prop :=
  ∃ (ds : List Int) (left : Int) (k : Nat), lv = .int .i64 left ∧ iv = .int .i64 ((k : Int) - 1) ∧ k ≤ n ∧ 0 ≤ left ∧ left < 10 ∧ Rw g w (.slice (some ⟨g, 0, none⟩) n n) ds W ∧ ds.length = n ∧ Bd ds ∧
    Hid ((∀ j, j < k → ds.getD j 0 = 0) ∧ dval f n - dval f k = 10 * lval ds + left * 65536 ^ k)
theorem ten_step {ds : List Int} {f : Nat → Int} {n i : Nat} {left x : Int} (h : (∀ j, j < i + 1 → ds.getD j 0 = 0) ∧ dval f n - dval f (i + 1) = 10 * lval ds + left * 65536 ^ (i + 1)) (hl : i < ds.length) (hx : x = left * 65536 + f i) :
    (∀ j, j < i → (ds.set i (x / 10)).getD j 0 = 0) ∧ dval f n - dval f i = 10 * lval (ds.set i (x / 10)) + x % 10 * 65536 ^ i := by
  refine ⟨fun j hj => ?_, ?_⟩
  · rw [getD_set _ _ _ _ hl, if_neg (by omega)]; exact h.1 j (by omega)
  · rw [lval_set _ _ _ hl, h.1 i (by omega)]
    have h2 := h.2
    simp only [dval, Int.pow_succ] at h2
    generalize hP : (65536 : Int) ^ i = P at *
    have e1 : left * (P * 65536) = left * 65536 * P := by rw [Int.mul_comm P, Int.mul_assoc]
    have e2 : 10 * ((x / 10 - 0) * P) + x % 10 * P = x * P := by
      rw [Int.sub_zero, ← Int.mul_assoc, ← Int.add_mul]; congr 1; omega
    have e3 : x * P = left * 65536 * P + f i * P := by rw [hx, Int.add_mul]
    rw [Int.mul_add]
    omega
theorem tenB (left y : Int) (h0 : 0 ≤ left) (h1 : left < 10) (h2 : 0 ≤ y) (h3 : y < 65536) : 0 ≤ left * 65536 + y ∧ left * 65536 + y < 655360 := by omega
theorem tenW (left : Int) (h0 : 0 ≤ left) (h1 : left < 10) : wrap64 (left * 65536) = left * 65536 := by unfold wrap64; omega
theorem tenX (x : Int) (h0 : 0 ≤ x) (h1 : x < 655360) : wrap64 x = x := by unfold wrap64; omega
theorem tenQ (x : Int) (h0 : 0 ≤ x) : x.tdiv 10 = x / 10 ∧ x.tmod 10 = x % 10 := ⟨Int.tdiv_eq_ediv_of_nonneg h0, Int.tmod_eq_emod_of_nonneg h0⟩
theorem tenR (x : Int) (h0 : 0 ≤ x) (h1 : x < 655360) : 0 ≤ x / 10 ∧ x / 10 < 65536 ∧ 0 ≤ x % 10 ∧ x % 10 < 10 := by omega
theorem wrapM (i : Nat) (h : i ≤ 101) : wrap64 ((i : Int) - 1) = (i : Int) - 1 := by unfold wrap64; omega

theorem fld_num (m : Bool) (ad : Option Addr) (n c : Nat) (w : World) : (Instr.field 57 (.agg #[.bool m, .slice ad n c]) 1).run Tryd.prog w = .ok (.slice ad n c) w := by kernel_rfl

set_option maxHeartbeats 4000000 in
set_option maxRecDepth 100000 in
theorem refTenth_c (ad : Option Addr) (n c : Nat) (f : Nat → Int) (hn : n ≤ 100) (hp : 0 < n) (w : World) (hd : DigAt w ad n c f) :
    Calls Tryd.prog 36 #[.slice ad n c] w fun e w' => ∃ ad' n' c' f' r, e = .returned (.tuple #[.slice ad' n' c', .int .i64 r]) ∧ DigAt w' ad' n' c' f' ∧ dval f n = 10 * dval f' n' + r ∧ 0 ≤ r ∧ r < 10 ∧ Below w.heap.size w w' := by
  obtain ⟨i0, hi, hz0, hz1, hz2⟩ := info_parts info_int
  have D1 := Lib.hid hd
  clear hd
  go_enter Tryd.func36, Tryd.ntmps36
  go_upto_region 1 with (fail)
  go_wp2_with (first
    | (refine wpList_make_full _ rfl _ _ 55 rfl w.heap.size 3 i0 (.int .i64 0) 1 Tryd.underlying55 hi hz0 hz1 .i64 .i64 _ _ n rfl rfl (by omega) (by omega) (by rw [hz2]; omega) (by unfold maxLen; omega) (Nat.le_refl _) ?_)
    | go_in)
  intro W3 hown hgrow
  have R0 : Hid (Rw w.heap.size w (.slice (some ⟨w.heap.size, 0, none⟩) n n) (List.replicate n 0) W3) := by
    refine ⟨?_, (Below.refl _ _).grown hgrow (Nat.le_refl _) (fun k e => by cases e), Nat.le_trans (Nat.le_refl _) hgrow.size⟩
    rw [toList_madeCells_one] at hown
    simpa using hown
  clear hown hgrow
  have hwn : wrap64 ((n : Int) - 1) = (n : Int) - 1 := wrapM n (by omega)
  generalize hg : w.heap.size = g at *
  have HG := Lib.hid hg
  clear hg
  go_wp2
  go_loopw [5, 6] (fun lv iv W => TenR w g n f lv iv W) (fun _ iv _ => (intOf iv + 1).toNat)
  case atStart => exact ⟨_, 0, n, rfl, by first | rfl | simp, by omega, by omega, by omega, R0.out, by simp, bd_rep _, ⟨fun j _ => getD_rep _ j, by rw [lval_rep]; simp⟩⟩
  case round =>
    obtain ⟨ds, left, k, rfl, rfl, hk, hl0, hl1, hR, hlen, hB, HQ⟩ := hrel
    have HR := Lib.hid hR
    have HB := Lib.hid hB
    have hRs := hR.sz
    clear hR hB
    by_cases hgo : 0 < k
    · obtain ⟨i, rfl⟩ : ∃ i, k = i + 1 := ⟨k - 1, by omega⟩
      have ei : ((i + 1 : Nat) : Int) - 1 = (i : Int) := by omega
      rw [ei]
      have hin : i < n := by omega
      have hii : (i : Int) < (n : Int) := by omega
      have hDa : Hid (DigAt wr ad n c f) := D1.out.below (by rw [HG.out]; exact HR.out.hb)
      obtain ⟨hat, hgB, hgl⟩ := HR.out.at hlen
      have c3 := (hat i hin).1
      have hfr := (hat i hin).2
      clear hat
      rcases hDa.out.mem with h0 | ⟨ga, rfl, y1, y2, y3, y4⟩
      · omega
      have c4 : wr.cell? ⟨ga, i, none⟩ = some (.int .i64 (f i)) := y4.out i hin
      clear y4
      have hfb := hDa.out.bd i
      obtain ⟨y, hy⟩ : ∃ y, y = f i := ⟨_, rfl⟩
      rw [← hy] at c4 hfb
      have HY := Lib.hid hy
      clear hy
      obtain ⟨x, hx, hx0, hx1⟩ : ∃ x, x = left * 65536 + y ∧ 0 ≤ x ∧ x < 655360 := ⟨_, rfl, (tenB _ _ hl0 hl1 hfb.1 hfb.2).1, (tenB _ _ hl0 hl1 hfb.1 hfb.2).2⟩
      have w1 : wrap64 (left * 65536) = left * 65536 := tenW left hl0 hl1
      have w2 : wrap64 (left * 65536 + y) = x := by rw [← hx]; exact tenX x hx0 hx1
      have hq := tenQ x hx0
      have hr := tenR x hx0 hx1
      have HX := Lib.hid hx
      obtain ⟨q, eq⟩ : ∃ q, q = x / 10 := ⟨_, rfl⟩
      obtain ⟨r, er⟩ : ∃ r, r = x % 10 := ⟨_, rfl⟩
      rw [← eq, ← er] at hq hr
      obtain ⟨hq1, hq2⟩ := hq
      have hwq : wrap64 q = q := by have := hr.1; have := hr.2.1; exact tenX q (by omega) (by omega)
      have HR2 := Lib.hid hr
      have HE := Lib.hid (show q = x / 10 ∧ r = x % 10 from ⟨eq, er⟩)
      have wm := wrapM i (by omega)
      have HB2 : Hid (ds.length = n ∧ i + 1 ≤ n ∧ 0 ≤ left ∧ left < 10) := ⟨hlen, hk, hl0, hl1⟩
      clear hx hr eq er hfb hx0 hx1 hDa hgB hRs hlen hl0 hl1 hk hn y1 y2 hgo ei hwn
      go_wp2
      go_roundw
      case rel =>
        obtain ⟨hlen, hk, hl0, hl1⟩ := HB2.out
        have hr := HR2.out
        refine ⟨ds.set i q, r, i, rfl, by first | rfl | rw [wm], by omega, hr.2.2.1, hr.2.2.2, HR.out.put hlen i q, by rw [List.length_set]; exact hlen, bd_set HB.out (by omega) hr.1 hr.2.1, ?_⟩
        rw [HE.out.1, HE.out.2]
        exact ten_step HQ.out (by omega) (by rw [HX.out, HY.out])
      case measure => simp [intOf] <;> omega
    · obtain rfl : k = 0 := by omega
      have hTR := Lib.hid (trim_row false HR.out HB.out)
      have hval : Hid (dval f n = 10 * lval ds + left) := by
        have := HQ.out.2
        simp only [dval] at this
        unfold Hid; omega
      have hb0 := (lval_bound HB.out).1
      go_wp2_with fail
      refine hTR.out.mono ?_
      rintro e w3 ⟨u, rfl, hN3, hb3⟩
      obtain ⟨m3, ad3, n3, cap3, f3, rfl, hD3, hm3, hz3⟩ := hN3
      have HD := Lib.hid hD3
      have hv : dval f3 n3 = lval ds := by
        have h2 := (dval_bound hD3.bd n3).1
        cases m3 <;> simp [sg] at hz3 <;> omega
      have HV := Lib.hid hv
      clear hD3 hv hz3 hb0
      have HBB := Lib.hid (show Below w.heap.size w w3 from bl_trans (by rw [HG.out]; exact HR.out.hb) hb3)
      have fld := fld_num m3 ad3 n3 cap3
      go_wp2
      go_ret2
      exact ⟨ad3, n3, cap3, f3, left, rfl, HD.out, by rw [HV.out]; exact hval.out, hl0, hl1, HBB.out⟩
end Go.Proofs.YtdpbmkfgolemjaaDoor
