/-
  Contract of options.decimal.
-/
import Derived.Test.YtoglibmdpgfpaaaDoorOpRds
import Derived.Laws.Cover4
import Derived.LoopN
import Derived.Test.YtoglibmdpgfpaaaDoorOpAll
import Derived.Test.YtoglibmdpgfpaaaDoorRefNumW
import Derived.Test.YtoglibmdpgfpaaaDoorRefText
import Derived.Test.YtoglibmdpgfpaaaDoorOpMks
set_option linter.unusedVariables false
set_option linter.unusedSimpArgs false
set_option linter.deprecated false
namespace Go.Proofs.YtoglibmdpgfpaaaDoor
open Go.RowKit

def rv6 (l : List Int) : List Value := l.map fun x => .int .i32 x
theorem info_i32 : (Tryd.prog.info? 21).map (fun i => (i.zero, i.size, i.bytes)) = some (some (.int .i32 0), 1, 4) := by kernel_rfl
/-- a row of runes, the call's own -/
structure Rn6 (W0 : World) (v : Value) (L : List Int) (W : World) : Prop where
  own : W.ownsRow W0.heap.size 21 1 v L.length (rv6 L)
  hb : Below W0.heap.size W0 W
  sz : W0.heap.size ≤ W.heap.size
theorem Rn6.alloc {W0 W : World} {v : Value} {L : List Int} (h : Rn6 W0 v L W) (o : Obj) : Rn6 W0 v L (W.alloc o) :=
  ⟨h.own.alloc o, h.hb.alloc h.sz o, by simp; have := h.sz; omega⟩
theorem Rn6.more {W0 W W' : World} {v v' : Value} {L : List Int} {x : Int} (h : Rn6 W0 v L W) (ho : W'.ownsRow W0.heap.size 21 1 v' (L.length + 1) (rv6 L ++ rv6 [x])) (hg : W.grownBy W' v.ownBlock) : Rn6 W0 v' (L ++ [x]) W' :=
  ⟨by rw [List.length_append]; unfold rv6 at *; rw [List.map_append]; exact ho, h.hb.grown hg h.sz (fun k e => (h.own.lt k e).1), Nat.le_trans h.sz hg.size⟩
theorem rv_one6 (l : List Int) : ∀ u ∈ rv6 l, u.oneCell' = true := by
  intro u hu
  simp [rv6] at hu
  obtain ⟨d, -, rfl⟩ := hu
  rfl
theorem Rn6.var {W0 W : World} {v : Value} {L : List Int} (h : Rn6 W0 v L W) (hl : 0 < L.length) : ∃ g cp, v = .slice (some ⟨g, 0, none⟩) L.length cp ∧ W0.heap.size ≤ g ∧ Var W g (rv6 L) := by
  have ho := h.own
  rcases ho.2 with ⟨-, hn⟩ | ⟨g, cap, cur, rfl, hg, hh, -⟩
  · omega
  · refine ⟨g, cap, rfl, hg, (Array.getElem?_eq_some_iff.1 hh).1, fun i hi => ?_, fun i _ => ho.frozenAt i⟩
    have hi' : i < L.length := by simpa [rv6] using hi
    rw [ho.cellAt i (by omega)]
    exact List.getElem?_eq_getElem hi
theorem dig_step6 {f k : Nat} (h0 : k ≠ 0) (hk : k < 10 ^ f) : ∃ f', f = f' + 1 ∧ k / 10 < 10 ^ f' ∧ digs f k = digs f' (k / 10) ++ [48 + ((k % 10 : Nat) : Int)] := by
  cases f with
  | zero => simp at hk; omega
  | succ f =>
    refine ⟨f, rfl, ?_, ?_⟩
    · rw [Nat.pow_succ] at hk
      exact Nat.div_lt_of_lt_mul (by omega)
    · show (if k = 0 then [] else _) = _
      rw [if_neg h0]
theorem dec_len6 : ∀ n, n < 101 → 0 < n → 1 ≤ (dec6 n).length ∧ (dec6 n).length ≤ 3 := by decide +kernel
theorem dec_dig6 : ∀ n, n < 101 → (dec6 n).all (fun d => decide (48 ≤ d) && decide (d ≤ 57)) = true := by decide +kernel
theorem runes_nums6 : ∀ (l : List Int), (∀ d ∈ l, 48 ≤ d ∧ d ≤ 57) → nums (runesBytes l) = l := by
  have key : ∀ (l : List Int) (s : ByteArray), (∀ d ∈ l, 48 ≤ d ∧ d ≤ 57) → nums (l.foldl (fun r n => r ++ Utf8.encode n) s) = nums s ++ l := by
    intro l
    induction l with
    | nil => intro s _; simp
    | cons d l ih =>
      intro s h
      rw [List.foldl_cons, ih _ (fun x hx => h x (by simp [hx])), nums_append]
      have hd := h d (by simp)
      have e : nums (Utf8.encode d) = [d] := by
        have : d = 48 ∨ d = 49 ∨ d = 50 ∨ d = 51 ∨ d = 52 ∨ d = 53 ∨ d = 54 ∨ d = 55 ∨ d = 56 ∨ d = 57 := by omega
        rcases this with rfl | rfl | rfl | rfl | rfl | rfl | rfl | rfl | rfl | rfl <;> decide
      rw [e]
      simp
  intro l h
  have := key l ByteArray.empty h
  rw [show nums ByteArray.empty = [] from rfl, List.nil_append] at this
  exact this
theorem Var.set1_6 {W : World} {g : Nat} {vs : List Value} (h : Var W g vs) {i : Nat} (hi : i < vs.length) (x : Value) : Var (W.setCell ⟨g, i, none⟩ x) g (vs.set i x) := by
  refine ⟨by simpa using h.lt, fun k hk => ?_, fun k hk => by simpa using h.free k (by simpa using hk)⟩
  by_cases e : i = k
  · subst e
    rw [List.getElem_set_self]
    exact World.cell?_setCell_same _ _ _ (h.cells i hi)
  · rw [List.getElem_set_ne e]
    exact (World.cell?_setCell_other _ _ _ _ (by intro e'; injection e' with e1 e2; omega)).trans (h.cells k (by simpa using hk))
set_option maxHeartbeats 8000000 in
set_option maxRecDepth 100000 in
theorem rev_l (L : List Int) (h1 : 1 ≤ L.length) (h3 : L.length ≤ 3) (g cp : Nat) (W : World) (hV : Var W g (rv6 L)) :
    Calls Tryd.prog 76 #[.slice (some ⟨g, 0, none⟩) L.length cp] W fun e W' => e = .returned (.tuple #[]) ∧ Var W' g (rv6 L.reverse) ∧ ∀ B, B ≤ g → Below B W W' := by
  match L, h1, h3, hV with
  | [a], _, _, hV =>
    go_enter Tryd.func76, Tryd.ntmps76
    go_wp2_with fail
    refine wp_loop_rounds 2 ?_
    rw [rounds_succ]
    go_wp2_with fail
    go_end0
    exact ⟨rfl, hV, fun B _ => Below.refl _ _⟩
  | [a, b], _, _, hV =>
    have c0 : W.cell? ⟨g, 0, none⟩ = some (.int .i32 a) := hV.cells 0 (by simp [rv6])
    have c1 : W.cell? ⟨g, 1, none⟩ = some (.int .i32 b) := hV.cells 1 (by simp [rv6])
    have f0 := hV.free 0 (by simp [rv6])
    have f1 := hV.free 1 (by simp [rv6])
    have HV := Lib.hid hV
    clear hV
    go_enter Tryd.func76, Tryd.ntmps76
    go_wp2_with fail
    refine wp_loop_rounds 2 ?_
    rw [rounds_succ]
    go_wp2_with fail
    go_region
    all_goals
      go_wp2_with fail
      rw [rounds_succ]
      go_wp2_with fail
      go_end0
      exact ⟨rfl, ((HV.out.set1_6 (i := 0) (by simp [rv6]) (.int .i32 b)).set1_6 (i := 1) (by simp [rv6]) (.int .i32 a)).below (bel_drew _), fun B hB => (((Below.refl _ _).setCell hB _).setCell hB _).drew⟩
  | [a, b, c], _, _, hV =>
    have c0 : W.cell? ⟨g, 0, none⟩ = some (.int .i32 a) := hV.cells 0 (by simp [rv6])
    have c2 : W.cell? ⟨g, 2, none⟩ = some (.int .i32 c) := hV.cells 2 (by simp [rv6])
    have f0 := hV.free 0 (by simp [rv6])
    have f2 := hV.free 2 (by simp [rv6])
    have HV := Lib.hid hV
    clear hV
    go_enter Tryd.func76, Tryd.ntmps76
    go_wp2_with fail
    refine wp_loop_rounds 2 ?_
    rw [rounds_succ]
    go_wp2_with fail
    go_region
    all_goals
      go_wp2_with fail
      rw [rounds_succ]
      go_wp2_with fail
      go_end0
      exact ⟨rfl, ((HV.out.set1_6 (i := 0) (by simp [rv6]) (.int .i32 c)).set1_6 (i := 2) (by simp [rv6]) (.int .i32 a)).below (bel_drew _), fun B hB => (((Below.refl _ _).setCell hB _).setCell hB _).drew⟩
set_option maxHeartbeats 8000000 in
set_option maxRecDepth 100000 in
theorem decimal_l (N : Nat) (hN : 1 ≤ N ∧ N ≤ 100) (w : World) :
    Calls Tryd.prog 57 #[.int .i64 (N : Int)] w fun e W => ∃ s, e = .returned (.string s) ∧ Hid (nums s = dec6 N) ∧ Below w.heap.size w W := by
  obtain ⟨hl1, hl3⟩ := dec_len6 N (by omega) (by omega)
  have hdg := dec_dig6 N (by omega)
  have HD : Hid (∀ d ∈ dec6 N, 48 ≤ d ∧ d ≤ 57) := by
    intro d hd
    have := List.all_eq_true.1 hdg d hd
    simpa using this
  have HL := Lib.hid (And.intro hl1 hl3)
  clear hl1 hl3 hdg
  obtain ⟨i0, hi0, hz0, hz1, hz2⟩ := info_parts info_i32
  go_enter Tryd.func57, Tryd.ntmps57
  go_wp2_with fail
  go_loopw [0, 3] (fun nv rv W => ∃ (k f : Nat) (L : List Int), nv = .int .i64 k ∧ k ≤ 100 ∧ k < 10 ^ f ∧ L.length + f = 4 ∧ Hid (dec6 N = digs f k ++ L.reverse) ∧ Rn6 w rv L W) (fun nv _ _ => (intOf nv).toNat)
  case atStart => exact ⟨N, 4, [], rfl, hN.2, by omega, rfl, by simp [Hid, dec6], World.ownsRow_nil _ _ _ _, Below.refl _ _, Nat.le_refl _⟩
  case round =>
    obtain ⟨k, f, L, rfl, hk, hkf, hLf, HE, hR⟩ := hrel
    have HR := Lib.hid hR
    clear hR
    by_cases h0 : k = 0
    · subst h0
      have hz0' : dec6 N = L.reverse := by
        have := HE.out
        rw [digs_zero] at this
        simpa using this
      have hz := Lib.hid hz0'
      have hLl : L.length = (dec6 N).length := by rw [hz.out, List.length_reverse]
      have hl := HL.out
      obtain ⟨g, cp, rfl, hg, hV⟩ := HR.out.var (by omega)
      have HV := Lib.hid (rev_l L (by omega) (by omega) g cp wr hV)
      have HB := Lib.hid HR.out.hb
      have hLL := Lib.hid hLl
      clear hV HR hLl hl hkf HE
      go_wp2_with fail
      refine HV.out.mono ?_
      rintro e w1 ⟨rfl, hV1, hb1⟩
      have HB1 := Lib.hid (HB.out.trans (hb1 _ hg))
      have hcv := run_convert_runes (P := Tryd.prog) w1 142 9 21 ⟨g, 0, none⟩ L.length cp L.reverse (by simp) Tryd.underlying142 Tryd.underlying21 Tryd.underlying9 (fun j hj => by
        have h9 := hV1.cells j (by simpa [rv6] using hj)
        have add : (⟨g, 0, none⟩ : Addr).add j = ⟨g, j, none⟩ := by unfold Addr.add; split <;> simp_all
        rw [add, h9]
        simp [rv6, List.getD_eq_getElem?_getD, List.getElem?_eq_getElem hj])
      have htk : L.reverse.take L.length = dec6 N := by rw [hz.out, List.take_of_length_le (by simp)]
      rw [htk] at hcv
      have HN := Lib.hid (runes_nums6 (dec6 N) HD.out)
      generalize runesBytes (dec6 N) = sr at *
      clear hV1 hb1 HV HB htk hz hz0'
      go_wp2_with fail
      go_ret
      exact ⟨sr, rfl, HN.out, HB1.out⟩
    · have hk1 : ((0 : Int) < (k : Int)) = True := eq_true (by omega)
      have hk2 : (0 < k) = True := eq_true (by omega)
      obtain ⟨f', rfl, hkf', hst⟩ := dig_step6 h0 hkf
      obtain ⟨r, hr⟩ : ∃ r : Nat, k % 10 = r := ⟨_, rfl⟩
      obtain ⟨q, hq⟩ : ∃ q : Nat, k / 10 = q := ⟨_, rfl⟩
      have hr9 : r < 10 := by omega
      have hqk : q < k := by omega
      have hm : (k : Int).tmod 10 = (r : Int) := by rw [Int.tmod_eq_emod_of_nonneg (by omega)]; omega
      have hd : (k : Int).tdiv 10 = (q : Int) := by rw [Int.tdiv_eq_ediv_of_nonneg (by omega)]; omega
      have hw1 : wrap64 (r : Int) = (r : Int) ∧ wrap32 (r : Int) = (r : Int) ∧ wrap32 (48 + (r : Int)) = 48 + (r : Int) ∧ wrap64 (q : Int) = (q : Int) := by unfold wrap32 wrap64; omega
      obtain ⟨w1, w2, w3, w4⟩ := hw1
      have HW4 := Lib.hid w4
      have HQ : Hid (dec6 N = digs f' q ++ (L ++ [48 + (r : Int)]).reverse) := by
        unfold Hid
        rw [HE.out, hst, hq, hr]
        simp
      have hl3 : L.length ≤ 3 := by omega
      have HP := Lib.hid (And.intro hkf' (And.intro hqk (And.intro hk hLf)))
      rw [hq] at HP
      clear hst hkf hkf' HE h0 hr hq hr9 hqk
      go_wp2_with (first
        | (at_builtin; refine wpList_append_own _ rfl _ _ 142 rfl w.heap.size 21 i0 (.int .i32 0) 1 4 Tryd.underlying142 hi0 hz0 hz1 hz2 rfl (by decide) _ _ _ rfl (HR.out.alloc _).own ⟨wr.heap.size, 0, none⟩ 1 1 (rv6 [48 + (r : Int)]) rfl rfl (cell_one_new _ _ _) (rv_one6 _) (by unfold maxLen; omega) (by omega) (HR.out.alloc _).sz ?_)
        | go_in)
      intro v' w5 hown' hgrow _
      have R := Lib.hid ((HR.out.alloc _).more hown' hgrow)
      clear hown' hgrow
      go_wp2_with fail
      clear w1 w2 w3 w4 hm hd
      go_roundw
      case rel => exact ⟨q, f', L ++ [48 + (r : Int)], by rw [HW4.out], by have := HP.out; omega, HP.out.1, by have := HP.out; simp; omega, HQ.out, R.out⟩
      case measure => have := HP.out; rw [HW4.out]; simp [intOf]; omega
end Go.Proofs.YtoglibmdpgfpaaaDoor

/-
  Contract of options.Print.
-/
namespace Go.Proofs.YtoglibmdpgfpaaaDoor
open Go.RowKit

theorem len_all6 : try6 (fun m b r => decide ((text6 m b r).length ≤ 100)) = true := by decide +kernel
theorem text_len6 {m : Int} {b : Nat} (hm : 1 ≤ m ∧ m ≤ 3) (hb : b ≤ 100) (r : Bool) : (text6 m b r).length ≤ 100 := of_decide_eq_true (try_all6 len_all6 hm hb r)
theorem own_below6 {B n k : Nat} {e : TypeId} {v : Value} {xs : List Value} {W W' : World} (h : W.ownsRow B e n v k xs) (hb : Below W.heap.size W W') : W'.ownsRow B e n v k xs :=
  ⟨h.1, h.2.imp id (fun ⟨g, cap, cur, e1, e2, e3, rest⟩ => ⟨g, cap, cur, e1, e2, (hb.block g (Array.getElem?_eq_some_iff.1 e3).1).trans e3, rest⟩)⟩
theorem Os.below {W0 W W' : World} {v : Value} {L : List ByteArray} (h : Os W0 v L W) (hb : Below W.heap.size W W') : Os W0 v L W' :=
  ⟨own_below6 h.own hb, h.hb.trans (hb.mono h.sz), Nat.le_trans h.sz hb.size⟩
/-- what printing comes to, on both sides -/
def PrintP6 (m b : Int) (r : Bool) (w : World) (e : Ending) (w' : World) : Prop :=
  ((okO6 m b = false ∧ e = .returned (.tuple #[.string ⟨#[]⟩, .int .i64 2])) ∨ (okO6 m b = true ∧ ∃ s, e = .returned (.tuple #[.string s, .int .i64 0]) ∧ nums s = text6 m b.toNat r)) ∧ Below w.heap.size w w'
theorem os_new6 (W0 W : World) (h : W0.heap.size ≤ W.heap.size) (hb : Below W0.heap.size W0 W) (t : ByteArray) : Os W0 (.slice (some ⟨W.heap.size, 0, none⟩) 1 1) [t] (W.alloc (.cells #[.string t] 9)) := by
  refine ⟨⟨rfl, .inr ⟨W.heap.size, 1, #[.string t], rfl, h, World.alloc_heap_new _ _, Nat.le_refl _, by unfold maxLen; omega, rfl, rfl⟩⟩, hb.alloc h _, by simp; omega⟩
def twBud6 : ByteArray := ⟨#[98, 117, 100, 103, 101, 116]⟩
def twRef6 : ByteArray := ⟨#[114, 101, 102, 105, 110, 101]⟩
theorem cells_2_6 (w : World) (x y : ByteArray) (t : TypeId) : ∀ j u, (sv [x, y])[j]? = some u → (w.alloc (.cells #[.string x, .string y] t)).cell? ((⟨w.heap.size, 0, none⟩ : Addr).add j) = some u := cells_two_new w (.string x) (.string y) t
set_option maxHeartbeats 16000000 in
set_option maxRecDepth 100000 in
theorem oprint_l (m b : Int) (r : Bool) (w : World) (hG : Words6 w) : Calls Tryd.prog 33 #[.agg #[.int .i64 m, .int .i64 b, .bool r]] w (PrintP6 m b r w) := by
  have HG := Lib.hid hG
  have CK := Lib.hid (fun W => ocheck_l m b r W)
  clear hG
  obtain ⟨e0, hi0, hz0, hz1, hz2⟩ := info_parts info_str
  go_enter Tryd.func33, Tryd.ntmps33
  go_upto_region 1 with (fail)
  obtain ⟨go, hgo⟩ : ∃ go, w.heap.size = go := ⟨_, rfl⟩
  refine wp_abs (fun V => Below w.heap.size w V ∧ Var V go [.int .i64 m, .int .i64 b, .bool r]) ?_ ?_
  · exact ⟨by repeat (first | (with_reducible exact Below.refl _ _) | (with_reducible refine bl_alloc ?_ _) | (with_reducible refine Below.drew ?_) | (with_reducible refine below_drewN' ?_ _) | ((with_reducible refine bl_set ?_ ?_ _); (rotate_left; (dsimp only; omega)))), var3o_new _ _ _ _ _ _ hgo.symm⟩
  rintro W0 hS0
  have HS0 := Lib.hid hS0
  rw [hgo]
  clear hS0 hgo
  obtain ⟨o0, o1, o2⟩ := HS0.out.2.three6
  go_wp2_with fail
  (with_reducible refine (CK.out _).mono ?_); rintro e w1 ⟨rfl, hb1⟩
  have HS1 := Lib.hid (And.intro (bl_trans HS0.out.1 hb1) (HS0.out.2.below hb1))
  clear hb1 HS0 CK o0 o1 o2
  obtain ⟨c, hc⟩ : ∃ c, okO6 m b = c := ⟨_, rfl⟩
  have he : erO6 m b = if c then 0 else 2 := by unfold erO6; rw [hc]
  have HC := Lib.hid hc
  rw [he]
  clear he
  cases c
  · simp only [Bool.false_eq_true, if_false]
    go_wp2_with fail
    go_ret2
    exact ⟨.inl ⟨HC.out, rfl⟩, HS1.out.1⟩
  simp only [if_true]
  obtain ⟨hm, hb0, hb1⟩ := okO_iff6.1 hc
  obtain ⟨N, rfl⟩ := Int.eq_ofNat_of_zero_le hb0
  have hN : N ≤ 100 := by omega
  clear hb0 hb1 hc
  go_upto_region 4 with (fail)
  go_cut [5] (fun v W => ∃ tm : ByteArray, Hid (nums tm = modeW6 m) ∧ Os w1 v [tm] W)
  case first =>
    obtain ⟨o0, o1, o2⟩ := HS1.out.2.three6
    have g1 := (HS1.out.1.cell (cell_lt HG.out.c1)).trans HG.out.c1
    have g2 := (HS1.out.1.cell (cell_lt HG.out.c2)).trans HG.out.c2
    have g3 := (HS1.out.1.cell (cell_lt HG.out.c3)).trans HG.out.c3
    have hm3 : m = 1 ∨ m = 2 ∨ m = 3 := by omega
    rcases hm3 with rfl | rfl | rfl
    · go_wp2_with fail
      go_meet
      case rel => exact ⟨⟨#[116, 114, 105]⟩, rfl, os_new6 _ _ (Nat.le_refl _) (Below.refl _ _) _⟩
    · go_wp2_with fail
      go_meet
      case rel => exact ⟨⟨#[113, 117, 97, 100]⟩, rfl, os_new6 _ _ (Nat.le_refl _) (Below.refl _ _) _⟩
    · go_wp2_with fail
      go_meet
      case rel => exact ⟨⟨#[97, 108, 108]⟩, rfl, os_new6 _ _ (Nat.le_refl _) (Below.refl _ _) _⟩
  case rest =>
  obtain ⟨tm, HTM, hO⟩ := hcut
  have HO := Lib.hid hO
  clear hO
  have HV := Lib.hid (HS1.out.2.below HO.out.hb)
  obtain ⟨o0, o1, o2⟩ := HV.out.three6
  have hsz1 := HO.out.sz
  go_upto_if 18 with (fail)
  go_cut [5] (fun v W => ∃ L : List ByteArray, Hid (L.map nums = modeW6 m :: (if 0 < (N : Int) then [wBud6, dec6 N] else []) ∧ L.length ≤ 3) ∧ Os w1 v L W)
  case first =>
    by_cases h0 : 0 < N
    · have b1 : ((0 : Int) < (N : Int)) = True := eq_true (by omega)
      have b2 : (0 < N) = True := eq_true h0
      have b3 : decide ((0 : Int) < (N : Int)) = true := decide_eq_true (by omega)
      have HDC := Lib.hid (fun W => decimal_l N ⟨h0, hN⟩ W)
      go_wp2_with fail
      (with_reducible refine (HDC.out _).mono ?_); rintro e w3 ⟨sd, rfl, hsd, hb3⟩
      have HO3 := Lib.hid (HO.out.below hb3)
      have HSD := Lib.hid hsd.out
      clear hb3 hsd HDC
      go_wp2_with (first | (at_builtin; refine wpList_append_own_at _ rfl _ _ 52 rfl w1.heap.size 9 e0 (.string ⟨#[]⟩) 1 16 Tryd.underlying52 hi0 hz0 hz1 hz2 rfl (by decide) _ _ _ rfl (HO3.out.alloc _).own ⟨_, 0, none⟩ 2 2 (sv [twBud6, sd]) rfl rfl (cells_2_6 _ _ _ _) (sv_one _) (by unfold maxLen; simp) (by simp) (HO3.out.alloc _).sz ?_) | go_in)
      intro v' w4 hown hgrow _ _
      have HO4 := Lib.hid ((HO3.out.alloc _).more (M := [twBud6, sd]) (by simp) hown hgrow)
      clear hown hgrow
      go_wp2_with fail
      go_meet
      case rel => exact ⟨[tm] ++ [twBud6, sd], ⟨by rw [if_pos (by omega)]; simp only [List.map_append, List.map_cons, List.map_nil, HTM.out, HSD.out]; rfl, by simp⟩, HO4.out⟩
    · have b1 : ((0 : Int) < (N : Int)) = False := eq_false (by omega)
      have b2 : (0 < N) = False := eq_false h0
      have b3 : decide ((0 : Int) < (N : Int)) = false := decide_eq_false (by omega)
      go_wp2_with fail
      go_meet
      case rel => exact ⟨[tm], ⟨by rw [if_neg (by omega)]; simp only [List.map_cons, List.map_nil, HTM.out], by simp⟩, HO.out⟩
  case rest =>
  obtain ⟨L, HL, hO⟩ := hcut
  clear HV HO o0 o1 o2 hsz1 HTM tm
  have HO := Lib.hid hO
  have HV := Lib.hid (HS1.out.2.below HO.out.hb)
  obtain ⟨o0, o1, o2⟩ := HV.out.three6
  have hL3 := HL.out.2
  clear hO
  go_upto_if 26 with (fail)
  go_cut [5] (fun v W => ∃ L : List ByteArray, Hid (L.map nums = words6 m (N : Int) r (dec6 N)) ∧ L.length ≤ 4 ∧ Os w1 v L W)
  case first =>
    cases r
    · go_wp2_with fail
      go_meet
      case rel => exact ⟨L, by unfold Hid words6; rw [HL.out.1]; simp, by omega, HO.out⟩
    · go_wp2_with (first | (at_builtin; refine wpList_append_own_at _ rfl _ _ 52 rfl w1.heap.size 9 e0 (.string ⟨#[]⟩) 1 16 Tryd.underlying52 hi0 hz0 hz1 hz2 rfl (by decide) _ _ _ rfl (HO.out.alloc _).own ⟨_, 0, none⟩ 1 1 (sv [twRef6]) rfl rfl (cell_one_new _ _ _) (sv_one _) (by unfold maxLen; omega) (by omega) (HO.out.alloc _).sz ?_) | go_in)
      intro v' w4 hown hgrow _ _
      have HO4 := Lib.hid ((HO.out.alloc _).more (M := [twRef6]) (by simp) hown hgrow)
      clear hown hgrow
      go_wp2_with fail
      go_meet
      case rel => exact ⟨L ++ [twRef6], by unfold Hid words6; rw [List.map_append, HL.out.1]; rfl, by simp; omega, HO4.out⟩
  case rest =>
  obtain ⟨L, HL, hL4, hO⟩ := hcut
  clear HO o0 o1 o2 HV
  have HO := Lib.hid hO
  obtain ⟨ad, cap, rfl, hcap, hR⟩ := os_row HO.out
  have HT : Hid (joinL (L.map nums) = text6 m N r) := by unfold Hid text6; rw [HL.out]
  have HJ := Lib.hid (tjoin_any ad cap L _ hR hcap (by rw [HT.out]; have := text_len6 hm hN r; omega))
  have HB := Lib.hid (bl_trans HS1.out.1 HO.out.hb)
  clear hO HO hR hcap HS1
  go_wp2_with fail
  (with_reducible refine HJ.out.mono ?_); rintro e w5 ⟨sj, rfl, hj, hb5⟩
  have HB5 := Lib.hid (bl_trans HB.out hb5)
  have HSJ : Hid (nums sj = text6 m N r) := hj.out.trans HT.out
  clear hb5 hj HJ
  go_wp2_with fail
  go_ret2
  exact ⟨.inr ⟨HC.out, sj, rfl, HSJ.out⟩, HB5.out⟩
end Go.Proofs.YtoglibmdpgfpaaaDoor

/-
  The document's Print of options; the law's digits.
-/
namespace Go.Proofs.YtoglibmdpgfpaaaDoor
open Go.RowKit

def body6 (m : Int) (N : Nat) : List Int := modeW6 m ++ (if 0 < N then 32 :: (wBud6 ++ 32 :: dec6 N) else [])
theorem modeW_len6 (m : Int) : (modeW6 m).length ≤ 4 := by
  unfold modeW6
  split
  · decide
  · split <;> decide
def refB6 (r : Bool) : List Int := if r then 32 :: wRef6 else []
theorem doc_all6 : try6 (fun m b r => decide (body6 m b ++ (refB6 r ++ [10]) = text6 m b r)) = true := by decide +kernel
set_option maxHeartbeats 16000000 in
set_option maxRecDepth 100000 in
theorem rprint_l (m b : Int) (r : Bool) (w : World) : Calls Tryd.prog 34 #[.agg #[.int .i64 m, .int .i64 b, .bool r]] w (PrintP6 m b r w) := by
  have CK := Lib.hid (fun W => rocheck_l m b r W)
  go_enter Tryd.func34, Tryd.ntmps34
  go_upto_region 1 with (fail)
  obtain ⟨go, hgo⟩ : ∃ go, w.heap.size = go := ⟨_, rfl⟩
  refine wp_abs (fun V => Below w.heap.size w V ∧ Var V go [.int .i64 m, .int .i64 b, .bool r]) ?_ ?_
  · exact ⟨by repeat (first | (with_reducible exact Below.refl _ _) | (with_reducible refine bl_alloc ?_ _) | (with_reducible refine Below.drew ?_) | (with_reducible refine below_drewN' ?_ _) | ((with_reducible refine bl_set ?_ ?_ _); (rotate_left; (dsimp only; omega)))), var3o_new _ _ _ _ _ _ hgo.symm⟩
  rintro W0 hS0
  have HS0 := Lib.hid hS0
  rw [hgo]
  clear hS0 hgo
  obtain ⟨o0, o1, o2⟩ := HS0.out.2.three6
  go_wp2_with fail
  (with_reducible refine (CK.out _).mono ?_); rintro e w1 ⟨rfl, hb1⟩
  have HS1 := Lib.hid (And.intro (bl_trans HS0.out.1 hb1) (HS0.out.2.below hb1))
  clear hb1 HS0 CK o0 o1 o2
  obtain ⟨c, hc⟩ : ∃ c, okO6 m b = c := ⟨_, rfl⟩
  have he : erO6 m b = if c then 0 else 2 := by unfold erO6; rw [hc]
  have HC := Lib.hid hc
  rw [he]
  clear he
  cases c
  · simp only [Bool.false_eq_true, if_false]
    go_wp2_with fail
    go_ret2
    exact ⟨.inl ⟨HC.out, rfl⟩, HS1.out.1⟩
  simp only [if_true]
  obtain ⟨hm, hb0, hb1⟩ := okO_iff6.1 hc
  obtain ⟨N, rfl⟩ := Int.eq_ofNat_of_zero_le hb0
  have hN : N ≤ 100 := by omega
  clear hb0 hb1 hc
  obtain ⟨gs, hgs⟩ : ∃ gs, w1.heap.size = gs := ⟨_, rfl⟩
  go_upto_region 5 with (fail)
  refine wp_abs (fun V => Below w.heap.size w V ∧ Var V go [.int .i64 m, .int .i64 N, .bool r] ∧ Var V gs [.string ⟨#[116, 114, 105]⟩, .string ⟨#[113, 117, 97, 100]⟩, .string ⟨#[97, 108, 108]⟩]) ?_ ?_
  · exact ⟨bl_trans HS1.out.1 (by repeat (first | (with_reducible exact Below.refl _ _) | (with_reducible refine bl_alloc ?_ _) | (with_reducible refine Below.drew ?_) | (with_reducible refine below_drewN' ?_ _) | ((with_reducible refine bl_set ?_ ?_ _); (rotate_left; (dsimp only; omega))))), HS1.out.2.below (by repeat (first | (with_reducible exact Below.refl _ _) | (with_reducible refine bl_alloc ?_ _) | (with_reducible refine Below.drew ?_) | (with_reducible refine below_drewN' ?_ _) | ((with_reducible refine bl_set ?_ ?_ _); (rotate_left; (dsimp only; omega))))), var3o_new _ _ _ _ _ _ hgs.symm⟩
  rintro W2 hS2
  have HS2 := Lib.hid hS2
  try rw [hgs]
  clear hS2 hgs HS1
  go_cut [6] (fun v W => ∃ tm : ByteArray, v = .string tm ∧ Hid (nums tm = modeW6 m) ∧ W = W2)
  case first =>
    obtain ⟨o0, o1, o2⟩ := HS2.out.2.1.three6
    obtain ⟨k0, k1, k2⟩ := HS2.out.2.2.three6
    have hm3 : m = 1 ∨ m = 2 ∨ m = 3 := by omega
    rcases hm3 with rfl | rfl | rfl
    · go_wp2_with fail
      go_meet
      case rel => exact ⟨⟨#[116, 114, 105]⟩, rfl, rfl, rfl⟩
    · go_wp2_with fail
      go_meet
      case rel => exact ⟨⟨#[113, 117, 97, 100]⟩, rfl, rfl, rfl⟩
    · go_wp2_with fail
      go_meet
      case rel => exact ⟨⟨#[97, 108, 108]⟩, rfl, rfl, rfl⟩
  case rest =>
  obtain ⟨tm, rfl, HTM, rfl⟩ := hcut
  have htm : tm.size ≤ 4 := by rw [← nums_length, HTM.out]; exact modeW_len6 m
  obtain ⟨o0, o1, o2⟩ := HS2.out.2.1.three6
  go_upto_if 21 with (fail)
  go_cut [6] (fun v W => ∃ t : ByteArray, v = .string t ∧ Hid (nums t = body6 m N) ∧ Below wc.heap.size wc W)
  case first =>
    by_cases h0 : 0 < N
    · have b1 : ((N : Int) = 0) = False := eq_false (by omega)
      have b2 : (N = 0) = False := eq_false (by omega)
      have b3 : ((N : Int) != 0) = true := bne_iff_ne.2 (by omega)
      have b4 : ((N : Int) == 0) = false := beq_eq_false_iff_ne.2 (by omega)
      have HSM := Lib.hid (fun W => small_num (N : Int) (by omega) (by omega) W)
      have HBG : Hid (-BIG < (N : Int) ∧ (N : Int) < BIG) := by
        have : (9223372036854775808 : Int) < BIG := of_decide_eq_true (by kernel_rfl)
        unfold Hid; omega
      go_wp2_with fail
      (with_reducible refine (HSM.out _).mono ?_); rintro e w3 ⟨v, rfl, hv, hb3⟩
      have HTX := Lib.hid (refText_num v (N : Int) w3 hv HBG.out)
      have HB3 := Lib.hid hb3
      obtain ⟨x, ad, n, c, f, rfl, -⟩ := hv
      clear hb3 HSM
      go_wp2_with fail
      (with_reducible refine HTX.out.mono ?_); rintro e w4 ⟨rfl, hb4⟩
      have HB4 := Lib.hid (bl_trans HB3.out hb4)
      have HNT : Hid (nums (strOfNums (textZ (N : Int))) = dec6 N) := by
        unfold Hid
        rw [textZ_nums HBG.out.1 HBG.out.2 rfl]
        exact dec_is6 N (by omega) h0
      generalize strOfNums (textZ (N : Int)) = tx at *
      have htx : tx.size ≤ 3 := by rw [← nums_length, HNT.out]; exact (dec_len6 N (by omega) h0).2
      clear hb4 HTX
      go_wp2_with fail
      go_meet
      case rel => exact ⟨_, rfl, by unfold Hid body6; rw [if_pos h0]; simp only [nums_append, HTM.out, HNT.out]; first | rfl | (simp; rfl), HB4.out⟩
    · have b1 : ((N : Int) = 0) = True := eq_true (by omega)
      have b2 : (N = 0) = True := eq_true (by omega)
      have b3 : ((N : Int) != 0) = false := by simp; omega
      have b4 : ((N : Int) == 0) = true := beq_iff_eq.2 (by omega)
      go_wp2_with fail
      go_meet
      case rel => exact ⟨tm, rfl, by unfold Hid body6; rw [if_neg h0, List.append_nil]; exact HTM.out, Below.refl _ _⟩
  case rest =>
  obtain ⟨t, rfl, HT, hb⟩ := hcut
  have HD := Lib.hid (show body6 m N ++ (refB6 r ++ [10]) = text6 m N r from of_decide_eq_true (try_all6 doc_all6 hm hN r))
  have htl : t.size ≤ 100 := by
    have h1 := text_len6 hm hN r
    rw [← HD.out, List.length_append, ← HT.out, nums_length] at h1
    omega
  have HB := Lib.hid (bl_trans HS2.out.1 hb)
  have HV := Lib.hid (HS2.out.2.1.below hb)
  clear HS2 hb o0 o1 o2 HTM htm tm
  obtain ⟨o0, o1, o2⟩ := HV.out.three6
  cases r
  · go_wp2_with fail
    go_ret2
    exact ⟨.inr ⟨HC.out, _, rfl, by rw [Int.toNat_natCast, ← HD.out, ← HT.out, nums_append]; rfl⟩, HB.out⟩
  · go_wp2_with fail
    go_ret2
    exact ⟨.inr ⟨HC.out, _, rfl, by rw [Int.toNat_natCast, ← HD.out, ← HT.out, nums_append, nums_append, List.append_assoc]; rfl⟩, HB.out⟩
def cnt6 (n : Nat) : Nat := (dec6 n).length
theorem cnt_step6 : ∀ n, n < 101 → 0 < n → cnt6 n = cnt6 (n / 10) + 1 := by decide +kernel
set_option maxHeartbeats 8000000 in
set_option maxRecDepth 100000 in
theorem digits_l (N : Nat) (hN : N ≤ 100) (w : World) : Calls Tryd.prog 38 #[.int .i64 (N : Int)] w (Gives (.int .i64 (cnt6 N : Int)) w) := by
  go_enter Tryd.func38, Tryd.ntmps38
  go_wp2_with fail
  go_loopw [0, 3] (fun nv kv W => ∃ (n k : Nat), nv = .int .i64 n ∧ kv = .int .i64 k ∧ n ≤ N ∧ k ≤ 10 ∧ Hid (cnt6 N = k + cnt6 n) ∧ w = W) (fun nv _ _ => (intOf nv).toNat)
  case atStart => exact ⟨N, 0, rfl, rfl, Nat.le_refl _, by omega, by simp [Hid], rfl⟩
  case round =>
    obtain ⟨n, k, rfl, rfl, hn, hk, HE, rfl⟩ := hrel
    by_cases h0 : n = 0
    · subst h0
      have HZ : Hid (cnt6 N = k) := HE.out
      clear HE
      go_wp2_with fail
      go_ret
      exact ⟨by rw [HZ.out]; rfl, Below.refl _ _⟩
    · have hk1 : ((0 : Int) < (n : Int)) = True := eq_true (by omega)
      have hk2 : (0 < n) = True := eq_true (by omega)
      obtain ⟨q, hq⟩ : ∃ q : Nat, n / 10 = q := ⟨_, rfl⟩
      have hst := cnt_step6 n (by omega) (by omega)
      rw [hq] at hst
      have hqn : q < n := by omega
      have hlt : k + 1 ≤ 10 := by
        have h3 : cnt6 N ≤ 3 := by
          rcases Nat.eq_zero_or_pos N with h | h
          · subst h; decide
          · exact (dec_len6 N (by omega) h).2
        have := HE.out
        omega
      have HQ : Hid (cnt6 N = (k + 1) + cnt6 q) := by have := HE.out; unfold Hid; omega
      have hd : (n : Int).tdiv 10 = (q : Int) := by rw [Int.tdiv_eq_ediv_of_nonneg (by omega)]; omega
      obtain ⟨k', hk'⟩ : ∃ k', k + 1 = k' := ⟨_, rfl⟩
      have hw : wrap64 (q : Int) = (q : Int) ∧ wrap64 ((k : Int) + 1) = (k' : Int) := by unfold wrap64; omega
      rw [hk'] at HQ hlt
      have HK := Lib.hid hk'
      obtain ⟨w1, w2⟩ := hw
      have HP := Lib.hid (And.intro hqn (And.intro hn hlt))
      have HW := Lib.hid (And.intro w1 w2)
      clear hst HE h0 hq hqn hlt
      go_wp2_with fail
      clear w1 w2 hd
      go_roundw
      case rel => exact ⟨q, k', by first | rfl | rw [HW.out.1], by first | rfl | rw [HW.out.2] | (rw [← HK.out]; simp), by have := HP.out; omega, HP.out.2.2, HQ.out, by first | rfl | trivial⟩
      case measure => have := HP.out; (try rw [HW.out.1]); simp [intOf]; omega
end Go.Proofs.YtoglibmdpgfpaaaDoor

/-
  The walk of the law OptionsPrints.
-/
namespace Go.Proofs.YtoglibmdpgfpaaaDoor
open Go.RowKit

theorem parse_at6 (s : ByteArray) {R : OpR6} {l : List Int} (hs : nums s = l) (hR : parse6 l = R) (hl : l.length ≤ 10000) (W : World) (hG : Words6 W) (ad : Option Addr) (cap : Nat) (hB : BytesIn W ad s) :
    Calls Tryd.prog 30 #[.slice ad s.size cap] W (Gives (.tuple #[.agg #[.int .i64 R.m, .int .i64 R.b, .bool R.r], .int .i64 R.at', .int .i64 R.e]) W) := by
  have := parse6_l s (by rw [← nums_length, hs]; exact hl) ad cap W hG hB
  rw [hs, hR] at this
  exact this
/-- a text as bytes, in new memory -/
theorem bytes_of6 (s : ByteArray) (W : World) : ∃ w3 cp, (convert 9 37 (.string s)).run Tryd.prog W = .ok (.slice (some ⟨W.heap.size, 0, none⟩) s.size cp) w3 ∧ Below W.heap.size W w3 ∧ BytesIn w3 (some ⟨W.heap.size, 0, none⟩) s :=
  ⟨_, _, Lib.run_convert_string_bytes (P := Tryd.prog) W 9 37 5 s (u := .string) Tryd.underlying9 Tryd.underlying37 Tryd.underlying5, bytesWorld_bl W 5 s, bytesWorld_in W 5 s⟩
set_option maxHeartbeats 16000000 in
set_option maxRecDepth 100000 in
theorem oprints_l (m b : Int) (r : Bool) (w : World) (hG : Words6 w) : Calls Tryd.prog 11 #[.agg #[.int .i64 m, .int .i64 b, .bool r]] w (Gives (.bool true) w) := by
  have HG := Lib.hid hG
  have K := Lib.hid (fun W h => known6_l W h)
  have C1 := Lib.hid (fun W => ocheck_l m b r W)
  have C2 := Lib.hid (fun W h => oprint_l m b r W h)
  have C3 := Lib.hid (fun W => rprint_l m b r W)
  have C4 := Lib.hid (fun W => rocheck_l m b r W)
  clear hG
  obtain ⟨c, hc⟩ : ∃ c, okO6 m b = c := ⟨_, rfl⟩
  have HC := Lib.hid hc
  cases c
  · have he : erO6 m b = 2 := by unfold erO6; rw [hc]; rfl
    rw [he] at C1 C4
    clear he
    go_enter Tryd.func11, Tryd.ntmps11
    go_upto_region 1 with (fail)
    obtain ⟨go, hgo⟩ : ∃ go, w.heap.size = go := ⟨_, rfl⟩
    refine wp_abs (fun V => Below w.heap.size w V ∧ Var V go [.int .i64 m, .int .i64 b, .bool r]) ?_ ?_
    · exact ⟨by repeat (first | (with_reducible exact Below.refl _ _) | (with_reducible refine bl_alloc ?_ _) | (with_reducible refine Below.drew ?_) | (with_reducible refine below_drewN' ?_ _) | ((with_reducible refine bl_set ?_ ?_ _); (rotate_left; (dsimp only; omega)))), var3o_new _ _ _ _ _ _ hgo.symm⟩
    rintro W0 hS0
    have HS := Lib.hid hS0
    rw [hgo]
    clear hS0 hgo
    obtain ⟨o0, o1, o2⟩ := HS.out.2.three6
    go_wp2_with fail
    (with_reducible refine (C1.out _).mono ?_); rintro e w1 ⟨rfl, hb1⟩
    replace HS := Lib.hid (And.intro (bl_trans HS.out.1 hb1) (HS.out.2.below hb1))
    clear hb1 C1 o0 o1 o2 W0
    obtain ⟨o0, o1, o2⟩ := HS.out.2.three6
    go_wp2_with fail
    (with_reducible refine (C2.out _ (HG.out.below HS.out.1)).mono ?_); rintro e w2 ⟨hp, hb2⟩
    replace HS := Lib.hid (And.intro (bl_trans HS.out.1 hb2) (HS.out.2.below hb2))
    clear hb2 C2 o0 o1 o2 w1
    obtain rfl : e = .returned (.tuple #[.string ⟨#[]⟩, .int .i64 2]) := by
      rcases hp with ⟨-, h⟩ | ⟨h, -⟩
      · exact h
      · rw [hc] at h; cases h
    clear hp hc
    obtain ⟨o0, o1, o2⟩ := HS.out.2.three6
    go_wp2_with fail
    (with_reducible refine (C3.out _).mono ?_); rintro e w3 ⟨hp, hb3⟩
    replace HS := Lib.hid (And.intro (bl_trans HS.out.1 hb3) (HS.out.2.below hb3))
    obtain rfl : e = .returned (.tuple #[.string ⟨#[]⟩, .int .i64 2]) := by
      rcases hp with ⟨-, h⟩ | ⟨h, -⟩
      · exact h
      · rw [HC.out] at h; cases h
    clear hp hb3 C3 o0 o1 o2
    obtain ⟨o0, o1, o2⟩ := HS.out.2.three6
    go_wp2_with fail
    (with_reducible refine (C4.out _).mono ?_); rintro e w4 ⟨rfl, hb4⟩
    replace HS := Lib.hid (And.intro (bl_trans HS.out.1 hb4) (HS.out.2.below hb4))
    clear hb4 C4 o0 o1 o2
    go_wp2_with fail
    (with_reducible refine (K.out _ (HG.out.below HS.out.1)).mono ?_); rintro e w5 ⟨rfl, hb5⟩
    have HB5 := Lib.hid (bl_trans HS.out.1 hb5)
    clear hb5
    go_wp2_with fail
    go_ret
    exact ⟨rfl, HB5.out⟩
  have he : erO6 m b = 0 := by unfold erO6; rw [hc]; rfl
  rw [he] at C1 C4
  clear he
  go_enter Tryd.func11, Tryd.ntmps11
  go_upto_region 1 with (fail)
  obtain ⟨go, hgo⟩ : ∃ go, w.heap.size = go := ⟨_, rfl⟩
  refine wp_abs (fun V => Below w.heap.size w V ∧ Var V go [.int .i64 m, .int .i64 b, .bool r]) ?_ ?_
  · exact ⟨by repeat (first | (with_reducible exact Below.refl _ _) | (with_reducible refine bl_alloc ?_ _) | (with_reducible refine Below.drew ?_) | (with_reducible refine below_drewN' ?_ _) | ((with_reducible refine bl_set ?_ ?_ _); (rotate_left; (dsimp only; omega)))), var3o_new _ _ _ _ _ _ hgo.symm⟩
  rintro W0 hS0
  have HS := Lib.hid hS0
  rw [hgo]
  clear hS0 hgo
  obtain ⟨o0, o1, o2⟩ := HS.out.2.three6
  go_wp2_with fail
  (with_reducible refine (C1.out _).mono ?_); rintro e w1 ⟨rfl, hb1⟩
  replace HS := Lib.hid (And.intro (bl_trans HS.out.1 hb1) (HS.out.2.below hb1))
  clear hb1 C1 o0 o1 o2 W0
  obtain ⟨o0, o1, o2⟩ := HS.out.2.three6
  go_wp2_with fail
  (with_reducible refine (C2.out _ (HG.out.below HS.out.1)).mono ?_); rintro e w2 ⟨hp, hb2⟩
  replace HS := Lib.hid (And.intro (bl_trans HS.out.1 hb2) (HS.out.2.below hb2))
  clear hb2 C2 o0 o1 o2 w1
  obtain ⟨s, rfl, hs⟩ : ∃ s, e = .returned (.tuple #[.string s, .int .i64 0]) ∧ nums s = text6 m b.toNat r := by
    rcases hp with ⟨h, -⟩ | ⟨-, h⟩
    · rw [hc] at h; cases h
    · exact h
  have HSN := Lib.hid hs
  clear hp hs
  obtain ⟨hm, hb0, hb1⟩ := okO_iff6.1 hc
  have HM := Lib.hid (And.intro hm (And.intro hb0 hb1))
  clear hm hb0 hb1 hc
  obtain ⟨o0, o1, o2⟩ := HS.out.2.three6
  go_wp2_with fail
  (with_reducible refine (C3.out _).mono ?_); rintro e w3 ⟨hp, hb3⟩
  replace HS := Lib.hid (And.intro (bl_trans HS.out.1 hb3) (HS.out.2.below hb3))
  obtain rfl : e = .returned (.tuple #[.string s, .int .i64 0]) := by
    rcases hp with ⟨h, -⟩ | ⟨-, t, h, ht⟩
    · rw [HC.out] at h; cases h
    · rw [h, nums_inj (ht.trans HSN.out.symm)]
  clear hp hb3 C3 o0 o1 o2
  obtain ⟨o0, o1, o2⟩ := HS.out.2.three6
  go_wp2_with fail
  (with_reducible refine (C4.out _).mono ?_); rintro e w4 ⟨rfl, hb4⟩
  replace HS := Lib.hid (And.intro (bl_trans HS.out.1 hb4) (HS.out.2.below hb4))
  clear hb4 C4 o0 o1 o2 w2 w3
  obtain ⟨w5, cp, hcv, hb5, hB5⟩ := bytes_of6 s w4
  obtain ⟨N, hN⟩ := Int.eq_ofNat_of_zero_le HM.out.2.1
  have hp := parse_text6 (m := m) (b := b.toNat) HM.out.1 (by have := HM.out; omega) r
  have e9 : ((b.toNat : Nat) : Int) = b := by have := HM.out; omega
  rw [e9] at hp
  have HPR := Lib.hid (parse_at6 s HSN.out hp (by have := text_len6 (m := m) (b := b.toNat) HM.out.1 (by have := HM.out; omega) r; omega) w5 ((HG.out.below HS.out.1).below hb5) _ cp hB5)
  have HS5 := Lib.hid (And.intro (bl_trans HS.out.1 hb5) (HS.out.2.below hb5))
  clear hb5 hB5 hp e9 hN HS
  go_wp2_with fail
  (with_reducible refine HPR.out.mono ?_); rintro e w6 ⟨rfl, hb6⟩
  have HS6 := Lib.hid (And.intro (bl_trans HS5.out.1 hb6) (HS5.out.2.below hb6))
  clear hb6 HS5 HPR hcv
  dsimp only
  obtain ⟨g2, hg2⟩ : ∃ g, w6.heap.size = g := ⟨_, rfl⟩
  go_upto_region 9 with (fail)
  refine wp_abs (fun V => Below w.heap.size w V ∧ Var V go [.int .i64 m, .int .i64 b, .bool r] ∧ Var V g2 [.int .i64 m, .int .i64 b, .bool r]) ?_ ?_
  · exact ⟨bl_trans HS6.out.1 (by repeat (first | (with_reducible exact Below.refl _ _) | (with_reducible refine bl_alloc ?_ _) | (with_reducible refine Below.drew ?_) | (with_reducible refine below_drewN' ?_ _) | ((with_reducible refine bl_set ?_ ?_ _); (rotate_left; (dsimp only; omega))))), HS6.out.2.below (by repeat (first | (with_reducible exact Below.refl _ _) | (with_reducible refine bl_alloc ?_ _) | (with_reducible refine Below.drew ?_) | (with_reducible refine below_drewN' ?_ _) | ((with_reducible refine bl_set ?_ ?_ _); (rotate_left; (dsimp only; omega))))), var3o_new _ _ _ _ _ _ hg2.symm⟩
  rintro W7 hS7
  have HS7 := Lib.hid hS7
  try rw [hg2]
  clear hS7 hg2 HS6
  obtain ⟨a0, a1, a2⟩ := HS7.out.2.1.three6
  obtain ⟨k0, k1, k2⟩ := HS7.out.2.2.three6
  have he1 := fun W => eqOp6 m b r W
  go_wp2_with fail
  (with_reducible refine (K.out _ (HG.out.below HS7.out.1)).mono ?_); rintro e w8 ⟨rfl, hb8⟩
  have HB8 := Lib.hid (bl_trans HS7.out.1 hb8)
  clear hb8
  go_wp2_with fail
  go_ret
  exact ⟨rfl, HB8.out⟩
end Go.Proofs.YtoglibmdpgfpaaaDoor
