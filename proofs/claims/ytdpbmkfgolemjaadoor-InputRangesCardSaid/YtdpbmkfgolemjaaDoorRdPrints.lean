/-
  An input's text: plain facts.
-/
import Derived.Test.YtdpbmkfgolemjaaDoorRdLines
import Derived.Test.YtdpbmkfgolemjaaDoorRdChks
import Derived.Test.YtdpbmkfgolemjaaDoorOpPrts
set_option linter.unusedVariables false
set_option linter.unusedSimpArgs false
set_option linter.deprecated false
namespace Go.Proofs.YtdpbmkfgolemjaaDoor
open Go.RowKit Go.Shelf

theorem digs_len5 {g n : Nat} (h : n < 10 ^ (g + 1)) (h7 : n < 10 ^ 7) (hg : 7 ≤ g + 1) : (digs (g + 1) n).length ≤ 7 := by
  rw [digs_fuel 7 n h7 (g + 1) hg]
  exact digs_length 7 n
theorem textZ_len5 (z : Int) (h0 : -10000000 < z) (h1 : z < 10000000) : (textZ z).length ≤ 8 := by
  have hb : (10000000 : Int) < BIG := by
    have := p16le 20 (by decide)
    have e : (10000000 : Int) < 16 ^ 20 := by decide
    omega
  have hK : 7 ≤ K5 + 1 := by decide
  rcases textZ_cases z (by omega) (by omega) with ⟨-, h2⟩ | ⟨h2, h3, h4⟩ | ⟨h2, h3, h4⟩
  · rw [h2]; decide
  · rw [h3]
    have := digs_len5 h4 (by omega) hK
    omega
  · rw [h3]
    have := digs_len5 h4 (by omega) hK
    simp only [List.length_cons]
    omega
def pairZ (q : Int × Int) : List Int := lineZ [q.1, q.2]
def In7 (z : Int) : Prop := -10000000 < z ∧ z < 10000000
theorem pair_len5 (q : Int × Int) (h1 : In7 q.1) (h2 : In7 q.2) : (pairZ q).length ≤ 18 := by
  have a := textZ_len5 q.1 h1.1 h1.2
  have b := textZ_len5 q.2 h2.1 h2.2
  unfold pairZ lineZ
  simp only [List.map_cons, List.map_nil, joinL, List.length_append, List.length_cons, List.length_nil]
  omega
theorem three_len5 (a b c : Int) (h1 : In7 a) (h2 : In7 b) (h3 : In7 c) : (lineZ [a, b, c]).length ≤ 27 := by
  have a := textZ_len5 a h1.1 h1.2
  have b := textZ_len5 b h2.1 h2.2
  have c := textZ_len5 c h3.1 h3.2
  unfold lineZ
  simp only [List.map_cons, List.map_nil, joinL, List.length_append, List.length_cons, List.length_nil]
  omega
def linesZ (l : List (Int × Int)) : List Int := l.flatMap pairZ
theorem lines_len5 : ∀ (l : List (Int × Int)), (∀ q ∈ l, In7 q.1 ∧ In7 q.2) → (linesZ l).length ≤ 18 * l.length
  | [], _ => by simp [linesZ]
  | q :: l, h => by
    have ih := lines_len5 l (fun x hx => h x (by simp [hx]))
    have hq := h q (by simp)
    have := pair_len5 q hq.1 hq.2
    unfold linesZ at *
    rw [List.flatMap_cons, List.length_append, List.length_cons]
    omega
def headZ (p l i : List (Int × Int)) : List Int := wPoly5 ++ 32 :: lineZ [(p.length : Int), (l.length : Int), (i.length : Int)]
/-- the text of an input -/
def textI5 (p l i : List (Int × Int)) : List Int := headZ p l i ++ linesZ p ++ linesZ l ++ linesZ i
theorem lines_snoc5 (l : List (Int × Int)) {k : Nat} (h : k < l.length) {q : Int × Int} (hq : pget5 l k = q) : linesZ (l.take (k + 1)) = linesZ (l.take k) ++ pairZ q := by
  rw [List.take_add_one, List.getElem?_eq_getElem h, ← hq, pget_at5 h]
  unfold linesZ
  rw [List.flatMap_append]
  simp
/-- what a valid input's numbers are -/
structure Fit5 (p l i : List (Int × Int)) : Prop where
  lp : p.length ≤ 200
  ll : l.length ≤ 400
  li : i.length ≤ 400
  ip : ∀ q ∈ p, In7 q.1 ∧ In7 q.2
  il : ∀ q ∈ l, In7 q.1 ∧ In7 q.2
  ii : ∀ q ∈ i, In7 q.1 ∧ In7 q.2
theorem fit_of5 {p l i : List (Int × Int)} (h : okI5 p l i = true) : Fit5 p l i := by
  unfold okI5 at h
  rw [Bool.and_eq_true, Bool.and_eq_true] at h
  obtain ⟨⟨h1, h2⟩, h3⟩ := h
  have hp := (ptsV_iff5.1 h1).2
  unfold ptsV5 at h1
  unfold segsV5 at h2 h3
  rw [Bool.and_eq_true, List.all_eq_true, decide_eq_true_eq] at h1 h2 h3
  have hs : ∀ s, sgInB5 p.length s = true → In7 s.1 ∧ In7 s.2 := by
    intro s hs
    unfold sgInB5 at hs
    have := of_decide_eq_true hs
    unfold In7
    omega
  refine ⟨h1.2, h2.2, h3.2, fun q hq => ?_, fun q hq => hs q (h2.1 q hq), fun q hq => hs q (h3.1 q hq)⟩
  have := h1.1 q hq
  unfold placeB5 at this
  have := of_decide_eq_true this
  unfold In7
  omega
theorem Bd5.below {B b : Nat} {t : List Int} {W W' : World} (h : Bd5 B b t W) (hb : Below W.heap.size W W') : Bd5 B b t W' := by
  have hg : W.grownBy W' none := ⟨hb.os, hb.tape, hb.output, hb.size, fun k hk _ => hb.block k hk⟩
  have key : ∀ p bs, Lib.BuilderAtF 67 5 B b p bs W → Lib.BuilderAtF 67 5 B b p bs W' := by
    rintro p bs ⟨h1, v, h2, h3, h4⟩
    refine ⟨h1, v, (hb.block b (Array.getElem?_eq_some_iff.1 h2).1).trans h2, h3.kept hg ?_, h4⟩
    by_cases e : v.ownBlock = none
    · exact .inl e
    · exact .inr e
  obtain ⟨l, h1, h2⟩ := h
  exact ⟨l, h1, h2.imp (key _ _) (key _ _)⟩
theorem bd_new5 (W : World) (b : Nat) (hb : b = W.heap.size) : Bd5 b b [] (W.alloc (.cells #[.pointer none, .slice none 0 0] 67)) := by
  subst hb
  exact ⟨[], rfl, Lib.IsBuilderF.of (Lib.fresh_isBuilder _ _ W)⟩
end Go.Proofs.YtdpbmkfgolemjaaDoor

/-
  Contract of input.Print.
-/
namespace Go.Proofs.YtdpbmkfgolemjaaDoor
open Go.RowKit Go.Shelf

structure PrS5 (w : World) (gp b : Nat) (vp vl vi : Value) (t : List Int) (W : World) : Prop where
  hb : Below w.heap.size w W
  var : Var W gp [vp, vl, vi]
  bd : Bd5 b b t W
  lt : gp < b
  ge : w.heap.size ≤ gp
  sz : b < W.heap.size
theorem PrS5.below {w : World} {gp b : Nat} {vp vl vi : Value} {t : List Int} {W W' : World} (h : PrS5 w gp b vp vl vi t W) (hb : Below W.heap.size W W') : PrS5 w gp b vp vl vi t W' :=
  ⟨bl_trans h.hb hb, h.var.below hb, h.bd.below hb, h.lt, h.ge, Nat.lt_of_lt_of_le h.sz hb.size⟩
theorem PrS5.write {w : World} {gp b : Nat} {vp vl vi : Value} {t t' : List Int} {W W' : World} (h : PrS5 w gp b vp vl vi t W) (hd : Bd5 b b t' W') (hb : Below b W W') : PrS5 w gp b vp vl vi t' W' :=
  ⟨h.hb.trans (hb.mono (by have := h.lt; have := h.ge; omega)), h.var.belowB6 hb h.lt, hd, h.lt, h.ge, Nat.lt_of_lt_of_le h.sz hb.size⟩
theorem line_three5 (a b c : Int) (h1 : In7 a) (h2 : In7 b) (h3 : In7 c) (w : World) (hT : Tab5 w) :
    Calls Tryd.prog 26 #[.slice (some ⟨w.heap.size, 0, none⟩) 3 3] (w.alloc (.cells #[.int .i64 a, .int .i64 b, .int .i64 c] 3)) fun e W => ∃ s : ByteArray, e = .returned (.string s) ∧ nums s = lineZ [a, b, c] ∧ Below w.heap.size w W := by
  have hl := three_len5 a b c h1 h2 h3
  have hb := bl_one w (.cells #[.int .i64 a, .int .i64 b, .int .i64 c] 3)
  unfold In7 at h1 h2 h3
  have := line_l5 [a, b, c] (fun z hz => by simp at hz; rcases hz with rfl | rfl | rfl <;> omega) (by simp) (by omega) w.heap.size 0 3 _ (hT.below hb) (fun i hi => by
    match i, hi with
    | 0, _ => simp [go_sem]
    | 1, _ => simp [go_sem]
    | 2, _ => simp [go_sem]) (by simp)
  refine (show Calls Tryd.prog 26 #[.slice (some ⟨w.heap.size, 0, none⟩) 3 3] _ _ from this).mono ?_
  rintro e W ⟨s, rfl, hs, hb2⟩
  exact ⟨s, rfl, hs, bl_trans hb hb2⟩
theorem line_two5 (q : Int × Int) (h1 : In7 q.1) (h2 : In7 q.2) (w : World) (hT : Tab5 w) (gg : Nat) (hgg : gg = w.heap.size) :
    Calls Tryd.prog 26 #[.slice (some ⟨gg, 0, none⟩) 2 2] (w.alloc (.cells #[.int .i64 q.1, .int .i64 q.2] 3)) fun e W => ∃ s : ByteArray, e = .returned (.string s) ∧ nums s = pairZ q ∧ Below w.heap.size w W := by
  subst hgg
  have hl := pair_len5 q h1 h2
  have hb := bl_one w (.cells #[.int .i64 q.1, .int .i64 q.2] 3)
  unfold In7 at h1 h2
  have := line_l5 [q.1, q.2] (fun z hz => by simp at hz; rcases hz with rfl | rfl <;> omega) (by simp) (by unfold pairZ at hl; omega) w.heap.size 0 2 _ (hT.below hb) (fun i hi => by
    match i, hi with
    | 0, _ => simp [go_sem]
    | 1, _ => simp [go_sem]) (by simp)
  refine (show Calls Tryd.prog 26 #[.slice (some ⟨w.heap.size, 0, none⟩) 2 2] _ _ from this).mono ?_
  rintro e W ⟨s, rfl, hs, hb2⟩
  exact ⟨s, rfl, hs, bl_trans hb hb2⟩
/-- the two rows of segments, in a row -/
def Row49 (g : Nat) (v1 v2 : Value) (W : World) : Prop := W.heap[g]? = some (.cells #[v1, v2] 23 (0, 0))
theorem Row49.below {g : Nat} {v1 v2 : Value} {W W' : World} (h : Row49 g v1 v2 W) (hb : Below W.heap.size W W') : Row49 g v1 v2 W' := (hb.block g (Array.getElem?_eq_some_iff.1 h).1).trans h
theorem Row49.kept {g b : Nat} {v1 v2 : Value} {W W' : World} (h : Row49 g v1 v2 W) (hk : Ok5 b W W') (hg : g ≠ b) : Row49 g v1 v2 W' :=
  hk g _ h (fun e => hg (Option.some.inj e)) (fun c fz e => by injection e with e1 e2; revert e2; decide)
theorem Row49.cells {g : Nat} {v1 v2 : Value} {W : World} (h : Row49 g v1 v2 W) : W.cell? ⟨g, 0, none⟩ = some v1 ∧ W.cell? ⟨g, 1, none⟩ = some v2 := by
  unfold Row49 at h
  exact ⟨by simp [World.cell?, h], by simp [World.cell?, h]⟩
def TT5 (p l i : List (Int × Int)) (k : Nat) : List Int := headZ p l i ++ linesZ p ++ (if k = 0 then [] else linesZ l ++ if k = 1 then [] else linesZ i)
theorem tt_end5 (p l i : List (Int × Int)) : TT5 p l i 2 = textI5 p l i := by unfold TT5 textI5; simp
theorem tt_step5 {p l i : List (Int × Int)} (hf : Fit5 p l i) (hh : (headZ p l i).length ≤ 40) {k : Nat} (hk : k < 2) {g : Nat} {ap al ai : Option Addr} {cp cl ci : Nat} {w W : World} (hA : Pol5 w ap al ai cp cl ci p l i) (hR : Row49 g (.slice al l.length cl) (.slice ai i.length ci) W) :
    ∃ ad L c, W.cell? ⟨g, k, none⟩ = some (.slice ad L.length c) ∧ PtRow5 w ad L ∧ L.length ≤ 400 ∧ (∀ q ∈ L, In7 q.1 ∧ In7 q.2) ∧ TT5 p l i (k + 1) = TT5 p l i k ++ linesZ L ∧ (TT5 p l i k).length ≤ 20000 := by
  have h1 := lines_len5 p hf.ip
  have h2 := lines_len5 l hf.il
  have := hf.lp
  have := hf.ll
  obtain ⟨c0, c1⟩ := hR.cells
  match k, hk with
  | 0, _ => exact ⟨al, l, cl, c0, hA.ll, hf.ll, hf.il, by unfold TT5; simp, by unfold TT5; simp; omega⟩
  | 1, _ => exact ⟨ai, i, ci, c1, hA.ii, hf.li, hf.ii, by unfold TT5; simp, by unfold TT5; simp; omega⟩
def PrintP5 (p l i : List (Int × Int)) (w : World) (e : Ending) (W : World) : Prop :=
  ((okI5 p l i = false ∧ e = .returned (.tuple #[.string ⟨#[]⟩, .int .i64 2])) ∨ (okI5 p l i = true ∧ ∃ s, e = .returned (.tuple #[.string s, .int .i64 0]) ∧ nums s = textI5 p l i)) ∧ Below w.heap.size w W
set_option maxHeartbeats 16000000 in
set_option maxRecDepth 100000 in
theorem print_l5 (p l i : List (Int × Int)) (ap al ai : Option Addr) (cp cl ci : Nat) (w : World) (hA : Pol5 w ap al ai cp cl ci p l i) (hT : Tab5 w) :
    Calls Tryd.prog 14 #[.agg #[.slice ap p.length cp, .slice al l.length cl, .slice ai i.length ci]] w (PrintP5 p l i w) := by
  have HA := Lib.hid hA
  have HT := Lib.hid hT
  clear hA hT
  go_enter Tryd.func14, Tryd.ntmps14
  go_upto_region 1 with (fail)
  obtain ⟨gp, hgp⟩ : ∃ gp, w.heap.size = gp := ⟨_, rfl⟩
  refine wp_abs (fun V => Below w.heap.size w V ∧ Var V gp [.slice ap p.length cp, .slice al l.length cl, .slice ai i.length ci]) ?_ ?_
  · exact ⟨by repeat (first | (with_reducible exact Below.refl _ _) | (with_reducible refine bl_alloc ?_ _) | (with_reducible refine Below.drew ?_) | (with_reducible refine below_drewN' ?_ _) | ((with_reducible refine bl_set ?_ ?_ _); (rotate_left; (dsimp only; omega)))), var3o_new _ _ _ _ _ _ hgp.symm⟩
  rintro W0 hS0
  have HS0 := Lib.hid hS0
  rw [hgp]
  have HGP : Hid (w.heap.size ≤ gp) := Nat.le_of_eq hgp
  have CK := Lib.hid (check_l5 p l i ap al ai cp cl ci W0 (HA.out.below HS0.out.1))
  clear hS0 hgp
  obtain ⟨o0, o1, o2⟩ := HS0.out.2.three6
  go_wp2_with fail
  (with_reducible refine CK.out.mono ?_); rintro e w1 ⟨rfl, hb1⟩
  have HS1 := Lib.hid (And.intro (bl_trans HS0.out.1 hb1) (HS0.out.2.below hb1))
  clear hb1 HS0 CK o0 o1 o2
  obtain ⟨c, hc⟩ : ∃ c, okI5 p l i = c := ⟨_, rfl⟩
  have he : firstE5 p l i = if c then 0 else 2 := by unfold firstE5; rw [hc]
  have HC := Lib.hid hc
  rw [he]
  clear he
  cases c
  · simp only [Bool.false_eq_true, if_false]
    go_wp2_with fail
    go_ret2
    exact ⟨.inl ⟨HC.out, rfl⟩, HS1.out.1⟩
  simp only [if_true]
  have HF := Lib.hid (fit_of5 hc)
  clear hc
  go_upto_region 5 with (fail)
  obtain ⟨b, hb⟩ : ∃ b, w1.heap.size = b := ⟨_, rfl⟩
  refine wp_abs (fun V => PrS5 w gp b (.slice ap p.length cp) (.slice al l.length cl) (.slice ai i.length ci) [] V) ?_ ?_
  · exact ⟨bl_trans HS1.out.1 (by repeat (first | (with_reducible exact Below.refl _ _) | (with_reducible refine bl_alloc ?_ _) | (with_reducible refine Below.drew ?_) | (with_reducible refine below_drewN' ?_ _) | ((with_reducible refine bl_set ?_ ?_ _); (rotate_left; (dsimp only; omega))))), HS1.out.2.below (by repeat (first | (with_reducible exact Below.refl _ _) | (with_reducible refine bl_alloc ?_ _) | (with_reducible refine Below.drew ?_) | (with_reducible refine below_drewN' ?_ _) | ((with_reducible refine bl_set ?_ ?_ _); (rotate_left; (dsimp only; omega))))), bd_new5 _ _ hb.symm, by have := HS1.out.2.lt; omega, HGP.out, by simp; omega⟩
  rintro W2 hS2
  have HS2 := Lib.hid hS2
  rw [hb]
  clear hS2 hb HS1
  obtain ⟨o0, o1, o2⟩ := HS2.out.var.three6
  have HL3 := Lib.hid (line_three5 (p.length : Int) (l.length : Int) (i.length : Int) (by have := HF.out.lp; unfold In7; omega) (by have := HF.out.ll; unfold In7; omega) (by have := HF.out.li; unfold In7; omega) W2 (HT.out.below HS2.out.hb))
  go_wp2_with fail
  (with_reducible refine HL3.out.mono ?_); rintro e w3 ⟨s3, rfl, hs3, hb3⟩
  have HS3 := Lib.hid (HS2.out.below hb3)
  have hsz3 : s3.size ≤ 27 := by rw [← nums_length, hs3]; exact three_len5 _ _ _ (by have := HF.out.lp; unfold In7; omega) (by have := HF.out.ll; unfold In7; omega) (by have := HF.out.li; unfold In7; omega)
  have HH : Hid (nums (⟨#[112, 111, 108, 121, 32]⟩ ++ s3) = headZ p l i) := by
    unfold Hid headZ
    rw [nums_append, hs3]
    rfl
  have HW3 := Lib.hid (write_l5 b b [] (⟨#[112, 111, 108, 121, 32]⟩ ++ s3) w3 HS3.out.bd (by simp) (by rw [ByteArray.size_append]; have e : (⟨#[112, 111, 108, 121, 32]⟩ : ByteArray).size = 5 := rfl; omega) (by have := HS3.out.sz; omega))
  have hhl : (headZ p l i).length ≤ 40 := by
    rw [← HH.out, nums_length, ByteArray.size_append]
    have e : (⟨#[112, 111, 108, 121, 32]⟩ : ByteArray).size = 5 := rfl
    omega
  clear hs3 hb3 HL3 HS2 o0 o1 o2
  go_wp2_with fail
  (with_reducible refine HW3.out.mono ?_); rintro e w4 ⟨rfl, hd4, hb4, -⟩
  have hd4' : Bd5 b b (headZ p l i ++ linesZ (p.take 0)) w4 := by
    rw [HH.out, List.nil_append] at hd4
    simpa [linesZ] using hd4
  have HS4 := Lib.hid (HS3.out.write hd4' hb4)
  have HHL := Lib.hid hhl
  clear hd4 hd4' hb4 HW3 HS3 HH hsz3 hhl
  obtain ⟨o0, o1, o2⟩ := HS4.out.var.three6
  go_wp2_with fail
  go_loopw [33] (fun iv W => ∃ k : Nat, iv = .int .i64 k ∧ k ≤ p.length ∧ PrS5 w gp b (.slice ap p.length cp) (.slice al l.length cl) (.slice ai i.length ci) (headZ p l i ++ linesZ (p.take k)) W) (fun iv _ => p.length + 1 - (intOf iv).toNat)
  case atStart => exact ⟨0, rfl, Nat.zero_le _, HS4.out⟩
  case round =>
    obtain ⟨k, rfl, hk, hS⟩ := hrel
    have HS := Lib.hid hS
    have hpl := HF.out.lp
    clear hS HS4 o0 o1 o2
    by_cases hlt : k < p.length
    · obtain ⟨g, o, rfl⟩ := HA.out.pp.some (by omega)
      obtain ⟨⟨x, y⟩, hs⟩ : ∃ s, pget5 p k = s := ⟨_, rfl⟩
      obtain ⟨k0, k1⟩ := ptRow_at5 (HA.out.pp.below HS.out.hb) hlt hs
      have hin : In7 x ∧ In7 y := by
        have := HF.out.ip (pget5 p k) (by rw [pget_at5 hlt]; exact List.getElem_mem hlt)
        rw [hs] at this
        exact this
      have HIN := Lib.hid hin
      have HSN := Lib.hid (lines_snoc5 p hlt hs)
      have hlen := lines_len5 (p.take k) (fun q hq => HF.out.ip q (List.mem_of_mem_take hq))
      have HB5 := Lib.hid (bl_one wr (.cells #[.int .i64 x, .int .i64 y] 43))
      have HL5 := Lib.hid (line_two5 (x, y) hin.1 hin.2 (wr.alloc (.cells #[.int .i64 x, .int .i64 y] 43)) (HT.out.below (bl_trans HS.out.hb HB5.out)) (wr.heap.size + 1) (by simp))
      have HPL := Lib.hid (pair_len5 (x, y) hin.1 hin.2)
      have HLN : Hid ((headZ p l i ++ linesZ (p.take k)).length ≤ 1000000) := by
        unfold Hid
        rw [List.length_append]
        rw [List.length_take] at hlen
        have := HHL.out
        omega
      clear hin hs hlen
      dsimp only at k0 k1
      go_wp2_with fail
      (with_reducible refine HL5.out.mono ?_); rintro e w6 ⟨s6, rfl, hs6, hb6⟩
      have HS6 := Lib.hid ((HS.out.below HB5.out).below hb6)
      have hs6l : s6.size ≤ 18 := by rw [← nums_length, hs6]; exact HPL.out
      have HN6 := Lib.hid hs6
      have HW6 := Lib.hid (write_l5 b b _ s6 w6 HS6.out.bd HLN.out (by omega) (by have := HS6.out.sz; omega))
      clear hs6 hb6 hs6l HL5 HB5
      go_wp2_with fail
      (with_reducible refine HW6.out.mono ?_); rintro e w7 ⟨rfl, hd7, hb7, -⟩
      have HS7 := Lib.hid (HS6.out.write hd7 hb7)
      clear hd7 hb7 HW6 HS6
      go_wp2_with fail
      go_roundw
      case rel =>
        refine ⟨k + 1, by first | rfl | simp, hlt, ?_⟩
        rw [HSN.out, ← HN6.out, ← List.append_assoc]
        exact HS7.out
      case measure => simp [intOf]; omega
    · obtain rfl : k = p.length := by omega
      have hS5 : PrS5 w gp b (.slice ap p.length cp) (.slice al l.length cl) (.slice ai i.length ci) (TT5 p l i 0) wr := by
        have := HS.out
        rw [List.take_length] at this
        unfold TT5
        simpa using this
      have HS5 := Lib.hid hS5
      clear hS5 HS
      obtain ⟨o0, o1, o2⟩ := HS5.out.var.three6
      go_upto_region 12 with (fail)
      obtain ⟨g, hg⟩ : ∃ g, wr.heap.size = g := ⟨_, rfl⟩
      refine wp_abs (fun V => PrS5 w gp b (.slice ap p.length cp) (.slice al l.length cl) (.slice ai i.length ci) (TT5 p l i 0) V ∧ Row49 g (.slice al l.length cl) (.slice ai i.length ci) V) ?_ ?_
      · exact ⟨HS5.out.below (by repeat (first | (with_reducible exact Below.refl _ _) | (with_reducible refine bl_alloc ?_ _) | (with_reducible refine Below.drew ?_) | (with_reducible refine below_drewN' ?_ _) | ((with_reducible refine bl_set ?_ ?_ _); (rotate_left; (dsimp only; omega))))), by unfold Row49; rw [← hg]; exact World.alloc_heap_new _ _⟩
      rintro W8 hS8
      rw [hg]
      have HGB : Hid (g ≠ b) := by have := HS5.out.sz; unfold Hid; omega
      have HS8 := Lib.hid hS8
      clear hS8 hg HS5 o0 o1 o2
      go_wp2_with fail
      go_loopw [51] (fun iv W => ∃ k : Nat, iv = .int .i64 k ∧ k ≤ 2 ∧ PrS5 w gp b (.slice ap p.length cp) (.slice al l.length cl) (.slice ai i.length ci) (TT5 p l i k) W ∧ Row49 g (.slice al l.length cl) (.slice ai i.length ci) W) (fun iv _ => 3 - (intOf iv).toNat)
      case atStart => exact ⟨0, rfl, by omega, HS8.out.1, HS8.out.2⟩
      case round =>
        obtain ⟨k, rfl, hk, hS, hR⟩ := hrel
        have HSR := Lib.hid (And.intro hS hR)
        clear hS hR HS8 W8
        by_cases hlt : k < 2
        · obtain ⟨ad, L, c, hcell, hrow, hll, hin, htt, htl⟩ := tt_step5 HF.out HHL.out hlt HA.out HSR.out.2
          have HROW := Lib.hid hrow
          have HIN := Lib.hid hin
          have HTT := Lib.hid htt
          have HTL := Lib.hid htl
          clear hrow hin htt htl
          have e2 : decide ((k : Int) < 2) = true := decide_eq_true (by omega)
          have e3 : ((k : Int) < 2) = True := eq_true (by omega)
          have e4 : (k < 2) = True := eq_true hlt
          go_wp2_with fail
          go_loopw [57] (fun iv W => ∃ m : Nat, iv = .int .i64 m ∧ m ≤ L.length ∧ PrS5 w gp b (.slice ap p.length cp) (.slice al l.length cl) (.slice ai i.length ci) (TT5 p l i k ++ linesZ (L.take m)) W ∧ Row49 g (.slice al l.length cl) (.slice ai i.length ci) W) (fun iv _ => L.length + 1 - (intOf iv).toNat)
          case atStart => exact ⟨0, rfl, Nat.zero_le _, by simpa [linesZ] using HSR.out.1, HSR.out.2⟩
          case round =>
            obtain ⟨m, rfl, hm, hS, hR⟩ := hrel
            have HS := Lib.hid hS
            have HR := Lib.hid hR
            clear hS hR HSR hcell
            by_cases hlm : m < L.length
            · obtain ⟨g1, o1, rfl⟩ := HROW.out.some (by omega)
              obtain ⟨⟨x, y⟩, hs⟩ : ∃ s, pget5 L m = s := ⟨_, rfl⟩
              obtain ⟨k0, k1⟩ := ptRow_at5 (HROW.out.below HS.out.hb) hlm hs
              have hin : In7 x ∧ In7 y := by
                have := HIN.out (pget5 L m) (by rw [pget_at5 hlm]; exact List.getElem_mem hlm)
                rw [hs] at this
                exact this
              have HSN := Lib.hid (lines_snoc5 L hlm hs)
              have hlen := lines_len5 (L.take m) (fun q hq => HIN.out q (List.mem_of_mem_take hq))
              have HB5 := Lib.hid (bl_one wr (.cells #[.int .i64 x, .int .i64 y] 62))
              have HL5 := Lib.hid (line_two5 (x, y) hin.1 hin.2 (wr.alloc (.cells #[.int .i64 x, .int .i64 y] 62)) (HT.out.below (bl_trans HS.out.hb HB5.out)) (wr.heap.size + 1) (by simp))
              have HPL := Lib.hid (pair_len5 (x, y) hin.1 hin.2)
              have HLN : Hid ((TT5 p l i k ++ linesZ (L.take m)).length ≤ 1000000) := by
                unfold Hid
                rw [List.length_append]
                rw [List.length_take] at hlen
                have := HTL.out
                omega
              clear hin hs hlen
              dsimp only at k0 k1
              go_wp2_with fail
              (with_reducible refine HL5.out.mono ?_); rintro e w6 ⟨s6, rfl, hs6, hb6⟩
              have HS6 := Lib.hid ((HS.out.below HB5.out).below hb6)
              have HR6 := Lib.hid ((HR.out.below HB5.out).below hb6)
              have hs6l : s6.size ≤ 18 := by rw [← nums_length, hs6]; exact HPL.out
              have HN6 := Lib.hid hs6
              have HW6 := Lib.hid (write_l5 b b _ s6 w6 HS6.out.bd HLN.out (by omega) (by have := HS6.out.sz; omega))
              clear hs6 hb6 hs6l HL5 HB5
              go_wp2_with fail
              (with_reducible refine HW6.out.mono ?_); rintro e w7 ⟨rfl, hd7, hb7, hk7⟩
              have HS7 := Lib.hid (HS6.out.write hd7 hb7)
              have HR7 := Lib.hid (HR6.out.kept hk7 HGB.out)
              clear hd7 hb7 hk7 HW6 HS6 HR6
              go_wp2_with fail
              go_roundw
              case rel =>
                refine ⟨m + 1, by first | rfl | simp, hlm, ?_, HR7.out⟩
                rw [HSN.out, ← HN6.out, ← List.append_assoc]
                exact HS7.out
              case measure => simp [intOf]; omega
            · obtain rfl : m = L.length := by omega
              have hS9 := HS.out
              rw [List.take_length, ← HTT.out] at hS9
              have HS9 := Lib.hid hS9
              clear hS9 HS
              go_wp2_with fail
              go_roundw
              case rel => exact ⟨k + 1, by first | rfl | simp, by omega, HS9.out, HR.out⟩
              case measure => simp [intOf]; omega
        · obtain rfl : k = 2 := by omega
          have hS9 := HSR.out.1
          rw [tt_end5] at hS9
          have HS9 := Lib.hid hS9
          have HST := Lib.hid (string_l5 b b _ wr hS9.bd (by have := hS9.sz; omega))
          clear hS9 HSR
          go_wp2_with fail
          (with_reducible refine HST.out.mono ?_); rintro e w9 ⟨s9, rfl, hs9, hb9⟩
          have HN9 := Lib.hid hs9
          have HB9 := Lib.hid (HS9.out.hb.trans (hb9.mono (by have := HS9.out.lt; have := HS9.out.ge; omega)))
          clear hs9 hb9 HST
          go_wp2_with fail
          go_ret2
          exact ⟨.inr ⟨HC.out, s9, rfl, HN9.out⟩, HB9.out⟩
end Go.Proofs.YtdpbmkfgolemjaaDoor
