/-
  InputParses answers true: any bytes are read as the document reads them, or refused at the same place with the same error, and what was read may be written without changing what is read next: for all bytes.
-/
import Derived.Test.YtdpbmkfgolemjaaDoorRdRPD
import Derived.Test.YtdpbmkfgolemjaaDoorRdBacks
import Derived.Laws.OwnMore
import Derived.Test.YtdpbmkfgolemjaaDoorRdDoors
import Derived.Test.YtdpbmkfgolemjaaDoorOpOpen
import Derived.Test.YtdpbmkfgolemjaaDoorCards
import Derived.Test.YtdpbmkfgolemjaaDoorTie
import Derived.SevenTiedAt
set_option linter.unusedVariables false
set_option linter.unusedSimpArgs false
set_option linter.deprecated false
/-
  The walk of the law InputParses.
-/
namespace Go.Proofs.YtdpbmkfgolemjaaDoor
open Go.RowKit Go.Maps

/-- a row of the call's own as a variable -/
theorem own_var5 {T : TypeId} {B : Nat} {W : World} {g cap : Nat} {l : List (Int × Int)} (h : W.ownsRow B T 2 (.slice (some ⟨g, 0, none⟩) l.length cap) l.length (pv5 l)) : Var W g (pv5 l) := by
  refine ⟨(h.lt g rfl).2, fun j hj => ?_, fun j _ => h.frozenAt j⟩
  have c := h.cells (g := g) rfl j ((pv5 l)[j]) (List.getElem?_eq_getElem hj)
  rw [add_plain5, Nat.zero_add] at c
  exact c
theorem own_form5 {T : TypeId} {B : Nat} {W : World} {v : Value} {l : List (Int × Int)} (ho : W.ownsRow B T 2 v l.length (pv5 l)) : (v = .slice none 0 0 ∧ l = []) ∨ ∃ g cap, v = .slice (some ⟨g, 0, none⟩) l.length cap ∧ B ≤ g ∧ g < W.heap.size := by
  rcases ho.2 with ⟨rfl, hn⟩ | ⟨g, cap, cur, rfl, hb0, hcu, -⟩
  · exact .inl ⟨rfl, List.length_eq_zero_iff.1 hn⟩
  · exact .inr ⟨g, cap, rfl, hb0, (Array.getElem?_eq_some_iff.1 hcu).1⟩
theorem ptRow_chg5 {P : Nat → Prop} {a b : World} {ad : Option Addr} {l : List (Int × Int)} (h : PtRow5 a ad l) (hc : Chg5 P a b) (hp : ∀ x, ad = some x → ¬ P x.block) : PtRow5 b ad l := by
  intro j hj
  obtain ⟨g, o, e, h1, h2⟩ := h j hj
  have hx := hp _ e
  have hl : g < a.heap.size := cell_lt h1
  exact ⟨g, o, e, (hc.cell (p := ⟨g, o + j * 2, none⟩) hl hx).trans h1, (hc.cell (p := ⟨g, o + j * 2 + 1, none⟩) hl hx).trans h2⟩
theorem pol_chg5 {P : Nat → Prop} {a b : World} {ap al ai : Option Addr} {cp cl ci : Nat} {p l i : List (Int × Int)} (h : Pol5 a ap al ai cp cl ci p l i) (hc : Chg5 P a b) (h1 : ∀ x, ap = some x → ¬ P x.block) (h2 : ∀ x, al = some x → ¬ P x.block) (h3 : ∀ x, ai = some x → ¬ P x.block) : Pol5 b ap al ai cp cl ci p l i :=
  ⟨ptRow_chg5 h.pp hc h1, ptRow_chg5 h.ll hc h2, ptRow_chg5 h.ii hc h3, h.capP, h.capL, h.capI, h.nilP, h.nilL, h.nilI, h.lenP, h.lenL, h.lenI⟩
/-- the document's reading, in memory of its own -/
def ParseO5 (Q : Q5) (at' e : Int) (w : World) (x : Ending) (W : World) : Prop :=
  ∃ ap cp al cl ai ci, x = .returned (.tuple #[.agg #[.slice ap Q.p.length cp, .slice al Q.l.length cl, .slice ai Q.i.length ci], .int .i64 at', .int .i64 e]) ∧ Pol5 W ap al ai cp cl ci Q.p Q.l Q.i ∧ Below w.heap.size w W ∧ (∀ a, ap = some a → w.heap.size ≤ a.block) ∧ (∀ a, al = some a → w.heap.size ≤ a.block) ∧ ∀ a, ai = some a → w.heap.size ≤ a.block
theorem rparse_o5 (s : ByteArray) (hs : s.size ≤ 10000) (ad : Option Addr) (cap : Nat) (hcap : s.size ≤ cap) (w : World) (hB : BytesIn w ad s) {Q : Q5} {at' e : Int} (hp : prog5 s = (Q, at', e)) :
    Calls Tryd.prog 19 #[.slice ad s.size cap] w (ParseO5 Q at' e w) := by
  have hl := prog_len5 s
  have ho := out_prog5 s
  rw [hp] at hl ho
  refine (rparse_l5 s hs ad cap hcap w hB Q at' e ho).mono ?_
  rintro x W ⟨vp, vl, vi, rfl, h1, h2, h3, hb⟩
  obtain ⟨ap, cp, rfl, a1, a2, a3, a4⟩ := own_row5 h1
  obtain ⟨al, cl, rfl, b1, b2, b3, b4⟩ := own_row5 h2
  obtain ⟨ai, ci, rfl, c1, c2, c3, c4⟩ := own_row5 h3
  exact ⟨ap, cp, al, cl, ai, ci, rfl, ⟨a2, b2, c2, a1, b1, c1, a3, b3, c3, hl.1, hl.2.1, hl.2.2⟩, hb, a4, b4, c4⟩
/-- the program's, with the row that may be written -/
def ParseV5 (Q : Q5) (at' e : Int) (w : World) (x : Ending) (W : World) : Prop :=
  ∃ ap cp al cl ai ci, x = .returned (.tuple #[.agg #[.slice ap Q.p.length cp, .slice al Q.l.length cl, .slice ai Q.i.length ci], .int .i64 at', .int .i64 e]) ∧ Pol5 W ap al ai cp cl ci Q.p Q.l Q.i ∧ Below w.heap.size w W ∧ ((ap = none ∧ Q.p = []) ∨ ∃ g, ap = some ⟨g, 0, none⟩ ∧ w.heap.size ≤ g ∧ g < W.heap.size ∧ Var W g (pv5 Q.p))
theorem parse_v5 (s : ByteArray) (hs : s.size ≤ 10000) (ad : Option Addr) (cap : Nat) (w : World) (hB : BytesIn w ad s) {Q : Q5} {at' e : Int} (hp : prog5 s = (Q, at', e)) :
    Calls Tryd.prog 18 #[.slice ad s.size cap] w (ParseV5 Q at' e w) := by
  have hl := prog_len5 s
  rw [hp] at hl
  have h := words_len s
  refine (parse5_l s (by omega) (by omega) (fun x hx => (words_fit6 hs x hx).2) ad cap w hB).mono ?_
  rw [hp]
  rintro x W ⟨vp, vl, vi, rfl, h1, h2, h3, hb⟩
  have hv : (∃ cp, vp = .slice none 0 cp ∧ Q.p = []) ∨ True := .inr trivial
  obtain ⟨al, cl, rfl, b1, b2, b3, -⟩ := own_row5 h2
  obtain ⟨ai, ci, rfl, c1, c2, c3, -⟩ := own_row5 h3
  rcases own_form5 h1 with ⟨rfl, hn⟩ | ⟨g, cap, rfl, hg1, hg2⟩
  · refine ⟨none, 0, al, cl, ai, ci, ?_, ?_, hb, .inl ⟨rfl, hn⟩⟩
    · dsimp only at hn ⊢
      rw [hn]
      rfl
    · have e9 : PtRow5 W none Q.p := by rw [show Q.p = [] from hn]; exact ptRow_nil5 _ _
      exact ⟨e9, b2, c2, by rw [show Q.p = [] from hn]; exact Nat.le_refl _, b1, c1, fun _ => rfl, b3, c3, hl.1, hl.2.1, hl.2.2⟩
  · obtain ⟨ap, cp, e1, a1, a2, a3, -⟩ := own_row5 h1
    cases e1
    exact ⟨_, cap, al, cl, ai, ci, rfl, ⟨a2, b2, c2, a1, b1, c1, a3, b3, c3, hl.1, hl.2.1, hl.2.2⟩, hb, .inr ⟨g, rfl, hg1, hg2, own_var5 h1⟩⟩
set_option maxHeartbeats 16000000 in
set_option maxRecDepth 100000 in
theorem iparses_l5 (ad : Option Addr) (cb : Nat) (s : ByteArray) (hcap : s.size ≤ cb) (w : World) (hT : Tab5 w) (hB : BytesIn w ad s) :
    Calls Tryd.prog 4 #[.slice ad s.size cb] w (Gives (.bool true) w) := by
  have HT := Lib.hid hT
  have HB0 := Lib.hid hB
  have HCAP := Lib.hid hcap
  have KN := Lib.hid (fun W h => known_l5 W h)
  clear hT hB hcap
  go_enter Tryd.func4, Tryd.ntmps4
  by_cases h9 : 9000 < s.size
  · have b1 : ((9000 : Int) < (s.size : Int)) = True := eq_true (by omega)
    go_wp2_with fail
    (with_reducible refine (KN.out _ (HT.out.below (Below.refl _ _))).mono ?_); rintro e w29 ⟨rfl, hb9⟩
    have HB9 := Lib.hid (bl_trans ((Below.refl _ _)) hb9)
    clear hb9
    go_wp2_with fail
    go_ret
    exact ⟨rfl, HB9.out⟩
  have b1 : ((9000 : Int) < (s.size : Int)) = False := eq_false (by omega)
  have H9 : Hid (s.size ≤ 9000) := by unfold Hid; omega
  clear h9
  obtain ⟨⟨Q, at', er⟩, hq⟩ : ∃ z, prog5 s = z := ⟨_, rfl⟩
  have HQ := Lib.hid hq
  clear hq
  have PA := Lib.hid (parse_v5 s (by have := H9.out; omega) ad cb w HB0.out HQ.out)
  go_wp2_with fail
  (with_reducible refine PA.out.mono ?_); rintro e w2 ⟨ap, cp, al, cl, ai, ci, rfl, hq2, hb2, hrow⟩
  have HB2 := Lib.hid hb2
  have HQ2 := Lib.hid hq2
  have HROW := Lib.hid hrow
  clear PA hb2 hq2 hrow b1
  dsimp only
  obtain ⟨g3, hg3⟩ : ∃ g, w2.heap.size = g := ⟨_, rfl⟩
  go_upto_region 4 with (fail)
  refine wp_abs (fun V => Below w.heap.size w V ∧ Var V g3 [.slice ap Q.p.length cp, .slice al Q.l.length cl, .slice ai Q.i.length ci] ∧ Below w2.heap.size w2 V) ?_ ?_
  · exact ⟨bl_trans HB2.out (by repeat (first | (with_reducible exact Below.refl _ _) | (with_reducible refine bl_alloc ?_ _) | (with_reducible refine Below.drew ?_) | (with_reducible refine below_drewN' ?_ _) | ((with_reducible refine bl_set ?_ ?_ _); (rotate_left; (dsimp only; omega))))), var3o_new _ _ _ _ _ _ hg3.symm, by repeat (first | (with_reducible exact Below.refl _ _) | (with_reducible refine bl_alloc ?_ _) | (with_reducible refine Below.drew ?_) | (with_reducible refine below_drewN' ?_ _) | ((with_reducible refine bl_set ?_ ?_ _); (rotate_left; (dsimp only; omega))))⟩
  rintro W3 hS
  have HS := Lib.hid hS
  have HG3 : Hid (g3 = w2.heap.size) := hg3.symm
  try rw [hg3]
  clear hS hg3
  have RA := Lib.hid (rparse_o5 s (by have := H9.out; omega) ad cb HCAP.out W3 (HB0.out.below HS.out.1) HQ.out)
  go_wp2_with fail
  (with_reducible refine RA.out.mono ?_); rintro e w4 ⟨ap', cp', al', cl', ai', ci', rfl, hq4, hb4, o1, o2, o3⟩
  have HQ4 := Lib.hid hq4
  have HOO := Lib.hid (And.intro o1 (And.intro o2 o3))
  have HS4 := Lib.hid (And.intro (bl_trans HS.out.1 hb4) (And.intro (HS.out.2.1.below hb4) (And.intro (bl_trans HS.out.2.2 hb4) (And.intro HS.out.2.1.lt hb4.size))))
  clear RA hq4 hb4 o1 o2 o3 HS
  dsimp only
  obtain ⟨g6, hg6⟩ : ∃ g, w4.heap.size = g := ⟨_, rfl⟩
  go_upto_region 5 with (fail)
  refine wp_abs (fun V => (Below w.heap.size w V ∧ Var V g3 [.slice ap Q.p.length cp, .slice al Q.l.length cl, .slice ai Q.i.length ci] ∧ Var V g6 [.slice ap' Q.p.length cp', .slice al' Q.l.length cl', .slice ai' Q.i.length ci'] ∧ Pol5 V ap' al' ai' cp' cl' ci' Q.p Q.l Q.i) ∧ Below w2.heap.size w2 V) ?_ ?_
  · exact ⟨⟨bl_trans HS4.out.1 (by repeat (first | (with_reducible exact Below.refl _ _) | (with_reducible refine bl_alloc ?_ _) | (with_reducible refine Below.drew ?_) | (with_reducible refine below_drewN' ?_ _) | ((with_reducible refine bl_set ?_ ?_ _); (rotate_left; (dsimp only; omega))))), HS4.out.2.1.below (by repeat (first | (with_reducible exact Below.refl _ _) | (with_reducible refine bl_alloc ?_ _) | (with_reducible refine Below.drew ?_) | (with_reducible refine below_drewN' ?_ _) | ((with_reducible refine bl_set ?_ ?_ _); (rotate_left; (dsimp only; omega))))), var3o_new _ _ _ _ _ _ hg6.symm, HQ4.out.below (by repeat (first | (with_reducible exact Below.refl _ _) | (with_reducible refine bl_alloc ?_ _) | (with_reducible refine Below.drew ?_) | (with_reducible refine below_drewN' ?_ _) | ((with_reducible refine bl_set ?_ ?_ _); (rotate_left; (dsimp only; omega)))))⟩, bl_trans HS4.out.2.2.1 (by repeat (first | (with_reducible exact Below.refl _ _) | (with_reducible refine bl_alloc ?_ _) | (with_reducible refine Below.drew ?_) | (with_reducible refine below_drewN' ?_ _) | ((with_reducible refine bl_set ?_ ?_ _); (rotate_left; (dsimp only; omega)))))⟩
  rintro W5 hS
  have HS := Lib.hid hS
  have HG6 : Hid (W3.heap.size ≤ g6 ∧ g3 < W3.heap.size ∧ g3 = w2.heap.size ∧ w.heap.size ≤ w2.heap.size) := by
    have h1 := HS4.out.2.2.2
    have h2 := HG3.out
    have h3 := HB2.out.size
    unfold Hid
    omega
  try rw [hg6]
  clear hS hg6 HQ4 HS4
  obtain ⟨x0, x1, x2⟩ := HS.out.1.2.1.three6
  obtain ⟨y0, y1, y2⟩ := HS.out.1.2.2.1.three6
  have SM := Lib.hid (same_l5 Q.p Q.l Q.i Q.p Q.l Q.i ap al ai ap' al' ai' cp cl ci cp' cl' ci' W5 (HQ2.out.below HS.out.2) HS.out.1.2.2.2)
  rw [show (decide (Q.p = Q.p) && decide (Q.l = Q.l) && decide (Q.i = Q.i)) = true by simp] at SM
  have e1 : (at' != at') = false := by simp
  have e2 : (er != er) = false := by simp
  go_wp2_with fail
  (with_reducible refine SM.out.mono ?_); rintro e w6 ⟨rfl, hb6⟩
  have HS6 := Lib.hid (And.intro (bl_trans HS.out.1.1 hb6) (And.intro (HS.out.1.2.1.below hb6) (And.intro (HS.out.1.2.2.1.below hb6) (And.intro (HS.out.1.2.2.2.below hb6) (bl_trans HS.out.2 hb6)))))
  clear hb6 SM x0 x1 x2 y0 y1 y2 HS HQ2
  go_upto_region 7 with (fail)
  clear e1 e2
  go_wp2_with fail
  obtain ⟨n, hn⟩ : ∃ n, Q.p.length = n := ⟨_, rfl⟩
  have hnl := (prog_len5 s).1
  rw [HQ.out] at hnl
  dsimp only at hnl
  have HNL : Hid (Q.p.length ≤ 10000) := hnl
  clear hnl hn n
  go_loopw [9] (fun iv W => ∃ j : Nat, iv = .int .i64 (j : Int) ∧ j ≤ Q.p.length ∧ (Below w.heap.size w W ∧ Var W g3 [.slice ap Q.p.length cp, .slice al Q.l.length cl, .slice ai Q.i.length ci] ∧ Var W g6 [.slice ap' Q.p.length cp', .slice al' Q.l.length cl', .slice ai' Q.i.length ci'] ∧ Pol5 W ap' al' ai' cp' cl' ci' Q.p Q.l Q.i) ∧ ((ap = none ∧ Q.p = []) ∨ ∃ g vs, ap = some ⟨g, 0, none⟩ ∧ w.heap.size ≤ g ∧ g < w2.heap.size ∧ Var W g vs ∧ vs.length = Q.p.length * 2)) (fun iv _ => 20000 - (intOf iv).toNat)
  case atStart =>
    refine ⟨0, rfl, Nat.zero_le _, ⟨HS6.out.1, HS6.out.2.1, HS6.out.2.2.1, HS6.out.2.2.2.1⟩, ?_⟩
    rcases HROW.out with h | ⟨g, e, h1, h2, h3⟩
    · exact .inl h
    · exact .inr ⟨g, _, e, h1, h2, h3.below HS6.out.2.2.2.2, pv_len5 _⟩
  case round =>
    obtain ⟨j, rfl, hj, hS, hR⟩ := hrel
    clear HS6
    have HS := Lib.hid hS
    obtain ⟨x0, x1, x2⟩ := HS.out.2.1.three6
    clear hS
    by_cases hlt : j < Q.p.length
    · have b1 : ((j : Int) < (Q.p.length : Int)) = True := eq_true (by omega)
      have b2 : (j < Q.p.length) = True := eq_true hlt
      have b3 : ((0 : Int) ≤ (j : Int)) = True := eq_true (by omega)
      rcases hR with ⟨-, hn⟩ | ⟨g, vs, rfl, hg1, hg2, hV, hvl⟩
      · rw [hn] at hlt
        exact absurd hlt (Nat.not_lt_zero _)
      have hj2 : j * 2 < vs.length := by omega
      obtain ⟨z, c0⟩ : ∃ z, wr.cell? ⟨g, j * 2, none⟩ = some z := ⟨_, hV.cells (j * 2) hj2⟩
      have c1 := hV.free (j * 2) hj2
      have HV := Lib.hid hV
      have HG : Hid (w.heap.size ≤ g ∧ g < w2.heap.size ∧ vs.length = Q.p.length * 2 ∧ j * 2 < vs.length ∧ j < Q.p.length) := ⟨hg1, hg2, hvl, hj2, hlt⟩
      obtain ⟨j2, hj3⟩ : ∃ j2, j + 1 = j2 := ⟨_, rfl⟩
      have v1 : j2 ≤ 100000 := by have := HNL.out; omega
      have HJ2 : Hid (j2 ≤ Q.p.length ∧ j < j2 ∧ j2 ≤ 10000) := by have := HNL.out; unfold Hid; omega
      have q7 : (j : Int) + 1 = (j2 : Int) := by omega
      have hch := ((Chg5.refl (· = g) wr).set ⟨g, j * 2, none⟩ (.int .i64 7) (.inl rfl))
      have HX : Hid (Below w.heap.size w (wr.setCell ⟨g, j * 2, none⟩ (.int .i64 7)) ∧ Var (wr.setCell ⟨g, j * 2, none⟩ (.int .i64 7)) g3 [.slice (some ⟨g, 0, none⟩) Q.p.length cp, .slice al Q.l.length cl, .slice ai Q.i.length ci] ∧ Var (wr.setCell ⟨g, j * 2, none⟩ (.int .i64 7)) g6 [.slice ap' Q.p.length cp', .slice al' Q.l.length cl', .slice ai' Q.i.length ci'] ∧ Pol5 (wr.setCell ⟨g, j * 2, none⟩ (.int .i64 7)) ap' al' ai' cp' cl' ci' Q.p Q.l Q.i) := by
        have h6 := HG6.out
        have h3 := HOO.out
        refine ⟨bl_set HS.out.1 hg1 _, HS.out.2.1.far (show g ≠ g3 by omega) _, HS.out.2.2.1.far (show g ≠ g6 by omega) _, pol_chg5 HS.out.2.2.2 hch (fun x e hx => ?_) (fun x e hx => ?_) (fun x e hx => ?_)⟩
        · have := h3.1 x e; omega
        · have := h3.2.1 x e; omega
        · have := h3.2.2 x e; omega
      have HV2 := Lib.hid (HV.out.put5 hj2 (.int .i64 7))
      have q8 := (wnat5 v1).1
      clear hV hg1 hg2 hvl hj2 hj3 v1 hch hlt hj
      go_wp2
      go_roundw
      case rel => exact ⟨j2, by first | rfl | exact congrArg _ q8 | simp [q8], HJ2.out.1, HX.out, .inr ⟨g, _, rfl, HG.out.1, HG.out.2.1, HV2.out, by rw [List.length_set]; exact HG.out.2.2.1⟩⟩
      case measure =>
        have hv := HJ2.out
        try rw [q8]
        clear q8 q7
        simp only [intOf, Int.toNat_natCast]
        omega
    · obtain rfl : j = Q.p.length := by omega
      have b1 : ((Q.p.length : Int) < (Q.p.length : Int)) = False := eq_false (by omega)
      clear hR hlt hj
      have PA := Lib.hid (parse_b5 s (by have := H9.out; omega) ad cb wr (HB0.out.below HS.out.1) HQ.out)
      go_wp2_with fail
      (with_reducible refine PA.out.mono ?_); rintro e w11 ⟨ap2, cp2, al2, cl2, ai2, ci2, rfl, hq6, hb6⟩
      have HS7 := Lib.hid (And.intro (bl_trans HS.out.1 hb6) (And.intro (HS.out.2.2.1.below hb6) (HS.out.2.2.2.below hb6)))
      have HQ6 := Lib.hid hq6
      clear hb6 hq6 PA HS x0 x1 x2
      dsimp only
      obtain ⟨g4, hg4⟩ : ∃ g, w11.heap.size = g := ⟨_, rfl⟩
      go_upto_region 12 with (fail)
      refine wp_abs (fun V => Below w.heap.size w V ∧ Var V g6 [.slice ap' Q.p.length cp', .slice al' Q.l.length cl', .slice ai' Q.i.length ci'] ∧ Pol5 V ap' al' ai' cp' cl' ci' Q.p Q.l Q.i ∧ Var V g4 [.slice ap2 Q.p.length cp2, .slice al2 Q.l.length cl2, .slice ai2 Q.i.length ci2] ∧ Pol5 V ap2 al2 ai2 cp2 cl2 ci2 Q.p Q.l Q.i) ?_ ?_
      · exact ⟨bl_trans HS7.out.1 (by repeat (first | (with_reducible exact Below.refl _ _) | (with_reducible refine bl_alloc ?_ _) | (with_reducible refine Below.drew ?_) | (with_reducible refine below_drewN' ?_ _) | ((with_reducible refine bl_set ?_ ?_ _); (rotate_left; (dsimp only; omega))))), HS7.out.2.1.below (by repeat (first | (with_reducible exact Below.refl _ _) | (with_reducible refine bl_alloc ?_ _) | (with_reducible refine Below.drew ?_) | (with_reducible refine below_drewN' ?_ _) | ((with_reducible refine bl_set ?_ ?_ _); (rotate_left; (dsimp only; omega))))), HS7.out.2.2.below (by repeat (first | (with_reducible exact Below.refl _ _) | (with_reducible refine bl_alloc ?_ _) | (with_reducible refine Below.drew ?_) | (with_reducible refine below_drewN' ?_ _) | ((with_reducible refine bl_set ?_ ?_ _); (rotate_left; (dsimp only; omega))))), var3o_new _ _ _ _ _ _ hg4.symm, HQ6.out.below (by repeat (first | (with_reducible exact Below.refl _ _) | (with_reducible refine bl_alloc ?_ _) | (with_reducible refine Below.drew ?_) | (with_reducible refine below_drewN' ?_ _) | ((with_reducible refine bl_set ?_ ?_ _); (rotate_left; (dsimp only; omega)))))⟩
      rintro W12 hS12
      have HS8 := Lib.hid hS12
      try rw [hg4]
      clear hS12 hg4 HQ6 HS7
      obtain ⟨y0, y1, y2⟩ := HS8.out.2.1.three6
      obtain ⟨x0, x1, x2⟩ := HS8.out.2.2.2.1.three6
      have SM := Lib.hid (same_l5 Q.p Q.l Q.i Q.p Q.l Q.i ap2 al2 ai2 ap' al' ai' cp2 cl2 ci2 cp' cl' ci' W12 HS8.out.2.2.2.2 HS8.out.2.2.1)
      rw [show (decide (Q.p = Q.p) && decide (Q.l = Q.l) && decide (Q.i = Q.i)) = true by simp] at SM
      go_wp2_with fail
      (with_reducible refine SM.out.mono ?_); rintro e w18 ⟨rfl, hb8⟩
      have HB8 := Lib.hid (bl_trans HS8.out.1 hb8)
      clear hb8 SM x0 x1 x2 y0 y1 y2 HS8
      go_wp2_with fail
      (with_reducible refine (KN.out _ (HT.out.below HB8.out)).mono ?_); rintro e w29 ⟨rfl, hb9⟩
      have HB9 := Lib.hid (bl_trans (HB8.out) hb9)
      clear hb9
      go_wp2_with fail
      go_ret
      exact ⟨rfl, HB9.out⟩
end Go.Proofs.YtdpbmkfgolemjaaDoor

namespace Go.Proofs.YtdpbmkfgolemjaaDoor.inputParses
open Go.ChangeShapes Go.WideShapes Go.ChangeAt Go.RowKit

set_option maxRecDepth 100000 in
theorem lifted (os : Go.Os) (started : os.Started) (H : Type) (enc : TypeId × Value → H) :
    ReturnsInHanded {} Tryd.checked os 4 .any (fun w args => (Rows.inputParsesSpec.pre enc Tryd.prog Tryd.f4 [] false w args ∧ laidMetH Tryd.prog laid5 w) ∧ sizedMet enc Tryd.prog Tryd.f4 (OpenSpec.ofChange Rows.inputParsesSpec) false w args)
      (Rows.inputParsesSpec.post enc Tryd.prog Tryd.f4 false true false false) := by
  refine returnsInHanded_of_change_and (C := Tryd.checked) (X := fun w _ => laidMetH Tryd.prog laid5 w) (fun _ _ _ hh h => h.of_heap hh) own6 started (by kernel_rfl) Tryd.func4
    (ChangeSpec.witness_shaped (enc := enc) (C := Tryd.checked) (os := os) (X := fun w _ => laidMetH Tryd.prog laid5 w) false (World.doorLaid Tryd.prog 400 os) #[.slice none 0 0] 8 rfl (World.shaped_of_RefB (by kernel_rfl) (by kernel_rfl)) (by kernel_rfl) (by kernel_rfl) (by kernel_rfl) (door5 os _)) ?_
  intro W base args ds gs before hval0 hW _ _ hL _
  have hval : ∀ (j : Nat) t v, Tryd.f4.params[j]? = some t → args[j]? = some v → Value.okWide Tryd.prog W .any base t v := hval0
  have hW' := hW
  obtain ⟨p, q, hA0, hV, rfl, -, -⟩ := hW
  have hA : DataW.TrodAll enc Tryd.prog W 0 (fun _ => true) true Tryd.f4.params.toList args.toList ds p := hA0
  rw [Tryd.params4] at hA hval
  obtain ⟨v0, vs0, d0, ds0, p0, q0, hargs0, rfl, rfl, h0, r0⟩ := trodAll_cons hA
  obtain ⟨rfl, rfl, rfl⟩ := trodAll_nil r0
  obtain rfl : args = #[v0] := by cases args; simp_all
  obtain ⟨rfl, rfl⟩ := trodVars_none hV
  obtain ⟨ad0, cp0, s0, rfl, hcap0, -, hB0⟩ := open_bytes (hval 0 37 v0 rfl rfl) h0
  clear hA0 hval0
  have hlt0 : ∀ x ∈ p0, x.block < W.heap.size := fun x hx => by simpa using hW'.lt x (by simpa using hx)
  simp only [List.append_nil] at hW'
  refine (iparses_l5 ad0 cp0 s0 hcap0 W (tab_of_laid5 hL) hB0).mono fun e W' h => ?_
  obtain ⟨he, hb⟩ := h
  subst he
  have hargs9 : DataW.TrodAll enc Tryd.prog W' 0 (fun b => decide (b < W.heap.size)) true [37] [.slice ad0 s0.size cp0] [d0] p0 := by
    simpa using trodAll_cons_mk (Below.trod (by kernel_rfl) (by kernel_rfl) (of_decide_eq_true (by kernel_rfl)) h0 hb hlt0) trodAll_mk0
  exact ⟨_, rfl, _, _, _, [], p0, [], hW', trodAll_cons_mk (shut_bool Tryd.underlying4 _) trodAll_mk0, hargs9, rfl, hb.frame _, fun h => by cases h⟩

theorem row_holds : Rows.InputParsesSaid :=
  OpenClaim.holds_of_wide 4 Tryd.f4 rfl rfl rfl rfl rfl rfl rfl ⟨rfl, rfl, rfl, rfl, rfl⟩ rfl rfl rfl rfl rfl (by kernel_rfl) Tryd.func4 (by kernel_rfl)
    (of_decide_eq_true (by kernel_rfl)) (by unfold Func.isWrapper; first | (rw [if_pos (by decide +kernel)]; kernel_rfl) | (rw [if_neg (by decide +kernel)]; exact ⟨rfl, rfl⟩))
    (fun os started H enc _ => lifted os started H enc)
theorem proved : Rows.InputParsesCardSaid :=
  Claim7.holds_tied_plain_at .later [] [.data, .data, .data] true Rows.inputParsesCard.stood.harness false
    row_holds (fun _ h => by cases h) (by kernel_rfl) (fun _ h => by cases h) inputParses_row_tie rfl ⟨rfl, rfl⟩ (by kernel_rfl) rfl
    (fun f fn hf hfn => by
      obtain rfl : f = 4 := Option.some.inj ((show Tryd.prog.funcNamed "parquet/parquetlaw05.InputParses" = some 4 by kernel_rfl).symm.trans hf) |>.symm
      obtain rfl : fn = Tryd.f4 := (Option.some.inj (Tryd.func4.symm.trans hfn)).symm
      exact ⟨by kernel_rfl, fun j t ht => by
        rw [Tryd.params4] at ht
        rcases j with _ | j
        · have h3 : t = 37 := by simpa using ht.symm
          subst h3
          exact (show Tryd.prog.wantsStandIn 37 = false by kernel_rfl)
        · simp at ht⟩)
    (by kernel_rfl)
end Go.Proofs.YtdpbmkfgolemjaaDoor.inputParses
