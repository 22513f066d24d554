/-
  Options in memory; Check on both sides; the mode of a word.
-/
import Derived.Test.YtoglibmdpgfpaaaDoorOpMath
import Derived.Test.YtoglibmdpgfpaaaDoorJoins
import Derived.Test.YtoglibmdpgfpaaaDoorGeoAll
import Derived.Maps.OwnSet
import Derived.Maps.OwnOps
import Derived.LoopN
import Derived.StringKeys
set_option linter.unusedVariables false
set_option linter.unusedSimpArgs false
set_option linter.deprecated false
namespace Go.Proofs.YtoglibmdpgfpaaaDoor
open Go.RowKit

theorem var3o {W : World} {g : Nat} {a b c : Value} (hl : g < W.heap.size) (h0 : W.cell? ⟨g, 0, none⟩ = some a) (h1 : W.cell? ⟨g, 1, none⟩ = some b) (h2 : W.cell? ⟨g, 2, none⟩ = some c) (f0 : W.frozen? ⟨g, 0, none⟩ = false) (f1 : W.frozen? ⟨g, 1, none⟩ = false) (f2 : W.frozen? ⟨g, 2, none⟩ = false) : Var W g [a, b, c] :=
  ⟨hl, fun i hi => by
    match i, hi with
    | 0, _ => exact h0
    | 1, _ => exact h1
    | 2, _ => exact h2, fun i hi => by
    match i, hi with
    | 0, _ => exact f0
    | 1, _ => exact f1
    | 2, _ => exact f2⟩
theorem var3o_new (W : World) (a b c : Value) (t : TypeId) (g : Nat) (hg : g = W.heap.size) : Var (W.alloc (.cells #[a, b, c] t)) g [a, b, c] := by
  subst hg
  exact var3o (by simp) (by simp [go_sem]) (by simp [go_sem]) (by simp [go_sem]) (by simp [go_sem]) (by simp [go_sem]) (by simp [go_sem])
theorem Var.three6 {W : World} {g : Nat} {a b c : Value} (h : Var W g [a, b, c]) : W.cell? ⟨g, 0, none⟩ = some a ∧ W.cell? ⟨g, 1, none⟩ = some b ∧ W.cell? ⟨g, 2, none⟩ = some c := ⟨h.cells 0 (by simp), h.cells 1 (by simp), h.cells 2 (by simp)⟩
theorem Var.free36 {W : World} {g : Nat} {a b c : Value} (h : Var W g [a, b, c]) : W.frozen? ⟨g, 0, none⟩ = false ∧ W.frozen? ⟨g, 1, none⟩ = false ∧ W.frozen? ⟨g, 2, none⟩ = false := ⟨h.free 0 (by simp), h.free 1 (by simp), h.free 2 (by simp)⟩
theorem Var.set3_6 {W : World} {g : Nat} {a b c : Value} (h : Var W g [a, b, c]) (a' b' c' : Value) : Var (((W.setCell ⟨g, 0, none⟩ a').setCell ⟨g, 1, none⟩ b').setCell ⟨g, 2, none⟩ c') g [a', b', c'] := by
  obtain ⟨h0, h1, h2⟩ := h.three6
  obtain ⟨f0, f1, f2⟩ := h.free36
  have n01 : ∀ (W : World) (u : Value), (W.setCell ⟨g, 1, none⟩ u).cell? ⟨g, 0, none⟩ = W.cell? ⟨g, 0, none⟩ := fun W u => World.cell?_setCell_other _ _ _ _ (by intro e; injection e with e1 e2; omega)
  have n02 : ∀ (W : World) (u : Value), (W.setCell ⟨g, 2, none⟩ u).cell? ⟨g, 0, none⟩ = W.cell? ⟨g, 0, none⟩ := fun W u => World.cell?_setCell_other _ _ _ _ (by intro e; injection e with e1 e2; omega)
  have n12 : ∀ (W : World) (u : Value), (W.setCell ⟨g, 2, none⟩ u).cell? ⟨g, 1, none⟩ = W.cell? ⟨g, 1, none⟩ := fun W u => World.cell?_setCell_other _ _ _ _ (by intro e; injection e with e1 e2; omega)
  have n10 : ∀ (W : World) (u : Value), (W.setCell ⟨g, 0, none⟩ u).cell? ⟨g, 1, none⟩ = W.cell? ⟨g, 1, none⟩ := fun W u => World.cell?_setCell_other _ _ _ _ (by intro e; injection e with e1 e2; omega)
  have n20 : ∀ (W : World) (u : Value), (W.setCell ⟨g, 0, none⟩ u).cell? ⟨g, 2, none⟩ = W.cell? ⟨g, 2, none⟩ := fun W u => World.cell?_setCell_other _ _ _ _ (by intro e; injection e with e1 e2; omega)
  have n21 : ∀ (W : World) (u : Value), (W.setCell ⟨g, 1, none⟩ u).cell? ⟨g, 2, none⟩ = W.cell? ⟨g, 2, none⟩ := fun W u => World.cell?_setCell_other _ _ _ _ (by intro e; injection e with e1 e2; omega)
  refine var3o (by simpa using h.lt) ?_ ?_ ?_ (by simpa using f0) (by simpa using f1) (by simpa using f2)
  · rw [n02, n01]; exact World.cell?_setCell_same _ _ _ h0
  · rw [n12]; exact World.cell?_setCell_same _ _ _ ((n10 _ _).trans h1)
  · exact World.cell?_setCell_same _ _ _ ((n21 _ _).trans ((n20 _ _).trans h2))
theorem Var.put6 {W : World} {g : Nat} {a b c : Value} (h : Var W g [a, b, c]) (x : Value) : Var (W.setCell ⟨g, 0, none⟩ x) g [x, b, c] ∧ Var (W.setCell ⟨g, 1, none⟩ x) g [a, x, c] ∧ Var (W.setCell ⟨g, 2, none⟩ x) g [a, b, x] := by
  obtain ⟨h0, h1, h2⟩ := h.three6
  obtain ⟨f0, f1, f2⟩ := h.free36
  have ne : ∀ (i j : Nat), i ≠ j → ∀ u, (W.setCell ⟨g, i, none⟩ u).cell? ⟨g, j, none⟩ = W.cell? ⟨g, j, none⟩ := fun i j hij u => World.cell?_setCell_other _ _ _ _ (by intro e; injection e with e1 e2; omega)
  refine ⟨var3o (by simpa using h.lt) (World.cell?_setCell_same _ _ _ h0) ?_ ?_ (by simpa using f0) (by simpa using f1) (by simpa using f2), var3o (by simpa using h.lt) ?_ (World.cell?_setCell_same _ _ _ h1) ?_ (by simpa using f0) (by simpa using f1) (by simpa using f2), var3o (by simpa using h.lt) ?_ ?_ (World.cell?_setCell_same _ _ _ h2) (by simpa using f0) (by simpa using f1) (by simpa using f2)⟩
  · rw [ne 0 1 (by omega)]; exact h1
  · rw [ne 0 2 (by omega)]; exact h2
  · rw [ne 1 0 (by omega)]; exact h0
  · rw [ne 1 2 (by omega)]; exact h2
  · rw [ne 2 0 (by omega)]; exact h0
  · rw [ne 2 1 (by omega)]; exact h1

def okO6 (m b : Int) : Bool := decide (1 ≤ m) && decide (m ≤ 3) && decide (0 ≤ b) && decide (b ≤ 100)
def erO6 (m b : Int) : Int := if okO6 m b then 0 else 2
theorem okO_iff6 {m b : Int} : okO6 m b = true ↔ (1 ≤ m ∧ m ≤ 3) ∧ 0 ≤ b ∧ b ≤ 100 := by
  unfold okO6
  simp only [Bool.and_eq_true, decide_eq_true_eq]
  omega
theorem okO_cases6 (m b : Int) : (m < 1 ∧ erO6 m b = 2) ∨ (¬ m < 1 ∧ 3 < m ∧ erO6 m b = 2) ∨ (¬ m < 1 ∧ ¬ 3 < m ∧ b < 0 ∧ erO6 m b = 2) ∨ (¬ m < 1 ∧ ¬ 3 < m ∧ ¬ b < 0 ∧ 100 < b ∧ erO6 m b = 2) ∨ (¬ m < 1 ∧ ¬ 3 < m ∧ ¬ b < 0 ∧ ¬ 100 < b ∧ erO6 m b = 0) := by
  unfold erO6
  by_cases h : okO6 m b = true
  · rw [if_pos h]
    have := okO_iff6.1 h
    omega
  · rw [if_neg h]
    have h2 : ¬ ((1 ≤ m ∧ m ≤ 3) ∧ 0 ≤ b ∧ b ≤ 100) := fun x => h (okO_iff6.2 x)
    omega
set_option maxHeartbeats 4000000 in
set_option maxRecDepth 100000 in
theorem ocheck_l (m b : Int) (r : Bool) (w : World) : Calls Tryd.prog 32 #[.agg #[.int .i64 m, .int .i64 b, .bool r]] w (Gives (.int .i64 (erO6 m b)) w) := by
  have HC := Lib.hid (okO_cases6 m b)
  generalize erO6 m b = er at *
  go_enter Tryd.func32, Tryd.ntmps32
  rcases HC.out with ⟨h1, rfl⟩ | ⟨h1, h2, rfl⟩ | ⟨h1, h2, h3, rfl⟩ | ⟨h1, h2, h3, h4, rfl⟩ | ⟨h1, h2, h3, h4, rfl⟩
  all_goals
    clear HC
    go_wp2
    go_ret
    exact ⟨rfl, by repeat (first | (with_reducible exact Below.refl _ _) | (with_reducible refine bl_alloc ?_ _) | (with_reducible refine Below.drew ?_) | (with_reducible refine below_drewN' ?_ _) | ((with_reducible refine bl_set ?_ ?_ _); (rotate_left; (dsimp only; omega))))⟩
set_option maxHeartbeats 4000000 in
set_option maxRecDepth 100000 in
theorem rocheck_l (m b : Int) (r : Bool) (w : World) : Calls Tryd.prog 35 #[.agg #[.int .i64 m, .int .i64 b, .bool r]] w (Gives (.int .i64 (erO6 m b)) w) := by
  have HC := Lib.hid (okO_cases6 m b)
  generalize erO6 m b = er at *
  go_enter Tryd.func35, Tryd.ntmps35
  rcases HC.out with ⟨h1, rfl⟩ | ⟨h1, h2, rfl⟩ | ⟨h1, h2, h3, rfl⟩ | ⟨h1, h2, h3, h4, rfl⟩ | ⟨h1, h2, h3, h4, rfl⟩
  all_goals
    clear HC
    go_wp2
    go_ret
    exact ⟨rfl, by repeat (first | (with_reducible exact Below.refl _ _) | (with_reducible refine bl_alloc ?_ _) | (with_reducible refine Below.drew ?_) | (with_reducible refine below_drewN' ?_ _) | ((with_reducible refine bl_set ?_ ?_ _); (rotate_left; (dsimp only; omega))))⟩
/-- a text against a written one -/
theorem toList_eqs (t : ByteArray) (L : List UInt8) : (t.toList == L) = decide (nums t = L.map fun x => (x.toNat : Int)) := by
  rw [ByteArray.toList_eq]
  have e : nums t = t.data.toList.map fun x => (x.toNat : Int) := rfl
  rw [e, Bool.eq_iff_iff, beq_iff_eq, decide_eq_true_eq]
  exact (List.map_inj_right (fun x y h => UInt8.toNat_inj.1 (by omega))).symm
theorem eqs_yes {t : ByteArray} {L : List UInt8} {l : List Int} (hl : L.map (fun x => (x.toNat : Int)) = l) (h : nums t = l) : (t.toList == L) = true := by rw [toList_eqs, hl]; exact decide_eq_true h
theorem eqs_no {t : ByteArray} {L : List UInt8} {l : List Int} (hl : L.map (fun x => (x.toNat : Int)) = l) (h : nums t ≠ l) : (t.toList == L) = false := by rw [toList_eqs, hl]; exact decide_eq_false h
set_option maxHeartbeats 4000000 in
set_option maxRecDepth 100000 in
theorem rmode_l (s : ByteArray) (w : World) : Calls Tryd.prog 56 #[.string s] w (Gives (.int .i64 (mode6 (nums s))) w) := by
  have HM : Hid (mode6 (nums s) = if nums s = wTri6 then 1 else if nums s = wQuad6 then 2 else if nums s = wAll6 then 3 else 0) := rfl
  generalize mode6 (nums s) = z at *
  go_enter Tryd.func56, Tryd.ntmps56
  by_cases h1 : nums s = wTri6
  · have b1 := eqs_yes (L := [116, 114, 105]) rfl h1
    obtain rfl : z = 1 := by rw [HM.out, if_pos h1]
    clear HM h1
    go_wp2
    go_ret
    exact ⟨rfl, Below.refl _ _⟩
  have b1 := eqs_no (L := [116, 114, 105]) rfl h1
  by_cases h2 : nums s = wQuad6
  · have b2 := eqs_yes (L := [113, 117, 97, 100]) rfl h2
    obtain rfl : z = 2 := by rw [HM.out, if_neg h1, if_pos h2]
    clear HM h1 h2
    go_wp2
    go_ret
    exact ⟨rfl, Below.refl _ _⟩
  have b2 := eqs_no (L := [113, 117, 97, 100]) rfl h2
  by_cases h3 : nums s = wAll6
  · have b3 := eqs_yes (L := [97, 108, 108]) rfl h3
    obtain rfl : z = 3 := by rw [HM.out, if_neg h1, if_neg h2, if_pos h3]
    clear HM h1 h2 h3
    go_wp2
    go_ret
    exact ⟨rfl, Below.refl _ _⟩
  have b3 := eqs_no (L := [97, 108, 108]) rfl h3
  obtain rfl : z = 0 := by rw [HM.out, if_neg h1, if_neg h2, if_neg h3]
  clear HM h1 h2 h3
  go_wp2
  go_ret
  exact ⟨rfl, Below.refl _ _⟩
set_option maxHeartbeats 4000000 in
set_option maxRecDepth 100000 in
theorem budget_l (s : ByteArray) (hs : s.size ≤ 10000) (w : World) : Calls Tryd.prog 75 #[.string s] w (Gives (.tuple #[.int .i64 (budZ6 (nums s)).1, .int .i64 (budZ6 (nums s)).2]) w) := by
  have HN := Lib.hid (number_c s hs 100 (by omega) (by omega) w)
  obtain ⟨x, hx⟩ : ∃ x, budZ6 (nums s) = x := ⟨_, rfl⟩
  rw [hx]
  have HX := Lib.hid hx
  clear hx
  go_enter Tryd.func75, Tryd.ntmps75
  go_wp2_with fail
  (with_reducible refine HN.out.mono ?_); rintro e w1 ⟨v, er, rfl, hsp, hb1⟩
  have HS := Lib.hid (bud_prog6 hsp.out)
  rw [HX.out] at HS
  clear hsp HX
  rcases HS.out with ⟨rfl, h1, rfl⟩ | ⟨rfl, h1, rfl⟩ | ⟨he, rfl, rfl⟩
  · have h2 : ¬ v < 0 := by omega
    clear HS h1
    go_wp2
    go_ret2
    exact ⟨rfl, hb1⟩
  · clear HS
    go_wp2
    go_ret2
    exact ⟨rfl, hb1⟩
  · clear HS
    rcases he with rfl | rfl
    all_goals
      go_wp2
      go_ret2
      exact ⟨rfl, hb1⟩
end Go.Proofs.YtoglibmdpgfpaaaDoor

/-
  The map of the modes' words; what lies at the words' variable.
-/
namespace Go.Proofs.YtoglibmdpgfpaaaDoor
open Go.RowKit Go.Maps

/-- the variable with the modes' words, as it is laid -/
structure Words6 (w : World) : Prop where
  c0 : w.cell? ⟨0, 0, none⟩ = some (.string ⟨#[]⟩)
  c1 : w.cell? ⟨0, 1, none⟩ = some (.string ⟨#[116, 114, 105]⟩)
  c2 : w.cell? ⟨0, 2, none⟩ = some (.string ⟨#[113, 117, 97, 100]⟩)
  c3 : w.cell? ⟨0, 3, none⟩ = some (.string ⟨#[97, 108, 108]⟩)
theorem Words6.below {w w' : World} (h : Words6 w) (hb : Below w.heap.size w w') : Words6 w' :=
  ⟨(hb.cell (cell_lt h.c0)).trans h.c0, (hb.cell (cell_lt h.c1)).trans h.c1, (hb.cell (cell_lt h.c2)).trans h.c2, (hb.cell (cell_lt h.c3)).trans h.c3⟩
theorem law_str6 : Keyed Tryd.prog 9 := string_keyed Tryd.underlying9
theorem zero_int6 (w : World) : (zeroValue 3).run Tryd.prog w = .ok (.int .i64 0) w := by kernel_rfl
def k6 (L : List UInt8) : Lit := .string L
theorem k6_is (s : ByteArray) (hs : s.size ≤ maxLen) : keyOf Tryd.prog 9 (.string s) = some (k6 s.data.toList) := Go.WideMaps.keyOf_string_mk Tryd.underlying9 hs
theorem k6_key (s : ByteArray) (hs : s.size ≤ maxLen) : WideAt.IsKeyLit (k6 s.data.toList) := law_str6.key (k6_is s hs)
def D1_6 : DataW Unit := (DataW.map []).put (k6 [116, 114, 105]) (.lit (.int .i64 1))
def D2_6 : DataW Unit := D1_6.put (k6 [113, 117, 97, 100]) (.lit (.int .i64 2))
def D3_6 : DataW Unit := D2_6.put (k6 [97, 108, 108]) (.lit (.int .i64 3))
theorem nums_is6 (s : ByteArray) (L : List UInt8) {l : List Int} (hl : L.map (fun x => (x.toNat : Int)) = l) : nums s = l ↔ s.data.toList = L := by
  subst hl
  exact List.map_inj_right (fun x y h => UInt8.toNat_inj.1 (by omega))
theorem k6_ne {a b : List UInt8} (h : a ≠ b) : k6 a ≠ k6 b := fun e => h (by unfold k6 at e; injection e)
theorem look6 (s : ByteArray) (hs : s.size ≤ maxLen) : Maps.has D3_6 (k6 s.data.toList) = decide (mode6 (nums s) ≠ 0) ∧ D3_6.atKey (k6 s.data.toList) (.lit (.int .i64 0)) = .lit (.int .i64 (mode6 (nums s))) := by
  have hk := k6_key s hs
  have i0 : IsMap (DataW.map [] : DataW Unit) := isMap_empty
  have i1 : IsMap D1_6 := i0.put _ _
  have i2 : IsMap D2_6 := i1.put _ _
  have e1 := nums_is6 s [116, 114, 105] (l := wTri6) rfl
  have e2 := nums_is6 s [113, 117, 97, 100] (l := wQuad6) rfl
  have e3 := nums_is6 s [97, 108, 108] (l := wAll6) rfl
  unfold mode6
  by_cases h3 : s.data.toList = [97, 108, 108]
  · have n1 : ¬ nums s = wTri6 := fun e => by rw [e1.1 e] at h3; cases h3
    have n2 : ¬ nums s = wQuad6 := fun e => by rw [e2.1 e] at h3; cases h3
    rw [if_neg n1, if_neg n2, if_pos (e3.2 h3)]
    rw [h3] at hk ⊢
    exact ⟨has_put_same i2 hk _, atKey_put_same i2 hk _ _⟩
  · have n3 : ¬ nums s = wAll6 := fun e => h3 (e3.1 e)
    unfold D3_6
    rw [has_put_other (k6_ne h3), atKey_put_other (k6_ne h3)]
    by_cases h2 : s.data.toList = [113, 117, 97, 100]
    · have n1 : ¬ nums s = wTri6 := fun e => by rw [e1.1 e] at h2; cases h2
      rw [if_neg n1, if_pos (e2.2 h2)]
      rw [h2] at hk ⊢
      exact ⟨has_put_same i1 hk _, atKey_put_same i1 hk _ _⟩
    · have n2 : ¬ nums s = wQuad6 := fun e => h2 (e2.1 e)
      unfold D2_6
      rw [has_put_other (k6_ne h2), atKey_put_other (k6_ne h2)]
      by_cases h1 : s.data.toList = [116, 114, 105]
      · rw [if_pos (e1.2 h1)]
        rw [h1] at hk ⊢
        exact ⟨has_put_same i0 hk _, atKey_put_same i0 hk _ _⟩
      · have n1 : ¬ nums s = wTri6 := fun e => h1 (e1.1 e)
        unfold D1_6
        rw [has_put_other (k6_ne h1), atKey_put_other (k6_ne h1), if_neg n1, if_neg n2, if_neg n3]
        exact ⟨rfl, rfl⟩
set_option maxHeartbeats 8000000 in
set_option maxRecDepth 100000 in
theorem modes_l (w : World) (hG : Words6 w) : Calls Tryd.prog 74 #[] w fun e W => e = .returned (.map (some w.heap.size)) ∧ W.ownsMap Tryd.prog 9 (plainElem (H := Unit) Tryd.prog 3) w.heap.size 3 D3_6 ∧ Below w.heap.size w W := by
  have HG := Lib.hid hG
  have h0 : 0 < w.heap.size := cell_lt hG.c0
  clear hG
  have hmm := @run_makeMap Tryd.prog
  have E1 := Lib.hid (k6_is ⟨#[116, 114, 105]⟩ (by decide))
  have E2 := Lib.hid (k6_is ⟨#[113, 117, 97, 100]⟩ (by decide))
  have E3 := Lib.hid (k6_is ⟨#[97, 108, 108]⟩ (by decide))
  have HO0 := Lib.hid (show (w.alloc (.map #[] 0)).ownsMap Tryd.prog 9 (plainElem (H := Unit) Tryd.prog 3) w.heap.size 0 (.map []) from World.ownsMap_made _ _ _ _)
  have HB0 := Lib.hid (bl_one w (.map #[] 0))
  go_enter Tryd.func74, Tryd.ntmps74
  go_wp2_with fail
  generalize hw0 : w.alloc (.map #[] 0) = w0 at *
  clear hmm hw0
  refine wp_loop_rounds 4 ?_
  have c1 := (HB0.out.cell (cell_lt HG.out.c1)).trans HG.out.c1
  rw [rounds_succ]
  go_wp2_with (at_mapUpdate; refine wpList_mapUpdate_own _ rfl _ _ _ 138 rfl 9 3 law_str6 Tryd.underlying138 _ w.heap.size 0 _ rfl HO0.out (by unfold maxLen; omega) _ _ _ rfl rfl E1.out _ [] (plainElem_int Tryd.underlying3 (by decide)) ?_)
  intro w1 hown1 hgrow1
  have HO1 : Hid (w1.ownsMap Tryd.prog 9 (plainElem (H := Unit) Tryd.prog 3) w.heap.size 1 D1_6) := hown1
  have HB1 := Lib.hid (HB0.out.grown hgrow1 HB0.out.size (fun k e => by cases e; exact Nat.le_refl _))
  have c2 := (HB1.out.cell (cell_lt HG.out.c2)).trans HG.out.c2
  clear hown1 hgrow1 HO0 HB0 c1
  go_wp2_with fail
  rw [rounds_succ]
  go_wp2_with (at_mapUpdate; refine wpList_mapUpdate_own _ rfl _ _ _ 138 rfl 9 3 law_str6 Tryd.underlying138 _ w.heap.size 1 _ rfl HO1.out (by unfold maxLen; omega) _ _ _ rfl rfl E2.out _ [] (plainElem_int Tryd.underlying3 (by decide)) ?_)
  intro w2 hown2 hgrow2
  have HO2 : Hid (w2.ownsMap Tryd.prog 9 (plainElem (H := Unit) Tryd.prog 3) w.heap.size 2 D2_6) := hown2
  have HB2 := Lib.hid (HB1.out.grown hgrow2 HB1.out.size (fun k e => by cases e; exact Nat.le_refl _))
  have c3 := (HB2.out.cell (cell_lt HG.out.c3)).trans HG.out.c3
  clear hown2 hgrow2 HO1 HB1 c2
  go_wp2_with fail
  rw [rounds_succ]
  go_wp2_with (at_mapUpdate; refine wpList_mapUpdate_own _ rfl _ _ _ 138 rfl 9 3 law_str6 Tryd.underlying138 _ w.heap.size 2 _ rfl HO2.out (by unfold maxLen; omega) _ _ _ rfl rfl E3.out _ [] (plainElem_int Tryd.underlying3 (by decide)) ?_)
  intro w3 hown3 hgrow3
  have HO3 : Hid (w3.ownsMap Tryd.prog 9 (plainElem (H := Unit) Tryd.prog 3) w.heap.size 3 D3_6) := hown3
  have HB3 := Lib.hid (HB2.out.grown hgrow3 HB2.out.size (fun k e => by cases e; exact Nat.le_refl _))
  clear hown3 hgrow3 HO2 HB2 c3
  go_wp2_with fail
  rw [rounds_succ]
  go_wp2_with fail
  go_ret
  exact ⟨rfl, HO3.out, HB3.out⟩
end Go.Proofs.YtoglibmdpgfpaaaDoor

/-
  The program's reading of options' words.
-/
namespace Go.Proofs.YtoglibmdpgfpaaaDoor
open Go.RowKit Go.Maps

def tz6 (ts : List (Nat × ByteArray)) : List (Int × List Int) := ts.map fun x => ((x.1 : Int), nums x.2)
def optV6 (R : OpR6) : Value := .tuple #[.agg #[.int .i64 R.m, .int .i64 R.b, .bool R.r], .int .i64 R.at', .int .i64 R.e]
theorem tz_drop6 {ts : List (Nat × ByteArray)} {i : Nat} (h : i < ts.length) : (tz6 ts).drop i = ((ts[i].1 : Int), nums ts[i].2) :: (tz6 ts).drop (i + 1) := by
  unfold tz6
  rw [← List.map_drop, List.drop_eq_getElem_cons h, List.map_cons, List.map_drop]
theorem tz_end6 (ts : List (Nat × ByteArray)) : (tz6 ts).drop ts.length = [] := List.drop_eq_nil_of_le (by simp [tz6])
theorem tok_at6 {W : World} {g o : Nat} {L : List (Nat × ByteArray)} (h : TokCells W (some ⟨g, o, none⟩) L) {i a : Nat} {s : ByteArray} (hi : i < L.length) (e : L[i] = (a, s)) : W.cell? ⟨g, o + i * 2, none⟩ = some (.int .i64 (a : Int)) ∧ W.cell? ⟨g, o + i * 2 + 1, none⟩ = some (.string s) := by
  obtain ⟨g', o', e1, h1, h2⟩ := h i hi
  simp only [Option.some.injEq, Addr.mk.injEq, and_true] at e1
  obtain ⟨rfl, rfl⟩ := e1
  rw [e] at h1 h2
  exact ⟨h1, h2⟩
theorem tok_below6 {W W' : World} {ad : Option Addr} {L : List (Nat × ByteArray)} (h : TokCells W ad L) (hb : Below W.heap.size W W') : TokCells W' ad L := by
  intro i hi
  obtain ⟨g, o, e, h1, h2⟩ := h i hi
  exact ⟨g, o, e, (hb.cell (p := ⟨g, _, none⟩) (cell_lt h1)).trans h1, (hb.cell (p := ⟨g, _, none⟩) (cell_lt h2)).trans h2⟩
/-- what the first word tells -/
theorem first_6 (ts : List (Nat × ByteArray)) (en : Nat) : ∃ a0 s0, (∀ h : 0 < (ts ++ [(en, (⟨#[]⟩ : ByteArray))]).length, (ts ++ [(en, (⟨#[]⟩ : ByteArray))])[0] = (a0, s0)) ∧ (s0 = ⟨#[]⟩ ∨ ∃ a, (a, s0) ∈ ts) ∧
    (mode6 (nums s0) = 0 → read6 en (tz6 ts) = bad6 a0 11) ∧ (mode6 (nums s0) ≠ 0 → 1 ≤ ts.length ∧ read6 en (tz6 ts) = steps6 en (mode6 (nums s0)) ((tz6 ts).drop 1) 0 false false) := by
  cases ts with
  | nil => exact ⟨en, ⟨#[]⟩, fun _ => rfl, .inl rfl, fun _ => rfl, fun h => absurd rfl h⟩
  | cons x t =>
    refine ⟨x.1, x.2, fun _ => rfl, .inr ⟨x.1, by simp⟩, fun h => ?_, fun h => ⟨by simp, ?_⟩⟩
    · show (if mode6 (nums x.2) = 0 then bad6 x.1 11 else _) = _
      rw [if_pos h]
    · show (if mode6 (nums x.2) = 0 then bad6 x.1 11 else steps6 en (mode6 (nums x.2)) (tz6 t) 0 false false) = _
      rw [if_neg h]
      rfl
/-- the variables of the loop -/
structure OpS (w : World) (gr go : Nat) (m b : Int) (r : Bool) (W : World) : Prop where
  hb : Below w.heap.size w W
  res : Var W gr [.int .i64 0, .int .i64 0, .bool false]
  opt : Var W go [.int .i64 m, .int .i64 b, .bool r]
theorem OpS.turn {w : World} {gr go : Nat} {m b : Int} {r : Bool} {W W' : World} (h : OpS w gr go m b r W) (hb : Below W.heap.size W W') : OpS w gr go m b r W' := ⟨bl_trans h.hb hb, h.res.below hb, h.opt.below hb⟩
theorem steps_more6 {en m : Int} {ts : List (Nat × ByteArray)} {i : Nat} {b : Int} {r : Bool} {R : OpR6} {e : Nat} (hen : en = e) (hi : i < ts.length) (hs : nums ts[i].2 = wBud6) (hR : steps6 en m ((tz6 ts).drop i) b false r = R) :
    ∃ ya ys, (∀ h : i + 1 < (ts ++ [(e, (⟨#[]⟩ : ByteArray))]).length, (ts ++ [(e, (⟨#[]⟩ : ByteArray))])[i + 1] = (ya, ys)) ∧ (ys = ⟨#[]⟩ ∨ ∃ a, (a, ys) ∈ ts) ∧
      ((budZ6 (nums ys)).2 ≠ 0 → R = bad6 ya (budZ6 (nums ys)).2) ∧ ((budZ6 (nums ys)).2 = 0 → i + 2 ≤ ts.length ∧ steps6 en m ((tz6 ts).drop (i + 2)) (budZ6 (nums ys)).1 true r = R) := by
  rw [tz_drop6 hi] at hR
  by_cases h : i + 1 < ts.length
  · rw [tz_drop6 h, steps_bud6 (x := ((ts[i].1 : Int), nums ts[i].2)) hs] at hR
    refine ⟨ts[i + 1].1, ts[i + 1].2, fun _ => by rw [List.getElem_append_left h], .inr ⟨_, List.getElem_mem h⟩, fun hn => ?_, fun hz => ?_⟩
    · rw [if_neg hn] at hR; exact hR.symm
    · rw [if_pos hz] at hR; exact ⟨h, hR⟩
  · obtain he : i + 1 = ts.length := by omega
    rw [he, tz_end6, steps_end6 (x := ((ts[i].1 : Int), nums ts[i].2)) hs] at hR
    have h11 : (budZ6 (nums (⟨#[]⟩ : ByteArray))).2 = 11 := by decide
    refine ⟨e, ⟨#[]⟩, fun hl => ?_, .inl rfl, fun _ => ?_, fun hz => ?_⟩
    · rw [List.getElem_append_right (by omega)]
      simp [he]
    · rw [h11, ← hR, hen]
    · rw [h11] at hz; cases hz
set_option maxHeartbeats 16000000 in
set_option maxRecDepth 100000 in
theorem read_l (w : World) (hG : Words6 w) (ad : Option Addr) (cap : Nat) (ts : List (Nat × ByteArray)) (en : Nat) (hok : ∀ x ∈ ts, 0 < x.2.size ∧ x.2.size ≤ 10000) (hlen : ts.length ≤ 20000) (hT : TokCells w ad (ts ++ [(en, ⟨#[]⟩)])) :
    Calls Tryd.prog 55 #[.slice ad (ts.length + 1) cap] w (Gives (optV6 (read6 en (tz6 ts))) w) := by
  obtain ⟨a0, s0, hL0, hs0, hR0, hR1⟩ := first_6 ts en
  have hLl : (ts ++ [(en, (⟨#[]⟩ : ByteArray))]).length = ts.length + 1 := by simp
  obtain ⟨g, o, rfl, -⟩ := hT 0 (by rw [hLl]; omega)
  have hsz : s0.size ≤ 10000 := by
    rcases hs0 with rfl | ⟨a, h⟩
    · exact Nat.zero_le _
    · exact (hok _ h).2
  have HT := Lib.hid hT
  have HG := Lib.hid hG
  have HOK := Lib.hid hok
  have HL := Lib.hid hLl
  obtain ⟨R, hR⟩ : ∃ R, read6 en (tz6 ts) = R := ⟨_, rfl⟩
  rw [hR] at hR0 hR1 ⊢
  have hlk := look6 s0 (by unfold maxLen; omega)
  have HKY := Lib.hid (k6_is s0 (by unfold maxLen; omega))
  obtain ⟨m, hm⟩ : ∃ m, mode6 (nums s0) = m := ⟨_, rfl⟩
  rw [hm] at hR0 hR1 hlk
  obtain ⟨ok, hk⟩ : ∃ ok, decide (m ≠ 0) = ok := ⟨_, rfl⟩
  rw [hk] at hlk
  have HLK := Lib.hid hlk
  have HR : Hid ((ok = false ∧ R = bad6 a0 11) ∨ (ok = true ∧ 1 ≤ ts.length ∧ R = steps6 en m ((tz6 ts).drop 1) 0 false false)) := by
    by_cases h0 : m = 0
    · exact .inl ⟨by rw [← hk]; simp [h0], hR0 h0⟩
    · exact .inr ⟨by rw [← hk]; simp [h0], hR1 h0⟩
  clear hs0 hR0 hR1 hT hG hok hR hm hlk hk hsz
  have HF : Hid (∀ h, (ts ++ [(en, (⟨#[]⟩ : ByteArray))])[0]'h = (a0, s0)) := hL0
  clear hL0 hLl
  have CM := Lib.hid (fun W h => modes_l W h)
  have CBU := Lib.hid (fun s h W => budget_l s h W)
  go_enter Tryd.func55, Tryd.ntmps55
  go_upto_region 1 with (fail)
  obtain ⟨gr, hgr⟩ : ∃ gr, w.heap.size = gr := ⟨_, rfl⟩
  refine wp_abs (fun V => Below w.heap.size w V ∧ Var V gr [.int .i64 0, .int .i64 0, .bool false]) ?_ ?_
  · exact ⟨by repeat (first | (with_reducible exact Below.refl _ _) | (with_reducible refine bl_alloc ?_ _) | (with_reducible refine Below.drew ?_) | (with_reducible refine below_drewN' ?_ _) | ((with_reducible refine bl_set ?_ ?_ _); (rotate_left; (dsimp only; omega)))), var3o_new _ _ _ _ _ _ hgr.symm⟩
  rintro W0 hS0
  rw [hgr]
  have HGR : Hid (gr = w.heap.size) := hgr.symm
  have HS0 := Lib.hid hS0
  clear hS0 hgr
  refine wp_scope_straight ?_
  go_upto_region 1 with (fail)
  refine wp_region_held_drew (S := fun V => Below w.heap.size w V ∧ Var V gr [.int .i64 0, .int .i64 0, .bool false]) (by kernel_rfl) ?_ (fun hHeld => ?_)
  · exact ⟨bl_trans HS0.out.1 (bel_drew _), HS0.out.2.below (bel_drew _)⟩
  revert hHeld
  generalize World.drew _ = W1
  intro hHeld 
  refine wpAnyH_take (i := 1) (v := ?_) rfl (by kernel_rfl) (by kernel_rfl) (by kernel_rfl) (fun _ _ _ h => h) (Or.inl ⟨by rfl, ?_⟩) (by assumption) ?_
  rotate_left
  · intro Wq hSw
    clear hSw
    go_simp
    all_goals (with_reducible rfl)
  try simp only [Act.put, List.getElem_toArray, List.getElem_cons_succ, List.getElem_cons_zero, List.setIfInBounds_toArray, List.set_cons_zero, List.set_cons_succ]
  refine wpAnyH_take (i := 2) (v := ?_) rfl (by kernel_rfl) (by kernel_rfl) (by kernel_rfl) (fun _ _ _ h => h) (Or.inl ⟨by rfl, ?_⟩) (by assumption) ?_
  rotate_left
  · intro Wq hSw
    clear hSw
    go_simp
    all_goals (with_reducible rfl)
  try simp only [Act.put, List.getElem_toArray, List.getElem_cons_succ, List.getElem_cons_zero, List.setIfInBounds_toArray, List.set_cons_zero, List.set_cons_succ]
  refine wpAnyH_take (i := 3) (v := ?_) rfl (by kernel_rfl) (by kernel_rfl) (by kernel_rfl) (fun _ _ _ h => h) (Or.inl ⟨by rfl, ?_⟩) (by assumption) ?_
  rotate_left
  · intro Wq hSw
    clear hSw
    go_simp
    all_goals (with_reducible rfl)
  try simp only [Act.put, List.getElem_toArray, List.getElem_cons_succ, List.getElem_cons_zero, List.setIfInBounds_toArray, List.set_cons_zero, List.set_cons_succ]
  refine wpAnyH_take (i := 4) (v := ?_) rfl (by kernel_rfl) (by kernel_rfl) (by kernel_rfl) (fun _ _ _ h => h) (Or.inl ⟨by rfl, ?_⟩) (by assumption) ?_
  rotate_left
  · intro Wq hSw
    obtain ⟨c0, c1⟩ := tok_at6 (HT.out.below hSw.1) (by rw [HL.out]; omega) (HF.out _)
    simp only [Nat.zero_mul, Nat.add_zero] at c0 c1
    clear hSw
    go_simp
    all_goals (with_reducible rfl)
  try simp only [Act.put, List.getElem_toArray, List.getElem_cons_succ, List.getElem_cons_zero, List.setIfInBounds_toArray, List.set_cons_zero, List.set_cons_succ]
  refine r1 (i := 0) rfl (fun K hK => ?_)
  go_simp
  go_at_call 74
  (with_reducible refine (CM.out _ (HG.out.below hHeld.1)).mono ?_); rintro e w1 ⟨rfl, hown1, hb1⟩
  have HO := Lib.hid hown1
  clear hown1
  refine hK.out _ _ ⟨bl_trans hHeld.1 hb1, hHeld.2.below hb1⟩ (fun hHeld2 => ?_)
  clear hK K hHeld
  have hHeld := hHeld2
  clear hHeld2
  try simp only [Act.put, List.getElem_toArray, List.getElem_cons_succ, List.getElem_cons_zero, List.setIfInBounds_toArray, List.set_cons_zero, List.set_cons_succ]
  refine r1 (i := 5) rfl (fun K hK => ?_)
  obtain ⟨v, ps, hrun, hv⟩ := HO.out.look_ok law_str6 Tryd.underlying138 (zero_int6 _) (plainElem_int Tryd.underlying3 (by decide)) HKY.out
  obtain ⟨c, rfl, hc, -⟩ := plainElem_int_inv Tryd.underlying3 hv
  have hcm : c = m := by have h9 := congrArg Prod.fst hc; dsimp only at h9; rw [HLK.out.2] at h9; injection h9 with h9; injection h9 with h8 h9; exact h9.symm
  rw [hcm] at hrun
  rw [HLK.out.1] at hrun
  clear hv hc
  go_simp
  refine hK.out _ _ hHeld (fun hHeld2 => ?_)
  clear hK K hHeld hrun
  have hHeld := hHeld2
  clear hHeld2
  try simp only [Act.put, List.getElem_toArray, List.getElem_cons_succ, List.getElem_cons_zero, List.setIfInBounds_toArray, List.set_cons_zero, List.set_cons_succ]
  refine wpAnyH_take (i := 6) (v := ?_) rfl (by kernel_rfl) (by kernel_rfl) (by kernel_rfl) (fun _ _ _ h => h) (Or.inl ⟨by rfl, ?_⟩) (by assumption) ?_
  rotate_left
  · intro Wq hSw
    clear hSw
    go_simp
    all_goals (with_reducible rfl)
  try simp only [Act.put, List.getElem_toArray, List.getElem_cons_succ, List.getElem_cons_zero, List.setIfInBounds_toArray, List.set_cons_zero, List.set_cons_succ]
  refine wpAnyH_take (i := 7) (v := ?_) rfl (by kernel_rfl) (by kernel_rfl) (by kernel_rfl) (fun _ _ _ h => h) (Or.inl ⟨by rfl, ?_⟩) (by assumption) ?_
  rotate_left
  · intro Wq hSw
    clear hSw
    go_simp
    all_goals (with_reducible rfl)
  try simp only [Act.put, List.getElem_toArray, List.getElem_cons_succ, List.getElem_cons_zero, List.setIfInBounds_toArray, List.set_cons_zero, List.set_cons_succ]
  refine wpAnyH_take (i := 8) (v := ?_) rfl (by kernel_rfl) (by kernel_rfl) (by kernel_rfl) (fun _ _ _ h => h) (Or.inl ⟨by rfl, ?_⟩) (by assumption) ?_
  rotate_left
  · intro Wq hSw
    clear hSw
    go_simp
    all_goals (with_reducible rfl)
  try simp only [Act.put, List.getElem_toArray, List.getElem_cons_succ, List.getElem_cons_zero, List.setIfInBounds_toArray, List.set_cons_zero, List.set_cons_succ]
  refine wpAnyH_take (i := 9) (v := ?_) rfl (by kernel_rfl) (by kernel_rfl) (by kernel_rfl) (fun _ _ _ h => h) (Or.inl ⟨by rfl, ?_⟩) (by assumption) ?_
  rotate_left
  · intro Wq hSw
    clear hSw
    go_simp
    all_goals (with_reducible rfl)
  try simp only [Act.put, List.getElem_toArray, List.getElem_cons_succ, List.getElem_cons_zero, List.setIfInBounds_toArray, List.set_cons_zero, List.set_cons_succ]
  refine wpAnyH_take (i := 10) (v := ?_) rfl (by kernel_rfl) (by kernel_rfl) (by kernel_rfl) (fun _ _ _ h => h) (Or.inl ⟨by rfl, ?_⟩) (by assumption) ?_
  rotate_left
  · intro Wq hSw
    clear hSw
    go_simp
    all_goals (with_reducible rfl)
  try simp only [Act.put, List.getElem_toArray, List.getElem_cons_succ, List.getElem_cons_zero, List.setIfInBounds_toArray, List.set_cons_zero, List.set_cons_succ]
  refine wpAnyH_done (by kernel_rfl) ?_ _
  clear HS0
  have HS0 := Lib.hid hHeld
  clear hHeld
  cases ok
  case false =>
    clear HO
    obtain rfl : R = bad6 a0 11 := by
      rcases HR.out with ⟨-, h⟩ | ⟨h, -⟩
      · exact h
      · cases h
    go_upto_region 3 with (fail)
    refine wp_region_held_drew (S := fun V => Below w.heap.size w V ∧ Var V gr [.int .i64 0, .int .i64 0, .bool false]) (by kernel_rfl) ?_ (fun hHeld => ?_)
    · exact ⟨bl_trans HS0.out.1 (bel_drew _), HS0.out.2.below (bel_drew _)⟩
    revert hHeld
    generalize World.drew _ = W1
    intro hHeld 
    refine wpAnyH_take (i := 0) (v := ?_) rfl (by kernel_rfl) (by kernel_rfl) (by kernel_rfl) (fun _ _ _ h => h) (Or.inl ⟨by rfl, ?_⟩) (by assumption) ?_
    rotate_left
    · intro Wq hSw
      clear hSw
      go_simp
      all_goals (with_reducible rfl)
    try simp only [Act.put, List.getElem_toArray, List.getElem_cons_zero, List.setIfInBounds_toArray, List.set_cons_zero, List.set_cons_succ]
    refine wpAnyH_take (i := 1) (v := ?_) rfl (by kernel_rfl) (by kernel_rfl) (by kernel_rfl) (fun _ _ _ h => h) (Or.inl ⟨by rfl, ?_⟩) (by assumption) ?_
    rotate_left
    · intro Wq hSw
      clear hSw
      go_simp
      all_goals (with_reducible rfl)
    try simp only [Act.put, List.getElem_toArray, List.getElem_cons_succ, List.getElem_cons_zero, List.setIfInBounds_toArray, List.set_cons_zero, List.set_cons_succ]
    refine wpAnyH_take (i := 2) (v := ?_) rfl (by kernel_rfl) (by kernel_rfl) (by kernel_rfl) (fun _ _ _ h => h) (Or.inl ⟨by rfl, ?_⟩) (by assumption) ?_
    rotate_left
    · intro Wq hSw
      clear hSw
      go_simp
      all_goals (with_reducible rfl)
    try simp only [Act.put, List.getElem_toArray, List.getElem_cons_succ, List.getElem_cons_zero, List.setIfInBounds_toArray, List.set_cons_zero, List.set_cons_succ]
    refine wpAnyH_take (i := 3) (v := ?_) rfl (by kernel_rfl) (by kernel_rfl) (by kernel_rfl) (fun _ _ _ h => h) (Or.inl ⟨by rfl, ?_⟩) (by assumption) ?_
    rotate_left
    · intro Wq hSw
      clear hSw
      go_simp
      all_goals (with_reducible rfl)
    try simp only [Act.put, List.getElem_toArray, List.getElem_cons_succ, List.getElem_cons_zero, List.setIfInBounds_toArray, List.set_cons_zero, List.set_cons_succ]
    refine wpAnyH_take (i := 4) (v := ?_) rfl (by kernel_rfl) (by kernel_rfl) (by kernel_rfl) (fun _ _ _ h => h) (Or.inl ⟨by rfl, ?_⟩) (by assumption) ?_
    rotate_left
    · intro Wq hSw
      obtain ⟨c0, c1⟩ := tok_at6 (HT.out.below hSw.1) (by rw [HL.out]; omega) (HF.out _)
      simp only [Nat.zero_mul, Nat.add_zero] at c0 c1
      clear hSw
      go_simp
      all_goals (with_reducible rfl)
    try simp only [Act.put, List.getElem_toArray, List.getElem_cons_succ, List.getElem_cons_zero, List.setIfInBounds_toArray, List.set_cons_zero, List.set_cons_succ]
    refine r1 (i := 5) rfl (fun K hK => ?_)
    obtain ⟨d0, d1, d2⟩ := hHeld.2.three6
    obtain ⟨f0, f1, f2⟩ := hHeld.2.free36
    go_simp
    refine hK.out _ _ ⟨bl_set (bl_set (bl_set hHeld.1 (by dsimp only; have := HGR.out; omega) _) (by dsimp only; have := HGR.out; omega) _) (by dsimp only; have := HGR.out; omega) _, hHeld.2.set3_6 _ _ _⟩ (fun hHeld2 => ?_)
    clear hK K hHeld d0 d1 d2 f0 f1 f2
    have hHeld := hHeld2
    clear hHeld2
    try simp only [Act.put, List.getElem_toArray, List.getElem_cons_succ, List.getElem_cons_zero, List.setIfInBounds_toArray, List.set_cons_zero, List.set_cons_succ]
    refine wpAnyH_take (i := 6) (v := ?_) rfl (by kernel_rfl) (by kernel_rfl) (by kernel_rfl) (fun _ _ _ h => h) (Or.inl ⟨by rfl, ?_⟩) (by assumption) ?_
    rotate_left
    · intro Wq hSw
      clear hSw
      go_simp
      all_goals (with_reducible rfl)
    try simp only [Act.put, List.getElem_toArray, List.getElem_cons_succ, List.getElem_cons_zero, List.setIfInBounds_toArray, List.set_cons_zero, List.set_cons_succ]
    refine wpAnyH_take (i := 7) (v := ?_) rfl (by kernel_rfl) (by kernel_rfl) (by kernel_rfl) (fun _ _ _ h => h) (Or.inl ⟨by rfl, ?_⟩) (by assumption) ?_
    rotate_left
    · intro Wq hSw
      clear hSw
      go_simp
      all_goals (with_reducible rfl)
    try simp only [Act.put, List.getElem_toArray, List.getElem_cons_succ, List.getElem_cons_zero, List.setIfInBounds_toArray, List.set_cons_zero, List.set_cons_succ]
    refine wpAnyH_done (by kernel_rfl) ?_ _
    go_wp2_with fail
    obtain ⟨e0, e1, e2⟩ := hHeld.2.three6
    refine bodyPost_ret (v := optV6 (bad6 a0 11)) (by simp [results, Tryd.results55, go_sem, e0, e1, e2, optV6, bad6]; done) rfl ⟨rfl, hHeld.1⟩
  case true =>
  obtain ⟨h1t, hR⟩ : 1 ≤ ts.length ∧ R = steps6 en m ((tz6 ts).drop 1) 0 false false := by
    rcases HR.out with ⟨h, -⟩ | ⟨-, h⟩
    · cases h
    · exact h
  have HR1 := Lib.hid hR
  clear hR HR HLK HKY HF CM HG HO
  go_upto_region 5 with (fail)
  obtain ⟨go, hgo⟩ : ∃ go, w1.heap.size = go := ⟨_, rfl⟩
  refine wp_abs (fun V => OpS w gr go m 0 false V) ?_ ?_
  · exact (⟨bl_trans HS0.out.1 (by repeat (first | (with_reducible exact Below.refl _ _) | (with_reducible refine bl_alloc ?_ _) | (with_reducible refine Below.drew ?_) | (with_reducible refine below_drewN' ?_ _) | ((with_reducible refine bl_set ?_ ?_ _); (rotate_left; (dsimp only; omega))))), HS0.out.2.below (by repeat (first | (with_reducible exact Below.refl _ _) | (with_reducible refine bl_alloc ?_ _) | (with_reducible refine Below.drew ?_) | (with_reducible refine below_drewN' ?_ _) | ((with_reducible refine bl_set ?_ ?_ _); (rotate_left; (dsimp only; omega))))), var3o_new _ _ _ _ _ _ hgo.symm⟩ : OpS w gr go m 0 false _)
  rintro W2 hS1
  rw [hgo]
  have HGO : Hid (gr < go) := by
    have := HS0.out.2.lt
    unfold Hid; omega
  have HS1 := Lib.hid hS1
  clear hS1 hgo HS0
  go_wp2_with fail
  refine wp_label ?_
  go_wp2_with fail
  go_loopw [8, 9] (fun hv iv W => ∃ (i : Nat) (b : Int) (hb r : Bool), hv = .bool hb ∧ iv = .int .i64 i ∧ 1 ≤ i ∧ i ≤ ts.length ∧ Hid (steps6 en m ((tz6 ts).drop i) b hb r = R) ∧ OpS w gr go m b r W) (fun _ iv _ => ts.length + 1 - (intOf iv).toNat)
  case atStart => exact ⟨1, 0, false, false, rfl, rfl, Nat.le_refl _, h1t, HR1.out.symm, HS1.out⟩
  case round =>
    obtain ⟨i, b, hb, r, rfl, rfl, h1i, hi, HX, hS⟩ := hrel
    have HS := Lib.hid hS
    clear hS HR1 HS1 W2
    have hLi : i < (ts ++ [(en, (⟨#[]⟩ : ByteArray))]).length := by rw [HL.out]; omega
    obtain ⟨gw, hgw⟩ : ∃ gw, wr.heap.size = gw := ⟨_, rfl⟩
    have HNE : Hid (gr < gw ∧ go < gw ∧ gr < go) := by
      have := HS.out.res.lt
      have := HS.out.opt.lt
      have := HGO.out
      unfold Hid; omega
    by_cases hlt : i < ts.length
    · obtain ⟨x, hx⟩ : ∃ x, ts[i] = x := ⟨_, rfl⟩
      obtain ⟨a, s⟩ := x
      have hLx : (ts ++ [(en, (⟨#[]⟩ : ByteArray))])[i] = (a, s) := by rw [List.getElem_append_left hlt, hx]
      obtain ⟨c0, c1⟩ := tok_at6 (HT.out.below HS.out.hb) hLi hLx
      have hne := (HOK.out (a, s) (hx ▸ List.getElem_mem hlt)).1
      have hne0 : nums s ≠ [] := by
        intro e
        have := nums_length s
        rw [e] at this
        dsimp only at hne
        simp at this
        omega
      have b0 := eqs_no (L := []) rfl hne0
      have HDR := Lib.hid (tz_drop6 hlt)
      rw [hx] at HDR
      have HXI := Lib.hid hx
      clear hLx hx hne hne0
      go_upto_region 10 with (fail)
      refine wp_abs (fun V => OpS w gr go m b r V ∧ Var V gw [.int .i64 (a : Int), .string s]) ?_ ?_
      · exact ⟨HS.out.turn (by repeat (first | (with_reducible exact Below.refl _ _) | (with_reducible refine bl_alloc ?_ _) | (with_reducible refine Below.drew ?_) | (with_reducible refine below_drewN' ?_ _) | ((with_reducible refine bl_set ?_ ?_ _); (rotate_left; (dsimp only; omega))))), var2_new _ _ _ _ _ hgw.symm⟩
      rintro W3 hS3
      have HS3 := Lib.hid hS3
      clear hS3 HS hgw c0 c1
      obtain ⟨t0, t1⟩ := HS3.out.2.two
      obtain ⟨o0, o1, o2⟩ := HS3.out.1.opt.three6
      obtain ⟨p0, p1, p2⟩ := HS3.out.1.opt.free36
      by_cases hA : nums s = wRef6 ∧ r = false
      · obtain ⟨h1, rfl⟩ := hA
        have b1 := eqs_yes (L := [114, 101, 102, 105, 110, 101]) rfl h1
        have HQ : Hid (steps6 en m ((tz6 ts).drop (i + 1)) b hb true = R) := by
          have := HX.out
          rw [HDR.out, steps_ref6 (x := ((a : Int), nums s)) h1] at this
          exact this
        have HS4 := Lib.hid (HS3.out.1.opt.put6 (.bool true)).2.2
        clear h1 HX HDR
        go_wp2
        go_roundw
        case rel => exact ⟨i + 1, b, hb, true, rfl, by first | rfl | simp, by omega, hlt, HQ.out, bl_set HS3.out.1.hb (by dsimp only; have := HNE.out; have := HGR.out; omega) _, HS3.out.1.res.far (by dsimp only; have := HNE.out; omega) _, HS4.out⟩
        case measure => simp [intOf]; omega
      by_cases hB : nums s = wBud6 ∧ hb = false
      · obtain ⟨h2, rfl⟩ := hB
        have b1 := eqs_no (t := s) (L := [114, 101, 102, 105, 110, 101]) (l := wRef6) rfl (by rw [h2]; decide)
        have b2 := eqs_yes (L := [98, 117, 100, 103, 101, 116]) rfl h2
        obtain ⟨ya, ys, hy0, hy1, hy2, hy3⟩ := steps_more6 (e := en) rfl hlt (by rw [HXI.out]; exact h2) HX.out
        have hLj : i + 1 < (ts ++ [(en, (⟨#[]⟩ : ByteArray))]).length := by rw [HL.out]; omega
        have HFY : Hid (∀ h, (ts ++ [(en, (⟨#[]⟩ : ByteArray))])[i + 1]'h = (ya, ys)) := hy0
        obtain ⟨c0, c1⟩ := tok_at6 (HT.out.below HS3.out.1.hb) hLj (hy0 hLj)
        have hys : ys.size ≤ 10000 := by
          rcases hy1 with rfl | ⟨z, h⟩
          · exact Nat.zero_le _
          · exact (HOK.out _ h).2
        have HCB := Lib.hid (CBU.out ys hys)
        obtain ⟨⟨n, er⟩, hn⟩ : ∃ z, budZ6 (nums ys) = z := ⟨_, rfl⟩
        rw [hn] at HCB hy2 hy3
        dsimp only at HCB hy2 hy3
        have HY2 := Lib.hid hy2
        have HY3 := Lib.hid hy3
        have hi1 : ((i : Int) + 1).toNat = i + 1 := by omega
        have hw1 : wrap64 ((i : Int) + 1) = ((i + 1 : Nat) : Int) := by unfold wrap64; omega
        obtain ⟨i', hi'⟩ : ∃ i', i + 1 = i' := ⟨_, rfl⟩
        rw [hi'] at c0 c1 hw1 hLj HFY
        have hii : i' < ts.length + 1 := by omega
        have hz1 : ((0 : Int) ≤ (i : Int) + 1) = True := eq_true (by omega)
        clear h2 hA hy0 hy1 hy2 hy3 hys hn HX HDR hi1
        go_wp2_with fail
        (with_reducible refine (HCB.out _).mono ?_); rintro e w4 ⟨rfl, hb4⟩
        have HB4 := Lib.hid (bl_trans HS3.out.1.hb hb4)
        have HR4 := Lib.hid (HS3.out.1.res.below hb4)
        have HO4 := Lib.hid (HS3.out.1.opt.below hb4)
        clear hb4 HS3 t0 t1 o0 o1 o2 p0 p1 p2 c0 c1 HCB
        by_cases h0 : er = 0
        · subst h0
          obtain ⟨hi2, hR2⟩ := HY3.out rfl
          have HR2 := Lib.hid hR2
          have HO5 := Lib.hid (HO4.out.put6 (.int .i64 n)).2.1
          obtain ⟨o0, o1, o2⟩ := HO4.out.three6
          obtain ⟨p0, p1, p2⟩ := HO4.out.free36
          clear hR2 HY2 HY3
          go_wp2
          go_roundw
          case rel => exact ⟨i + 2, n, true, r, rfl, by first | rfl | (rw [← hi']; simp; omega) | (simp; omega), by omega, hi2, HR2.out, bl_set HB4.out (by dsimp only; have := HNE.out; have := HGR.out; omega) _, HR4.out.far (by dsimp only; have := HNE.out; omega) _, HO5.out⟩
          case measure => simp [intOf]; omega
        · obtain rfl : R = bad6 ya er := HY2.out h0
          have b3 : (er != 0) = true := bne_iff_ne.2 h0
          have b3' : (er = 0) = False := eq_false h0
          have HS0 := Lib.hid (And.intro HB4.out HR4.out)
          clear HY2 HY3 HB4 HR4 HO4 h0
          go_upto_region 17 with (fail)
          refine wp_region_held_drew (S := fun V => Below w.heap.size w V ∧ Var V gr [.int .i64 0, .int .i64 0, .bool false]) (by kernel_rfl) ?_ (fun hHeld => ?_)
          · exact ⟨bl_trans HS0.out.1 (bel_drew _), HS0.out.2.below (bel_drew _)⟩
          revert hHeld
          generalize World.drew _ = W1
          intro hHeld 
          refine wpAnyH_take (i := 0) (v := ?_) rfl (by kernel_rfl) (by kernel_rfl) (by kernel_rfl) (fun _ _ _ h => h) (Or.inl ⟨by rfl, ?_⟩) (by assumption) ?_
          rotate_left
          · intro Wq hSw
            clear hSw
            go_simp
            all_goals (with_reducible rfl)
          try simp only [Act.put, List.getElem_toArray, List.getElem_cons_zero, List.setIfInBounds_toArray, List.set_cons_zero, List.set_cons_succ]
          refine wpAnyH_take (i := 1) (v := ?_) rfl (by kernel_rfl) (by kernel_rfl) (by kernel_rfl) (fun _ _ _ h => h) (Or.inl ⟨by rfl, ?_⟩) (by assumption) ?_
          rotate_left
          · intro Wq hSw
            clear hSw
            go_simp
            all_goals (with_reducible rfl)
          try simp only [Act.put, List.getElem_toArray, List.getElem_cons_succ, List.getElem_cons_zero, List.setIfInBounds_toArray, List.set_cons_zero, List.set_cons_succ]
          refine wpAnyH_take (i := 2) (v := ?_) rfl (by kernel_rfl) (by kernel_rfl) (by kernel_rfl) (fun _ _ _ h => h) (Or.inl ⟨by rfl, ?_⟩) (by assumption) ?_
          rotate_left
          · intro Wq hSw
            clear hSw
            go_simp
            all_goals (with_reducible rfl)
          try simp only [Act.put, List.getElem_toArray, List.getElem_cons_succ, List.getElem_cons_zero, List.setIfInBounds_toArray, List.set_cons_zero, List.set_cons_succ]
          refine wpAnyH_take (i := 3) (v := ?_) rfl (by kernel_rfl) (by kernel_rfl) (by kernel_rfl) (fun _ _ _ h => h) (Or.inl ⟨by rfl, ?_⟩) (by assumption) ?_
          rotate_left
          · intro Wq hSw
            clear hSw
            go_simp
            all_goals (with_reducible rfl)
          try simp only [Act.put, List.getElem_toArray, List.getElem_cons_succ, List.getElem_cons_zero, List.setIfInBounds_toArray, List.set_cons_zero, List.set_cons_succ]
          refine wpAnyH_take (i := 4) (v := ?_) rfl (by kernel_rfl) (by kernel_rfl) (by kernel_rfl) (fun _ _ _ h => h) (Or.inl ⟨by rfl, ?_⟩) (by assumption) ?_
          rotate_left
          · intro Wq hSw
            clear hSw
            go_simp
            all_goals (with_reducible rfl)
          try simp only [Act.put, List.getElem_toArray, List.getElem_cons_succ, List.getElem_cons_zero, List.setIfInBounds_toArray, List.set_cons_zero, List.set_cons_succ]
          refine wpAnyH_take (i := 5) (v := ?_) rfl (by kernel_rfl) (by kernel_rfl) (by kernel_rfl) (fun _ _ _ h => h) (Or.inl ⟨by rfl, ?_⟩) (by assumption) ?_
          rotate_left
          · intro Wq hSw
            obtain ⟨c0, c1⟩ := tok_at6 (HT.out.below hSw.1) hLj (HFY.out _)
            clear hSw
            go_simp
            all_goals (with_reducible rfl)
          try simp only [Act.put, List.getElem_toArray, List.getElem_cons_succ, List.getElem_cons_zero, List.setIfInBounds_toArray, List.set_cons_zero, List.set_cons_succ]
          refine wpAnyH_take (i := 6) (v := ?_) rfl (by kernel_rfl) (by kernel_rfl) (by kernel_rfl) (fun _ _ _ h => h) (Or.inl ⟨by rfl, ?_⟩) (by assumption) ?_
          rotate_left
          · intro Wq hSw
            clear hSw
            go_simp
            all_goals (with_reducible rfl)
          try simp only [Act.put, List.getElem_toArray, List.getElem_cons_succ, List.getElem_cons_zero, List.setIfInBounds_toArray, List.set_cons_zero, List.set_cons_succ]
          refine r1 (i := 7) rfl (fun K hK => ?_)
          obtain ⟨d0, d1, d2⟩ := hHeld.2.three6
          obtain ⟨f0, f1, f2⟩ := hHeld.2.free36
          go_simp
          refine hK.out _ _ ⟨bl_set (bl_set (bl_set hHeld.1 (by dsimp only; have := HGR.out; omega) _) (by dsimp only; have := HGR.out; omega) _) (by dsimp only; have := HGR.out; omega) _, hHeld.2.set3_6 _ _ _⟩ (fun hHeld2 => ?_)
          clear hK K hHeld d0 d1 d2 f0 f1 f2
          have hHeld := hHeld2
          clear hHeld2
          try simp only [Act.put, List.getElem_toArray, List.getElem_cons_succ, List.getElem_cons_zero, List.setIfInBounds_toArray, List.set_cons_zero, List.set_cons_succ]
          refine wpAnyH_take (i := 8) (v := ?_) rfl (by kernel_rfl) (by kernel_rfl) (by kernel_rfl) (fun _ _ _ h => h) (Or.inl ⟨by rfl, ?_⟩) (by assumption) ?_
          rotate_left
          · intro Wq hSw
            clear hSw
            go_simp
            all_goals (with_reducible rfl)
          try simp only [Act.put, List.getElem_toArray, List.getElem_cons_succ, List.getElem_cons_zero, List.setIfInBounds_toArray, List.set_cons_zero, List.set_cons_succ]
          refine wpAnyH_take (i := 9) (v := ?_) rfl (by kernel_rfl) (by kernel_rfl) (by kernel_rfl) (fun _ _ _ h => h) (Or.inl ⟨by rfl, ?_⟩) (by assumption) ?_
          rotate_left
          · intro Wq hSw
            clear hSw
            go_simp
            all_goals (with_reducible rfl)
          try simp only [Act.put, List.getElem_toArray, List.getElem_cons_succ, List.getElem_cons_zero, List.setIfInBounds_toArray, List.set_cons_zero, List.set_cons_succ]
          refine wpAnyH_done (by kernel_rfl) ?_ _
          go_wp2_with fail
          obtain ⟨e0, e1, e2⟩ := hHeld.2.three6
          refine bodyPost_ret (v := optV6 (bad6 ya er)) (by simp [results, Tryd.results55, go_sem, e0, e1, e2, optV6, bad6]; done) rfl ⟨rfl, hHeld.1⟩
      obtain rfl : R = bad6 a 11 := by
        have := HX.out
        rw [HDR.out, steps_bad6 (x := ((a : Int), nums s)) (fun h1 => by cases r; exact absurd ⟨h1, rfl⟩ hA; rfl) (fun h1 => by cases hb; exact absurd ⟨h1, rfl⟩ hB; rfl)] at this
        exact this.symm
      clear HX HDR
      have HS0 : Hid (Below w.heap.size w W3 ∧ Var W3 gr [.int .i64 0, .int .i64 0, .bool false] ∧ Var W3 gw [.int .i64 (a : Int), .string s]) := ⟨HS3.out.1.hb, HS3.out.1.res, HS3.out.2⟩
      by_cases h1 : nums s = wRef6
      · obtain rfl : r = true := by cases r; exact absurd ⟨h1, rfl⟩ hA; rfl
        have b1 := eqs_yes (L := [114, 101, 102, 105, 110, 101]) rfl h1
        have b2 := eqs_no (t := s) (L := [98, 117, 100, 103, 101, 116]) (l := wBud6) rfl (by rw [h1]; decide)
        clear h1 hA hB HS3
        go_upto_region 9 with (fail)
        refine wp_region_held_drew (S := fun V => Below w.heap.size w V ∧ Var V gr [.int .i64 0, .int .i64 0, .bool false] ∧ Var V gw [.int .i64 (a : Int), .string s]) (by kernel_rfl) ?_ (fun hHeld => ?_)
        · exact ⟨bl_trans HS0.out.1 (bel_drew _), HS0.out.2.1.below (bel_drew _), HS0.out.2.2.below (bel_drew _)⟩
        revert hHeld
        generalize World.drew _ = W1
        intro hHeld 
        refine wpAnyH_take (i := 0) (v := ?_) rfl (by kernel_rfl) (by kernel_rfl) (by kernel_rfl) (fun _ _ _ h => h) (Or.inl ⟨by rfl, ?_⟩) (by assumption) ?_
        rotate_left
        · intro Wq hSw
          clear hSw
          go_simp
          all_goals (with_reducible rfl)
        try simp only [Act.put, List.getElem_toArray, List.getElem_cons_zero, List.setIfInBounds_toArray, List.set_cons_zero, List.set_cons_succ]
        refine wpAnyH_take (i := 1) (v := ?_) rfl (by kernel_rfl) (by kernel_rfl) (by kernel_rfl) (fun _ _ _ h => h) (Or.inl ⟨by rfl, ?_⟩) (by assumption) ?_
        rotate_left
        · intro Wq hSw
          clear hSw
          go_simp
          all_goals (with_reducible rfl)
        try simp only [Act.put, List.getElem_toArray, List.getElem_cons_succ, List.getElem_cons_zero, List.setIfInBounds_toArray, List.set_cons_zero, List.set_cons_succ]
        refine wpAnyH_take (i := 2) (v := ?_) rfl (by kernel_rfl) (by kernel_rfl) (by kernel_rfl) (fun _ _ _ h => h) (Or.inl ⟨by rfl, ?_⟩) (by assumption) ?_
        rotate_left
        · intro Wq hSw
          obtain ⟨c0, c1⟩ := hSw.2.2.two
          clear hSw
          go_simp
          all_goals (with_reducible rfl)
        try simp only [Act.put, List.getElem_toArray, List.getElem_cons_succ, List.getElem_cons_zero, List.setIfInBounds_toArray, List.set_cons_zero, List.set_cons_succ]
        refine r1 (i := 3) rfl (fun K hK => ?_)
        obtain ⟨d0, d1, d2⟩ := hHeld.2.1.three6
        obtain ⟨f0, f1, f2⟩ := hHeld.2.1.free36
        go_simp
        refine hK.out _ _ ⟨bl_set (bl_set (bl_set hHeld.1 (by dsimp only; have := HGR.out; omega) _) (by dsimp only; have := HGR.out; omega) _) (by dsimp only; have := HGR.out; omega) _, hHeld.2.1.set3_6 _ _ _, ((hHeld.2.2.far (by dsimp only; have := HNE.out; omega) _).far (by dsimp only; have := HNE.out; omega) _).far (by dsimp only; have := HNE.out; omega) _⟩ (fun hHeld2 => ?_)
        clear hK K hHeld d0 d1 d2 f0 f1 f2
        have hHeld := hHeld2
        clear hHeld2
        try simp only [Act.put, List.getElem_toArray, List.getElem_cons_succ, List.getElem_cons_zero, List.setIfInBounds_toArray, List.set_cons_zero, List.set_cons_succ]
        refine wpAnyH_take (i := 4) (v := ?_) rfl (by kernel_rfl) (by kernel_rfl) (by kernel_rfl) (fun _ _ _ h => h) (Or.inl ⟨by rfl, ?_⟩) (by assumption) ?_
        rotate_left
        · intro Wq hSw
          clear hSw
          go_simp
          all_goals (with_reducible rfl)
        try simp only [Act.put, List.getElem_toArray, List.getElem_cons_succ, List.getElem_cons_zero, List.setIfInBounds_toArray, List.set_cons_zero, List.set_cons_succ]
        refine wpAnyH_take (i := 5) (v := ?_) rfl (by kernel_rfl) (by kernel_rfl) (by kernel_rfl) (fun _ _ _ h => h) (Or.inl ⟨by rfl, ?_⟩) (by assumption) ?_
        rotate_left
        · intro Wq hSw
          clear hSw
          go_simp
          all_goals (with_reducible rfl)
        try simp only [Act.put, List.getElem_toArray, List.getElem_cons_succ, List.getElem_cons_zero, List.setIfInBounds_toArray, List.set_cons_zero, List.set_cons_succ]
        refine wpAnyH_done (by kernel_rfl) ?_ _
        go_wp2_with fail
        obtain ⟨e0, e1, e2⟩ := hHeld.2.1.three6
        refine bodyPost_ret (v := optV6 (bad6 a 11)) (by simp [results, Tryd.results55, go_sem, e0, e1, e2, optV6, bad6]; done) rfl ⟨rfl, hHeld.1⟩
      have b1 := eqs_no (L := [114, 101, 102, 105, 110, 101]) rfl h1
      by_cases h2 : nums s = wBud6
      · obtain rfl : hb = true := by cases hb; exact absurd ⟨h2, rfl⟩ hB; rfl
        have b2 := eqs_yes (L := [98, 117, 100, 103, 101, 116]) rfl h2
        clear h1 h2 hA hB HS3
        go_upto_region 9 with (fail)
        refine wp_region_held_drew (S := fun V => Below w.heap.size w V ∧ Var V gr [.int .i64 0, .int .i64 0, .bool false] ∧ Var V gw [.int .i64 (a : Int), .string s]) (by kernel_rfl) ?_ (fun hHeld => ?_)
        · exact ⟨bl_trans HS0.out.1 (bel_drew _), HS0.out.2.1.below (bel_drew _), HS0.out.2.2.below (bel_drew _)⟩
        revert hHeld
        generalize World.drew _ = W1
        intro hHeld 
        refine wpAnyH_take (i := 0) (v := ?_) rfl (by kernel_rfl) (by kernel_rfl) (by kernel_rfl) (fun _ _ _ h => h) (Or.inl ⟨by rfl, ?_⟩) (by assumption) ?_
        rotate_left
        · intro Wq hSw
          clear hSw
          go_simp
          all_goals (with_reducible rfl)
        try simp only [Act.put, List.getElem_toArray, List.getElem_cons_zero, List.setIfInBounds_toArray, List.set_cons_zero, List.set_cons_succ]
        refine wpAnyH_take (i := 1) (v := ?_) rfl (by kernel_rfl) (by kernel_rfl) (by kernel_rfl) (fun _ _ _ h => h) (Or.inl ⟨by rfl, ?_⟩) (by assumption) ?_
        rotate_left
        · intro Wq hSw
          clear hSw
          go_simp
          all_goals (with_reducible rfl)
        try simp only [Act.put, List.getElem_toArray, List.getElem_cons_succ, List.getElem_cons_zero, List.setIfInBounds_toArray, List.set_cons_zero, List.set_cons_succ]
        refine wpAnyH_take (i := 2) (v := ?_) rfl (by kernel_rfl) (by kernel_rfl) (by kernel_rfl) (fun _ _ _ h => h) (Or.inl ⟨by rfl, ?_⟩) (by assumption) ?_
        rotate_left
        · intro Wq hSw
          obtain ⟨c0, c1⟩ := hSw.2.2.two
          clear hSw
          go_simp
          all_goals (with_reducible rfl)
        try simp only [Act.put, List.getElem_toArray, List.getElem_cons_succ, List.getElem_cons_zero, List.setIfInBounds_toArray, List.set_cons_zero, List.set_cons_succ]
        refine r1 (i := 3) rfl (fun K hK => ?_)
        obtain ⟨d0, d1, d2⟩ := hHeld.2.1.three6
        obtain ⟨f0, f1, f2⟩ := hHeld.2.1.free36
        go_simp
        refine hK.out _ _ ⟨bl_set (bl_set (bl_set hHeld.1 (by dsimp only; have := HGR.out; omega) _) (by dsimp only; have := HGR.out; omega) _) (by dsimp only; have := HGR.out; omega) _, hHeld.2.1.set3_6 _ _ _, ((hHeld.2.2.far (by dsimp only; have := HNE.out; omega) _).far (by dsimp only; have := HNE.out; omega) _).far (by dsimp only; have := HNE.out; omega) _⟩ (fun hHeld2 => ?_)
        clear hK K hHeld d0 d1 d2 f0 f1 f2
        have hHeld := hHeld2
        clear hHeld2
        try simp only [Act.put, List.getElem_toArray, List.getElem_cons_succ, List.getElem_cons_zero, List.setIfInBounds_toArray, List.set_cons_zero, List.set_cons_succ]
        refine wpAnyH_take (i := 4) (v := ?_) rfl (by kernel_rfl) (by kernel_rfl) (by kernel_rfl) (fun _ _ _ h => h) (Or.inl ⟨by rfl, ?_⟩) (by assumption) ?_
        rotate_left
        · intro Wq hSw
          clear hSw
          go_simp
          all_goals (with_reducible rfl)
        try simp only [Act.put, List.getElem_toArray, List.getElem_cons_succ, List.getElem_cons_zero, List.setIfInBounds_toArray, List.set_cons_zero, List.set_cons_succ]
        refine wpAnyH_take (i := 5) (v := ?_) rfl (by kernel_rfl) (by kernel_rfl) (by kernel_rfl) (fun _ _ _ h => h) (Or.inl ⟨by rfl, ?_⟩) (by assumption) ?_
        rotate_left
        · intro Wq hSw
          clear hSw
          go_simp
          all_goals (with_reducible rfl)
        try simp only [Act.put, List.getElem_toArray, List.getElem_cons_succ, List.getElem_cons_zero, List.setIfInBounds_toArray, List.set_cons_zero, List.set_cons_succ]
        refine wpAnyH_done (by kernel_rfl) ?_ _
        go_wp2_with fail
        obtain ⟨e0, e1, e2⟩ := hHeld.2.1.three6
        refine bodyPost_ret (v := optV6 (bad6 a 11)) (by simp [results, Tryd.results55, go_sem, e0, e1, e2, optV6, bad6]; done) rfl ⟨rfl, hHeld.1⟩
      have b2 := eqs_no (L := [98, 117, 100, 103, 101, 116]) rfl h2
      clear h1 h2 hA hB HS3
      go_upto_region 9 with (fail)
      refine wp_region_held_drew (S := fun V => Below w.heap.size w V ∧ Var V gr [.int .i64 0, .int .i64 0, .bool false] ∧ Var V gw [.int .i64 (a : Int), .string s]) (by kernel_rfl) ?_ (fun hHeld => ?_)
      · exact ⟨bl_trans HS0.out.1 (bel_drew _), HS0.out.2.1.below (bel_drew _), HS0.out.2.2.below (bel_drew _)⟩
      revert hHeld
      generalize World.drew _ = W1
      intro hHeld 
      refine wpAnyH_take (i := 0) (v := ?_) rfl (by kernel_rfl) (by kernel_rfl) (by kernel_rfl) (fun _ _ _ h => h) (Or.inl ⟨by rfl, ?_⟩) (by assumption) ?_
      rotate_left
      · intro Wq hSw
        clear hSw
        go_simp
        all_goals (with_reducible rfl)
      try simp only [Act.put, List.getElem_toArray, List.getElem_cons_zero, List.setIfInBounds_toArray, List.set_cons_zero, List.set_cons_succ]
      refine wpAnyH_take (i := 1) (v := ?_) rfl (by kernel_rfl) (by kernel_rfl) (by kernel_rfl) (fun _ _ _ h => h) (Or.inl ⟨by rfl, ?_⟩) (by assumption) ?_
      rotate_left
      · intro Wq hSw
        clear hSw
        go_simp
        all_goals (with_reducible rfl)
      try simp only [Act.put, List.getElem_toArray, List.getElem_cons_succ, List.getElem_cons_zero, List.setIfInBounds_toArray, List.set_cons_zero, List.set_cons_succ]
      refine wpAnyH_take (i := 2) (v := ?_) rfl (by kernel_rfl) (by kernel_rfl) (by kernel_rfl) (fun _ _ _ h => h) (Or.inl ⟨by rfl, ?_⟩) (by assumption) ?_
      rotate_left
      · intro Wq hSw
        obtain ⟨c0, c1⟩ := hSw.2.2.two
        clear hSw
        go_simp
        all_goals (with_reducible rfl)
      try simp only [Act.put, List.getElem_toArray, List.getElem_cons_succ, List.getElem_cons_zero, List.setIfInBounds_toArray, List.set_cons_zero, List.set_cons_succ]
      refine r1 (i := 3) rfl (fun K hK => ?_)
      obtain ⟨d0, d1, d2⟩ := hHeld.2.1.three6
      obtain ⟨f0, f1, f2⟩ := hHeld.2.1.free36
      go_simp
      refine hK.out _ _ ⟨bl_set (bl_set (bl_set hHeld.1 (by dsimp only; have := HGR.out; omega) _) (by dsimp only; have := HGR.out; omega) _) (by dsimp only; have := HGR.out; omega) _, hHeld.2.1.set3_6 _ _ _, ((hHeld.2.2.far (by dsimp only; have := HNE.out; omega) _).far (by dsimp only; have := HNE.out; omega) _).far (by dsimp only; have := HNE.out; omega) _⟩ (fun hHeld2 => ?_)
      clear hK K hHeld d0 d1 d2 f0 f1 f2
      have hHeld := hHeld2
      clear hHeld2
      try simp only [Act.put, List.getElem_toArray, List.getElem_cons_succ, List.getElem_cons_zero, List.setIfInBounds_toArray, List.set_cons_zero, List.set_cons_succ]
      refine wpAnyH_take (i := 4) (v := ?_) rfl (by kernel_rfl) (by kernel_rfl) (by kernel_rfl) (fun _ _ _ h => h) (Or.inl ⟨by rfl, ?_⟩) (by assumption) ?_
      rotate_left
      · intro Wq hSw
        clear hSw
        go_simp
        all_goals (with_reducible rfl)
      try simp only [Act.put, List.getElem_toArray, List.getElem_cons_succ, List.getElem_cons_zero, List.setIfInBounds_toArray, List.set_cons_zero, List.set_cons_succ]
      refine wpAnyH_take (i := 5) (v := ?_) rfl (by kernel_rfl) (by kernel_rfl) (by kernel_rfl) (fun _ _ _ h => h) (Or.inl ⟨by rfl, ?_⟩) (by assumption) ?_
      rotate_left
      · intro Wq hSw
        clear hSw
        go_simp
        all_goals (with_reducible rfl)
      try simp only [Act.put, List.getElem_toArray, List.getElem_cons_succ, List.getElem_cons_zero, List.setIfInBounds_toArray, List.set_cons_zero, List.set_cons_succ]
      refine wpAnyH_done (by kernel_rfl) ?_ _
      go_wp2_with fail
      obtain ⟨e0, e1, e2⟩ := hHeld.2.1.three6
      refine bodyPost_ret (v := optV6 (bad6 a 11)) (by simp [results, Tryd.results55, go_sem, e0, e1, e2, optV6, bad6]; done) rfl ⟨rfl, hHeld.1⟩
    · obtain rfl : i = ts.length := by omega
      have hLx : (ts ++ [(en, (⟨#[]⟩ : ByteArray))])[ts.length] = (en, ⟨#[]⟩) := by simp
      obtain ⟨c0, c1⟩ := tok_at6 (HT.out.below HS.out.hb) hLi hLx
      clear hLx
      go_upto_region 10 with (fail)
      refine wp_abs (fun V => OpS w gr go m b r V ∧ Var V gw [.int .i64 (en : Int), .string ⟨#[]⟩]) ?_ ?_
      · exact ⟨HS.out.turn (by repeat (first | (with_reducible exact Below.refl _ _) | (with_reducible refine bl_alloc ?_ _) | (with_reducible refine Below.drew ?_) | (with_reducible refine below_drewN' ?_ _) | ((with_reducible refine bl_set ?_ ?_ _); (rotate_left; (dsimp only; omega))))), var2_new _ _ _ _ _ hgw.symm⟩
      rintro W3 hS3
      have HS3 := Lib.hid hS3
      clear hS3 HS hgw c0 c1
      obtain rfl : R = ⟨m, b, r, 0, 0⟩ := by
        have := HX.out
        rw [tz_end6] at this
        exact this.symm
      obtain ⟨t0, t1⟩ := HS3.out.2.two
      obtain ⟨d0, d1, d2⟩ := HS3.out.1.opt.three6
      obtain ⟨q0, q1, q2⟩ := HS3.out.1.res.three6
      obtain ⟨f0, f1, f2⟩ := HS3.out.1.res.free36
      go_wp2_with fail
      obtain ⟨e0, e1, e2⟩ := (HS3.out.1.res.set3_6 (.int .i64 m) (.int .i64 b) (.bool r)).three6
      refine bodyPost_ret (v := optV6 ⟨m, b, r, 0, 0⟩) (by simp [results, Tryd.results55, go_sem, e0, e1, e2, optV6]; done) rfl ⟨rfl, ?_⟩
      exact bl_set (bl_set (bl_set HS3.out.1.hb (by dsimp only; have := HGR.out; omega) _) (by dsimp only; have := HGR.out; omega) _) (by dsimp only; have := HGR.out; omega) _
end Go.Proofs.YtoglibmdpgfpaaaDoor

/-
  Contract of options.Parse.
-/
namespace Go.Proofs.YtoglibmdpgfpaaaDoor
open Go.RowKit Go.Maps

theorem tz_words6 (s : ByteArray) : tz6 (wordsOf s) = wordsZ (nums s) := by
  unfold tz6 wordsOf wordsZ
  rw [List.map_map]
  refine List.map_congr_left fun x _ => ?_
  simp only [Function.comp_apply, nums_extract]
theorem words_fit6 {s : ByteArray} (hs : s.size ≤ 10000) : ∀ x ∈ wordsOf s, 0 < x.2.size ∧ x.2.size ≤ 10000 := by
  intro x hx
  obtain ⟨i, hi, rfl⟩ := List.getElem_of_mem hx
  have h1 := word_ok s hi
  obtain ⟨a, b, e, ha, -, -⟩ := words_at s hi
  refine ⟨?_, ?_⟩
  · have h2 := h1.ne
    rw [← nums_length]
    exact List.length_pos_iff.2 h2
  · rw [e]
    show (s.extract a b).size ≤ 10000
    rw [ByteArray.size_extract]
    omega
theorem tok_own6 {w : World} {B : Nat} {g cp : Nat} {s : ByteArray} {en : Nat} (h : w.ownsRow B 51 2 (.slice (some ⟨g, 0, none⟩) ((toks (nums s)).length + 1) cp) ((toks (nums s)).length + 1) (tokVals s (toks (nums s)) ++ [.int .i64 (en : Int), .string ⟨#[]⟩])) :
    TokCells w (some ⟨g, 0, none⟩) (wordsOf s ++ [(en, ⟨#[]⟩)]) := by
  have hl : (wordsOf s).length = (toks (nums s)).length := by simp [wordsOf]
  have htl : ∀ l : List (Nat × Nat), (tokVals s l).length = l.length * 2 := by
    intro l
    induction l with
    | nil => rfl
    | cons x l ih =>
      have e : tokVals s (x :: l) = .int .i64 (x.1 : Int) :: .string (s.extract x.1 x.2) :: tokVals s l := by simp [tokVals]
      rw [e]; simp [ih]; omega
  intro i hi
  rw [List.length_append, List.length_singleton, hl] at hi
  refine ⟨g, 0, rfl, ?_⟩
  rw [Nat.zero_add, h.cellAt (i * 2) (by omega), h.cellAt (i * 2 + 1) (by omega)]
  by_cases hlt : i < (toks (nums s)).length
  · obtain ⟨e1, e2⟩ := tokVals_get s (toks (nums s)) i hlt
    have e3 : (wordsOf s ++ [(en, (⟨#[]⟩ : ByteArray))])[i]'(by simp [hl]; omega) = (wordsOf s)[i]'(by omega) := List.getElem_append_left (by omega)
    rw [e3, List.getElem?_append_left (by rw [htl]; omega), List.getElem?_append_left (by rw [htl]; omega), e1, e2]
    simp [wordsOf]
  · obtain rfl : i = (toks (nums s)).length := by omega
    rw [List.getElem?_append_right (by rw [htl]; omega), List.getElem?_append_right (by rw [htl]; omega), htl, List.getElem_append_right (by omega)]
    simp
set_option maxHeartbeats 8000000 in
set_option maxRecDepth 100000 in
theorem parse6_l (s : ByteArray) (hs : s.size ≤ 10000) (ad : Option Addr) (cap : Nat) (w : World) (hG : Words6 w) (hB : BytesIn w ad s) :
    Calls Tryd.prog 30 #[.slice ad s.size cap] w (Gives (optV6 (parse6 (nums s))) w) := by
  obtain ⟨i0, hi0, hz0, hz1, hz2⟩ := info_parts info_tok
  have HG := Lib.hid hG
  have HB := Lib.hid hB
  have htl : (toks (nums s)).length ≤ 10001 := by
    have := toksN_len ((nums s).length + 1) (nums s) 0
    rw [nums_length] at this
    unfold toks
    rw [nums_length]; omega
  have HWL : Hid ((wordsOf s).length = (toks (nums s)).length) := by unfold Hid; simp [wordsOf]
  have HRD : Hid (∀ (W : World) ad cap, Words6 W → TokCells W ad (wordsOf s ++ [(s.size, ⟨#[]⟩)]) → Calls Tryd.prog 55 #[.slice ad ((toks (nums s)).length + 1) cap] W (Gives (optV6 (parse6 (nums s))) W)) := by
    intro W ad cap h1 h2
    have hl := words_len s
    have := read_l W h1 ad cap (wordsOf s) s.size (words_fit6 hs) (by omega) h2
    rw [HWL.out, tz_words6] at this
    have e : parse6 (nums s) = read6 (s.size : Int) (wordsZ (nums s)) := by unfold parse6; rw [nums_length]
    rw [e]
    exact this
  obtain ⟨R, hR⟩ : ∃ R, parse6 (nums s) = R := ⟨_, rfl⟩
  rw [hR] at HRD ⊢
  clear hR hB hG
  go_enter Tryd.func30, Tryd.ntmps30
  go_upto_region 1 with (fail)
  obtain ⟨gr, hgr⟩ : ∃ gr, w.heap.size = gr := ⟨_, rfl⟩
  refine wp_abs (fun V => Below w.heap.size w V ∧ Var V gr [.int .i64 0, .int .i64 0, .bool false]) ?_ ?_
  · exact ⟨by repeat (first | (with_reducible exact Below.refl _ _) | (with_reducible refine bl_alloc ?_ _) | (with_reducible refine Below.drew ?_) | (with_reducible refine below_drewN' ?_ _) | ((with_reducible refine bl_set ?_ ?_ _); (rotate_left; (dsimp only; omega)))), var3o_new _ _ _ _ _ _ hgr.symm⟩
  rintro W0 hS0
  have HGR : Hid (gr = w.heap.size) := hgr.symm
  have HS0 := Lib.hid hS0
  clear hS0
  have HA := Lib.hid (all_c ad s.size cap s rfl (by omega) W0 (text_of (HB.out.below HS0.out.1)))
  try rw [hgr]
  clear hgr
  go_wp2_with fail
  (with_reducible refine HA.out.mono ?_); rintro e w1 ⟨v, rfl, hown, hnil, hb1⟩
  have HOW := Lib.hid hown
  have HB1 := Lib.hid hb1
  have hW0 : W0.heap.size ≤ w1.heap.size := hb1.size
  clear hown hnil hb1 HA
  go_wp2_with (first
    | (at_builtin; refine wpList_append_own _ rfl _ _ 46 rfl W0.heap.size 51 i0 (.agg #[.int .i64 0, .string ⟨#[]⟩]) 2 24 Tryd.underlying46 hi0 hz0 hz1 hz2 rfl (by decide) _ _ _ rfl (HOW.out.alloc _) ⟨w1.heap.size, 0, none⟩ 1 1 [.int .i64 (s.size : Int), .string ⟨#[]⟩] rfl rfl (cells_two_new _ _ _ _) (by intro u hu; simp at hu; rcases hu with rfl | rfl <;> rfl) (by unfold maxLen; omega) (by omega) (by simp; omega) ?_)
    | go_in)
  intro v' w2 hown' hgrow _
  obtain ⟨g2, cp2, rfl⟩ := ownsRow_succ hown'
  have HT2 := Lib.hid (tok_own6 hown')
  have hbw : Below W0.heap.size W0 w2 := (HB1.out.alloc hW0 _).grown hgrow (by simp; omega) (fun k e => (HOW.out.lt k e).1)
  have HB2 := Lib.hid (bl_trans HS0.out.1 hbw)
  have HR2 := Lib.hid (HS0.out.2.below hbw)
  clear hbw hgrow hown' HOW HB1 HS0 hW0
  go_wp2_with fail
  (with_reducible refine (HRD.out _ _ _ (HG.out.below HB2.out) HT2.out).mono ?_); rintro e w3 ⟨rfl, hb3⟩
  have HB3 := Lib.hid (bl_trans HB2.out hb3)
  have HR3 := Lib.hid (HR2.out.below hb3)
  clear hb3 HB2 HR2 HRD HT2
  obtain ⟨d0, d1, d2⟩ := HR3.out.three6
  obtain ⟨f0, f1, f2⟩ := HR3.out.free36
  obtain ⟨m, b, r, at', er⟩ := R
  unfold optV6
  dsimp only
  go_wp2_with fail
  obtain ⟨e0, e1, e2⟩ := (HR3.out.set3_6 (.int .i64 m) (.int .i64 b) (.bool r)).three6
  refine bodyPost_ret (v := .tuple #[.agg #[.int .i64 m, .int .i64 b, .bool r], .int .i64 at', .int .i64 er]) (by simp [results, Tryd.results30, go_sem, e0, e1, e2]; done) rfl ⟨rfl, ?_⟩
  exact bl_set (bl_set (bl_set HB3.out (by dsimp only; have := HGR.out; omega) _) (by dsimp only; have := HGR.out; omega) _) (by dsimp only; have := HGR.out; omega) _
end Go.Proofs.YtoglibmdpgfpaaaDoor
