/-
  Options in memory; Check on both sides; the mode of a word.
-/
import Derived.Test.YtdpbmkfgolemjaaDoorOpMath
import Derived.Test.YtdpbmkfgolemjaaDoorJoins
import Derived.Test.YtdpbmkfgolemjaaDoorGeoAll
import Derived.Maps.OwnSet
import Derived.Maps.OwnOps
import Derived.LoopN
import Derived.StringKeys
set_option linter.unusedVariables false
set_option linter.unusedSimpArgs false
set_option linter.deprecated false
namespace Go.Proofs.YtdpbmkfgolemjaaDoor
open Go.RowKit

theorem var3o {W : World} {g : Nat} {a b c : Value} (hl : g < W.heap.size) (h0 : W.cell? ⟨g, 0, none⟩ = some a) (h1 : W.cell? ⟨g, 1, none⟩ = some b) (h2 : W.cell? ⟨g, 2, none⟩ = some c) (f0 : W.frozen? ⟨g, 0, none⟩ = false) (f1 : W.frozen? ⟨g, 1, none⟩ = false) (f2 : W.frozen? ⟨g, 2, none⟩ = false) : Var W g [a, b, c] :=
  ⟨hl, fun i hi => by
    match i, hi with
    | 0, _ => exact h0
    | 1, _ => exact h1
    | 2, _ => exact h2, fun i hi => by
    match i, hi with
    | 0, _ => exact f0
    | 1, _ => exact f1
    | 2, _ => exact f2⟩
theorem var3o_new (W : World) (a b c : Value) (t : TypeId) (g : Nat) (hg : g = W.heap.size) : Var (W.alloc (.cells #[a, b, c] t)) g [a, b, c] := by
  subst hg
  exact var3o (by simp) (by simp [go_sem]) (by simp [go_sem]) (by simp [go_sem]) (by simp [go_sem]) (by simp [go_sem]) (by simp [go_sem])
theorem Var.three6 {W : World} {g : Nat} {a b c : Value} (h : Var W g [a, b, c]) : W.cell? ⟨g, 0, none⟩ = some a ∧ W.cell? ⟨g, 1, none⟩ = some b ∧ W.cell? ⟨g, 2, none⟩ = some c := ⟨h.cells 0 (by simp), h.cells 1 (by simp), h.cells 2 (by simp)⟩
theorem Var.free36 {W : World} {g : Nat} {a b c : Value} (h : Var W g [a, b, c]) : W.frozen? ⟨g, 0, none⟩ = false ∧ W.frozen? ⟨g, 1, none⟩ = false ∧ W.frozen? ⟨g, 2, none⟩ = false := ⟨h.free 0 (by simp), h.free 1 (by simp), h.free 2 (by simp)⟩
theorem Var.set3_6 {W : World} {g : Nat} {a b c : Value} (h : Var W g [a, b, c]) (a' b' c' : Value) : Var (((W.setCell ⟨g, 0, none⟩ a').setCell ⟨g, 1, none⟩ b').setCell ⟨g, 2, none⟩ c') g [a', b', c'] := by
  obtain ⟨h0, h1, h2⟩ := h.three6
  obtain ⟨f0, f1, f2⟩ := h.free36
  have n01 : ∀ (W : World) (u : Value), (W.setCell ⟨g, 1, none⟩ u).cell? ⟨g, 0, none⟩ = W.cell? ⟨g, 0, none⟩ := fun W u => World.cell?_setCell_other _ _ _ _ (by intro e; injection e with e1 e2; omega)
  have n02 : ∀ (W : World) (u : Value), (W.setCell ⟨g, 2, none⟩ u).cell? ⟨g, 0, none⟩ = W.cell? ⟨g, 0, none⟩ := fun W u => World.cell?_setCell_other _ _ _ _ (by intro e; injection e with e1 e2; omega)
  have n12 : ∀ (W : World) (u : Value), (W.setCell ⟨g, 2, none⟩ u).cell? ⟨g, 1, none⟩ = W.cell? ⟨g, 1, none⟩ := fun W u => World.cell?_setCell_other _ _ _ _ (by intro e; injection e with e1 e2; omega)
  have n10 : ∀ (W : World) (u : Value), (W.setCell ⟨g, 0, none⟩ u).cell? ⟨g, 1, none⟩ = W.cell? ⟨g, 1, none⟩ := fun W u => World.cell?_setCell_other _ _ _ _ (by intro e; injection e with e1 e2; omega)
  have n20 : ∀ (W : World) (u : Value), (W.setCell ⟨g, 0, none⟩ u).cell? ⟨g, 2, none⟩ = W.cell? ⟨g, 2, none⟩ := fun W u => World.cell?_setCell_other _ _ _ _ (by intro e; injection e with e1 e2; omega)
  have n21 : ∀ (W : World) (u : Value), (W.setCell ⟨g, 1, none⟩ u).cell? ⟨g, 2, none⟩ = W.cell? ⟨g, 2, none⟩ := fun W u => World.cell?_setCell_other _ _ _ _ (by intro e; injection e with e1 e2; omega)
  refine var3o (by simpa using h.lt) ?_ ?_ ?_ (by simpa using f0) (by simpa using f1) (by simpa using f2)
  · rw [n02, n01]; exact World.cell?_setCell_same _ _ _ h0
  · rw [n12]; exact World.cell?_setCell_same _ _ _ ((n10 _ _).trans h1)
  · exact World.cell?_setCell_same _ _ _ ((n21 _ _).trans ((n20 _ _).trans h2))
theorem Var.put6 {W : World} {g : Nat} {a b c : Value} (h : Var W g [a, b, c]) (x : Value) : Var (W.setCell ⟨g, 0, none⟩ x) g [x, b, c] ∧ Var (W.setCell ⟨g, 1, none⟩ x) g [a, x, c] ∧ Var (W.setCell ⟨g, 2, none⟩ x) g [a, b, x] := by
  obtain ⟨h0, h1, h2⟩ := h.three6
  obtain ⟨f0, f1, f2⟩ := h.free36
  have ne : ∀ (i j : Nat), i ≠ j → ∀ u, (W.setCell ⟨g, i, none⟩ u).cell? ⟨g, j, none⟩ = W.cell? ⟨g, j, none⟩ := fun i j hij u => World.cell?_setCell_other _ _ _ _ (by intro e; injection e with e1 e2; omega)
  refine ⟨var3o (by simpa using h.lt) (World.cell?_setCell_same _ _ _ h0) ?_ ?_ (by simpa using f0) (by simpa using f1) (by simpa using f2), var3o (by simpa using h.lt) ?_ (World.cell?_setCell_same _ _ _ h1) ?_ (by simpa using f0) (by simpa using f1) (by simpa using f2), var3o (by simpa using h.lt) ?_ ?_ (World.cell?_setCell_same _ _ _ h2) (by simpa using f0) (by simpa using f1) (by simpa using f2)⟩
  · rw [ne 0 1 (by omega)]; exact h1
  · rw [ne 0 2 (by omega)]; exact h2
  · rw [ne 1 0 (by omega)]; exact h0
  · rw [ne 1 2 (by omega)]; exact h2
  · rw [ne 2 0 (by omega)]; exact h0
  · rw [ne 2 1 (by omega)]; exact h1

def okO6 (m b : Int) : Bool := decide (1 ≤ m) && decide (m ≤ 3) && decide (0 ≤ b) && decide (b ≤ 100)
def erO6 (m b : Int) : Int := if okO6 m b then 0 else 2
theorem okO_iff6 {m b : Int} : okO6 m b = true ↔ (1 ≤ m ∧ m ≤ 3) ∧ 0 ≤ b ∧ b ≤ 100 := by
  unfold okO6
  simp only [Bool.and_eq_true, decide_eq_true_eq]
  omega
theorem okO_cases6 (m b : Int) : (m < 1 ∧ erO6 m b = 2) ∨ (¬ m < 1 ∧ 3 < m ∧ erO6 m b = 2) ∨ (¬ m < 1 ∧ ¬ 3 < m ∧ b < 0 ∧ erO6 m b = 2) ∨ (¬ m < 1 ∧ ¬ 3 < m ∧ ¬ b < 0 ∧ 100 < b ∧ erO6 m b = 2) ∨ (¬ m < 1 ∧ ¬ 3 < m ∧ ¬ b < 0 ∧ ¬ 100 < b ∧ erO6 m b = 0) := by
  unfold erO6
  by_cases h : okO6 m b = true
  · rw [if_pos h]
    have := okO_iff6.1 h
    omega
  · rw [if_neg h]
    have h2 : ¬ ((1 ≤ m ∧ m ≤ 3) ∧ 0 ≤ b ∧ b ≤ 100) := fun x => h (okO_iff6.2 x)
    omega
/-- a text against a written one -/
theorem toList_eqs (t : ByteArray) (L : List UInt8) : (t.toList == L) = decide (nums t = L.map fun x => (x.toNat : Int)) := by
  rw [ByteArray.toList_eq]
  have e : nums t = t.data.toList.map fun x => (x.toNat : Int) := rfl
  rw [e, Bool.eq_iff_iff, beq_iff_eq, decide_eq_true_eq]
  exact (List.map_inj_right (fun x y h => UInt8.toNat_inj.1 (by omega))).symm
theorem eqs_yes {t : ByteArray} {L : List UInt8} {l : List Int} (hl : L.map (fun x => (x.toNat : Int)) = l) (h : nums t = l) : (t.toList == L) = true := by rw [toList_eqs, hl]; exact decide_eq_true h
theorem eqs_no {t : ByteArray} {L : List UInt8} {l : List Int} (hl : L.map (fun x => (x.toNat : Int)) = l) (h : nums t ≠ l) : (t.toList == L) = false := by rw [toList_eqs, hl]; exact decide_eq_false h
end Go.Proofs.YtdpbmkfgolemjaaDoor

/-
  The map of the modes' words; what lies at the words' variable.
-/
namespace Go.Proofs.YtdpbmkfgolemjaaDoor
open Go.RowKit Go.Maps

/-- the variable with the modes' words, as it is laid -/
structure Words6 (w : World) : Prop where
  c0 : w.cell? ⟨0, 0, none⟩ = some (.string ⟨#[]⟩)
  c1 : w.cell? ⟨0, 1, none⟩ = some (.string ⟨#[116, 114, 105]⟩)
  c2 : w.cell? ⟨0, 2, none⟩ = some (.string ⟨#[113, 117, 97, 100]⟩)
  c3 : w.cell? ⟨0, 3, none⟩ = some (.string ⟨#[97, 108, 108]⟩)
theorem Words6.below {w w' : World} (h : Words6 w) (hb : Below w.heap.size w w') : Words6 w' :=
  ⟨(hb.cell (cell_lt h.c0)).trans h.c0, (hb.cell (cell_lt h.c1)).trans h.c1, (hb.cell (cell_lt h.c2)).trans h.c2, (hb.cell (cell_lt h.c3)).trans h.c3⟩
theorem law_str6 : Keyed Tryd.prog 9 := string_keyed Tryd.underlying9
theorem zero_int6 (w : World) : (zeroValue 3).run Tryd.prog w = .ok (.int .i64 0) w := by kernel_rfl
def k6 (L : List UInt8) : Lit := .string L
theorem k6_is (s : ByteArray) (hs : s.size ≤ maxLen) : keyOf Tryd.prog 9 (.string s) = some (k6 s.data.toList) := Go.WideMaps.keyOf_string_mk Tryd.underlying9 hs
theorem k6_key (s : ByteArray) (hs : s.size ≤ maxLen) : WideAt.IsKeyLit (k6 s.data.toList) := law_str6.key (k6_is s hs)
def D1_6 : DataW Unit := (DataW.map []).put (k6 [116, 114, 105]) (.lit (.int .i64 1))
def D2_6 : DataW Unit := D1_6.put (k6 [113, 117, 97, 100]) (.lit (.int .i64 2))
def D3_6 : DataW Unit := D2_6.put (k6 [97, 108, 108]) (.lit (.int .i64 3))
theorem nums_is6 (s : ByteArray) (L : List UInt8) {l : List Int} (hl : L.map (fun x => (x.toNat : Int)) = l) : nums s = l ↔ s.data.toList = L := by
  subst hl
  exact List.map_inj_right (fun x y h => UInt8.toNat_inj.1 (by omega))
theorem k6_ne {a b : List UInt8} (h : a ≠ b) : k6 a ≠ k6 b := fun e => h (by unfold k6 at e; injection e)
theorem look6 (s : ByteArray) (hs : s.size ≤ maxLen) : Maps.has D3_6 (k6 s.data.toList) = decide (mode6 (nums s) ≠ 0) ∧ D3_6.atKey (k6 s.data.toList) (.lit (.int .i64 0)) = .lit (.int .i64 (mode6 (nums s))) := by
  have hk := k6_key s hs
  have i0 : IsMap (DataW.map [] : DataW Unit) := isMap_empty
  have i1 : IsMap D1_6 := i0.put _ _
  have i2 : IsMap D2_6 := i1.put _ _
  have e1 := nums_is6 s [116, 114, 105] (l := wTri6) rfl
  have e2 := nums_is6 s [113, 117, 97, 100] (l := wQuad6) rfl
  have e3 := nums_is6 s [97, 108, 108] (l := wAll6) rfl
  unfold mode6
  by_cases h3 : s.data.toList = [97, 108, 108]
  · have n1 : ¬ nums s = wTri6 := fun e => by rw [e1.1 e] at h3; cases h3
    have n2 : ¬ nums s = wQuad6 := fun e => by rw [e2.1 e] at h3; cases h3
    rw [if_neg n1, if_neg n2, if_pos (e3.2 h3)]
    rw [h3] at hk ⊢
    exact ⟨has_put_same i2 hk _, atKey_put_same i2 hk _ _⟩
  · have n3 : ¬ nums s = wAll6 := fun e => h3 (e3.1 e)
    unfold D3_6
    rw [has_put_other (k6_ne h3), atKey_put_other (k6_ne h3)]
    by_cases h2 : s.data.toList = [113, 117, 97, 100]
    · have n1 : ¬ nums s = wTri6 := fun e => by rw [e1.1 e] at h2; cases h2
      rw [if_neg n1, if_pos (e2.2 h2)]
      rw [h2] at hk ⊢
      exact ⟨has_put_same i1 hk _, atKey_put_same i1 hk _ _⟩
    · have n2 : ¬ nums s = wQuad6 := fun e => h2 (e2.1 e)
      unfold D2_6
      rw [has_put_other (k6_ne h2), atKey_put_other (k6_ne h2)]
      by_cases h1 : s.data.toList = [116, 114, 105]
      · rw [if_pos (e1.2 h1)]
        rw [h1] at hk ⊢
        exact ⟨has_put_same i0 hk _, atKey_put_same i0 hk _ _⟩
      · have n1 : ¬ nums s = wTri6 := fun e => h1 (e1.1 e)
        unfold D1_6
        rw [has_put_other (k6_ne h1), atKey_put_other (k6_ne h1), if_neg n1, if_neg n2, if_neg n3]
        exact ⟨rfl, rfl⟩
end Go.Proofs.YtdpbmkfgolemjaaDoor

/-
  The program's reading of options' words.
-/
namespace Go.Proofs.YtdpbmkfgolemjaaDoor
open Go.RowKit Go.Maps

def tz6 (ts : List (Nat × ByteArray)) : List (Int × List Int) := ts.map fun x => ((x.1 : Int), nums x.2)
def optV6 (R : OpR6) : Value := .tuple #[.agg #[.int .i64 R.m, .int .i64 R.b, .bool R.r], .int .i64 R.at', .int .i64 R.e]
theorem tz_drop6 {ts : List (Nat × ByteArray)} {i : Nat} (h : i < ts.length) : (tz6 ts).drop i = ((ts[i].1 : Int), nums ts[i].2) :: (tz6 ts).drop (i + 1) := by
  unfold tz6
  rw [← List.map_drop, List.drop_eq_getElem_cons h, List.map_cons, List.map_drop]
theorem tz_end6 (ts : List (Nat × ByteArray)) : (tz6 ts).drop ts.length = [] := List.drop_eq_nil_of_le (by simp [tz6])
theorem tok_at6 {W : World} {g o : Nat} {L : List (Nat × ByteArray)} (h : TokCells W (some ⟨g, o, none⟩) L) {i a : Nat} {s : ByteArray} (hi : i < L.length) (e : L[i] = (a, s)) : W.cell? ⟨g, o + i * 2, none⟩ = some (.int .i64 (a : Int)) ∧ W.cell? ⟨g, o + i * 2 + 1, none⟩ = some (.string s) := by
  obtain ⟨g', o', e1, h1, h2⟩ := h i hi
  simp only [Option.some.injEq, Addr.mk.injEq, and_true] at e1
  obtain ⟨rfl, rfl⟩ := e1
  rw [e] at h1 h2
  exact ⟨h1, h2⟩
theorem tok_below6 {W W' : World} {ad : Option Addr} {L : List (Nat × ByteArray)} (h : TokCells W ad L) (hb : Below W.heap.size W W') : TokCells W' ad L := by
  intro i hi
  obtain ⟨g, o, e, h1, h2⟩ := h i hi
  exact ⟨g, o, e, (hb.cell (p := ⟨g, _, none⟩) (cell_lt h1)).trans h1, (hb.cell (p := ⟨g, _, none⟩) (cell_lt h2)).trans h2⟩
/-- what the first word tells -/
theorem first_6 (ts : List (Nat × ByteArray)) (en : Nat) : ∃ a0 s0, (∀ h : 0 < (ts ++ [(en, (⟨#[]⟩ : ByteArray))]).length, (ts ++ [(en, (⟨#[]⟩ : ByteArray))])[0] = (a0, s0)) ∧ (s0 = ⟨#[]⟩ ∨ ∃ a, (a, s0) ∈ ts) ∧
    (mode6 (nums s0) = 0 → read6 en (tz6 ts) = bad6 a0 11) ∧ (mode6 (nums s0) ≠ 0 → 1 ≤ ts.length ∧ read6 en (tz6 ts) = steps6 en (mode6 (nums s0)) ((tz6 ts).drop 1) 0 false false) := by
  cases ts with
  | nil => exact ⟨en, ⟨#[]⟩, fun _ => rfl, .inl rfl, fun _ => rfl, fun h => absurd rfl h⟩
  | cons x t =>
    refine ⟨x.1, x.2, fun _ => rfl, .inr ⟨x.1, by simp⟩, fun h => ?_, fun h => ⟨by simp, ?_⟩⟩
    · show (if mode6 (nums x.2) = 0 then bad6 x.1 11 else _) = _
      rw [if_pos h]
    · show (if mode6 (nums x.2) = 0 then bad6 x.1 11 else steps6 en (mode6 (nums x.2)) (tz6 t) 0 false false) = _
      rw [if_neg h]
      rfl
/-- the variables of the loop -/
structure OpS (w : World) (gr go : Nat) (m b : Int) (r : Bool) (W : World) : Prop where
  hb : Below w.heap.size w W
  res : Var W gr [.int .i64 0, .int .i64 0, .bool false]
  opt : Var W go [.int .i64 m, .int .i64 b, .bool r]
theorem OpS.turn {w : World} {gr go : Nat} {m b : Int} {r : Bool} {W W' : World} (h : OpS w gr go m b r W) (hb : Below W.heap.size W W') : OpS w gr go m b r W' := ⟨bl_trans h.hb hb, h.res.below hb, h.opt.below hb⟩
theorem steps_more6 {en m : Int} {ts : List (Nat × ByteArray)} {i : Nat} {b : Int} {r : Bool} {R : OpR6} {e : Nat} (hen : en = e) (hi : i < ts.length) (hs : nums ts[i].2 = wBud6) (hR : steps6 en m ((tz6 ts).drop i) b false r = R) :
    ∃ ya ys, (∀ h : i + 1 < (ts ++ [(e, (⟨#[]⟩ : ByteArray))]).length, (ts ++ [(e, (⟨#[]⟩ : ByteArray))])[i + 1] = (ya, ys)) ∧ (ys = ⟨#[]⟩ ∨ ∃ a, (a, ys) ∈ ts) ∧
      ((budZ6 (nums ys)).2 ≠ 0 → R = bad6 ya (budZ6 (nums ys)).2) ∧ ((budZ6 (nums ys)).2 = 0 → i + 2 ≤ ts.length ∧ steps6 en m ((tz6 ts).drop (i + 2)) (budZ6 (nums ys)).1 true r = R) := by
  rw [tz_drop6 hi] at hR
  by_cases h : i + 1 < ts.length
  · rw [tz_drop6 h, steps_bud6 (x := ((ts[i].1 : Int), nums ts[i].2)) hs] at hR
    refine ⟨ts[i + 1].1, ts[i + 1].2, fun _ => by rw [List.getElem_append_left h], .inr ⟨_, List.getElem_mem h⟩, fun hn => ?_, fun hz => ?_⟩
    · rw [if_neg hn] at hR; exact hR.symm
    · rw [if_pos hz] at hR; exact ⟨h, hR⟩
  · obtain he : i + 1 = ts.length := by omega
    rw [he, tz_end6, steps_end6 (x := ((ts[i].1 : Int), nums ts[i].2)) hs] at hR
    have h11 : (budZ6 (nums (⟨#[]⟩ : ByteArray))).2 = 11 := by decide
    refine ⟨e, ⟨#[]⟩, fun hl => ?_, .inl rfl, fun _ => ?_, fun hz => ?_⟩
    · rw [List.getElem_append_right (by omega)]
      simp [he]
    · rw [h11, ← hR, hen]
    · rw [h11] at hz; cases hz
end Go.Proofs.YtdpbmkfgolemjaaDoor

/-
  Contract of options.Parse.
-/
namespace Go.Proofs.YtdpbmkfgolemjaaDoor
open Go.RowKit Go.Maps

theorem tz_words6 (s : ByteArray) : tz6 (wordsOf s) = wordsZ (nums s) := by
  unfold tz6 wordsOf wordsZ
  rw [List.map_map]
  refine List.map_congr_left fun x _ => ?_
  simp only [Function.comp_apply, nums_extract]
theorem words_fit6 {s : ByteArray} (hs : s.size ≤ 10000) : ∀ x ∈ wordsOf s, 0 < x.2.size ∧ x.2.size ≤ 10000 := by
  intro x hx
  obtain ⟨i, hi, rfl⟩ := List.getElem_of_mem hx
  have h1 := word_ok s hi
  obtain ⟨a, b, e, ha, -, -⟩ := words_at s hi
  refine ⟨?_, ?_⟩
  · have h2 := h1.ne
    rw [← nums_length]
    exact List.length_pos_iff.2 h2
  · rw [e]
    show (s.extract a b).size ≤ 10000
    rw [ByteArray.size_extract]
    omega
theorem tok_own6 {w : World} {B : Nat} {g cp : Nat} {s : ByteArray} {en : Nat} (h : w.ownsRow B 51 2 (.slice (some ⟨g, 0, none⟩) ((toks (nums s)).length + 1) cp) ((toks (nums s)).length + 1) (tokVals s (toks (nums s)) ++ [.int .i64 (en : Int), .string ⟨#[]⟩])) :
    TokCells w (some ⟨g, 0, none⟩) (wordsOf s ++ [(en, ⟨#[]⟩)]) := by
  have hl : (wordsOf s).length = (toks (nums s)).length := by simp [wordsOf]
  have htl : ∀ l : List (Nat × Nat), (tokVals s l).length = l.length * 2 := by
    intro l
    induction l with
    | nil => rfl
    | cons x l ih =>
      have e : tokVals s (x :: l) = .int .i64 (x.1 : Int) :: .string (s.extract x.1 x.2) :: tokVals s l := by simp [tokVals]
      rw [e]; simp [ih]; omega
  intro i hi
  rw [List.length_append, List.length_singleton, hl] at hi
  refine ⟨g, 0, rfl, ?_⟩
  rw [Nat.zero_add, h.cellAt (i * 2) (by omega), h.cellAt (i * 2 + 1) (by omega)]
  by_cases hlt : i < (toks (nums s)).length
  · obtain ⟨e1, e2⟩ := tokVals_get s (toks (nums s)) i hlt
    have e3 : (wordsOf s ++ [(en, (⟨#[]⟩ : ByteArray))])[i]'(by simp [hl]; omega) = (wordsOf s)[i]'(by omega) := List.getElem_append_left (by omega)
    rw [e3, List.getElem?_append_left (by rw [htl]; omega), List.getElem?_append_left (by rw [htl]; omega), e1, e2]
    simp [wordsOf]
  · obtain rfl : i = (toks (nums s)).length := by omega
    rw [List.getElem?_append_right (by rw [htl]; omega), List.getElem?_append_right (by rw [htl]; omega), htl, List.getElem_append_right (by omega)]
    simp
end Go.Proofs.YtdpbmkfgolemjaaDoor
