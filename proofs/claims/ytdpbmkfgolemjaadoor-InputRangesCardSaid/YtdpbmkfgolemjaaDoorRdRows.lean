/-
  Rows of places of a call's own, while a block from below changes.
-/
import Derived.Test.YtdpbmkfgolemjaaDoorRdNums
set_option linter.unusedVariables false
set_option linter.unusedSimpArgs false
set_option linter.deprecated false
namespace Go.Proofs.YtdpbmkfgolemjaaDoor
open Go.RowKit

theorem Chg5.grown {P : Nat → Prop} {a b c : World} {row : Option Nat} (h : Chg5 P a b) (hg : b.grownBy c row) (hr : ∀ k, row = some k → a.heap.size ≤ k) : Chg5 P a c :=
  h.trans (Q := fun k => row = some k) ⟨hg.os, hg.tape, hg.output, hg.size, fun k hk hn => hg.block k hk (fun e => hn e.symm)⟩ (fun k hk e => absurd hk (by have := hr k e; omega))
theorem info_eseg5 : (Tryd.prog.info? 62).map (fun i => (i.zero, i.size, i.bytes)) = some (some (.agg #[.int .i64 0, .int .i64 0]), 2, 16) := by kernel_rfl
theorem info_point5 : (Tryd.prog.info? 43).map (fun i => (i.zero, i.size, i.bytes)) = some (some (.agg #[.int .i64 0, .int .i64 0]), 2, 16) := by kernel_rfl
def pget5 (l : List (Int × Int)) (i : Nat) : Int × Int := l.getD i (0, 0)
/-- places of a row, in memory -/
def PtRow5 (W : World) (ad : Option Addr) (l : List (Int × Int)) : Prop := ∀ i, i < l.length → ∃ g o, ad = some ⟨g, o, none⟩ ∧ W.cell? ⟨g, o + i * 2, none⟩ = some (.int .i64 (pget5 l i).1) ∧ W.cell? ⟨g, o + i * 2 + 1, none⟩ = some (.int .i64 (pget5 l i).2)
theorem PtRow5.below {W W' : World} {ad : Option Addr} {l : List (Int × Int)} (h : PtRow5 W ad l) (hb : Below W.heap.size W W') : PtRow5 W' ad l := by
  intro i hi
  obtain ⟨g, o, e, h1, h2⟩ := h i hi
  exact ⟨g, o, e, (hb.cell (cell_lt h1)).trans h1, (hb.cell (cell_lt h2)).trans h2⟩
theorem ptRow_at5 {W : World} {g o : Nat} {l : List (Int × Int)} (h : PtRow5 W (some ⟨g, o, none⟩) l) {i : Nat} (hi : i < l.length) {t : (Int × Int)} (e : pget5 l i = t) : W.cell? ⟨g, o + i * 2, none⟩ = some (.int .i64 t.1) ∧ W.cell? ⟨g, o + i * 2 + 1, none⟩ = some (.int .i64 t.2) := by
  obtain ⟨g', o', e1, h1⟩ := h i hi
  simp only [Option.some.injEq, Addr.mk.injEq, and_true] at e1
  obtain ⟨rfl, rfl⟩ := e1
  rw [← e]
  exact h1
theorem ptRow_nil5 (W : World) (ad : Option Addr) : PtRow5 W ad [] := fun _ h => absurd h (Nat.not_lt_zero _)
theorem pget_drop5 (l : List (Int × Int)) (k i : Nat) : pget5 (l.drop k) i = pget5 l (k + i) := by simp [pget5]
theorem pget_take5 (l : List (Int × Int)) {k i : Nat} (h : i < k) : pget5 (l.take k) i = pget5 l i := by simp [pget5, h]
/-- behind the first k -/
theorem PtRow5.drop {W : World} {ad : Option Addr} {l : List (Int × Int)} (h : PtRow5 W ad l) (k : Nat) {ad' : Option Addr} (e : ∀ g o, ad = .some ⟨g, o, none⟩ → k < l.length → ad' = .some ⟨g, o + k * 2, none⟩) : PtRow5 W ad' (l.drop k) := by
  intro i hi
  rw [List.length_drop] at hi
  obtain ⟨g, o, e1, h1, h2⟩ := h (k + i) (by omega)
  refine ⟨g, o + k * 2, e g o e1 (by omega), ?_⟩
  rw [pget_drop5, show o + k * 2 + i * 2 = o + (k + i) * 2 by omega]
  exact ⟨h1, h2⟩
theorem PtRow5.take {W : World} {ad : Option Addr} {l : List (Int × Int)} (h : PtRow5 W ad l) (k : Nat) : PtRow5 W ad (l.take k) := by
  intro i hi
  rw [List.length_take] at hi
  obtain ⟨g, o, e1, h1, h2⟩ := h i (by omega)
  refine ⟨g, o, e1, ?_⟩
  rw [pget_take5 _ (by omega)]
  exact ⟨h1, h2⟩
theorem PtRow5.some {W : World} {ad : Option Addr} {l : List (Int × Int)} (h : PtRow5 W ad l) (h0 : 0 < l.length) : ∃ g o, ad = some ⟨g, o, none⟩ := by
  obtain ⟨g, o, e, -⟩ := h 0 h0
  exact ⟨g, o, e⟩
def pv5 (l : List (Int × Int)) : List Value := l.flatMap fun p => [.int .i64 p.1, .int .i64 p.2]
theorem pv_len5 (l : List (Int × Int)) : (pv5 l).length = l.length * 2 := by
  induction l with
  | nil => rfl
  | cons s l ih => unfold pv5 at *; rw [List.flatMap_cons, List.length_append, ih]; simp; omega
theorem pv_one5 (l : List (Int × Int)) : ∀ u ∈ pv5 l, u.oneCell' = true := by
  intro u hu
  unfold pv5 at hu
  rw [List.mem_flatMap] at hu
  obtain ⟨d, -, hd⟩ := hu
  rcases List.mem_cons.1 hd with rfl | hd
  · rfl
  · rcases List.mem_cons.1 hd with rfl | hd
    · rfl
    · cases hd
theorem pv_get5 : ∀ (l : List (Int × Int)) (i : Nat), i < l.length → (pv5 l)[i * 2]? = some (.int .i64 (pget5 l i).1) ∧ (pv5 l)[i * 2 + 1]? = some (.int .i64 (pget5 l i).2)
  | p :: l, 0, _ => ⟨rfl, rfl⟩
  | p :: l, i + 1, h => by
    have := pv_get5 l i (by simpa using h)
    rw [show (i + 1) * 2 = i * 2 + 1 + 1 by omega]
    exact this
theorem pv_cells5 {W : World} {g o : Nat} {l : List (Int × Int)} (h : PtRow5 W (some ⟨g, o, none⟩) l) : ∀ j u, (pv5 l)[j]? = some u → W.cell? ((⟨g, o, none⟩ : Addr).add j) = some u := by
  intro j u hj
  rw [add_plain5]
  have hl := (List.getElem?_eq_some_iff.1 hj).1
  rw [pv_len5] at hl
  have hk := pv_get5 l (j / 2) (by omega)
  have hc := ptRow_at5 h (i := j / 2) (by omega) rfl
  rcases Nat.mod_two_eq_zero_or_one j with e | e
  · have e2 : j / 2 * 2 = j := by omega
    rw [e2] at hk hc
    rw [hk.1] at hj
    cases hj
    exact hc.1
  · have e2 : j / 2 * 2 + 1 = j := by omega
    rw [Nat.add_assoc, e2] at hc
    rw [e2] at hk
    rw [hk.2] at hj
    cases hj
    exact hc.2

/-- append of one place -/
theorem app_own5 {ops : Array Oper} {rest : List Oper} {o : Oper} {a : Act} {Q : Exit → Act → World → Prop} {T TS : TypeId} {B : Nat} {W : World} {D : List (Int × Int)} {v : Value} {c : Nat} {gx : Nat} {p : (Int × Int)} (hgd : o.guard = none) (hu : Tryd.prog.underlying TS = some (.slice T)) (hi : (Tryd.prog.info? T).map (fun i => (i.zero, i.size, i.bytes)) = some (some (.agg #[.int .i64 0, .int .i64 0]), 2, 16)) (s x : Operand)
    (ho : o.op = .call { callee := .builtin .append, args := #[s, x], argTypes := #[TS, TS] }) (hs : a.eval s = v) (hO : W.ownsRow B T 2 v D.length (pv5 D)) (hB : B ≤ W.heap.size) (hx : a.eval x = .slice (some ⟨gx, 0, none⟩) 1 c) (hL : PtRow5 W (some ⟨gx, 0, none⟩) [p])
    (hlen : D.length + 1 ≤ 1000000) (h : ∀ v' W', W'.ownsRow B T 2 v' (D ++ [p]).length (pv5 (D ++ [p])) → W.grownBy W' v.ownBlock → wpList Tryd.prog ops Q rest (a.put o.dst v') W') : wpList Tryd.prog ops Q (o :: rest) a W :=
  wpList_plain hgd fun _ hK => by
    obtain ⟨e0, hi0, hz0, hz1, hz2⟩ := info_parts hi
    refine wp_append_own W s x TS ho B T e0 (.agg #[.int .i64 0, .int .i64 0]) 2 16 hu hi0 hz0 hz1 hz2 rfl (by decide) v _ _ hs hO _ _ c (pv5 [p]) hx (pv_len5 _) (pv_cells5 hL) (pv_one5 _) (by unfold maxLen; omega) (by omega) hB fun v' W' ho hg _ => hK _ _ (h v' W' ?_ hg)
    have e : pv5 (D ++ [p]) = pv5 D ++ pv5 [p] := by unfold pv5; rw [List.flatMap_append]
    rw [e, List.length_append]
    exact ho
theorem own_below5 {T : TypeId} {B : Nat} {W W' : World} {v : Value} {l : List (Int × Int)} {P : Nat → Prop} (h : W.ownsRow B T 2 v l.length (pv5 l)) (hc : Chg5 P W W') (hp : ∀ k, B ≤ k → k < W.heap.size → ¬ P k) : W'.ownsRow B T 2 v l.length (pv5 l) := by
  refine ⟨h.1, ?_⟩
  rcases h.2 with h | ⟨g, cap, cur, rfl, hb0, hcu, rest⟩
  · exact .inl h
  · exact .inr ⟨g, cap, cur, rfl, hb0, (hc.block g (Array.getElem?_eq_some_iff.1 hcu).1 (hp g hb0 (Array.getElem?_eq_some_iff.1 hcu).1)).trans hcu, rest⟩
theorem own_row5 {T : TypeId} {B : Nat} {W : World} {v : Value} {l : List (Int × Int)} (ho : W.ownsRow B T 2 v l.length (pv5 l)) : ∃ ad cap, v = .slice ad l.length cap ∧ l.length ≤ cap ∧ PtRow5 W ad l ∧ (ad = none → cap = 0) ∧ ∀ a, ad = some a → B ≤ a.block := by
  rcases ho.2 with ⟨rfl, hn⟩ | ⟨g, cap, cur, rfl, hb0, -, hcap, -⟩
  · exact ⟨none, 0, by rw [hn], by omega, fun i hi => absurd hi (by omega), fun _ => rfl, fun a h => by cases h⟩
  · refine ⟨_, cap, rfl, hcap, fun i hi => ⟨g, 0, rfl, ?_⟩, (fun h => by cases h), (fun a h => by cases h; exact hb0)⟩
    have c := ho.cells (g := g) rfl
    have p := pv_get5 l i hi
    have c0 := c _ _ p.1
    have c1 := c _ _ p.2
    rw [add_plain5] at c0 c1
    exact ⟨c0, c1⟩
/-- two numbers into the two cells of a variable -/
theorem num_two5 (W : World) (g gt en q gs : Nat) (s : S5) (lo hi : Int) (hlo : lo = 0 ∨ lo = - hi) (hh0 : -1 ≤ hi) (hh1 : hi ≤ 2000000) (hgt : gt ≠ g) (hq : q ≠ g ∧ q ≠ gt ∧ q ≠ gs) (hgs : gs ≠ g) (hS : Rd5 W g gt en s) (hV : Var W q [.int .i64 0, .int .i64 0])
    (hp : Var W gs [.pointer (some ⟨q, 0, none⟩), .pointer (some ⟨q, 1, none⟩)]) {a b : Int} {s2 : S5} (hr : rdN5 en lo hi 2 s = ([a, b], s2)) :
    Calls Tryd.prog 43 #[.pointer (some ⟨g, 0, none⟩), .int .i64 lo, .int .i64 hi, .slice (some ⟨gs, 0, none⟩) 2 2] W fun e W' => e = .returned (.tuple #[]) ∧ Rd5 W' g gt en s2 ∧ Var W' q [.int .i64 a, .int .i64 b] ∧ Chg5 (fun k => k = g ∨ k = q) W W' := by
  have h := numbers_l5 W g gt en gs 0 2 s lo hi hlo hh0 hh1 [(q, 0), (q, 1)] (by simp) (by simp) (by simp) hgt hgs (fun p hp => by simp at hp; rcases hp with rfl | rfl <;> exact hq) hS (fun j hj => by
    match j, hj with
    | 0, _ => exact ⟨hV.two.1, hV.free 0 (by simp)⟩
    | 1, _ => exact ⟨hV.two.2, hV.free 1 (by simp)⟩) (fun i hi => by
    match i, hi with
    | 0, _ => exact hp.two.1
    | 1, _ => exact hp.two.2)
  refine Calls.mono (show Calls Tryd.prog 43 #[.pointer (some ⟨g, 0, none⟩), .int .i64 lo, .int .i64 hi, .slice (some ⟨gs, 0, none⟩) 2 2] W _ from h) ?_
  rintro e W' ⟨rfl, h1, h2, h3⟩
  have hr2 : rdN5 en lo hi [(q, 0), (q, 1)].length s = ([a, b], s2) := hr
  rw [hr2] at h1 h2
  refine ⟨rfl, h1, var2 (Nat.lt_of_lt_of_le hV.lt h3.size) (h2 0 (by simp)).1 (h2 1 (by simp)).1 (h2 0 (by simp)).2 (h2 1 (by simp)).2, ?_⟩
  refine ⟨h3.os, h3.tape, h3.output, h3.size, fun k hk hn => h3.block k hk (fun ht => hn ?_)⟩
  rcases ht with rfl | ⟨p, hp, rfl⟩
  · exact .inl rfl
  · simp at hp
    rcases hp with rfl | rfl <;> exact .inr rfl
end Go.Proofs.YtdpbmkfgolemjaaDoor

/-
  The reader of an input's words: places.
-/
namespace Go.Proofs.YtdpbmkfgolemjaaDoor
open Go.RowKit

/-- the loop over pairs -/
structure PS5P (w : World) (g gt en : Nat) (lv : Value) (D : List (Int × Int)) (si : S5) (W : World) : Prop where
  rd : Rd5 W g gt en si
  chg : Chg5 (· = g) w W
  own : W.ownsRow w.heap.size 43 2 lv D.length (pv5 D)
set_option maxHeartbeats 8000000 in
set_option maxRecDepth 100000 in
theorem points_l5 (w : World) (g gt en : Nat) (s : S5) (k : Nat) (hk : k ≤ 1000) (hgt : gt ≠ g) (hgl : gt < w.heap.size) (hS : Rd5 w g gt en s) :
    Calls Tryd.prog 44 #[.pointer (some ⟨g, 0, none⟩), .int .i64 (k : Int)] w fun e W => ∃ v, e = .returned v ∧ W.ownsRow w.heap.size 43 2 v (rdP5 en (-1048576) 1048576 k s).1.length (pv5 (rdP5 en (-1048576) 1048576 k s).1) ∧ Rd5 W g gt en (rdP5 en (-1048576) 1048576 k s).2 ∧ Chg5 (· = g) w W := by
  have HG := Lib.hid (And.intro hgt (And.intro hgl hS.lt))
  obtain ⟨V, hV⟩ : ∃ V, rdP5 en (-1048576) 1048576 k s = V := ⟨_, rfl⟩
  obtain ⟨vals, fin⟩ := V
  rw [hV]
  have HR0 : Hid (rdP5 en (-1048576) 1048576 (k - 0) s = (vals.drop 0, fin)) := hV
  have HVL : Hid (vals.length = k) := by
    have := rdP_len5 en (-1048576) 1048576 k s
    rw [hV] at this
    exact this
  have HS0 : Hid (PS5P w g gt en (.slice none 0 0) (vals.take 0) s w) := ⟨hS, Chg5.refl _ _, World.ownsRow_nil _ _ _ _⟩
  have CN := Lib.hid (fun W q gs si a b s2 (hq : q ≠ g ∧ q ≠ gt ∧ q ≠ gs) (hgs : gs ≠ g) (h : Rd5 W g gt en si) hv hp (hr : rdN5 en (-1048576) 1048576 2 si = ([a, b], s2)) => num_two5 W g gt en q gs si (-1048576) 1048576 (.inr rfl) (by decide) (by decide) hgt hq hgs h hv hp hr)
  clear hgt hgl hV hS
  go_enter Tryd.func44, Tryd.ntmps44
  go_wp2_with fail
  go_loopw [5, 8] (fun lv iv W => ∃ (i : Nat) (si : S5), iv = .int .i64 i ∧ i ≤ k ∧ Hid (rdP5 en (-1048576) 1048576 (k - i) si = (vals.drop i, fin)) ∧ PS5P w g gt en lv (vals.take i) si W) (fun _ iv _ => k + 1 - (intOf iv).toNat)
  case atStart => exact ⟨0, s, rfl, Nat.zero_le _, HR0.out, HS0.out⟩
  case round =>
    obtain ⟨i, si, rfl, hi', HX, hNS⟩ := hrel
    have HNS := Lib.hid hNS
    clear hNS HR0 HS0
    have hsz := HNS.out.chg.size
    by_cases hlt : i < k
    · obtain ⟨a, b, s2, h2, htk, hx2⟩ := rdP_step5 hlt HX.out
      have H2 := Lib.hid h2
      have HTK := Lib.hid htk
      have HX2 := Lib.hid hx2
      have hg1 := HG.out.2.1
      have hg2 := HG.out.2.2
      have HCALL := Lib.hid (CN.out ((wr.alloc (.cells #[.int .i64 0, .int .i64 0] 43)).alloc (.cells #[.pointer (some ⟨wr.heap.size, 0, none⟩), .pointer (some ⟨wr.heap.size, 1, none⟩)] 100)) wr.heap.size (wr.heap.size + 1) si a b s2
        ⟨by omega, by omega, by omega⟩ (by omega) (HNS.out.rd.below (by repeat (first | (with_reducible exact Below.refl _ _) | (with_reducible refine bl_alloc ?_ _) | (with_reducible refine Below.drew ?_) | (with_reducible refine below_drewN' ?_ _) | ((with_reducible refine bl_set ?_ ?_ _); (rotate_left; (dsimp only; omega)))))) ((var2_new _ _ _ _ _ rfl).below (bl_one _ _)) (var2_new _ _ _ _ _ (by simp)) H2.out)
      clear h2 htk hx2 HX
      go_wp2_with fail
      (with_reducible refine HCALL.out.mono ?_)
      rintro e w3 ⟨rfl, hr3, hv3, hg3⟩
      have HG3 : Hid (Chg5 (fun k => k = g ∨ k = wr.heap.size) wr w3) := (((Chg5.refl _ _).alloc _).alloc _).trans hg3 (fun _ _ h => h)
      have HO3 := Lib.hid (own_below5 HNS.out.own HG3.out (fun k hk hl => by omega))
      have HR3 := Lib.hid hr3
      have HC3 := Lib.hid (HNS.out.chg.trans (P := (· = g)) HG3.out (fun k hk h => by omega))
      obtain ⟨t0, t1⟩ := hv3.two
      have hs3 : w.heap.size ≤ w3.heap.size := HC3.out.size
      have HLT : Hid ((vals.take i).length + 1 ≤ 1000000) := by rw [List.length_take]; unfold Hid; omega
      have HO4 : Hid ((w3.alloc (.cells #[.int .i64 a, .int .i64 b] 43)).ownsRow w.heap.size 43 2 u5 (vals.take i).length (pv5 (vals.take i))) := HO3.out.alloc _
      have HN4 : Hid (PtRow5 (w3.alloc (.cells #[.int .i64 a, .int .i64 b] 43)) (some ⟨w3.heap.size, 0, none⟩) [(a, b)]) := by
        intro j hj
        obtain rfl : j = 0 := by simpa using hj
        exact ⟨_, _, rfl, by simp [go_sem, pget5], by simp [go_sem, pget5]⟩
      clear hr3 hv3 hg3 HCALL
      go_wp2_with (at_builtin; refine app_own5 rfl Tryd.underlying22 info_point5 _ _ rfl rfl HO4.out (by simp; omega) rfl HN4.out HLT.out ?_)
      intro v' w5 hown hgr
      have HO5 := Lib.hid hown
      have hrow : ∀ k, u5.ownBlock = some k → w.heap.size ≤ k := fun k e => (HO4.out.lt k e).1
      have HC5 := Lib.hid ((HC3.out.alloc (.cells #[.int .i64 a, .int .i64 b] 43)).grown hgr hrow)
      have HR5 : Hid (Rd5 w5 g gt en s2) := (HR3.out.below (bl_one _ _)).chg (P := fun k => u5.ownBlock = some k) ((Chg5.refl _ _).trans ⟨hgr.os, hgr.tape, hgr.output, hgr.size, fun k hk hn => hgr.block k hk (fun e => hn e.symm)⟩ (fun _ _ h => h)) (fun e => by have := hrow _ e; omega) (fun e => by have := hrow _ e; omega)
      clear hown hgr hrow HO4 HN4 HO3 HR3 HC3 t0 t1
      go_wp2_with fail
      go_roundw
      case rel =>
        refine ⟨i + 1, s2, by first | rfl | simp, hlt, HX2.out, HR5.out, HC5.out, ?_⟩
        rw [HTK.out, show (vals.take i ++ [(a, b)]).length = min i vals.length + 1 by simp]
        exact HO5.out
      case measure => simp [intOf]; omega
    · obtain rfl : i = k := by omega
      have e : rdP5 en (-1048576) 1048576 (i - i) si = ([], si) := by rw [Nat.sub_self]; rfl
      have hX := HX.out
      rw [e] at hX
      obtain ⟨-, rfl⟩ := Prod.mk.injEq .. ▸ hX
      have ht : vals.take i = vals := List.take_of_length_le (by have := HVL.out; omega)
      have hO := HNS.out.own
      rw [ht] at hO
      have HO := Lib.hid hO
      clear HX hX e ht hO
      go_wp2_with fail
      go_ret
      exact ⟨_, rfl, HO.out, HNS.out.rd, HNS.out.chg⟩
end Go.Proofs.YtdpbmkfgolemjaaDoor

/-
  The reader of an input's words: segments.
-/
namespace Go.Proofs.YtdpbmkfgolemjaaDoor
open Go.RowKit

/-- the loop over pairs -/
structure PS5G (w : World) (g gt en : Nat) (lv : Value) (D : List (Int × Int)) (si : S5) (W : World) : Prop where
  rd : Rd5 W g gt en si
  chg : Chg5 (· = g) w W
  own : W.ownsRow w.heap.size 62 2 lv D.length (pv5 D)
set_option maxHeartbeats 8000000 in
set_option maxRecDepth 100000 in
theorem segs_l5 (w : World) (g gt en : Nat) (s : S5) (k : Nat) (hk : k ≤ 1000) (n : Int) (hn0 : 0 ≤ n) (hn1 : n ≤ 1000) (hgt : gt ≠ g) (hgl : gt < w.heap.size) (hS : Rd5 w g gt en s) :
    Calls Tryd.prog 45 #[.pointer (some ⟨g, 0, none⟩), .int .i64 (k : Int), .int .i64 n] w fun e W => ∃ v, e = .returned v ∧ W.ownsRow w.heap.size 62 2 v (rdP5 en 0 (n - 1) k s).1.length (pv5 (rdP5 en 0 (n - 1) k s).1) ∧ Rd5 W g gt en (rdP5 en 0 (n - 1) k s).2 ∧ Chg5 (· = g) w W := by
  have hw : wrap64 (n - 1) = n - 1 := by unfold wrap64; omega
  have HG := Lib.hid (And.intro hgt (And.intro hgl hS.lt))
  obtain ⟨V, hV⟩ : ∃ V, rdP5 en 0 (n - 1) k s = V := ⟨_, rfl⟩
  obtain ⟨vals, fin⟩ := V
  rw [hV]
  have HR0 : Hid (rdP5 en 0 (n - 1) (k - 0) s = (vals.drop 0, fin)) := hV
  have HVL : Hid (vals.length = k) := by
    have := rdP_len5 en 0 (n - 1) k s
    rw [hV] at this
    exact this
  have HS0 : Hid (PS5G w g gt en (.slice none 0 0) (vals.take 0) s w) := ⟨hS, Chg5.refl _ _, World.ownsRow_nil _ _ _ _⟩
  have CN := Lib.hid (fun W q gs si a b s2 (hq : q ≠ g ∧ q ≠ gt ∧ q ≠ gs) (hgs : gs ≠ g) (h : Rd5 W g gt en si) hv hp (hr : rdN5 en 0 (n - 1) 2 si = ([a, b], s2)) => num_two5 W g gt en q gs si 0 (n - 1) (.inl rfl) (by omega) (by omega) hgt hq hgs h hv hp hr)
  clear hgt hgl hV hS
  go_enter Tryd.func45, Tryd.ntmps45
  go_wp2_with fail
  go_loopw [7, 10] (fun lv iv W => ∃ (i : Nat) (si : S5), iv = .int .i64 i ∧ i ≤ k ∧ Hid (rdP5 en 0 (n - 1) (k - i) si = (vals.drop i, fin)) ∧ PS5G w g gt en lv (vals.take i) si W) (fun _ iv _ => k + 1 - (intOf iv).toNat)
  case atStart => exact ⟨0, s, rfl, Nat.zero_le _, HR0.out, HS0.out⟩
  case round =>
    obtain ⟨i, si, rfl, hi', HX, hNS⟩ := hrel
    have HNS := Lib.hid hNS
    clear hNS HR0 HS0
    have hsz := HNS.out.chg.size
    by_cases hlt : i < k
    · obtain ⟨a, b, s2, h2, htk, hx2⟩ := rdP_step5 hlt HX.out
      have H2 := Lib.hid h2
      have HTK := Lib.hid htk
      have HX2 := Lib.hid hx2
      have hg1 := HG.out.2.1
      have hg2 := HG.out.2.2
      have HCALL := Lib.hid (CN.out ((wr.alloc (.cells #[.int .i64 0, .int .i64 0] 62)).alloc (.cells #[.pointer (some ⟨wr.heap.size, 0, none⟩), .pointer (some ⟨wr.heap.size, 1, none⟩)] 100)) wr.heap.size (wr.heap.size + 1) si a b s2
        ⟨by omega, by omega, by omega⟩ (by omega) (HNS.out.rd.below (by repeat (first | (with_reducible exact Below.refl _ _) | (with_reducible refine bl_alloc ?_ _) | (with_reducible refine Below.drew ?_) | (with_reducible refine below_drewN' ?_ _) | ((with_reducible refine bl_set ?_ ?_ _); (rotate_left; (dsimp only; omega)))))) ((var2_new _ _ _ _ _ rfl).below (bl_one _ _)) (var2_new _ _ _ _ _ (by simp)) H2.out)
      clear h2 htk hx2 HX
      go_wp2_with fail
      (with_reducible refine HCALL.out.mono ?_)
      rintro e w3 ⟨rfl, hr3, hv3, hg3⟩
      have HG3 : Hid (Chg5 (fun k => k = g ∨ k = wr.heap.size) wr w3) := (((Chg5.refl _ _).alloc _).alloc _).trans hg3 (fun _ _ h => h)
      have HO3 := Lib.hid (own_below5 HNS.out.own HG3.out (fun k hk hl => by omega))
      have HR3 := Lib.hid hr3
      have HC3 := Lib.hid (HNS.out.chg.trans (P := (· = g)) HG3.out (fun k hk h => by omega))
      obtain ⟨t0, t1⟩ := hv3.two
      have hs3 : w.heap.size ≤ w3.heap.size := HC3.out.size
      have HLT : Hid ((vals.take i).length + 1 ≤ 1000000) := by rw [List.length_take]; unfold Hid; omega
      have HO4 : Hid ((w3.alloc (.cells #[.int .i64 a, .int .i64 b] 62)).ownsRow w.heap.size 62 2 u7 (vals.take i).length (pv5 (vals.take i))) := HO3.out.alloc _
      have HN4 : Hid (PtRow5 (w3.alloc (.cells #[.int .i64 a, .int .i64 b] 62)) (some ⟨w3.heap.size, 0, none⟩) [(a, b)]) := by
        intro j hj
        obtain rfl : j = 0 := by simpa using hj
        exact ⟨_, _, rfl, by simp [go_sem, pget5], by simp [go_sem, pget5]⟩
      clear hr3 hv3 hg3 HCALL
      go_wp2_with (at_builtin; refine app_own5 rfl Tryd.underlying23 info_eseg5 _ _ rfl rfl HO4.out (by simp; omega) rfl HN4.out HLT.out ?_)
      intro v' w5 hown hgr
      have HO5 := Lib.hid hown
      have hrow : ∀ k, u7.ownBlock = some k → w.heap.size ≤ k := fun k e => (HO4.out.lt k e).1
      have HC5 := Lib.hid ((HC3.out.alloc (.cells #[.int .i64 a, .int .i64 b] 62)).grown hgr hrow)
      have HR5 : Hid (Rd5 w5 g gt en s2) := (HR3.out.below (bl_one _ _)).chg (P := fun k => u7.ownBlock = some k) ((Chg5.refl _ _).trans ⟨hgr.os, hgr.tape, hgr.output, hgr.size, fun k hk hn => hgr.block k hk (fun e => hn e.symm)⟩ (fun _ _ h => h)) (fun e => by have := hrow _ e; omega) (fun e => by have := hrow _ e; omega)
      clear hown hgr hrow HO4 HN4 HO3 HR3 HC3 t0 t1
      go_wp2_with fail
      go_roundw
      case rel =>
        refine ⟨i + 1, s2, by first | rfl | simp, hlt, HX2.out, HR5.out, HC5.out, ?_⟩
        rw [HTK.out, show (vals.take i ++ [(a, b)]).length = min i vals.length + 1 by simp]
        exact HO5.out
      case measure => simp [intOf]; omega
    · obtain rfl : i = k := by omega
      have e : rdP5 en 0 (n - 1) (i - i) si = ([], si) := by rw [Nat.sub_self]; rfl
      have hX := HX.out
      rw [e] at hX
      obtain ⟨-, rfl⟩ := Prod.mk.injEq .. ▸ hX
      have ht : vals.take i = vals := List.take_of_length_le (by have := HVL.out; omega)
      have hO := HNS.out.own
      rw [ht] at hO
      have HO := Lib.hid hO
      clear HX hX e ht hO
      go_wp2_with fail
      go_ret
      exact ⟨_, rfl, HO.out, HNS.out.rd, HNS.out.chg⟩
end Go.Proofs.YtdpbmkfgolemjaaDoor
