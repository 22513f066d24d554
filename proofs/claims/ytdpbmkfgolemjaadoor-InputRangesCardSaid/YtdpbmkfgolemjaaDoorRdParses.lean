/-
  The reader of an input's words: a whole description.
-/
import Derived.Test.YtdpbmkfgolemjaaDoorRdNums
import Derived.Test.YtdpbmkfgolemjaaDoorRdRows
import Derived.Test.YtdpbmkfgolemjaaDoorTokAll
import Derived.Test.YtdpbmkfgolemjaaDoorTCuts
set_option linter.unusedVariables false
set_option linter.unusedSimpArgs false
set_option linter.deprecated false
namespace Go.Proofs.YtdpbmkfgolemjaaDoor
open Go.RowKit

theorem var1_5 {W : World} {g : Nat} {a : Value} (hl : g < W.heap.size) (h0 : W.cell? ⟨g, 0, none⟩ = some a) (f0 : W.frozen? ⟨g, 0, none⟩ = false) : Var W g [a] :=
  ⟨hl, fun i hi => by
    match i, hi with
    | 0, _ => exact h0, fun i hi => by
    match i, hi with
    | 0, _ => exact f0⟩
theorem var1_new5 (W : World) (a : Value) (t : TypeId) (g : Nat) (hg : g = W.heap.size) : Var (W.alloc (.cells #[a] t)) g [a] := by
  subst hg
  exact var1_5 (by simp) (by simp [go_sem]) (by simp [go_sem])
theorem Var.one5 {W : World} {g : Nat} {a : Value} (h : Var W g [a]) : W.cell? ⟨g, 0, none⟩ = some a := h.cells 0 (by simp)
theorem own_mono5 {T : TypeId} {B B' : Nat} {W : World} {v : Value} {n : Nat} {l : List Value} (h : W.ownsRow B T 2 v n l) (hB : B' ≤ B) : W.ownsRow B' T 2 v n l := by
  refine ⟨h.1, ?_⟩
  rcases h.2 with h | ⟨g, cap, cur, e, hb, rest⟩
  · exact .inl h
  · exact .inr ⟨g, cap, cur, e, Nat.le_trans hB hb, rest⟩
theorem Chg5.tg {g : Nat} {ps : List (Nat × Nat)} {w a b : World} (h : Chg5 (· = g) w a) (k : Chg5 (Tg5 g ps) a b) (hp : ∀ p ∈ ps, w.heap.size ≤ p.1) : Chg5 (· = g) w b :=
  h.trans k (fun i hi ht => by
    rcases ht with h | ⟨p, hp', h⟩
    · exact h
    · have := hp p hp'; omega)
/-- one number into a variable -/
theorem num_one5 (W : World) (g gt en q gs : Nat) (s : S5) (lo hi : Int) (hlo : lo = 0 ∨ lo = - hi) (hh0 : -1 ≤ hi) (hh1 : hi ≤ 2000000) (hgt : gt ≠ g) (hq : q ≠ g ∧ q ≠ gt ∧ q ≠ gs) (hgs : gs ≠ g) (hS : Rd5 W g gt en s) (hV : Var W q [.int .i64 0])
    (hp : Var W gs [.pointer (some ⟨q, 0, none⟩)]) :
    Calls Tryd.prog 43 #[.pointer (some ⟨g, 0, none⟩), .int .i64 lo, .int .i64 hi, .slice (some ⟨gs, 0, none⟩) 1 1] W fun e W' => e = .returned (.tuple #[]) ∧ Rd5 W' g gt en (rd5 en lo hi s).2 ∧ Var W' q [.int .i64 (rd5 en lo hi s).1] ∧ Chg5 (Tg5 g [(q, 0)]) W W' := by
  have h := numbers_l5 W g gt en gs 0 1 s lo hi hlo hh0 hh1 [(q, 0)] (by simp) (by simp) (by simp) hgt hgs (fun p hp => by simp at hp; rcases hp with rfl; exact hq) hS (fun j hj => by
    match j, hj with
    | 0, _ => exact ⟨hV.one5, hV.free 0 (by simp)⟩) (fun i hi => by
    match i, hi with
    | 0, _ => exact hp.one5)
  refine Calls.mono (show Calls Tryd.prog 43 #[.pointer (some ⟨g, 0, none⟩), .int .i64 lo, .int .i64 hi, .slice (some ⟨gs, 0, none⟩) 1 1] W _ from h) ?_
  rintro e W' ⟨rfl, h1, h2, h3⟩
  exact ⟨rfl, h1, var1_5 (Nat.lt_of_lt_of_le hV.lt h3.size) (h2 0 (by simp)).1 (h2 0 (by simp)).2, h3⟩
/-- two numbers into two variables -/
theorem num_pair5 (W : World) (g gt en q r gs : Nat) (s : S5) (lo hi : Int) (hlo : lo = 0 ∨ lo = - hi) (hh0 : -1 ≤ hi) (hh1 : hi ≤ 2000000) (hgt : gt ≠ g) (hq : q ≠ g ∧ q ≠ gt ∧ q ≠ gs) (hr : r ≠ g ∧ r ≠ gt ∧ r ≠ gs) (hqr : q ≠ r) (hgs : gs ≠ g) (hS : Rd5 W g gt en s) (hV : Var W q [.int .i64 0]) (hU : Var W r [.int .i64 0])
    (hp : Var W gs [.pointer (some ⟨q, 0, none⟩), .pointer (some ⟨r, 0, none⟩)]) :
    Calls Tryd.prog 43 #[.pointer (some ⟨g, 0, none⟩), .int .i64 lo, .int .i64 hi, .slice (some ⟨gs, 0, none⟩) 2 2] W fun e W' => e = .returned (.tuple #[]) ∧ Rd5 W' g gt en (rd5 en lo hi (rd5 en lo hi s).2).2 ∧ Var W' q [.int .i64 (rd5 en lo hi s).1] ∧ Var W' r [.int .i64 (rd5 en lo hi (rd5 en lo hi s).2).1] ∧ Chg5 (Tg5 g [(q, 0), (r, 0)]) W W' := by
  have h := numbers_l5 W g gt en gs 0 2 s lo hi hlo hh0 hh1 [(q, 0), (r, 0)] (by simp) (by simp [hqr]) (by simp) hgt hgs (fun p hp => by simp at hp; rcases hp with rfl | rfl; exact hq; exact hr) hS (fun j hj => by
    match j, hj with
    | 0, _ => exact ⟨hV.one5, hV.free 0 (by simp)⟩
    | 1, _ => exact ⟨hU.one5, hU.free 0 (by simp)⟩) (fun i hi => by
    match i, hi with
    | 0, _ => exact hp.two.1
    | 1, _ => exact hp.two.2)
  refine Calls.mono (show Calls Tryd.prog 43 #[.pointer (some ⟨g, 0, none⟩), .int .i64 lo, .int .i64 hi, .slice (some ⟨gs, 0, none⟩) 2 2] W _ from h) ?_
  rintro e W' ⟨rfl, h1, h2, h3⟩
  exact ⟨rfl, h1, var1_5 (Nat.lt_of_lt_of_le hV.lt h3.size) (h2 0 (by simp)).1 (h2 0 (by simp)).2, var1_5 (Nat.lt_of_lt_of_le hU.lt h3.size) (h2 1 (by simp)).1 (h2 1 (by simp)).2, h3⟩
def nil5 : Value := .slice none 0 0
/-- poly's variables -/
structure QS5 (w : World) (g gt en : Nat) (x y z : Int) (s : S5) (W : World) : Prop where
  rd : Rd5 W g gt en s
  chg : Chg5 (· = g) w W
  v0 : Var W w.heap.size [.slice none 0 0, .slice none 0 0, .slice none 0 0]
  v1 : Var W (w.heap.size + 1) [.int .i64 x]
  v2 : Var W (w.heap.size + 1 + 1) [.int .i64 y]
  v3 : Var W (w.heap.size + 1 + 1 + 1) [.int .i64 z]
theorem QS5.step {w : World} {g gt en : Nat} {x y z : Int} {s s' : S5} {W W' : World} (h : QS5 w g gt en x y z s W) (hg : g < w.heap.size) (hr : Rd5 W' g gt en s') (hc : Chg5 (· = g) W W') : QS5 w g gt en x y z s' W' :=
  ⟨hr, h.chg.trans hc (fun _ _ h => h), h.v0.chg5 hc (by omega), h.v1.chg5 hc (by omega), h.v2.chg5 hc (by omega), h.v3.chg5 hc (by omega)⟩
theorem QS5.below {w : World} {g gt en : Nat} {x y z : Int} {s : S5} {W W' : World} (h : QS5 w g gt en x y z s W) (hb : Below W.heap.size W W') : QS5 w g gt en x y z s W' :=
  ⟨h.rd.below hb, h.chg.below hb, h.v0.below hb, h.v1.below hb, h.v2.below hb, h.v3.below hb⟩
theorem QS5.one {w : World} {g gt en : Nat} {x y z : Int} {s : S5} {W W' : World} {q : Nat} (h : QS5 w g gt en x y z s W) (hc : Chg5 (· = q) W W') (h1 : q ≠ g) (h2 : q ≠ gt) (h3 : w.heap.size + 1 + 1 + 1 < q) : QS5 w g gt en x y z s W' :=
  ⟨h.rd.chg hc (fun e => h1 e.symm) (fun e => h2 e.symm), h.chg.trans hc (fun k hk e => by omega), h.v0.chg5 hc (by omega), h.v1.chg5 hc (by omega), h.v2.chg5 hc (by omega), h.v3.chg5 hc (by omega)⟩
theorem body_nat5 (en nx ny nz : Nat) (s : S5) : body5 en nx ny nz s = (⟨(rdP5 en (-1048576) 1048576 nx s).1, (rdP5 en 0 ((nx : Int) - 1) ny (rdP5 en (-1048576) 1048576 nx s).2).1, (rdP5 en 0 ((nx : Int) - 1) nz (rdP5 en 0 ((nx : Int) - 1) ny (rdP5 en (-1048576) 1048576 nx s).2).2).1⟩, word5 en [] (rdP5 en 0 ((nx : Int) - 1) nz (rdP5 en 0 ((nx : Int) - 1) ny (rdP5 en (-1048576) 1048576 nx s).2).2).2) := rfl
end Go.Proofs.YtdpbmkfgolemjaaDoor

/-
  The reader of an input's words: contract of poly.
-/
namespace Go.Proofs.YtdpbmkfgolemjaaDoor
open Go.RowKit

set_option maxHeartbeats 16000000 in
set_option maxRecDepth 100000 in
theorem poly_l5 (w : World) (g gt en : Nat) (s : S5) (hgt : gt ≠ g) (hgl : gt < w.heap.size) (hS : Rd5 w g gt en s) :
    Calls Tryd.prog 32 #[.pointer (some ⟨g, 0, none⟩)] w fun e W => ∃ vp vl vi, e = .returned (.agg #[vp, vl, vi]) ∧
      W.ownsRow w.heap.size 43 2 vp (poly5 en s).1.p.length (pv5 (poly5 en s).1.p) ∧ W.ownsRow w.heap.size 62 2 vl (poly5 en s).1.l.length (pv5 (poly5 en s).1.l) ∧ W.ownsRow w.heap.size 62 2 vi (poly5 en s).1.i.length (pv5 (poly5 en s).1.i) ∧
      Rd5 W g gt en (poly5 en s).2 ∧ Chg5 (· = g) w W := by
  have hgw := hS.lt
  have HG := Lib.hid hgt
  have HS := Lib.hid hS
  have CW := Lib.hid (fun W si want (h : Rd5 W g gt en si) => word_l5 W g gt en si want hgt h)
  have C1 := Lib.hid (fun W q gs si (hq : q ≠ g ∧ q ≠ gt ∧ q ≠ gs) (hgs : gs ≠ g) (h : Rd5 W g gt en si) hv hp => num_one5 W g gt en q gs si 0 200 (.inl rfl) (by decide) (by decide) hgt hq hgs h hv hp)
  have C2 := Lib.hid (fun W q r gs si (hq : q ≠ g ∧ q ≠ gt ∧ q ≠ gs) (hr : r ≠ g ∧ r ≠ gt ∧ r ≠ gs) (hqr : q ≠ r) (hgs : gs ≠ g) (h : Rd5 W g gt en si) hv hu hp => num_pair5 W g gt en q r gs si 0 400 (.inl rfl) (by decide) (by decide) hgt hq hr hqr hgs h hv hu hp)
  have CP := Lib.hid (fun W si k hk (hl : gt < W.heap.size) (h : Rd5 W g gt en si) => points_l5 W g gt en si k hk hgt hl h)
  have CS := Lib.hid (fun W si k hk n hn0 hn1 (hl : gt < W.heap.size) (h : Rd5 W g gt en si) => segs_l5 W g gt en si k hk n hn0 hn1 hgt hl h)
  obtain ⟨⟨x, s2⟩, h2⟩ : ∃ q, head5 en s = q := ⟨_, rfl⟩
  obtain ⟨⟨⟨y, z⟩, s3⟩, h3⟩ : ∃ q, two5 en s2 = q := ⟨_, rfl⟩
  obtain ⟨R, h4⟩ : ∃ R, body5 en x y z s3 = R := ⟨_, rfl⟩
  have hR : poly5 en s = R := by unfold poly5; rw [h2]; dsimp only; rw [h3]; exact h4
  rw [hR]
  have hx := head_bounds5 en s
  rw [h2] at hx
  have hyz := two_bounds5 en s2
  rw [h3] at hyz
  dsimp only at hx hyz
  obtain ⟨nx, rfl⟩ : ∃ nx : Nat, x = nx := ⟨x.toNat, by omega⟩
  obtain ⟨ny, rfl⟩ : ∃ ny : Nat, y = ny := ⟨y.toNat, by omega⟩
  obtain ⟨nz, rfl⟩ : ∃ nz : Nat, z = nz := ⟨z.toNat, by omega⟩
  have HX := Lib.hid (And.intro hx hyz)
  rw [body_nat5] at h4
  obtain ⟨⟨P4, s4⟩, hp4⟩ : ∃ q, rdP5 en (-1048576) 1048576 nx s3 = q := ⟨_, rfl⟩
  rw [hp4] at h4
  dsimp only at h4
  obtain ⟨⟨L5, s5⟩, hp5⟩ : ∃ q, rdP5 en 0 ((nx : Int) - 1) ny s4 = q := ⟨_, rfl⟩
  rw [hp5] at h4
  dsimp only at h4
  obtain ⟨⟨I6, s6⟩, hp6⟩ : ∃ q, rdP5 en 0 ((nx : Int) - 1) nz s5 = q := ⟨_, rfl⟩
  rw [hp6] at h4
  dsimp only at h4
  have HP4 := Lib.hid hp4
  have HP5 := Lib.hid hp5
  have HP6 := Lib.hid hp6
  have H2 := Lib.hid h2
  have H3 := Lib.hid h3
  have H4 := Lib.hid h4
  clear h2 h3 h4 hR hx hyz hgt hS hp4 hp5 hp6
  go_enter Tryd.func32, Tryd.ntmps32
  go_wp2_with fail
  have HQ0 : Hid (QS5 w g gt en 0 0 0 s ((((w.alloc (.cells #[.slice none 0 0, .slice none 0 0, .slice none 0 0] 25)).alloc (.cells #[.int .i64 0] 3)).alloc (.cells #[.int .i64 0] 3)).alloc (.cells #[.int .i64 0] 3))) :=
    ⟨HS.out.below (by repeat (first | (with_reducible exact Below.refl _ _) | (with_reducible refine bl_alloc ?_ _) | (with_reducible refine Below.drew ?_) | (with_reducible refine below_drewN' ?_ _) | ((with_reducible refine bl_set ?_ ?_ _); (rotate_left; (dsimp only; omega))))), ((((Chg5.refl _ _).alloc _).alloc _).alloc _).alloc _, (((var3o_new _ _ _ _ _ _ rfl).below (bl_one _ _)).below (bl_one _ _)).below (bl_one _ _),
      ((var1_new5 _ _ _ _ (by simp)).below (bl_one _ _)).below (bl_one _ _), (var1_new5 _ _ _ _ (by simp)).below (bl_one _ _), var1_new5 _ _ _ _ (by simp)⟩
  (with_reducible refine (CW.out _ _ _ HQ0.out.rd).mono ?_)
  rintro e w1 ⟨rfl, hr1, hc1⟩
  have HQ1 : Hid (QS5 w g gt en 0 0 0 (word5 en wPoly5 s) w1) := HQ0.out.step hgw hr1 hc1
  have hs1 : w.heap.size + 1 + 1 + 1 < w1.heap.size := HQ1.out.v3.lt
  clear hr1 hc1 HQ0 HS
  have HC1 := Lib.hid (C1.out (w1.alloc (.cells #[.pointer (some ⟨w.heap.size + 1, 0, none⟩)] 100)) (w.heap.size + 1) w1.heap.size _ ⟨by omega, by omega, by omega⟩ (by omega) (HQ1.out.rd.below (bl_one _ _)) (HQ1.out.v1.below (bl_one _ _)) (var1_new5 _ _ _ _ rfl))
  go_wp2_with fail
  (with_reducible refine HC1.out.mono ?_)
  rintro e w2 ⟨rfl, hr2, hv2, hc2⟩
  have e2 : rd5 en 0 200 (word5 en wPoly5 s) = ((nx : Int), s2) := H2.out
  rw [e2] at hr2 hv2
  have HQ2 : Hid (QS5 w g gt en nx 0 0 s2 w2) := by
    have q := HQ1.out.below (bl_one w1 (.cells #[.pointer (some ⟨w.heap.size + 1, 0, none⟩)] 100))
    have hn : ∀ k, k ≠ g → k ≠ w.heap.size + 1 → ¬ Tg5 g [(w.heap.size + 1, 0)] k := by
      rintro k h1 h2 (h | ⟨p, hp, h⟩)
      · exact h1 h
      · simp at hp; subst hp; exact h2 h
    exact ⟨hr2, q.chg.tg hc2 (by simp), q.v0.chg5 hc2 (hn _ (by omega) (by omega)), hv2, q.v2.chg5 hc2 (hn _ (by omega) (by omega)), q.v3.chg5 hc2 (hn _ (by omega) (by omega))⟩
  have hs2 : w.heap.size + 1 + 1 + 1 < w2.heap.size := HQ2.out.v3.lt
  clear hr2 hv2 hc2 HC1 e2 HQ1 hs1
  have HC2 := Lib.hid (C2.out (w2.alloc (.cells #[.pointer (some ⟨w.heap.size + 1 + 1, 0, none⟩), .pointer (some ⟨w.heap.size + 1 + 1 + 1, 0, none⟩)] 100)) (w.heap.size + 1 + 1) (w.heap.size + 1 + 1 + 1) w2.heap.size _ ⟨by omega, by omega, by omega⟩ ⟨by omega, by omega, by omega⟩ (by omega) (by omega) (HQ2.out.rd.below (bl_one _ _)) (HQ2.out.v2.below (bl_one _ _)) (HQ2.out.v3.below (bl_one _ _)) (var2_new _ _ _ _ _ rfl))
  go_wp2_with fail
  (with_reducible refine HC2.out.mono ?_)
  rintro e w3 ⟨rfl, hr3, hv3, hu3, hc3⟩
  have e3 : ((rd5 en 0 400 s2).1, (rd5 en 0 400 (rd5 en 0 400 s2).2).1) = ((ny : Int), (nz : Int)) ∧ (rd5 en 0 400 (rd5 en 0 400 s2).2).2 = s3 := Prod.mk.injEq .. ▸ H3.out
  obtain ⟨e3a, e3b⟩ := e3
  obtain ⟨e3y, e3z⟩ := Prod.mk.injEq .. ▸ e3a
  rw [e3b] at hr3
  rw [e3y] at hv3
  rw [e3z] at hu3
  have HQ3 : Hid (QS5 w g gt en nx ny nz s3 w3) := by
    have q := HQ2.out.below (bl_one w2 (.cells #[.pointer (some ⟨w.heap.size + 1 + 1, 0, none⟩), .pointer (some ⟨w.heap.size + 1 + 1 + 1, 0, none⟩)] 100))
    have hn : ∀ k, k ≠ g → k ≠ w.heap.size + 1 + 1 → k ≠ w.heap.size + 1 + 1 + 1 → ¬ Tg5 g [(w.heap.size + 1 + 1, 0), (w.heap.size + 1 + 1 + 1, 0)] k := by
      rintro k h1 h2 h3 (h | ⟨p, hp, h⟩)
      · exact h1 h
      · simp at hp
        rcases hp with rfl | rfl
        · exact h2 h
        · exact h3 h
    exact ⟨hr3, q.chg.tg hc3 (by simp; omega), q.v0.chg5 hc3 (hn _ (by omega) (by omega) (by omega)), q.v1.chg5 hc3 (hn _ (by omega) (by omega) (by omega)), hv3, hu3⟩
  have hs3 : w.heap.size + 1 + 1 + 1 < w3.heap.size := HQ3.out.v3.lt
  clear hr3 hv3 hu3 hc3 HC2 e3a e3b e3y e3z HQ2 hs2
  go_upto_region 6 with (fail)
  obtain ⟨q6, hq6⟩ : ∃ q, w3.heap.size = q := ⟨_, rfl⟩
  refine wp_abs (fun V => QS5 w g gt en nx ny nz s3 V ∧ Var V q6 [.slice none 0 0, .slice none 0 0, .slice none 0 0]) ?_ ?_
  · exact ⟨HQ3.out.below (by repeat (first | (with_reducible exact Below.refl _ _) | (with_reducible refine bl_alloc ?_ _) | (with_reducible refine Below.drew ?_) | (with_reducible refine below_drewN' ?_ _) | ((with_reducible refine bl_set ?_ ?_ _); (rotate_left; (dsimp only; omega))))), var3o_new _ _ _ _ _ _ hq6.symm⟩
  rintro W3 hS3
  rw [hq6]
  have hl6 : w.heap.size + 1 + 1 + 1 < q6 := by omega
  have HS3 := Lib.hid hS3
  clear hS3 HQ3 hq6 hs3
  have k1 := HS3.out.1.v1.one5
  have hgW3 : gt < W3.heap.size := Nat.lt_of_lt_of_le hgl HS3.out.1.chg.size
  have HCP := Lib.hid (CP.out W3 s3 nx (by have := HX.out; omega) hgW3 HS3.out.1.rd)
  go_wp2_with fail
  (with_reducible refine HCP.out.mono ?_)
  rintro e w4 ⟨vp, rfl, ho4, hr4, hc4⟩
  rw [HP4.out] at ho4 hr4
  obtain ⟨ap, cp, rfl, -⟩ := own_row5 ho4
  have HQ4 := Lib.hid (HS3.out.1.step hgw hr4 hc4)
  have HV4 := Lib.hid (HS3.out.2.chg5 hc4 (by omega))
  have hq7 : q6 < W3.heap.size := HS3.out.2.lt
  have HO4 := Lib.hid (own_mono5 ho4 (show q6 + 1 ≤ W3.heap.size by omega))
  have hsz4 : W3.heap.size ≤ w4.heap.size := hc4.size
  clear ho4 hr4 hc4 HCP k1 hgW3 HS3
  obtain ⟨n0, n1, n2⟩ := HV4.out.three6
  obtain ⟨f0, f1, f2⟩ := HV4.out.free36
  go_upto_region 7 with (fail)
  refine wp_abs (fun V => QS5 w g gt en nx ny nz s4 V ∧ Var V q6 [(.slice ap P4.length cp), .slice none 0 0, .slice none 0 0] ∧ V.ownsRow (q6 + 1) 43 2 (.slice ap P4.length cp) P4.length (pv5 P4)) ?_ ?_
  · have hc : Chg5 (· = q6) w4 (w4.setCell ⟨q6, 0, none⟩ (.slice ap P4.length cp)) := (Chg5.refl _ _).set _ _ (.inl rfl)
    exact ⟨HQ4.out.one hc (by omega) (by omega) hl6, (HV4.out.put6 (.slice ap P4.length cp)).1, own_below5 HO4.out hc (fun k hk _ => by omega)⟩
  rintro W4 hS4
  have HS4 := Lib.hid hS4
  clear hS4 HQ4 HV4 HO4 n0 n1 n2 f0 f1 f2 hsz4 hq7
  have k1 := HS4.out.1.v1.one5
  have k2 := HS4.out.1.v2.one5
  have hgW4 : gt < W4.heap.size := Nat.lt_of_lt_of_le hgl HS4.out.1.chg.size
  have hw : wrap64 ((nx : Int) - 1) = (nx : Int) - 1 := by have := HX.out; unfold wrap64; omega
  have HCS := Lib.hid (CS.out W4 s4 ny (by have := HX.out; omega) nx (by omega) (by have := HX.out; omega) hgW4 HS4.out.1.rd)
  go_wp2_with fail
  (with_reducible refine HCS.out.mono ?_)
  rintro e w5 ⟨vl, rfl, ho5, hr5, hc5⟩
  rw [HP5.out] at ho5 hr5
  obtain ⟨al, cl, rfl, -⟩ := own_row5 ho5
  have HQ5 := Lib.hid (HS4.out.1.step hgw hr5 hc5)
  have HV5 := Lib.hid (HS4.out.2.1.chg5 hc5 (by omega))
  have hq7 : q6 < W4.heap.size := HS4.out.2.1.lt
  have HO5 := Lib.hid (own_mono5 ho5 (show q6 + 1 ≤ W4.heap.size by omega))
  have HO5p := Lib.hid (own_below5 HS4.out.2.2 hc5 (fun k hk _ => by omega))
  clear ho5 hr5 hc5 HCS k1 k2 hgW4 HS4
  obtain ⟨n0, n1, n2⟩ := HV5.out.three6
  obtain ⟨f0, f1, f2⟩ := HV5.out.free36
  go_upto_region 8 with (fail)
  refine wp_abs (fun V => QS5 w g gt en nx ny nz s5 V ∧ Var V q6 [(.slice ap P4.length cp), (.slice al L5.length cl), .slice none 0 0] ∧ V.ownsRow (q6 + 1) 43 2 (.slice ap P4.length cp) P4.length (pv5 P4) ∧ V.ownsRow (q6 + 1) 62 2 (.slice al L5.length cl) L5.length (pv5 L5)) ?_ ?_
  · have hc : Chg5 (· = q6) w5 (w5.setCell ⟨q6, 1, none⟩ (.slice al L5.length cl)) := (Chg5.refl _ _).set _ _ (.inl rfl)
    exact ⟨HQ5.out.one hc (by omega) (by omega) hl6, (HV5.out.put6 (.slice al L5.length cl)).2.1, own_below5 HO5p.out hc (fun k hk _ => by omega), own_below5 HO5.out hc (fun k hk _ => by omega)⟩
  rintro W5 hS5
  have HS5 := Lib.hid hS5
  clear hS5 HQ5 HV5 HO5 HO5p n0 n1 n2 f0 f1 f2 hq7
  have k1 := HS5.out.1.v1.one5
  have k2 := HS5.out.1.v3.one5
  have hgW5 : gt < W5.heap.size := Nat.lt_of_lt_of_le hgl HS5.out.1.chg.size
  have HCS := Lib.hid (CS.out W5 s5 nz (by have := HX.out; omega) nx (by omega) (by have := HX.out; omega) hgW5 HS5.out.1.rd)
  go_wp2_with fail
  (with_reducible refine HCS.out.mono ?_)
  rintro e w6 ⟨vi, rfl, ho6, hr6, hc6⟩
  rw [HP6.out] at ho6 hr6
  obtain ⟨ai, ci, rfl, -⟩ := own_row5 ho6
  have HQ6 := Lib.hid (HS5.out.1.step hgw hr6 hc6)
  have HV6 := Lib.hid (HS5.out.2.1.chg5 hc6 (by omega))
  have hq7 : q6 < W5.heap.size := HS5.out.2.1.lt
  have HO6 := Lib.hid (own_mono5 ho6 (show q6 + 1 ≤ W5.heap.size by omega))
  have HO6p := Lib.hid (own_below5 HS5.out.2.2.1 hc6 (fun k hk _ => by omega))
  have HO6l := Lib.hid (own_below5 HS5.out.2.2.2 hc6 (fun k hk _ => by omega))
  clear ho6 hr6 hc6 HCS k1 k2 hgW5 HS5
  obtain ⟨n0, n1, n2⟩ := HV6.out.three6
  obtain ⟨f0, f1, f2⟩ := HV6.out.free36
  go_upto_region 9 with (fail)
  refine wp_abs (fun V => QS5 w g gt en nx ny nz s6 V ∧ Var V q6 [(.slice ap P4.length cp), (.slice al L5.length cl), (.slice ai I6.length ci)] ∧ V.ownsRow (q6 + 1) 43 2 (.slice ap P4.length cp) P4.length (pv5 P4) ∧ V.ownsRow (q6 + 1) 62 2 (.slice al L5.length cl) L5.length (pv5 L5) ∧ V.ownsRow (q6 + 1) 62 2 (.slice ai I6.length ci) I6.length (pv5 I6)) ?_ ?_
  · have hc : Chg5 (· = q6) w6 (w6.setCell ⟨q6, 2, none⟩ (.slice ai I6.length ci)) := (Chg5.refl _ _).set _ _ (.inl rfl)
    exact ⟨HQ6.out.one hc (by omega) (by omega) hl6, (HV6.out.put6 (.slice ai I6.length ci)).2.2, own_below5 HO6p.out hc (fun k hk _ => by omega), own_below5 HO6l.out hc (fun k hk _ => by omega), own_below5 HO6.out hc (fun k hk _ => by omega)⟩
  rintro W6 hS6
  have HS6 := Lib.hid hS6
  clear hS6 HQ6 HV6 HO6 HO6p HO6l n0 n1 n2 f0 f1 f2 hq7
  go_wp2_with fail
  (with_reducible refine (CW.out _ _ _ HS6.out.1.rd).mono ?_)
  rintro e w7 ⟨rfl, hr7, hc7⟩
  have HQ7 := Lib.hid (HS6.out.1.step hgw hr7 hc7)
  have HV7 := Lib.hid (HS6.out.2.1.chg5 hc7 (by omega))
  have HO7p := Lib.hid (own_below5 HS6.out.2.2.1 hc7 (fun k hk _ => by omega))
  have HO7l := Lib.hid (own_below5 HS6.out.2.2.2.1 hc7 (fun k hk _ => by omega))
  have HO7i := Lib.hid (own_below5 HS6.out.2.2.2.2 hc7 (fun k hk _ => by omega))
  clear hr7 hc7 HS6
  obtain ⟨n0, n1, n2⟩ := HV7.out.three6
  obtain ⟨d0, d1, d2⟩ := HQ7.out.v0.three6
  obtain ⟨f0, f1, f2⟩ := HQ7.out.v0.free36
  go_wp2_with fail
  obtain ⟨e0, e1, e2⟩ := (HQ7.out.v0.set3_6 (.slice ap P4.length cp) (.slice al L5.length cl) (.slice ai I6.length ci)).three6
  have hc : Chg5 (· = w.heap.size) w7 (((w7.setCell ⟨w.heap.size, 0, none⟩ (.slice ap P4.length cp)).setCell ⟨w.heap.size, 1, none⟩ (.slice al L5.length cl)).setCell ⟨w.heap.size, 2, none⟩ (.slice ai I6.length ci)) := by
    refine Chg5.set ?_ _ _ (.inl rfl)
    refine Chg5.set ?_ _ _ (.inl rfl)
    refine Chg5.set ?_ _ _ (.inl rfl)
    exact Chg5.refl _ _
  have h4 := H4.out
  subst h4
  refine bodyPost_ret (v := .agg #[.slice ap P4.length cp, .slice al L5.length cl, .slice ai I6.length ci]) (by simp [results, Tryd.results32, go_sem, e0, e1, e2]; done) rfl ⟨_, _, _, rfl, ?_, ?_, ?_, ?_, ?_⟩
  · exact own_mono5 (own_below5 HO7p.out hc (fun k hk _ => by omega)) (by omega)
  · exact own_mono5 (own_below5 HO7l.out hc (fun k hk _ => by omega)) (by omega)
  · exact own_mono5 (own_below5 HO7i.out hc (fun k hk _ => by omega)) (by omega)
  · exact HQ7.out.rd.chg hc (by omega) (by omega)
  · exact HQ7.out.chg.trans hc (fun k hk e => by omega)
end Go.Proofs.YtdpbmkfgolemjaaDoor

/-
  Contract of input.Parse.
-/
namespace Go.Proofs.YtdpbmkfgolemjaaDoor
open Go.RowKit

def prog5 (s : ByteArray) : Q5 × Int × Int := if (poly5 s.size ⟨wordsOf s, 0, 0⟩).2.e ≠ 0 then (⟨[], [], []⟩, (poly5 s.size ⟨wordsOf s, 0, 0⟩).2.at', (poly5 s.size ⟨wordsOf s, 0, 0⟩).2.e) else ((poly5 s.size ⟨wordsOf s, 0, 0⟩).1, 0, 0)
def AE5 (V : World) (g : Nat) (a e : Int) : Prop := V.cell? ⟨g, 2, none⟩ = some (.int .i64 a) ∧ V.cell? ⟨g, 3, none⟩ = some (.int .i64 e)
theorem AE5.below {V V' : World} {g : Nat} {a e : Int} (h : AE5 V g a e) (hb : Below V.heap.size V V') : AE5 V' g a e := ⟨(hb.cell (cell_lt h.1)).trans h.1, (hb.cell (cell_lt h.2)).trans h.2⟩
theorem AE5.far {V : World} {g : Nat} {a e : Int} (h : AE5 V g a e) {p : Addr} (hp : p.block ≠ g) (u : Value) : AE5 (V.setCell p u) g a e := ⟨(World.cell?_setCell_far _ _ _ _ hp).trans h.1, (World.cell?_setCell_far _ _ _ _ hp).trans h.2⟩
theorem tok_rd5 {w : World} {B : Nat} {v : Value} {s : ByteArray} (h : w.ownsRow B 51 2 v (toks (nums s)).length (tokVals s (toks (nums s)))) (hw : ∀ x ∈ wordsOf s, x.2.size ≤ 10000) :
    (v = .slice none 0 0 ∧ wordsOf s = []) ∨ ∃ gt cap, v = .slice (some ⟨gt, 0, none⟩) (wordsOf s).length cap ∧ B ≤ gt ∧ gt < w.heap.size ∧ (wordsOf s).length ≤ cap ∧
      ∀ i (h : i < (wordsOf s).length), ∃ o, some (⟨gt, 0, none⟩ : Addr) = some ⟨gt, o, none⟩ ∧ w.cell? ⟨gt, o + i * 2, none⟩ = some (.int .i64 ((wordsOf s)[i].1 : Int)) ∧ w.cell? ⟨gt, o + i * 2 + 1, none⟩ = some (.string (wordsOf s)[i].2) ∧ (wordsOf s)[i].2.size ≤ 10000 := by
  have hl : (wordsOf s).length = (toks (nums s)).length := by simp [wordsOf]
  rcases h.2 with ⟨rfl, hn⟩ | ⟨g, cap, cur, rfl, hb0, hcu, hcap, rest⟩
  · left
    refine ⟨rfl, ?_⟩
    rw [← List.length_eq_zero_iff, hl]
    exact hn
  · right
    refine ⟨g, cap, by rw [hl], hb0, (Array.getElem?_eq_some_iff.1 hcu).1, by rw [hl]; exact hcap, fun i hi => ⟨0, rfl, ?_, ?_, hw _ (List.getElem_mem hi)⟩⟩
    · obtain ⟨e1, e2⟩ := tokVals_get s (toks (nums s)) i (by omega)
      rw [Nat.zero_add, h.cellAt (i * 2) (by omega), e1]
      simp [wordsOf]
    · obtain ⟨e1, e2⟩ := tokVals_get s (toks (nums s)) i (by omega)
      rw [Nat.zero_add, h.cellAt (i * 2 + 1) (by omega), e2]
      simp [wordsOf]
theorem var4o_new5 (W : World) (a b c d : Value) (t : TypeId) (g : Nat) (hg : g = W.heap.size) : Var (W.alloc (.cells #[a, b, c, d] t)) g [a, b, c, d] := by
  subst hg
  refine ⟨by simp, fun i hi => ?_, fun i hi => ?_⟩
  · match i, hi with
    | 0, _ => simp [go_sem]
    | 1, _ => simp [go_sem]
    | 2, _ => simp [go_sem]
    | 3, _ => simp [go_sem]
  · match i, hi with
    | 0, _ => simp [go_sem]
    | 1, _ => simp [go_sem]
    | 2, _ => simp [go_sem]
    | 3, _ => simp [go_sem]
set_option maxHeartbeats 16000000 in
set_option maxRecDepth 100000 in
theorem parse5_l (s : ByteArray) (hs : s.size ≤ 1000000) (htl : (wordsOf s).length ≤ 20000) (hw : ∀ x ∈ wordsOf s, x.2.size ≤ 10000) (ad : Option Addr) (cap : Nat) (w : World) (hB : BytesIn w ad s) :
    Calls Tryd.prog 18 #[.slice ad s.size cap] w fun e W => ∃ vp vl vi, e = .returned (.tuple #[.agg #[vp, vl, vi], .int .i64 (prog5 s).2.1, .int .i64 (prog5 s).2.2]) ∧
      W.ownsRow w.heap.size 43 2 vp (prog5 s).1.p.length (pv5 (prog5 s).1.p) ∧ W.ownsRow w.heap.size 62 2 vl (prog5 s).1.l.length (pv5 (prog5 s).1.l) ∧ W.ownsRow w.heap.size 62 2 vi (prog5 s).1.i.length (pv5 (prog5 s).1.i) ∧ Below w.heap.size w W := by
  have HB := Lib.hid hB
  have HW := Lib.hid hw
  have HL := Lib.hid htl
  obtain ⟨Q, hQ⟩ : ∃ Q, poly5 s.size ⟨wordsOf s, 0, 0⟩ = Q := ⟨_, rfl⟩
  obtain ⟨R, hR⟩ : ∃ R, prog5 s = R := ⟨_, rfl⟩
  rw [hR]
  unfold prog5 at hR
  rw [hQ] at hR
  have HQ := Lib.hid hQ
  have HR := Lib.hid hR
  clear hQ hR hw htl hB
  go_enter Tryd.func18, Tryd.ntmps18
  go_upto_region 1 with (fail)
  obtain ⟨gr, hgr⟩ : ∃ gr, w.heap.size = gr := ⟨_, rfl⟩
  refine wp_abs (fun V => Below w.heap.size w V ∧ Var V gr [.slice none 0 0, .slice none 0 0, .slice none 0 0]) ?_ ?_
  · exact ⟨by repeat (first | (with_reducible exact Below.refl _ _) | (with_reducible refine bl_alloc ?_ _) | (with_reducible refine Below.drew ?_) | (with_reducible refine below_drewN' ?_ _) | ((with_reducible refine bl_set ?_ ?_ _); (rotate_left; (dsimp only; omega)))), var3o_new _ _ _ _ _ _ hgr.symm⟩
  rintro W0 hS0
  have HGR : Hid (gr = w.heap.size) := hgr.symm
  have HS0 := Lib.hid hS0
  clear hS0
  have HA := Lib.hid (all_c ad s.size cap s rfl (by omega) W0 (text_of (HB.out.below HS0.out.1)))
  try rw [hgr]
  clear hgr
  go_wp2_with fail
  (with_reducible refine HA.out.mono ?_); rintro e w1 ⟨v, rfl, hown, hnil, hb1⟩
  have hv1 := HS0.out.2.lt
  have hsz1 := hb1.size
  obtain ⟨ad1, cap1, gt, rfl, hc1, hgt0, hgt1, H4⟩ : ∃ ad1 cap1 gt, v = .slice ad1 (wordsOf s).length cap1 ∧ (wordsOf s).length ≤ cap1 ∧ gr ≤ gt ∧ gt < w1.heap.size ∧ ∀ i (h : i < (wordsOf s).length), ∃ o, ad1 = some ⟨gt, o, none⟩ ∧ w1.cell? ⟨gt, o + i * 2, none⟩ = some (.int .i64 ((wordsOf s)[i].1 : Int)) ∧ w1.cell? ⟨gt, o + i * 2 + 1, none⟩ = some (.string (wordsOf s)[i].2) ∧ (wordsOf s)[i].2.size ≤ 10000 := by
    rcases tok_rd5 hown HW.out with ⟨rfl, he⟩ | ⟨gt, cap1, rfl, h1, h2, h3, h4⟩
    · exact ⟨none, 0, gr, by rw [he]; rfl, by rw [he]; exact Nat.le_refl _, Nat.le_refl _, by omega, fun i hi => by rw [he] at hi; exact absurd hi (Nat.not_lt_zero _)⟩
    · exact ⟨_, cap1, gt, rfl, h3, by omega, h2, h4⟩
  have HH4 := Lib.hid H4
  have HV1 := Lib.hid (HS0.out.2.below hb1)
  have HB1 := Lib.hid (bl_trans HS0.out.1 hb1)
  clear H4 hown hnil hb1 HA HS0 hsz1
  go_upto_region 5 with (fail)
  obtain ⟨g, hg⟩ : ∃ g, w1.heap.size = g := ⟨_, rfl⟩
  refine wp_abs (fun V => Below w.heap.size w V ∧ Var V gr [.slice none 0 0, .slice none 0 0, .slice none 0 0] ∧ Rd5 V g gt s.size ⟨wordsOf s, 0, 0⟩) ?_ ?_
  · refine ⟨bl_trans HB1.out (by repeat (first | (with_reducible exact Below.refl _ _) | (with_reducible refine bl_alloc ?_ _) | (with_reducible refine Below.drew ?_) | (with_reducible refine below_drewN' ?_ _) | ((with_reducible refine bl_set ?_ ?_ _); (rotate_left; (dsimp only; omega))))), HV1.out.below (by repeat (first | (with_reducible exact Below.refl _ _) | (with_reducible refine bl_alloc ?_ _) | (with_reducible refine Below.drew ?_) | (with_reducible refine below_drewN' ?_ _) | ((with_reducible refine bl_set ?_ ?_ _); (rotate_left; (dsimp only; omega))))), ad1, cap1, var4o_new5 _ _ _ _ _ _ _ hg.symm, hc1, HL.out, fun i hi => ?_⟩
    obtain ⟨o, e, c0, c1, c2⟩ := HH4.out i hi
    exact ⟨o, e, ((bl_one _ _).cell (cell_lt c0)).trans c0, ((bl_one _ _).cell (cell_lt c1)).trans c1, c2⟩
  rintro W1 hS1
  rw [hg]
  have hgg : gt < g ∧ gr ≤ gt ∧ gr < g := by have := HV1.out.lt; omega
  have HS1 := Lib.hid hS1
  have HGG := Lib.hid hgg
  clear hS1 HV1 HB1 HH4 hg hgt0 hgt1 hv1 hc1
  have HP := Lib.hid (poly_l5 W1 g gt s.size ⟨wordsOf s, 0, 0⟩ (by omega) (by have := HS1.out.2.2.lt; omega) HS1.out.2.2)
  clear hgg
  rw [HQ.out] at HP
  go_wp2_with fail
  (with_reducible refine HP.out.mono ?_); rintro e w2 ⟨vp, vl, vi, rfl, ho1, ho2, ho3, hr2, hc2⟩
  obtain ⟨ap, cp, rfl, -⟩ := own_row5 ho1
  obtain ⟨al, cl, rfl, -⟩ := own_row5 ho2
  obtain ⟨ai, ci, rfl, -⟩ := own_row5 ho3
  have hsw : w.heap.size ≤ W1.heap.size := HS1.out.1.size
  have hg1 : gr + 1 ≤ W1.heap.size := HS1.out.2.1.lt
  have HO1 := Lib.hid (own_mono5 ho1 hg1)
  have HO2 := Lib.hid (own_mono5 ho2 hg1)
  have HO3 := Lib.hid (own_mono5 ho3 hg1)
  have HV2 := Lib.hid (HS1.out.2.1.chg5 hc2 (by have := HGG.out; omega))
  have HB2 : Hid (Below w.heap.size w w2) := HS1.out.1.trans (hc2.toBelow hsw (fun k hk e => by have := HGG.out; have := HGR.out; omega))
  have HAE : Hid (AE5 w2 g Q.2.at' Q.2.e) := hr2.open
  clear ho1 ho2 ho3 hr2 hc2 HP HS1 hg1
  go_upto_region 6 with (fail)
  obtain ⟨q, hq⟩ : ∃ q, w2.heap.size = q := ⟨_, rfl⟩
  refine wp_abs (fun V => (Below w.heap.size w V ∧ Var V gr [.slice none 0 0, .slice none 0 0, .slice none 0 0] ∧ AE5 V g Q.2.at' Q.2.e) ∧ Var V q [.slice ap Q.1.p.length cp, .slice al Q.1.l.length cl, .slice ai Q.1.i.length ci] ∧
    V.ownsRow (gr + 1) 43 2 (.slice ap Q.1.p.length cp) Q.1.p.length (pv5 Q.1.p) ∧ V.ownsRow (gr + 1) 62 2 (.slice al Q.1.l.length cl) Q.1.l.length (pv5 Q.1.l) ∧ V.ownsRow (gr + 1) 62 2 (.slice ai Q.1.i.length ci) Q.1.i.length (pv5 Q.1.i)) ?_ ?_
  · exact ⟨⟨bl_trans HB2.out (by repeat (first | (with_reducible exact Below.refl _ _) | (with_reducible refine bl_alloc ?_ _) | (with_reducible refine Below.drew ?_) | (with_reducible refine below_drewN' ?_ _) | ((with_reducible refine bl_set ?_ ?_ _); (rotate_left; (dsimp only; omega))))), HV2.out.below (by repeat (first | (with_reducible exact Below.refl _ _) | (with_reducible refine bl_alloc ?_ _) | (with_reducible refine Below.drew ?_) | (with_reducible refine below_drewN' ?_ _) | ((with_reducible refine bl_set ?_ ?_ _); (rotate_left; (dsimp only; omega))))), HAE.out.below (by repeat (first | (with_reducible exact Below.refl _ _) | (with_reducible refine bl_alloc ?_ _) | (with_reducible refine Below.drew ?_) | (with_reducible refine below_drewN' ?_ _) | ((with_reducible refine bl_set ?_ ?_ _); (rotate_left; (dsimp only; omega)))))⟩, var3o_new _ _ _ _ _ _ hq.symm, HO1.out.alloc _, HO2.out.alloc _, HO3.out.alloc _⟩
  rintro W2 hS2
  rw [hq]
  have HQG : Hid (gr < q) := by have := HV2.out.lt; unfold Hid; omega
  have HS2 := Lib.hid hS2
  clear hS2 HV2 HB2 HAE HO1 HO2 HO3 hq
  obtain ⟨c2, c3⟩ := HS2.out.1.2.2
  by_cases he : Q.2.e = 0
  · obtain rfl : R = (Q.1, 0, 0) := by rw [← HR.out, if_neg (fun h => h he)]
    rw [he] at c3
    obtain ⟨d0, d1, d2⟩ := HS2.out.2.1.three6
    obtain ⟨f0, f1, f2⟩ := HS2.out.1.2.1.free36
    obtain ⟨n0, n1, n2⟩ := HS2.out.1.2.1.three6
    go_wp2_with fail
    obtain ⟨e0, e1, e2⟩ := (HS2.out.1.2.1.set3_6 (.slice ap Q.1.p.length cp) (.slice al Q.1.l.length cl) (.slice ai Q.1.i.length ci)).three6
    have hc : Chg5 (· = gr) W2 (((W2.setCell ⟨gr, 0, none⟩ (.slice ap Q.1.p.length cp)).setCell ⟨gr, 1, none⟩ (.slice al Q.1.l.length cl)).setCell ⟨gr, 2, none⟩ (.slice ai Q.1.i.length ci)) := by
      refine Chg5.set ?_ _ _ (.inl rfl)
      refine Chg5.set ?_ _ _ (.inl rfl)
      refine Chg5.set ?_ _ _ (.inl rfl)
      exact Chg5.refl _ _
    refine bodyPost_ret (v := .tuple #[.agg #[.slice ap Q.1.p.length cp, .slice al Q.1.l.length cl, .slice ai Q.1.i.length ci], .int .i64 0, .int .i64 0]) (by simp [results, Tryd.results18, go_sem, e0, e1, e2]; done) rfl ⟨_, _, _, rfl, ?_, ?_, ?_, ?_⟩
    · exact own_mono5 (own_below5 HS2.out.2.2.1 hc (fun k hk _ => by omega)) (by have := HGR.out; omega)
    · exact own_mono5 (own_below5 HS2.out.2.2.2.1 hc (fun k hk _ => by omega)) (by have := HGR.out; omega)
    · exact own_mono5 (own_below5 HS2.out.2.2.2.2 hc (fun k hk _ => by omega)) (by have := HGR.out; omega)
    · exact bl_set (bl_set (bl_set HS2.out.1.1 (by dsimp only; have := HGR.out; omega) _) (by dsimp only; have := HGR.out; omega) _) (by dsimp only; have := HGR.out; omega) _
  · have b1 : (Q.2.e != 0) = true := bne_iff_ne.2 he
    have b2 : (Q.2.e = 0) = False := eq_false he
    obtain rfl : R = (⟨[], [], []⟩, Q.2.at', Q.2.e) := by rw [← HR.out, if_pos he]
    have HS0 := Lib.hid HS2.out.1
    clear HS2 HR he
    go_upto_region 7 with (fail)
    refine wp_region_held_drew (S := fun V => Below w.heap.size w V ∧ Var V gr [.slice none 0 0, .slice none 0 0, .slice none 0 0] ∧ AE5 V g Q.2.at' Q.2.e) (by kernel_rfl) ?_ (fun hHeld => ?_)
    · exact ⟨bl_trans HS0.out.1 (bel_drew _), HS0.out.2.1.below (bel_drew _), HS0.out.2.2.below (bel_drew _)⟩
    revert hHeld
    generalize World.drew _ = W1
    intro hHeld 
    refine wpAnyH_take (i := 0) (v := ?_) rfl (by kernel_rfl) (by kernel_rfl) (by kernel_rfl) (fun _ _ _ h => h) (Or.inl ⟨by rfl, ?_⟩) (by assumption) ?_
    rotate_left
    · intro Wq hSw
      clear hSw
      go_simp
      all_goals (with_reducible rfl)
    try simp only [Act.put, List.getElem_toArray, List.getElem_cons_zero, List.setIfInBounds_toArray, List.set_cons_zero, List.set_cons_succ]
    refine wpAnyH_take (i := 1) (v := ?_) rfl (by kernel_rfl) (by kernel_rfl) (by kernel_rfl) (fun _ _ _ h => h) (Or.inl ⟨by rfl, ?_⟩) (by assumption) ?_
    rotate_left
    · intro Wq hSw
      clear hSw
      go_simp
      all_goals (with_reducible rfl)
    try simp only [Act.put, List.getElem_toArray, List.getElem_cons_succ, List.getElem_cons_zero, List.setIfInBounds_toArray, List.set_cons_zero, List.set_cons_succ]
    refine wpAnyH_take (i := 2) (v := ?_) rfl (by kernel_rfl) (by kernel_rfl) (by kernel_rfl) (fun _ _ _ h => h) (Or.inl ⟨by rfl, ?_⟩) (by assumption) ?_
    rotate_left
    · intro Wq hSw
      obtain ⟨c2, c3⟩ := hSw.2.2
      clear hSw
      go_simp
      all_goals (with_reducible rfl)
    try simp only [Act.put, List.getElem_toArray, List.getElem_cons_succ, List.getElem_cons_zero, List.setIfInBounds_toArray, List.set_cons_zero, List.set_cons_succ]
    refine wpAnyH_take (i := 3) (v := ?_) rfl (by kernel_rfl) (by kernel_rfl) (by kernel_rfl) (fun _ _ _ h => h) (Or.inl ⟨by rfl, ?_⟩) (by assumption) ?_
    rotate_left
    · intro Wq hSw
      clear hSw
      go_simp
      all_goals (with_reducible rfl)
    try simp only [Act.put, List.getElem_toArray, List.getElem_cons_succ, List.getElem_cons_zero, List.setIfInBounds_toArray, List.set_cons_zero, List.set_cons_succ]
    refine wpAnyH_take (i := 4) (v := ?_) rfl (by kernel_rfl) (by kernel_rfl) (by kernel_rfl) (fun _ _ _ h => h) (Or.inl ⟨by rfl, ?_⟩) (by assumption) ?_
    rotate_left
    · intro Wq hSw
      obtain ⟨c2, c3⟩ := hSw.2.2
      clear hSw
      go_simp
      all_goals (with_reducible rfl)
    try simp only [Act.put, List.getElem_toArray, List.getElem_cons_succ, List.getElem_cons_zero, List.setIfInBounds_toArray, List.set_cons_zero, List.set_cons_succ]
    refine r1 (i := 5) rfl (fun K hK => ?_)
    obtain ⟨d0, d1, d2⟩ := hHeld.2.1.three6
    obtain ⟨f0, f1, f2⟩ := hHeld.2.1.free36
    go_simp
    refine hK.out _ _ ⟨bl_set (bl_set (bl_set hHeld.1 (by dsimp only; have := HGR.out; omega) _) (by dsimp only; have := HGR.out; omega) _) (by dsimp only; have := HGR.out; omega) _, hHeld.2.1.set3_6 _ _ _, ((hHeld.2.2.far (by dsimp only; have := HGG.out; omega) _).far (by dsimp only; have := HGG.out; omega) _).far (by dsimp only; have := HGG.out; omega) _⟩ (fun hHeld2 => ?_)
    clear hK K hHeld d0 d1 d2 f0 f1 f2
    have hHeld := hHeld2
    clear hHeld2
    try simp only [Act.put, List.getElem_toArray, List.getElem_cons_succ, List.getElem_cons_zero, List.setIfInBounds_toArray, List.set_cons_zero, List.set_cons_succ]
    refine wpAnyH_take (i := 6) (v := ?_) rfl (by kernel_rfl) (by kernel_rfl) (by kernel_rfl) (fun _ _ _ h => h) (Or.inl ⟨by rfl, ?_⟩) (by assumption) ?_
    rotate_left
    · intro Wq hSw
      clear hSw
      go_simp
      all_goals (with_reducible rfl)
    try simp only [Act.put, List.getElem_toArray, List.getElem_cons_succ, List.getElem_cons_zero, List.setIfInBounds_toArray, List.set_cons_zero, List.set_cons_succ]
    refine wpAnyH_take (i := 7) (v := ?_) rfl (by kernel_rfl) (by kernel_rfl) (by kernel_rfl) (fun _ _ _ h => h) (Or.inl ⟨by rfl, ?_⟩) (by assumption) ?_
    rotate_left
    · intro Wq hSw
      clear hSw
      go_simp
      all_goals (with_reducible rfl)
    try simp only [Act.put, List.getElem_toArray, List.getElem_cons_succ, List.getElem_cons_zero, List.setIfInBounds_toArray, List.set_cons_zero, List.set_cons_succ]
    refine wpAnyH_done (by kernel_rfl) ?_ _
    go_wp2_with fail
    obtain ⟨e0, e1, e2⟩ := hHeld.2.1.three6
    refine bodyPost_ret (v := .tuple #[.agg #[.slice none 0 0, .slice none 0 0, .slice none 0 0], .int .i64 Q.2.at', .int .i64 Q.2.e]) (by simp [results, Tryd.results18, go_sem, e0, e1, e2]; done) rfl ⟨_, _, _, rfl, World.ownsRow_nil _ _ _ _, World.ownsRow_nil _ _ _ _, World.ownsRow_nil _ _ _ _, hHeld.1⟩
end Go.Proofs.YtdpbmkfgolemjaaDoor
