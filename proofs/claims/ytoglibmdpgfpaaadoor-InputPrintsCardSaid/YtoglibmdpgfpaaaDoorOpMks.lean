/-
  Sets of options, and Make.
-/
import Derived.Test.YtoglibmdpgfpaaaDoorOpRds
import Derived.Lib.SlBytesConst
import Derived.Test.YtoglibmdpgfpaaaDoorOpAll
set_option linter.unusedVariables false
set_option linter.unusedSimpArgs false
set_option linter.deprecated false
namespace Go.Proofs.YtoglibmdpgfpaaaDoor
open Go.RowKit

theorem Var.belowB6 {W W' : World} {g B : Nat} {vs : List Value} (h : Var W g vs) (hb : Below B W W') (hg : g < B) : Var W' g vs :=
  ⟨Nat.lt_of_lt_of_le h.lt hb.size, fun i hi => (hb.cell (p := ⟨g, i, none⟩) hg).trans (h.cells i hi), fun i hi => (hb.frozen (p := ⟨g, i, none⟩) hg).trans (h.free i hi)⟩
/-- what is set -/
inductive St6 where
  | mode (n : Int)
  | budget (n : Int)
  | refine (r : Bool)
  | no
structure Op6 where
  m : Int
  b : Int
  r : Bool
def Op6.vals (o : Op6) : List Value := [.int .i64 o.m, .int .i64 o.b, .bool o.r]
def St6.on : St6 → Op6 → Op6
  | .mode n, o => ⟨n, o.b, o.r⟩
  | .budget n, o => ⟨o.m, n, o.r⟩
  | .refine r, o => ⟨o.m, o.b, r⟩
  | .no, o => o
def St6.fn : St6 → Nat
  | .mode _ => 73
  | .budget _ => 61
  | _ => 78
def St6.val : St6 → Value
  | .mode n => .int .i64 n
  | .budget n => .int .i64 n
  | .refine r => .bool r
  | .no => .bool false
/-- a function value that sets -/
def StV6 (W : World) (v : Value) : St6 → Prop
  | .no => v = .nilFunc
  | s => ∃ p q, v = .func (.func 79) #[] #[.pointer (some ⟨p, 0, none⟩)] ∧ W.cell? ⟨p, 0, none⟩ = some (.func (.func s.fn) #[] #[.pointer (some ⟨q, 0, none⟩)]) ∧ W.cell? ⟨q, 0, none⟩ = some s.val
theorem StV6.below {W W' : World} {v : Value} {s : St6} (h : StV6 W v s) (hb : Below W.heap.size W W') : StV6 W' v s := by
  cases s with
  | no => exact h
  | mode n => obtain ⟨p, q, e, h1, h2⟩ := h; exact ⟨p, q, e, (hb.cell (cell_lt h1)).trans h1, (hb.cell (cell_lt h2)).trans h2⟩
  | budget n => obtain ⟨p, q, e, h1, h2⟩ := h; exact ⟨p, q, e, (hb.cell (cell_lt h1)).trans h1, (hb.cell (cell_lt h2)).trans h2⟩
  | refine n => obtain ⟨p, q, e, h1, h2⟩ := h; exact ⟨p, q, e, (hb.cell (cell_lt h1)).trans h1, (hb.cell (cell_lt h2)).trans h2⟩
set_option maxHeartbeats 4000000 in
set_option maxRecDepth 100000 in
theorem mode1_l (n : Int) (go q : Nat) (o : Op6) (W : World) (hV : Var W go o.vals) (hq : W.cell? ⟨q, 0, none⟩ = some (.int .i64 n)) :
    Calls Tryd.prog 73 #[.pointer (some ⟨go, 0, none⟩), .pointer (some ⟨q, 0, none⟩)] W fun e W' => e = .returned (.tuple #[]) ∧ W' = W.setCell ⟨go, 0, none⟩ (.int .i64 n) := by
  obtain ⟨o0, o1, o2⟩ := (show Var W go [_, _, _] from hV).three6
  obtain ⟨p0, p1, p2⟩ := (show Var W go [_, _, _] from hV).free36
  clear hV
  go_enter Tryd.func73, Tryd.ntmps73
  go_wp2
  go_end0
  exact ⟨rfl, rfl⟩
set_option maxHeartbeats 4000000 in
set_option maxRecDepth 100000 in
theorem budget1_l (n : Int) (go q : Nat) (o : Op6) (W : World) (hV : Var W go o.vals) (hq : W.cell? ⟨q, 0, none⟩ = some (.int .i64 n)) :
    Calls Tryd.prog 61 #[.pointer (some ⟨go, 0, none⟩), .pointer (some ⟨q, 0, none⟩)] W fun e W' => e = .returned (.tuple #[]) ∧ W' = W.setCell ⟨go, 1, none⟩ (.int .i64 n) := by
  obtain ⟨o0, o1, o2⟩ := (show Var W go [_, _, _] from hV).three6
  obtain ⟨p0, p1, p2⟩ := (show Var W go [_, _, _] from hV).free36
  clear hV
  go_enter Tryd.func61, Tryd.ntmps61
  go_wp2
  go_end0
  exact ⟨rfl, rfl⟩
set_option maxHeartbeats 4000000 in
set_option maxRecDepth 100000 in
theorem refine1_l (n : Bool) (go q : Nat) (o : Op6) (W : World) (hV : Var W go o.vals) (hq : W.cell? ⟨q, 0, none⟩ = some (.bool n)) :
    Calls Tryd.prog 78 #[.pointer (some ⟨go, 0, none⟩), .pointer (some ⟨q, 0, none⟩)] W fun e W' => e = .returned (.tuple #[]) ∧ W' = W.setCell ⟨go, 2, none⟩ (.bool n) := by
  obtain ⟨o0, o1, o2⟩ := (show Var W go [_, _, _] from hV).three6
  obtain ⟨p0, p1, p2⟩ := (show Var W go [_, _, _] from hV).free36
  clear hV
  go_enter Tryd.func78, Tryd.ntmps78
  go_wp2
  go_end0
  exact ⟨rfl, rfl⟩
/-- whatever is set: the three in one form -/
theorem step1_l (s : St6) (hs : s ≠ .no) (go q : Nat) (o : Op6) (W : World) (hV : Var W go o.vals) (hq : W.cell? ⟨q, 0, none⟩ = some s.val) :
    Calls Tryd.prog s.fn #[.pointer (some ⟨go, 0, none⟩), .pointer (some ⟨q, 0, none⟩)] W fun e W' => e = .returned (.tuple #[]) ∧ Var W' go (s.on o).vals ∧ ∀ B, B ≤ go → Below B W W' := by
  have h3 := (show Var W go [.int .i64 o.m, .int .i64 o.b, .bool o.r] from hV)
  cases s with
  | no => exact absurd rfl hs
  | mode n =>
    refine (mode1_l n go q o W hV hq).mono ?_
    rintro e W' ⟨rfl, rfl⟩
    exact ⟨rfl, (h3.put6 (.int .i64 n)).1, fun B hB => (Below.refl _ _).setCell hB _⟩
  | budget n =>
    refine (budget1_l n go q o W hV hq).mono ?_
    rintro e W' ⟨rfl, rfl⟩
    exact ⟨rfl, (h3.put6 (.int .i64 n)).2.1, fun B hB => (Below.refl _ _).setCell hB _⟩
  | refine n =>
    refine (refine1_l n go q o W hV hq).mono ?_
    rintro e W' ⟨rfl, rfl⟩
    exact ⟨rfl, (h3.put6 (.bool n)).2.2, fun B hB => (Below.refl _ _).setCell hB _⟩
set_option maxHeartbeats 4000000 in
set_option maxRecDepth 100000 in
theorem unless1_l (s : St6) (hs : s ≠ .no) (go p q : Nat) (o : Op6) (W : World) (hV : Var W go o.vals) (hp : W.cell? ⟨p, 0, none⟩ = some (.func (.func s.fn) #[] #[.pointer (some ⟨q, 0, none⟩)])) (hq : W.cell? ⟨q, 0, none⟩ = some s.val) :
    Calls Tryd.prog 79 #[.pointer (some ⟨go, 0, none⟩), .pointer (some ⟨p, 0, none⟩)] W fun e W' => e = .returned (.tuple #[]) ∧ Var W' go (s.on o).vals ∧ ∀ B, B ≤ go → Below B W W' := by
  have HC := Lib.hid (step1_l s hs go q o W hV hq)
  have hcf : ∀ args w, (callFunc s.fn args).run Tryd.prog w = .ok (.enter s.fn args) w := by
    cases s <;> (intro _ _; rfl)
  clear hV hq
  generalize s.fn = f at *
  go_enter Tryd.func79, Tryd.ntmps79
  go_wp2_with fail
  refine HC.out.mono ?_
  rintro e w1 ⟨rfl, h1, h2⟩
  have HX := Lib.hid (And.intro h1 h2)
  clear h1 h2 HC
  go_wp2_with fail
  go_end0
  exact ⟨rfl, HX.out⟩
/-- function values in a row -/
def FnRow6 (W : World) (ad : Option Addr) (L : List St6) : Prop := ∀ i (h : i < L.length), ∃ g o v, ad = some ⟨g, o, none⟩ ∧ W.cell? ⟨g, o + i, none⟩ = some v ∧ StV6 W v L[i]
theorem FnRow6.below {W W' : World} {ad : Option Addr} {L : List St6} (h : FnRow6 W ad L) (hb : Below W.heap.size W W') : FnRow6 W' ad L := by
  intro i hi
  obtain ⟨g, o, v, e, h1, h2⟩ := h i hi
  exact ⟨g, o, v, e, (hb.cell (cell_lt h1)).trans h1, h2.below hb⟩
def made6 (L : List St6) : Op6 := L.foldl (fun o s => s.on o) ⟨1, 0, false⟩
theorem made_snoc6 {L : List St6} {i : Nat} (h : i < L.length) : made6 (L.take (i + 1)) = L[i].on (made6 (L.take i)) := by
  unfold made6
  rw [List.take_succ_eq_append_getElem h, List.foldl_append]
  rfl
def makeR6 (o : Op6) : Value := if okO6 o.m o.b then .tuple #[.agg #[.int .i64 o.m, .int .i64 o.b, .bool o.r], .int .i64 0] else .tuple #[.agg #[.int .i64 0, .int .i64 0, .bool false], .int .i64 2]
set_option maxHeartbeats 8000000 in
set_option maxRecDepth 100000 in
theorem make_l (L : List St6) (ad : Option Addr) (cap : Nat) (w : World) (hF : FnRow6 w ad L) (hlen : L.length ≤ 100000) :
    Calls Tryd.prog 36 #[.slice ad L.length cap] w (Gives (makeR6 (made6 L)) w) := by
  have HF := Lib.hid hF
  have CK := Lib.hid (fun m b r W => ocheck_l m b r W)
  obtain ⟨R, hR⟩ : ∃ R, makeR6 (made6 L) = R := ⟨_, rfl⟩
  rw [hR]
  have HRR := Lib.hid hR
  clear hF hR
  go_enter Tryd.func36, Tryd.ntmps36
  go_upto_region 2 with (fail)
  obtain ⟨gr, hgr⟩ : ∃ gr, w.heap.size = gr := ⟨_, rfl⟩
  obtain ⟨go, hgo⟩ : ∃ go, gr + 1 = go := ⟨_, rfl⟩
  refine wp_abs (fun V => Below w.heap.size w V ∧ Var V gr [.int .i64 0, .int .i64 0, .bool false] ∧ Var V go (made6 []).vals) ?_ ?_
  · exact ⟨by repeat (first | (with_reducible exact Below.refl _ _) | (with_reducible refine bl_alloc ?_ _) | (with_reducible refine Below.drew ?_) | (with_reducible refine below_drewN' ?_ _) | ((with_reducible refine bl_set ?_ ?_ _); (rotate_left; (dsimp only; omega)))), (var3o_new _ _ _ _ _ _ hgr.symm).below (bl_one _ _), var3o_new _ _ _ _ _ _ (by simp; omega)⟩
  rintro W0 hS0
  have HGR : Hid (gr = w.heap.size) := hgr.symm
  have HGO : Hid (gr < go ∧ w.heap.size ≤ go) := by unfold Hid; omega
  have HS0 := Lib.hid hS0
  rw [hgr, hgo]
  clear hS0 hgr hgo
  go_wp2_with fail
  go_loopw [11] (fun iv W => ∃ i : Nat, i ≤ L.length ∧ iv = .int .i64 i ∧ Below w.heap.size w W ∧ Var W gr [.int .i64 0, .int .i64 0, .bool false] ∧ Var W go (made6 (L.take i)).vals) (fun iv _ => L.length - (intOf iv).toNat)
  case atStart => exact ⟨0, Nat.zero_le _, rfl, HS0.out⟩
  case round =>
    obtain ⟨i, hi, rfl, hS⟩ := hrel
    have HS := Lib.hid hS
    clear hS HS0 W0
    by_cases hlt : i < L.length
    · have b1 : ((i : Int) < (L.length : Int)) = True := eq_true (by omega)
      obtain ⟨g, o, v, rfl, hc, hv⟩ := (HF.out.below HS.out.1) i hlt
      have HM := Lib.hid (made_snoc6 hlt)
      obtain ⟨s, hs⟩ : ∃ s, L[i] = s := ⟨_, rfl⟩
      rw [hs] at hv HM
      obtain ⟨O, hO⟩ : ∃ O, made6 (L.take i) = O := ⟨_, rfl⟩
      rw [hO] at HM HS
      have hw1 : wrap64 ((i : Int) + 1) = ((i + 1 : Nat) : Int) := by unfold wrap64; omega
      have HL := Lib.hid hlt
      clear hs hO
      by_cases hno : s = .no
      · subst hno
        obtain rfl : v = .nilFunc := hv
        have hnn : ∀ W, (binOp .neq 83 Value.nilFunc Value.nilFunc).run Tryd.prog W = .ok (.bool false) W := by intro W; rfl
        go_wp2_with fail
        go_roundw
        case rel => exact ⟨i + 1, HL.out, by first | rfl | simp, HS.out.1, HS.out.2.1, by rw [HM.out]; exact HS.out.2.2⟩
        case measure => simp [intOf]; omega
      · have hv2 : ∃ p q, v = .func (.func 79) #[] #[.pointer (some ⟨p, 0, none⟩)] ∧ wr.cell? ⟨p, 0, none⟩ = some (.func (.func s.fn) #[] #[.pointer (some ⟨q, 0, none⟩)]) ∧ wr.cell? ⟨q, 0, none⟩ = some s.val := by
          cases s with
          | no => exact absurd rfl hno
          | mode n => exact hv
          | budget n => exact hv
          | refine n => exact hv
        obtain ⟨p, q, rfl, h1, h2⟩ := hv2
        have HNE : Hid (∀ W, (binOp .neq 83 (.func (.func 79) #[] #[.pointer (some ⟨p, 0, none⟩)]) Value.nilFunc).run Tryd.prog W = .ok (.bool true) W) := by intro W; rfl
        have hne := HNE.out
        have HC := Lib.hid (unless1_l s hno go p q O wr HS.out.2.2 h1 h2)
        clear h1 h2 hv hno
        go_wp2_with fail
        refine HC.out.mono ?_
        rintro e w1 ⟨rfl, h3, h4⟩
        have HX : Hid (Below w.heap.size w w1 ∧ Var w1 gr [.int .i64 0, .int .i64 0, .bool false] ∧ Var w1 go (s.on O).vals) := ⟨HS.out.1.trans (h4 _ HGO.out.2), HS.out.2.1.belowB6 (h4 go (Nat.le_refl _)) HGO.out.1, h3⟩
        clear h3 h4 HC hc hne HNE HS
        go_wp2_with fail
        go_roundw
        case rel => exact ⟨i + 1, HL.out, by first | rfl | simp, HX.out.1, HX.out.2.1, by rw [HM.out]; exact HX.out.2.2⟩
        case measure => simp [intOf]; omega
    · obtain rfl : i = L.length := by omega
      have b1 : ((L.length : Int) < (L.length : Int)) = False := eq_false (by omega)
      rw [List.take_length] at HS
      obtain ⟨⟨m, b, r⟩, hO⟩ : ∃ O, made6 L = O := ⟨_, rfl⟩
      rw [hO] at HS HRR
      have h3 := (show Var wr go [.int .i64 m, .int .i64 b, .bool r] from HS.out.2.2)
      obtain ⟨o0, o1, o2⟩ := h3.three6
      have H3 := Lib.hid h3
      clear hO h3
      go_wp2_with fail
      (with_reducible refine (CK.out m b r _).mono ?_); rintro e w1 ⟨rfl, hb1⟩
      have HB1 := Lib.hid (bl_trans HS.out.1 hb1)
      have HR1 := Lib.hid (HS.out.2.1.below hb1)
      have HO1 := Lib.hid (H3.out.below hb1)
      clear hb1 HS H3 o0 o1 o2 CK HF
      obtain ⟨o0, o1, o2⟩ := HO1.out.three6
      obtain ⟨d0, d1, d2⟩ := HR1.out.three6
      obtain ⟨f0, f1, f2⟩ := HR1.out.free36
      obtain ⟨c, hc⟩ : ∃ c, okO6 m b = c := ⟨_, rfl⟩
      have HE : Hid (erO6 m b = if c then 0 else 2) := by unfold Hid erO6; rw [hc]
      have HRC : Hid ((if c then Value.tuple #[.agg #[.int .i64 m, .int .i64 b, .bool r], .int .i64 0] else .tuple #[.agg #[.int .i64 0, .int .i64 0, .bool false], .int .i64 2]) = R) := by
        have h9 := HRR.out
        unfold makeR6 at h9
        dsimp only at h9
        rw [hc] at h9
        exact h9
      clear hc HRR
      cases c
      · obtain rfl : Value.tuple #[.agg #[.int .i64 0, .int .i64 0, .bool false], .int .i64 2] = R := HRC.out
        clear HRC
        have he : erO6 m b = 2 := HE.out
        rw [he]
        clear he HE
        go_wp2_with fail
        obtain ⟨e0, e1, e2⟩ := (HR1.out.set3_6 (.int .i64 0) (.int .i64 0) (.bool false)).three6
        refine bodyPost_ret (v := .tuple #[.agg #[.int .i64 0, .int .i64 0, .bool false], .int .i64 2]) (by simp [results, Tryd.results36, go_sem, e0, e1, e2]; done) rfl ⟨rfl, ?_⟩
        exact bl_set (bl_set (bl_set HB1.out (by dsimp only; have := HGR.out; omega) _) (by dsimp only; have := HGR.out; omega) _) (by dsimp only; have := HGR.out; omega) _
      · obtain rfl : Value.tuple #[.agg #[.int .i64 m, .int .i64 b, .bool r], .int .i64 0] = R := HRC.out
        clear HRC
        have he : erO6 m b = 0 := HE.out
        rw [he]
        clear he HE
        go_wp2_with fail
        obtain ⟨e0, e1, e2⟩ := (HR1.out.set3_6 (.int .i64 m) (.int .i64 b) (.bool r)).three6
        refine bodyPost_ret (v := .tuple #[.agg #[.int .i64 m, .int .i64 b, .bool r], .int .i64 0]) (by simp [results, Tryd.results36, go_sem, e0, e1, e2]; done) rfl ⟨rfl, ?_⟩
        exact bl_set (bl_set (bl_set HB1.out (by dsimp only; have := HGR.out; omega) _) (by dsimp only; have := HGR.out; omega) _) (by dsimp only; have := HGR.out; omega) _
end Go.Proofs.YtoglibmdpgfpaaaDoor

/-
  Mode, Budget, Refine; the law's steps made into sets; what known answers.
-/
namespace Go.Proofs.YtoglibmdpgfpaaaDoor
open Go.RowKit

theorem StV6.shape {W : World} {v : Value} {s : St6} (h : StV6 W v s) (hs : s ≠ .no) : ∃ p, v = .func (.func 79) #[] #[.pointer (some ⟨p, 0, none⟩)] := by
  cases s with
  | no => exact absurd rfl hs
  | mode n => obtain ⟨p, q, e, -⟩ := h; exact ⟨p, e⟩
  | budget n => obtain ⟨p, q, e, -⟩ := h; exact ⟨p, e⟩
  | refine n => obtain ⟨p, q, e, -⟩ := h; exact ⟨p, e⟩
set_option maxRecDepth 100000 in
theorem unless_l (f : FuncId) (cs : Array Value) (W : World) : Calls Tryd.prog 60 #[.func (.func f) #[] cs] W fun e W' => e = .returned (.func (.func 79) #[] #[.pointer (some ⟨W.heap.size, 0, none⟩)]) ∧ W' = W.alloc (.cells #[.func (.func f) #[] cs] 83) := by
  go_enter Tryd.func60, Tryd.ntmps60
  go_wp2_with fail
  go_ret
  exact ⟨rfl, rfl⟩
set_option maxHeartbeats 4000000 in
set_option maxRecDepth 100000 in
theorem setm6_l (n : Int) (w : World) : Calls Tryd.prog 54 #[.int .i64 n] w fun e W => ∃ v, e = .returned v ∧ StV6 W v (.mode n) ∧ Below w.heap.size w W := by
  have CU := Lib.hid (fun f cs W => unless_l f cs W)
  go_enter Tryd.func54, Tryd.ntmps54
  go_wp2_with fail
  refine (CU.out _ _ _).mono ?_
  rintro e w1 ⟨rfl, rfl⟩
  go_wp2_with fail
  go_ret
  exact ⟨_, rfl, ⟨_, w.heap.size, rfl, by simp [go_sem, St6.fn], by simp [go_sem, St6.val]⟩, by repeat (first | (with_reducible exact Below.refl _ _) | (with_reducible refine bl_alloc ?_ _) | (with_reducible refine Below.drew ?_) | (with_reducible refine below_drewN' ?_ _) | ((with_reducible refine bl_set ?_ ?_ _); (rotate_left; (dsimp only; omega))))⟩
set_option maxHeartbeats 4000000 in
set_option maxRecDepth 100000 in
theorem setb6_l (n : Int) (w : World) : Calls Tryd.prog 39 #[.int .i64 n] w fun e W => ∃ v, e = .returned v ∧ StV6 W v (.budget n) ∧ Below w.heap.size w W := by
  have CU := Lib.hid (fun f cs W => unless_l f cs W)
  go_enter Tryd.func39, Tryd.ntmps39
  go_wp2_with fail
  refine (CU.out _ _ _).mono ?_
  rintro e w1 ⟨rfl, rfl⟩
  go_wp2_with fail
  go_ret
  exact ⟨_, rfl, ⟨_, w.heap.size, rfl, by simp [go_sem, St6.fn], by simp [go_sem, St6.val]⟩, by repeat (first | (with_reducible exact Below.refl _ _) | (with_reducible refine bl_alloc ?_ _) | (with_reducible refine Below.drew ?_) | (with_reducible refine below_drewN' ?_ _) | ((with_reducible refine bl_set ?_ ?_ _); (rotate_left; (dsimp only; omega))))⟩
set_option maxHeartbeats 4000000 in
set_option maxRecDepth 100000 in
theorem setr6_l (n : Bool) (w : World) : Calls Tryd.prog 59 #[.bool n] w fun e W => ∃ v, e = .returned v ∧ StV6 W v (.refine n) ∧ Below w.heap.size w W := by
  have CU := Lib.hid (fun f cs W => unless_l f cs W)
  go_enter Tryd.func59, Tryd.ntmps59
  go_wp2_with fail
  refine (CU.out _ _ _).mono ?_
  rintro e w1 ⟨rfl, rfl⟩
  go_wp2_with fail
  go_ret
  exact ⟨_, rfl, ⟨_, w.heap.size, rfl, by simp [go_sem, St6.fn], by simp [go_sem, St6.val]⟩, by repeat (first | (with_reducible exact Below.refl _ _) | (with_reducible refine bl_alloc ?_ _) | (with_reducible refine Below.drew ?_) | (with_reducible refine below_drewN' ?_ _) | ((with_reducible refine bl_set ?_ ?_ _); (rotate_left; (dsimp only; omega))))⟩
end Go.Proofs.YtoglibmdpgfpaaaDoor

/-
  What the law's known of the options' layer answers.
-/
namespace Go.Proofs.YtoglibmdpgfpaaaDoor
open Go.RowKit

theorem eqOp6 (a b : Int) (c : Bool) (w : World) : (Op.equalIn 10000 62 (.agg #[.int .i64 a, .int .i64 b, .bool c]) (.agg #[.int .i64 a, .int .i64 b, .bool c])).run Tryd.prog w = .ok true w := by
  have hS : Tryd.prog.underlying 62 = some (.struct (Tryd.prog.fieldsOf 62)) := by kernel_rfl
  have hp : Tryd.prog.stoodInHeld 62 = false := by kernel_rfl
  have u4 := Tryd.underlying3
  have u5 := Tryd.underlying4
  rw [show (10000 : Nat) = 9999 + 1 from rfl, run_equalIn_agg w 9999 62 _ _ hS hp]
  simp only [Program.fieldsOf, Tryd.underlying62]
  go_simp
def tA6 : ByteArray := ⟨#[97, 108, 108, 32, 98, 117, 100, 103, 101, 116, 32, 55, 32, 114, 101, 102, 105, 110, 101]⟩
theorem litA6 (w : World) (t : TypeId) (fz : Nat × Nat) : BytesIn (w.alloc (.cells #[.int .u8 97, .int .u8 108, .int .u8 108, .int .u8 32, .int .u8 98, .int .u8 117, .int .u8 100, .int .u8 103, .int .u8 101, .int .u8 116, .int .u8 32, .int .u8 55, .int .u8 32, .int .u8 114, .int .u8 101, .int .u8 102, .int .u8 105, .int .u8 110, .int .u8 101] t fz)) (some ⟨w.heap.size, 0, none⟩) tA6 := by
  have hnew := World.alloc_heap_new w (.cells #[.int .u8 97, .int .u8 108, .int .u8 108, .int .u8 32, .int .u8 98, .int .u8 117, .int .u8 100, .int .u8 103, .int .u8 101, .int .u8 116, .int .u8 32, .int .u8 55, .int .u8 32, .int .u8 114, .int .u8 101, .int .u8 102, .int .u8 105, .int .u8 110, .int .u8 101] t fz)
  intro i hi
  have hi' : i < 19 := hi
  refine ⟨_, 0, rfl, ?_⟩
  have : i = 0 ∨ i = 1 ∨ i = 2 ∨ i = 3 ∨ i = 4 ∨ i = 5 ∨ i = 6 ∨ i = 7 ∨ i = 8 ∨ i = 9 ∨ i = 10 ∨ i = 11 ∨ i = 12 ∨ i = 13 ∨ i = 14 ∨ i = 15 ∨ i = 16 ∨ i = 17 ∨ i = 18 := by omega
  rcases this with rfl | rfl | rfl | rfl | rfl | rfl | rfl | rfl | rfl | rfl | rfl | rfl | rfl | rfl | rfl | rfl | rfl | rfl | rfl <;> (unfold World.cell?; dsimp only; rw [hnew]; rfl)
theorem convA6 (w : World) : (convert 37 37 (.slice (some ⟨w.heap.size, 0, none⟩) 19 19)).run Tryd.prog (w.alloc (.cells #[.int .u8 97, .int .u8 108, .int .u8 108, .int .u8 32, .int .u8 98, .int .u8 117, .int .u8 100, .int .u8 103, .int .u8 101, .int .u8 116, .int .u8 32, .int .u8 55, .int .u8 32, .int .u8 114, .int .u8 101, .int .u8 102, .int .u8 105, .int .u8 110, .int .u8 101] 5)) = .ok (.slice (some ⟨w.heap.size, 0, none⟩) 19 19) (w.alloc (.cells #[.int .u8 97, .int .u8 108, .int .u8 108, .int .u8 32, .int .u8 98, .int .u8 117, .int .u8 100, .int .u8 103, .int .u8 101, .int .u8 116, .int .u8 32, .int .u8 55, .int .u8 32, .int .u8 114, .int .u8 101, .int .u8 102, .int .u8 105, .int .u8 110, .int .u8 101] 5 (19, 20))) :=
  Lib.run_convert_bytes_const w 37 5 #[.int .u8 97, .int .u8 108, .int .u8 108, .int .u8 32, .int .u8 98, .int .u8 117, .int .u8 100, .int .u8 103, .int .u8 101, .int .u8 116, .int .u8 32, .int .u8 55, .int .u8 32, .int .u8 114, .int .u8 101, .int .u8 102, .int .u8 105, .int .u8 110, .int .u8 101] 19 19 Tryd.underlying37 Tryd.underlying5
def tB6 : ByteArray := ⟨#[116, 114, 105, 32, 114, 101, 102, 105, 110, 101, 32, 114, 101, 102, 105, 110, 101]⟩
theorem litB6 (w : World) (t : TypeId) (fz : Nat × Nat) : BytesIn (w.alloc (.cells #[.int .u8 116, .int .u8 114, .int .u8 105, .int .u8 32, .int .u8 114, .int .u8 101, .int .u8 102, .int .u8 105, .int .u8 110, .int .u8 101, .int .u8 32, .int .u8 114, .int .u8 101, .int .u8 102, .int .u8 105, .int .u8 110, .int .u8 101] t fz)) (some ⟨w.heap.size, 0, none⟩) tB6 := by
  have hnew := World.alloc_heap_new w (.cells #[.int .u8 116, .int .u8 114, .int .u8 105, .int .u8 32, .int .u8 114, .int .u8 101, .int .u8 102, .int .u8 105, .int .u8 110, .int .u8 101, .int .u8 32, .int .u8 114, .int .u8 101, .int .u8 102, .int .u8 105, .int .u8 110, .int .u8 101] t fz)
  intro i hi
  have hi' : i < 17 := hi
  refine ⟨_, 0, rfl, ?_⟩
  have : i = 0 ∨ i = 1 ∨ i = 2 ∨ i = 3 ∨ i = 4 ∨ i = 5 ∨ i = 6 ∨ i = 7 ∨ i = 8 ∨ i = 9 ∨ i = 10 ∨ i = 11 ∨ i = 12 ∨ i = 13 ∨ i = 14 ∨ i = 15 ∨ i = 16 := by omega
  rcases this with rfl | rfl | rfl | rfl | rfl | rfl | rfl | rfl | rfl | rfl | rfl | rfl | rfl | rfl | rfl | rfl | rfl <;> (unfold World.cell?; dsimp only; rw [hnew]; rfl)
theorem convB6 (w : World) : (convert 37 37 (.slice (some ⟨w.heap.size, 0, none⟩) 17 17)).run Tryd.prog (w.alloc (.cells #[.int .u8 116, .int .u8 114, .int .u8 105, .int .u8 32, .int .u8 114, .int .u8 101, .int .u8 102, .int .u8 105, .int .u8 110, .int .u8 101, .int .u8 32, .int .u8 114, .int .u8 101, .int .u8 102, .int .u8 105, .int .u8 110, .int .u8 101] 5)) = .ok (.slice (some ⟨w.heap.size, 0, none⟩) 17 17) (w.alloc (.cells #[.int .u8 116, .int .u8 114, .int .u8 105, .int .u8 32, .int .u8 114, .int .u8 101, .int .u8 102, .int .u8 105, .int .u8 110, .int .u8 101, .int .u8 32, .int .u8 114, .int .u8 101, .int .u8 102, .int .u8 105, .int .u8 110, .int .u8 101] 5 (17, 18))) :=
  Lib.run_convert_bytes_const w 37 5 #[.int .u8 116, .int .u8 114, .int .u8 105, .int .u8 32, .int .u8 114, .int .u8 101, .int .u8 102, .int .u8 105, .int .u8 110, .int .u8 101, .int .u8 32, .int .u8 114, .int .u8 101, .int .u8 102, .int .u8 105, .int .u8 110, .int .u8 101] 17 17 Tryd.underlying37 Tryd.underlying5
theorem isA6 : parse6 (nums tA6) = ⟨3, 7, true, 0, 0⟩ := by decide +kernel
theorem isB6 : parse6 (nums tB6) = bad6 11 11 := by decide +kernel
theorem parseA6 (ad : Option Addr) (W : World) (h1 : Words6 W) (h2 : BytesIn W ad tA6) : Calls Tryd.prog 30 #[.slice ad 19 19] W (Gives (.tuple #[.agg #[.int .i64 3, .int .i64 7, .bool true], .int .i64 0, .int .i64 0]) W) := by
  have := parse6_l tA6 (by decide) ad 19 W h1 h2
  rw [isA6] at this
  exact this
theorem parseB6 (ad : Option Addr) (W : World) (h1 : Words6 W) (h2 : BytesIn W ad tB6) : Calls Tryd.prog 30 #[.slice ad 17 17] W (Gives (.tuple #[.agg #[.int .i64 0, .int .i64 0, .bool false], .int .i64 11, .int .i64 11]) W) := by
  have := parse6_l tB6 (by decide) ad 17 W h1 h2
  rw [isB6] at this
  exact this
theorem makeA6 (ad : Option Addr) (W : World) (h : FnRow6 W ad [.mode 2, .budget 5, .mode 3]) : Calls Tryd.prog 36 #[.slice ad 3 3] W (Gives (.tuple #[.agg #[.int .i64 3, .int .i64 5, .bool false], .int .i64 0]) W) := by
  have h1 := make_l [.mode 2, .budget 5, .mode 3] ad 3 W h (by decide)
  have e : makeR6 (made6 [.mode 2, .budget 5, .mode 3]) = .tuple #[.agg #[.int .i64 3, .int .i64 5, .bool false], .int .i64 0] := rfl
  rw [e] at h1
  exact h1
theorem row3_6 {W : World} {v1 v2 v3 : Value} {s1 s2 s3 : St6} (h1 : StV6 W v1 s1) (h2 : StV6 W v2 s2) (h3 : StV6 W v3 s3) (t : TypeId) : FnRow6 (W.alloc (.cells #[v1, v2, v3] t)) (some ⟨W.heap.size, 0, none⟩) [s1, s2, s3] := by
  intro i hi
  have hi' : i < 3 := hi
  have : i = 0 ∨ i = 1 ∨ i = 2 := by omega
  rcases this with rfl | rfl | rfl
  · exact ⟨_, 0, v1, rfl, by simp [go_sem], h1.below (bl_one _ _)⟩
  · exact ⟨_, 0, v2, rfl, by simp [go_sem], h2.below (bl_one _ _)⟩
  · exact ⟨_, 0, v3, rfl, by simp [go_sem], h3.below (bl_one _ _)⟩
set_option maxHeartbeats 16000000 in
set_option maxRecDepth 100000 in
theorem known6_l (w : World) (hG : Words6 w) : Calls Tryd.prog 29 #[] w (Gives (.bool true) w) := by
  have HG := Lib.hid hG
  clear hG
  have hcA := convA6 w
  go_enter Tryd.func29, Tryd.ntmps29
  go_upto_region 2 with (first
    | (go_at_call 30; (with_reducible refine (parseA6 _ _ (HG.out.below (bl_one _ _)) (litA6 w _ _)).mono ?_); rintro e w1 ⟨rfl, hb1⟩
       have HB := Lib.hid (show Below w.heap.size w w1 from bl_trans (bl_one _ _) hb1)
       clear hb1)
    | go_in)
  obtain ⟨g1, hg1⟩ : ∃ g, w1.heap.size = g := ⟨_, rfl⟩
  refine wp_abs (fun V => Below w.heap.size w V ∧ Var V g1 [.int .i64 3, .int .i64 7, .bool true]) ?_ ?_
  · exact ⟨bl_trans HB.out (by repeat (first | (with_reducible exact Below.refl _ _) | (with_reducible refine bl_alloc ?_ _) | (with_reducible refine Below.drew ?_) | (with_reducible refine below_drewN' ?_ _) | ((with_reducible refine bl_set ?_ ?_ _); (rotate_left; (dsimp only; omega))))), var3o_new _ _ _ _ _ _ hg1.symm⟩
  rintro W0 hS0
  have HB0 := Lib.hid hS0.1
  have HV0 := Lib.hid hS0.2
  try rw [hg1]
  clear hS0 HB hg1 hcA
  go_wp2_with fail
  (with_reducible refine (setm6_l 2 _).mono ?_); rintro e w2 ⟨v1, rfl, hv1, hb2⟩
  obtain ⟨p1, rfl⟩ := hv1.shape (by intro h; cases h)
  have H1 := Lib.hid hv1
  replace HB0 := Lib.hid (bl_trans HB0.out hb2)
  replace HV0 := Lib.hid (HV0.out.below hb2)
  clear hv1 hb2
  go_wp2_with fail
  (with_reducible refine (setb6_l 5 _).mono ?_); rintro e w3 ⟨v2, rfl, hv2, hb3⟩
  obtain ⟨p2, rfl⟩ := hv2.shape (by intro h; cases h)
  have H2 := Lib.hid hv2
  replace H1 := Lib.hid (H1.out.below hb3)
  replace HB0 := Lib.hid (bl_trans HB0.out hb3)
  replace HV0 := Lib.hid (HV0.out.below hb3)
  clear hv2 hb3
  go_wp2_with fail
  (with_reducible refine (setm6_l 3 _).mono ?_); rintro e w4 ⟨v3, rfl, hv3, hb4⟩
  obtain ⟨p3, rfl⟩ := hv3.shape (by intro h; cases h)
  have H3 := Lib.hid hv3
  replace H1 := Lib.hid (H1.out.below hb4)
  replace H2 := Lib.hid (H2.out.below hb4)
  replace HB0 := Lib.hid (bl_trans HB0.out hb4)
  replace HV0 := Lib.hid (HV0.out.below hb4)
  clear hv3 hb4
  have HMK := Lib.hid (makeA6 _ _ (row3_6 H1.out H2.out H3.out 83))
  go_wp2_with fail
  (with_reducible refine HMK.out.mono ?_); rintro e w5 ⟨rfl, hb5⟩
  have HB5 := Lib.hid (show Below w.heap.size w w5 from bl_trans (bl_alloc HB0.out _) hb5)
  have HV5 := Lib.hid (show Var w5 g1 [.int .i64 3, .int .i64 7, .bool true] from (HV0.out.below (bl_one _ _)).below hb5)
  clear hb5 HB0 HV0 HMK H1 H2 H3
  go_upto_region 3 with (fail)
  obtain ⟨g2, hg2⟩ : ∃ g, w5.heap.size = g := ⟨_, rfl⟩
  refine wp_abs (fun V => Below w.heap.size w V ∧ Var V g1 [.int .i64 3, .int .i64 7, .bool true] ∧ Var V g2 [.int .i64 3, .int .i64 5, .bool false]) ?_ ?_
  · exact ⟨bl_trans HB5.out (by repeat (first | (with_reducible exact Below.refl _ _) | (with_reducible refine bl_alloc ?_ _) | (with_reducible refine Below.drew ?_) | (with_reducible refine below_drewN' ?_ _) | ((with_reducible refine bl_set ?_ ?_ _); (rotate_left; (dsimp only; omega))))), HV5.out.below (by repeat (first | (with_reducible exact Below.refl _ _) | (with_reducible refine bl_alloc ?_ _) | (with_reducible refine Below.drew ?_) | (with_reducible refine below_drewN' ?_ _) | ((with_reducible refine bl_set ?_ ?_ _); (rotate_left; (dsimp only; omega))))), var3o_new _ _ _ _ _ _ hg2.symm⟩
  rintro W6 hS6
  have HS6 := Lib.hid hS6
  try rw [hg2]
  clear hS6 HB5 HV5 hg2
  have hcB := convB6 W6
  go_upto_region 4 with (first
    | (go_at_call 30; (with_reducible refine (parseB6 _ _ ((HG.out.below HS6.out.1).below (bl_one _ _)) (litB6 _ _ _)).mono ?_); rintro e w7 ⟨rfl, hb7⟩
       have HB7 := Lib.hid (show Below W6.heap.size W6 w7 from bl_trans (bl_one _ _) hb7)
       clear hb7)
    | go_in)
  have HB8 := Lib.hid (bl_trans HS6.out.1 HB7.out)
  have HV1 := Lib.hid (HS6.out.2.1.below HB7.out)
  have HV2 := Lib.hid (HS6.out.2.2.below HB7.out)
  clear hcB HS6 HB7
  refine wp_abs (fun V => Below w.heap.size w V ∧ Var V g1 [.int .i64 3, .int .i64 7, .bool true] ∧ Var V g2 [.int .i64 3, .int .i64 5, .bool false]) ?_ ?_
  · exact ⟨bl_trans HB8.out (by repeat (first | (with_reducible exact Below.refl _ _) | (with_reducible refine bl_alloc ?_ _) | (with_reducible refine Below.drew ?_) | (with_reducible refine below_drewN' ?_ _) | ((with_reducible refine bl_set ?_ ?_ _); (rotate_left; (dsimp only; omega))))), HV1.out.below (by repeat (first | (with_reducible exact Below.refl _ _) | (with_reducible refine bl_alloc ?_ _) | (with_reducible refine Below.drew ?_) | (with_reducible refine below_drewN' ?_ _) | ((with_reducible refine bl_set ?_ ?_ _); (rotate_left; (dsimp only; omega))))), HV2.out.below (by repeat (first | (with_reducible exact Below.refl _ _) | (with_reducible refine bl_alloc ?_ _) | (with_reducible refine Below.drew ?_) | (with_reducible refine below_drewN' ?_ _) | ((with_reducible refine bl_set ?_ ?_ _); (rotate_left; (dsimp only; omega)))))⟩
  rintro W9 hS9
  have HS9 := Lib.hid hS9
  clear hS9 HB8 HV1 HV2 HG
  obtain ⟨a0, a1, a2⟩ := HS9.out.2.1.three6
  obtain ⟨b0, b1, b2⟩ := HS9.out.2.2.three6
  have he1 := fun W => eqOp6 3 7 true W
  have he2 := fun W => eqOp6 3 5 false W
  go_wp2_with fail
  go_ret
  exact ⟨rfl, HS9.out.1⟩
end Go.Proofs.YtoglibmdpgfpaaaDoor
