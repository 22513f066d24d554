/-
  The law SortsBoxes.
-/
import Derived.Deep.Cut
import Derived.Deep.DeepCutAuto
import Derived.Test.YtmkegehkifpkjaaBox
import Derived.Test.YtmkegehkifpkjaaBMath7
import Derived.Test.YtmkegehkifpkjaaKnown7
namespace Go.Proofs.Ytmkegehkifpkjaa
open Go.RowKit

theorem ptRow_new4 (W : World) (a b c d : Pt) (t : TypeId) : PtRow (W.alloc (.cells #[.int .i64 a.x, .int .i64 a.y, .int .i64 b.x, .int .i64 b.y, .int .i64 c.x, .int .i64 c.y, .int .i64 d.x, .int .i64 d.y] t)) (some ⟨W.heap.size, 0, none⟩) [a, b, c, d] := by
  intro i hi
  refine ⟨_, _, rfl, ?_⟩
  match i, hi with
  | 0, _ => exact ⟨by simp [go_sem, pget], by simp [go_sem, pget]⟩
  | 1, _ => exact ⟨by simp [go_sem, pget], by simp [go_sem, pget]⟩
  | 2, _ => exact ⟨by simp [go_sem, pget], by simp [go_sem, pget]⟩
  | 3, _ => exact ⟨by simp [go_sem, pget], by simp [go_sem, pget]⟩

set_option maxHeartbeats 8000000 in
set_option maxRecDepth 100000 in
theorem boxesNo_l (w : World) (p : List Pt) (ad : Option Addr) (cap : Nat) (hcap : p.length ≤ cap) (hP : PtRow w ad p) (hn : ad = none → cap = 0) (q : List Pt) (adq : Option Addr) (capq : Nat) (hcapq : q.length ≤ capq) (hQ : PtRow w adq q) (hnq : adq = none → capq = 0) (h1 : p.length = 0) (h2 : q.length ≤ 300) :
    Calls Try.prog 8 #[.slice ad p.length cap, .slice adq q.length capq] w (Gives (.bool true) w) := by
  have KN := Lib.hid (fun W => known_l W)
  have HP0 := Lib.hid hP
  have HQ0 := Lib.hid hQ
  have HN0 := Lib.hid hn
  have HNQ := Lib.hid hnq
  clear hP hQ hn hnq
  go_enter Try.func8, Try.ntmps8
  have b1 : ((300 : Int) < (p.length : Int)) = False := eq_false (by omega)
  have b2 : ((300 : Int) < (q.length : Int)) = False := eq_false (by omega)
  have HQo := Lib.hid (box_l p ad cap w HP0.out hcap (by omega))
  have H1 := Lib.hid h1
  clear h1
  go_wp2_with fail
  (with_reducible refine HQo.out.mono ?_); rintro e w1 ⟨a, b, ok, rfl, hT, hb1⟩
  have HTp0 := Lib.hid hT
  clear hT HQo
  obtain rfl : ok = false := by
    rcases HTp0.out with ⟨h, _⟩ | ⟨_, h, _⟩
    · exact h
    · have := H1.out; omega
  clear HTp0
  have b3 : ((0 : Int) < (p.length : Int)) = False := eq_false (by have := H1.out; omega)
  have b3' : (0 < p.length) = False := eq_false (by have := H1.out; omega)
  have b3'' : (p = []) = True := eq_true (List.length_eq_zero_iff.1 H1.out)
  have h9 : p.length ≤ 300 := by have := H1.out; omega
  have HBW := Lib.hid (Below.refl w.heap.size w)
  have HPw := HP0
  have HQw := HQ0
  clear HP0 HQ0
  go_upto_region 4 with (fail)
  have HV5 := Lib.hid ((var2_new w1 (.int .i64 a.x) (.int .i64 a.y) 28 w1.heap.size rfl).below (bl_one _ (.cells #[.int .i64 b.x, .int .i64 b.y] 28)))
  have HV6 := Lib.hid (var2_new (w1.alloc (.cells #[.int .i64 a.x, .int .i64 a.y] 28)) (.int .i64 b.x) (.int .i64 b.y) 28 (w1.heap.size + 1) (by simp))
  have hb2 := bl_alloc (bl_one w1 (.cells #[.int .i64 a.x, .int .i64 a.y] 28)) (.cells #[.int .i64 b.x, .int .i64 b.y] 28)
  have hb3 := bl_trans hb1 hb2
  replace HPw := Lib.hid (HPw.out.below hb3)
  replace HQw := Lib.hid (HQw.out.below hb3)
  replace HBW := Lib.hid (bl_trans HBW.out hb3)
  clear hb1 hb2 hb3
  generalize (w1.alloc (.cells #[.int .i64 a.x, .int .i64 a.y] 28)).alloc (.cells #[.int .i64 b.x, .int .i64 b.y] 28) = W1 at *
  obtain ⟨g5, e4⟩ : ∃ g, g = w1.heap.size := ⟨_, rfl⟩
  obtain ⟨g6, e5⟩ : ∃ g, g = g5 + 1 := ⟨_, rfl⟩
  rw [← e4, ← e5] at HV6 ⊢
  rw [← e4] at HV5
  clear e4 e5
  go_wp2_with fail
  go_loopw [8, 9, 10, 11, 12] (fun v8 v9 v10 v11 iv W => v8 = .bool false ∧ v9 = .bool false ∧ v10 = .bool false ∧ v11 = .bool false ∧ iv = .int .i64 0 ∧ W = W1) (fun _ _ _ _ _ _ => 0)
  case atStart => exact ⟨rfl, rfl, rfl, rfl, rfl, rfl⟩
  case round =>
    obtain ⟨rfl, rfl, rfl, rfl, rfl, rfl⟩ := hrel
    go_wp2_with (at_builtin; refine app_pts rfl _ _ rfl rfl (op_nil wr) rfl (L := p) rfl (HPw.out) HN0.out ?x1 ?_)
    case x1 => (try simp); omega
    intro v1 w1 h1
    have HO1 := Lib.hid h1
    clear h1
    go_wp2_with (at_builtin; refine app_pts rfl _ _ rfl rfl (HO1.out) rfl (L := q) rfl (HQw.out.below HO1.out.hb) HNQ.out ?x2 ?_)
    case x2 => (try simp); omega
    intro v2 w2 h2
    have HO2 := Lib.hid h2
    clear h2
    clear HO1
    have HT2 : Hid (Op wr v2 (p ++ q) w2) := by simpa using HO2
    clear HO2
    have htl : (p ++ q).length = p.length + q.length := List.length_append
    obtain ⟨T, hT⟩ : ∃ T, p ++ q = T := ⟨_, rfl⟩
    have HTE := Lib.hid hT
    rw [hT] at htl HT2
    have HTL := Lib.hid htl
    clear hT htl
    obtain ⟨ad2, cp2, rfl, hcp2, hI, -⟩ := HT2.out.pts
    have HI2 := Lib.hid hI
    have hb1 := HT2.out.hb
    replace HV5 := Lib.hid (HV5.out.below hb1)
    replace HV6 := Lib.hid (HV6.out.below hb1)
    replace HQw := Lib.hid (HQw.out.below hb1)
    replace HPw := Lib.hid (HPw.out.below hb1)
    replace HBW := Lib.hid (bl_trans HBW.out hb1)
    clear hI hb1 HT2
    have HQo := Lib.hid (box_l q adq capq w2 HQw.out hcapq (by omega))
    clear HQw HPw HN0 HNQ
    go_wp2_with fail
    (with_reducible refine HQo.out.mono ?_); rintro e w3 ⟨c, d, is, rfl, hT, hb1⟩
    have HTq := Lib.hid hT
    clear hT HQo
    go_upto_region 25 with (fail)
    have HV7 := Lib.hid ((var2_new w3 (.int .i64 c.x) (.int .i64 c.y) 28 w3.heap.size rfl).below (bl_one _ (.cells #[.int .i64 d.x, .int .i64 d.y] 28)))
    have HV8 := Lib.hid (var2_new (w3.alloc (.cells #[.int .i64 c.x, .int .i64 c.y] 28)) (.int .i64 d.x) (.int .i64 d.y) 28 (w3.heap.size + 1) (by simp))
    have hb2 := bl_alloc (bl_one w3 (.cells #[.int .i64 c.x, .int .i64 c.y] 28)) (.cells #[.int .i64 d.x, .int .i64 d.y] 28)
    have hb3 := bl_trans hb1 hb2
    replace HV5 := Lib.hid (HV5.out.below hb3)
    replace HV6 := Lib.hid (HV6.out.below hb3)
    replace HI2 := Lib.hid (HI2.out.below hb3)
    replace HBW := Lib.hid (bl_trans HBW.out hb3)
    clear hb1 hb2 hb3
    generalize (w3.alloc (.cells #[.int .i64 c.x, .int .i64 c.y] 28)).alloc (.cells #[.int .i64 d.x, .int .i64 d.y] 28) = W3 at *
    obtain ⟨g7, e4⟩ : ∃ g, g = w3.heap.size := ⟨_, rfl⟩
    obtain ⟨g8, e5⟩ : ∃ g, g = g7 + 1 := ⟨_, rfl⟩
    rw [← e4, ← e5] at HV8 ⊢
    rw [← e4] at HV7
    clear e4 e5
    have HQo := Lib.hid (box_l T ad2 cp2 W3 HI2.out hcp2 (by have := HTL.out; omega))
    clear HI2
    go_wp2_with fail
    (with_reducible refine HQo.out.mono ?_); rintro e w4 ⟨e1, f1, both, rfl, hT, hb1⟩
    have HTt := Lib.hid hT
    clear hT HQo
    go_upto_region 26 with (fail)
    have HV9 := Lib.hid ((var2_new w4 (.int .i64 e1.x) (.int .i64 e1.y) 28 w4.heap.size rfl).below (bl_one _ (.cells #[.int .i64 f1.x, .int .i64 f1.y] 28)))
    have HV10 := Lib.hid (var2_new (w4.alloc (.cells #[.int .i64 e1.x, .int .i64 e1.y] 28)) (.int .i64 f1.x) (.int .i64 f1.y) 28 (w4.heap.size + 1) (by simp))
    have hb2 := bl_alloc (bl_one w4 (.cells #[.int .i64 e1.x, .int .i64 e1.y] 28)) (.cells #[.int .i64 f1.x, .int .i64 f1.y] 28)
    have hb3 := bl_trans hb1 hb2
    replace HV5 := Lib.hid (HV5.out.below hb3)
    replace HV6 := Lib.hid (HV6.out.below hb3)
    replace HV7 := Lib.hid (HV7.out.below hb3)
    replace HV8 := Lib.hid (HV8.out.below hb3)
    replace HBW := Lib.hid (bl_trans HBW.out hb3)
    clear hb1 hb2 hb3
    generalize (w4.alloc (.cells #[.int .i64 e1.x, .int .i64 e1.y] 28)).alloc (.cells #[.int .i64 f1.x, .int .i64 f1.y] 28) = W4 at *
    obtain ⟨g9, e4⟩ : ∃ g, g = w4.heap.size := ⟨_, rfl⟩
    obtain ⟨g10, e5⟩ : ∃ g, g = g9 + 1 := ⟨_, rfl⟩
    rw [← e4, ← e5] at HV10 ⊢
    rw [← e4] at HV9
    clear e4 e5
    have hbo : both = is := by
      have l1 := HTL.out
      have l0 := H1.out
      rcases HTt.out with ⟨l2, l3, _⟩ | ⟨l2, l3, _⟩
      · rcases HTq.out with ⟨l4, _⟩ | ⟨_, l4, _⟩
        · rw [l2, l4]
        · omega
      · rcases HTq.out with ⟨_, l4, _⟩ | ⟨l4, _⟩
        · omega
        · rw [l2, l4]
    subst hbo
    clear HV5 HV6 HV7 HV8 HV9 HV10
    cases both with
    | false =>
      go_wp2_with fail
      (with_reducible refine (KN.out _).mono ?_); rintro e w9 ⟨rfl, hb1⟩
      replace HBW := Lib.hid (bl_trans HBW.out hb1)
      clear hb1
      go_wp2
      go_ret
      exact ⟨rfl, HBW.out⟩
    | true =>
      go_wp2_with fail
      (with_reducible refine (KN.out _).mono ?_); rintro e w9 ⟨rfl, hb1⟩
      replace HBW := Lib.hid (bl_trans HBW.out hb1)
      clear hb1
      go_wp2
      go_ret
      exact ⟨rfl, HBW.out⟩
set_option maxHeartbeats 8000000 in
set_option maxRecDepth 100000 in
theorem boxesYes_l (w : World) (p : List Pt) (ad : Option Addr) (cap : Nat) (hcap : p.length ≤ cap) (hP : PtRow w ad p) (hn : ad = none → cap = 0) (q : List Pt) (adq : Option Addr) (capq : Nat) (hcapq : q.length ≤ capq) (hQ : PtRow w adq q) (hnq : adq = none → capq = 0) (h1 : 0 < p.length ∧ p.length ≤ 300) (h2 : q.length ≤ 300) :
    Calls Try.prog 8 #[.slice ad p.length cap, .slice adq q.length capq] w (Gives (.bool true) w) := by
  have KN := Lib.hid (fun W => known_l W)
  have HP0 := Lib.hid hP
  have HQ0 := Lib.hid hQ
  have HN0 := Lib.hid hn
  have HNQ := Lib.hid hnq
  clear hP hQ hn hnq
  go_enter Try.func8, Try.ntmps8
  have b1 : ((300 : Int) < (p.length : Int)) = False := eq_false (by omega)
  have b2 : ((300 : Int) < (q.length : Int)) = False := eq_false (by omega)
  have HQo := Lib.hid (box_l p ad cap w HP0.out hcap (by omega))
  go_wp2_with fail
  (with_reducible refine HQo.out.mono ?_); rintro e w1 ⟨a, b, ok, rfl, hT, hb1⟩
  have HTp0 := Lib.hid hT
  clear hT HQo
  obtain ⟨rfl, hp2⟩ : ok = true ∧ BoxTo p p.length a b := by
    rcases HTp0.out with ⟨_, h, _⟩ | ⟨h, _, h2⟩
    · omega
    · exact ⟨h, h2⟩
  have HTp := Lib.hid hp2
  have b3 : ((0 : Int) < (p.length : Int)) = True := eq_true (by omega)
  have b3' : (0 < p.length) = True := eq_true (by omega)
  clear HTp0 hp2
  have HBW := Lib.hid (Below.refl w.heap.size w)
  have HPw := HP0
  have HQw := HQ0
  clear HP0 HQ0
  go_upto_region 4 with (fail)
  have HV5 := Lib.hid ((var2_new w1 (.int .i64 a.x) (.int .i64 a.y) 28 w1.heap.size rfl).below (bl_one _ (.cells #[.int .i64 b.x, .int .i64 b.y] 28)))
  have HV6 := Lib.hid (var2_new (w1.alloc (.cells #[.int .i64 a.x, .int .i64 a.y] 28)) (.int .i64 b.x) (.int .i64 b.y) 28 (w1.heap.size + 1) (by simp))
  have hb2 := bl_alloc (bl_one w1 (.cells #[.int .i64 a.x, .int .i64 a.y] 28)) (.cells #[.int .i64 b.x, .int .i64 b.y] 28)
  have hb3 := bl_trans hb1 hb2
  replace HPw := Lib.hid (HPw.out.below hb3)
  replace HQw := Lib.hid (HQw.out.below hb3)
  replace HBW := Lib.hid (bl_trans HBW.out hb3)
  clear hb1 hb2 hb3
  generalize (w1.alloc (.cells #[.int .i64 a.x, .int .i64 a.y] 28)).alloc (.cells #[.int .i64 b.x, .int .i64 b.y] 28) = W1 at *
  obtain ⟨g5, e4⟩ : ∃ g, g = w1.heap.size := ⟨_, rfl⟩
  obtain ⟨g6, e5⟩ : ∃ g, g = g5 + 1 := ⟨_, rfl⟩
  rw [← e4, ← e5] at HV6 ⊢
  rw [← e4] at HV5
  clear e4 e5
  have e1 : anyX p Pt.x a.x 0 = false := rfl
  have e2 : anyX p Pt.x b.x 0 = false := rfl
  have e3 : anyX p Pt.y a.y 0 = false := rfl
  have e4 : anyX p Pt.y b.y 0 = false := rfl
  have HE := Lib.hid (And.intro (And.intro e1 e2) (And.intro e3 e4))
  clear e1 e2 e3 e4
  go_wp2_with fail
  go_loopw [8, 9, 10, 11, 12] (fun v8 v9 v10 v11 iv W => ∃ i : Nat, iv = .int .i64 i ∧ i ≤ p.length ∧ v8 = .bool (anyX p Pt.x a.x i) ∧ v9 = .bool (anyX p Pt.x b.x i) ∧ v10 = .bool (anyX p Pt.y a.y i) ∧ v11 = .bool (anyX p Pt.y b.y i) ∧ Below W1.heap.size W1 W) (fun _ _ _ _ iv _ => p.length - (intOf iv).toNat)
  case atStart => exact ⟨0, rfl, Nat.zero_le _, by rw [HE.out.1.1], by rw [HE.out.1.2], by rw [HE.out.2.1], by rw [HE.out.2.2], Below.refl _ _⟩
  case round =>
    obtain ⟨i, rfl, hile, rfl, rfl, rfl, rfl, hW⟩ := hrel
    clear HE
    have HW := Lib.hid hW
    have HV5a := HV5
    have HV6a := HV6
    replace HV5 := Lib.hid (HV5a.out.below hW)
    replace HV6 := Lib.hid (HV6a.out.below hW)
    have HPi := Lib.hid (HPw.out.below hW)
    clear hW
    by_cases hi : i < p.length
    · have b0 : ((i : Int) < (p.length : Int)) = True := eq_true (by omega)
      have d0 : (i < p.length) = True := eq_true (by omega)
      have c0 : ((0 : Int) ≤ (i : Int)) = True := eq_true (by omega)
      obtain ⟨g, o, rfl⟩ := HPi.out.some (by omega)
      obtain ⟨q0, hq⟩ : ∃ q0, pget p i = q0 := ⟨_, rfl⟩
      have HQ := Lib.hid hq
      have hin := HTp.out.all i hi
      rw [hq] at hin
      have z1 : (q0.x < a.x) = False := eq_false (by omega)
      have z2 : (b.x < q0.x) = False := eq_false (by omega)
      have z3 : (q0.y < a.y) = False := eq_false (by omega)
      have z4 : (b.y < q0.y) = False := eq_false (by omega)
      clear hq hin
      go_upto_region 13 with (fail)
      obtain ⟨WC, eW⟩ : ∃ WC, WC = wr := ⟨_, rfl⟩
      subst eW
      refine wp_region_held_drew (S := fun V => Below WC.heap.size WC V) (by kernel_rfl) ?_ (fun hHeld => ?_)
      · exact bel_drew WC
      revert hHeld
      generalize World.drew _ = W13
      intro hHeld 
      refine wpAnyH_take (i := 0) (v := ?_) rfl (by kernel_rfl) (by kernel_rfl) (by kernel_rfl) (fun _ _ _ h => h) (Or.inl ⟨by rfl, ?_⟩) (by assumption) ?_
      rotate_left
      · intro Wq hSw
        clear hSw
        go_simp
        all_goals (with_reducible rfl)
      try simp only [Act.put, List.getElem_toArray, List.getElem_cons_zero, List.setIfInBounds_toArray, List.set_cons_zero, List.set_cons_succ]
      refine wpAnyH_take (i := 1) (v := ?_) rfl (by kernel_rfl) (by kernel_rfl) (by kernel_rfl) (fun _ _ _ h => h) (Or.inl ⟨by rfl, ?_⟩) (by assumption) ?_
      rotate_left
      · intro Wq hSw
        clear hSw
        go_simp
        all_goals (with_reducible rfl)
      try simp only [Act.put, List.getElem_toArray, List.getElem_cons_succ, List.getElem_cons_zero, List.setIfInBounds_toArray, List.set_cons_zero, List.set_cons_succ]
      refine wpAnyH_take (i := 2) (v := ?_) rfl (by kernel_rfl) (by kernel_rfl) (by kernel_rfl) (fun _ _ _ h => h) (Or.inl ⟨by rfl, ?_⟩) (by assumption) ?_
      rotate_left
      · intro Wq hSw
        have b1 : ((i : Int) < (p.length : Int)) = True := eq_true (by omega)
        have d1 : (i < p.length) = True := eq_true (by omega)
        have c1 : ((0 : Int) ≤ (i : Int)) = True := eq_true (by omega)
        clear hSw
        go_simp
        all_goals (with_reducible rfl)
      try simp only [Act.put, List.getElem_toArray, List.getElem_cons_succ, List.getElem_cons_zero, List.setIfInBounds_toArray, List.set_cons_zero, List.set_cons_succ]
      refine wpAnyH_take (i := 3) (v := ?_) rfl (by kernel_rfl) (by kernel_rfl) (by kernel_rfl) (fun _ _ _ h => h) (Or.inl ⟨by rfl, ?_⟩) (by assumption) ?_
      rotate_left
      · intro Wq hSw
        clear hSw
        go_simp
        all_goals (with_reducible rfl)
      try simp only [Act.put, List.getElem_toArray, List.getElem_cons_succ, List.getElem_cons_zero, List.setIfInBounds_toArray, List.set_cons_zero, List.set_cons_succ]
      refine wpAnyH_take (i := 4) (v := ?_) rfl (by kernel_rfl) (by kernel_rfl) (by kernel_rfl) (fun _ _ _ h => h) (Or.inl ⟨by rfl, ?_⟩) (by assumption) ?_
      rotate_left
      · intro Wq hSw
        obtain ⟨k0, k1⟩ := ptRow_at (HPi.out.below hSw) (i := i) hi HQ.out
        clear hSw
        go_simp
        all_goals (with_reducible rfl)
      try simp only [Act.put, List.getElem_toArray, List.getElem_cons_succ, List.getElem_cons_zero, List.setIfInBounds_toArray, List.set_cons_zero, List.set_cons_succ]
      refine wpAnyH_take (i := 5) (v := ?_) rfl (by kernel_rfl) (by kernel_rfl) (by kernel_rfl) (fun _ _ _ h => h) (Or.inl ⟨by rfl, ?_⟩) (by assumption) ?_
      rotate_left
      · intro Wq hSw
        clear hSw
        go_simp
        all_goals (with_reducible rfl)
      try simp only [Act.put, List.getElem_toArray, List.getElem_cons_succ, List.getElem_cons_zero, List.setIfInBounds_toArray, List.set_cons_zero, List.set_cons_succ]
      refine wpAnyH_take (i := 6) (v := ?_) rfl (by kernel_rfl) (by kernel_rfl) (by kernel_rfl) (fun _ _ _ h => h) (Or.inl ⟨by rfl, ?_⟩) (by assumption) ?_
      rotate_left
      · intro Wq hSw
        obtain ⟨k0, k1⟩ := (HV5.out.below hSw).two
        clear hSw
        go_simp
        all_goals (with_reducible rfl)
      try simp only [Act.put, List.getElem_toArray, List.getElem_cons_succ, List.getElem_cons_zero, List.setIfInBounds_toArray, List.set_cons_zero, List.set_cons_succ]
      refine wpAnyH_take (i := 7) (v := ?_) rfl (by kernel_rfl) (by kernel_rfl) (by kernel_rfl) (fun _ _ _ h => h) (Or.inl ⟨by rfl, ?_⟩) (by assumption) ?_
      rotate_left
      · intro Wq hSw
        clear hSw
        go_simp
        all_goals (with_reducible rfl)
      try simp only [Act.put, List.getElem_toArray, List.getElem_cons_succ, List.getElem_cons_zero, List.setIfInBounds_toArray, List.set_cons_zero, List.set_cons_succ]
      refine wpAnyH_take (i := 8) (v := ?_) rfl (by kernel_rfl) (by kernel_rfl) (by kernel_rfl) (fun _ _ _ h => h) (Or.inl ⟨by rfl, ?_⟩) (by assumption) ?_
      rotate_left
      · intro Wq hSw
        clear hSw
        go_simp
        all_goals (with_reducible rfl)
      try simp only [Act.put, List.getElem_toArray, List.getElem_cons_succ, List.getElem_cons_zero, List.setIfInBounds_toArray, List.set_cons_zero, List.set_cons_succ]
      refine wpAnyH_take (i := 9) (v := ?_) rfl (by kernel_rfl) (by kernel_rfl) (by kernel_rfl) (fun _ _ _ h => h) (Or.inl ⟨by rfl, ?_⟩) (by assumption) ?_
      rotate_left
      · intro Wq hSw
        clear hSw
        go_simp
        all_goals (with_reducible rfl)
      try simp only [Act.put, List.getElem_toArray, List.getElem_cons_succ, List.getElem_cons_zero, List.setIfInBounds_toArray, List.set_cons_zero, List.set_cons_succ]
      refine wpAnyH_take (i := 10) (v := ?_) rfl (by kernel_rfl) (by kernel_rfl) (by kernel_rfl) (fun _ _ _ h => h) (Or.inl ⟨by rfl, ?_⟩) (by assumption) ?_
      rotate_left
      · intro Wq hSw
        clear hSw
        go_simp
        all_goals (with_reducible rfl)
      try simp only [Act.put, List.getElem_toArray, List.getElem_cons_succ, List.getElem_cons_zero, List.setIfInBounds_toArray, List.set_cons_zero, List.set_cons_succ]
      refine wpAnyH_take (i := 11) (v := ?_) rfl (by kernel_rfl) (by kernel_rfl) (by kernel_rfl) (fun _ _ _ h => h) (Or.inl ⟨by rfl, ?_⟩) (by assumption) ?_
      rotate_left
      · intro Wq hSw
        have b1 : ((i : Int) < (p.length : Int)) = True := eq_true (by omega)
        have d1 : (i < p.length) = True := eq_true (by omega)
        have c1 : ((0 : Int) ≤ (i : Int)) = True := eq_true (by omega)
        clear hSw
        go_simp
        all_goals (with_reducible rfl)
      try simp only [Act.put, List.getElem_toArray, List.getElem_cons_succ, List.getElem_cons_zero, List.setIfInBounds_toArray, List.set_cons_zero, List.set_cons_succ]
      refine wpAnyH_take (i := 12) (v := ?_) rfl (by kernel_rfl) (by kernel_rfl) (by kernel_rfl) (fun _ _ _ h => h) (Or.inl ⟨by rfl, ?_⟩) (by assumption) ?_
      rotate_left
      · intro Wq hSw
        clear hSw
        go_simp
        all_goals (with_reducible rfl)
      try simp only [Act.put, List.getElem_toArray, List.getElem_cons_succ, List.getElem_cons_zero, List.setIfInBounds_toArray, List.set_cons_zero, List.set_cons_succ]
      refine wpAnyH_take (i := 13) (v := ?_) rfl (by kernel_rfl) (by kernel_rfl) (by kernel_rfl) (fun _ _ _ h => h) (Or.inl ⟨by rfl, ?_⟩) (by assumption) ?_
      rotate_left
      · intro Wq hSw
        obtain ⟨k0, k1⟩ := ptRow_at (HPi.out.below hSw) (i := i) hi HQ.out
        clear hSw
        go_simp
        all_goals (with_reducible rfl)
      try simp only [Act.put, List.getElem_toArray, List.getElem_cons_succ, List.getElem_cons_zero, List.setIfInBounds_toArray, List.set_cons_zero, List.set_cons_succ]
      refine wpAnyH_take (i := 14) (v := ?_) rfl (by kernel_rfl) (by kernel_rfl) (by kernel_rfl) (fun _ _ _ h => h) (Or.inl ⟨by rfl, ?_⟩) (by assumption) ?_
      rotate_left
      · intro Wq hSw
        clear hSw
        go_simp
        all_goals (with_reducible rfl)
      try simp only [Act.put, List.getElem_toArray, List.getElem_cons_succ, List.getElem_cons_zero, List.setIfInBounds_toArray, List.set_cons_zero, List.set_cons_succ]
      refine wpAnyH_take (i := 15) (v := ?_) rfl (by kernel_rfl) (by kernel_rfl) (by kernel_rfl) (fun _ _ _ h => h) (Or.inl ⟨by rfl, ?_⟩) (by assumption) ?_
      rotate_left
      · intro Wq hSw
        obtain ⟨k0, k1⟩ := (HV6.out.below hSw).two
        clear hSw
        go_simp
        all_goals (with_reducible rfl)
      try simp only [Act.put, List.getElem_toArray, List.getElem_cons_succ, List.getElem_cons_zero, List.setIfInBounds_toArray, List.set_cons_zero, List.set_cons_succ]
      refine wpAnyH_take (i := 16) (v := ?_) rfl (by kernel_rfl) (by kernel_rfl) (by kernel_rfl) (fun _ _ _ h => h) (Or.inl ⟨by rfl, ?_⟩) (by assumption) ?_
      rotate_left
      · intro Wq hSw
        clear hSw
        go_simp
        all_goals (with_reducible rfl)
      try simp only [Act.put, List.getElem_toArray, List.getElem_cons_succ, List.getElem_cons_zero, List.setIfInBounds_toArray, List.set_cons_zero, List.set_cons_succ]
      refine wpAnyH_take (i := 17) (v := ?_) rfl (by kernel_rfl) (by kernel_rfl) (by kernel_rfl) (fun _ _ _ h => h) (Or.inl ⟨by rfl, ?_⟩) (by assumption) ?_
      rotate_left
      · intro Wq hSw
        clear hSw
        go_simp
        all_goals (with_reducible rfl)
      try simp only [Act.put, List.getElem_toArray, List.getElem_cons_succ, List.getElem_cons_zero, List.setIfInBounds_toArray, List.set_cons_zero, List.set_cons_succ]
      refine wpAnyH_take (i := 18) (v := ?_) rfl (by kernel_rfl) (by kernel_rfl) (by kernel_rfl) (fun _ _ _ h => h) (Or.inl ⟨by rfl, ?_⟩) (by assumption) ?_
      rotate_left
      · intro Wq hSw
        clear hSw
        go_simp
        all_goals (with_reducible rfl)
      try simp only [Act.put, List.getElem_toArray, List.getElem_cons_succ, List.getElem_cons_zero, List.setIfInBounds_toArray, List.set_cons_zero, List.set_cons_succ]
      refine wpAnyH_take (i := 19) (v := ?_) rfl (by kernel_rfl) (by kernel_rfl) (by kernel_rfl) (fun _ _ _ h => h) (Or.inl ⟨by rfl, ?_⟩) (by assumption) ?_
      rotate_left
      · intro Wq hSw
        clear hSw
        go_simp
        all_goals (with_reducible rfl)
      try simp only [Act.put, List.getElem_toArray, List.getElem_cons_succ, List.getElem_cons_zero, List.setIfInBounds_toArray, List.set_cons_zero, List.set_cons_succ]
      refine wpAnyH_take (i := 20) (v := ?_) rfl (by kernel_rfl) (by kernel_rfl) (by kernel_rfl) (fun _ _ _ h => h) (Or.inl ⟨by rfl, ?_⟩) (by assumption) ?_
      rotate_left
      · intro Wq hSw
        clear hSw
        go_simp
        all_goals (with_reducible rfl)
      try simp only [Act.put, List.getElem_toArray, List.getElem_cons_succ, List.getElem_cons_zero, List.setIfInBounds_toArray, List.set_cons_zero, List.set_cons_succ]
      refine wpAnyH_take (i := 21) (v := ?_) rfl (by kernel_rfl) (by kernel_rfl) (by kernel_rfl) (fun _ _ _ h => h) (Or.inl ⟨by rfl, ?_⟩) (by assumption) ?_
      rotate_left
      · intro Wq hSw
        have b1 : ((i : Int) < (p.length : Int)) = True := eq_true (by omega)
        have d1 : (i < p.length) = True := eq_true (by omega)
        have c1 : ((0 : Int) ≤ (i : Int)) = True := eq_true (by omega)
        clear hSw
        go_simp
        all_goals (with_reducible rfl)
      try simp only [Act.put, List.getElem_toArray, List.getElem_cons_succ, List.getElem_cons_zero, List.setIfInBounds_toArray, List.set_cons_zero, List.set_cons_succ]
      refine wpAnyH_take (i := 22) (v := ?_) rfl (by kernel_rfl) (by kernel_rfl) (by kernel_rfl) (fun _ _ _ h => h) (Or.inl ⟨by rfl, ?_⟩) (by assumption) ?_
      rotate_left
      · intro Wq hSw
        clear hSw
        go_simp
        all_goals (with_reducible rfl)
      try simp only [Act.put, List.getElem_toArray, List.getElem_cons_succ, List.getElem_cons_zero, List.setIfInBounds_toArray, List.set_cons_zero, List.set_cons_succ]
      refine wpAnyH_take (i := 23) (v := ?_) rfl (by kernel_rfl) (by kernel_rfl) (by kernel_rfl) (fun _ _ _ h => h) (Or.inl ⟨by rfl, ?_⟩) (by assumption) ?_
      rotate_left
      · intro Wq hSw
        obtain ⟨k0, k1⟩ := ptRow_at (HPi.out.below hSw) (i := i) hi HQ.out
        clear hSw
        go_simp
        all_goals (with_reducible rfl)
      try simp only [Act.put, List.getElem_toArray, List.getElem_cons_succ, List.getElem_cons_zero, List.setIfInBounds_toArray, List.set_cons_zero, List.set_cons_succ]
      refine wpAnyH_take (i := 24) (v := ?_) rfl (by kernel_rfl) (by kernel_rfl) (by kernel_rfl) (fun _ _ _ h => h) (Or.inl ⟨by rfl, ?_⟩) (by assumption) ?_
      rotate_left
      · intro Wq hSw
        clear hSw
        go_simp
        all_goals (with_reducible rfl)
      try simp only [Act.put, List.getElem_toArray, List.getElem_cons_succ, List.getElem_cons_zero, List.setIfInBounds_toArray, List.set_cons_zero, List.set_cons_succ]
      refine wpAnyH_take (i := 25) (v := ?_) rfl (by kernel_rfl) (by kernel_rfl) (by kernel_rfl) (fun _ _ _ h => h) (Or.inl ⟨by rfl, ?_⟩) (by assumption) ?_
      rotate_left
      · intro Wq hSw
        obtain ⟨k0, k1⟩ := (HV5.out.below hSw).two
        clear hSw
        go_simp
        all_goals (with_reducible rfl)
      try simp only [Act.put, List.getElem_toArray, List.getElem_cons_succ, List.getElem_cons_zero, List.setIfInBounds_toArray, List.set_cons_zero, List.set_cons_succ]
      refine wpAnyH_take (i := 26) (v := ?_) rfl (by kernel_rfl) (by kernel_rfl) (by kernel_rfl) (fun _ _ _ h => h) (Or.inl ⟨by rfl, ?_⟩) (by assumption) ?_
      rotate_left
      · intro Wq hSw
        clear hSw
        go_simp
        all_goals (with_reducible rfl)
      try simp only [Act.put, List.getElem_toArray, List.getElem_cons_succ, List.getElem_cons_zero, List.setIfInBounds_toArray, List.set_cons_zero, List.set_cons_succ]
      refine wpAnyH_take (i := 27) (v := ?_) rfl (by kernel_rfl) (by kernel_rfl) (by kernel_rfl) (fun _ _ _ h => h) (Or.inl ⟨by rfl, ?_⟩) (by assumption) ?_
      rotate_left
      · intro Wq hSw
        clear hSw
        go_simp
        all_goals (with_reducible rfl)
      try simp only [Act.put, List.getElem_toArray, List.getElem_cons_succ, List.getElem_cons_zero, List.setIfInBounds_toArray, List.set_cons_zero, List.set_cons_succ]
      refine wpAnyH_take (i := 28) (v := ?_) rfl (by kernel_rfl) (by kernel_rfl) (by kernel_rfl) (fun _ _ _ h => h) (Or.inl ⟨by rfl, ?_⟩) (by assumption) ?_
      rotate_left
      · intro Wq hSw
        clear hSw
        go_simp
        all_goals (with_reducible rfl)
      try simp only [Act.put, List.getElem_toArray, List.getElem_cons_succ, List.getElem_cons_zero, List.setIfInBounds_toArray, List.set_cons_zero, List.set_cons_succ]
      refine wpAnyH_take (i := 29) (v := ?_) rfl (by kernel_rfl) (by kernel_rfl) (by kernel_rfl) (fun _ _ _ h => h) (Or.inl ⟨by rfl, ?_⟩) (by assumption) ?_
      rotate_left
      · intro Wq hSw
        clear hSw
        go_simp
        all_goals (with_reducible rfl)
      try simp only [Act.put, List.getElem_toArray, List.getElem_cons_succ, List.getElem_cons_zero, List.setIfInBounds_toArray, List.set_cons_zero, List.set_cons_succ]
      refine wpAnyH_take (i := 30) (v := ?_) rfl (by kernel_rfl) (by kernel_rfl) (by kernel_rfl) (fun _ _ _ h => h) (Or.inl ⟨by rfl, ?_⟩) (by assumption) ?_
      rotate_left
      · intro Wq hSw
        clear hSw
        go_simp
        all_goals (with_reducible rfl)
      try simp only [Act.put, List.getElem_toArray, List.getElem_cons_succ, List.getElem_cons_zero, List.setIfInBounds_toArray, List.set_cons_zero, List.set_cons_succ]
      refine wpAnyH_take (i := 31) (v := ?_) rfl (by kernel_rfl) (by kernel_rfl) (by kernel_rfl) (fun _ _ _ h => h) (Or.inl ⟨by rfl, ?_⟩) (by assumption) ?_
      rotate_left
      · intro Wq hSw
        have b1 : ((i : Int) < (p.length : Int)) = True := eq_true (by omega)
        have d1 : (i < p.length) = True := eq_true (by omega)
        have c1 : ((0 : Int) ≤ (i : Int)) = True := eq_true (by omega)
        clear hSw
        go_simp
        all_goals (with_reducible rfl)
      try simp only [Act.put, List.getElem_toArray, List.getElem_cons_succ, List.getElem_cons_zero, List.setIfInBounds_toArray, List.set_cons_zero, List.set_cons_succ]
      refine wpAnyH_take (i := 32) (v := ?_) rfl (by kernel_rfl) (by kernel_rfl) (by kernel_rfl) (fun _ _ _ h => h) (Or.inl ⟨by rfl, ?_⟩) (by assumption) ?_
      rotate_left
      · intro Wq hSw
        clear hSw
        go_simp
        all_goals (with_reducible rfl)
      try simp only [Act.put, List.getElem_toArray, List.getElem_cons_succ, List.getElem_cons_zero, List.setIfInBounds_toArray, List.set_cons_zero, List.set_cons_succ]
      refine wpAnyH_take (i := 33) (v := ?_) rfl (by kernel_rfl) (by kernel_rfl) (by kernel_rfl) (fun _ _ _ h => h) (Or.inl ⟨by rfl, ?_⟩) (by assumption) ?_
      rotate_left
      · intro Wq hSw
        obtain ⟨k0, k1⟩ := ptRow_at (HPi.out.below hSw) (i := i) hi HQ.out
        clear hSw
        go_simp
        all_goals (with_reducible rfl)
      try simp only [Act.put, List.getElem_toArray, List.getElem_cons_succ, List.getElem_cons_zero, List.setIfInBounds_toArray, List.set_cons_zero, List.set_cons_succ]
      refine wpAnyH_take (i := 34) (v := ?_) rfl (by kernel_rfl) (by kernel_rfl) (by kernel_rfl) (fun _ _ _ h => h) (Or.inl ⟨by rfl, ?_⟩) (by assumption) ?_
      rotate_left
      · intro Wq hSw
        clear hSw
        go_simp
        all_goals (with_reducible rfl)
      try simp only [Act.put, List.getElem_toArray, List.getElem_cons_succ, List.getElem_cons_zero, List.setIfInBounds_toArray, List.set_cons_zero, List.set_cons_succ]
      refine wpAnyH_take (i := 35) (v := ?_) rfl (by kernel_rfl) (by kernel_rfl) (by kernel_rfl) (fun _ _ _ h => h) (Or.inl ⟨by rfl, ?_⟩) (by assumption) ?_
      rotate_left
      · intro Wq hSw
        obtain ⟨k0, k1⟩ := (HV6.out.below hSw).two
        clear hSw
        go_simp
        all_goals (with_reducible rfl)
      try simp only [Act.put, List.getElem_toArray, List.getElem_cons_succ, List.getElem_cons_zero, List.setIfInBounds_toArray, List.set_cons_zero, List.set_cons_succ]
      refine wpAnyH_take (i := 36) (v := ?_) rfl (by kernel_rfl) (by kernel_rfl) (by kernel_rfl) (fun _ _ _ h => h) (Or.inl ⟨by rfl, ?_⟩) (by assumption) ?_
      rotate_left
      · intro Wq hSw
        clear hSw
        go_simp
        all_goals (with_reducible rfl)
      try simp only [Act.put, List.getElem_toArray, List.getElem_cons_succ, List.getElem_cons_zero, List.setIfInBounds_toArray, List.set_cons_zero, List.set_cons_succ]
      refine wpAnyH_take (i := 37) (v := ?_) rfl (by kernel_rfl) (by kernel_rfl) (by kernel_rfl) (fun _ _ _ h => h) (Or.inl ⟨by rfl, ?_⟩) (by assumption) ?_
      rotate_left
      · intro Wq hSw
        clear hSw
        go_simp
        all_goals (with_reducible rfl)
      try simp only [Act.put, List.getElem_toArray, List.getElem_cons_succ, List.getElem_cons_zero, List.setIfInBounds_toArray, List.set_cons_zero, List.set_cons_succ]
      refine wpAnyH_done (by kernel_rfl) ?_ _
      have hW := hHeld
      clear hHeld
      replace HPi := Lib.hid (HPi.out.below hW)
      replace HV5 := Lib.hid (HV5.out.below hW)
      replace HV6 := Lib.hid (HV6.out.below hW)
      replace HW := Lib.hid (bl_trans HW.out hW)
      clear hW
      go_upto_region 15 with (fail)
      obtain ⟨WC, eW⟩ : ∃ WC, WC = W13 := ⟨_, rfl⟩
      subst eW
      have HST := Lib.hid (anyX_succ p Pt.x (a.x) i)
      rw [HQ.out] at HST
      go_cut [8] (fun x W => x = .bool (anyX p Pt.x a.x (i + 1)) ∧ Below WC.heap.size WC W)
      case first =>
        obtain ⟨t, ht⟩ : ∃ t, anyX p Pt.x a.x i = t := ⟨_, rfl⟩
        rw [ht] at HST ⊢
        clear ht
        cases t with
        | true =>
          rw [Bool.true_or] at HST
          refine wp_region_held_drew (S := fun V => Below WC.heap.size WC V) (by kernel_rfl) ?_ (fun hHeld => ?_)
          · exact bel_drew WC
          revert hHeld
          generalize World.drew _ = W1
          intro hHeld 
          refine wpAnyH_take (i := 0) (v := ?_) rfl (by kernel_rfl) (by kernel_rfl) (by kernel_rfl) (fun _ _ _ h => h) (Or.inl ⟨by rfl, ?_⟩) (by assumption) ?_
          rotate_left
          · intro Wq hSw
            clear hSw
            go_simp
            all_goals (with_reducible rfl)
          try simp only [Act.put, List.getElem_toArray, List.getElem_cons_zero, List.setIfInBounds_toArray, List.set_cons_zero, List.set_cons_succ]
          refine wpAnyH_take (i := 1) (v := ?_) rfl (by kernel_rfl) (by kernel_rfl) (by kernel_rfl) (fun _ _ _ h => h) (Or.inl ⟨by rfl, ?_⟩) (by assumption) ?_
          rotate_left
          · intro Wq hSw
            clear hSw
            go_simp
            all_goals (with_reducible rfl)
          try simp only [Act.put, List.getElem_toArray, List.getElem_cons_succ, List.getElem_cons_zero, List.setIfInBounds_toArray, List.set_cons_zero, List.set_cons_succ]
          refine wpAnyH_take (i := 2) (v := _) rfl (by kernel_rfl) (by kernel_rfl) (by kernel_rfl) (fun _ _ _ h => h) (Or.inr ⟨by rfl, rfl⟩) (by assumption) ?_
          try simp only [Act.put, List.getElem_toArray, List.getElem_cons_succ, List.getElem_cons_zero, List.setIfInBounds_toArray, List.set_cons_zero, List.set_cons_succ]
          refine wpAnyH_take (i := 3) (v := _) rfl (by kernel_rfl) (by kernel_rfl) (by kernel_rfl) (fun _ _ _ h => h) (Or.inr ⟨by rfl, rfl⟩) (by assumption) ?_
          try simp only [Act.put, List.getElem_toArray, List.getElem_cons_succ, List.getElem_cons_zero, List.setIfInBounds_toArray, List.set_cons_zero, List.set_cons_succ]
          refine wpAnyH_take (i := 4) (v := _) rfl (by kernel_rfl) (by kernel_rfl) (by kernel_rfl) (fun _ _ _ h => h) (Or.inr ⟨by rfl, rfl⟩) (by assumption) ?_
          try simp only [Act.put, List.getElem_toArray, List.getElem_cons_succ, List.getElem_cons_zero, List.setIfInBounds_toArray, List.set_cons_zero, List.set_cons_succ]
          refine wpAnyH_take (i := 5) (v := _) rfl (by kernel_rfl) (by kernel_rfl) (by kernel_rfl) (fun _ _ _ h => h) (Or.inr ⟨by rfl, rfl⟩) (by assumption) ?_
          try simp only [Act.put, List.getElem_toArray, List.getElem_cons_succ, List.getElem_cons_zero, List.setIfInBounds_toArray, List.set_cons_zero, List.set_cons_succ]
          refine wpAnyH_take (i := 6) (v := _) rfl (by kernel_rfl) (by kernel_rfl) (by kernel_rfl) (fun _ _ _ h => h) (Or.inr ⟨by rfl, rfl⟩) (by assumption) ?_
          try simp only [Act.put, List.getElem_toArray, List.getElem_cons_succ, List.getElem_cons_zero, List.setIfInBounds_toArray, List.set_cons_zero, List.set_cons_succ]
          refine wpAnyH_take (i := 7) (v := _) rfl (by kernel_rfl) (by kernel_rfl) (by kernel_rfl) (fun _ _ _ h => h) (Or.inr ⟨by rfl, rfl⟩) (by assumption) ?_
          try simp only [Act.put, List.getElem_toArray, List.getElem_cons_succ, List.getElem_cons_zero, List.setIfInBounds_toArray, List.set_cons_zero, List.set_cons_succ]
          refine wpAnyH_take (i := 8) (v := _) rfl (by kernel_rfl) (by kernel_rfl) (by kernel_rfl) (fun _ _ _ h => h) (Or.inr ⟨by rfl, rfl⟩) (by assumption) ?_
          try simp only [Act.put, List.getElem_toArray, List.getElem_cons_succ, List.getElem_cons_zero, List.setIfInBounds_toArray, List.set_cons_zero, List.set_cons_succ]
          refine wpAnyH_take (i := 9) (v := _) rfl (by kernel_rfl) (by kernel_rfl) (by kernel_rfl) (fun _ _ _ h => h) (Or.inr ⟨by rfl, rfl⟩) (by assumption) ?_
          try simp only [Act.put, List.getElem_toArray, List.getElem_cons_succ, List.getElem_cons_zero, List.setIfInBounds_toArray, List.set_cons_zero, List.set_cons_succ]
          refine wpAnyH_take (i := 10) (v := ?_) rfl (by kernel_rfl) (by kernel_rfl) (by kernel_rfl) (fun _ _ _ h => h) (Or.inl ⟨by rfl, ?_⟩) (by assumption) ?_
          rotate_left
          · intro Wq hSw
            clear hSw
            go_simp
            all_goals (with_reducible rfl)
          try simp only [Act.put, List.getElem_toArray, List.getElem_cons_succ, List.getElem_cons_zero, List.setIfInBounds_toArray, List.set_cons_zero, List.set_cons_succ]
          refine wpAnyH_take (i := 11) (v := ?_) rfl (by kernel_rfl) (by kernel_rfl) (by kernel_rfl) (fun _ _ _ h => h) (Or.inl ⟨by rfl, ?_⟩) (by assumption) ?_
          rotate_left
          · intro Wq hSw
            clear hSw
            go_simp
            all_goals (with_reducible rfl)
          try simp only [Act.put, List.getElem_toArray, List.getElem_cons_succ, List.getElem_cons_zero, List.setIfInBounds_toArray, List.set_cons_zero, List.set_cons_succ]
          refine wpAnyH_done (by kernel_rfl) ?_ _
          go_wp2_with fail
          go_meet
          case rel => exact ⟨by rw [HST.out], hHeld⟩
        | false =>
          rw [Bool.false_or] at HST
          by_cases hc : q0.x = a.x
          · have z1 : (q0.x = a.x) = True := eq_true hc
            have z2 : (q0.x == a.x) = true := beq_iff_eq.mpr hc
            rw [decide_eq_true hc] at HST
            clear hc
            refine wp_region_held_drew (S := fun V => Below WC.heap.size WC V) (by kernel_rfl) ?_ (fun hHeld => ?_)
            · exact bel_drew WC
            revert hHeld
            generalize World.drew _ = W1
            intro hHeld 
            refine wpAnyH_take (i := 0) (v := ?_) rfl (by kernel_rfl) (by kernel_rfl) (by kernel_rfl) (fun _ _ _ h => h) (Or.inl ⟨by rfl, ?_⟩) (by assumption) ?_
            rotate_left
            · intro Wq hSw
              clear hSw
              go_simp
              all_goals (with_reducible rfl)
            try simp only [Act.put, List.getElem_toArray, List.getElem_cons_zero, List.setIfInBounds_toArray, List.set_cons_zero, List.set_cons_succ]
            refine wpAnyH_take (i := 1) (v := ?_) rfl (by kernel_rfl) (by kernel_rfl) (by kernel_rfl) (fun _ _ _ h => h) (Or.inl ⟨by rfl, ?_⟩) (by assumption) ?_
            rotate_left
            · intro Wq hSw
              clear hSw
              go_simp
              all_goals (with_reducible rfl)
            try simp only [Act.put, List.getElem_toArray, List.getElem_cons_succ, List.getElem_cons_zero, List.setIfInBounds_toArray, List.set_cons_zero, List.set_cons_succ]
            refine wpAnyH_take (i := 2) (v := ?_) rfl (by kernel_rfl) (by kernel_rfl) (by kernel_rfl) (fun _ _ _ h => h) (Or.inl ⟨by rfl, ?_⟩) (by assumption) ?_
            rotate_left
            · intro Wq hSw
              clear hSw
              go_simp
              all_goals (with_reducible rfl)
            try simp only [Act.put, List.getElem_toArray, List.getElem_cons_succ, List.getElem_cons_zero, List.setIfInBounds_toArray, List.set_cons_zero, List.set_cons_succ]
            refine wpAnyH_take (i := 3) (v := ?_) rfl (by kernel_rfl) (by kernel_rfl) (by kernel_rfl) (fun _ _ _ h => h) (Or.inl ⟨by rfl, ?_⟩) (by assumption) ?_
            rotate_left
            · intro Wq hSw
              clear hSw
              go_simp
              all_goals (with_reducible rfl)
            try simp only [Act.put, List.getElem_toArray, List.getElem_cons_succ, List.getElem_cons_zero, List.setIfInBounds_toArray, List.set_cons_zero, List.set_cons_succ]
            refine wpAnyH_take (i := 4) (v := ?_) rfl (by kernel_rfl) (by kernel_rfl) (by kernel_rfl) (fun _ _ _ h => h) (Or.inl ⟨by rfl, ?_⟩) (by assumption) ?_
            rotate_left
            · intro Wq hSw
              have b1 : ((i : Int) < (p.length : Int)) = True := eq_true (by omega)
              have d1 : (i < p.length) = True := eq_true (by omega)
              have c1 : ((0 : Int) ≤ (i : Int)) = True := eq_true (by omega)
              clear hSw
              go_simp
              all_goals (with_reducible rfl)
            try simp only [Act.put, List.getElem_toArray, List.getElem_cons_succ, List.getElem_cons_zero, List.setIfInBounds_toArray, List.set_cons_zero, List.set_cons_succ]
            refine wpAnyH_take (i := 5) (v := ?_) rfl (by kernel_rfl) (by kernel_rfl) (by kernel_rfl) (fun _ _ _ h => h) (Or.inl ⟨by rfl, ?_⟩) (by assumption) ?_
            rotate_left
            · intro Wq hSw
              clear hSw
              go_simp
              all_goals (with_reducible rfl)
            try simp only [Act.put, List.getElem_toArray, List.getElem_cons_succ, List.getElem_cons_zero, List.setIfInBounds_toArray, List.set_cons_zero, List.set_cons_succ]
            refine wpAnyH_take (i := 6) (v := ?_) rfl (by kernel_rfl) (by kernel_rfl) (by kernel_rfl) (fun _ _ _ h => h) (Or.inl ⟨by rfl, ?_⟩) (by assumption) ?_
            rotate_left
            · intro Wq hSw
              obtain ⟨k0, k1⟩ := ptRow_at (HPi.out.below hSw) (i := i) hi HQ.out
              clear hSw
              go_simp
              all_goals (with_reducible rfl)
            try simp only [Act.put, List.getElem_toArray, List.getElem_cons_succ, List.getElem_cons_zero, List.setIfInBounds_toArray, List.set_cons_zero, List.set_cons_succ]
            refine wpAnyH_take (i := 7) (v := ?_) rfl (by kernel_rfl) (by kernel_rfl) (by kernel_rfl) (fun _ _ _ h => h) (Or.inl ⟨by rfl, ?_⟩) (by assumption) ?_
            rotate_left
            · intro Wq hSw
              clear hSw
              go_simp
              all_goals (with_reducible rfl)
            try simp only [Act.put, List.getElem_toArray, List.getElem_cons_succ, List.getElem_cons_zero, List.setIfInBounds_toArray, List.set_cons_zero, List.set_cons_succ]
            refine wpAnyH_take (i := 8) (v := ?_) rfl (by kernel_rfl) (by kernel_rfl) (by kernel_rfl) (fun _ _ _ h => h) (Or.inl ⟨by rfl, ?_⟩) (by assumption) ?_
            rotate_left
            · intro Wq hSw
              obtain ⟨k0, k1⟩ := (HV5.out.below hSw).two
              clear hSw
              go_simp
              all_goals (with_reducible rfl)
            try simp only [Act.put, List.getElem_toArray, List.getElem_cons_succ, List.getElem_cons_zero, List.setIfInBounds_toArray, List.set_cons_zero, List.set_cons_succ]
            refine wpAnyH_take (i := 9) (v := ?_) rfl (by kernel_rfl) (by kernel_rfl) (by kernel_rfl) (fun _ _ _ h => h) (Or.inl ⟨by rfl, ?_⟩) (by assumption) ?_
            rotate_left
            · intro Wq hSw
              clear hSw
              go_simp
              all_goals (with_reducible rfl)
            try simp only [Act.put, List.getElem_toArray, List.getElem_cons_succ, List.getElem_cons_zero, List.setIfInBounds_toArray, List.set_cons_zero, List.set_cons_succ]
            refine wpAnyH_take (i := 10) (v := ?_) rfl (by kernel_rfl) (by kernel_rfl) (by kernel_rfl) (fun _ _ _ h => h) (Or.inl ⟨by rfl, ?_⟩) (by assumption) ?_
            rotate_left
            · intro Wq hSw
              clear hSw
              go_simp
              all_goals (with_reducible rfl)
            try simp only [Act.put, List.getElem_toArray, List.getElem_cons_succ, List.getElem_cons_zero, List.setIfInBounds_toArray, List.set_cons_zero, List.set_cons_succ]
            refine wpAnyH_take (i := 11) (v := ?_) rfl (by kernel_rfl) (by kernel_rfl) (by kernel_rfl) (fun _ _ _ h => h) (Or.inl ⟨by rfl, ?_⟩) (by assumption) ?_
            rotate_left
            · intro Wq hSw
              clear hSw
              go_simp
              all_goals (with_reducible rfl)
            try simp only [Act.put, List.getElem_toArray, List.getElem_cons_succ, List.getElem_cons_zero, List.setIfInBounds_toArray, List.set_cons_zero, List.set_cons_succ]
            refine wpAnyH_done (by kernel_rfl) ?_ _
            go_wp2_with fail
            go_meet
            case rel => exact ⟨by rw [HST.out], hHeld⟩
          · have z1 : (q0.x = a.x) = False := eq_false hc
            have z2 : (q0.x == a.x) = false := beq_eq_false_iff_ne.mpr hc
            rw [decide_eq_false hc] at HST
            clear hc
            refine wp_region_held_drew (S := fun V => Below WC.heap.size WC V) (by kernel_rfl) ?_ (fun hHeld => ?_)
            · exact bel_drew WC
            revert hHeld
            generalize World.drew _ = W1
            intro hHeld 
            refine wpAnyH_take (i := 0) (v := ?_) rfl (by kernel_rfl) (by kernel_rfl) (by kernel_rfl) (fun _ _ _ h => h) (Or.inl ⟨by rfl, ?_⟩) (by assumption) ?_
            rotate_left
            · intro Wq hSw
              clear hSw
              go_simp
              all_goals (with_reducible rfl)
            try simp only [Act.put, List.getElem_toArray, List.getElem_cons_zero, List.setIfInBounds_toArray, List.set_cons_zero, List.set_cons_succ]
            refine wpAnyH_take (i := 1) (v := ?_) rfl (by kernel_rfl) (by kernel_rfl) (by kernel_rfl) (fun _ _ _ h => h) (Or.inl ⟨by rfl, ?_⟩) (by assumption) ?_
            rotate_left
            · intro Wq hSw
              clear hSw
              go_simp
              all_goals (with_reducible rfl)
            try simp only [Act.put, List.getElem_toArray, List.getElem_cons_succ, List.getElem_cons_zero, List.setIfInBounds_toArray, List.set_cons_zero, List.set_cons_succ]
            refine wpAnyH_take (i := 2) (v := ?_) rfl (by kernel_rfl) (by kernel_rfl) (by kernel_rfl) (fun _ _ _ h => h) (Or.inl ⟨by rfl, ?_⟩) (by assumption) ?_
            rotate_left
            · intro Wq hSw
              clear hSw
              go_simp
              all_goals (with_reducible rfl)
            try simp only [Act.put, List.getElem_toArray, List.getElem_cons_succ, List.getElem_cons_zero, List.setIfInBounds_toArray, List.set_cons_zero, List.set_cons_succ]
            refine wpAnyH_take (i := 3) (v := ?_) rfl (by kernel_rfl) (by kernel_rfl) (by kernel_rfl) (fun _ _ _ h => h) (Or.inl ⟨by rfl, ?_⟩) (by assumption) ?_
            rotate_left
            · intro Wq hSw
              clear hSw
              go_simp
              all_goals (with_reducible rfl)
            try simp only [Act.put, List.getElem_toArray, List.getElem_cons_succ, List.getElem_cons_zero, List.setIfInBounds_toArray, List.set_cons_zero, List.set_cons_succ]
            refine wpAnyH_take (i := 4) (v := ?_) rfl (by kernel_rfl) (by kernel_rfl) (by kernel_rfl) (fun _ _ _ h => h) (Or.inl ⟨by rfl, ?_⟩) (by assumption) ?_
            rotate_left
            · intro Wq hSw
              have b1 : ((i : Int) < (p.length : Int)) = True := eq_true (by omega)
              have d1 : (i < p.length) = True := eq_true (by omega)
              have c1 : ((0 : Int) ≤ (i : Int)) = True := eq_true (by omega)
              clear hSw
              go_simp
              all_goals (with_reducible rfl)
            try simp only [Act.put, List.getElem_toArray, List.getElem_cons_succ, List.getElem_cons_zero, List.setIfInBounds_toArray, List.set_cons_zero, List.set_cons_succ]
            refine wpAnyH_take (i := 5) (v := ?_) rfl (by kernel_rfl) (by kernel_rfl) (by kernel_rfl) (fun _ _ _ h => h) (Or.inl ⟨by rfl, ?_⟩) (by assumption) ?_
            rotate_left
            · intro Wq hSw
              clear hSw
              go_simp
              all_goals (with_reducible rfl)
            try simp only [Act.put, List.getElem_toArray, List.getElem_cons_succ, List.getElem_cons_zero, List.setIfInBounds_toArray, List.set_cons_zero, List.set_cons_succ]
            refine wpAnyH_take (i := 6) (v := ?_) rfl (by kernel_rfl) (by kernel_rfl) (by kernel_rfl) (fun _ _ _ h => h) (Or.inl ⟨by rfl, ?_⟩) (by assumption) ?_
            rotate_left
            · intro Wq hSw
              obtain ⟨k0, k1⟩ := ptRow_at (HPi.out.below hSw) (i := i) hi HQ.out
              clear hSw
              go_simp
              all_goals (with_reducible rfl)
            try simp only [Act.put, List.getElem_toArray, List.getElem_cons_succ, List.getElem_cons_zero, List.setIfInBounds_toArray, List.set_cons_zero, List.set_cons_succ]
            refine wpAnyH_take (i := 7) (v := ?_) rfl (by kernel_rfl) (by kernel_rfl) (by kernel_rfl) (fun _ _ _ h => h) (Or.inl ⟨by rfl, ?_⟩) (by assumption) ?_
            rotate_left
            · intro Wq hSw
              clear hSw
              go_simp
              all_goals (with_reducible rfl)
            try simp only [Act.put, List.getElem_toArray, List.getElem_cons_succ, List.getElem_cons_zero, List.setIfInBounds_toArray, List.set_cons_zero, List.set_cons_succ]
            refine wpAnyH_take (i := 8) (v := ?_) rfl (by kernel_rfl) (by kernel_rfl) (by kernel_rfl) (fun _ _ _ h => h) (Or.inl ⟨by rfl, ?_⟩) (by assumption) ?_
            rotate_left
            · intro Wq hSw
              obtain ⟨k0, k1⟩ := (HV5.out.below hSw).two
              clear hSw
              go_simp
              all_goals (with_reducible rfl)
            try simp only [Act.put, List.getElem_toArray, List.getElem_cons_succ, List.getElem_cons_zero, List.setIfInBounds_toArray, List.set_cons_zero, List.set_cons_succ]
            refine wpAnyH_take (i := 9) (v := ?_) rfl (by kernel_rfl) (by kernel_rfl) (by kernel_rfl) (fun _ _ _ h => h) (Or.inl ⟨by rfl, ?_⟩) (by assumption) ?_
            rotate_left
            · intro Wq hSw
              clear hSw
              go_simp
              all_goals (with_reducible rfl)
            try simp only [Act.put, List.getElem_toArray, List.getElem_cons_succ, List.getElem_cons_zero, List.setIfInBounds_toArray, List.set_cons_zero, List.set_cons_succ]
            refine wpAnyH_take (i := 10) (v := ?_) rfl (by kernel_rfl) (by kernel_rfl) (by kernel_rfl) (fun _ _ _ h => h) (Or.inl ⟨by rfl, ?_⟩) (by assumption) ?_
            rotate_left
            · intro Wq hSw
              clear hSw
              go_simp
              all_goals (with_reducible rfl)
            try simp only [Act.put, List.getElem_toArray, List.getElem_cons_succ, List.getElem_cons_zero, List.setIfInBounds_toArray, List.set_cons_zero, List.set_cons_succ]
            refine wpAnyH_take (i := 11) (v := ?_) rfl (by kernel_rfl) (by kernel_rfl) (by kernel_rfl) (fun _ _ _ h => h) (Or.inl ⟨by rfl, ?_⟩) (by assumption) ?_
            rotate_left
            · intro Wq hSw
              clear hSw
              go_simp
              all_goals (with_reducible rfl)
            try simp only [Act.put, List.getElem_toArray, List.getElem_cons_succ, List.getElem_cons_zero, List.setIfInBounds_toArray, List.set_cons_zero, List.set_cons_succ]
            refine wpAnyH_done (by kernel_rfl) ?_ _
            go_wp2_with fail
            go_meet
            case rel => exact ⟨by rw [HST.out], hHeld⟩
      case rest =>
        obtain ⟨rfl, hW⟩ := hcut
        clear HST
        replace HPi := Lib.hid (HPi.out.below hW)
        replace HV5 := Lib.hid (HV5.out.below hW)
        replace HV6 := Lib.hid (HV6.out.below hW)
        replace HW := Lib.hid (bl_trans HW.out hW)
        clear hW
        go_upto_region 16 with (fail)
        obtain ⟨WC, eW⟩ : ∃ WC, WC = wc := ⟨_, rfl⟩
        subst eW
        have HST := Lib.hid (anyX_succ p Pt.x (b.x) i)
        rw [HQ.out] at HST
        go_cut [9] (fun x W => x = .bool (anyX p Pt.x b.x (i + 1)) ∧ Below WC.heap.size WC W)
        case first =>
          obtain ⟨t, ht⟩ : ∃ t, anyX p Pt.x b.x i = t := ⟨_, rfl⟩
          rw [ht] at HST ⊢
          clear ht
          cases t with
          | true =>
            rw [Bool.true_or] at HST
            refine wp_region_held_drew (S := fun V => Below WC.heap.size WC V) (by kernel_rfl) ?_ (fun hHeld => ?_)
            · exact bel_drew WC
            revert hHeld
            generalize World.drew _ = W1
            intro hHeld 
            refine wpAnyH_take (i := 0) (v := ?_) rfl (by kernel_rfl) (by kernel_rfl) (by kernel_rfl) (fun _ _ _ h => h) (Or.inl ⟨by rfl, ?_⟩) (by assumption) ?_
            rotate_left
            · intro Wq hSw
              clear hSw
              go_simp
              all_goals (with_reducible rfl)
            try simp only [Act.put, List.getElem_toArray, List.getElem_cons_zero, List.setIfInBounds_toArray, List.set_cons_zero, List.set_cons_succ]
            refine wpAnyH_take (i := 1) (v := ?_) rfl (by kernel_rfl) (by kernel_rfl) (by kernel_rfl) (fun _ _ _ h => h) (Or.inl ⟨by rfl, ?_⟩) (by assumption) ?_
            rotate_left
            · intro Wq hSw
              clear hSw
              go_simp
              all_goals (with_reducible rfl)
            try simp only [Act.put, List.getElem_toArray, List.getElem_cons_succ, List.getElem_cons_zero, List.setIfInBounds_toArray, List.set_cons_zero, List.set_cons_succ]
            refine wpAnyH_take (i := 2) (v := _) rfl (by kernel_rfl) (by kernel_rfl) (by kernel_rfl) (fun _ _ _ h => h) (Or.inr ⟨by rfl, rfl⟩) (by assumption) ?_
            try simp only [Act.put, List.getElem_toArray, List.getElem_cons_succ, List.getElem_cons_zero, List.setIfInBounds_toArray, List.set_cons_zero, List.set_cons_succ]
            refine wpAnyH_take (i := 3) (v := _) rfl (by kernel_rfl) (by kernel_rfl) (by kernel_rfl) (fun _ _ _ h => h) (Or.inr ⟨by rfl, rfl⟩) (by assumption) ?_
            try simp only [Act.put, List.getElem_toArray, List.getElem_cons_succ, List.getElem_cons_zero, List.setIfInBounds_toArray, List.set_cons_zero, List.set_cons_succ]
            refine wpAnyH_take (i := 4) (v := _) rfl (by kernel_rfl) (by kernel_rfl) (by kernel_rfl) (fun _ _ _ h => h) (Or.inr ⟨by rfl, rfl⟩) (by assumption) ?_
            try simp only [Act.put, List.getElem_toArray, List.getElem_cons_succ, List.getElem_cons_zero, List.setIfInBounds_toArray, List.set_cons_zero, List.set_cons_succ]
            refine wpAnyH_take (i := 5) (v := _) rfl (by kernel_rfl) (by kernel_rfl) (by kernel_rfl) (fun _ _ _ h => h) (Or.inr ⟨by rfl, rfl⟩) (by assumption) ?_
            try simp only [Act.put, List.getElem_toArray, List.getElem_cons_succ, List.getElem_cons_zero, List.setIfInBounds_toArray, List.set_cons_zero, List.set_cons_succ]
            refine wpAnyH_take (i := 6) (v := _) rfl (by kernel_rfl) (by kernel_rfl) (by kernel_rfl) (fun _ _ _ h => h) (Or.inr ⟨by rfl, rfl⟩) (by assumption) ?_
            try simp only [Act.put, List.getElem_toArray, List.getElem_cons_succ, List.getElem_cons_zero, List.setIfInBounds_toArray, List.set_cons_zero, List.set_cons_succ]
            refine wpAnyH_take (i := 7) (v := _) rfl (by kernel_rfl) (by kernel_rfl) (by kernel_rfl) (fun _ _ _ h => h) (Or.inr ⟨by rfl, rfl⟩) (by assumption) ?_
            try simp only [Act.put, List.getElem_toArray, List.getElem_cons_succ, List.getElem_cons_zero, List.setIfInBounds_toArray, List.set_cons_zero, List.set_cons_succ]
            refine wpAnyH_take (i := 8) (v := _) rfl (by kernel_rfl) (by kernel_rfl) (by kernel_rfl) (fun _ _ _ h => h) (Or.inr ⟨by rfl, rfl⟩) (by assumption) ?_
            try simp only [Act.put, List.getElem_toArray, List.getElem_cons_succ, List.getElem_cons_zero, List.setIfInBounds_toArray, List.set_cons_zero, List.set_cons_succ]
            refine wpAnyH_take (i := 9) (v := _) rfl (by kernel_rfl) (by kernel_rfl) (by kernel_rfl) (fun _ _ _ h => h) (Or.inr ⟨by rfl, rfl⟩) (by assumption) ?_
            try simp only [Act.put, List.getElem_toArray, List.getElem_cons_succ, List.getElem_cons_zero, List.setIfInBounds_toArray, List.set_cons_zero, List.set_cons_succ]
            refine wpAnyH_take (i := 10) (v := ?_) rfl (by kernel_rfl) (by kernel_rfl) (by kernel_rfl) (fun _ _ _ h => h) (Or.inl ⟨by rfl, ?_⟩) (by assumption) ?_
            rotate_left
            · intro Wq hSw
              clear hSw
              go_simp
              all_goals (with_reducible rfl)
            try simp only [Act.put, List.getElem_toArray, List.getElem_cons_succ, List.getElem_cons_zero, List.setIfInBounds_toArray, List.set_cons_zero, List.set_cons_succ]
            refine wpAnyH_take (i := 11) (v := ?_) rfl (by kernel_rfl) (by kernel_rfl) (by kernel_rfl) (fun _ _ _ h => h) (Or.inl ⟨by rfl, ?_⟩) (by assumption) ?_
            rotate_left
            · intro Wq hSw
              clear hSw
              go_simp
              all_goals (with_reducible rfl)
            try simp only [Act.put, List.getElem_toArray, List.getElem_cons_succ, List.getElem_cons_zero, List.setIfInBounds_toArray, List.set_cons_zero, List.set_cons_succ]
            refine wpAnyH_done (by kernel_rfl) ?_ _
            go_wp2_with fail
            go_meet
            case rel => exact ⟨by rw [HST.out], hHeld⟩
          | false =>
            rw [Bool.false_or] at HST
            by_cases hc : q0.x = b.x
            · have z1 : (q0.x = b.x) = True := eq_true hc
              have z2 : (q0.x == b.x) = true := beq_iff_eq.mpr hc
              rw [decide_eq_true hc] at HST
              clear hc
              refine wp_region_held_drew (S := fun V => Below WC.heap.size WC V) (by kernel_rfl) ?_ (fun hHeld => ?_)
              · exact bel_drew WC
              revert hHeld
              generalize World.drew _ = W1
              intro hHeld 
              refine wpAnyH_take (i := 0) (v := ?_) rfl (by kernel_rfl) (by kernel_rfl) (by kernel_rfl) (fun _ _ _ h => h) (Or.inl ⟨by rfl, ?_⟩) (by assumption) ?_
              rotate_left
              · intro Wq hSw
                clear hSw
                go_simp
                all_goals (with_reducible rfl)
              try simp only [Act.put, List.getElem_toArray, List.getElem_cons_zero, List.setIfInBounds_toArray, List.set_cons_zero, List.set_cons_succ]
              refine wpAnyH_take (i := 1) (v := ?_) rfl (by kernel_rfl) (by kernel_rfl) (by kernel_rfl) (fun _ _ _ h => h) (Or.inl ⟨by rfl, ?_⟩) (by assumption) ?_
              rotate_left
              · intro Wq hSw
                clear hSw
                go_simp
                all_goals (with_reducible rfl)
              try simp only [Act.put, List.getElem_toArray, List.getElem_cons_succ, List.getElem_cons_zero, List.setIfInBounds_toArray, List.set_cons_zero, List.set_cons_succ]
              refine wpAnyH_take (i := 2) (v := ?_) rfl (by kernel_rfl) (by kernel_rfl) (by kernel_rfl) (fun _ _ _ h => h) (Or.inl ⟨by rfl, ?_⟩) (by assumption) ?_
              rotate_left
              · intro Wq hSw
                clear hSw
                go_simp
                all_goals (with_reducible rfl)
              try simp only [Act.put, List.getElem_toArray, List.getElem_cons_succ, List.getElem_cons_zero, List.setIfInBounds_toArray, List.set_cons_zero, List.set_cons_succ]
              refine wpAnyH_take (i := 3) (v := ?_) rfl (by kernel_rfl) (by kernel_rfl) (by kernel_rfl) (fun _ _ _ h => h) (Or.inl ⟨by rfl, ?_⟩) (by assumption) ?_
              rotate_left
              · intro Wq hSw
                clear hSw
                go_simp
                all_goals (with_reducible rfl)
              try simp only [Act.put, List.getElem_toArray, List.getElem_cons_succ, List.getElem_cons_zero, List.setIfInBounds_toArray, List.set_cons_zero, List.set_cons_succ]
              refine wpAnyH_take (i := 4) (v := ?_) rfl (by kernel_rfl) (by kernel_rfl) (by kernel_rfl) (fun _ _ _ h => h) (Or.inl ⟨by rfl, ?_⟩) (by assumption) ?_
              rotate_left
              · intro Wq hSw
                have b1 : ((i : Int) < (p.length : Int)) = True := eq_true (by omega)
                have d1 : (i < p.length) = True := eq_true (by omega)
                have c1 : ((0 : Int) ≤ (i : Int)) = True := eq_true (by omega)
                clear hSw
                go_simp
                all_goals (with_reducible rfl)
              try simp only [Act.put, List.getElem_toArray, List.getElem_cons_succ, List.getElem_cons_zero, List.setIfInBounds_toArray, List.set_cons_zero, List.set_cons_succ]
              refine wpAnyH_take (i := 5) (v := ?_) rfl (by kernel_rfl) (by kernel_rfl) (by kernel_rfl) (fun _ _ _ h => h) (Or.inl ⟨by rfl, ?_⟩) (by assumption) ?_
              rotate_left
              · intro Wq hSw
                clear hSw
                go_simp
                all_goals (with_reducible rfl)
              try simp only [Act.put, List.getElem_toArray, List.getElem_cons_succ, List.getElem_cons_zero, List.setIfInBounds_toArray, List.set_cons_zero, List.set_cons_succ]
              refine wpAnyH_take (i := 6) (v := ?_) rfl (by kernel_rfl) (by kernel_rfl) (by kernel_rfl) (fun _ _ _ h => h) (Or.inl ⟨by rfl, ?_⟩) (by assumption) ?_
              rotate_left
              · intro Wq hSw
                obtain ⟨k0, k1⟩ := ptRow_at (HPi.out.below hSw) (i := i) hi HQ.out
                clear hSw
                go_simp
                all_goals (with_reducible rfl)
              try simp only [Act.put, List.getElem_toArray, List.getElem_cons_succ, List.getElem_cons_zero, List.setIfInBounds_toArray, List.set_cons_zero, List.set_cons_succ]
              refine wpAnyH_take (i := 7) (v := ?_) rfl (by kernel_rfl) (by kernel_rfl) (by kernel_rfl) (fun _ _ _ h => h) (Or.inl ⟨by rfl, ?_⟩) (by assumption) ?_
              rotate_left
              · intro Wq hSw
                clear hSw
                go_simp
                all_goals (with_reducible rfl)
              try simp only [Act.put, List.getElem_toArray, List.getElem_cons_succ, List.getElem_cons_zero, List.setIfInBounds_toArray, List.set_cons_zero, List.set_cons_succ]
              refine wpAnyH_take (i := 8) (v := ?_) rfl (by kernel_rfl) (by kernel_rfl) (by kernel_rfl) (fun _ _ _ h => h) (Or.inl ⟨by rfl, ?_⟩) (by assumption) ?_
              rotate_left
              · intro Wq hSw
                obtain ⟨k0, k1⟩ := (HV6.out.below hSw).two
                clear hSw
                go_simp
                all_goals (with_reducible rfl)
              try simp only [Act.put, List.getElem_toArray, List.getElem_cons_succ, List.getElem_cons_zero, List.setIfInBounds_toArray, List.set_cons_zero, List.set_cons_succ]
              refine wpAnyH_take (i := 9) (v := ?_) rfl (by kernel_rfl) (by kernel_rfl) (by kernel_rfl) (fun _ _ _ h => h) (Or.inl ⟨by rfl, ?_⟩) (by assumption) ?_
              rotate_left
              · intro Wq hSw
                clear hSw
                go_simp
                all_goals (with_reducible rfl)
              try simp only [Act.put, List.getElem_toArray, List.getElem_cons_succ, List.getElem_cons_zero, List.setIfInBounds_toArray, List.set_cons_zero, List.set_cons_succ]
              refine wpAnyH_take (i := 10) (v := ?_) rfl (by kernel_rfl) (by kernel_rfl) (by kernel_rfl) (fun _ _ _ h => h) (Or.inl ⟨by rfl, ?_⟩) (by assumption) ?_
              rotate_left
              · intro Wq hSw
                clear hSw
                go_simp
                all_goals (with_reducible rfl)
              try simp only [Act.put, List.getElem_toArray, List.getElem_cons_succ, List.getElem_cons_zero, List.setIfInBounds_toArray, List.set_cons_zero, List.set_cons_succ]
              refine wpAnyH_take (i := 11) (v := ?_) rfl (by kernel_rfl) (by kernel_rfl) (by kernel_rfl) (fun _ _ _ h => h) (Or.inl ⟨by rfl, ?_⟩) (by assumption) ?_
              rotate_left
              · intro Wq hSw
                clear hSw
                go_simp
                all_goals (with_reducible rfl)
              try simp only [Act.put, List.getElem_toArray, List.getElem_cons_succ, List.getElem_cons_zero, List.setIfInBounds_toArray, List.set_cons_zero, List.set_cons_succ]
              refine wpAnyH_done (by kernel_rfl) ?_ _
              go_wp2_with fail
              go_meet
              case rel => exact ⟨by rw [HST.out], hHeld⟩
            · have z1 : (q0.x = b.x) = False := eq_false hc
              have z2 : (q0.x == b.x) = false := beq_eq_false_iff_ne.mpr hc
              rw [decide_eq_false hc] at HST
              clear hc
              refine wp_region_held_drew (S := fun V => Below WC.heap.size WC V) (by kernel_rfl) ?_ (fun hHeld => ?_)
              · exact bel_drew WC
              revert hHeld
              generalize World.drew _ = W1
              intro hHeld 
              refine wpAnyH_take (i := 0) (v := ?_) rfl (by kernel_rfl) (by kernel_rfl) (by kernel_rfl) (fun _ _ _ h => h) (Or.inl ⟨by rfl, ?_⟩) (by assumption) ?_
              rotate_left
              · intro Wq hSw
                clear hSw
                go_simp
                all_goals (with_reducible rfl)
              try simp only [Act.put, List.getElem_toArray, List.getElem_cons_zero, List.setIfInBounds_toArray, List.set_cons_zero, List.set_cons_succ]
              refine wpAnyH_take (i := 1) (v := ?_) rfl (by kernel_rfl) (by kernel_rfl) (by kernel_rfl) (fun _ _ _ h => h) (Or.inl ⟨by rfl, ?_⟩) (by assumption) ?_
              rotate_left
              · intro Wq hSw
                clear hSw
                go_simp
                all_goals (with_reducible rfl)
              try simp only [Act.put, List.getElem_toArray, List.getElem_cons_succ, List.getElem_cons_zero, List.setIfInBounds_toArray, List.set_cons_zero, List.set_cons_succ]
              refine wpAnyH_take (i := 2) (v := ?_) rfl (by kernel_rfl) (by kernel_rfl) (by kernel_rfl) (fun _ _ _ h => h) (Or.inl ⟨by rfl, ?_⟩) (by assumption) ?_
              rotate_left
              · intro Wq hSw
                clear hSw
                go_simp
                all_goals (with_reducible rfl)
              try simp only [Act.put, List.getElem_toArray, List.getElem_cons_succ, List.getElem_cons_zero, List.setIfInBounds_toArray, List.set_cons_zero, List.set_cons_succ]
              refine wpAnyH_take (i := 3) (v := ?_) rfl (by kernel_rfl) (by kernel_rfl) (by kernel_rfl) (fun _ _ _ h => h) (Or.inl ⟨by rfl, ?_⟩) (by assumption) ?_
              rotate_left
              · intro Wq hSw
                clear hSw
                go_simp
                all_goals (with_reducible rfl)
              try simp only [Act.put, List.getElem_toArray, List.getElem_cons_succ, List.getElem_cons_zero, List.setIfInBounds_toArray, List.set_cons_zero, List.set_cons_succ]
              refine wpAnyH_take (i := 4) (v := ?_) rfl (by kernel_rfl) (by kernel_rfl) (by kernel_rfl) (fun _ _ _ h => h) (Or.inl ⟨by rfl, ?_⟩) (by assumption) ?_
              rotate_left
              · intro Wq hSw
                have b1 : ((i : Int) < (p.length : Int)) = True := eq_true (by omega)
                have d1 : (i < p.length) = True := eq_true (by omega)
                have c1 : ((0 : Int) ≤ (i : Int)) = True := eq_true (by omega)
                clear hSw
                go_simp
                all_goals (with_reducible rfl)
              try simp only [Act.put, List.getElem_toArray, List.getElem_cons_succ, List.getElem_cons_zero, List.setIfInBounds_toArray, List.set_cons_zero, List.set_cons_succ]
              refine wpAnyH_take (i := 5) (v := ?_) rfl (by kernel_rfl) (by kernel_rfl) (by kernel_rfl) (fun _ _ _ h => h) (Or.inl ⟨by rfl, ?_⟩) (by assumption) ?_
              rotate_left
              · intro Wq hSw
                clear hSw
                go_simp
                all_goals (with_reducible rfl)
              try simp only [Act.put, List.getElem_toArray, List.getElem_cons_succ, List.getElem_cons_zero, List.setIfInBounds_toArray, List.set_cons_zero, List.set_cons_succ]
              refine wpAnyH_take (i := 6) (v := ?_) rfl (by kernel_rfl) (by kernel_rfl) (by kernel_rfl) (fun _ _ _ h => h) (Or.inl ⟨by rfl, ?_⟩) (by assumption) ?_
              rotate_left
              · intro Wq hSw
                obtain ⟨k0, k1⟩ := ptRow_at (HPi.out.below hSw) (i := i) hi HQ.out
                clear hSw
                go_simp
                all_goals (with_reducible rfl)
              try simp only [Act.put, List.getElem_toArray, List.getElem_cons_succ, List.getElem_cons_zero, List.setIfInBounds_toArray, List.set_cons_zero, List.set_cons_succ]
              refine wpAnyH_take (i := 7) (v := ?_) rfl (by kernel_rfl) (by kernel_rfl) (by kernel_rfl) (fun _ _ _ h => h) (Or.inl ⟨by rfl, ?_⟩) (by assumption) ?_
              rotate_left
              · intro Wq hSw
                clear hSw
                go_simp
                all_goals (with_reducible rfl)
              try simp only [Act.put, List.getElem_toArray, List.getElem_cons_succ, List.getElem_cons_zero, List.setIfInBounds_toArray, List.set_cons_zero, List.set_cons_succ]
              refine wpAnyH_take (i := 8) (v := ?_) rfl (by kernel_rfl) (by kernel_rfl) (by kernel_rfl) (fun _ _ _ h => h) (Or.inl ⟨by rfl, ?_⟩) (by assumption) ?_
              rotate_left
              · intro Wq hSw
                obtain ⟨k0, k1⟩ := (HV6.out.below hSw).two
                clear hSw
                go_simp
                all_goals (with_reducible rfl)
              try simp only [Act.put, List.getElem_toArray, List.getElem_cons_succ, List.getElem_cons_zero, List.setIfInBounds_toArray, List.set_cons_zero, List.set_cons_succ]
              refine wpAnyH_take (i := 9) (v := ?_) rfl (by kernel_rfl) (by kernel_rfl) (by kernel_rfl) (fun _ _ _ h => h) (Or.inl ⟨by rfl, ?_⟩) (by assumption) ?_
              rotate_left
              · intro Wq hSw
                clear hSw
                go_simp
                all_goals (with_reducible rfl)
              try simp only [Act.put, List.getElem_toArray, List.getElem_cons_succ, List.getElem_cons_zero, List.setIfInBounds_toArray, List.set_cons_zero, List.set_cons_succ]
              refine wpAnyH_take (i := 10) (v := ?_) rfl (by kernel_rfl) (by kernel_rfl) (by kernel_rfl) (fun _ _ _ h => h) (Or.inl ⟨by rfl, ?_⟩) (by assumption) ?_
              rotate_left
              · intro Wq hSw
                clear hSw
                go_simp
                all_goals (with_reducible rfl)
              try simp only [Act.put, List.getElem_toArray, List.getElem_cons_succ, List.getElem_cons_zero, List.setIfInBounds_toArray, List.set_cons_zero, List.set_cons_succ]
              refine wpAnyH_take (i := 11) (v := ?_) rfl (by kernel_rfl) (by kernel_rfl) (by kernel_rfl) (fun _ _ _ h => h) (Or.inl ⟨by rfl, ?_⟩) (by assumption) ?_
              rotate_left
              · intro Wq hSw
                clear hSw
                go_simp
                all_goals (with_reducible rfl)
              try simp only [Act.put, List.getElem_toArray, List.getElem_cons_succ, List.getElem_cons_zero, List.setIfInBounds_toArray, List.set_cons_zero, List.set_cons_succ]
              refine wpAnyH_done (by kernel_rfl) ?_ _
              go_wp2_with fail
              go_meet
              case rel => exact ⟨by rw [HST.out], hHeld⟩
        case rest =>
          obtain ⟨rfl, hW⟩ := hcut
          clear HST
          replace HPi := Lib.hid (HPi.out.below hW)
          replace HV5 := Lib.hid (HV5.out.below hW)
          replace HV6 := Lib.hid (HV6.out.below hW)
          replace HW := Lib.hid (bl_trans HW.out hW)
          clear hW
          go_upto_region 17 with (fail)
          obtain ⟨WC, eW⟩ : ∃ WC, WC = wc := ⟨_, rfl⟩
          subst eW
          have HST := Lib.hid (anyX_succ p Pt.y (a.y) i)
          rw [HQ.out] at HST
          go_cut [10] (fun x W => x = .bool (anyX p Pt.y a.y (i + 1)) ∧ Below WC.heap.size WC W)
          case first =>
            obtain ⟨t, ht⟩ : ∃ t, anyX p Pt.y a.y i = t := ⟨_, rfl⟩
            rw [ht] at HST ⊢
            clear ht
            cases t with
            | true =>
              rw [Bool.true_or] at HST
              refine wp_region_held_drew (S := fun V => Below WC.heap.size WC V) (by kernel_rfl) ?_ (fun hHeld => ?_)
              · exact bel_drew WC
              revert hHeld
              generalize World.drew _ = W1
              intro hHeld 
              refine wpAnyH_take (i := 0) (v := ?_) rfl (by kernel_rfl) (by kernel_rfl) (by kernel_rfl) (fun _ _ _ h => h) (Or.inl ⟨by rfl, ?_⟩) (by assumption) ?_
              rotate_left
              · intro Wq hSw
                clear hSw
                go_simp
                all_goals (with_reducible rfl)
              try simp only [Act.put, List.getElem_toArray, List.getElem_cons_zero, List.setIfInBounds_toArray, List.set_cons_zero, List.set_cons_succ]
              refine wpAnyH_take (i := 1) (v := ?_) rfl (by kernel_rfl) (by kernel_rfl) (by kernel_rfl) (fun _ _ _ h => h) (Or.inl ⟨by rfl, ?_⟩) (by assumption) ?_
              rotate_left
              · intro Wq hSw
                clear hSw
                go_simp
                all_goals (with_reducible rfl)
              try simp only [Act.put, List.getElem_toArray, List.getElem_cons_succ, List.getElem_cons_zero, List.setIfInBounds_toArray, List.set_cons_zero, List.set_cons_succ]
              refine wpAnyH_take (i := 2) (v := _) rfl (by kernel_rfl) (by kernel_rfl) (by kernel_rfl) (fun _ _ _ h => h) (Or.inr ⟨by rfl, rfl⟩) (by assumption) ?_
              try simp only [Act.put, List.getElem_toArray, List.getElem_cons_succ, List.getElem_cons_zero, List.setIfInBounds_toArray, List.set_cons_zero, List.set_cons_succ]
              refine wpAnyH_take (i := 3) (v := _) rfl (by kernel_rfl) (by kernel_rfl) (by kernel_rfl) (fun _ _ _ h => h) (Or.inr ⟨by rfl, rfl⟩) (by assumption) ?_
              try simp only [Act.put, List.getElem_toArray, List.getElem_cons_succ, List.getElem_cons_zero, List.setIfInBounds_toArray, List.set_cons_zero, List.set_cons_succ]
              refine wpAnyH_take (i := 4) (v := _) rfl (by kernel_rfl) (by kernel_rfl) (by kernel_rfl) (fun _ _ _ h => h) (Or.inr ⟨by rfl, rfl⟩) (by assumption) ?_
              try simp only [Act.put, List.getElem_toArray, List.getElem_cons_succ, List.getElem_cons_zero, List.setIfInBounds_toArray, List.set_cons_zero, List.set_cons_succ]
              refine wpAnyH_take (i := 5) (v := _) rfl (by kernel_rfl) (by kernel_rfl) (by kernel_rfl) (fun _ _ _ h => h) (Or.inr ⟨by rfl, rfl⟩) (by assumption) ?_
              try simp only [Act.put, List.getElem_toArray, List.getElem_cons_succ, List.getElem_cons_zero, List.setIfInBounds_toArray, List.set_cons_zero, List.set_cons_succ]
              refine wpAnyH_take (i := 6) (v := _) rfl (by kernel_rfl) (by kernel_rfl) (by kernel_rfl) (fun _ _ _ h => h) (Or.inr ⟨by rfl, rfl⟩) (by assumption) ?_
              try simp only [Act.put, List.getElem_toArray, List.getElem_cons_succ, List.getElem_cons_zero, List.setIfInBounds_toArray, List.set_cons_zero, List.set_cons_succ]
              refine wpAnyH_take (i := 7) (v := _) rfl (by kernel_rfl) (by kernel_rfl) (by kernel_rfl) (fun _ _ _ h => h) (Or.inr ⟨by rfl, rfl⟩) (by assumption) ?_
              try simp only [Act.put, List.getElem_toArray, List.getElem_cons_succ, List.getElem_cons_zero, List.setIfInBounds_toArray, List.set_cons_zero, List.set_cons_succ]
              refine wpAnyH_take (i := 8) (v := _) rfl (by kernel_rfl) (by kernel_rfl) (by kernel_rfl) (fun _ _ _ h => h) (Or.inr ⟨by rfl, rfl⟩) (by assumption) ?_
              try simp only [Act.put, List.getElem_toArray, List.getElem_cons_succ, List.getElem_cons_zero, List.setIfInBounds_toArray, List.set_cons_zero, List.set_cons_succ]
              refine wpAnyH_take (i := 9) (v := _) rfl (by kernel_rfl) (by kernel_rfl) (by kernel_rfl) (fun _ _ _ h => h) (Or.inr ⟨by rfl, rfl⟩) (by assumption) ?_
              try simp only [Act.put, List.getElem_toArray, List.getElem_cons_succ, List.getElem_cons_zero, List.setIfInBounds_toArray, List.set_cons_zero, List.set_cons_succ]
              refine wpAnyH_take (i := 10) (v := ?_) rfl (by kernel_rfl) (by kernel_rfl) (by kernel_rfl) (fun _ _ _ h => h) (Or.inl ⟨by rfl, ?_⟩) (by assumption) ?_
              rotate_left
              · intro Wq hSw
                clear hSw
                go_simp
                all_goals (with_reducible rfl)
              try simp only [Act.put, List.getElem_toArray, List.getElem_cons_succ, List.getElem_cons_zero, List.setIfInBounds_toArray, List.set_cons_zero, List.set_cons_succ]
              refine wpAnyH_take (i := 11) (v := ?_) rfl (by kernel_rfl) (by kernel_rfl) (by kernel_rfl) (fun _ _ _ h => h) (Or.inl ⟨by rfl, ?_⟩) (by assumption) ?_
              rotate_left
              · intro Wq hSw
                clear hSw
                go_simp
                all_goals (with_reducible rfl)
              try simp only [Act.put, List.getElem_toArray, List.getElem_cons_succ, List.getElem_cons_zero, List.setIfInBounds_toArray, List.set_cons_zero, List.set_cons_succ]
              refine wpAnyH_done (by kernel_rfl) ?_ _
              go_wp2_with fail
              go_meet
              case rel => exact ⟨by rw [HST.out], hHeld⟩
            | false =>
              rw [Bool.false_or] at HST
              by_cases hc : q0.y = a.y
              · have z1 : (q0.y = a.y) = True := eq_true hc
                have z2 : (q0.y == a.y) = true := beq_iff_eq.mpr hc
                rw [decide_eq_true hc] at HST
                clear hc
                refine wp_region_held_drew (S := fun V => Below WC.heap.size WC V) (by kernel_rfl) ?_ (fun hHeld => ?_)
                · exact bel_drew WC
                revert hHeld
                generalize World.drew _ = W1
                intro hHeld 
                refine wpAnyH_take (i := 0) (v := ?_) rfl (by kernel_rfl) (by kernel_rfl) (by kernel_rfl) (fun _ _ _ h => h) (Or.inl ⟨by rfl, ?_⟩) (by assumption) ?_
                rotate_left
                · intro Wq hSw
                  clear hSw
                  go_simp
                  all_goals (with_reducible rfl)
                try simp only [Act.put, List.getElem_toArray, List.getElem_cons_zero, List.setIfInBounds_toArray, List.set_cons_zero, List.set_cons_succ]
                refine wpAnyH_take (i := 1) (v := ?_) rfl (by kernel_rfl) (by kernel_rfl) (by kernel_rfl) (fun _ _ _ h => h) (Or.inl ⟨by rfl, ?_⟩) (by assumption) ?_
                rotate_left
                · intro Wq hSw
                  clear hSw
                  go_simp
                  all_goals (with_reducible rfl)
                try simp only [Act.put, List.getElem_toArray, List.getElem_cons_succ, List.getElem_cons_zero, List.setIfInBounds_toArray, List.set_cons_zero, List.set_cons_succ]
                refine wpAnyH_take (i := 2) (v := ?_) rfl (by kernel_rfl) (by kernel_rfl) (by kernel_rfl) (fun _ _ _ h => h) (Or.inl ⟨by rfl, ?_⟩) (by assumption) ?_
                rotate_left
                · intro Wq hSw
                  clear hSw
                  go_simp
                  all_goals (with_reducible rfl)
                try simp only [Act.put, List.getElem_toArray, List.getElem_cons_succ, List.getElem_cons_zero, List.setIfInBounds_toArray, List.set_cons_zero, List.set_cons_succ]
                refine wpAnyH_take (i := 3) (v := ?_) rfl (by kernel_rfl) (by kernel_rfl) (by kernel_rfl) (fun _ _ _ h => h) (Or.inl ⟨by rfl, ?_⟩) (by assumption) ?_
                rotate_left
                · intro Wq hSw
                  clear hSw
                  go_simp
                  all_goals (with_reducible rfl)
                try simp only [Act.put, List.getElem_toArray, List.getElem_cons_succ, List.getElem_cons_zero, List.setIfInBounds_toArray, List.set_cons_zero, List.set_cons_succ]
                refine wpAnyH_take (i := 4) (v := ?_) rfl (by kernel_rfl) (by kernel_rfl) (by kernel_rfl) (fun _ _ _ h => h) (Or.inl ⟨by rfl, ?_⟩) (by assumption) ?_
                rotate_left
                · intro Wq hSw
                  have b1 : ((i : Int) < (p.length : Int)) = True := eq_true (by omega)
                  have d1 : (i < p.length) = True := eq_true (by omega)
                  have c1 : ((0 : Int) ≤ (i : Int)) = True := eq_true (by omega)
                  clear hSw
                  go_simp
                  all_goals (with_reducible rfl)
                try simp only [Act.put, List.getElem_toArray, List.getElem_cons_succ, List.getElem_cons_zero, List.setIfInBounds_toArray, List.set_cons_zero, List.set_cons_succ]
                refine wpAnyH_take (i := 5) (v := ?_) rfl (by kernel_rfl) (by kernel_rfl) (by kernel_rfl) (fun _ _ _ h => h) (Or.inl ⟨by rfl, ?_⟩) (by assumption) ?_
                rotate_left
                · intro Wq hSw
                  clear hSw
                  go_simp
                  all_goals (with_reducible rfl)
                try simp only [Act.put, List.getElem_toArray, List.getElem_cons_succ, List.getElem_cons_zero, List.setIfInBounds_toArray, List.set_cons_zero, List.set_cons_succ]
                refine wpAnyH_take (i := 6) (v := ?_) rfl (by kernel_rfl) (by kernel_rfl) (by kernel_rfl) (fun _ _ _ h => h) (Or.inl ⟨by rfl, ?_⟩) (by assumption) ?_
                rotate_left
                · intro Wq hSw
                  obtain ⟨k0, k1⟩ := ptRow_at (HPi.out.below hSw) (i := i) hi HQ.out
                  clear hSw
                  go_simp
                  all_goals (with_reducible rfl)
                try simp only [Act.put, List.getElem_toArray, List.getElem_cons_succ, List.getElem_cons_zero, List.setIfInBounds_toArray, List.set_cons_zero, List.set_cons_succ]
                refine wpAnyH_take (i := 7) (v := ?_) rfl (by kernel_rfl) (by kernel_rfl) (by kernel_rfl) (fun _ _ _ h => h) (Or.inl ⟨by rfl, ?_⟩) (by assumption) ?_
                rotate_left
                · intro Wq hSw
                  clear hSw
                  go_simp
                  all_goals (with_reducible rfl)
                try simp only [Act.put, List.getElem_toArray, List.getElem_cons_succ, List.getElem_cons_zero, List.setIfInBounds_toArray, List.set_cons_zero, List.set_cons_succ]
                refine wpAnyH_take (i := 8) (v := ?_) rfl (by kernel_rfl) (by kernel_rfl) (by kernel_rfl) (fun _ _ _ h => h) (Or.inl ⟨by rfl, ?_⟩) (by assumption) ?_
                rotate_left
                · intro Wq hSw
                  obtain ⟨k0, k1⟩ := (HV5.out.below hSw).two
                  clear hSw
                  go_simp
                  all_goals (with_reducible rfl)
                try simp only [Act.put, List.getElem_toArray, List.getElem_cons_succ, List.getElem_cons_zero, List.setIfInBounds_toArray, List.set_cons_zero, List.set_cons_succ]
                refine wpAnyH_take (i := 9) (v := ?_) rfl (by kernel_rfl) (by kernel_rfl) (by kernel_rfl) (fun _ _ _ h => h) (Or.inl ⟨by rfl, ?_⟩) (by assumption) ?_
                rotate_left
                · intro Wq hSw
                  clear hSw
                  go_simp
                  all_goals (with_reducible rfl)
                try simp only [Act.put, List.getElem_toArray, List.getElem_cons_succ, List.getElem_cons_zero, List.setIfInBounds_toArray, List.set_cons_zero, List.set_cons_succ]
                refine wpAnyH_take (i := 10) (v := ?_) rfl (by kernel_rfl) (by kernel_rfl) (by kernel_rfl) (fun _ _ _ h => h) (Or.inl ⟨by rfl, ?_⟩) (by assumption) ?_
                rotate_left
                · intro Wq hSw
                  clear hSw
                  go_simp
                  all_goals (with_reducible rfl)
                try simp only [Act.put, List.getElem_toArray, List.getElem_cons_succ, List.getElem_cons_zero, List.setIfInBounds_toArray, List.set_cons_zero, List.set_cons_succ]
                refine wpAnyH_take (i := 11) (v := ?_) rfl (by kernel_rfl) (by kernel_rfl) (by kernel_rfl) (fun _ _ _ h => h) (Or.inl ⟨by rfl, ?_⟩) (by assumption) ?_
                rotate_left
                · intro Wq hSw
                  clear hSw
                  go_simp
                  all_goals (with_reducible rfl)
                try simp only [Act.put, List.getElem_toArray, List.getElem_cons_succ, List.getElem_cons_zero, List.setIfInBounds_toArray, List.set_cons_zero, List.set_cons_succ]
                refine wpAnyH_done (by kernel_rfl) ?_ _
                go_wp2_with fail
                go_meet
                case rel => exact ⟨by rw [HST.out], hHeld⟩
              · have z1 : (q0.y = a.y) = False := eq_false hc
                have z2 : (q0.y == a.y) = false := beq_eq_false_iff_ne.mpr hc
                rw [decide_eq_false hc] at HST
                clear hc
                refine wp_region_held_drew (S := fun V => Below WC.heap.size WC V) (by kernel_rfl) ?_ (fun hHeld => ?_)
                · exact bel_drew WC
                revert hHeld
                generalize World.drew _ = W1
                intro hHeld 
                refine wpAnyH_take (i := 0) (v := ?_) rfl (by kernel_rfl) (by kernel_rfl) (by kernel_rfl) (fun _ _ _ h => h) (Or.inl ⟨by rfl, ?_⟩) (by assumption) ?_
                rotate_left
                · intro Wq hSw
                  clear hSw
                  go_simp
                  all_goals (with_reducible rfl)
                try simp only [Act.put, List.getElem_toArray, List.getElem_cons_zero, List.setIfInBounds_toArray, List.set_cons_zero, List.set_cons_succ]
                refine wpAnyH_take (i := 1) (v := ?_) rfl (by kernel_rfl) (by kernel_rfl) (by kernel_rfl) (fun _ _ _ h => h) (Or.inl ⟨by rfl, ?_⟩) (by assumption) ?_
                rotate_left
                · intro Wq hSw
                  clear hSw
                  go_simp
                  all_goals (with_reducible rfl)
                try simp only [Act.put, List.getElem_toArray, List.getElem_cons_succ, List.getElem_cons_zero, List.setIfInBounds_toArray, List.set_cons_zero, List.set_cons_succ]
                refine wpAnyH_take (i := 2) (v := ?_) rfl (by kernel_rfl) (by kernel_rfl) (by kernel_rfl) (fun _ _ _ h => h) (Or.inl ⟨by rfl, ?_⟩) (by assumption) ?_
                rotate_left
                · intro Wq hSw
                  clear hSw
                  go_simp
                  all_goals (with_reducible rfl)
                try simp only [Act.put, List.getElem_toArray, List.getElem_cons_succ, List.getElem_cons_zero, List.setIfInBounds_toArray, List.set_cons_zero, List.set_cons_succ]
                refine wpAnyH_take (i := 3) (v := ?_) rfl (by kernel_rfl) (by kernel_rfl) (by kernel_rfl) (fun _ _ _ h => h) (Or.inl ⟨by rfl, ?_⟩) (by assumption) ?_
                rotate_left
                · intro Wq hSw
                  clear hSw
                  go_simp
                  all_goals (with_reducible rfl)
                try simp only [Act.put, List.getElem_toArray, List.getElem_cons_succ, List.getElem_cons_zero, List.setIfInBounds_toArray, List.set_cons_zero, List.set_cons_succ]
                refine wpAnyH_take (i := 4) (v := ?_) rfl (by kernel_rfl) (by kernel_rfl) (by kernel_rfl) (fun _ _ _ h => h) (Or.inl ⟨by rfl, ?_⟩) (by assumption) ?_
                rotate_left
                · intro Wq hSw
                  have b1 : ((i : Int) < (p.length : Int)) = True := eq_true (by omega)
                  have d1 : (i < p.length) = True := eq_true (by omega)
                  have c1 : ((0 : Int) ≤ (i : Int)) = True := eq_true (by omega)
                  clear hSw
                  go_simp
                  all_goals (with_reducible rfl)
                try simp only [Act.put, List.getElem_toArray, List.getElem_cons_succ, List.getElem_cons_zero, List.setIfInBounds_toArray, List.set_cons_zero, List.set_cons_succ]
                refine wpAnyH_take (i := 5) (v := ?_) rfl (by kernel_rfl) (by kernel_rfl) (by kernel_rfl) (fun _ _ _ h => h) (Or.inl ⟨by rfl, ?_⟩) (by assumption) ?_
                rotate_left
                · intro Wq hSw
                  clear hSw
                  go_simp
                  all_goals (with_reducible rfl)
                try simp only [Act.put, List.getElem_toArray, List.getElem_cons_succ, List.getElem_cons_zero, List.setIfInBounds_toArray, List.set_cons_zero, List.set_cons_succ]
                refine wpAnyH_take (i := 6) (v := ?_) rfl (by kernel_rfl) (by kernel_rfl) (by kernel_rfl) (fun _ _ _ h => h) (Or.inl ⟨by rfl, ?_⟩) (by assumption) ?_
                rotate_left
                · intro Wq hSw
                  obtain ⟨k0, k1⟩ := ptRow_at (HPi.out.below hSw) (i := i) hi HQ.out
                  clear hSw
                  go_simp
                  all_goals (with_reducible rfl)
                try simp only [Act.put, List.getElem_toArray, List.getElem_cons_succ, List.getElem_cons_zero, List.setIfInBounds_toArray, List.set_cons_zero, List.set_cons_succ]
                refine wpAnyH_take (i := 7) (v := ?_) rfl (by kernel_rfl) (by kernel_rfl) (by kernel_rfl) (fun _ _ _ h => h) (Or.inl ⟨by rfl, ?_⟩) (by assumption) ?_
                rotate_left
                · intro Wq hSw
                  clear hSw
                  go_simp
                  all_goals (with_reducible rfl)
                try simp only [Act.put, List.getElem_toArray, List.getElem_cons_succ, List.getElem_cons_zero, List.setIfInBounds_toArray, List.set_cons_zero, List.set_cons_succ]
                refine wpAnyH_take (i := 8) (v := ?_) rfl (by kernel_rfl) (by kernel_rfl) (by kernel_rfl) (fun _ _ _ h => h) (Or.inl ⟨by rfl, ?_⟩) (by assumption) ?_
                rotate_left
                · intro Wq hSw
                  obtain ⟨k0, k1⟩ := (HV5.out.below hSw).two
                  clear hSw
                  go_simp
                  all_goals (with_reducible rfl)
                try simp only [Act.put, List.getElem_toArray, List.getElem_cons_succ, List.getElem_cons_zero, List.setIfInBounds_toArray, List.set_cons_zero, List.set_cons_succ]
                refine wpAnyH_take (i := 9) (v := ?_) rfl (by kernel_rfl) (by kernel_rfl) (by kernel_rfl) (fun _ _ _ h => h) (Or.inl ⟨by rfl, ?_⟩) (by assumption) ?_
                rotate_left
                · intro Wq hSw
                  clear hSw
                  go_simp
                  all_goals (with_reducible rfl)
                try simp only [Act.put, List.getElem_toArray, List.getElem_cons_succ, List.getElem_cons_zero, List.setIfInBounds_toArray, List.set_cons_zero, List.set_cons_succ]
                refine wpAnyH_take (i := 10) (v := ?_) rfl (by kernel_rfl) (by kernel_rfl) (by kernel_rfl) (fun _ _ _ h => h) (Or.inl ⟨by rfl, ?_⟩) (by assumption) ?_
                rotate_left
                · intro Wq hSw
                  clear hSw
                  go_simp
                  all_goals (with_reducible rfl)
                try simp only [Act.put, List.getElem_toArray, List.getElem_cons_succ, List.getElem_cons_zero, List.setIfInBounds_toArray, List.set_cons_zero, List.set_cons_succ]
                refine wpAnyH_take (i := 11) (v := ?_) rfl (by kernel_rfl) (by kernel_rfl) (by kernel_rfl) (fun _ _ _ h => h) (Or.inl ⟨by rfl, ?_⟩) (by assumption) ?_
                rotate_left
                · intro Wq hSw
                  clear hSw
                  go_simp
                  all_goals (with_reducible rfl)
                try simp only [Act.put, List.getElem_toArray, List.getElem_cons_succ, List.getElem_cons_zero, List.setIfInBounds_toArray, List.set_cons_zero, List.set_cons_succ]
                refine wpAnyH_done (by kernel_rfl) ?_ _
                go_wp2_with fail
                go_meet
                case rel => exact ⟨by rw [HST.out], hHeld⟩
          case rest =>
            obtain ⟨rfl, hW⟩ := hcut
            clear HST
            replace HPi := Lib.hid (HPi.out.below hW)
            replace HV5 := Lib.hid (HV5.out.below hW)
            replace HV6 := Lib.hid (HV6.out.below hW)
            replace HW := Lib.hid (bl_trans HW.out hW)
            clear hW
            go_upto_region 18 with (fail)
            obtain ⟨WC, eW⟩ : ∃ WC, WC = wc := ⟨_, rfl⟩
            subst eW
            have HST := Lib.hid (anyX_succ p Pt.y (b.y) i)
            rw [HQ.out] at HST
            obtain ⟨t, ht⟩ : ∃ t, anyX p Pt.y b.y i = t := ⟨_, rfl⟩
            rw [ht] at HST ⊢
            clear ht
            cases t with
            | true =>
              rw [Bool.true_or] at HST
              refine wp_region_held_drew (S := fun V => Below WC.heap.size WC V) (by kernel_rfl) ?_ (fun hHeld => ?_)
              · exact bel_drew WC
              revert hHeld
              generalize World.drew _ = W1
              intro hHeld 
              refine wpAnyH_take (i := 0) (v := ?_) rfl (by kernel_rfl) (by kernel_rfl) (by kernel_rfl) (fun _ _ _ h => h) (Or.inl ⟨by rfl, ?_⟩) (by assumption) ?_
              rotate_left
              · intro Wq hSw
                clear hSw
                go_simp
                all_goals (with_reducible rfl)
              try simp only [Act.put, List.getElem_toArray, List.getElem_cons_zero, List.setIfInBounds_toArray, List.set_cons_zero, List.set_cons_succ]
              refine wpAnyH_take (i := 1) (v := ?_) rfl (by kernel_rfl) (by kernel_rfl) (by kernel_rfl) (fun _ _ _ h => h) (Or.inl ⟨by rfl, ?_⟩) (by assumption) ?_
              rotate_left
              · intro Wq hSw
                clear hSw
                go_simp
                all_goals (with_reducible rfl)
              try simp only [Act.put, List.getElem_toArray, List.getElem_cons_succ, List.getElem_cons_zero, List.setIfInBounds_toArray, List.set_cons_zero, List.set_cons_succ]
              refine wpAnyH_take (i := 2) (v := _) rfl (by kernel_rfl) (by kernel_rfl) (by kernel_rfl) (fun _ _ _ h => h) (Or.inr ⟨by rfl, rfl⟩) (by assumption) ?_
              try simp only [Act.put, List.getElem_toArray, List.getElem_cons_succ, List.getElem_cons_zero, List.setIfInBounds_toArray, List.set_cons_zero, List.set_cons_succ]
              refine wpAnyH_take (i := 3) (v := _) rfl (by kernel_rfl) (by kernel_rfl) (by kernel_rfl) (fun _ _ _ h => h) (Or.inr ⟨by rfl, rfl⟩) (by assumption) ?_
              try simp only [Act.put, List.getElem_toArray, List.getElem_cons_succ, List.getElem_cons_zero, List.setIfInBounds_toArray, List.set_cons_zero, List.set_cons_succ]
              refine wpAnyH_take (i := 4) (v := _) rfl (by kernel_rfl) (by kernel_rfl) (by kernel_rfl) (fun _ _ _ h => h) (Or.inr ⟨by rfl, rfl⟩) (by assumption) ?_
              try simp only [Act.put, List.getElem_toArray, List.getElem_cons_succ, List.getElem_cons_zero, List.setIfInBounds_toArray, List.set_cons_zero, List.set_cons_succ]
              refine wpAnyH_take (i := 5) (v := _) rfl (by kernel_rfl) (by kernel_rfl) (by kernel_rfl) (fun _ _ _ h => h) (Or.inr ⟨by rfl, rfl⟩) (by assumption) ?_
              try simp only [Act.put, List.getElem_toArray, List.getElem_cons_succ, List.getElem_cons_zero, List.setIfInBounds_toArray, List.set_cons_zero, List.set_cons_succ]
              refine wpAnyH_take (i := 6) (v := _) rfl (by kernel_rfl) (by kernel_rfl) (by kernel_rfl) (fun _ _ _ h => h) (Or.inr ⟨by rfl, rfl⟩) (by assumption) ?_
              try simp only [Act.put, List.getElem_toArray, List.getElem_cons_succ, List.getElem_cons_zero, List.setIfInBounds_toArray, List.set_cons_zero, List.set_cons_succ]
              refine wpAnyH_take (i := 7) (v := _) rfl (by kernel_rfl) (by kernel_rfl) (by kernel_rfl) (fun _ _ _ h => h) (Or.inr ⟨by rfl, rfl⟩) (by assumption) ?_
              try simp only [Act.put, List.getElem_toArray, List.getElem_cons_succ, List.getElem_cons_zero, List.setIfInBounds_toArray, List.set_cons_zero, List.set_cons_succ]
              refine wpAnyH_take (i := 8) (v := _) rfl (by kernel_rfl) (by kernel_rfl) (by kernel_rfl) (fun _ _ _ h => h) (Or.inr ⟨by rfl, rfl⟩) (by assumption) ?_
              try simp only [Act.put, List.getElem_toArray, List.getElem_cons_succ, List.getElem_cons_zero, List.setIfInBounds_toArray, List.set_cons_zero, List.set_cons_succ]
              refine wpAnyH_take (i := 9) (v := _) rfl (by kernel_rfl) (by kernel_rfl) (by kernel_rfl) (fun _ _ _ h => h) (Or.inr ⟨by rfl, rfl⟩) (by assumption) ?_
              try simp only [Act.put, List.getElem_toArray, List.getElem_cons_succ, List.getElem_cons_zero, List.setIfInBounds_toArray, List.set_cons_zero, List.set_cons_succ]
              refine wpAnyH_take (i := 10) (v := ?_) rfl (by kernel_rfl) (by kernel_rfl) (by kernel_rfl) (fun _ _ _ h => h) (Or.inl ⟨by rfl, ?_⟩) (by assumption) ?_
              rotate_left
              · intro Wq hSw
                clear hSw
                go_simp
                all_goals (with_reducible rfl)
              try simp only [Act.put, List.getElem_toArray, List.getElem_cons_succ, List.getElem_cons_zero, List.setIfInBounds_toArray, List.set_cons_zero, List.set_cons_succ]
              refine wpAnyH_take (i := 11) (v := ?_) rfl (by kernel_rfl) (by kernel_rfl) (by kernel_rfl) (fun _ _ _ h => h) (Or.inl ⟨by rfl, ?_⟩) (by assumption) ?_
              rotate_left
              · intro Wq hSw
                clear hSw
                go_simp
                all_goals (with_reducible rfl)
              try simp only [Act.put, List.getElem_toArray, List.getElem_cons_succ, List.getElem_cons_zero, List.setIfInBounds_toArray, List.set_cons_zero, List.set_cons_succ]
              refine wpAnyH_done (by kernel_rfl) ?_ _
              have hW := hHeld
              clear hHeld
              replace HPi := Lib.hid (HPi.out.below hW)
              replace HV5 := Lib.hid (HV5.out.below hW)
              replace HV6 := Lib.hid (HV6.out.below hW)
              replace HW := Lib.hid (bl_trans HW.out hW)
              clear hW
              obtain ⟨m1, m2, m3, m4⟩ := wnum (i := i) (by omega)
              go_wp2_with fail
              clear m1 m2 m3 m4
              exact ⟨⟨i + 1, by rw [Int.natCast_add]; rfl, hi, by rfl, by rfl, by rfl, by rw [HST.out], HW.out⟩, by simp only [intOf]; omega⟩
            | false =>
              rw [Bool.false_or] at HST
              by_cases hc : q0.y = b.y
              · have z1 : (q0.y = b.y) = True := eq_true hc
                have z2 : (q0.y == b.y) = true := beq_iff_eq.mpr hc
                rw [decide_eq_true hc] at HST
                clear hc
                refine wp_region_held_drew (S := fun V => Below WC.heap.size WC V) (by kernel_rfl) ?_ (fun hHeld => ?_)
                · exact bel_drew WC
                revert hHeld
                generalize World.drew _ = W1
                intro hHeld 
                refine wpAnyH_take (i := 0) (v := ?_) rfl (by kernel_rfl) (by kernel_rfl) (by kernel_rfl) (fun _ _ _ h => h) (Or.inl ⟨by rfl, ?_⟩) (by assumption) ?_
                rotate_left
                · intro Wq hSw
                  clear hSw
                  go_simp
                  all_goals (with_reducible rfl)
                try simp only [Act.put, List.getElem_toArray, List.getElem_cons_zero, List.setIfInBounds_toArray, List.set_cons_zero, List.set_cons_succ]
                refine wpAnyH_take (i := 1) (v := ?_) rfl (by kernel_rfl) (by kernel_rfl) (by kernel_rfl) (fun _ _ _ h => h) (Or.inl ⟨by rfl, ?_⟩) (by assumption) ?_
                rotate_left
                · intro Wq hSw
                  clear hSw
                  go_simp
                  all_goals (with_reducible rfl)
                try simp only [Act.put, List.getElem_toArray, List.getElem_cons_succ, List.getElem_cons_zero, List.setIfInBounds_toArray, List.set_cons_zero, List.set_cons_succ]
                refine wpAnyH_take (i := 2) (v := ?_) rfl (by kernel_rfl) (by kernel_rfl) (by kernel_rfl) (fun _ _ _ h => h) (Or.inl ⟨by rfl, ?_⟩) (by assumption) ?_
                rotate_left
                · intro Wq hSw
                  clear hSw
                  go_simp
                  all_goals (with_reducible rfl)
                try simp only [Act.put, List.getElem_toArray, List.getElem_cons_succ, List.getElem_cons_zero, List.setIfInBounds_toArray, List.set_cons_zero, List.set_cons_succ]
                refine wpAnyH_take (i := 3) (v := ?_) rfl (by kernel_rfl) (by kernel_rfl) (by kernel_rfl) (fun _ _ _ h => h) (Or.inl ⟨by rfl, ?_⟩) (by assumption) ?_
                rotate_left
                · intro Wq hSw
                  clear hSw
                  go_simp
                  all_goals (with_reducible rfl)
                try simp only [Act.put, List.getElem_toArray, List.getElem_cons_succ, List.getElem_cons_zero, List.setIfInBounds_toArray, List.set_cons_zero, List.set_cons_succ]
                refine wpAnyH_take (i := 4) (v := ?_) rfl (by kernel_rfl) (by kernel_rfl) (by kernel_rfl) (fun _ _ _ h => h) (Or.inl ⟨by rfl, ?_⟩) (by assumption) ?_
                rotate_left
                · intro Wq hSw
                  have b1 : ((i : Int) < (p.length : Int)) = True := eq_true (by omega)
                  have d1 : (i < p.length) = True := eq_true (by omega)
                  have c1 : ((0 : Int) ≤ (i : Int)) = True := eq_true (by omega)
                  clear hSw
                  go_simp
                  all_goals (with_reducible rfl)
                try simp only [Act.put, List.getElem_toArray, List.getElem_cons_succ, List.getElem_cons_zero, List.setIfInBounds_toArray, List.set_cons_zero, List.set_cons_succ]
                refine wpAnyH_take (i := 5) (v := ?_) rfl (by kernel_rfl) (by kernel_rfl) (by kernel_rfl) (fun _ _ _ h => h) (Or.inl ⟨by rfl, ?_⟩) (by assumption) ?_
                rotate_left
                · intro Wq hSw
                  clear hSw
                  go_simp
                  all_goals (with_reducible rfl)
                try simp only [Act.put, List.getElem_toArray, List.getElem_cons_succ, List.getElem_cons_zero, List.setIfInBounds_toArray, List.set_cons_zero, List.set_cons_succ]
                refine wpAnyH_take (i := 6) (v := ?_) rfl (by kernel_rfl) (by kernel_rfl) (by kernel_rfl) (fun _ _ _ h => h) (Or.inl ⟨by rfl, ?_⟩) (by assumption) ?_
                rotate_left
                · intro Wq hSw
                  obtain ⟨k0, k1⟩ := ptRow_at (HPi.out.below hSw) (i := i) hi HQ.out
                  clear hSw
                  go_simp
                  all_goals (with_reducible rfl)
                try simp only [Act.put, List.getElem_toArray, List.getElem_cons_succ, List.getElem_cons_zero, List.setIfInBounds_toArray, List.set_cons_zero, List.set_cons_succ]
                refine wpAnyH_take (i := 7) (v := ?_) rfl (by kernel_rfl) (by kernel_rfl) (by kernel_rfl) (fun _ _ _ h => h) (Or.inl ⟨by rfl, ?_⟩) (by assumption) ?_
                rotate_left
                · intro Wq hSw
                  clear hSw
                  go_simp
                  all_goals (with_reducible rfl)
                try simp only [Act.put, List.getElem_toArray, List.getElem_cons_succ, List.getElem_cons_zero, List.setIfInBounds_toArray, List.set_cons_zero, List.set_cons_succ]
                refine wpAnyH_take (i := 8) (v := ?_) rfl (by kernel_rfl) (by kernel_rfl) (by kernel_rfl) (fun _ _ _ h => h) (Or.inl ⟨by rfl, ?_⟩) (by assumption) ?_
                rotate_left
                · intro Wq hSw
                  obtain ⟨k0, k1⟩ := (HV6.out.below hSw).two
                  clear hSw
                  go_simp
                  all_goals (with_reducible rfl)
                try simp only [Act.put, List.getElem_toArray, List.getElem_cons_succ, List.getElem_cons_zero, List.setIfInBounds_toArray, List.set_cons_zero, List.set_cons_succ]
                refine wpAnyH_take (i := 9) (v := ?_) rfl (by kernel_rfl) (by kernel_rfl) (by kernel_rfl) (fun _ _ _ h => h) (Or.inl ⟨by rfl, ?_⟩) (by assumption) ?_
                rotate_left
                · intro Wq hSw
                  clear hSw
                  go_simp
                  all_goals (with_reducible rfl)
                try simp only [Act.put, List.getElem_toArray, List.getElem_cons_succ, List.getElem_cons_zero, List.setIfInBounds_toArray, List.set_cons_zero, List.set_cons_succ]
                refine wpAnyH_take (i := 10) (v := ?_) rfl (by kernel_rfl) (by kernel_rfl) (by kernel_rfl) (fun _ _ _ h => h) (Or.inl ⟨by rfl, ?_⟩) (by assumption) ?_
                rotate_left
                · intro Wq hSw
                  clear hSw
                  go_simp
                  all_goals (with_reducible rfl)
                try simp only [Act.put, List.getElem_toArray, List.getElem_cons_succ, List.getElem_cons_zero, List.setIfInBounds_toArray, List.set_cons_zero, List.set_cons_succ]
                refine wpAnyH_take (i := 11) (v := ?_) rfl (by kernel_rfl) (by kernel_rfl) (by kernel_rfl) (fun _ _ _ h => h) (Or.inl ⟨by rfl, ?_⟩) (by assumption) ?_
                rotate_left
                · intro Wq hSw
                  clear hSw
                  go_simp
                  all_goals (with_reducible rfl)
                try simp only [Act.put, List.getElem_toArray, List.getElem_cons_succ, List.getElem_cons_zero, List.setIfInBounds_toArray, List.set_cons_zero, List.set_cons_succ]
                refine wpAnyH_done (by kernel_rfl) ?_ _
                have hW := hHeld
                clear hHeld
                replace HPi := Lib.hid (HPi.out.below hW)
                replace HV5 := Lib.hid (HV5.out.below hW)
                replace HV6 := Lib.hid (HV6.out.below hW)
                replace HW := Lib.hid (bl_trans HW.out hW)
                clear hW
                obtain ⟨m1, m2, m3, m4⟩ := wnum (i := i) (by omega)
                go_wp2_with fail
                clear m1 m2 m3 m4
                exact ⟨⟨i + 1, by rw [Int.natCast_add]; rfl, hi, by rfl, by rfl, by rfl, by rw [HST.out], HW.out⟩, by simp only [intOf]; omega⟩
              · have z1 : (q0.y = b.y) = False := eq_false hc
                have z2 : (q0.y == b.y) = false := beq_eq_false_iff_ne.mpr hc
                rw [decide_eq_false hc] at HST
                clear hc
                refine wp_region_held_drew (S := fun V => Below WC.heap.size WC V) (by kernel_rfl) ?_ (fun hHeld => ?_)
                · exact bel_drew WC
                revert hHeld
                generalize World.drew _ = W1
                intro hHeld 
                refine wpAnyH_take (i := 0) (v := ?_) rfl (by kernel_rfl) (by kernel_rfl) (by kernel_rfl) (fun _ _ _ h => h) (Or.inl ⟨by rfl, ?_⟩) (by assumption) ?_
                rotate_left
                · intro Wq hSw
                  clear hSw
                  go_simp
                  all_goals (with_reducible rfl)
                try simp only [Act.put, List.getElem_toArray, List.getElem_cons_zero, List.setIfInBounds_toArray, List.set_cons_zero, List.set_cons_succ]
                refine wpAnyH_take (i := 1) (v := ?_) rfl (by kernel_rfl) (by kernel_rfl) (by kernel_rfl) (fun _ _ _ h => h) (Or.inl ⟨by rfl, ?_⟩) (by assumption) ?_
                rotate_left
                · intro Wq hSw
                  clear hSw
                  go_simp
                  all_goals (with_reducible rfl)
                try simp only [Act.put, List.getElem_toArray, List.getElem_cons_succ, List.getElem_cons_zero, List.setIfInBounds_toArray, List.set_cons_zero, List.set_cons_succ]
                refine wpAnyH_take (i := 2) (v := ?_) rfl (by kernel_rfl) (by kernel_rfl) (by kernel_rfl) (fun _ _ _ h => h) (Or.inl ⟨by rfl, ?_⟩) (by assumption) ?_
                rotate_left
                · intro Wq hSw
                  clear hSw
                  go_simp
                  all_goals (with_reducible rfl)
                try simp only [Act.put, List.getElem_toArray, List.getElem_cons_succ, List.getElem_cons_zero, List.setIfInBounds_toArray, List.set_cons_zero, List.set_cons_succ]
                refine wpAnyH_take (i := 3) (v := ?_) rfl (by kernel_rfl) (by kernel_rfl) (by kernel_rfl) (fun _ _ _ h => h) (Or.inl ⟨by rfl, ?_⟩) (by assumption) ?_
                rotate_left
                · intro Wq hSw
                  clear hSw
                  go_simp
                  all_goals (with_reducible rfl)
                try simp only [Act.put, List.getElem_toArray, List.getElem_cons_succ, List.getElem_cons_zero, List.setIfInBounds_toArray, List.set_cons_zero, List.set_cons_succ]
                refine wpAnyH_take (i := 4) (v := ?_) rfl (by kernel_rfl) (by kernel_rfl) (by kernel_rfl) (fun _ _ _ h => h) (Or.inl ⟨by rfl, ?_⟩) (by assumption) ?_
                rotate_left
                · intro Wq hSw
                  have b1 : ((i : Int) < (p.length : Int)) = True := eq_true (by omega)
                  have d1 : (i < p.length) = True := eq_true (by omega)
                  have c1 : ((0 : Int) ≤ (i : Int)) = True := eq_true (by omega)
                  clear hSw
                  go_simp
                  all_goals (with_reducible rfl)
                try simp only [Act.put, List.getElem_toArray, List.getElem_cons_succ, List.getElem_cons_zero, List.setIfInBounds_toArray, List.set_cons_zero, List.set_cons_succ]
                refine wpAnyH_take (i := 5) (v := ?_) rfl (by kernel_rfl) (by kernel_rfl) (by kernel_rfl) (fun _ _ _ h => h) (Or.inl ⟨by rfl, ?_⟩) (by assumption) ?_
                rotate_left
                · intro Wq hSw
                  clear hSw
                  go_simp
                  all_goals (with_reducible rfl)
                try simp only [Act.put, List.getElem_toArray, List.getElem_cons_succ, List.getElem_cons_zero, List.setIfInBounds_toArray, List.set_cons_zero, List.set_cons_succ]
                refine wpAnyH_take (i := 6) (v := ?_) rfl (by kernel_rfl) (by kernel_rfl) (by kernel_rfl) (fun _ _ _ h => h) (Or.inl ⟨by rfl, ?_⟩) (by assumption) ?_
                rotate_left
                · intro Wq hSw
                  obtain ⟨k0, k1⟩ := ptRow_at (HPi.out.below hSw) (i := i) hi HQ.out
                  clear hSw
                  go_simp
                  all_goals (with_reducible rfl)
                try simp only [Act.put, List.getElem_toArray, List.getElem_cons_succ, List.getElem_cons_zero, List.setIfInBounds_toArray, List.set_cons_zero, List.set_cons_succ]
                refine wpAnyH_take (i := 7) (v := ?_) rfl (by kernel_rfl) (by kernel_rfl) (by kernel_rfl) (fun _ _ _ h => h) (Or.inl ⟨by rfl, ?_⟩) (by assumption) ?_
                rotate_left
                · intro Wq hSw
                  clear hSw
                  go_simp
                  all_goals (with_reducible rfl)
                try simp only [Act.put, List.getElem_toArray, List.getElem_cons_succ, List.getElem_cons_zero, List.setIfInBounds_toArray, List.set_cons_zero, List.set_cons_succ]
                refine wpAnyH_take (i := 8) (v := ?_) rfl (by kernel_rfl) (by kernel_rfl) (by kernel_rfl) (fun _ _ _ h => h) (Or.inl ⟨by rfl, ?_⟩) (by assumption) ?_
                rotate_left
                · intro Wq hSw
                  obtain ⟨k0, k1⟩ := (HV6.out.below hSw).two
                  clear hSw
                  go_simp
                  all_goals (with_reducible rfl)
                try simp only [Act.put, List.getElem_toArray, List.getElem_cons_succ, List.getElem_cons_zero, List.setIfInBounds_toArray, List.set_cons_zero, List.set_cons_succ]
                refine wpAnyH_take (i := 9) (v := ?_) rfl (by kernel_rfl) (by kernel_rfl) (by kernel_rfl) (fun _ _ _ h => h) (Or.inl ⟨by rfl, ?_⟩) (by assumption) ?_
                rotate_left
                · intro Wq hSw
                  clear hSw
                  go_simp
                  all_goals (with_reducible rfl)
                try simp only [Act.put, List.getElem_toArray, List.getElem_cons_succ, List.getElem_cons_zero, List.setIfInBounds_toArray, List.set_cons_zero, List.set_cons_succ]
                refine wpAnyH_take (i := 10) (v := ?_) rfl (by kernel_rfl) (by kernel_rfl) (by kernel_rfl) (fun _ _ _ h => h) (Or.inl ⟨by rfl, ?_⟩) (by assumption) ?_
                rotate_left
                · intro Wq hSw
                  clear hSw
                  go_simp
                  all_goals (with_reducible rfl)
                try simp only [Act.put, List.getElem_toArray, List.getElem_cons_succ, List.getElem_cons_zero, List.setIfInBounds_toArray, List.set_cons_zero, List.set_cons_succ]
                refine wpAnyH_take (i := 11) (v := ?_) rfl (by kernel_rfl) (by kernel_rfl) (by kernel_rfl) (fun _ _ _ h => h) (Or.inl ⟨by rfl, ?_⟩) (by assumption) ?_
                rotate_left
                · intro Wq hSw
                  clear hSw
                  go_simp
                  all_goals (with_reducible rfl)
                try simp only [Act.put, List.getElem_toArray, List.getElem_cons_succ, List.getElem_cons_zero, List.setIfInBounds_toArray, List.set_cons_zero, List.set_cons_succ]
                refine wpAnyH_done (by kernel_rfl) ?_ _
                have hW := hHeld
                clear hHeld
                replace HPi := Lib.hid (HPi.out.below hW)
                replace HV5 := Lib.hid (HV5.out.below hW)
                replace HV6 := Lib.hid (HV6.out.below hW)
                replace HW := Lib.hid (bl_trans HW.out hW)
                clear hW
                obtain ⟨m1, m2, m3, m4⟩ := wnum (i := i) (by omega)
                go_wp2_with fail
                clear m1 m2 m3 m4
                exact ⟨⟨i + 1, by rw [Int.natCast_add]; rfl, hi, by rfl, by rfl, by rfl, by rw [HST.out], HW.out⟩, by simp only [intOf]; omega⟩
    · obtain rfl : i = p.length := by omega
      have b0 : ((p.length : Int) < (p.length : Int)) = False := eq_false (by omega)
      rw [anyX_yes HTp.out.xl, anyX_yes HTp.out.yl, anyX_yes HTp.out.xh, anyX_yes HTp.out.yh]
      replace HQw := Lib.hid (HQw.out.below HW.out)
      replace HBW := Lib.hid (bl_trans HBW.out HW.out)
      replace HPw := HPi
      clear HV5a HV6a HPi HW
      go_wp2_with (at_builtin; refine app_pts rfl _ _ rfl rfl (op_nil wr) rfl (L := p) rfl (HPw.out) HN0.out ?x1 ?_)
      case x1 => (try simp); omega
      intro v1 w1 h1
      have HO1 := Lib.hid h1
      clear h1
      go_wp2_with (at_builtin; refine app_pts rfl _ _ rfl rfl (HO1.out) rfl (L := q) rfl (HQw.out.below HO1.out.hb) HNQ.out ?x2 ?_)
      case x2 => (try simp); omega
      intro v2 w2 h2
      have HO2 := Lib.hid h2
      clear h2
      clear HO1
      have HT2 : Hid (Op wr v2 (p ++ q) w2) := by simpa using HO2
      clear HO2
      have htl : (p ++ q).length = p.length + q.length := List.length_append
      obtain ⟨T, hT⟩ : ∃ T, p ++ q = T := ⟨_, rfl⟩
      have HTE := Lib.hid hT
      rw [hT] at htl HT2
      have HTL := Lib.hid htl
      clear hT htl
      obtain ⟨ad2, cp2, rfl, hcp2, hI, -⟩ := HT2.out.pts
      have HI2 := Lib.hid hI
      have hb1 := HT2.out.hb
      replace HV5 := Lib.hid (HV5.out.below hb1)
      replace HV6 := Lib.hid (HV6.out.below hb1)
      replace HQw := Lib.hid (HQw.out.below hb1)
      replace HPw := Lib.hid (HPw.out.below hb1)
      replace HBW := Lib.hid (bl_trans HBW.out hb1)
      clear hI hb1 HT2
      have HQo := Lib.hid (box_l q adq capq w2 HQw.out hcapq (by omega))
      clear HQw HPw HN0 HNQ
      go_wp2_with fail
      (with_reducible refine HQo.out.mono ?_); rintro e w3 ⟨c, d, is, rfl, hT, hb1⟩
      have HTq := Lib.hid hT
      clear hT HQo
      go_upto_region 25 with (fail)
      have HV7 := Lib.hid ((var2_new w3 (.int .i64 c.x) (.int .i64 c.y) 28 w3.heap.size rfl).below (bl_one _ (.cells #[.int .i64 d.x, .int .i64 d.y] 28)))
      have HV8 := Lib.hid (var2_new (w3.alloc (.cells #[.int .i64 c.x, .int .i64 c.y] 28)) (.int .i64 d.x) (.int .i64 d.y) 28 (w3.heap.size + 1) (by simp))
      have hb2 := bl_alloc (bl_one w3 (.cells #[.int .i64 c.x, .int .i64 c.y] 28)) (.cells #[.int .i64 d.x, .int .i64 d.y] 28)
      have hb3 := bl_trans hb1 hb2
      replace HV5 := Lib.hid (HV5.out.below hb3)
      replace HV6 := Lib.hid (HV6.out.below hb3)
      replace HI2 := Lib.hid (HI2.out.below hb3)
      replace HBW := Lib.hid (bl_trans HBW.out hb3)
      clear hb1 hb2 hb3
      generalize (w3.alloc (.cells #[.int .i64 c.x, .int .i64 c.y] 28)).alloc (.cells #[.int .i64 d.x, .int .i64 d.y] 28) = W3 at *
      obtain ⟨g7, e4⟩ : ∃ g, g = w3.heap.size := ⟨_, rfl⟩
      obtain ⟨g8, e5⟩ : ∃ g, g = g7 + 1 := ⟨_, rfl⟩
      rw [← e4, ← e5] at HV8 ⊢
      rw [← e4] at HV7
      clear e4 e5
      have HQo := Lib.hid (box_l T ad2 cp2 W3 HI2.out hcp2 (by have := HTL.out; omega))
      clear HI2
      go_wp2_with fail
      (with_reducible refine HQo.out.mono ?_); rintro e w4 ⟨e1, f1, both, rfl, hT, hb1⟩
      have HTt := Lib.hid hT
      clear hT HQo
      go_upto_region 26 with (fail)
      have HV9 := Lib.hid ((var2_new w4 (.int .i64 e1.x) (.int .i64 e1.y) 28 w4.heap.size rfl).below (bl_one _ (.cells #[.int .i64 f1.x, .int .i64 f1.y] 28)))
      have HV10 := Lib.hid (var2_new (w4.alloc (.cells #[.int .i64 e1.x, .int .i64 e1.y] 28)) (.int .i64 f1.x) (.int .i64 f1.y) 28 (w4.heap.size + 1) (by simp))
      have hb2 := bl_alloc (bl_one w4 (.cells #[.int .i64 e1.x, .int .i64 e1.y] 28)) (.cells #[.int .i64 f1.x, .int .i64 f1.y] 28)
      have hb3 := bl_trans hb1 hb2
      replace HV5 := Lib.hid (HV5.out.below hb3)
      replace HV6 := Lib.hid (HV6.out.below hb3)
      replace HV7 := Lib.hid (HV7.out.below hb3)
      replace HV8 := Lib.hid (HV8.out.below hb3)
      replace HBW := Lib.hid (bl_trans HBW.out hb3)
      clear hb1 hb2 hb3
      generalize (w4.alloc (.cells #[.int .i64 e1.x, .int .i64 e1.y] 28)).alloc (.cells #[.int .i64 f1.x, .int .i64 f1.y] 28) = W4 at *
      obtain ⟨g9, e4⟩ : ∃ g, g = w4.heap.size := ⟨_, rfl⟩
      obtain ⟨g10, e5⟩ : ∃ g, g = g9 + 1 := ⟨_, rfl⟩
      rw [← e4, ← e5] at HV10 ⊢
      rw [← e4] at HV9
      clear e4 e5
      cases is with
      | false =>
        have hbo : both = true := by
          have l1 := HTL.out
          rcases HTt.out with ⟨_, l2, _⟩ | ⟨l2, _⟩
          · omega
          · exact l2
        subst hbo
        clear HV5 HV6 HV7 HV8 HV9 HV10
        go_wp2_with fail
        (with_reducible refine (KN.out _).mono ?_); rintro e w9 ⟨rfl, hb1⟩
        replace HBW := Lib.hid (bl_trans HBW.out hb1)
        clear hb1
        go_wp2
        go_ret
        exact ⟨rfl, HBW.out⟩
      | true =>
        have hbo : both = true := by
          have l1 := HTL.out
          rcases HTt.out with ⟨_, l2, _⟩ | ⟨l2, _⟩
          · omega
          · exact l2
        subst hbo
        obtain ⟨x0, x1⟩ := HV5.out.two
        obtain ⟨x2', x3'⟩ := HV6.out.two
        obtain ⟨x4', x5'⟩ := HV7.out.two
        obtain ⟨x6', x7'⟩ := HV8.out.two
        have HQo : Hid (∀ (W : World) (r : Option Addr), PtRow W r [a, b, c, d] → Calls Try.prog 18 #[.slice r 4 4] W fun e w' => ∃ lo hi ok, e = .returned (.tuple #[.agg #[.int .i64 lo.x, .int .i64 lo.y], .agg #[.int .i64 hi.x, .int .i64 hi.y], .bool ok]) ∧ BoxIs [a, b, c, d] lo hi ok ∧ Below W.heap.size W w') := fun W r h => box_l [a, b, c, d] r 4 W h (by simp) (by simp)
        go_wp2_with fail
        clear x0 x1 x2' x3' x4' x5' x6' x7'
        have HR := Lib.hid (ptRow_new4 W4 a b c d 28)
        replace HBW := Lib.hid (bl_trans HBW.out (bl_one W4 (.cells #[.int .i64 a.x, .int .i64 a.y, .int .i64 b.x, .int .i64 b.y, .int .i64 c.x, .int .i64 c.y, .int .i64 d.x, .int .i64 d.y] 28)))
        replace HV9 := Lib.hid (HV9.out.below (bl_one W4 (.cells #[.int .i64 a.x, .int .i64 a.y, .int .i64 b.x, .int .i64 b.y, .int .i64 c.x, .int .i64 c.y, .int .i64 d.x, .int .i64 d.y] 28)))
        replace HV10 := Lib.hid (HV10.out.below (bl_one W4 (.cells #[.int .i64 a.x, .int .i64 a.y, .int .i64 b.x, .int .i64 b.y, .int .i64 c.x, .int .i64 c.y, .int .i64 d.x, .int .i64 d.y] 28)))
        clear HV5 HV6 HV7 HV8
        (with_reducible refine (HQo.out _ _ HR.out).mono ?_); rintro e w5 ⟨g, h, ok5, rfl, hT, hb1⟩
        have HTc := Lib.hid hT
        clear hT HQo HR
        go_upto_region 29 with (fail)
        have HV11 := Lib.hid ((var2_new w5 (.int .i64 g.x) (.int .i64 g.y) 28 w5.heap.size rfl).below (bl_one _ (.cells #[.int .i64 h.x, .int .i64 h.y] 28)))
        have HV12 := Lib.hid (var2_new (w5.alloc (.cells #[.int .i64 g.x, .int .i64 g.y] 28)) (.int .i64 h.x) (.int .i64 h.y) 28 (w5.heap.size + 1) (by simp))
        have hb2 := bl_alloc (bl_one w5 (.cells #[.int .i64 g.x, .int .i64 g.y] 28)) (.cells #[.int .i64 h.x, .int .i64 h.y] 28)
        have hb3 := bl_trans hb1 hb2
        replace HV9 := Lib.hid (HV9.out.below hb3)
        replace HV10 := Lib.hid (HV10.out.below hb3)
        replace HBW := Lib.hid (bl_trans HBW.out hb3)
        clear hb1 hb2 hb3
        generalize (w5.alloc (.cells #[.int .i64 g.x, .int .i64 g.y] 28)).alloc (.cells #[.int .i64 h.x, .int .i64 h.y] 28) = W5 at *
        obtain ⟨g11, e4⟩ : ∃ g, g = w5.heap.size := ⟨_, rfl⟩
        obtain ⟨g12, e5⟩ : ∃ g, g = g11 + 1 := ⟨_, rfl⟩
        rw [← e4, ← e5] at HV12 ⊢
        rw [← e4] at HV11
        clear e4 e5
        obtain ⟨rfl, rfl⟩ : e1 = g ∧ f1 = h := by
          rcases HTq.out with ⟨h, -⟩ | ⟨-, -, h2⟩
          · cases h
          rcases HTt.out with ⟨h, -⟩ | ⟨-, -, h3⟩
          · cases h
          rcases HTc.out with ⟨-, h, -⟩ | ⟨-, -, h4⟩
          · simp at h
          have h5 := HTE.out
          subst h5
          exact two_boxes HTp.out h2 h3 h4
        obtain ⟨x0, x1⟩ := HV9.out.two
        obtain ⟨x2', x3'⟩ := HV10.out.two
        obtain ⟨x4', x5'⟩ := HV11.out.two
        obtain ⟨x6', x7'⟩ := HV12.out.two
        clear HV9 HV10 HV11 HV12
        go_wp2_with fail
        (with_reducible refine (KN.out _).mono ?_); rintro e w9 ⟨rfl, hb1⟩
        replace HBW := Lib.hid (bl_trans HBW.out hb1)
        clear hb1
        go_wp2
        go_ret
        exact ⟨rfl, HBW.out⟩
set_option maxHeartbeats 8000000 in
set_option maxRecDepth 100000 in
theorem boxes7_l (w : World) (p : List Pt) (ad : Option Addr) (cap : Nat) (hcap : p.length ≤ cap) (hP : PtRow w ad p) (hn : ad = none → cap = 0) (q : List Pt) (adq : Option Addr) (capq : Nat) (hcapq : q.length ≤ capq) (hQ : PtRow w adq q) (hnq : adq = none → capq = 0) :
    Calls Try.prog 8 #[.slice ad p.length cap, .slice adq q.length capq] w (Gives (.bool true) w) := by
  by_cases hbig : 300 < p.length ∨ 300 < q.length
  · have KN := Lib.hid (fun W => known_l W)
    rcases Nat.lt_or_ge 300 p.length with h1 | h1
    · have b1 : ((300 : Int) < (p.length : Int)) = True := eq_true (by omega)
      go_enter Try.func8, Try.ntmps8
      go_wp2_with fail
      (with_reducible refine (KN.out _).mono ?_); rintro e w1 ⟨rfl, hb1⟩
      go_wp2
      go_ret
      exact ⟨rfl, hb1⟩
    · have b1 : ((300 : Int) < (p.length : Int)) = False := eq_false (by omega)
      have b2 : ((300 : Int) < (q.length : Int)) = True := eq_true (by omega)
      go_enter Try.func8, Try.ntmps8
      go_wp2_with fail
      (with_reducible refine (KN.out _).mono ?_); rintro e w1 ⟨rfl, hb1⟩
      go_wp2
      go_ret
      exact ⟨rfl, hb1⟩
  by_cases h0 : p.length = 0
  · exact boxesNo_l w p ad cap hcap hP hn q adq capq hcapq hQ hnq h0 (by omega)
  · exact boxesYes_l w p ad cap hcap hP hn q adq capq hcapq hQ hnq (by omega) (by omega)
end Go.Proofs.Ytmkegehkifpkjaa
