/-
  Contract of ref.Box.
-/
import Derived.Deep.Cut
import Derived.Deep.DeepCutAuto
import Derived.Test.YtmkegehkifpkjaaBox
namespace Go.Proofs.Ytmkegehkifpkjaa
open Go.RowKit

theorem Var.set0 {W : World} {g : Nat} {a b : Value} (h : Var W g [a, b]) (a' : Value) : Var (W.setCell ⟨g, 0, none⟩ a') g [a', b] := by
  obtain ⟨h0, h1⟩ := h.two
  obtain ⟨f0, f1⟩ := h.free2
  exact var2 (by simpa using h.lt) (World.cell?_setCell_same _ _ _ h0) ((World.cell?_setCell_other _ _ _ _ (by intro e; injection e with e1 e2; omega)).trans h1) (by simpa using f0) (by simpa using f1)
theorem Var.set1 {W : World} {g : Nat} {a b : Value} (h : Var W g [a, b]) (b' : Value) : Var (W.setCell ⟨g, 1, none⟩ b') g [a, b'] := by
  obtain ⟨h0, h1⟩ := h.two
  obtain ⟨f0, f1⟩ := h.free2
  exact var2 (by simpa using h.lt) ((World.cell?_setCell_other _ _ _ _ (by intro e; injection e with e1 e2; omega)).trans h0) (World.cell?_setCell_same _ _ _ h1) (by simpa using f0) (by simpa using f1)
def BoxAt (p : List Pt) (i : Nat) (lo hi : Pt) : Prop := (i = 0 ∧ lo = ⟨0, 0⟩ ∧ hi = ⟨0, 0⟩) ∨ (0 < i ∧ BoxTo p i lo hi)
theorem boxAt_step {p : List Pt} {i : Nat} {a b c d a' b' c' d' : Int} {q : Pt} (h : BoxAt p i ⟨a, b⟩ ⟨c, d⟩) (hq : pget p i = q) (h1 : (if i = 0 ∨ q.x < a then q.x else a) = a') (h2 : (if i = 0 ∨ q.y < b then q.y else b) = b') (h3 : (if i = 0 ∨ c < q.x then q.x else c) = c') (h4 : (if i = 0 ∨ d < q.y then q.y else d) = d') : BoxAt p (i + 1) ⟨a', b'⟩ ⟨c', d'⟩ := by
  refine .inr ⟨Nat.succ_pos _, ?_⟩
  rcases h with ⟨rfl, -, -⟩ | ⟨h0, h⟩
  · rw [if_pos (.inl rfl)] at h1 h2 h3 h4
    subst h1 h2 h3 h4 hq
    exact box_one p
  · subst hq
    refine box_step h ?_ ?_ ?_ ?_
    · subst h1; show (if _ then _ else _) = min a _; split <;> omega
    · subst h2; show (if _ then _ else _) = min b _; split <;> omega
    · subst h3; show (if _ then _ else _) = max c _; split <;> omega
    · subst h4; show (if _ then _ else _) = max d _; split <;> omega
set_option maxHeartbeats 8000000 in
set_option maxRecDepth 100000 in
theorem refBox_l (p : List Pt) (ad : Option Addr) (cap : Nat) (w : World) (hP : PtRow w ad p) (hlen : p.length ≤ 10000) :
    Calls Try.prog 19 #[.slice ad p.length cap] w fun e w' => ∃ lo hi ok, e = .returned (.tuple #[.agg #[.int .i64 lo.x, .int .i64 lo.y], .agg #[.int .i64 hi.x, .int .i64 hi.y], .bool ok]) ∧ BoxIs p lo hi ok ∧ Below w.heap.size w w' := by
  have HP0 := Lib.hid hP
  clear hP
  go_enter Try.func19, Try.ntmps19
  go_upto_region 3 with (fail)
  have G0 := Lib.hid ((⟨Below.refl _ _, Nat.le_refl _⟩ : Grew w 0 w))
  have HV2 := Lib.hid ((var2_new w (.int .i64 0) (.int .i64 0) 28 w.heap.size rfl).below (bl_one _ (.cells #[.int .i64 0, .int .i64 0] 28)))
  have HV3 := Lib.hid (var2_new (w.alloc (.cells #[.int .i64 0, .int .i64 0] 28)) (.int .i64 0) (.int .i64 0) 28 (w.heap.size + 1) (by simp))
  have HG := Lib.hid ((G0.out.new (.cells #[.int .i64 0, .int .i64 0] 28)).new (.cells #[.int .i64 0, .int .i64 0] 28))
  have hsz : ((w.alloc (.cells #[.int .i64 0, .int .i64 0] 28)).alloc (.cells #[.int .i64 0, .int .i64 0] 28)).heap.size = w.heap.size + 2 := by simp
  generalize (w.alloc (.cells #[.int .i64 0, .int .i64 0] 28)).alloc (.cells #[.int .i64 0, .int .i64 0] 28) = W0 at *
  have HV5 := Lib.hid ((var2_new W0 (.int .i64 0) (.int .i64 0) 28 W0.heap.size rfl).below (bl_one _ (.cells #[.int .i64 0, .int .i64 0] 28)))
  have HV6 := Lib.hid (var2_new (W0.alloc (.cells #[.int .i64 0, .int .i64 0] 28)) (.int .i64 0) (.int .i64 0) 28 (W0.heap.size + 1) (by simp))
  have HB := Lib.hid (bl_alloc (bl_one W0 (.cells #[.int .i64 0, .int .i64 0] 28)) (.cells #[.int .i64 0, .int .i64 0] 28))
  have hne : W0.heap.size ≠ W0.heap.size + 1 := by omega
  have hne' : W0.heap.size + 1 ≠ W0.heap.size := by omega
  have h5 : W0.heap.size ≤ W0.heap.size := Nat.le_refl _
  have h6 : W0.heap.size ≤ W0.heap.size + 1 := Nat.le_succ _
  generalize (W0.alloc (.cells #[.int .i64 0, .int .i64 0] 28)).alloc (.cells #[.int .i64 0, .int .i64 0] 28) = W1 at *
  obtain ⟨g5, e5⟩ : ∃ g5, g5 = W0.heap.size := ⟨_, rfl⟩
  obtain ⟨g6, e6⟩ : ∃ g6, g6 = W0.heap.size + 1 := ⟨_, rfl⟩
  rw [← e6] at HV6 hne hne'
  rw [← e5] at HV5 hne hne'
  rw [show w.heap.size + 1 + 1 + 1 = g6 by omega, show w.heap.size + 1 + 1 = g5 by omega]
  replace h5 : W0.heap.size ≤ g5 := by omega
  replace h6 : W0.heap.size ≤ g6 := by omega
  have HP1 := Lib.hid (HP0.out.below HG.out.hb)
  have HE5 := Lib.hid e5
  have HE6 := Lib.hid e6
  have HSZ := Lib.hid hsz
  clear e5 e6 hsz
  go_wp2_with fail
  go_loopw [7] (fun iv W => ∃ (i : Nat) (a b c d : Int), iv = .int .i64 i ∧ i ≤ p.length ∧ BoxAt p i ⟨a, b⟩ ⟨c, d⟩ ∧ Var W g5 [.int .i64 a, .int .i64 b] ∧ Var W g6 [.int .i64 c, .int .i64 d] ∧ Below W0.heap.size W0 W) (fun iv _ => p.length - (intOf iv).toNat)
  case atStart => exact ⟨0, 0, 0, 0, 0, rfl, Nat.zero_le _, .inl ⟨rfl, rfl, rfl⟩, HV5.out, HV6.out, HB.out⟩
  case round =>
    obtain ⟨i, a, b, c, d, rfl, hile, hbox, hv5, hv6, hb⟩ := hrel
    clear HV5 HV6 HB
    have HBX := Lib.hid hbox
    have HV5 := Lib.hid hv5
    have HV6 := Lib.hid hv6
    have HB := Lib.hid hb
    clear hbox hv5 hv6 hb
    by_cases hi : i < p.length
    · have b0 : ((i : Int) < (p.length : Int)) = True := eq_true (by omega)
      have d0 : (i < p.length) = True := eq_true (by omega)
      have c0 : ((0 : Int) ≤ (i : Int)) = True := eq_true (by omega)
      have HPi := Lib.hid (HP1.out.below HB.out)
      obtain ⟨g, o, rfl⟩ := HPi.out.some (by omega)
      obtain ⟨q, hq⟩ : ∃ q, pget p i = q := ⟨_, rfl⟩
      have HQ := Lib.hid hq
      clear hq
      go_upto_region 6 with (fail)
      obtain ⟨WC, eW⟩ : ∃ WC, WC = wr := ⟨_, rfl⟩
      subst eW
      go_cut [27] (fun x W => x = .bool (decide (i = 0 ∨ q.x < a)) ∧ Below WC.heap.size WC W)
      case first =>
        by_cases hi0 : i = 0
        · have z1 : ((i : Int) = 0) = True := eq_true (by omega)
          have z2 : ((i : Int) == 0) = true := beq_iff_eq.mpr (by omega)
          have z3 : (i == 0) = true := beq_iff_eq.mpr hi0
          have HE := Lib.hid (decide_eq_true (show i = 0 ∨ q.x < a from .inl hi0))
          clear hi0
          refine wp_region_held_drew (S := fun V => Below WC.heap.size WC V) (by kernel_rfl) ?_ (fun hHeld => ?_)
          · exact bel_drew WC
          revert hHeld
          generalize World.drew _ = W1
          intro hHeld 
          refine wpAnyH_take (i := 0) (v := ?_) rfl (by kernel_rfl) (by kernel_rfl) (by kernel_rfl) (fun _ _ _ h => h) (Or.inl ⟨by rfl, ?_⟩) (by assumption) ?_
          rotate_left
          · intro Wq hSw
            clear hSw
            go_simp
            all_goals (with_reducible rfl)
          try simp only [Act.put, List.getElem_toArray, List.getElem_cons_zero, List.setIfInBounds_toArray, List.set_cons_zero, List.set_cons_succ]
          refine wpAnyH_take (i := 1) (v := ?_) rfl (by kernel_rfl) (by kernel_rfl) (by kernel_rfl) (fun _ _ _ h => h) (Or.inl ⟨by rfl, ?_⟩) (by assumption) ?_
          rotate_left
          · intro Wq hSw
            clear hSw
            go_simp
            all_goals (with_reducible rfl)
          try simp only [Act.put, List.getElem_toArray, List.getElem_cons_succ, List.getElem_cons_zero, List.setIfInBounds_toArray, List.set_cons_zero, List.set_cons_succ]
          refine wpAnyH_take (i := 2) (v := ?_) rfl (by kernel_rfl) (by kernel_rfl) (by kernel_rfl) (fun _ _ _ h => h) (Or.inl ⟨by rfl, ?_⟩) (by assumption) ?_
          rotate_left
          · intro Wq hSw
            clear hSw
            go_simp
            all_goals (with_reducible rfl)
          try simp only [Act.put, List.getElem_toArray, List.getElem_cons_succ, List.getElem_cons_zero, List.setIfInBounds_toArray, List.set_cons_zero, List.set_cons_succ]
          refine wpAnyH_take (i := 3) (v := _) rfl (by kernel_rfl) (by kernel_rfl) (by kernel_rfl) (fun _ _ _ h => h) (Or.inr ⟨by rfl, rfl⟩) (by assumption) ?_
          try simp only [Act.put, List.getElem_toArray, List.getElem_cons_succ, List.getElem_cons_zero, List.setIfInBounds_toArray, List.set_cons_zero, List.set_cons_succ]
          refine wpAnyH_take (i := 4) (v := _) rfl (by kernel_rfl) (by kernel_rfl) (by kernel_rfl) (fun _ _ _ h => h) (Or.inr ⟨by rfl, rfl⟩) (by assumption) ?_
          try simp only [Act.put, List.getElem_toArray, List.getElem_cons_succ, List.getElem_cons_zero, List.setIfInBounds_toArray, List.set_cons_zero, List.set_cons_succ]
          refine wpAnyH_take (i := 5) (v := _) rfl (by kernel_rfl) (by kernel_rfl) (by kernel_rfl) (fun _ _ _ h => h) (Or.inr ⟨by rfl, rfl⟩) (by assumption) ?_
          try simp only [Act.put, List.getElem_toArray, List.getElem_cons_succ, List.getElem_cons_zero, List.setIfInBounds_toArray, List.set_cons_zero, List.set_cons_succ]
          refine wpAnyH_take (i := 6) (v := _) rfl (by kernel_rfl) (by kernel_rfl) (by kernel_rfl) (fun _ _ _ h => h) (Or.inr ⟨by rfl, rfl⟩) (by assumption) ?_
          try simp only [Act.put, List.getElem_toArray, List.getElem_cons_succ, List.getElem_cons_zero, List.setIfInBounds_toArray, List.set_cons_zero, List.set_cons_succ]
          refine wpAnyH_take (i := 7) (v := _) rfl (by kernel_rfl) (by kernel_rfl) (by kernel_rfl) (fun _ _ _ h => h) (Or.inr ⟨by rfl, rfl⟩) (by assumption) ?_
          try simp only [Act.put, List.getElem_toArray, List.getElem_cons_succ, List.getElem_cons_zero, List.setIfInBounds_toArray, List.set_cons_zero, List.set_cons_succ]
          refine wpAnyH_take (i := 8) (v := _) rfl (by kernel_rfl) (by kernel_rfl) (by kernel_rfl) (fun _ _ _ h => h) (Or.inr ⟨by rfl, rfl⟩) (by assumption) ?_
          try simp only [Act.put, List.getElem_toArray, List.getElem_cons_succ, List.getElem_cons_zero, List.setIfInBounds_toArray, List.set_cons_zero, List.set_cons_succ]
          refine wpAnyH_take (i := 9) (v := _) rfl (by kernel_rfl) (by kernel_rfl) (by kernel_rfl) (fun _ _ _ h => h) (Or.inr ⟨by rfl, rfl⟩) (by assumption) ?_
          try simp only [Act.put, List.getElem_toArray, List.getElem_cons_succ, List.getElem_cons_zero, List.setIfInBounds_toArray, List.set_cons_zero, List.set_cons_succ]
          refine wpAnyH_take (i := 10) (v := _) rfl (by kernel_rfl) (by kernel_rfl) (by kernel_rfl) (fun _ _ _ h => h) (Or.inr ⟨by rfl, rfl⟩) (by assumption) ?_
          try simp only [Act.put, List.getElem_toArray, List.getElem_cons_succ, List.getElem_cons_zero, List.setIfInBounds_toArray, List.set_cons_zero, List.set_cons_succ]
          refine wpAnyH_take (i := 11) (v := ?_) rfl (by kernel_rfl) (by kernel_rfl) (by kernel_rfl) (fun _ _ _ h => h) (Or.inl ⟨by rfl, ?_⟩) (by assumption) ?_
          rotate_left
          · intro Wq hSw
            clear hSw
            go_simp
            all_goals (with_reducible rfl)
          try simp only [Act.put, List.getElem_toArray, List.getElem_cons_succ, List.getElem_cons_zero, List.setIfInBounds_toArray, List.set_cons_zero, List.set_cons_succ]
          refine wpAnyH_done (by kernel_rfl) ?_ _
          go_wp2_with fail
          go_meet
          case rel => exact ⟨by rw [HE.out], hHeld⟩
        · have z1 : ((i : Int) = 0) = False := eq_false (by omega)
          have z2 : ((i : Int) == 0) = false := beq_eq_false_iff_ne.mpr (by omega)
          have z3 : (i == 0) = false := beq_eq_false_iff_ne.mpr hi0
          have z4 : (i = 0) = False := eq_false hi0
          by_cases hc : q.x < a
          · have z5 : (q.x < a) = True := eq_true hc
            have HE := Lib.hid (decide_eq_true (show i = 0 ∨ q.x < a from .inr hc))
            clear hi0 hc
            refine wp_region_held_drew (S := fun V => Below WC.heap.size WC V) (by kernel_rfl) ?_ (fun hHeld => ?_)
            · exact bel_drew WC
            revert hHeld
            generalize World.drew _ = W1
            intro hHeld 
            refine wpAnyH_take (i := 0) (v := ?_) rfl (by kernel_rfl) (by kernel_rfl) (by kernel_rfl) (fun _ _ _ h => h) (Or.inl ⟨by rfl, ?_⟩) (by assumption) ?_
            rotate_left
            · intro Wq hSw
              clear hSw
              go_simp
              all_goals (with_reducible rfl)
            try simp only [Act.put, List.getElem_toArray, List.getElem_cons_zero, List.setIfInBounds_toArray, List.set_cons_zero, List.set_cons_succ]
            refine wpAnyH_take (i := 1) (v := ?_) rfl (by kernel_rfl) (by kernel_rfl) (by kernel_rfl) (fun _ _ _ h => h) (Or.inl ⟨by rfl, ?_⟩) (by assumption) ?_
            rotate_left
            · intro Wq hSw
              clear hSw
              go_simp
              all_goals (with_reducible rfl)
            try simp only [Act.put, List.getElem_toArray, List.getElem_cons_succ, List.getElem_cons_zero, List.setIfInBounds_toArray, List.set_cons_zero, List.set_cons_succ]
            refine wpAnyH_take (i := 2) (v := ?_) rfl (by kernel_rfl) (by kernel_rfl) (by kernel_rfl) (fun _ _ _ h => h) (Or.inl ⟨by rfl, ?_⟩) (by assumption) ?_
            rotate_left
            · intro Wq hSw
              clear hSw
              go_simp
              all_goals (with_reducible rfl)
            try simp only [Act.put, List.getElem_toArray, List.getElem_cons_succ, List.getElem_cons_zero, List.setIfInBounds_toArray, List.set_cons_zero, List.set_cons_succ]
            refine wpAnyH_take (i := 3) (v := ?_) rfl (by kernel_rfl) (by kernel_rfl) (by kernel_rfl) (fun _ _ _ h => h) (Or.inl ⟨by rfl, ?_⟩) (by assumption) ?_
            rotate_left
            · intro Wq hSw
              clear hSw
              go_simp
              all_goals (with_reducible rfl)
            try simp only [Act.put, List.getElem_toArray, List.getElem_cons_succ, List.getElem_cons_zero, List.setIfInBounds_toArray, List.set_cons_zero, List.set_cons_succ]
            refine wpAnyH_take (i := 4) (v := ?_) rfl (by kernel_rfl) (by kernel_rfl) (by kernel_rfl) (fun _ _ _ h => h) (Or.inl ⟨by rfl, ?_⟩) (by assumption) ?_
            rotate_left
            · intro Wq hSw
              clear hSw
              go_simp
              all_goals (with_reducible rfl)
            try simp only [Act.put, List.getElem_toArray, List.getElem_cons_succ, List.getElem_cons_zero, List.setIfInBounds_toArray, List.set_cons_zero, List.set_cons_succ]
            refine wpAnyH_take (i := 5) (v := ?_) rfl (by kernel_rfl) (by kernel_rfl) (by kernel_rfl) (fun _ _ _ h => h) (Or.inl ⟨by rfl, ?_⟩) (by assumption) ?_
            rotate_left
            · intro Wq hSw
              have b1 : ((i : Int) < (p.length : Int)) = True := eq_true (by omega)
              have d1 : (i < p.length) = True := eq_true (by omega)
              have c1 : ((0 : Int) ≤ (i : Int)) = True := eq_true (by omega)
              clear hSw
              go_simp
              all_goals (with_reducible rfl)
            try simp only [Act.put, List.getElem_toArray, List.getElem_cons_succ, List.getElem_cons_zero, List.setIfInBounds_toArray, List.set_cons_zero, List.set_cons_succ]
            refine wpAnyH_take (i := 6) (v := ?_) rfl (by kernel_rfl) (by kernel_rfl) (by kernel_rfl) (fun _ _ _ h => h) (Or.inl ⟨by rfl, ?_⟩) (by assumption) ?_
            rotate_left
            · intro Wq hSw
              clear hSw
              go_simp
              all_goals (with_reducible rfl)
            try simp only [Act.put, List.getElem_toArray, List.getElem_cons_succ, List.getElem_cons_zero, List.setIfInBounds_toArray, List.set_cons_zero, List.set_cons_succ]
            refine wpAnyH_take (i := 7) (v := ?_) rfl (by kernel_rfl) (by kernel_rfl) (by kernel_rfl) (fun _ _ _ h => h) (Or.inl ⟨by rfl, ?_⟩) (by assumption) ?_
            rotate_left
            · intro Wq hSw
              obtain ⟨k0, k1⟩ := ptRow_at (HPi.out.below hSw) (i := i) hi HQ.out
              clear hSw
              go_simp
              all_goals (with_reducible rfl)
            try simp only [Act.put, List.getElem_toArray, List.getElem_cons_succ, List.getElem_cons_zero, List.setIfInBounds_toArray, List.set_cons_zero, List.set_cons_succ]
            refine wpAnyH_take (i := 8) (v := ?_) rfl (by kernel_rfl) (by kernel_rfl) (by kernel_rfl) (fun _ _ _ h => h) (Or.inl ⟨by rfl, ?_⟩) (by assumption) ?_
            rotate_left
            · intro Wq hSw
              clear hSw
              go_simp
              all_goals (with_reducible rfl)
            try simp only [Act.put, List.getElem_toArray, List.getElem_cons_succ, List.getElem_cons_zero, List.setIfInBounds_toArray, List.set_cons_zero, List.set_cons_succ]
            refine wpAnyH_take (i := 9) (v := ?_) rfl (by kernel_rfl) (by kernel_rfl) (by kernel_rfl) (fun _ _ _ h => h) (Or.inl ⟨by rfl, ?_⟩) (by assumption) ?_
            rotate_left
            · intro Wq hSw
              obtain ⟨k0, k1⟩ := (HV5.out.below hSw).two
              clear hSw
              go_simp
              all_goals (with_reducible rfl)
            try simp only [Act.put, List.getElem_toArray, List.getElem_cons_succ, List.getElem_cons_zero, List.setIfInBounds_toArray, List.set_cons_zero, List.set_cons_succ]
            refine wpAnyH_take (i := 10) (v := ?_) rfl (by kernel_rfl) (by kernel_rfl) (by kernel_rfl) (fun _ _ _ h => h) (Or.inl ⟨by rfl, ?_⟩) (by assumption) ?_
            rotate_left
            · intro Wq hSw
              clear hSw
              go_simp
              all_goals (with_reducible rfl)
            try simp only [Act.put, List.getElem_toArray, List.getElem_cons_succ, List.getElem_cons_zero, List.setIfInBounds_toArray, List.set_cons_zero, List.set_cons_succ]
            refine wpAnyH_take (i := 11) (v := ?_) rfl (by kernel_rfl) (by kernel_rfl) (by kernel_rfl) (fun _ _ _ h => h) (Or.inl ⟨by rfl, ?_⟩) (by assumption) ?_
            rotate_left
            · intro Wq hSw
              clear hSw
              go_simp
              all_goals (with_reducible rfl)
            try simp only [Act.put, List.getElem_toArray, List.getElem_cons_succ, List.getElem_cons_zero, List.setIfInBounds_toArray, List.set_cons_zero, List.set_cons_succ]
            refine wpAnyH_done (by kernel_rfl) ?_ _
            go_wp2_with fail
            go_meet
            case rel => exact ⟨by rw [HE.out], hHeld⟩
          · have z5 : (q.x < a) = False := eq_false hc
            have HE := Lib.hid (decide_eq_false (show ¬ (i = 0 ∨ q.x < a) from fun h => h.elim hi0 hc))
            clear hi0 hc
            refine wp_region_held_drew (S := fun V => Below WC.heap.size WC V) (by kernel_rfl) ?_ (fun hHeld => ?_)
            · exact bel_drew WC
            revert hHeld
            generalize World.drew _ = W1
            intro hHeld 
            refine wpAnyH_take (i := 0) (v := ?_) rfl (by kernel_rfl) (by kernel_rfl) (by kernel_rfl) (fun _ _ _ h => h) (Or.inl ⟨by rfl, ?_⟩) (by assumption) ?_
            rotate_left
            · intro Wq hSw
              clear hSw
              go_simp
              all_goals (with_reducible rfl)
            try simp only [Act.put, List.getElem_toArray, List.getElem_cons_zero, List.setIfInBounds_toArray, List.set_cons_zero, List.set_cons_succ]
            refine wpAnyH_take (i := 1) (v := ?_) rfl (by kernel_rfl) (by kernel_rfl) (by kernel_rfl) (fun _ _ _ h => h) (Or.inl ⟨by rfl, ?_⟩) (by assumption) ?_
            rotate_left
            · intro Wq hSw
              clear hSw
              go_simp
              all_goals (with_reducible rfl)
            try simp only [Act.put, List.getElem_toArray, List.getElem_cons_succ, List.getElem_cons_zero, List.setIfInBounds_toArray, List.set_cons_zero, List.set_cons_succ]
            refine wpAnyH_take (i := 2) (v := ?_) rfl (by kernel_rfl) (by kernel_rfl) (by kernel_rfl) (fun _ _ _ h => h) (Or.inl ⟨by rfl, ?_⟩) (by assumption) ?_
            rotate_left
            · intro Wq hSw
              clear hSw
              go_simp
              all_goals (with_reducible rfl)
            try simp only [Act.put, List.getElem_toArray, List.getElem_cons_succ, List.getElem_cons_zero, List.setIfInBounds_toArray, List.set_cons_zero, List.set_cons_succ]
            refine wpAnyH_take (i := 3) (v := ?_) rfl (by kernel_rfl) (by kernel_rfl) (by kernel_rfl) (fun _ _ _ h => h) (Or.inl ⟨by rfl, ?_⟩) (by assumption) ?_
            rotate_left
            · intro Wq hSw
              clear hSw
              go_simp
              all_goals (with_reducible rfl)
            try simp only [Act.put, List.getElem_toArray, List.getElem_cons_succ, List.getElem_cons_zero, List.setIfInBounds_toArray, List.set_cons_zero, List.set_cons_succ]
            refine wpAnyH_take (i := 4) (v := ?_) rfl (by kernel_rfl) (by kernel_rfl) (by kernel_rfl) (fun _ _ _ h => h) (Or.inl ⟨by rfl, ?_⟩) (by assumption) ?_
            rotate_left
            · intro Wq hSw
              clear hSw
              go_simp
              all_goals (with_reducible rfl)
            try simp only [Act.put, List.getElem_toArray, List.getElem_cons_succ, List.getElem_cons_zero, List.setIfInBounds_toArray, List.set_cons_zero, List.set_cons_succ]
            refine wpAnyH_take (i := 5) (v := ?_) rfl (by kernel_rfl) (by kernel_rfl) (by kernel_rfl) (fun _ _ _ h => h) (Or.inl ⟨by rfl, ?_⟩) (by assumption) ?_
            rotate_left
            · intro Wq hSw
              have b1 : ((i : Int) < (p.length : Int)) = True := eq_true (by omega)
              have d1 : (i < p.length) = True := eq_true (by omega)
              have c1 : ((0 : Int) ≤ (i : Int)) = True := eq_true (by omega)
              clear hSw
              go_simp
              all_goals (with_reducible rfl)
            try simp only [Act.put, List.getElem_toArray, List.getElem_cons_succ, List.getElem_cons_zero, List.setIfInBounds_toArray, List.set_cons_zero, List.set_cons_succ]
            refine wpAnyH_take (i := 6) (v := ?_) rfl (by kernel_rfl) (by kernel_rfl) (by kernel_rfl) (fun _ _ _ h => h) (Or.inl ⟨by rfl, ?_⟩) (by assumption) ?_
            rotate_left
            · intro Wq hSw
              clear hSw
              go_simp
              all_goals (with_reducible rfl)
            try simp only [Act.put, List.getElem_toArray, List.getElem_cons_succ, List.getElem_cons_zero, List.setIfInBounds_toArray, List.set_cons_zero, List.set_cons_succ]
            refine wpAnyH_take (i := 7) (v := ?_) rfl (by kernel_rfl) (by kernel_rfl) (by kernel_rfl) (fun _ _ _ h => h) (Or.inl ⟨by rfl, ?_⟩) (by assumption) ?_
            rotate_left
            · intro Wq hSw
              obtain ⟨k0, k1⟩ := ptRow_at (HPi.out.below hSw) (i := i) hi HQ.out
              clear hSw
              go_simp
              all_goals (with_reducible rfl)
            try simp only [Act.put, List.getElem_toArray, List.getElem_cons_succ, List.getElem_cons_zero, List.setIfInBounds_toArray, List.set_cons_zero, List.set_cons_succ]
            refine wpAnyH_take (i := 8) (v := ?_) rfl (by kernel_rfl) (by kernel_rfl) (by kernel_rfl) (fun _ _ _ h => h) (Or.inl ⟨by rfl, ?_⟩) (by assumption) ?_
            rotate_left
            · intro Wq hSw
              clear hSw
              go_simp
              all_goals (with_reducible rfl)
            try simp only [Act.put, List.getElem_toArray, List.getElem_cons_succ, List.getElem_cons_zero, List.setIfInBounds_toArray, List.set_cons_zero, List.set_cons_succ]
            refine wpAnyH_take (i := 9) (v := ?_) rfl (by kernel_rfl) (by kernel_rfl) (by kernel_rfl) (fun _ _ _ h => h) (Or.inl ⟨by rfl, ?_⟩) (by assumption) ?_
            rotate_left
            · intro Wq hSw
              obtain ⟨k0, k1⟩ := (HV5.out.below hSw).two
              clear hSw
              go_simp
              all_goals (with_reducible rfl)
            try simp only [Act.put, List.getElem_toArray, List.getElem_cons_succ, List.getElem_cons_zero, List.setIfInBounds_toArray, List.set_cons_zero, List.set_cons_succ]
            refine wpAnyH_take (i := 10) (v := ?_) rfl (by kernel_rfl) (by kernel_rfl) (by kernel_rfl) (fun _ _ _ h => h) (Or.inl ⟨by rfl, ?_⟩) (by assumption) ?_
            rotate_left
            · intro Wq hSw
              clear hSw
              go_simp
              all_goals (with_reducible rfl)
            try simp only [Act.put, List.getElem_toArray, List.getElem_cons_succ, List.getElem_cons_zero, List.setIfInBounds_toArray, List.set_cons_zero, List.set_cons_succ]
            refine wpAnyH_take (i := 11) (v := ?_) rfl (by kernel_rfl) (by kernel_rfl) (by kernel_rfl) (fun _ _ _ h => h) (Or.inl ⟨by rfl, ?_⟩) (by assumption) ?_
            rotate_left
            · intro Wq hSw
              clear hSw
              go_simp
              all_goals (with_reducible rfl)
            try simp only [Act.put, List.getElem_toArray, List.getElem_cons_succ, List.getElem_cons_zero, List.setIfInBounds_toArray, List.set_cons_zero, List.set_cons_succ]
            refine wpAnyH_done (by kernel_rfl) ?_ _
            go_wp2_with fail
            go_meet
            case rel => exact ⟨by rw [HE.out], hHeld⟩
      case rest =>
        obtain ⟨rfl, hW⟩ := hcut
        replace HPi := Lib.hid (HPi.out.below hW)
        replace HV5 := Lib.hid (HV5.out.below hW)
        replace HV6 := Lib.hid (HV6.out.below hW)
        replace HB := Lib.hid (bl_trans HB.out hW)
        clear hW
        obtain ⟨WD, eW⟩ : ∃ WD, WD = wc := ⟨_, rfl⟩
        subst eW
        go_upto_if 27 with (fail)
        go_cut [] (fun W => Var W g5 [.int .i64 (if i = 0 ∨ q.x < a then q.x else a), .int .i64 b] ∧ Var W g6 [.int .i64 c, .int .i64 d] ∧ Below W0.heap.size W0 W)
        case first =>
          by_cases hc : i = 0 ∨ q.x < a
          · have HC := Lib.hid hc
            have z6 := decide_eq_true hc
            rw [z6]
            clear hc z6
            obtain ⟨k0, k1⟩ := ptRow_at HPi.out (i := i) hi HQ.out
            obtain ⟨c0, c1⟩ := HV5.out.two
            obtain ⟨f0, f1⟩ := HV5.out.free2
            have b1 : ((i : Int) < (p.length : Int)) = True := eq_true (by omega)
            have d1 : (i < p.length) = True := eq_true (by omega)
            have c1 : ((0 : Int) ≤ (i : Int)) = True := eq_true (by omega)
            go_wp2_with fail
            go_meet
            case rel =>
              rw [if_pos HC.out]
              exact ⟨HV5.out.set0 _, HV6.out.far (p := ⟨g5, 0, none⟩) hne _, bl_set HB.out (p := ⟨g5, 0, none⟩) h5 _⟩
          · have HC := Lib.hid hc
            have z6 := decide_eq_false hc
            rw [z6]
            clear hc z6
            go_wp2_with fail
            go_meet
            case rel =>
              rw [if_neg HC.out]
              exact ⟨HV5.out, HV6.out, HB.out⟩
        case rest =>
          obtain ⟨hv5, hv6, hb⟩ := hcut
          clear HV5 HV6 HPi HB
          have HV5 := Lib.hid hv5
          have HV6 := Lib.hid hv6
          have HB := Lib.hid hb
          have HPi := Lib.hid (HP1.out.below HB.out)
          clear hv5 hv6 hb
          obtain ⟨na, hna⟩ : ∃ z, (if i = 0 ∨ q.x < a then q.x else a) = z := ⟨_, rfl⟩
          have HNa := Lib.hid hna
          rw [hna] at HV5
          clear hna
          go_upto_region 8 with (fail)
          obtain ⟨WC, eW⟩ : ∃ WC, WC = wc := ⟨_, rfl⟩
          subst eW
          go_cut [45] (fun x W => x = .bool (decide (i = 0 ∨ q.y < b)) ∧ Below WC.heap.size WC W)
          case first =>
            by_cases hi0 : i = 0
            · have z1 : ((i : Int) = 0) = True := eq_true (by omega)
              have z2 : ((i : Int) == 0) = true := beq_iff_eq.mpr (by omega)
              have z3 : (i == 0) = true := beq_iff_eq.mpr hi0
              have HE := Lib.hid (decide_eq_true (show i = 0 ∨ q.y < b from .inl hi0))
              clear hi0
              refine wp_region_held_drew (S := fun V => Below WC.heap.size WC V) (by kernel_rfl) ?_ (fun hHeld => ?_)
              · exact bel_drew WC
              revert hHeld
              generalize World.drew _ = W1
              intro hHeld 
              refine wpAnyH_take (i := 0) (v := ?_) rfl (by kernel_rfl) (by kernel_rfl) (by kernel_rfl) (fun _ _ _ h => h) (Or.inl ⟨by rfl, ?_⟩) (by assumption) ?_
              rotate_left
              · intro Wq hSw
                clear hSw
                go_simp
                all_goals (with_reducible rfl)
              try simp only [Act.put, List.getElem_toArray, List.getElem_cons_zero, List.setIfInBounds_toArray, List.set_cons_zero, List.set_cons_succ]
              refine wpAnyH_take (i := 1) (v := ?_) rfl (by kernel_rfl) (by kernel_rfl) (by kernel_rfl) (fun _ _ _ h => h) (Or.inl ⟨by rfl, ?_⟩) (by assumption) ?_
              rotate_left
              · intro Wq hSw
                clear hSw
                go_simp
                all_goals (with_reducible rfl)
              try simp only [Act.put, List.getElem_toArray, List.getElem_cons_succ, List.getElem_cons_zero, List.setIfInBounds_toArray, List.set_cons_zero, List.set_cons_succ]
              refine wpAnyH_take (i := 2) (v := ?_) rfl (by kernel_rfl) (by kernel_rfl) (by kernel_rfl) (fun _ _ _ h => h) (Or.inl ⟨by rfl, ?_⟩) (by assumption) ?_
              rotate_left
              · intro Wq hSw
                clear hSw
                go_simp
                all_goals (with_reducible rfl)
              try simp only [Act.put, List.getElem_toArray, List.getElem_cons_succ, List.getElem_cons_zero, List.setIfInBounds_toArray, List.set_cons_zero, List.set_cons_succ]
              refine wpAnyH_take (i := 3) (v := _) rfl (by kernel_rfl) (by kernel_rfl) (by kernel_rfl) (fun _ _ _ h => h) (Or.inr ⟨by rfl, rfl⟩) (by assumption) ?_
              try simp only [Act.put, List.getElem_toArray, List.getElem_cons_succ, List.getElem_cons_zero, List.setIfInBounds_toArray, List.set_cons_zero, List.set_cons_succ]
              refine wpAnyH_take (i := 4) (v := _) rfl (by kernel_rfl) (by kernel_rfl) (by kernel_rfl) (fun _ _ _ h => h) (Or.inr ⟨by rfl, rfl⟩) (by assumption) ?_
              try simp only [Act.put, List.getElem_toArray, List.getElem_cons_succ, List.getElem_cons_zero, List.setIfInBounds_toArray, List.set_cons_zero, List.set_cons_succ]
              refine wpAnyH_take (i := 5) (v := _) rfl (by kernel_rfl) (by kernel_rfl) (by kernel_rfl) (fun _ _ _ h => h) (Or.inr ⟨by rfl, rfl⟩) (by assumption) ?_
              try simp only [Act.put, List.getElem_toArray, List.getElem_cons_succ, List.getElem_cons_zero, List.setIfInBounds_toArray, List.set_cons_zero, List.set_cons_succ]
              refine wpAnyH_take (i := 6) (v := _) rfl (by kernel_rfl) (by kernel_rfl) (by kernel_rfl) (fun _ _ _ h => h) (Or.inr ⟨by rfl, rfl⟩) (by assumption) ?_
              try simp only [Act.put, List.getElem_toArray, List.getElem_cons_succ, List.getElem_cons_zero, List.setIfInBounds_toArray, List.set_cons_zero, List.set_cons_succ]
              refine wpAnyH_take (i := 7) (v := _) rfl (by kernel_rfl) (by kernel_rfl) (by kernel_rfl) (fun _ _ _ h => h) (Or.inr ⟨by rfl, rfl⟩) (by assumption) ?_
              try simp only [Act.put, List.getElem_toArray, List.getElem_cons_succ, List.getElem_cons_zero, List.setIfInBounds_toArray, List.set_cons_zero, List.set_cons_succ]
              refine wpAnyH_take (i := 8) (v := _) rfl (by kernel_rfl) (by kernel_rfl) (by kernel_rfl) (fun _ _ _ h => h) (Or.inr ⟨by rfl, rfl⟩) (by assumption) ?_
              try simp only [Act.put, List.getElem_toArray, List.getElem_cons_succ, List.getElem_cons_zero, List.setIfInBounds_toArray, List.set_cons_zero, List.set_cons_succ]
              refine wpAnyH_take (i := 9) (v := _) rfl (by kernel_rfl) (by kernel_rfl) (by kernel_rfl) (fun _ _ _ h => h) (Or.inr ⟨by rfl, rfl⟩) (by assumption) ?_
              try simp only [Act.put, List.getElem_toArray, List.getElem_cons_succ, List.getElem_cons_zero, List.setIfInBounds_toArray, List.set_cons_zero, List.set_cons_succ]
              refine wpAnyH_take (i := 10) (v := _) rfl (by kernel_rfl) (by kernel_rfl) (by kernel_rfl) (fun _ _ _ h => h) (Or.inr ⟨by rfl, rfl⟩) (by assumption) ?_
              try simp only [Act.put, List.getElem_toArray, List.getElem_cons_succ, List.getElem_cons_zero, List.setIfInBounds_toArray, List.set_cons_zero, List.set_cons_succ]
              refine wpAnyH_take (i := 11) (v := ?_) rfl (by kernel_rfl) (by kernel_rfl) (by kernel_rfl) (fun _ _ _ h => h) (Or.inl ⟨by rfl, ?_⟩) (by assumption) ?_
              rotate_left
              · intro Wq hSw
                clear hSw
                go_simp
                all_goals (with_reducible rfl)
              try simp only [Act.put, List.getElem_toArray, List.getElem_cons_succ, List.getElem_cons_zero, List.setIfInBounds_toArray, List.set_cons_zero, List.set_cons_succ]
              refine wpAnyH_done (by kernel_rfl) ?_ _
              go_wp2_with fail
              go_meet
              case rel => exact ⟨by rw [HE.out], hHeld⟩
            · have z1 : ((i : Int) = 0) = False := eq_false (by omega)
              have z2 : ((i : Int) == 0) = false := beq_eq_false_iff_ne.mpr (by omega)
              have z3 : (i == 0) = false := beq_eq_false_iff_ne.mpr hi0
              have z4 : (i = 0) = False := eq_false hi0
              by_cases hc : q.y < b
              · have z5 : (q.y < b) = True := eq_true hc
                have HE := Lib.hid (decide_eq_true (show i = 0 ∨ q.y < b from .inr hc))
                clear hi0 hc
                refine wp_region_held_drew (S := fun V => Below WC.heap.size WC V) (by kernel_rfl) ?_ (fun hHeld => ?_)
                · exact bel_drew WC
                revert hHeld
                generalize World.drew _ = W1
                intro hHeld 
                refine wpAnyH_take (i := 0) (v := ?_) rfl (by kernel_rfl) (by kernel_rfl) (by kernel_rfl) (fun _ _ _ h => h) (Or.inl ⟨by rfl, ?_⟩) (by assumption) ?_
                rotate_left
                · intro Wq hSw
                  clear hSw
                  go_simp
                  all_goals (with_reducible rfl)
                try simp only [Act.put, List.getElem_toArray, List.getElem_cons_zero, List.setIfInBounds_toArray, List.set_cons_zero, List.set_cons_succ]
                refine wpAnyH_take (i := 1) (v := ?_) rfl (by kernel_rfl) (by kernel_rfl) (by kernel_rfl) (fun _ _ _ h => h) (Or.inl ⟨by rfl, ?_⟩) (by assumption) ?_
                rotate_left
                · intro Wq hSw
                  clear hSw
                  go_simp
                  all_goals (with_reducible rfl)
                try simp only [Act.put, List.getElem_toArray, List.getElem_cons_succ, List.getElem_cons_zero, List.setIfInBounds_toArray, List.set_cons_zero, List.set_cons_succ]
                refine wpAnyH_take (i := 2) (v := ?_) rfl (by kernel_rfl) (by kernel_rfl) (by kernel_rfl) (fun _ _ _ h => h) (Or.inl ⟨by rfl, ?_⟩) (by assumption) ?_
                rotate_left
                · intro Wq hSw
                  clear hSw
                  go_simp
                  all_goals (with_reducible rfl)
                try simp only [Act.put, List.getElem_toArray, List.getElem_cons_succ, List.getElem_cons_zero, List.setIfInBounds_toArray, List.set_cons_zero, List.set_cons_succ]
                refine wpAnyH_take (i := 3) (v := ?_) rfl (by kernel_rfl) (by kernel_rfl) (by kernel_rfl) (fun _ _ _ h => h) (Or.inl ⟨by rfl, ?_⟩) (by assumption) ?_
                rotate_left
                · intro Wq hSw
                  clear hSw
                  go_simp
                  all_goals (with_reducible rfl)
                try simp only [Act.put, List.getElem_toArray, List.getElem_cons_succ, List.getElem_cons_zero, List.setIfInBounds_toArray, List.set_cons_zero, List.set_cons_succ]
                refine wpAnyH_take (i := 4) (v := ?_) rfl (by kernel_rfl) (by kernel_rfl) (by kernel_rfl) (fun _ _ _ h => h) (Or.inl ⟨by rfl, ?_⟩) (by assumption) ?_
                rotate_left
                · intro Wq hSw
                  clear hSw
                  go_simp
                  all_goals (with_reducible rfl)
                try simp only [Act.put, List.getElem_toArray, List.getElem_cons_succ, List.getElem_cons_zero, List.setIfInBounds_toArray, List.set_cons_zero, List.set_cons_succ]
                refine wpAnyH_take (i := 5) (v := ?_) rfl (by kernel_rfl) (by kernel_rfl) (by kernel_rfl) (fun _ _ _ h => h) (Or.inl ⟨by rfl, ?_⟩) (by assumption) ?_
                rotate_left
                · intro Wq hSw
                  have b1 : ((i : Int) < (p.length : Int)) = True := eq_true (by omega)
                  have d1 : (i < p.length) = True := eq_true (by omega)
                  have c1 : ((0 : Int) ≤ (i : Int)) = True := eq_true (by omega)
                  clear hSw
                  go_simp
                  all_goals (with_reducible rfl)
                try simp only [Act.put, List.getElem_toArray, List.getElem_cons_succ, List.getElem_cons_zero, List.setIfInBounds_toArray, List.set_cons_zero, List.set_cons_succ]
                refine wpAnyH_take (i := 6) (v := ?_) rfl (by kernel_rfl) (by kernel_rfl) (by kernel_rfl) (fun _ _ _ h => h) (Or.inl ⟨by rfl, ?_⟩) (by assumption) ?_
                rotate_left
                · intro Wq hSw
                  clear hSw
                  go_simp
                  all_goals (with_reducible rfl)
                try simp only [Act.put, List.getElem_toArray, List.getElem_cons_succ, List.getElem_cons_zero, List.setIfInBounds_toArray, List.set_cons_zero, List.set_cons_succ]
                refine wpAnyH_take (i := 7) (v := ?_) rfl (by kernel_rfl) (by kernel_rfl) (by kernel_rfl) (fun _ _ _ h => h) (Or.inl ⟨by rfl, ?_⟩) (by assumption) ?_
                rotate_left
                · intro Wq hSw
                  obtain ⟨k0, k1⟩ := ptRow_at (HPi.out.below hSw) (i := i) hi HQ.out
                  clear hSw
                  go_simp
                  all_goals (with_reducible rfl)
                try simp only [Act.put, List.getElem_toArray, List.getElem_cons_succ, List.getElem_cons_zero, List.setIfInBounds_toArray, List.set_cons_zero, List.set_cons_succ]
                refine wpAnyH_take (i := 8) (v := ?_) rfl (by kernel_rfl) (by kernel_rfl) (by kernel_rfl) (fun _ _ _ h => h) (Or.inl ⟨by rfl, ?_⟩) (by assumption) ?_
                rotate_left
                · intro Wq hSw
                  clear hSw
                  go_simp
                  all_goals (with_reducible rfl)
                try simp only [Act.put, List.getElem_toArray, List.getElem_cons_succ, List.getElem_cons_zero, List.setIfInBounds_toArray, List.set_cons_zero, List.set_cons_succ]
                refine wpAnyH_take (i := 9) (v := ?_) rfl (by kernel_rfl) (by kernel_rfl) (by kernel_rfl) (fun _ _ _ h => h) (Or.inl ⟨by rfl, ?_⟩) (by assumption) ?_
                rotate_left
                · intro Wq hSw
                  obtain ⟨k0, k1⟩ := (HV5.out.below hSw).two
                  clear hSw
                  go_simp
                  all_goals (with_reducible rfl)
                try simp only [Act.put, List.getElem_toArray, List.getElem_cons_succ, List.getElem_cons_zero, List.setIfInBounds_toArray, List.set_cons_zero, List.set_cons_succ]
                refine wpAnyH_take (i := 10) (v := ?_) rfl (by kernel_rfl) (by kernel_rfl) (by kernel_rfl) (fun _ _ _ h => h) (Or.inl ⟨by rfl, ?_⟩) (by assumption) ?_
                rotate_left
                · intro Wq hSw
                  clear hSw
                  go_simp
                  all_goals (with_reducible rfl)
                try simp only [Act.put, List.getElem_toArray, List.getElem_cons_succ, List.getElem_cons_zero, List.setIfInBounds_toArray, List.set_cons_zero, List.set_cons_succ]
                refine wpAnyH_take (i := 11) (v := ?_) rfl (by kernel_rfl) (by kernel_rfl) (by kernel_rfl) (fun _ _ _ h => h) (Or.inl ⟨by rfl, ?_⟩) (by assumption) ?_
                rotate_left
                · intro Wq hSw
                  clear hSw
                  go_simp
                  all_goals (with_reducible rfl)
                try simp only [Act.put, List.getElem_toArray, List.getElem_cons_succ, List.getElem_cons_zero, List.setIfInBounds_toArray, List.set_cons_zero, List.set_cons_succ]
                refine wpAnyH_done (by kernel_rfl) ?_ _
                go_wp2_with fail
                go_meet
                case rel => exact ⟨by rw [HE.out], hHeld⟩
              · have z5 : (q.y < b) = False := eq_false hc
                have HE := Lib.hid (decide_eq_false (show ¬ (i = 0 ∨ q.y < b) from fun h => h.elim hi0 hc))
                clear hi0 hc
                refine wp_region_held_drew (S := fun V => Below WC.heap.size WC V) (by kernel_rfl) ?_ (fun hHeld => ?_)
                · exact bel_drew WC
                revert hHeld
                generalize World.drew _ = W1
                intro hHeld 
                refine wpAnyH_take (i := 0) (v := ?_) rfl (by kernel_rfl) (by kernel_rfl) (by kernel_rfl) (fun _ _ _ h => h) (Or.inl ⟨by rfl, ?_⟩) (by assumption) ?_
                rotate_left
                · intro Wq hSw
                  clear hSw
                  go_simp
                  all_goals (with_reducible rfl)
                try simp only [Act.put, List.getElem_toArray, List.getElem_cons_zero, List.setIfInBounds_toArray, List.set_cons_zero, List.set_cons_succ]
                refine wpAnyH_take (i := 1) (v := ?_) rfl (by kernel_rfl) (by kernel_rfl) (by kernel_rfl) (fun _ _ _ h => h) (Or.inl ⟨by rfl, ?_⟩) (by assumption) ?_
                rotate_left
                · intro Wq hSw
                  clear hSw
                  go_simp
                  all_goals (with_reducible rfl)
                try simp only [Act.put, List.getElem_toArray, List.getElem_cons_succ, List.getElem_cons_zero, List.setIfInBounds_toArray, List.set_cons_zero, List.set_cons_succ]
                refine wpAnyH_take (i := 2) (v := ?_) rfl (by kernel_rfl) (by kernel_rfl) (by kernel_rfl) (fun _ _ _ h => h) (Or.inl ⟨by rfl, ?_⟩) (by assumption) ?_
                rotate_left
                · intro Wq hSw
                  clear hSw
                  go_simp
                  all_goals (with_reducible rfl)
                try simp only [Act.put, List.getElem_toArray, List.getElem_cons_succ, List.getElem_cons_zero, List.setIfInBounds_toArray, List.set_cons_zero, List.set_cons_succ]
                refine wpAnyH_take (i := 3) (v := ?_) rfl (by kernel_rfl) (by kernel_rfl) (by kernel_rfl) (fun _ _ _ h => h) (Or.inl ⟨by rfl, ?_⟩) (by assumption) ?_
                rotate_left
                · intro Wq hSw
                  clear hSw
                  go_simp
                  all_goals (with_reducible rfl)
                try simp only [Act.put, List.getElem_toArray, List.getElem_cons_succ, List.getElem_cons_zero, List.setIfInBounds_toArray, List.set_cons_zero, List.set_cons_succ]
                refine wpAnyH_take (i := 4) (v := ?_) rfl (by kernel_rfl) (by kernel_rfl) (by kernel_rfl) (fun _ _ _ h => h) (Or.inl ⟨by rfl, ?_⟩) (by assumption) ?_
                rotate_left
                · intro Wq hSw
                  clear hSw
                  go_simp
                  all_goals (with_reducible rfl)
                try simp only [Act.put, List.getElem_toArray, List.getElem_cons_succ, List.getElem_cons_zero, List.setIfInBounds_toArray, List.set_cons_zero, List.set_cons_succ]
                refine wpAnyH_take (i := 5) (v := ?_) rfl (by kernel_rfl) (by kernel_rfl) (by kernel_rfl) (fun _ _ _ h => h) (Or.inl ⟨by rfl, ?_⟩) (by assumption) ?_
                rotate_left
                · intro Wq hSw
                  have b1 : ((i : Int) < (p.length : Int)) = True := eq_true (by omega)
                  have d1 : (i < p.length) = True := eq_true (by omega)
                  have c1 : ((0 : Int) ≤ (i : Int)) = True := eq_true (by omega)
                  clear hSw
                  go_simp
                  all_goals (with_reducible rfl)
                try simp only [Act.put, List.getElem_toArray, List.getElem_cons_succ, List.getElem_cons_zero, List.setIfInBounds_toArray, List.set_cons_zero, List.set_cons_succ]
                refine wpAnyH_take (i := 6) (v := ?_) rfl (by kernel_rfl) (by kernel_rfl) (by kernel_rfl) (fun _ _ _ h => h) (Or.inl ⟨by rfl, ?_⟩) (by assumption) ?_
                rotate_left
                · intro Wq hSw
                  clear hSw
                  go_simp
                  all_goals (with_reducible rfl)
                try simp only [Act.put, List.getElem_toArray, List.getElem_cons_succ, List.getElem_cons_zero, List.setIfInBounds_toArray, List.set_cons_zero, List.set_cons_succ]
                refine wpAnyH_take (i := 7) (v := ?_) rfl (by kernel_rfl) (by kernel_rfl) (by kernel_rfl) (fun _ _ _ h => h) (Or.inl ⟨by rfl, ?_⟩) (by assumption) ?_
                rotate_left
                · intro Wq hSw
                  obtain ⟨k0, k1⟩ := ptRow_at (HPi.out.below hSw) (i := i) hi HQ.out
                  clear hSw
                  go_simp
                  all_goals (with_reducible rfl)
                try simp only [Act.put, List.getElem_toArray, List.getElem_cons_succ, List.getElem_cons_zero, List.setIfInBounds_toArray, List.set_cons_zero, List.set_cons_succ]
                refine wpAnyH_take (i := 8) (v := ?_) rfl (by kernel_rfl) (by kernel_rfl) (by kernel_rfl) (fun _ _ _ h => h) (Or.inl ⟨by rfl, ?_⟩) (by assumption) ?_
                rotate_left
                · intro Wq hSw
                  clear hSw
                  go_simp
                  all_goals (with_reducible rfl)
                try simp only [Act.put, List.getElem_toArray, List.getElem_cons_succ, List.getElem_cons_zero, List.setIfInBounds_toArray, List.set_cons_zero, List.set_cons_succ]
                refine wpAnyH_take (i := 9) (v := ?_) rfl (by kernel_rfl) (by kernel_rfl) (by kernel_rfl) (fun _ _ _ h => h) (Or.inl ⟨by rfl, ?_⟩) (by assumption) ?_
                rotate_left
                · intro Wq hSw
                  obtain ⟨k0, k1⟩ := (HV5.out.below hSw).two
                  clear hSw
                  go_simp
                  all_goals (with_reducible rfl)
                try simp only [Act.put, List.getElem_toArray, List.getElem_cons_succ, List.getElem_cons_zero, List.setIfInBounds_toArray, List.set_cons_zero, List.set_cons_succ]
                refine wpAnyH_take (i := 10) (v := ?_) rfl (by kernel_rfl) (by kernel_rfl) (by kernel_rfl) (fun _ _ _ h => h) (Or.inl ⟨by rfl, ?_⟩) (by assumption) ?_
                rotate_left
                · intro Wq hSw
                  clear hSw
                  go_simp
                  all_goals (with_reducible rfl)
                try simp only [Act.put, List.getElem_toArray, List.getElem_cons_succ, List.getElem_cons_zero, List.setIfInBounds_toArray, List.set_cons_zero, List.set_cons_succ]
                refine wpAnyH_take (i := 11) (v := ?_) rfl (by kernel_rfl) (by kernel_rfl) (by kernel_rfl) (fun _ _ _ h => h) (Or.inl ⟨by rfl, ?_⟩) (by assumption) ?_
                rotate_left
                · intro Wq hSw
                  clear hSw
                  go_simp
                  all_goals (with_reducible rfl)
                try simp only [Act.put, List.getElem_toArray, List.getElem_cons_succ, List.getElem_cons_zero, List.setIfInBounds_toArray, List.set_cons_zero, List.set_cons_succ]
                refine wpAnyH_done (by kernel_rfl) ?_ _
                go_wp2_with fail
                go_meet
                case rel => exact ⟨by rw [HE.out], hHeld⟩
          case rest =>
            obtain ⟨rfl, hW⟩ := hcut
            replace HPi := Lib.hid (HPi.out.below hW)
            replace HV5 := Lib.hid (HV5.out.below hW)
            replace HV6 := Lib.hid (HV6.out.below hW)
            replace HB := Lib.hid (bl_trans HB.out hW)
            clear hW
            obtain ⟨WD, eW⟩ : ∃ WD, WD = wc := ⟨_, rfl⟩
            subst eW
            go_upto_if 45 with (fail)
            go_cut [] (fun W => Var W g5 [.int .i64 na, .int .i64 (if i = 0 ∨ q.y < b then q.y else b)] ∧ Var W g6 [.int .i64 c, .int .i64 d] ∧ Below W0.heap.size W0 W)
            case first =>
              by_cases hc : i = 0 ∨ q.y < b
              · have HC := Lib.hid hc
                have z6 := decide_eq_true hc
                rw [z6]
                clear hc z6
                obtain ⟨k0, k1⟩ := ptRow_at HPi.out (i := i) hi HQ.out
                obtain ⟨c0, c1⟩ := HV5.out.two
                obtain ⟨f0, f1⟩ := HV5.out.free2
                have b1 : ((i : Int) < (p.length : Int)) = True := eq_true (by omega)
                have d1 : (i < p.length) = True := eq_true (by omega)
                have c1 : ((0 : Int) ≤ (i : Int)) = True := eq_true (by omega)
                go_wp2_with fail
                go_meet
                case rel =>
                  rw [if_pos HC.out]
                  exact ⟨HV5.out.set1 _, HV6.out.far (p := ⟨g5, 1, none⟩) hne _, bl_set HB.out (p := ⟨g5, 1, none⟩) h5 _⟩
              · have HC := Lib.hid hc
                have z6 := decide_eq_false hc
                rw [z6]
                clear hc z6
                go_wp2_with fail
                go_meet
                case rel =>
                  rw [if_neg HC.out]
                  exact ⟨HV5.out, HV6.out, HB.out⟩
            case rest =>
              obtain ⟨hv5, hv6, hb⟩ := hcut
              clear HV5 HV6 HPi HB
              have HV5 := Lib.hid hv5
              have HV6 := Lib.hid hv6
              have HB := Lib.hid hb
              have HPi := Lib.hid (HP1.out.below HB.out)
              clear hv5 hv6 hb
              obtain ⟨nb, hnb⟩ : ∃ z, (if i = 0 ∨ q.y < b then q.y else b) = z := ⟨_, rfl⟩
              have HNb := Lib.hid hnb
              rw [hnb] at HV5
              clear hnb
              go_upto_region 10 with (fail)
              obtain ⟨WC, eW⟩ : ∃ WC, WC = wc := ⟨_, rfl⟩
              subst eW
              go_cut [63] (fun x W => x = .bool (decide (i = 0 ∨ c < q.x)) ∧ Below WC.heap.size WC W)
              case first =>
                by_cases hi0 : i = 0
                · have z1 : ((i : Int) = 0) = True := eq_true (by omega)
                  have z2 : ((i : Int) == 0) = true := beq_iff_eq.mpr (by omega)
                  have z3 : (i == 0) = true := beq_iff_eq.mpr hi0
                  have HE := Lib.hid (decide_eq_true (show i = 0 ∨ c < q.x from .inl hi0))
                  clear hi0
                  refine wp_region_held_drew (S := fun V => Below WC.heap.size WC V) (by kernel_rfl) ?_ (fun hHeld => ?_)
                  · exact bel_drew WC
                  revert hHeld
                  generalize World.drew _ = W1
                  intro hHeld 
                  refine wpAnyH_take (i := 0) (v := ?_) rfl (by kernel_rfl) (by kernel_rfl) (by kernel_rfl) (fun _ _ _ h => h) (Or.inl ⟨by rfl, ?_⟩) (by assumption) ?_
                  rotate_left
                  · intro Wq hSw
                    clear hSw
                    go_simp
                    all_goals (with_reducible rfl)
                  try simp only [Act.put, List.getElem_toArray, List.getElem_cons_zero, List.setIfInBounds_toArray, List.set_cons_zero, List.set_cons_succ]
                  refine wpAnyH_take (i := 1) (v := ?_) rfl (by kernel_rfl) (by kernel_rfl) (by kernel_rfl) (fun _ _ _ h => h) (Or.inl ⟨by rfl, ?_⟩) (by assumption) ?_
                  rotate_left
                  · intro Wq hSw
                    clear hSw
                    go_simp
                    all_goals (with_reducible rfl)
                  try simp only [Act.put, List.getElem_toArray, List.getElem_cons_succ, List.getElem_cons_zero, List.setIfInBounds_toArray, List.set_cons_zero, List.set_cons_succ]
                  refine wpAnyH_take (i := 2) (v := ?_) rfl (by kernel_rfl) (by kernel_rfl) (by kernel_rfl) (fun _ _ _ h => h) (Or.inl ⟨by rfl, ?_⟩) (by assumption) ?_
                  rotate_left
                  · intro Wq hSw
                    clear hSw
                    go_simp
                    all_goals (with_reducible rfl)
                  try simp only [Act.put, List.getElem_toArray, List.getElem_cons_succ, List.getElem_cons_zero, List.setIfInBounds_toArray, List.set_cons_zero, List.set_cons_succ]
                  refine wpAnyH_take (i := 3) (v := _) rfl (by kernel_rfl) (by kernel_rfl) (by kernel_rfl) (fun _ _ _ h => h) (Or.inr ⟨by rfl, rfl⟩) (by assumption) ?_
                  try simp only [Act.put, List.getElem_toArray, List.getElem_cons_succ, List.getElem_cons_zero, List.setIfInBounds_toArray, List.set_cons_zero, List.set_cons_succ]
                  refine wpAnyH_take (i := 4) (v := _) rfl (by kernel_rfl) (by kernel_rfl) (by kernel_rfl) (fun _ _ _ h => h) (Or.inr ⟨by rfl, rfl⟩) (by assumption) ?_
                  try simp only [Act.put, List.getElem_toArray, List.getElem_cons_succ, List.getElem_cons_zero, List.setIfInBounds_toArray, List.set_cons_zero, List.set_cons_succ]
                  refine wpAnyH_take (i := 5) (v := _) rfl (by kernel_rfl) (by kernel_rfl) (by kernel_rfl) (fun _ _ _ h => h) (Or.inr ⟨by rfl, rfl⟩) (by assumption) ?_
                  try simp only [Act.put, List.getElem_toArray, List.getElem_cons_succ, List.getElem_cons_zero, List.setIfInBounds_toArray, List.set_cons_zero, List.set_cons_succ]
                  refine wpAnyH_take (i := 6) (v := _) rfl (by kernel_rfl) (by kernel_rfl) (by kernel_rfl) (fun _ _ _ h => h) (Or.inr ⟨by rfl, rfl⟩) (by assumption) ?_
                  try simp only [Act.put, List.getElem_toArray, List.getElem_cons_succ, List.getElem_cons_zero, List.setIfInBounds_toArray, List.set_cons_zero, List.set_cons_succ]
                  refine wpAnyH_take (i := 7) (v := _) rfl (by kernel_rfl) (by kernel_rfl) (by kernel_rfl) (fun _ _ _ h => h) (Or.inr ⟨by rfl, rfl⟩) (by assumption) ?_
                  try simp only [Act.put, List.getElem_toArray, List.getElem_cons_succ, List.getElem_cons_zero, List.setIfInBounds_toArray, List.set_cons_zero, List.set_cons_succ]
                  refine wpAnyH_take (i := 8) (v := _) rfl (by kernel_rfl) (by kernel_rfl) (by kernel_rfl) (fun _ _ _ h => h) (Or.inr ⟨by rfl, rfl⟩) (by assumption) ?_
                  try simp only [Act.put, List.getElem_toArray, List.getElem_cons_succ, List.getElem_cons_zero, List.setIfInBounds_toArray, List.set_cons_zero, List.set_cons_succ]
                  refine wpAnyH_take (i := 9) (v := _) rfl (by kernel_rfl) (by kernel_rfl) (by kernel_rfl) (fun _ _ _ h => h) (Or.inr ⟨by rfl, rfl⟩) (by assumption) ?_
                  try simp only [Act.put, List.getElem_toArray, List.getElem_cons_succ, List.getElem_cons_zero, List.setIfInBounds_toArray, List.set_cons_zero, List.set_cons_succ]
                  refine wpAnyH_take (i := 10) (v := _) rfl (by kernel_rfl) (by kernel_rfl) (by kernel_rfl) (fun _ _ _ h => h) (Or.inr ⟨by rfl, rfl⟩) (by assumption) ?_
                  try simp only [Act.put, List.getElem_toArray, List.getElem_cons_succ, List.getElem_cons_zero, List.setIfInBounds_toArray, List.set_cons_zero, List.set_cons_succ]
                  refine wpAnyH_take (i := 11) (v := ?_) rfl (by kernel_rfl) (by kernel_rfl) (by kernel_rfl) (fun _ _ _ h => h) (Or.inl ⟨by rfl, ?_⟩) (by assumption) ?_
                  rotate_left
                  · intro Wq hSw
                    clear hSw
                    go_simp
                    all_goals (with_reducible rfl)
                  try simp only [Act.put, List.getElem_toArray, List.getElem_cons_succ, List.getElem_cons_zero, List.setIfInBounds_toArray, List.set_cons_zero, List.set_cons_succ]
                  refine wpAnyH_done (by kernel_rfl) ?_ _
                  go_wp2_with fail
                  go_meet
                  case rel => exact ⟨by rw [HE.out], hHeld⟩
                · have z1 : ((i : Int) = 0) = False := eq_false (by omega)
                  have z2 : ((i : Int) == 0) = false := beq_eq_false_iff_ne.mpr (by omega)
                  have z3 : (i == 0) = false := beq_eq_false_iff_ne.mpr hi0
                  have z4 : (i = 0) = False := eq_false hi0
                  by_cases hc : c < q.x
                  · have z5 : (c < q.x) = True := eq_true hc
                    have HE := Lib.hid (decide_eq_true (show i = 0 ∨ c < q.x from .inr hc))
                    clear hi0 hc
                    refine wp_region_held_drew (S := fun V => Below WC.heap.size WC V) (by kernel_rfl) ?_ (fun hHeld => ?_)
                    · exact bel_drew WC
                    revert hHeld
                    generalize World.drew _ = W1
                    intro hHeld 
                    refine wpAnyH_take (i := 0) (v := ?_) rfl (by kernel_rfl) (by kernel_rfl) (by kernel_rfl) (fun _ _ _ h => h) (Or.inl ⟨by rfl, ?_⟩) (by assumption) ?_
                    rotate_left
                    · intro Wq hSw
                      clear hSw
                      go_simp
                      all_goals (with_reducible rfl)
                    try simp only [Act.put, List.getElem_toArray, List.getElem_cons_zero, List.setIfInBounds_toArray, List.set_cons_zero, List.set_cons_succ]
                    refine wpAnyH_take (i := 1) (v := ?_) rfl (by kernel_rfl) (by kernel_rfl) (by kernel_rfl) (fun _ _ _ h => h) (Or.inl ⟨by rfl, ?_⟩) (by assumption) ?_
                    rotate_left
                    · intro Wq hSw
                      clear hSw
                      go_simp
                      all_goals (with_reducible rfl)
                    try simp only [Act.put, List.getElem_toArray, List.getElem_cons_succ, List.getElem_cons_zero, List.setIfInBounds_toArray, List.set_cons_zero, List.set_cons_succ]
                    refine wpAnyH_take (i := 2) (v := ?_) rfl (by kernel_rfl) (by kernel_rfl) (by kernel_rfl) (fun _ _ _ h => h) (Or.inl ⟨by rfl, ?_⟩) (by assumption) ?_
                    rotate_left
                    · intro Wq hSw
                      clear hSw
                      go_simp
                      all_goals (with_reducible rfl)
                    try simp only [Act.put, List.getElem_toArray, List.getElem_cons_succ, List.getElem_cons_zero, List.setIfInBounds_toArray, List.set_cons_zero, List.set_cons_succ]
                    refine wpAnyH_take (i := 3) (v := ?_) rfl (by kernel_rfl) (by kernel_rfl) (by kernel_rfl) (fun _ _ _ h => h) (Or.inl ⟨by rfl, ?_⟩) (by assumption) ?_
                    rotate_left
                    · intro Wq hSw
                      clear hSw
                      go_simp
                      all_goals (with_reducible rfl)
                    try simp only [Act.put, List.getElem_toArray, List.getElem_cons_succ, List.getElem_cons_zero, List.setIfInBounds_toArray, List.set_cons_zero, List.set_cons_succ]
                    refine wpAnyH_take (i := 4) (v := ?_) rfl (by kernel_rfl) (by kernel_rfl) (by kernel_rfl) (fun _ _ _ h => h) (Or.inl ⟨by rfl, ?_⟩) (by assumption) ?_
                    rotate_left
                    · intro Wq hSw
                      clear hSw
                      go_simp
                      all_goals (with_reducible rfl)
                    try simp only [Act.put, List.getElem_toArray, List.getElem_cons_succ, List.getElem_cons_zero, List.setIfInBounds_toArray, List.set_cons_zero, List.set_cons_succ]
                    refine wpAnyH_take (i := 5) (v := ?_) rfl (by kernel_rfl) (by kernel_rfl) (by kernel_rfl) (fun _ _ _ h => h) (Or.inl ⟨by rfl, ?_⟩) (by assumption) ?_
                    rotate_left
                    · intro Wq hSw
                      have b1 : ((i : Int) < (p.length : Int)) = True := eq_true (by omega)
                      have d1 : (i < p.length) = True := eq_true (by omega)
                      have c1 : ((0 : Int) ≤ (i : Int)) = True := eq_true (by omega)
                      clear hSw
                      go_simp
                      all_goals (with_reducible rfl)
                    try simp only [Act.put, List.getElem_toArray, List.getElem_cons_succ, List.getElem_cons_zero, List.setIfInBounds_toArray, List.set_cons_zero, List.set_cons_succ]
                    refine wpAnyH_take (i := 6) (v := ?_) rfl (by kernel_rfl) (by kernel_rfl) (by kernel_rfl) (fun _ _ _ h => h) (Or.inl ⟨by rfl, ?_⟩) (by assumption) ?_
                    rotate_left
                    · intro Wq hSw
                      clear hSw
                      go_simp
                      all_goals (with_reducible rfl)
                    try simp only [Act.put, List.getElem_toArray, List.getElem_cons_succ, List.getElem_cons_zero, List.setIfInBounds_toArray, List.set_cons_zero, List.set_cons_succ]
                    refine wpAnyH_take (i := 7) (v := ?_) rfl (by kernel_rfl) (by kernel_rfl) (by kernel_rfl) (fun _ _ _ h => h) (Or.inl ⟨by rfl, ?_⟩) (by assumption) ?_
                    rotate_left
                    · intro Wq hSw
                      obtain ⟨k0, k1⟩ := ptRow_at (HPi.out.below hSw) (i := i) hi HQ.out
                      clear hSw
                      go_simp
                      all_goals (with_reducible rfl)
                    try simp only [Act.put, List.getElem_toArray, List.getElem_cons_succ, List.getElem_cons_zero, List.setIfInBounds_toArray, List.set_cons_zero, List.set_cons_succ]
                    refine wpAnyH_take (i := 8) (v := ?_) rfl (by kernel_rfl) (by kernel_rfl) (by kernel_rfl) (fun _ _ _ h => h) (Or.inl ⟨by rfl, ?_⟩) (by assumption) ?_
                    rotate_left
                    · intro Wq hSw
                      clear hSw
                      go_simp
                      all_goals (with_reducible rfl)
                    try simp only [Act.put, List.getElem_toArray, List.getElem_cons_succ, List.getElem_cons_zero, List.setIfInBounds_toArray, List.set_cons_zero, List.set_cons_succ]
                    refine wpAnyH_take (i := 9) (v := ?_) rfl (by kernel_rfl) (by kernel_rfl) (by kernel_rfl) (fun _ _ _ h => h) (Or.inl ⟨by rfl, ?_⟩) (by assumption) ?_
                    rotate_left
                    · intro Wq hSw
                      obtain ⟨k0, k1⟩ := (HV6.out.below hSw).two
                      clear hSw
                      go_simp
                      all_goals (with_reducible rfl)
                    try simp only [Act.put, List.getElem_toArray, List.getElem_cons_succ, List.getElem_cons_zero, List.setIfInBounds_toArray, List.set_cons_zero, List.set_cons_succ]
                    refine wpAnyH_take (i := 10) (v := ?_) rfl (by kernel_rfl) (by kernel_rfl) (by kernel_rfl) (fun _ _ _ h => h) (Or.inl ⟨by rfl, ?_⟩) (by assumption) ?_
                    rotate_left
                    · intro Wq hSw
                      clear hSw
                      go_simp
                      all_goals (with_reducible rfl)
                    try simp only [Act.put, List.getElem_toArray, List.getElem_cons_succ, List.getElem_cons_zero, List.setIfInBounds_toArray, List.set_cons_zero, List.set_cons_succ]
                    refine wpAnyH_take (i := 11) (v := ?_) rfl (by kernel_rfl) (by kernel_rfl) (by kernel_rfl) (fun _ _ _ h => h) (Or.inl ⟨by rfl, ?_⟩) (by assumption) ?_
                    rotate_left
                    · intro Wq hSw
                      clear hSw
                      go_simp
                      all_goals (with_reducible rfl)
                    try simp only [Act.put, List.getElem_toArray, List.getElem_cons_succ, List.getElem_cons_zero, List.setIfInBounds_toArray, List.set_cons_zero, List.set_cons_succ]
                    refine wpAnyH_done (by kernel_rfl) ?_ _
                    go_wp2_with fail
                    go_meet
                    case rel => exact ⟨by rw [HE.out], hHeld⟩
                  · have z5 : (c < q.x) = False := eq_false hc
                    have HE := Lib.hid (decide_eq_false (show ¬ (i = 0 ∨ c < q.x) from fun h => h.elim hi0 hc))
                    clear hi0 hc
                    refine wp_region_held_drew (S := fun V => Below WC.heap.size WC V) (by kernel_rfl) ?_ (fun hHeld => ?_)
                    · exact bel_drew WC
                    revert hHeld
                    generalize World.drew _ = W1
                    intro hHeld 
                    refine wpAnyH_take (i := 0) (v := ?_) rfl (by kernel_rfl) (by kernel_rfl) (by kernel_rfl) (fun _ _ _ h => h) (Or.inl ⟨by rfl, ?_⟩) (by assumption) ?_
                    rotate_left
                    · intro Wq hSw
                      clear hSw
                      go_simp
                      all_goals (with_reducible rfl)
                    try simp only [Act.put, List.getElem_toArray, List.getElem_cons_zero, List.setIfInBounds_toArray, List.set_cons_zero, List.set_cons_succ]
                    refine wpAnyH_take (i := 1) (v := ?_) rfl (by kernel_rfl) (by kernel_rfl) (by kernel_rfl) (fun _ _ _ h => h) (Or.inl ⟨by rfl, ?_⟩) (by assumption) ?_
                    rotate_left
                    · intro Wq hSw
                      clear hSw
                      go_simp
                      all_goals (with_reducible rfl)
                    try simp only [Act.put, List.getElem_toArray, List.getElem_cons_succ, List.getElem_cons_zero, List.setIfInBounds_toArray, List.set_cons_zero, List.set_cons_succ]
                    refine wpAnyH_take (i := 2) (v := ?_) rfl (by kernel_rfl) (by kernel_rfl) (by kernel_rfl) (fun _ _ _ h => h) (Or.inl ⟨by rfl, ?_⟩) (by assumption) ?_
                    rotate_left
                    · intro Wq hSw
                      clear hSw
                      go_simp
                      all_goals (with_reducible rfl)
                    try simp only [Act.put, List.getElem_toArray, List.getElem_cons_succ, List.getElem_cons_zero, List.setIfInBounds_toArray, List.set_cons_zero, List.set_cons_succ]
                    refine wpAnyH_take (i := 3) (v := ?_) rfl (by kernel_rfl) (by kernel_rfl) (by kernel_rfl) (fun _ _ _ h => h) (Or.inl ⟨by rfl, ?_⟩) (by assumption) ?_
                    rotate_left
                    · intro Wq hSw
                      clear hSw
                      go_simp
                      all_goals (with_reducible rfl)
                    try simp only [Act.put, List.getElem_toArray, List.getElem_cons_succ, List.getElem_cons_zero, List.setIfInBounds_toArray, List.set_cons_zero, List.set_cons_succ]
                    refine wpAnyH_take (i := 4) (v := ?_) rfl (by kernel_rfl) (by kernel_rfl) (by kernel_rfl) (fun _ _ _ h => h) (Or.inl ⟨by rfl, ?_⟩) (by assumption) ?_
                    rotate_left
                    · intro Wq hSw
                      clear hSw
                      go_simp
                      all_goals (with_reducible rfl)
                    try simp only [Act.put, List.getElem_toArray, List.getElem_cons_succ, List.getElem_cons_zero, List.setIfInBounds_toArray, List.set_cons_zero, List.set_cons_succ]
                    refine wpAnyH_take (i := 5) (v := ?_) rfl (by kernel_rfl) (by kernel_rfl) (by kernel_rfl) (fun _ _ _ h => h) (Or.inl ⟨by rfl, ?_⟩) (by assumption) ?_
                    rotate_left
                    · intro Wq hSw
                      have b1 : ((i : Int) < (p.length : Int)) = True := eq_true (by omega)
                      have d1 : (i < p.length) = True := eq_true (by omega)
                      have c1 : ((0 : Int) ≤ (i : Int)) = True := eq_true (by omega)
                      clear hSw
                      go_simp
                      all_goals (with_reducible rfl)
                    try simp only [Act.put, List.getElem_toArray, List.getElem_cons_succ, List.getElem_cons_zero, List.setIfInBounds_toArray, List.set_cons_zero, List.set_cons_succ]
                    refine wpAnyH_take (i := 6) (v := ?_) rfl (by kernel_rfl) (by kernel_rfl) (by kernel_rfl) (fun _ _ _ h => h) (Or.inl ⟨by rfl, ?_⟩) (by assumption) ?_
                    rotate_left
                    · intro Wq hSw
                      clear hSw
                      go_simp
                      all_goals (with_reducible rfl)
                    try simp only [Act.put, List.getElem_toArray, List.getElem_cons_succ, List.getElem_cons_zero, List.setIfInBounds_toArray, List.set_cons_zero, List.set_cons_succ]
                    refine wpAnyH_take (i := 7) (v := ?_) rfl (by kernel_rfl) (by kernel_rfl) (by kernel_rfl) (fun _ _ _ h => h) (Or.inl ⟨by rfl, ?_⟩) (by assumption) ?_
                    rotate_left
                    · intro Wq hSw
                      obtain ⟨k0, k1⟩ := ptRow_at (HPi.out.below hSw) (i := i) hi HQ.out
                      clear hSw
                      go_simp
                      all_goals (with_reducible rfl)
                    try simp only [Act.put, List.getElem_toArray, List.getElem_cons_succ, List.getElem_cons_zero, List.setIfInBounds_toArray, List.set_cons_zero, List.set_cons_succ]
                    refine wpAnyH_take (i := 8) (v := ?_) rfl (by kernel_rfl) (by kernel_rfl) (by kernel_rfl) (fun _ _ _ h => h) (Or.inl ⟨by rfl, ?_⟩) (by assumption) ?_
                    rotate_left
                    · intro Wq hSw
                      clear hSw
                      go_simp
                      all_goals (with_reducible rfl)
                    try simp only [Act.put, List.getElem_toArray, List.getElem_cons_succ, List.getElem_cons_zero, List.setIfInBounds_toArray, List.set_cons_zero, List.set_cons_succ]
                    refine wpAnyH_take (i := 9) (v := ?_) rfl (by kernel_rfl) (by kernel_rfl) (by kernel_rfl) (fun _ _ _ h => h) (Or.inl ⟨by rfl, ?_⟩) (by assumption) ?_
                    rotate_left
                    · intro Wq hSw
                      obtain ⟨k0, k1⟩ := (HV6.out.below hSw).two
                      clear hSw
                      go_simp
                      all_goals (with_reducible rfl)
                    try simp only [Act.put, List.getElem_toArray, List.getElem_cons_succ, List.getElem_cons_zero, List.setIfInBounds_toArray, List.set_cons_zero, List.set_cons_succ]
                    refine wpAnyH_take (i := 10) (v := ?_) rfl (by kernel_rfl) (by kernel_rfl) (by kernel_rfl) (fun _ _ _ h => h) (Or.inl ⟨by rfl, ?_⟩) (by assumption) ?_
                    rotate_left
                    · intro Wq hSw
                      clear hSw
                      go_simp
                      all_goals (with_reducible rfl)
                    try simp only [Act.put, List.getElem_toArray, List.getElem_cons_succ, List.getElem_cons_zero, List.setIfInBounds_toArray, List.set_cons_zero, List.set_cons_succ]
                    refine wpAnyH_take (i := 11) (v := ?_) rfl (by kernel_rfl) (by kernel_rfl) (by kernel_rfl) (fun _ _ _ h => h) (Or.inl ⟨by rfl, ?_⟩) (by assumption) ?_
                    rotate_left
                    · intro Wq hSw
                      clear hSw
                      go_simp
                      all_goals (with_reducible rfl)
                    try simp only [Act.put, List.getElem_toArray, List.getElem_cons_succ, List.getElem_cons_zero, List.setIfInBounds_toArray, List.set_cons_zero, List.set_cons_succ]
                    refine wpAnyH_done (by kernel_rfl) ?_ _
                    go_wp2_with fail
                    go_meet
                    case rel => exact ⟨by rw [HE.out], hHeld⟩
              case rest =>
                obtain ⟨rfl, hW⟩ := hcut
                replace HPi := Lib.hid (HPi.out.below hW)
                replace HV5 := Lib.hid (HV5.out.below hW)
                replace HV6 := Lib.hid (HV6.out.below hW)
                replace HB := Lib.hid (bl_trans HB.out hW)
                clear hW
                obtain ⟨WD, eW⟩ : ∃ WD, WD = wc := ⟨_, rfl⟩
                subst eW
                go_upto_if 63 with (fail)
                go_cut [] (fun W => Var W g5 [.int .i64 na, .int .i64 nb] ∧ Var W g6 [.int .i64 (if i = 0 ∨ c < q.x then q.x else c), .int .i64 d] ∧ Below W0.heap.size W0 W)
                case first =>
                  by_cases hc : i = 0 ∨ c < q.x
                  · have HC := Lib.hid hc
                    have z6 := decide_eq_true hc
                    rw [z6]
                    clear hc z6
                    obtain ⟨k0, k1⟩ := ptRow_at HPi.out (i := i) hi HQ.out
                    obtain ⟨c0, c1⟩ := HV6.out.two
                    obtain ⟨f0, f1⟩ := HV6.out.free2
                    have b1 : ((i : Int) < (p.length : Int)) = True := eq_true (by omega)
                    have d1 : (i < p.length) = True := eq_true (by omega)
                    have c1 : ((0 : Int) ≤ (i : Int)) = True := eq_true (by omega)
                    go_wp2_with fail
                    go_meet
                    case rel =>
                      rw [if_pos HC.out]
                      exact ⟨HV5.out.far (p := ⟨g6, 0, none⟩) hne' _, HV6.out.set0 _, bl_set HB.out (p := ⟨g6, 0, none⟩) h6 _⟩
                  · have HC := Lib.hid hc
                    have z6 := decide_eq_false hc
                    rw [z6]
                    clear hc z6
                    go_wp2_with fail
                    go_meet
                    case rel =>
                      rw [if_neg HC.out]
                      exact ⟨HV5.out, HV6.out, HB.out⟩
                case rest =>
                  obtain ⟨hv5, hv6, hb⟩ := hcut
                  clear HV5 HV6 HPi HB
                  have HV5 := Lib.hid hv5
                  have HV6 := Lib.hid hv6
                  have HB := Lib.hid hb
                  have HPi := Lib.hid (HP1.out.below HB.out)
                  clear hv5 hv6 hb
                  obtain ⟨nc, hnc⟩ : ∃ z, (if i = 0 ∨ c < q.x then q.x else c) = z := ⟨_, rfl⟩
                  have HNc := Lib.hid hnc
                  rw [hnc] at HV6
                  clear hnc
                  go_upto_region 12 with (fail)
                  obtain ⟨WC, eW⟩ : ∃ WC, WC = wc := ⟨_, rfl⟩
                  subst eW
                  go_cut [81] (fun x W => x = .bool (decide (i = 0 ∨ d < q.y)) ∧ Below WC.heap.size WC W)
                  case first =>
                    by_cases hi0 : i = 0
                    · have z1 : ((i : Int) = 0) = True := eq_true (by omega)
                      have z2 : ((i : Int) == 0) = true := beq_iff_eq.mpr (by omega)
                      have z3 : (i == 0) = true := beq_iff_eq.mpr hi0
                      have HE := Lib.hid (decide_eq_true (show i = 0 ∨ d < q.y from .inl hi0))
                      clear hi0
                      refine wp_region_held_drew (S := fun V => Below WC.heap.size WC V) (by kernel_rfl) ?_ (fun hHeld => ?_)
                      · exact bel_drew WC
                      revert hHeld
                      generalize World.drew _ = W1
                      intro hHeld 
                      refine wpAnyH_take (i := 0) (v := ?_) rfl (by kernel_rfl) (by kernel_rfl) (by kernel_rfl) (fun _ _ _ h => h) (Or.inl ⟨by rfl, ?_⟩) (by assumption) ?_
                      rotate_left
                      · intro Wq hSw
                        clear hSw
                        go_simp
                        all_goals (with_reducible rfl)
                      try simp only [Act.put, List.getElem_toArray, List.getElem_cons_zero, List.setIfInBounds_toArray, List.set_cons_zero, List.set_cons_succ]
                      refine wpAnyH_take (i := 1) (v := ?_) rfl (by kernel_rfl) (by kernel_rfl) (by kernel_rfl) (fun _ _ _ h => h) (Or.inl ⟨by rfl, ?_⟩) (by assumption) ?_
                      rotate_left
                      · intro Wq hSw
                        clear hSw
                        go_simp
                        all_goals (with_reducible rfl)
                      try simp only [Act.put, List.getElem_toArray, List.getElem_cons_succ, List.getElem_cons_zero, List.setIfInBounds_toArray, List.set_cons_zero, List.set_cons_succ]
                      refine wpAnyH_take (i := 2) (v := ?_) rfl (by kernel_rfl) (by kernel_rfl) (by kernel_rfl) (fun _ _ _ h => h) (Or.inl ⟨by rfl, ?_⟩) (by assumption) ?_
                      rotate_left
                      · intro Wq hSw
                        clear hSw
                        go_simp
                        all_goals (with_reducible rfl)
                      try simp only [Act.put, List.getElem_toArray, List.getElem_cons_succ, List.getElem_cons_zero, List.setIfInBounds_toArray, List.set_cons_zero, List.set_cons_succ]
                      refine wpAnyH_take (i := 3) (v := _) rfl (by kernel_rfl) (by kernel_rfl) (by kernel_rfl) (fun _ _ _ h => h) (Or.inr ⟨by rfl, rfl⟩) (by assumption) ?_
                      try simp only [Act.put, List.getElem_toArray, List.getElem_cons_succ, List.getElem_cons_zero, List.setIfInBounds_toArray, List.set_cons_zero, List.set_cons_succ]
                      refine wpAnyH_take (i := 4) (v := _) rfl (by kernel_rfl) (by kernel_rfl) (by kernel_rfl) (fun _ _ _ h => h) (Or.inr ⟨by rfl, rfl⟩) (by assumption) ?_
                      try simp only [Act.put, List.getElem_toArray, List.getElem_cons_succ, List.getElem_cons_zero, List.setIfInBounds_toArray, List.set_cons_zero, List.set_cons_succ]
                      refine wpAnyH_take (i := 5) (v := _) rfl (by kernel_rfl) (by kernel_rfl) (by kernel_rfl) (fun _ _ _ h => h) (Or.inr ⟨by rfl, rfl⟩) (by assumption) ?_
                      try simp only [Act.put, List.getElem_toArray, List.getElem_cons_succ, List.getElem_cons_zero, List.setIfInBounds_toArray, List.set_cons_zero, List.set_cons_succ]
                      refine wpAnyH_take (i := 6) (v := _) rfl (by kernel_rfl) (by kernel_rfl) (by kernel_rfl) (fun _ _ _ h => h) (Or.inr ⟨by rfl, rfl⟩) (by assumption) ?_
                      try simp only [Act.put, List.getElem_toArray, List.getElem_cons_succ, List.getElem_cons_zero, List.setIfInBounds_toArray, List.set_cons_zero, List.set_cons_succ]
                      refine wpAnyH_take (i := 7) (v := _) rfl (by kernel_rfl) (by kernel_rfl) (by kernel_rfl) (fun _ _ _ h => h) (Or.inr ⟨by rfl, rfl⟩) (by assumption) ?_
                      try simp only [Act.put, List.getElem_toArray, List.getElem_cons_succ, List.getElem_cons_zero, List.setIfInBounds_toArray, List.set_cons_zero, List.set_cons_succ]
                      refine wpAnyH_take (i := 8) (v := _) rfl (by kernel_rfl) (by kernel_rfl) (by kernel_rfl) (fun _ _ _ h => h) (Or.inr ⟨by rfl, rfl⟩) (by assumption) ?_
                      try simp only [Act.put, List.getElem_toArray, List.getElem_cons_succ, List.getElem_cons_zero, List.setIfInBounds_toArray, List.set_cons_zero, List.set_cons_succ]
                      refine wpAnyH_take (i := 9) (v := _) rfl (by kernel_rfl) (by kernel_rfl) (by kernel_rfl) (fun _ _ _ h => h) (Or.inr ⟨by rfl, rfl⟩) (by assumption) ?_
                      try simp only [Act.put, List.getElem_toArray, List.getElem_cons_succ, List.getElem_cons_zero, List.setIfInBounds_toArray, List.set_cons_zero, List.set_cons_succ]
                      refine wpAnyH_take (i := 10) (v := _) rfl (by kernel_rfl) (by kernel_rfl) (by kernel_rfl) (fun _ _ _ h => h) (Or.inr ⟨by rfl, rfl⟩) (by assumption) ?_
                      try simp only [Act.put, List.getElem_toArray, List.getElem_cons_succ, List.getElem_cons_zero, List.setIfInBounds_toArray, List.set_cons_zero, List.set_cons_succ]
                      refine wpAnyH_take (i := 11) (v := ?_) rfl (by kernel_rfl) (by kernel_rfl) (by kernel_rfl) (fun _ _ _ h => h) (Or.inl ⟨by rfl, ?_⟩) (by assumption) ?_
                      rotate_left
                      · intro Wq hSw
                        clear hSw
                        go_simp
                        all_goals (with_reducible rfl)
                      try simp only [Act.put, List.getElem_toArray, List.getElem_cons_succ, List.getElem_cons_zero, List.setIfInBounds_toArray, List.set_cons_zero, List.set_cons_succ]
                      refine wpAnyH_done (by kernel_rfl) ?_ _
                      go_wp2_with fail
                      go_meet
                      case rel => exact ⟨by rw [HE.out], hHeld⟩
                    · have z1 : ((i : Int) = 0) = False := eq_false (by omega)
                      have z2 : ((i : Int) == 0) = false := beq_eq_false_iff_ne.mpr (by omega)
                      have z3 : (i == 0) = false := beq_eq_false_iff_ne.mpr hi0
                      have z4 : (i = 0) = False := eq_false hi0
                      by_cases hc : d < q.y
                      · have z5 : (d < q.y) = True := eq_true hc
                        have HE := Lib.hid (decide_eq_true (show i = 0 ∨ d < q.y from .inr hc))
                        clear hi0 hc
                        refine wp_region_held_drew (S := fun V => Below WC.heap.size WC V) (by kernel_rfl) ?_ (fun hHeld => ?_)
                        · exact bel_drew WC
                        revert hHeld
                        generalize World.drew _ = W1
                        intro hHeld 
                        refine wpAnyH_take (i := 0) (v := ?_) rfl (by kernel_rfl) (by kernel_rfl) (by kernel_rfl) (fun _ _ _ h => h) (Or.inl ⟨by rfl, ?_⟩) (by assumption) ?_
                        rotate_left
                        · intro Wq hSw
                          clear hSw
                          go_simp
                          all_goals (with_reducible rfl)
                        try simp only [Act.put, List.getElem_toArray, List.getElem_cons_zero, List.setIfInBounds_toArray, List.set_cons_zero, List.set_cons_succ]
                        refine wpAnyH_take (i := 1) (v := ?_) rfl (by kernel_rfl) (by kernel_rfl) (by kernel_rfl) (fun _ _ _ h => h) (Or.inl ⟨by rfl, ?_⟩) (by assumption) ?_
                        rotate_left
                        · intro Wq hSw
                          clear hSw
                          go_simp
                          all_goals (with_reducible rfl)
                        try simp only [Act.put, List.getElem_toArray, List.getElem_cons_succ, List.getElem_cons_zero, List.setIfInBounds_toArray, List.set_cons_zero, List.set_cons_succ]
                        refine wpAnyH_take (i := 2) (v := ?_) rfl (by kernel_rfl) (by kernel_rfl) (by kernel_rfl) (fun _ _ _ h => h) (Or.inl ⟨by rfl, ?_⟩) (by assumption) ?_
                        rotate_left
                        · intro Wq hSw
                          clear hSw
                          go_simp
                          all_goals (with_reducible rfl)
                        try simp only [Act.put, List.getElem_toArray, List.getElem_cons_succ, List.getElem_cons_zero, List.setIfInBounds_toArray, List.set_cons_zero, List.set_cons_succ]
                        refine wpAnyH_take (i := 3) (v := ?_) rfl (by kernel_rfl) (by kernel_rfl) (by kernel_rfl) (fun _ _ _ h => h) (Or.inl ⟨by rfl, ?_⟩) (by assumption) ?_
                        rotate_left
                        · intro Wq hSw
                          clear hSw
                          go_simp
                          all_goals (with_reducible rfl)
                        try simp only [Act.put, List.getElem_toArray, List.getElem_cons_succ, List.getElem_cons_zero, List.setIfInBounds_toArray, List.set_cons_zero, List.set_cons_succ]
                        refine wpAnyH_take (i := 4) (v := ?_) rfl (by kernel_rfl) (by kernel_rfl) (by kernel_rfl) (fun _ _ _ h => h) (Or.inl ⟨by rfl, ?_⟩) (by assumption) ?_
                        rotate_left
                        · intro Wq hSw
                          clear hSw
                          go_simp
                          all_goals (with_reducible rfl)
                        try simp only [Act.put, List.getElem_toArray, List.getElem_cons_succ, List.getElem_cons_zero, List.setIfInBounds_toArray, List.set_cons_zero, List.set_cons_succ]
                        refine wpAnyH_take (i := 5) (v := ?_) rfl (by kernel_rfl) (by kernel_rfl) (by kernel_rfl) (fun _ _ _ h => h) (Or.inl ⟨by rfl, ?_⟩) (by assumption) ?_
                        rotate_left
                        · intro Wq hSw
                          have b1 : ((i : Int) < (p.length : Int)) = True := eq_true (by omega)
                          have d1 : (i < p.length) = True := eq_true (by omega)
                          have c1 : ((0 : Int) ≤ (i : Int)) = True := eq_true (by omega)
                          clear hSw
                          go_simp
                          all_goals (with_reducible rfl)
                        try simp only [Act.put, List.getElem_toArray, List.getElem_cons_succ, List.getElem_cons_zero, List.setIfInBounds_toArray, List.set_cons_zero, List.set_cons_succ]
                        refine wpAnyH_take (i := 6) (v := ?_) rfl (by kernel_rfl) (by kernel_rfl) (by kernel_rfl) (fun _ _ _ h => h) (Or.inl ⟨by rfl, ?_⟩) (by assumption) ?_
                        rotate_left
                        · intro Wq hSw
                          clear hSw
                          go_simp
                          all_goals (with_reducible rfl)
                        try simp only [Act.put, List.getElem_toArray, List.getElem_cons_succ, List.getElem_cons_zero, List.setIfInBounds_toArray, List.set_cons_zero, List.set_cons_succ]
                        refine wpAnyH_take (i := 7) (v := ?_) rfl (by kernel_rfl) (by kernel_rfl) (by kernel_rfl) (fun _ _ _ h => h) (Or.inl ⟨by rfl, ?_⟩) (by assumption) ?_
                        rotate_left
                        · intro Wq hSw
                          obtain ⟨k0, k1⟩ := ptRow_at (HPi.out.below hSw) (i := i) hi HQ.out
                          clear hSw
                          go_simp
                          all_goals (with_reducible rfl)
                        try simp only [Act.put, List.getElem_toArray, List.getElem_cons_succ, List.getElem_cons_zero, List.setIfInBounds_toArray, List.set_cons_zero, List.set_cons_succ]
                        refine wpAnyH_take (i := 8) (v := ?_) rfl (by kernel_rfl) (by kernel_rfl) (by kernel_rfl) (fun _ _ _ h => h) (Or.inl ⟨by rfl, ?_⟩) (by assumption) ?_
                        rotate_left
                        · intro Wq hSw
                          clear hSw
                          go_simp
                          all_goals (with_reducible rfl)
                        try simp only [Act.put, List.getElem_toArray, List.getElem_cons_succ, List.getElem_cons_zero, List.setIfInBounds_toArray, List.set_cons_zero, List.set_cons_succ]
                        refine wpAnyH_take (i := 9) (v := ?_) rfl (by kernel_rfl) (by kernel_rfl) (by kernel_rfl) (fun _ _ _ h => h) (Or.inl ⟨by rfl, ?_⟩) (by assumption) ?_
                        rotate_left
                        · intro Wq hSw
                          obtain ⟨k0, k1⟩ := (HV6.out.below hSw).two
                          clear hSw
                          go_simp
                          all_goals (with_reducible rfl)
                        try simp only [Act.put, List.getElem_toArray, List.getElem_cons_succ, List.getElem_cons_zero, List.setIfInBounds_toArray, List.set_cons_zero, List.set_cons_succ]
                        refine wpAnyH_take (i := 10) (v := ?_) rfl (by kernel_rfl) (by kernel_rfl) (by kernel_rfl) (fun _ _ _ h => h) (Or.inl ⟨by rfl, ?_⟩) (by assumption) ?_
                        rotate_left
                        · intro Wq hSw
                          clear hSw
                          go_simp
                          all_goals (with_reducible rfl)
                        try simp only [Act.put, List.getElem_toArray, List.getElem_cons_succ, List.getElem_cons_zero, List.setIfInBounds_toArray, List.set_cons_zero, List.set_cons_succ]
                        refine wpAnyH_take (i := 11) (v := ?_) rfl (by kernel_rfl) (by kernel_rfl) (by kernel_rfl) (fun _ _ _ h => h) (Or.inl ⟨by rfl, ?_⟩) (by assumption) ?_
                        rotate_left
                        · intro Wq hSw
                          clear hSw
                          go_simp
                          all_goals (with_reducible rfl)
                        try simp only [Act.put, List.getElem_toArray, List.getElem_cons_succ, List.getElem_cons_zero, List.setIfInBounds_toArray, List.set_cons_zero, List.set_cons_succ]
                        refine wpAnyH_done (by kernel_rfl) ?_ _
                        go_wp2_with fail
                        go_meet
                        case rel => exact ⟨by rw [HE.out], hHeld⟩
                      · have z5 : (d < q.y) = False := eq_false hc
                        have HE := Lib.hid (decide_eq_false (show ¬ (i = 0 ∨ d < q.y) from fun h => h.elim hi0 hc))
                        clear hi0 hc
                        refine wp_region_held_drew (S := fun V => Below WC.heap.size WC V) (by kernel_rfl) ?_ (fun hHeld => ?_)
                        · exact bel_drew WC
                        revert hHeld
                        generalize World.drew _ = W1
                        intro hHeld 
                        refine wpAnyH_take (i := 0) (v := ?_) rfl (by kernel_rfl) (by kernel_rfl) (by kernel_rfl) (fun _ _ _ h => h) (Or.inl ⟨by rfl, ?_⟩) (by assumption) ?_
                        rotate_left
                        · intro Wq hSw
                          clear hSw
                          go_simp
                          all_goals (with_reducible rfl)
                        try simp only [Act.put, List.getElem_toArray, List.getElem_cons_zero, List.setIfInBounds_toArray, List.set_cons_zero, List.set_cons_succ]
                        refine wpAnyH_take (i := 1) (v := ?_) rfl (by kernel_rfl) (by kernel_rfl) (by kernel_rfl) (fun _ _ _ h => h) (Or.inl ⟨by rfl, ?_⟩) (by assumption) ?_
                        rotate_left
                        · intro Wq hSw
                          clear hSw
                          go_simp
                          all_goals (with_reducible rfl)
                        try simp only [Act.put, List.getElem_toArray, List.getElem_cons_succ, List.getElem_cons_zero, List.setIfInBounds_toArray, List.set_cons_zero, List.set_cons_succ]
                        refine wpAnyH_take (i := 2) (v := ?_) rfl (by kernel_rfl) (by kernel_rfl) (by kernel_rfl) (fun _ _ _ h => h) (Or.inl ⟨by rfl, ?_⟩) (by assumption) ?_
                        rotate_left
                        · intro Wq hSw
                          clear hSw
                          go_simp
                          all_goals (with_reducible rfl)
                        try simp only [Act.put, List.getElem_toArray, List.getElem_cons_succ, List.getElem_cons_zero, List.setIfInBounds_toArray, List.set_cons_zero, List.set_cons_succ]
                        refine wpAnyH_take (i := 3) (v := ?_) rfl (by kernel_rfl) (by kernel_rfl) (by kernel_rfl) (fun _ _ _ h => h) (Or.inl ⟨by rfl, ?_⟩) (by assumption) ?_
                        rotate_left
                        · intro Wq hSw
                          clear hSw
                          go_simp
                          all_goals (with_reducible rfl)
                        try simp only [Act.put, List.getElem_toArray, List.getElem_cons_succ, List.getElem_cons_zero, List.setIfInBounds_toArray, List.set_cons_zero, List.set_cons_succ]
                        refine wpAnyH_take (i := 4) (v := ?_) rfl (by kernel_rfl) (by kernel_rfl) (by kernel_rfl) (fun _ _ _ h => h) (Or.inl ⟨by rfl, ?_⟩) (by assumption) ?_
                        rotate_left
                        · intro Wq hSw
                          clear hSw
                          go_simp
                          all_goals (with_reducible rfl)
                        try simp only [Act.put, List.getElem_toArray, List.getElem_cons_succ, List.getElem_cons_zero, List.setIfInBounds_toArray, List.set_cons_zero, List.set_cons_succ]
                        refine wpAnyH_take (i := 5) (v := ?_) rfl (by kernel_rfl) (by kernel_rfl) (by kernel_rfl) (fun _ _ _ h => h) (Or.inl ⟨by rfl, ?_⟩) (by assumption) ?_
                        rotate_left
                        · intro Wq hSw
                          have b1 : ((i : Int) < (p.length : Int)) = True := eq_true (by omega)
                          have d1 : (i < p.length) = True := eq_true (by omega)
                          have c1 : ((0 : Int) ≤ (i : Int)) = True := eq_true (by omega)
                          clear hSw
                          go_simp
                          all_goals (with_reducible rfl)
                        try simp only [Act.put, List.getElem_toArray, List.getElem_cons_succ, List.getElem_cons_zero, List.setIfInBounds_toArray, List.set_cons_zero, List.set_cons_succ]
                        refine wpAnyH_take (i := 6) (v := ?_) rfl (by kernel_rfl) (by kernel_rfl) (by kernel_rfl) (fun _ _ _ h => h) (Or.inl ⟨by rfl, ?_⟩) (by assumption) ?_
                        rotate_left
                        · intro Wq hSw
                          clear hSw
                          go_simp
                          all_goals (with_reducible rfl)
                        try simp only [Act.put, List.getElem_toArray, List.getElem_cons_succ, List.getElem_cons_zero, List.setIfInBounds_toArray, List.set_cons_zero, List.set_cons_succ]
                        refine wpAnyH_take (i := 7) (v := ?_) rfl (by kernel_rfl) (by kernel_rfl) (by kernel_rfl) (fun _ _ _ h => h) (Or.inl ⟨by rfl, ?_⟩) (by assumption) ?_
                        rotate_left
                        · intro Wq hSw
                          obtain ⟨k0, k1⟩ := ptRow_at (HPi.out.below hSw) (i := i) hi HQ.out
                          clear hSw
                          go_simp
                          all_goals (with_reducible rfl)
                        try simp only [Act.put, List.getElem_toArray, List.getElem_cons_succ, List.getElem_cons_zero, List.setIfInBounds_toArray, List.set_cons_zero, List.set_cons_succ]
                        refine wpAnyH_take (i := 8) (v := ?_) rfl (by kernel_rfl) (by kernel_rfl) (by kernel_rfl) (fun _ _ _ h => h) (Or.inl ⟨by rfl, ?_⟩) (by assumption) ?_
                        rotate_left
                        · intro Wq hSw
                          clear hSw
                          go_simp
                          all_goals (with_reducible rfl)
                        try simp only [Act.put, List.getElem_toArray, List.getElem_cons_succ, List.getElem_cons_zero, List.setIfInBounds_toArray, List.set_cons_zero, List.set_cons_succ]
                        refine wpAnyH_take (i := 9) (v := ?_) rfl (by kernel_rfl) (by kernel_rfl) (by kernel_rfl) (fun _ _ _ h => h) (Or.inl ⟨by rfl, ?_⟩) (by assumption) ?_
                        rotate_left
                        · intro Wq hSw
                          obtain ⟨k0, k1⟩ := (HV6.out.below hSw).two
                          clear hSw
                          go_simp
                          all_goals (with_reducible rfl)
                        try simp only [Act.put, List.getElem_toArray, List.getElem_cons_succ, List.getElem_cons_zero, List.setIfInBounds_toArray, List.set_cons_zero, List.set_cons_succ]
                        refine wpAnyH_take (i := 10) (v := ?_) rfl (by kernel_rfl) (by kernel_rfl) (by kernel_rfl) (fun _ _ _ h => h) (Or.inl ⟨by rfl, ?_⟩) (by assumption) ?_
                        rotate_left
                        · intro Wq hSw
                          clear hSw
                          go_simp
                          all_goals (with_reducible rfl)
                        try simp only [Act.put, List.getElem_toArray, List.getElem_cons_succ, List.getElem_cons_zero, List.setIfInBounds_toArray, List.set_cons_zero, List.set_cons_succ]
                        refine wpAnyH_take (i := 11) (v := ?_) rfl (by kernel_rfl) (by kernel_rfl) (by kernel_rfl) (fun _ _ _ h => h) (Or.inl ⟨by rfl, ?_⟩) (by assumption) ?_
                        rotate_left
                        · intro Wq hSw
                          clear hSw
                          go_simp
                          all_goals (with_reducible rfl)
                        try simp only [Act.put, List.getElem_toArray, List.getElem_cons_succ, List.getElem_cons_zero, List.setIfInBounds_toArray, List.set_cons_zero, List.set_cons_succ]
                        refine wpAnyH_done (by kernel_rfl) ?_ _
                        go_wp2_with fail
                        go_meet
                        case rel => exact ⟨by rw [HE.out], hHeld⟩
                  case rest =>
                    obtain ⟨rfl, hW⟩ := hcut
                    replace HPi := Lib.hid (HPi.out.below hW)
                    replace HV5 := Lib.hid (HV5.out.below hW)
                    replace HV6 := Lib.hid (HV6.out.below hW)
                    replace HB := Lib.hid (bl_trans HB.out hW)
                    clear hW
                    obtain ⟨WD, eW⟩ : ∃ WD, WD = wc := ⟨_, rfl⟩
                    subst eW
                    by_cases hc : i = 0 ∨ d < q.y
                    · have HC := Lib.hid hc
                      have z6 := decide_eq_true hc
                      rw [z6]
                      clear hc z6
                      obtain ⟨k0, k1⟩ := ptRow_at HPi.out (i := i) hi HQ.out
                      obtain ⟨c0', c1⟩ := HV6.out.two
                      obtain ⟨f0, f1⟩ := HV6.out.free2
                      have b1 : ((i : Int) < (p.length : Int)) = True := eq_true (by omega)
                      have d1 : (i < p.length) = True := eq_true (by omega)
                      have c1 : ((0 : Int) ≤ (i : Int)) = True := eq_true (by omega)
                      obtain ⟨m1, m2, m3, m4⟩ := wnum (i := i) (by omega)
                      go_wp2_with fail
                      clear m1 m2 m3 m4
                      exact ⟨⟨i + 1, na, nb, nc, _, by rw [Int.natCast_add]; rfl, hi, boxAt_step HBX.out HQ.out HNa.out HNb.out HNc.out (if_pos HC.out), HV5.out.far (p := ⟨g6, 1, none⟩) hne' _, HV6.out.set1 _, bl_set HB.out (p := ⟨g6, 1, none⟩) h6 _⟩, by simp only [intOf]; omega⟩
                    · have HC := Lib.hid hc
                      have z6 := decide_eq_false hc
                      rw [z6]
                      clear hc z6
                      obtain ⟨m1, m2, m3, m4⟩ := wnum (i := i) (by omega)
                      go_wp2_with fail
                      clear m1 m2 m3 m4
                      exact ⟨⟨i + 1, na, nb, nc, _, by rw [Int.natCast_add]; rfl, hi, boxAt_step HBX.out HQ.out HNa.out HNb.out HNc.out (if_neg HC.out), HV5.out, HV6.out, HB.out⟩, by simp only [intOf]; omega⟩
    · obtain rfl : i = p.length := by omega
      have b0 : ((p.length : Int) < (p.length : Int)) = False := eq_false (by omega)
      have hg2 : w.heap.size ≤ w.heap.size := Nat.le_refl _
      have hg3 : w.heap.size ≤ w.heap.size + 1 := Nat.le_succ _
      have hg5 : w.heap.size + 2 ≤ g5 := by have := HSZ.out; have := HE5.out; omega
      have hg6 : w.heap.size + 2 ≤ g6 := by have := HSZ.out; have := HE6.out; omega
      have HBw := Lib.hid (bl_trans HG.out.hb HB.out)
      have HV2' := Lib.hid (HV2.out.below HB.out)
      have HV3' := Lib.hid (HV3.out.below HB.out)
      clear HV2 HV3 HB HP1 G0 HG HSZ HE5 HE6
      obtain ⟨lo, hlo⟩ : ∃ lo : Pt, lo = ⟨a, b⟩ := ⟨_, rfl⟩
      obtain ⟨hi2, hhi⟩ : ∃ hi : Pt, hi = ⟨c, d⟩ := ⟨_, rfl⟩
      rw [← hlo, ← hhi] at HBX
      replace HV5 : Hid (Var wr g5 [.int .i64 lo.x, .int .i64 lo.y]) := by rw [hlo]; exact HV5
      replace HV6 : Hid (Var wr g6 [.int .i64 hi2.x, .int .i64 hi2.y]) := by rw [hhi]; exact HV6
      clear hlo hhi
      have q5 : w.heap.size ≠ g5 := by omega
      have q6 : w.heap.size ≠ g6 := by omega
      have r5 : w.heap.size + 1 ≠ g5 := by omega
      have r6 : w.heap.size + 1 ≠ g6 := by omega
      have qb : w.heap.size ≠ w.heap.size + 1 := by omega
      have bq : w.heap.size + 1 ≠ w.heap.size := by omega
      by_cases h0 : p.length = 0
      · have HBI : Hid (BoxIs p lo hi2 false) := by
          rcases HBX.out with ⟨-, e1, e2⟩ | ⟨e1, -⟩
          · exact .inl ⟨rfl, h0, e1, e2⟩
          · omega
        go_upto_region 14 with (fail)
        generalize hgA : w.heap.size = ga at *
        have lga : ga ≤ ga := Nat.le_refl _
        have lgb : ga ≤ ga + 1 := by omega
        generalize hgB : ga + 1 = gb at *
        refine wp_region_held_drew (S := fun V => Var V g5 [.int .i64 lo.x, .int .i64 lo.y] ∧ Var V g6 [.int .i64 hi2.x, .int .i64 hi2.y] ∧ Below ga w V) (by kernel_rfl) ?_ (fun hHeld => ?_)
        · exact ⟨HV5.out.below (bel_drew _), HV6.out.below (bel_drew _), HBw.out.drew⟩
        replace HV2' := Lib.hid (HV2'.out.below (bel_drew _))
        replace HV3' := Lib.hid (HV3'.out.below (bel_drew _))
        revert HV2'
        revert HV3'
        revert hHeld
        generalize World.drew _ = W1
        intro hHeld HV3' HV2'
        refine wpAnyH_take (i := 0) (v := ?_) rfl (by kernel_rfl) (by kernel_rfl) (by kernel_rfl) (fun _ _ _ h => h) (Or.inl ⟨by rfl, ?_⟩) (by assumption) ?_
        rotate_left
        · intro Wq hSw
          obtain ⟨k0, k1⟩ := Var.two (hSw.1)
          clear hSw
          go_simp
          all_goals (with_reducible rfl)
        try simp only [Act.put, List.getElem_toArray, List.getElem_cons_zero, List.setIfInBounds_toArray, List.set_cons_zero, List.set_cons_succ]
        refine wpAnyH_take (i := 1) (v := ?_) rfl (by kernel_rfl) (by kernel_rfl) (by kernel_rfl) (fun _ _ _ h => h) (Or.inl ⟨by rfl, ?_⟩) (by assumption) ?_
        rotate_left
        · intro Wq hSw
          obtain ⟨k0, k1⟩ := Var.two (hSw.2.1)
          clear hSw
          go_simp
          all_goals (with_reducible rfl)
        try simp only [Act.put, List.getElem_toArray, List.getElem_cons_succ, List.getElem_cons_zero, List.setIfInBounds_toArray, List.set_cons_zero, List.set_cons_succ]
        refine wpAnyH_take (i := 2) (v := ?_) rfl (by kernel_rfl) (by kernel_rfl) (by kernel_rfl) (fun _ _ _ h => h) (Or.inl ⟨by rfl, ?_⟩) (by assumption) ?_
        rotate_left
        · intro Wq hSw
          clear hSw
          go_simp
          all_goals (with_reducible rfl)
        try simp only [Act.put, List.getElem_toArray, List.getElem_cons_succ, List.getElem_cons_zero, List.setIfInBounds_toArray, List.set_cons_zero, List.set_cons_succ]
        refine wpAnyH_take (i := 3) (v := ?_) rfl (by kernel_rfl) (by kernel_rfl) (by kernel_rfl) (fun _ _ _ h => h) (Or.inl ⟨by rfl, ?_⟩) (by assumption) ?_
        rotate_left
        · intro Wq hSw
          clear hSw
          go_simp
          all_goals (with_reducible rfl)
        try simp only [Act.put, List.getElem_toArray, List.getElem_cons_succ, List.getElem_cons_zero, List.setIfInBounds_toArray, List.set_cons_zero, List.set_cons_succ]
        refine wpAnyH_take (i := 4) (v := ?_) rfl (by kernel_rfl) (by kernel_rfl) (by kernel_rfl) (fun _ _ _ h => h) (Or.inl ⟨by rfl, ?_⟩) (by assumption) ?_
        rotate_left
        · intro Wq hSw
          have b1 : ((0 : Int) < (p.length : Int)) = False := eq_false (by omega)
          have b2 : (0 < p.length) = False := eq_false (by omega)
          clear hSw
          go_simp
          all_goals (with_reducible rfl)
        try simp only [Act.put, List.getElem_toArray, List.getElem_cons_succ, List.getElem_cons_zero, List.setIfInBounds_toArray, List.set_cons_zero, List.set_cons_succ]
        refine r1 (i := 5) rfl (fun K hK => ?_)
        obtain ⟨c0, c1⟩ := HV2'.out.two
        obtain ⟨f0, f1⟩ := HV2'.out.free2
        go_simp
        clear c0 c1 f0 f1
        refine hK.out _ _ ⟨((id hHeld).1.far (p := ⟨ga, 0, none⟩) q5 _).far (p := ⟨ga, 1, none⟩) q5 _, ((id hHeld).2.1.far (p := ⟨ga, 0, none⟩) q6 _).far (p := ⟨ga, 1, none⟩) q6 _, ((id hHeld).2.2.setCell (p := ⟨ga, 0, none⟩) lga _).setCell (p := ⟨ga, 1, none⟩) lga _⟩ (fun hHeld2 => ?_)
        replace HV3' := Lib.hid ((HV3'.out.far (p := ⟨ga, 0, none⟩) qb (.int .i64 lo.x)).far (p := ⟨ga, 1, none⟩) qb (.int .i64 lo.y))
        replace HV2' := Lib.hid (HV2'.out.set2 (.int .i64 lo.x) (.int .i64 lo.y))
        clear hK K hHeld
        have hHeld := hHeld2
        clear hHeld2
        try simp only [Act.put, List.getElem_toArray, List.getElem_cons_succ, List.getElem_cons_zero, List.setIfInBounds_toArray, List.set_cons_zero, List.set_cons_succ]
        refine r1 (i := 6) rfl (fun K hK => ?_)
        obtain ⟨c0, c1⟩ := HV3'.out.two
        obtain ⟨f0, f1⟩ := HV3'.out.free2
        go_simp
        clear c0 c1 f0 f1
        refine hK.out _ _ ⟨((id hHeld).1.far (p := ⟨gb, 0, none⟩) r5 _).far (p := ⟨gb, 1, none⟩) r5 _, ((id hHeld).2.1.far (p := ⟨gb, 0, none⟩) r6 _).far (p := ⟨gb, 1, none⟩) r6 _, ((id hHeld).2.2.setCell (p := ⟨gb, 0, none⟩) lgb _).setCell (p := ⟨gb, 1, none⟩) lgb _⟩ (fun hHeld2 => ?_)
        replace HV2' := Lib.hid ((HV2'.out.far (p := ⟨gb, 0, none⟩) bq (.int .i64 hi2.x)).far (p := ⟨gb, 1, none⟩) bq (.int .i64 hi2.y))
        replace HV3' := Lib.hid (HV3'.out.set2 (.int .i64 hi2.x) (.int .i64 hi2.y))
        clear hK K hHeld
        have hHeld := hHeld2
        clear hHeld2
        try simp only [Act.put, List.getElem_toArray, List.getElem_cons_succ, List.getElem_cons_zero, List.setIfInBounds_toArray, List.set_cons_zero, List.set_cons_succ]
        refine wpAnyH_take (i := 7) (v := ?_) rfl (by kernel_rfl) (by kernel_rfl) (by kernel_rfl) (fun _ _ _ h => h) (Or.inl ⟨by rfl, ?_⟩) (by assumption) ?_
        rotate_left
        · intro Wq hSw
          clear hSw
          go_simp
          all_goals (with_reducible rfl)
        try simp only [Act.put, List.getElem_toArray, List.getElem_cons_succ, List.getElem_cons_zero, List.setIfInBounds_toArray, List.set_cons_zero, List.set_cons_succ]
        refine wpAnyH_done (by kernel_rfl) ?_ _
        go_wp2_with fail
        (try simp only [Exit.inBlock, Exit.then])
        refine bodyPost_ret (results_cct rfl rfl rfl (load_pt HV2'.out) (load_pt HV3'.out)) rfl ?_
        exact ⟨lo, hi2, false, rfl, HBI.out, by rw [hgA]; exact (id hHeld).2.2⟩
      · have HBI : Hid (BoxIs p lo hi2 true) := by
          rcases HBX.out with ⟨e1, -⟩ | ⟨-, e1⟩
          · exact absurd e1 h0
          · exact .inr ⟨rfl, by omega, e1⟩
        go_upto_region 14 with (fail)
        generalize hgA : w.heap.size = ga at *
        have lga : ga ≤ ga := Nat.le_refl _
        have lgb : ga ≤ ga + 1 := by omega
        generalize hgB : ga + 1 = gb at *
        refine wp_region_held_drew (S := fun V => Var V g5 [.int .i64 lo.x, .int .i64 lo.y] ∧ Var V g6 [.int .i64 hi2.x, .int .i64 hi2.y] ∧ Below ga w V) (by kernel_rfl) ?_ (fun hHeld => ?_)
        · exact ⟨HV5.out.below (bel_drew _), HV6.out.below (bel_drew _), HBw.out.drew⟩
        replace HV2' := Lib.hid (HV2'.out.below (bel_drew _))
        replace HV3' := Lib.hid (HV3'.out.below (bel_drew _))
        revert HV2'
        revert HV3'
        revert hHeld
        generalize World.drew _ = W1
        intro hHeld HV3' HV2'
        refine wpAnyH_take (i := 0) (v := ?_) rfl (by kernel_rfl) (by kernel_rfl) (by kernel_rfl) (fun _ _ _ h => h) (Or.inl ⟨by rfl, ?_⟩) (by assumption) ?_
        rotate_left
        · intro Wq hSw
          obtain ⟨k0, k1⟩ := Var.two (hSw.1)
          clear hSw
          go_simp
          all_goals (with_reducible rfl)
        try simp only [Act.put, List.getElem_toArray, List.getElem_cons_zero, List.setIfInBounds_toArray, List.set_cons_zero, List.set_cons_succ]
        refine wpAnyH_take (i := 1) (v := ?_) rfl (by kernel_rfl) (by kernel_rfl) (by kernel_rfl) (fun _ _ _ h => h) (Or.inl ⟨by rfl, ?_⟩) (by assumption) ?_
        rotate_left
        · intro Wq hSw
          obtain ⟨k0, k1⟩ := Var.two (hSw.2.1)
          clear hSw
          go_simp
          all_goals (with_reducible rfl)
        try simp only [Act.put, List.getElem_toArray, List.getElem_cons_succ, List.getElem_cons_zero, List.setIfInBounds_toArray, List.set_cons_zero, List.set_cons_succ]
        refine wpAnyH_take (i := 2) (v := ?_) rfl (by kernel_rfl) (by kernel_rfl) (by kernel_rfl) (fun _ _ _ h => h) (Or.inl ⟨by rfl, ?_⟩) (by assumption) ?_
        rotate_left
        · intro Wq hSw
          clear hSw
          go_simp
          all_goals (with_reducible rfl)
        try simp only [Act.put, List.getElem_toArray, List.getElem_cons_succ, List.getElem_cons_zero, List.setIfInBounds_toArray, List.set_cons_zero, List.set_cons_succ]
        refine wpAnyH_take (i := 3) (v := ?_) rfl (by kernel_rfl) (by kernel_rfl) (by kernel_rfl) (fun _ _ _ h => h) (Or.inl ⟨by rfl, ?_⟩) (by assumption) ?_
        rotate_left
        · intro Wq hSw
          clear hSw
          go_simp
          all_goals (with_reducible rfl)
        try simp only [Act.put, List.getElem_toArray, List.getElem_cons_succ, List.getElem_cons_zero, List.setIfInBounds_toArray, List.set_cons_zero, List.set_cons_succ]
        refine wpAnyH_take (i := 4) (v := ?_) rfl (by kernel_rfl) (by kernel_rfl) (by kernel_rfl) (fun _ _ _ h => h) (Or.inl ⟨by rfl, ?_⟩) (by assumption) ?_
        rotate_left
        · intro Wq hSw
          have b1 : ((0 : Int) < (p.length : Int)) = True := eq_true (by omega)
          have b2 : (0 < p.length) = True := eq_true (by omega)
          clear hSw
          go_simp
          all_goals (with_reducible rfl)
        try simp only [Act.put, List.getElem_toArray, List.getElem_cons_succ, List.getElem_cons_zero, List.setIfInBounds_toArray, List.set_cons_zero, List.set_cons_succ]
        refine r1 (i := 5) rfl (fun K hK => ?_)
        obtain ⟨c0, c1⟩ := HV2'.out.two
        obtain ⟨f0, f1⟩ := HV2'.out.free2
        go_simp
        clear c0 c1 f0 f1
        refine hK.out _ _ ⟨((id hHeld).1.far (p := ⟨ga, 0, none⟩) q5 _).far (p := ⟨ga, 1, none⟩) q5 _, ((id hHeld).2.1.far (p := ⟨ga, 0, none⟩) q6 _).far (p := ⟨ga, 1, none⟩) q6 _, ((id hHeld).2.2.setCell (p := ⟨ga, 0, none⟩) lga _).setCell (p := ⟨ga, 1, none⟩) lga _⟩ (fun hHeld2 => ?_)
        replace HV3' := Lib.hid ((HV3'.out.far (p := ⟨ga, 0, none⟩) qb (.int .i64 lo.x)).far (p := ⟨ga, 1, none⟩) qb (.int .i64 lo.y))
        replace HV2' := Lib.hid (HV2'.out.set2 (.int .i64 lo.x) (.int .i64 lo.y))
        clear hK K hHeld
        have hHeld := hHeld2
        clear hHeld2
        try simp only [Act.put, List.getElem_toArray, List.getElem_cons_succ, List.getElem_cons_zero, List.setIfInBounds_toArray, List.set_cons_zero, List.set_cons_succ]
        refine r1 (i := 6) rfl (fun K hK => ?_)
        obtain ⟨c0, c1⟩ := HV3'.out.two
        obtain ⟨f0, f1⟩ := HV3'.out.free2
        go_simp
        clear c0 c1 f0 f1
        refine hK.out _ _ ⟨((id hHeld).1.far (p := ⟨gb, 0, none⟩) r5 _).far (p := ⟨gb, 1, none⟩) r5 _, ((id hHeld).2.1.far (p := ⟨gb, 0, none⟩) r6 _).far (p := ⟨gb, 1, none⟩) r6 _, ((id hHeld).2.2.setCell (p := ⟨gb, 0, none⟩) lgb _).setCell (p := ⟨gb, 1, none⟩) lgb _⟩ (fun hHeld2 => ?_)
        replace HV2' := Lib.hid ((HV2'.out.far (p := ⟨gb, 0, none⟩) bq (.int .i64 hi2.x)).far (p := ⟨gb, 1, none⟩) bq (.int .i64 hi2.y))
        replace HV3' := Lib.hid (HV3'.out.set2 (.int .i64 hi2.x) (.int .i64 hi2.y))
        clear hK K hHeld
        have hHeld := hHeld2
        clear hHeld2
        try simp only [Act.put, List.getElem_toArray, List.getElem_cons_succ, List.getElem_cons_zero, List.setIfInBounds_toArray, List.set_cons_zero, List.set_cons_succ]
        refine wpAnyH_take (i := 7) (v := ?_) rfl (by kernel_rfl) (by kernel_rfl) (by kernel_rfl) (fun _ _ _ h => h) (Or.inl ⟨by rfl, ?_⟩) (by assumption) ?_
        rotate_left
        · intro Wq hSw
          clear hSw
          go_simp
          all_goals (with_reducible rfl)
        try simp only [Act.put, List.getElem_toArray, List.getElem_cons_succ, List.getElem_cons_zero, List.setIfInBounds_toArray, List.set_cons_zero, List.set_cons_succ]
        refine wpAnyH_done (by kernel_rfl) ?_ _
        go_wp2_with fail
        (try simp only [Exit.inBlock, Exit.then])
        refine bodyPost_ret (results_cct rfl rfl rfl (load_pt HV2'.out) (load_pt HV3'.out)) rfl ?_
        exact ⟨lo, hi2, true, rfl, HBI.out, by rw [hgA]; exact (id hHeld).2.2⟩
end Go.Proofs.Ytmkegehkifpkjaa
