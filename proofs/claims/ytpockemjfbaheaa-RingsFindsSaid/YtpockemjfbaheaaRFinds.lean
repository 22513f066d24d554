/-
  The law RingsFinds.
-/
import Derived.Test.YtpockemjfbaheaaRFRingsAll
import Derived.Test.YtpockemjfbaheaaROrd
namespace Go.Proofs.Ytpockemjfbaheaa
open Go.RowKit

def degR (n : Int) (l : List Pt) : List Int × Int := if okL n l then (degs n.toNat l, 0) else ([], 2)
def DegQ (n : Int) (l : List Pt) (w : World) (en : Ending) (w' : World) : Prop := ∃ ar cr, en = .returned (.tuple #[.slice ar (degR n l).1.length cr, .int .i64 (degR n l).2]) ∧ IntRow w' ar (degR n l).1 ∧ Below w.heap.size w w'
theorem degP_q {n : Int} {l : List Pt} {w : World} {en : Ending} {w' : World} (h : DegP n l w en w') : DegQ n l w en w' := by
  rcases h with ⟨h, v, rfl, hO⟩ | ⟨h, rfl, hB⟩
  · unfold DegQ degR
    rw [if_pos h]
    obtain ⟨a, c, rfl, -, hr, -⟩ := hO.slice
    exact ⟨a, c, rfl, hr, hO.hb⟩
  · unfold DegQ degR
    rw [if_neg h]
    exact ⟨none, 0, rfl, intRow_nil _ _, hB⟩
theorem degR_len {n : Int} {l : List Pt} (hn : n ≤ 10000 ∨ 1048576 < n) : (degR n l).1.length ≤ 10000 := by
  unfold degR
  split
  · next h =>
    have := h.2.1
    rw [degs_len]
    omega
  · simp
theorem rings_size2 {n : Int} {l : List Pt} (hn : n ≤ 10000 ∨ 1048576 < n) : (ringsR n l).1.length ≤ 10000 ∧ ∀ R ∈ (ringsR n l).1, R.length ≤ 10000 := by
  rcases hn with h | h
  · exact rings_size (x := (ringsR n l).2.1) (e := (ringsR n l).2.2) rfl h
  · rw [ringsR_arg (fun h2 => by have := h2.2.1; omega)]
    simp
set_option maxRecDepth 100000 in
theorem eqSeg (a b : Pt) (w : World) : (Op.equalIn 10000 36 (.agg #[.int .i64 a.x, .int .i64 a.y]) (.agg #[.int .i64 b.x, .int .i64 b.y])).run Try.prog w = .ok (decide (a = b)) w := by
  have hS : Try.prog.underlying 36 = some (.struct (Try.prog.fieldsOf 36)) := by kernel_rfl
  have hp : Try.prog.stoodInHeld 36 = false := by kernel_rfl
  have u4 := Try.underlying3
  rw [show (10000 : Nat) = 9999 + 1 from rfl, run_equalIn_agg w 9999 36 _ _ hS hp]
  simp only [Program.fieldsOf, Try.underlying36]
  go_simp
  have e : (a = b) ↔ (a.x = b.x ∧ a.y = b.y) := ⟨fun h => by rw [h]; exact ⟨rfl, rfl⟩, fun h => Pt.ext' h.1 h.2⟩
  by_cases h1 : a.x = b.x <;> by_cases h2 : a.y = b.y <;> simp [h1, h2, e]
set_option maxHeartbeats 8000000 in
set_option maxRecDepth 100000 in
theorem finds_l (w : World) (n : Int) (l : List Pt) (ad : Option Addr) (cap : Nat) (_ : l.length ≤ cap) (hP : PtRow w ad l) (hnil : ad = none → cap = 0) :
    Calls Try.prog 3 #[.int .i64 n, .slice ad l.length cap] w (Gives (.bool true) w) := by
  have K := Lib.hid (fun W => known_l W)
  have HP := Lib.hid hP
  have HN := Lib.hid hnil
  clear hP hnil
  go_enter Try.func3, Try.ntmps3
  by_cases h1 : 300 < n ∧ n ≤ 1048576
  · have b1 : (300 < n) = True := eq_true h1.1
    have b2 : (n ≤ 1048576) = True := eq_true h1.2
    clear h1
    go_wp2_with fail
    (with_reducible refine (K.out _).mono ?_); rintro e w1 ⟨rfl, hb1⟩
    go_wp2
    go_ret
    exact ⟨rfl, hb1⟩
  by_cases h2 : 150 < l.length
  · have b3 : ((150 : Int) < (l.length : Int)) = True := eq_true (by omega)
    by_cases h3 : 300 < n
    · have b1 : (300 < n) = True := eq_true h3
      have b2 : (n ≤ 1048576) = False := eq_false (fun h => h1 ⟨h3, h⟩)
      clear h1 h3
      go_wp2_with fail
      (with_reducible refine (K.out _).mono ?_); rintro e w1 ⟨rfl, hb1⟩
      go_wp2
      go_ret
      exact ⟨rfl, hb1⟩
    · have b1 : (300 < n) = False := eq_false h3
      clear h1 h3
      go_wp2_with fail
      (with_reducible refine (K.out _).mono ?_); rintro e w1 ⟨rfl, hb1⟩
      go_wp2
      go_ret
      exact ⟨rfl, hb1⟩
  have b3 : ((150 : Int) < (l.length : Int)) = False := eq_false (by omega)
  have hl2 : l.length ≤ 150 := by omega
  have hn : n ≤ 300 ∨ 1048576 < n := by omega
  go_upto_region 1 with (fail)
  go_cut [27] (fun bv W => bv = .bool false ∧ w = W)
  case first =>
    rcases hn with h3 | h3
    · have b1 : (300 < n) = False := eq_false (by omega)
      clear h1 h2 h3
      go_wp2_with fail
      go_meet
      case rel => exact ⟨rfl, rfl⟩
    · have b1 : (300 < n) = True := eq_true (by omega)
      have b2 : (n ≤ 1048576) = False := eq_false (by omega)
      clear h1 h2 h3
      go_wp2_with fail
      go_meet
      case rel => exact ⟨rfl, rfl⟩
  case rest =>
  obtain ⟨rfl, rfl⟩ := hcut
  clear b3 h1 h2
  have hn2 : n ≤ 10000 ∨ 1048576 < n := by omega
  have hrs := rings_size2 (n := n) (l := l) hn2
  have HD2 := Lib.hid (fun W (h : Below w.heap.size w W) => (refDegrees_l n l ad cap W (HP.out.below h) hn2 (by omega)).mono (fun _ _ h => degP_q h))
  have HR2 := Lib.hid (fun W (h : Below w.heap.size w W) => refRings_l n l ad cap W (HP.out.below h) hn (by omega))
  have HDL := Lib.hid (degR_len (l := l) hn2)
  go_wp2_with (at_builtin; refine app_pts rfl Try.underlying22 info_eseg _ _ rfl rfl (op_nil _ w) rfl (L := l) rfl HP.out HN.out (by simp; omega) ?_)
  intro v1 w1 hO1
  obtain ⟨ao, co, rfl, -, hPo, -⟩ := hO1.slice
  have HPo := Lib.hid hPo
  have HBo := Lib.hid hO1.hb
  have HD1 := Lib.hid (fun W (h : Below w1.heap.size w1 W) => (degrees_l n l ao co W (hPo.below h) hn2 (by omega)).mono (fun _ _ h => degP_q h))
  have HR1 := Lib.hid (fun W (h : Below w1.heap.size w1 W) => rings_l n l ao co W (hPo.below h) hn2 (by omega))
  clear hPo hO1 hn hn2
  unfold DegQ at HD1 HD2
  unfold RingsP at HR1 HR2
  obtain ⟨D, hD⟩ : ∃ D, (degR n l).1 = D := ⟨_, rfl⟩
  obtain ⟨de, hde⟩ : ∃ D, (degR n l).2 = D := ⟨_, rfl⟩
  obtain ⟨L, hL⟩ : ∃ L, (ringsR n l).1 = L := ⟨_, rfl⟩
  obtain ⟨x, hx⟩ : ∃ x, (ringsR n l).2.1 = x := ⟨_, rfl⟩
  obtain ⟨e, he⟩ : ∃ x, (ringsR n l).2.2 = x := ⟨_, rfl⟩
  rw [hD, hde] at HD1 HD2
  rw [hL, hx, he] at HR1 HR2
  rw [hD] at HDL
  rw [hL] at hrs
  clear hD hde hL hx he
  go_wp2_with fail
  (with_reducible refine (HD1.out _ (Below.refl _ _)).mono ?_); rintro en w2 ⟨a2, c2, rfl, hI2, hb2⟩
  have HB := Lib.hid hb2
  have HI2 := Lib.hid hI2
  clear hI2 hb2 HD1
  go_wp2_with fail
  (with_reducible refine (HD2.out _ (bl_trans HBo.out HB.out)).mono ?_); rintro en w3 ⟨a3, c3, rfl, hI3, hb3⟩
  replace HB := Lib.hid (bl_trans HB.out hb3)
  replace HI2 := Lib.hid (HI2.out.below hb3)
  have HI3 := Lib.hid hI3
  clear hI3 hb3 HD2
  go_wp2_with fail
  (with_reducible refine (HR1.out _ HB.out).mono ?_); rintro en w4 ⟨v4, rfl, hI4, hb4⟩
  obtain ⟨a4, c4, rfl, -, hI4, -⟩ := hI4
  replace HB := Lib.hid (bl_trans HB.out hb4)
  replace HI2 := Lib.hid (HI2.out.below hb4)
  replace HI3 := Lib.hid (HI3.out.below hb4)
  have HI4 := Lib.hid hI4
  clear hI4 hb4 HR1
  go_wp2_with fail
  (with_reducible refine (HR2.out _ (bl_trans HBo.out HB.out)).mono ?_); rintro en w5 ⟨v5, rfl, hI5, hb5⟩
  obtain ⟨a5, c5, rfl, -, hI5, -⟩ := hI5
  replace HB := Lib.hid (bl_trans HB.out hb5)
  replace HI2 := Lib.hid (HI2.out.below hb5)
  replace HI3 := Lib.hid (HI3.out.below hb5)
  replace HI4 := Lib.hid (HI4.out.below hb5)
  have HI5 := Lib.hid hI5
  clear hI5 hb5 HR2
  go_wp2_with fail
  have HB5 := Lib.hid HB.out
  go_loopw [16] (fun iv W => ∃ i : Nat, i ≤ l.length ∧ iv = .int .i64 i ∧ Below w5.heap.size w5 W) (fun iv _ => l.length - (intOf iv).toNat)
  case atStart => exact ⟨0, Nat.zero_le _, rfl, Below.refl _ _⟩
  case round =>
    obtain ⟨i, hi, rfl, hB⟩ := hrel
    have HBx := Lib.hid hB
    clear HB
    have HB := Lib.hid (bl_trans HB5.out HBx.out)
    clear hB
    by_cases hlt : i < l.length
    · have q1 : ((i : Int) < (l.length : Int)) = True := eq_true (by omega)
      have q2 : (i < l.length) = True := eq_true hlt
      obtain ⟨g, o, rfl⟩ := HP.out.some (by omega)
      obtain ⟨g2, o2, rfl⟩ := HPo.out.some (by omega)
      obtain ⟨s, hs⟩ : ∃ s, pget l i = s := ⟨_, rfl⟩
      obtain ⟨m1, m2, m3, m4⟩ := wnum (i := i) (by omega)
      go_wp2_with fail
      refine wp_region_held_drew (S := fun V => Below wr.heap.size wr V) (by kernel_rfl) ?_ (fun hHeld => ?_)
      · exact bel_drew wr
      revert hHeld
      generalize World.drew _ = W1
      intro hHeld 
      refine wpAnyH_take (i := 0) (v := ?_) rfl (by kernel_rfl) (by kernel_rfl) (by kernel_rfl) (fun _ _ _ h => h) (Or.inl ⟨by rfl, ?_⟩) (by assumption) ?_
      rotate_left
      · intro Wq hSw
        clear hSw
        go_simp
        all_goals (with_reducible rfl)
      try simp only [Act.put, List.getElem_toArray, List.getElem_cons_zero, List.setIfInBounds_toArray, List.set_cons_zero, List.set_cons_succ]
      refine wpAnyH_take (i := 1) (v := ?_) rfl (by kernel_rfl) (by kernel_rfl) (by kernel_rfl) (fun _ _ _ h => h) (Or.inl ⟨by rfl, ?_⟩) (by assumption) ?_
      rotate_left
      · intro Wq hSw
        clear hSw
        go_simp
        all_goals (with_reducible rfl)
      try simp only [Act.put, List.getElem_toArray, List.getElem_cons_succ, List.getElem_cons_zero, List.setIfInBounds_toArray, List.set_cons_zero, List.set_cons_succ]
      refine wpAnyH_take (i := 2) (v := ?_) rfl (by kernel_rfl) (by kernel_rfl) (by kernel_rfl) (fun _ _ _ h => h) (Or.inl ⟨by rfl, ?_⟩) (by assumption) ?_
      rotate_left
      · intro Wq hSw
        have b1 : ((i : Int) < (l.length : Int)) = True := eq_true (by omega)
        have d1 : (i < l.length) = True := eq_true (by omega)
        have c1 : ((0 : Int) ≤ (i : Int)) = True := eq_true (by omega)
        clear hSw
        go_simp
        all_goals (with_reducible rfl)
      try simp only [Act.put, List.getElem_toArray, List.getElem_cons_succ, List.getElem_cons_zero, List.setIfInBounds_toArray, List.set_cons_zero, List.set_cons_succ]
      refine wpAnyH_take (i := 3) (v := ?_) rfl (by kernel_rfl) (by kernel_rfl) (by kernel_rfl) (fun _ _ _ h => h) (Or.inl ⟨by rfl, ?_⟩) (by assumption) ?_
      rotate_left
      · intro Wq hSw
        obtain ⟨k0, k1⟩ := ptRow_at (HPo.out.below (bl_trans HB.out hSw)) (i := i) hlt hs
        clear hSw
        go_simp
        all_goals (with_reducible rfl)
      try simp only [Act.put, List.getElem_toArray, List.getElem_cons_succ, List.getElem_cons_zero, List.setIfInBounds_toArray, List.set_cons_zero, List.set_cons_succ]
      refine wpAnyH_take (i := 4) (v := ?_) rfl (by kernel_rfl) (by kernel_rfl) (by kernel_rfl) (fun _ _ _ h => h) (Or.inl ⟨by rfl, ?_⟩) (by assumption) ?_
      rotate_left
      · intro Wq hSw
        clear hSw
        go_simp
        all_goals (with_reducible rfl)
      try simp only [Act.put, List.getElem_toArray, List.getElem_cons_succ, List.getElem_cons_zero, List.setIfInBounds_toArray, List.set_cons_zero, List.set_cons_succ]
      refine wpAnyH_take (i := 5) (v := ?_) rfl (by kernel_rfl) (by kernel_rfl) (by kernel_rfl) (fun _ _ _ h => h) (Or.inl ⟨by rfl, ?_⟩) (by assumption) ?_
      rotate_left
      · intro Wq hSw
        clear hSw
        go_simp
        all_goals (with_reducible rfl)
      try simp only [Act.put, List.getElem_toArray, List.getElem_cons_succ, List.getElem_cons_zero, List.setIfInBounds_toArray, List.set_cons_zero, List.set_cons_succ]
      refine wpAnyH_take (i := 6) (v := ?_) rfl (by kernel_rfl) (by kernel_rfl) (by kernel_rfl) (fun _ _ _ h => h) (Or.inl ⟨by rfl, ?_⟩) (by assumption) ?_
      rotate_left
      · intro Wq hSw
        have b1 : ((i : Int) < (l.length : Int)) = True := eq_true (by omega)
        have d1 : (i < l.length) = True := eq_true (by omega)
        have c1 : ((0 : Int) ≤ (i : Int)) = True := eq_true (by omega)
        clear hSw
        go_simp
        all_goals (with_reducible rfl)
      try simp only [Act.put, List.getElem_toArray, List.getElem_cons_succ, List.getElem_cons_zero, List.setIfInBounds_toArray, List.set_cons_zero, List.set_cons_succ]
      refine wpAnyH_take (i := 7) (v := ?_) rfl (by kernel_rfl) (by kernel_rfl) (by kernel_rfl) (fun _ _ _ h => h) (Or.inl ⟨by rfl, ?_⟩) (by assumption) ?_
      rotate_left
      · intro Wq hSw
        obtain ⟨k0, k1⟩ := ptRow_at (HP.out.below (bl_trans HBo.out (bl_trans HB.out hSw))) (i := i) hlt hs
        clear hSw
        go_simp
        all_goals (with_reducible rfl)
      try simp only [Act.put, List.getElem_toArray, List.getElem_cons_succ, List.getElem_cons_zero, List.setIfInBounds_toArray, List.set_cons_zero, List.set_cons_succ]
      refine wpAnyH_take (i := 8) (v := ?_) rfl (by kernel_rfl) (by kernel_rfl) (by kernel_rfl) (fun _ _ _ h => h) (Or.inl ⟨by rfl, ?_⟩) (by assumption) ?_
      rotate_left
      · intro Wq hSw
        have E := eqSeg s s
        clear hSw
        go_simp
        all_goals (with_reducible rfl)
      try simp only [Act.put, List.getElem_toArray, List.getElem_cons_succ, List.getElem_cons_zero, List.setIfInBounds_toArray, List.set_cons_zero, List.set_cons_succ]
      refine wpAnyH_done (by kernel_rfl) ?_ _
      replace HBx := Lib.hid (bl_trans HBx.out hHeld)
      clear hHeld
      go_wp2_with fail
      clear m1 m2 m3 m4
      exact ⟨⟨i + 1, hlt, by rw [Int.natCast_add]; rfl, HBx.out⟩, by simp [intOf]; omega⟩
    · obtain rfl : i = l.length := by omega
      have q1 : ((l.length : Int) < (l.length : Int)) = False := eq_false (by omega)
      replace HI2 := Lib.hid (HI2.out.below HBx.out)
      replace HI3 := Lib.hid (HI3.out.below HBx.out)
      replace HI4 := Lib.hid (HI4.out.below HBx.out)
      replace HI5 := Lib.hid (HI5.out.below HBx.out)
      have HS1 := Lib.hid (sameInts_l D D a2 a3 c2 c3 D.length D.length wr HI2.out HI3.out rfl rfl (by have := HDL.out; omega))
      have HS2 := Lib.hid (fun W (h : Below wr.heap.size wr W) => same_l L L a4 a5 c4 c5 L.length L.length W (HI4.out.below h) (HI5.out.below h) rfl rfl hrs.1 hrs.2)
      simp only [decide_true] at HS1 HS2
      have e1 : (de == de) = true := by simp
      have e2 : (x == x) = true := by simp
      have e3 : (e == e) = true := by simp
      clear HI2 HI3 HI4 HI5 HBx HB5
      go_wp2_with fail
      (with_reducible refine HS1.out.mono ?_); rintro en w6 ⟨rfl, hb6⟩
      have HB6 := Lib.hid hb6
      clear hb6 HS1
      go_wp2_with fail
      (with_reducible refine (HS2.out _ HB6.out).mono ?_); rintro en w7 ⟨rfl, hb7⟩
      replace HB6 := Lib.hid (bl_trans HB6.out hb7)
      clear hb7 HS2
      go_wp2_with fail
      (with_reducible refine (K.out _).mono ?_); rintro en w8 ⟨rfl, hb8⟩
      replace HB6 := Lib.hid (bl_trans HB6.out hb8)
      clear hb8
      go_wp2_with fail
      go_ret
      exact ⟨rfl, bl_trans HBo.out (bl_trans HB.out HB6.out)⟩
end Go.Proofs.Ytpockemjfbaheaa
