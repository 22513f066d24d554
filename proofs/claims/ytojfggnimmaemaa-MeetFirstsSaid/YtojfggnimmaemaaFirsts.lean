/-
  The walk of the law MeetFirsts.
-/
import Derived.Test.YtojfggnimmaemaaFirst
import Derived.Test.YtojfggnimmaemaaMeetAll
import Derived.Test.YtojfggnimmaemaaRefSegs
import Derived.Maps.AppendAt
import Derived.Laws.AppendOwnNone
namespace Go.Proofs.Ytojfggnimmaemaa
open Go.RowKit

def segVals (l : List Sg) : List Value := l.flatMap sgVals
theorem segVals_len (l : List Sg) : (segVals l).length = l.length * 4 := by
  induction l with
  | nil => rfl
  | cons s l ih => unfold segVals at *; rw [List.flatMap_cons, List.length_append, ih]; simp [sgVals]; omega
theorem segVals_get : ∀ (l : List Sg) (i : Nat), i < l.length → (segVals l)[i * 4]? = some (.int .i64 (sget l i).a.x) ∧ (segVals l)[i * 4 + 1]? = some (.int .i64 (sget l i).a.y) ∧ (segVals l)[i * 4 + 2]? = some (.int .i64 (sget l i).b.x) ∧ (segVals l)[i * 4 + 3]? = some (.int .i64 (sget l i).b.y)
  | p :: l, 0, _ => ⟨rfl, rfl, rfl, rfl⟩
  | p :: l, i + 1, h => by
    have := segVals_get l i (by simpa using h)
    rw [show (i + 1) * 4 = i * 4 + 1 + 1 + 1 + 1 by omega]
    exact this
theorem segVals_one (l : List Sg) : ∀ u ∈ segVals l, u.oneCell' = true := by
  intro u hu
  obtain ⟨s, -, hs⟩ := List.mem_flatMap.1 hu
  simp [sgVals] at hs
  rcases hs with rfl | rfl | rfl | rfl <;> rfl
theorem segVals_at {W : World} {g o : Nat} {l : List Sg} (h : SgsAt W g o l) : ∀ j u, (segVals l)[j]? = some u → W.cell? ((⟨g, o, none⟩ : Addr).add j) = some u := by
  intro j u hj
  have hlt : j < (segVals l).length := (List.getElem?_eq_some_iff.1 hj).1
  rw [segVals_len] at hlt
  have e : (⟨g, o, none⟩ : Addr).add j = ⟨g, o + j, none⟩ := by unfold Addr.add; split <;> simp_all
  rw [e]
  obtain ⟨i, r, hr, rfl⟩ : ∃ i r, r < 4 ∧ j = i * 4 + r := ⟨j / 4, j % 4, by omega, by omega⟩
  obtain ⟨h0, h1, h2, h3⟩ := h i (by omega)
  obtain ⟨g0, g1, g2, g3⟩ := segVals_get l i (by omega)
  match r, hr with
  | 0, _ => rw [Nat.add_zero] at *; rw [g0] at hj; rw [h0]; exact hj
  | 1, _ => rw [g1] at hj; rw [← Nat.add_assoc, h1]; exact hj
  | 2, _ => rw [g2] at hj; rw [← Nat.add_assoc, h2]; exact hj
  | 3, _ => rw [g3] at hj; rw [← Nat.add_assoc, h3]; exact hj
theorem sgs_owns {W : World} {base g cap : Nat} {e : TypeId} {l : List Sg} (h : W.ownsRow base e 4 (.slice (some ⟨g, 0, none⟩) l.length cap) l.length (segVals l)) : SgsAt W g 0 l := by
  intro i hi
  have add : ∀ j, (⟨g, 0, none⟩ : Addr).add j = ⟨g, j, none⟩ := fun j => by unfold Addr.add; split <;> simp_all
  have c := h.cells (g := g) rfl
  obtain ⟨p0, p1, p2, p3⟩ := segVals_get l i hi
  have c0 := c _ _ p0
  have c1 := c _ _ p1
  have c2 := c _ _ p2
  have c3 := c _ _ p3
  rw [add] at c0 c1 c2 c3
  rw [Nat.zero_add]
  exact ⟨c0, c1, c2, c3⟩
theorem info_seg : (Try.prog.info? 61).map (fun i => (i.zero, i.size, i.bytes)) = some (some (.agg #[.int .i64 0, .int .i64 0, .int .i64 0, .int .i64 0]), 4, 32) := by kernel_rfl
theorem ok_is (s : Sg) : okB s = (!(eqB s.a s.b) && (fitB s.a && fitB s.b)) := rfl
/-- what the law has found so far -/
def Sofar (l : List Sg) (a x y : Nat) (is : Bool) : Prop :=
  (is = true ∧ FirstP l.length (fun i k => badB (sget l i) (sget l k)) x y true) ∨ (is = false ∧ x = 0 ∧ y = 0 ∧ ∀ i k, i < a → i < k → k < l.length → badB (sget l i) (sget l k) = false)
def Sofar2 (l : List Sg) (a b x y : Nat) (is : Bool) : Prop :=
  (is = true ∧ FirstP l.length (fun i k => badB (sget l i) (sget l k)) x y true) ∨ (is = false ∧ x = 0 ∧ y = 0 ∧ (∀ i k, i < a → i < k → k < l.length → badB (sget l i) (sget l k) = false) ∧ ∀ k, a < k → k < b → badB (sget l a) (sget l k) = false)
theorem sofar_end {l : List Sg} {a x y : Nat} {is : Bool} (h : Sofar l a x y is) (ha : is = true ∨ a = l.length) : FirstP l.length (fun i k => badB (sget l i) (sget l k)) x y is := by
  rcases h with ⟨rfl, h⟩ | ⟨rfl, rfl, rfl, h⟩
  · exact h
  · rcases ha with ha | rfl
    · cases ha
    · exact .inr ⟨rfl, rfl, rfl, fun i k h1 h2 => h i k (by omega) h1 h2⟩
theorem sofar2_end {l : List Sg} {a b x y : Nat} {is : Bool} (h : Sofar2 l a b x y is) (hb : is = true ∨ b = l.length) : Sofar l (a + 1) x y is := by
  rcases h with ⟨rfl, h⟩ | ⟨rfl, rfl, rfl, h, h2⟩
  · exact .inl ⟨rfl, h⟩
  · rcases hb with hb | rfl
    · cases hb
    · refine .inr ⟨rfl, rfl, rfl, fun i k h3 h4 h5 => ?_⟩
      rcases Nat.lt_or_ge i a with h6 | h6
      · exact h i k h6 h4 h5
      · obtain rfl : i = a := by omega
        exact h2 k h4 h5
/-- behind the third loop's first rounds -/
def Sofar3 (l : List Sg) (x0 y0 : Nat) (is0 : Bool) (a x y : Nat) (is : Bool) : Prop :=
  ((∀ j, j < a → okB (sget l j) = true) ∧ x = x0 ∧ y = y0 ∧ is = is0) ∨ ((∃ j, j < a ∧ okB (sget l j) = false) ∧ x = 0 ∧ y = 0 ∧ is = false)
theorem sofar3_end {l : List Sg} {x0 y0 x y : Nat} {is0 is : Bool} (h : FirstP l.length (fun i k => badB (sget l i) (sget l k)) x0 y0 is0) (k : Sofar3 l x0 y0 is0 l.length x y is) : FirstR l x y is := by
  rcases k with ⟨k, rfl, rfl, rfl⟩ | ⟨⟨j, hj, k⟩, rfl, rfl, rfl⟩
  · exact .inl ⟨all_ok k, h⟩
  · exact .inr ⟨not_ok hj k, rfl, rfl, rfl⟩

set_option maxHeartbeats 4000000 in
set_option maxRecDepth 100000 in
theorem firsts_long (ad : Option Addr) (n cap : Nat) (hn : 40 < n) (w : World) : Calls Try.prog 14 #[.slice ad n cap] w (Gives (.bool true) w) := by
  have K := Lib.hid (fun W => known4_l W)
  have b20 : ((40 : Int) < (n : Int)) = True := by simp; omega
  go_enter Try.func14, Try.ntmps14
  go_wp2_with fail
  (with_reducible refine (K.out _).mono ?_); rintro e w1 ⟨rfl, hb1⟩
  go_wp2
  go_ret
  exact ⟨rfl, by repeat (first | (with_reducible exact Below.refl _ _) | (with_reducible refine bl_alloc ?_ _) | (with_reducible refine Below.drew ?_) | (with_reducible refine below_drewN' ?_ _) | (with_reducible refine bl_trans ?_ hb1) | ((with_reducible refine bl_set ?_ ?_ _); (rotate_left; (dsimp only; omega))))⟩

set_option maxHeartbeats 8000000 in
set_option maxRecDepth 100000 in
theorem firsts_l (l : List Sg) (g o cap : Nat) (hn : l.length ≤ 40) (h0 : 0 < l.length) (w : World) (hl : SgsAt w g o l) : Calls Try.prog 14 #[.slice (some ⟨g, o, none⟩) l.length cap] w (Gives (.bool true) w) := by
  have K := Lib.hid (fun W => known4_l W)
  have HL := Lib.hid hl
  clear hl
  have b20 : ((40 : Int) < (l.length : Int)) = False := by simp; omega
  obtain ⟨e0, hi0, hz0, hz1, hz2⟩ := info_parts info_seg
  go_enter Try.func14, Try.ntmps14
  go_wp2_with (first | (at_builtin; refine wpList_append_own_at _ rfl _ _ 58 rfl w.heap.size 61 e0 (.agg #[.int .i64 0, .int .i64 0, .int .i64 0, .int .i64 0]) 4 32 Try.underlying58 hi0 hz0 hz1 hz2 rfl (by decide) (.slice none 0 0) 0 [] rfl (World.ownsRow_nil _ _ _ _) ⟨g, o, none⟩ l.length cap (segVals l) rfl (segVals_len l) (segVals_at HL.out) (segVals_one l) ?c3 ?c4 ?c5 ?_) | go_in)
  case c3 => unfold maxLen; omega
  case c4 => omega
  case c5 => exact Nat.le_refl _
  intro v w1 hown hgrow hnil _
  obtain ⟨g2, cap2, rfl⟩ : ∃ g2 cap2, v = .slice (some ⟨g2, 0, none⟩) l.length cap2 := by
    rcases hown.2 with ⟨rfl, h⟩ | ⟨g2, cap2, cur, rfl, -⟩
    · omega
    · exact ⟨g2, cap2, rfl⟩
  have hbl : Below w.heap.size w w1 := (Below.refl _ _).grown hgrow (Nat.le_refl _) (fun g hg => by cases hg)
  have HS0 : Hid ((fun W => SgsAt W g o l ∧ SgsAt W g2 0 l ∧ Grew w 0 W) w1) := ⟨HL.out.below hbl, sgs_owns hown, hbl, hbl.size⟩
  clear hown hgrow hnil hbl HL e0 hi0 hz0 hz1 hz2
  have CF := Lib.hid (fun W (h : SgsAt W g2 0 l) => first_l l g2 0 cap2 hn W h)
  go_wp2_with fail
  (with_reducible refine (CF.out _ HS0.out.2.1).mono ?_); rintro e w2 ⟨fx, fy, fb, rfl, hF, hb1⟩
  have HF := Lib.hid hF
  replace HS0 : Hid ((fun W => SgsAt W g o l ∧ SgsAt W g2 0 l ∧ Grew w 0 W) w2) := ⟨HS0.out.1.below hb1, HS0.out.2.1.below hb1, HS0.out.2.2.below hb1⟩
  clear hF hb1 CF
  go_wp2_with fail
  go_loopw [7, 8, 9, 10] (fun xv yv bv av W => ∃ (x y a : Nat) (is : Bool), xv = .int .i64 x ∧ yv = .int .i64 y ∧ bv = .bool is ∧ av = .int .i64 a ∧ a ≤ l.length ∧ Sofar l a x y is ∧ (fun W => SgsAt W g o l ∧ SgsAt W g2 0 l ∧ Grew w 0 W) W) (fun _ _ _ av _ => l.length - (intOf av).toNat)
  case atStart => exact ⟨0, 0, 0, false, rfl, rfl, rfl, rfl, by omega, .inr ⟨rfl, rfl, rfl, fun i k h => absurd h (by omega)⟩, HS0.out⟩
  case round =>
    obtain ⟨x, y, a, is, rfl, rfl, rfl, rfl, ha, hQ, hS⟩ := hrel
    clear HS0
    have HQ := Lib.hid hQ
    have HS0 : Hid ((fun W => SgsAt W g o l ∧ SgsAt W g2 0 l ∧ Grew w 0 W) _) := hS
    clear hQ hS
    by_cases hgo : a < l.length ∧ is = false
    · obtain ⟨ha2, rfl⟩ := hgo
      have b4 : ((a : Int) < (l.length : Int)) = True := by simp; omega
      obtain ⟨sa, hsa⟩ : ∃ s, sget l a = s := ⟨_, rfl⟩
      have HSA := Lib.hid hsa
      clear hsa
      obtain ⟨n1, n2, n3, n4, n5, n6⟩ := num_facts hn ha
      go_wp2_with fail
      clear n1 n2 n3 n4 n5 n6
      go_loopw [7, 8, 9, 11] (fun xv yv bv kv W => ∃ (x y b : Nat) (is : Bool), xv = .int .i64 x ∧ yv = .int .i64 y ∧ bv = .bool is ∧ kv = .int .i64 b ∧ a < b ∧ b ≤ l.length ∧ Sofar2 l a b x y is ∧ (fun W => SgsAt W g o l ∧ SgsAt W g2 0 l ∧ Grew w 0 W) W) (fun _ _ _ kv _ => l.length - (intOf kv).toNat)
      case atStart =>
        rcases HQ.out with ⟨h, -⟩ | ⟨-, h1, h2, h3⟩
        · cases h
        · exact ⟨x, y, a + 1, false, rfl, rfl, rfl, by go_num, by omega, by omega, .inr ⟨rfl, h1, h2, h3, fun k h4 h5 => absurd h5 (by omega)⟩, HS0.out⟩
      case round =>
        obtain ⟨x, y, b, is, rfl, rfl, rfl, rfl, hab, hb, hQ, hS⟩ := hrel
        clear HS0 HQ b4
        have HQ := Lib.hid hQ
        have HS0 : Hid ((fun W => SgsAt W g o l ∧ SgsAt W g2 0 l ∧ Grew w 0 W) _) := hS
        clear hQ hS
        by_cases hgo : b < l.length ∧ is = false
        · obtain ⟨hb2, rfl⟩ := hgo
          have b4 : ((b : Int) < (l.length : Int)) = True := by simp; omega
          have b5 : ((a : Int) < (l.length : Int)) = True := by simp; omega
          obtain ⟨sb, hsb⟩ : ∃ s, sget l b = s := ⟨_, rfl⟩
          have HSB := Lib.hid hsb
          clear hsb
          have CS := Lib.hid (fun W => refSegs_l sa.a sa.b sb.a sb.b W)
          have HZ : Hid (badB sa sb = decide (1 < segsN sa.a sa.b sb.a sb.b)) := rfl
          generalize segsN sa.a sa.b sb.a sb.b = z at *
          generalize segsE sa.a sa.b sb.a sb.b = ze at *
          go_upto_region 15 with (fail)
          go_cut [12] (fun nv W => nv = .int .i64 z ∧ (fun W => SgsAt W g o l ∧ SgsAt W g2 0 l ∧ Grew w 0 W) W)
          case first =>
            clear HZ HQ HF
            refine wp_region_held_drew (S := fun W => SgsAt W g o l ∧ SgsAt W g2 0 l ∧ Grew w 0 W) (by kernel_rfl) ?_ (fun q1 => ?_)
            · exact ⟨HS0.out.1.below (bel_drew _), HS0.out.2.1.below (bel_drew _), HS0.out.2.2.below (bel_drew _)⟩
            revert q1
            generalize World.drew _ = W1
            intro q1
            refine tk (i := 0) (v := ?_) rfl (Or.inl ⟨by rfl, ?_⟩) ?_
            rotate_left
            · intro Wq hSw
              clear hSw
              go_simp
              all_goals (with_reducible rfl)
            try simp only [Act.put, x2, x4, x5, x6, x7]
            refine tk (i := 1) (v := ?_) rfl (Or.inl ⟨by rfl, ?_⟩) ?_
            rotate_left
            · intro Wq hSw
              clear hSw
              go_simp
              all_goals (with_reducible rfl)
            try simp only [Act.put, x2, x3, x4, x5, x6, x7]
            refine tk (i := 2) (v := ?_) rfl (Or.inl ⟨by rfl, ?_⟩) ?_
            rotate_left
            · intro Wq hSw
              clear hSw
              go_simp
              all_goals (with_reducible rfl)
            try simp only [Act.put, x2, x3, x4, x5, x6, x7]
            refine tk (i := 3) (v := ?_) rfl (Or.inl ⟨by rfl, ?_⟩) ?_
            rotate_left
            · intro Wq hSw
              clear hSw
              go_simp
              all_goals (with_reducible rfl)
            try simp only [Act.put, x2, x3, x4, x5, x6, x7]
            refine tk (i := 4) (v := ?_) rfl (Or.inl ⟨by rfl, ?_⟩) ?_
            rotate_left
            · intro Wq hSw
              obtain ⟨k0, k1, k2, k3⟩ := (id hSw).1 a ha2
              rw [HSA.out] at k0 k1 k2 k3
              clear hSw
              go_simp
              all_goals (with_reducible rfl)
            try simp only [Act.put, x2, x3, x4, x5, x6, x7]
            refine tk (i := 5) (v := ?_) rfl (Or.inl ⟨by rfl, ?_⟩) ?_
            rotate_left
            · intro Wq hSw
              clear hSw
              go_simp
              all_goals (with_reducible rfl)
            try simp only [Act.put, x2, x3, x4, x5, x6, x7]
            refine tk (i := 6) (v := ?_) rfl (Or.inl ⟨by rfl, ?_⟩) ?_
            rotate_left
            · intro Wq hSw
              clear hSw
              go_simp
              all_goals (with_reducible rfl)
            try simp only [Act.put, x2, x3, x4, x5, x6, x7]
            refine tk (i := 7) (v := ?_) rfl (Or.inl ⟨by rfl, ?_⟩) ?_
            rotate_left
            · intro Wq hSw
              clear hSw
              go_simp
              all_goals (with_reducible rfl)
            try simp only [Act.put, x2, x3, x4, x5, x6, x7]
            refine tk (i := 8) (v := ?_) rfl (Or.inl ⟨by rfl, ?_⟩) ?_
            rotate_left
            · intro Wq hSw
              clear hSw
              go_simp
              all_goals (with_reducible rfl)
            try simp only [Act.put, x2, x3, x4, x5, x6, x7]
            refine tk (i := 9) (v := ?_) rfl (Or.inl ⟨by rfl, ?_⟩) ?_
            rotate_left
            · intro Wq hSw
              obtain ⟨k0, k1, k2, k3⟩ := (id hSw).1 a ha2
              rw [HSA.out] at k0 k1 k2 k3
              clear hSw
              go_simp
              all_goals (with_reducible rfl)
            try simp only [Act.put, x2, x3, x4, x5, x6, x7]
            refine tk (i := 10) (v := ?_) rfl (Or.inl ⟨by rfl, ?_⟩) ?_
            rotate_left
            · intro Wq hSw
              clear hSw
              go_simp
              all_goals (with_reducible rfl)
            try simp only [Act.put, x2, x3, x4, x5, x6, x7]
            refine tk (i := 11) (v := ?_) rfl (Or.inl ⟨by rfl, ?_⟩) ?_
            rotate_left
            · intro Wq hSw
              clear hSw
              go_simp
              all_goals (with_reducible rfl)
            try simp only [Act.put, x2, x3, x4, x5, x6, x7]
            refine tk (i := 12) (v := ?_) rfl (Or.inl ⟨by rfl, ?_⟩) ?_
            rotate_left
            · intro Wq hSw
              clear hSw
              go_simp
              all_goals (with_reducible rfl)
            try simp only [Act.put, x2, x3, x4, x5, x6, x7]
            refine tk (i := 13) (v := ?_) rfl (Or.inl ⟨by rfl, ?_⟩) ?_
            rotate_left
            · intro Wq hSw
              clear hSw
              go_simp
              all_goals (with_reducible rfl)
            try simp only [Act.put, x2, x3, x4, x5, x6, x7]
            refine tk (i := 14) (v := ?_) rfl (Or.inl ⟨by rfl, ?_⟩) ?_
            rotate_left
            · intro Wq hSw
              obtain ⟨k0, k1, k2, k3⟩ := (id hSw).1 b hb2
              rw [HSB.out] at k0 k1 k2 k3
              clear hSw
              go_simp
              all_goals (with_reducible rfl)
            try simp only [Act.put, x2, x3, x4, x5, x6, x7]
            refine tk (i := 15) (v := ?_) rfl (Or.inl ⟨by rfl, ?_⟩) ?_
            rotate_left
            · intro Wq hSw
              clear hSw
              go_simp
              all_goals (with_reducible rfl)
            try simp only [Act.put, x2, x3, x4, x5, x6, x7]
            refine tk (i := 16) (v := ?_) rfl (Or.inl ⟨by rfl, ?_⟩) ?_
            rotate_left
            · intro Wq hSw
              clear hSw
              go_simp
              all_goals (with_reducible rfl)
            try simp only [Act.put, x2, x3, x4, x5, x6, x7]
            refine tk (i := 17) (v := ?_) rfl (Or.inl ⟨by rfl, ?_⟩) ?_
            rotate_left
            · intro Wq hSw
              clear hSw
              go_simp
              all_goals (with_reducible rfl)
            try simp only [Act.put, x2, x3, x4, x5, x6, x7]
            refine tk (i := 18) (v := ?_) rfl (Or.inl ⟨by rfl, ?_⟩) ?_
            rotate_left
            · intro Wq hSw
              clear hSw
              go_simp
              all_goals (with_reducible rfl)
            try simp only [Act.put, x2, x3, x4, x5, x6, x7]
            refine tk (i := 19) (v := ?_) rfl (Or.inl ⟨by rfl, ?_⟩) ?_
            rotate_left
            · intro Wq hSw
              obtain ⟨k0, k1, k2, k3⟩ := (id hSw).1 b hb2
              rw [HSB.out] at k0 k1 k2 k3
              clear hSw
              go_simp
              all_goals (with_reducible rfl)
            try simp only [Act.put, x2, x3, x4, x5, x6, x7]
            refine r1 (i := 20) rfl (fun K hK => ?_)
            go_simp
            go_at_call 47
            (with_reducible refine (CS.out _).mono ?_); rintro e w1 ⟨rfl, hb1⟩
            try dsimp only
            go_wp2_with fail
            refine hK.out _ _ ?_ (fun q2 => ?_)
            · exact ⟨(id q1).1.below hb1, (id q1).2.1.below hb1, (id q1).2.2.below hb1⟩
            clear hK K q1
            have q1 := q2
            clear q2
            try simp only [Act.put, x2, x3, x4, x5, x6, x7]
            try clear hb1
            refine tk (i := 21) (v := ?_) rfl (Or.inl ⟨by rfl, ?_⟩) ?_
            rotate_left
            · intro Wq hSw
              clear hSw
              go_simp
              all_goals (with_reducible rfl)
            try simp only [Act.put, x2, x3, x4, x5, x6, x7]
            refine tk (i := 22) (v := ?_) rfl (Or.inl ⟨by rfl, ?_⟩) ?_
            rotate_left
            · intro Wq hSw
              clear hSw
              go_simp
              all_goals (with_reducible rfl)
            try simp only [Act.put, x2, x3, x4, x5, x6, x7]
            refine tk (i := 23) (v := ?_) rfl (Or.inl ⟨by rfl, ?_⟩) ?_
            rotate_left
            · intro Wq hSw
              clear hSw
              go_simp
              all_goals (with_reducible rfl)
            try simp only [Act.put, x2, x3, x4, x5, x6, x7]
            refine tk (i := 24) (v := ?_) rfl (Or.inl ⟨by rfl, ?_⟩) ?_
            rotate_left
            · intro Wq hSw
              clear hSw
              go_simp
              all_goals (with_reducible rfl)
            try simp only [Act.put, x2, x3, x4, x5, x6, x7]
            refine tk (i := 25) (v := ?_) rfl (Or.inl ⟨by rfl, ?_⟩) ?_
            rotate_left
            · intro Wq hSw
              clear hSw
              go_simp
              all_goals (with_reducible rfl)
            try simp only [Act.put, x2, x3, x4, x5, x6, x7]
            refine wpAnyH_done (by kernel_rfl) ?_ _
            go_wp2_with fail
            go_meet
            case rel => exact ⟨rfl, id q1⟩
          case rest =>
          obtain ⟨rfl, hS⟩ := hcut
          clear HS0
          have HS0 := Lib.hid hS
          clear hS CS b5
          by_cases hz : 1 < z
          · have HY : Hid (badB sa sb = true) := by unfold Hid; rw [HZ.out]; exact decide_eq_true hz
            obtain ⟨m1, m2, m3, m4, m5, m6⟩ := num_facts hn hb
            go_wp2_with fail
            go_roundw
            case rel =>
              refine ⟨a, b, b + 1, true, by go_num, by go_num, rfl, by go_num, by omega, by omega, .inl ⟨rfl, .inl ⟨rfl, hab, hb2, ?_, ?_⟩⟩, HS0.out⟩
              · show badB (sget l a) (sget l b) = true
                rw [HSA.out, HSB.out]; exact HY.out
              · intro i k h1 h2 h3
                rcases HQ.out with ⟨h, -⟩ | ⟨-, -, -, h4, h5⟩
                · cases h
                · rcases h3 with h3 | ⟨rfl, h3⟩
                  · exact h4 i k h3 h1 h2
                  · exact h5 k h1 h3
            case measure => simp [intOf]; omega
          · have HY : Hid (badB sa sb = false) := by unfold Hid; rw [HZ.out]; exact decide_eq_false hz
            obtain ⟨m1, m2, m3, m4, m5, m6⟩ := num_facts hn hb
            go_wp2_with fail
            go_roundw
            case rel =>
              rcases HQ.out with ⟨h, -⟩ | ⟨-, h1, h2, h4, h5⟩
              · cases h
              · refine ⟨x, y, b + 1, false, rfl, rfl, rfl, by go_num, by omega, by omega, .inr ⟨rfl, h1, h2, h4, fun k h6 h7 => ?_⟩, HS0.out⟩
                rcases Nat.lt_or_ge k b with h8 | h8
                · exact h5 k h6 h8
                · obtain rfl : k = b := by omega
                  rw [HSA.out, HSB.out]; exact HY.out
            case measure => simp [intOf]; omega
        · have HE := Lib.hid (sofar2_end HQ.out (by
            cases is
            · right
              have : ¬ b < l.length := fun h => hgo ⟨h, rfl⟩
              omega
            · exact .inl rfl))
          have HX : Hid (∃ q : Bool, (decide ((b : Int) < (l.length : Int))) = q ∧ (q = true → is = true)) := ⟨_, rfl, fun h => by
            have h := of_decide_eq_true h
            cases is
            · exact absurd ⟨by omega, rfl⟩ hgo
            · rfl⟩
          clear hgo HQ
          obtain ⟨q, hq, hq2⟩ := HX.out
          clear HX
          cases q
          · have b4 : ((b : Int) < (l.length : Int)) = False := by simpa using hq
            clear hq hq2
            obtain ⟨u1, u2, u3, u4, -, -⟩ := num_facts hn ha
            go_wp2_with fail
            go_roundw
            case rel => exact ⟨x, y, a + 1, is, rfl, rfl, rfl, by go_num, by omega, HE.out, HS0.out⟩
            case measure => simp [intOf]; omega
          · have b4 : ((b : Int) < (l.length : Int)) = True := by simpa using hq
            obtain rfl := hq2 rfl
            clear hq hq2
            obtain ⟨u1, u2, u3, u4, -, -⟩ := num_facts hn ha
            go_wp2_with fail
            go_roundw
            case rel => exact ⟨x, y, a + 1, true, rfl, rfl, rfl, by go_num, by omega, HE.out, HS0.out⟩
            case measure => simp [intOf]; omega
    · have HE := Lib.hid (sofar_end HQ.out (by
        cases is
        · right
          have : ¬ a < l.length := fun h => hgo ⟨h, rfl⟩
          omega
        · exact .inl rfl))
      have HX : Hid (∃ q : Bool, (decide ((a : Int) < (l.length : Int))) = q ∧ (q = true → is = true)) := ⟨_, rfl, fun h => by
        have h := of_decide_eq_true h
        cases is
        · exact absurd ⟨by omega, rfl⟩ hgo
        · rfl⟩
      clear hgo HQ
      go_upto_region 10 with (fail)
      go_cut [35] (fun tv W => tv = .bool false ∧ (fun W => SgsAt W g o l ∧ SgsAt W g2 0 l ∧ Grew w 0 W) W)
      case first =>
        obtain ⟨q, hq, hq2⟩ := HX.out
        cases q
        · have b4 : ((a : Int) < (l.length : Int)) = False := by simpa using hq
          clear hq hq2
          go_wp2_with fail
          go_meet
          case rel => exact ⟨rfl, HS0.out⟩
        · have b4 : ((a : Int) < (l.length : Int)) = True := by simpa using hq
          obtain rfl := hq2 rfl
          clear hq hq2
          go_wp2_with fail
          go_meet
          case rel => exact ⟨rfl, HS0.out⟩
      case rest =>
      obtain ⟨rfl, hS⟩ := hcut
      clear HS0 HX
      have HS0 := Lib.hid hS
      clear hS ha
      go_wp2_with fail
      go_loopw [7, 8, 9, 14] (fun xv yv bv av W => ∃ (x' y' a : Nat) (is' : Bool), xv = .int .i64 x' ∧ yv = .int .i64 y' ∧ bv = .bool is' ∧ av = .int .i64 a ∧ a ≤ l.length ∧ Sofar3 l x y is a x' y' is' ∧ (fun W => SgsAt W g o l ∧ SgsAt W g2 0 l ∧ Grew w 0 W) W) (fun _ _ _ av _ => l.length - (intOf av).toNat)
      case atStart => exact ⟨x, y, 0, is, rfl, rfl, rfl, rfl, by omega, .inl ⟨fun j h => absurd h (by omega), rfl, rfl, rfl⟩, HS0.out⟩
      case round =>
        obtain ⟨x', y', a, is', rfl, rfl, rfl, rfl, ha, hQ, hS⟩ := hrel
        clear HS0
        have HQ := Lib.hid hQ
        have HS0 : Hid ((fun W => SgsAt W g o l ∧ SgsAt W g2 0 l ∧ Grew w 0 W) _) := hS
        clear hQ hS
        by_cases ha2 : a < l.length
        · have b4 : ((a : Int) < (l.length : Int)) = True := by simp; omega
          obtain ⟨sa, hsa⟩ : ∃ s, sget l a = s := ⟨_, rfl⟩
          have HSA := Lib.hid hsa
          clear hsa
          have FA := Lib.hid (fun W => refFits_l sa.a W)
          have FB := Lib.hid (fun W => refFits_l sa.b W)
          have EQ := eqPt' sa.a sa.b
          have EE : ∀ w, (Op.equalIn 10000 61 (.agg #[.int .i64 sa.a.x, .int .i64 sa.a.y, .int .i64 sa.b.x, .int .i64 sa.b.y]) (.agg #[.int .i64 sa.a.x, .int .i64 sa.a.y, .int .i64 sa.b.x, .int .i64 sa.b.y])).run Try.prog w = .ok true w := fun w => by rw [eqSeg]; simp [eqB]
          have EE := Lib.hid EE
          have HO := Lib.hid (ok_is sa)
          go_upto_region 23 with (fail)
          go_cut [112] (fun tv W => tv = .bool (!(okB sa)) ∧ (fun W => SgsAt W g o l ∧ SgsAt W g2 0 l ∧ Grew w 0 W) W)
          case first =>
            clear HQ HE HF K EE
            have ho := HO.out
            clear HO
            generalize okB sa = ok at *
            generalize eqB sa.a sa.b = e1 at *
            generalize fitB sa.a = fa at *
            generalize fitB sa.b = fb at *
            cases e1
            · cases fa
              · obtain rfl : ok = false := by rw [ho]; rfl
                clear ho
                refine wp_region_held_drew (S := fun W => SgsAt W g o l ∧ SgsAt W g2 0 l ∧ Grew w 0 W) (by kernel_rfl) ?_ (fun q1 => ?_)
                · exact ⟨HS0.out.1.below (bel_drew _), HS0.out.2.1.below (bel_drew _), HS0.out.2.2.below (bel_drew _)⟩
                revert q1
                generalize World.drew _ = W1
                intro q1
                refine tk (i := 0) (v := ?_) rfl (Or.inl ⟨by rfl, ?_⟩) ?_
                rotate_left
                · intro Wq hSw
                  clear hSw
                  go_simp
                  all_goals (with_reducible rfl)
                try simp only [Act.put, x2, x4, x5, x6, x7]
                refine tk (i := 1) (v := ?_) rfl (Or.inl ⟨by rfl, ?_⟩) ?_
                rotate_left
                · intro Wq hSw
                  clear hSw
                  go_simp
                  all_goals (with_reducible rfl)
                try simp only [Act.put, x2, x3, x4, x5, x6, x7]
                refine tk (i := 2) (v := ?_) rfl (Or.inl ⟨by rfl, ?_⟩) ?_
                rotate_left
                · intro Wq hSw
                  clear hSw
                  go_simp
                  all_goals (with_reducible rfl)
                try simp only [Act.put, x2, x3, x4, x5, x6, x7]
                refine tk (i := 3) (v := ?_) rfl (Or.inl ⟨by rfl, ?_⟩) ?_
                rotate_left
                · intro Wq hSw
                  clear hSw
                  go_simp
                  all_goals (with_reducible rfl)
                try simp only [Act.put, x2, x3, x4, x5, x6, x7]
                refine tk (i := 4) (v := ?_) rfl (Or.inl ⟨by rfl, ?_⟩) ?_
                rotate_left
                · intro Wq hSw
                  obtain ⟨k0, k1, k2, k3⟩ := (id hSw).1 a ha2
                  rw [HSA.out] at k0 k1 k2 k3
                  clear hSw
                  go_simp
                  all_goals (with_reducible rfl)
                try simp only [Act.put, x2, x3, x4, x5, x6, x7]
                refine tk (i := 5) (v := ?_) rfl (Or.inl ⟨by rfl, ?_⟩) ?_
                rotate_left
                · intro Wq hSw
                  clear hSw
                  go_simp
                  all_goals (with_reducible rfl)
                try simp only [Act.put, x2, x3, x4, x5, x6, x7]
                refine tk (i := 6) (v := ?_) rfl (Or.inl ⟨by rfl, ?_⟩) ?_
                rotate_left
                · intro Wq hSw
                  clear hSw
                  go_simp
                  all_goals (with_reducible rfl)
                try simp only [Act.put, x2, x3, x4, x5, x6, x7]
                refine tk (i := 7) (v := ?_) rfl (Or.inl ⟨by rfl, ?_⟩) ?_
                rotate_left
                · intro Wq hSw
                  clear hSw
                  go_simp
                  all_goals (with_reducible rfl)
                try simp only [Act.put, x2, x3, x4, x5, x6, x7]
                refine tk (i := 8) (v := ?_) rfl (Or.inl ⟨by rfl, ?_⟩) ?_
                rotate_left
                · intro Wq hSw
                  clear hSw
                  go_simp
                  all_goals (with_reducible rfl)
                try simp only [Act.put, x2, x3, x4, x5, x6, x7]
                refine tk (i := 9) (v := ?_) rfl (Or.inl ⟨by rfl, ?_⟩) ?_
                rotate_left
                · intro Wq hSw
                  obtain ⟨k0, k1, k2, k3⟩ := (id hSw).1 a ha2
                  rw [HSA.out] at k0 k1 k2 k3
                  clear hSw
                  go_simp
                  all_goals (with_reducible rfl)
                try simp only [Act.put, x2, x3, x4, x5, x6, x7]
                refine tk (i := 10) (v := ?_) rfl (Or.inl ⟨by rfl, ?_⟩) ?_
                rotate_left
                · intro Wq hSw
                  clear hSw
                  go_simp
                  all_goals (with_reducible rfl)
                try simp only [Act.put, x2, x3, x4, x5, x6, x7]
                refine tk (i := 11) (v := ?_) rfl (Or.inl ⟨by rfl, ?_⟩) ?_
                rotate_left
                · intro Wq hSw
                  clear hSw
                  go_simp
                  all_goals (with_reducible rfl)
                try simp only [Act.put, x2, x3, x4, x5, x6, x7]
                refine tk (i := 12) (v := ?_) rfl (Or.inl ⟨by rfl, ?_⟩) ?_
                rotate_left
                · intro Wq hSw
                  clear hSw
                  go_simp
                  all_goals (with_reducible rfl)
                try simp only [Act.put, x2, x3, x4, x5, x6, x7]
                refine tk (i := 13) (v := ?_) rfl (Or.inl ⟨by rfl, ?_⟩) ?_
                rotate_left
                · intro Wq hSw
                  clear hSw
                  go_simp
                  all_goals (with_reducible rfl)
                try simp only [Act.put, x2, x3, x4, x5, x6, x7]
                refine tk (i := 14) (v := ?_) rfl (Or.inl ⟨by rfl, ?_⟩) ?_
                rotate_left
                · intro Wq hSw
                  clear hSw
                  go_simp
                  all_goals (with_reducible rfl)
                try simp only [Act.put, x2, x3, x4, x5, x6, x7]
                refine tk (i := 15) (v := ?_) rfl (Or.inl ⟨by rfl, ?_⟩) ?_
                rotate_left
                · intro Wq hSw
                  clear hSw
                  go_simp
                  all_goals (with_reducible rfl)
                try simp only [Act.put, x2, x3, x4, x5, x6, x7]
                refine tk (i := 16) (v := ?_) rfl (Or.inl ⟨by rfl, ?_⟩) ?_
                rotate_left
                · intro Wq hSw
                  obtain ⟨k0, k1, k2, k3⟩ := (id hSw).1 a ha2
                  rw [HSA.out] at k0 k1 k2 k3
                  clear hSw
                  go_simp
                  all_goals (with_reducible rfl)
                try simp only [Act.put, x2, x3, x4, x5, x6, x7]
                refine r1 (i := 17) rfl (fun K hK => ?_)
                go_simp
                go_at_call 33
                (with_reducible refine (FA.out _).mono ?_); rintro e w1 ⟨rfl, hb1⟩
                go_wp2_with fail
                refine hK.out _ _ ?_ (fun q2 => ?_)
                · exact ⟨(id q1).1.below hb1, (id q1).2.1.below hb1, (id q1).2.2.below hb1⟩
                clear hK K q1
                have q1 := q2
                clear q2
                try simp only [Act.put, x2, x3, x4, x5, x6, x7]
                try clear hb1
                refine tk (i := 18) (v := ?_) rfl (Or.inl ⟨by rfl, ?_⟩) ?_
                rotate_left
                · intro Wq hSw
                  clear hSw
                  go_simp
                  all_goals (with_reducible rfl)
                try simp only [Act.put, x2, x3, x4, x5, x6, x7]
                refine tk (i := 19) (v := ?_) rfl (Or.inl ⟨by rfl, ?_⟩) ?_
                rotate_left
                · intro Wq hSw
                  clear hSw
                  go_simp
                  all_goals (with_reducible rfl)
                try simp only [Act.put, x2, x3, x4, x5, x6, x7]
                refine tk (i := 20) (v := ?_) rfl (Or.inl ⟨by rfl, ?_⟩) ?_
                rotate_left
                · intro Wq hSw
                  clear hSw
                  go_simp
                  all_goals (with_reducible rfl)
                try simp only [Act.put, x2, x3, x4, x5, x6, x7]
                refine tk (i := 21) (v := _) rfl (Or.inr ⟨by rfl, rfl⟩) ?_
                try simp only [Act.put, x2, x3, x4, x5, x6, x7]
                refine tk (i := 22) (v := _) rfl (Or.inr ⟨by rfl, rfl⟩) ?_
                try simp only [Act.put, x2, x3, x4, x5, x6, x7]
                refine tk (i := 23) (v := _) rfl (Or.inr ⟨by rfl, rfl⟩) ?_
                try simp only [Act.put, x2, x3, x4, x5, x6, x7]
                refine tk (i := 24) (v := _) rfl (Or.inr ⟨by rfl, rfl⟩) ?_
                try simp only [Act.put, x2, x3, x4, x5, x6, x7]
                refine tk (i := 25) (v := _) rfl (Or.inr ⟨by rfl, rfl⟩) ?_
                try simp only [Act.put, x2, x3, x4, x5, x6, x7]
                refine tk (i := 26) (v := _) rfl (Or.inr ⟨by rfl, rfl⟩) ?_
                try simp only [Act.put, x2, x3, x4, x5, x6, x7]
                refine tk (i := 27) (v := _) rfl (Or.inr ⟨by rfl, rfl⟩) ?_
                try simp only [Act.put, x2, x3, x4, x5, x6, x7]
                refine tk (i := 28) (v := ?_) rfl (Or.inl ⟨by rfl, ?_⟩) ?_
                rotate_left
                · intro Wq hSw
                  clear hSw
                  go_simp
                  all_goals (with_reducible rfl)
                try simp only [Act.put, x2, x3, x4, x5, x6, x7]
                refine wpAnyH_done (by kernel_rfl) ?_ _
                go_wp2_with fail
                go_meet
                case rel => exact ⟨rfl, id q1⟩
              · obtain rfl : ok = fb := by rw [ho]; simp
                clear ho
                refine wp_region_held_drew (S := fun W => SgsAt W g o l ∧ SgsAt W g2 0 l ∧ Grew w 0 W) (by kernel_rfl) ?_ (fun q1 => ?_)
                · exact ⟨HS0.out.1.below (bel_drew _), HS0.out.2.1.below (bel_drew _), HS0.out.2.2.below (bel_drew _)⟩
                revert q1
                generalize World.drew _ = W1
                intro q1
                refine tk (i := 0) (v := ?_) rfl (Or.inl ⟨by rfl, ?_⟩) ?_
                rotate_left
                · intro Wq hSw
                  clear hSw
                  go_simp
                  all_goals (with_reducible rfl)
                try simp only [Act.put, x2, x4, x5, x6, x7]
                refine tk (i := 1) (v := ?_) rfl (Or.inl ⟨by rfl, ?_⟩) ?_
                rotate_left
                · intro Wq hSw
                  clear hSw
                  go_simp
                  all_goals (with_reducible rfl)
                try simp only [Act.put, x2, x3, x4, x5, x6, x7]
                refine tk (i := 2) (v := ?_) rfl (Or.inl ⟨by rfl, ?_⟩) ?_
                rotate_left
                · intro Wq hSw
                  clear hSw
                  go_simp
                  all_goals (with_reducible rfl)
                try simp only [Act.put, x2, x3, x4, x5, x6, x7]
                refine tk (i := 3) (v := ?_) rfl (Or.inl ⟨by rfl, ?_⟩) ?_
                rotate_left
                · intro Wq hSw
                  clear hSw
                  go_simp
                  all_goals (with_reducible rfl)
                try simp only [Act.put, x2, x3, x4, x5, x6, x7]
                refine tk (i := 4) (v := ?_) rfl (Or.inl ⟨by rfl, ?_⟩) ?_
                rotate_left
                · intro Wq hSw
                  obtain ⟨k0, k1, k2, k3⟩ := (id hSw).1 a ha2
                  rw [HSA.out] at k0 k1 k2 k3
                  clear hSw
                  go_simp
                  all_goals (with_reducible rfl)
                try simp only [Act.put, x2, x3, x4, x5, x6, x7]
                refine tk (i := 5) (v := ?_) rfl (Or.inl ⟨by rfl, ?_⟩) ?_
                rotate_left
                · intro Wq hSw
                  clear hSw
                  go_simp
                  all_goals (with_reducible rfl)
                try simp only [Act.put, x2, x3, x4, x5, x6, x7]
                refine tk (i := 6) (v := ?_) rfl (Or.inl ⟨by rfl, ?_⟩) ?_
                rotate_left
                · intro Wq hSw
                  clear hSw
                  go_simp
                  all_goals (with_reducible rfl)
                try simp only [Act.put, x2, x3, x4, x5, x6, x7]
                refine tk (i := 7) (v := ?_) rfl (Or.inl ⟨by rfl, ?_⟩) ?_
                rotate_left
                · intro Wq hSw
                  clear hSw
                  go_simp
                  all_goals (with_reducible rfl)
                try simp only [Act.put, x2, x3, x4, x5, x6, x7]
                refine tk (i := 8) (v := ?_) rfl (Or.inl ⟨by rfl, ?_⟩) ?_
                rotate_left
                · intro Wq hSw
                  clear hSw
                  go_simp
                  all_goals (with_reducible rfl)
                try simp only [Act.put, x2, x3, x4, x5, x6, x7]
                refine tk (i := 9) (v := ?_) rfl (Or.inl ⟨by rfl, ?_⟩) ?_
                rotate_left
                · intro Wq hSw
                  obtain ⟨k0, k1, k2, k3⟩ := (id hSw).1 a ha2
                  rw [HSA.out] at k0 k1 k2 k3
                  clear hSw
                  go_simp
                  all_goals (with_reducible rfl)
                try simp only [Act.put, x2, x3, x4, x5, x6, x7]
                refine tk (i := 10) (v := ?_) rfl (Or.inl ⟨by rfl, ?_⟩) ?_
                rotate_left
                · intro Wq hSw
                  clear hSw
                  go_simp
                  all_goals (with_reducible rfl)
                try simp only [Act.put, x2, x3, x4, x5, x6, x7]
                refine tk (i := 11) (v := ?_) rfl (Or.inl ⟨by rfl, ?_⟩) ?_
                rotate_left
                · intro Wq hSw
                  clear hSw
                  go_simp
                  all_goals (with_reducible rfl)
                try simp only [Act.put, x2, x3, x4, x5, x6, x7]
                refine tk (i := 12) (v := ?_) rfl (Or.inl ⟨by rfl, ?_⟩) ?_
                rotate_left
                · intro Wq hSw
                  clear hSw
                  go_simp
                  all_goals (with_reducible rfl)
                try simp only [Act.put, x2, x3, x4, x5, x6, x7]
                refine tk (i := 13) (v := ?_) rfl (Or.inl ⟨by rfl, ?_⟩) ?_
                rotate_left
                · intro Wq hSw
                  clear hSw
                  go_simp
                  all_goals (with_reducible rfl)
                try simp only [Act.put, x2, x3, x4, x5, x6, x7]
                refine tk (i := 14) (v := ?_) rfl (Or.inl ⟨by rfl, ?_⟩) ?_
                rotate_left
                · intro Wq hSw
                  clear hSw
                  go_simp
                  all_goals (with_reducible rfl)
                try simp only [Act.put, x2, x3, x4, x5, x6, x7]
                refine tk (i := 15) (v := ?_) rfl (Or.inl ⟨by rfl, ?_⟩) ?_
                rotate_left
                · intro Wq hSw
                  clear hSw
                  go_simp
                  all_goals (with_reducible rfl)
                try simp only [Act.put, x2, x3, x4, x5, x6, x7]
                refine tk (i := 16) (v := ?_) rfl (Or.inl ⟨by rfl, ?_⟩) ?_
                rotate_left
                · intro Wq hSw
                  obtain ⟨k0, k1, k2, k3⟩ := (id hSw).1 a ha2
                  rw [HSA.out] at k0 k1 k2 k3
                  clear hSw
                  go_simp
                  all_goals (with_reducible rfl)
                try simp only [Act.put, x2, x3, x4, x5, x6, x7]
                refine r1 (i := 17) rfl (fun K hK => ?_)
                go_simp
                go_at_call 33
                (with_reducible refine (FA.out _).mono ?_); rintro e w1 ⟨rfl, hb1⟩
                go_wp2_with fail
                refine hK.out _ _ ?_ (fun q2 => ?_)
                · exact ⟨(id q1).1.below hb1, (id q1).2.1.below hb1, (id q1).2.2.below hb1⟩
                clear hK K q1
                have q1 := q2
                clear q2
                try simp only [Act.put, x2, x3, x4, x5, x6, x7]
                try clear hb1
                refine tk (i := 18) (v := ?_) rfl (Or.inl ⟨by rfl, ?_⟩) ?_
                rotate_left
                · intro Wq hSw
                  clear hSw
                  go_simp
                  all_goals (with_reducible rfl)
                try simp only [Act.put, x2, x3, x4, x5, x6, x7]
                refine tk (i := 19) (v := ?_) rfl (Or.inl ⟨by rfl, ?_⟩) ?_
                rotate_left
                · intro Wq hSw
                  clear hSw
                  go_simp
                  all_goals (with_reducible rfl)
                try simp only [Act.put, x2, x3, x4, x5, x6, x7]
                refine tk (i := 20) (v := ?_) rfl (Or.inl ⟨by rfl, ?_⟩) ?_
                rotate_left
                · intro Wq hSw
                  clear hSw
                  go_simp
                  all_goals (with_reducible rfl)
                try simp only [Act.put, x2, x3, x4, x5, x6, x7]
                refine tk (i := 21) (v := ?_) rfl (Or.inl ⟨by rfl, ?_⟩) ?_
                rotate_left
                · intro Wq hSw
                  clear hSw
                  go_simp
                  all_goals (with_reducible rfl)
                try simp only [Act.put, x2, x3, x4, x5, x6, x7]
                refine tk (i := 22) (v := ?_) rfl (Or.inl ⟨by rfl, ?_⟩) ?_
                rotate_left
                · intro Wq hSw
                  clear hSw
                  go_simp
                  all_goals (with_reducible rfl)
                try simp only [Act.put, x2, x3, x4, x5, x6, x7]
                refine tk (i := 23) (v := ?_) rfl (Or.inl ⟨by rfl, ?_⟩) ?_
                rotate_left
                · intro Wq hSw
                  clear hSw
                  go_simp
                  all_goals (with_reducible rfl)
                try simp only [Act.put, x2, x3, x4, x5, x6, x7]
                refine tk (i := 24) (v := ?_) rfl (Or.inl ⟨by rfl, ?_⟩) ?_
                rotate_left
                · intro Wq hSw
                  clear hSw
                  go_simp
                  all_goals (with_reducible rfl)
                try simp only [Act.put, x2, x3, x4, x5, x6, x7]
                refine tk (i := 25) (v := ?_) rfl (Or.inl ⟨by rfl, ?_⟩) ?_
                rotate_left
                · intro Wq hSw
                  obtain ⟨k0, k1, k2, k3⟩ := (id hSw).1 a ha2
                  rw [HSA.out] at k0 k1 k2 k3
                  clear hSw
                  go_simp
                  all_goals (with_reducible rfl)
                try simp only [Act.put, x2, x3, x4, x5, x6, x7]
                refine r1 (i := 26) rfl (fun K hK => ?_)
                go_simp
                go_at_call 33
                (with_reducible refine (FB.out _).mono ?_); rintro e w1 ⟨rfl, hb1⟩
                go_wp2_with fail
                refine hK.out _ _ ?_ (fun q2 => ?_)
                · exact ⟨(id q1).1.below hb1, (id q1).2.1.below hb1, (id q1).2.2.below hb1⟩
                clear hK K q1
                have q1 := q2
                clear q2
                try simp only [Act.put, x2, x3, x4, x5, x6, x7]
                try clear hb1
                refine tk (i := 27) (v := ?_) rfl (Or.inl ⟨by rfl, ?_⟩) ?_
                rotate_left
                · intro Wq hSw
                  clear hSw
                  go_simp
                  all_goals (with_reducible rfl)
                try simp only [Act.put, x2, x3, x4, x5, x6, x7]
                refine tk (i := 28) (v := ?_) rfl (Or.inl ⟨by rfl, ?_⟩) ?_
                rotate_left
                · intro Wq hSw
                  clear hSw
                  go_simp
                  all_goals (with_reducible rfl)
                try simp only [Act.put, x2, x3, x4, x5, x6, x7]
                refine wpAnyH_done (by kernel_rfl) ?_ _
                go_wp2_with fail
                go_meet
                case rel => exact ⟨rfl, id q1⟩
            · obtain rfl : ok = false := by rw [ho]; rfl
              clear ho
              refine wp_region_held_drew (S := fun W => SgsAt W g o l ∧ SgsAt W g2 0 l ∧ Grew w 0 W) (by kernel_rfl) ?_ (fun q1 => ?_)
              · exact ⟨HS0.out.1.below (bel_drew _), HS0.out.2.1.below (bel_drew _), HS0.out.2.2.below (bel_drew _)⟩
              revert q1
              generalize World.drew _ = W1
              intro q1
              refine tk (i := 0) (v := ?_) rfl (Or.inl ⟨by rfl, ?_⟩) ?_
              rotate_left
              · intro Wq hSw
                clear hSw
                go_simp
                all_goals (with_reducible rfl)
              try simp only [Act.put, x2, x4, x5, x6, x7]
              refine tk (i := 1) (v := ?_) rfl (Or.inl ⟨by rfl, ?_⟩) ?_
              rotate_left
              · intro Wq hSw
                clear hSw
                go_simp
                all_goals (with_reducible rfl)
              try simp only [Act.put, x2, x3, x4, x5, x6, x7]
              refine tk (i := 2) (v := ?_) rfl (Or.inl ⟨by rfl, ?_⟩) ?_
              rotate_left
              · intro Wq hSw
                clear hSw
                go_simp
                all_goals (with_reducible rfl)
              try simp only [Act.put, x2, x3, x4, x5, x6, x7]
              refine tk (i := 3) (v := ?_) rfl (Or.inl ⟨by rfl, ?_⟩) ?_
              rotate_left
              · intro Wq hSw
                clear hSw
                go_simp
                all_goals (with_reducible rfl)
              try simp only [Act.put, x2, x3, x4, x5, x6, x7]
              refine tk (i := 4) (v := ?_) rfl (Or.inl ⟨by rfl, ?_⟩) ?_
              rotate_left
              · intro Wq hSw
                obtain ⟨k0, k1, k2, k3⟩ := (id hSw).1 a ha2
                rw [HSA.out] at k0 k1 k2 k3
                clear hSw
                go_simp
                all_goals (with_reducible rfl)
              try simp only [Act.put, x2, x3, x4, x5, x6, x7]
              refine tk (i := 5) (v := ?_) rfl (Or.inl ⟨by rfl, ?_⟩) ?_
              rotate_left
              · intro Wq hSw
                clear hSw
                go_simp
                all_goals (with_reducible rfl)
              try simp only [Act.put, x2, x3, x4, x5, x6, x7]
              refine tk (i := 6) (v := ?_) rfl (Or.inl ⟨by rfl, ?_⟩) ?_
              rotate_left
              · intro Wq hSw
                clear hSw
                go_simp
                all_goals (with_reducible rfl)
              try simp only [Act.put, x2, x3, x4, x5, x6, x7]
              refine tk (i := 7) (v := ?_) rfl (Or.inl ⟨by rfl, ?_⟩) ?_
              rotate_left
              · intro Wq hSw
                clear hSw
                go_simp
                all_goals (with_reducible rfl)
              try simp only [Act.put, x2, x3, x4, x5, x6, x7]
              refine tk (i := 8) (v := ?_) rfl (Or.inl ⟨by rfl, ?_⟩) ?_
              rotate_left
              · intro Wq hSw
                clear hSw
                go_simp
                all_goals (with_reducible rfl)
              try simp only [Act.put, x2, x3, x4, x5, x6, x7]
              refine tk (i := 9) (v := ?_) rfl (Or.inl ⟨by rfl, ?_⟩) ?_
              rotate_left
              · intro Wq hSw
                obtain ⟨k0, k1, k2, k3⟩ := (id hSw).1 a ha2
                rw [HSA.out] at k0 k1 k2 k3
                clear hSw
                go_simp
                all_goals (with_reducible rfl)
              try simp only [Act.put, x2, x3, x4, x5, x6, x7]
              refine tk (i := 10) (v := ?_) rfl (Or.inl ⟨by rfl, ?_⟩) ?_
              rotate_left
              · intro Wq hSw
                clear hSw
                go_simp
                all_goals (with_reducible rfl)
              try simp only [Act.put, x2, x3, x4, x5, x6, x7]
              refine tk (i := 11) (v := ?_) rfl (Or.inl ⟨by rfl, ?_⟩) ?_
              rotate_left
              · intro Wq hSw
                clear hSw
                go_simp
                all_goals (with_reducible rfl)
              try simp only [Act.put, x2, x3, x4, x5, x6, x7]
              refine tk (i := 12) (v := _) rfl (Or.inr ⟨by rfl, rfl⟩) ?_
              try simp only [Act.put, x2, x3, x4, x5, x6, x7]
              refine tk (i := 13) (v := _) rfl (Or.inr ⟨by rfl, rfl⟩) ?_
              try simp only [Act.put, x2, x3, x4, x5, x6, x7]
              refine tk (i := 14) (v := _) rfl (Or.inr ⟨by rfl, rfl⟩) ?_
              try simp only [Act.put, x2, x3, x4, x5, x6, x7]
              refine tk (i := 15) (v := _) rfl (Or.inr ⟨by rfl, rfl⟩) ?_
              try simp only [Act.put, x2, x3, x4, x5, x6, x7]
              refine tk (i := 16) (v := _) rfl (Or.inr ⟨by rfl, rfl⟩) ?_
              try simp only [Act.put, x2, x3, x4, x5, x6, x7]
              refine tk (i := 17) (v := _) rfl (Or.inr ⟨by rfl, rfl⟩) ?_
              try simp only [Act.put, x2, x3, x4, x5, x6, x7]
              refine tk (i := 18) (v := _) rfl (Or.inr ⟨by rfl, rfl⟩) ?_
              try simp only [Act.put, x2, x3, x4, x5, x6, x7]
              refine tk (i := 19) (v := ?_) rfl (Or.inl ⟨by rfl, ?_⟩) ?_
              rotate_left
              · intro Wq hSw
                clear hSw
                go_simp
                all_goals (with_reducible rfl)
              try simp only [Act.put, x2, x3, x4, x5, x6, x7]
              refine tk (i := 20) (v := ?_) rfl (Or.inl ⟨by rfl, ?_⟩) ?_
              rotate_left
              · intro Wq hSw
                clear hSw
                go_simp
                all_goals (with_reducible rfl)
              try simp only [Act.put, x2, x3, x4, x5, x6, x7]
              refine tk (i := 21) (v := _) rfl (Or.inr ⟨by rfl, rfl⟩) ?_
              try simp only [Act.put, x2, x3, x4, x5, x6, x7]
              refine tk (i := 22) (v := _) rfl (Or.inr ⟨by rfl, rfl⟩) ?_
              try simp only [Act.put, x2, x3, x4, x5, x6, x7]
              refine tk (i := 23) (v := _) rfl (Or.inr ⟨by rfl, rfl⟩) ?_
              try simp only [Act.put, x2, x3, x4, x5, x6, x7]
              refine tk (i := 24) (v := _) rfl (Or.inr ⟨by rfl, rfl⟩) ?_
              try simp only [Act.put, x2, x3, x4, x5, x6, x7]
              refine tk (i := 25) (v := _) rfl (Or.inr ⟨by rfl, rfl⟩) ?_
              try simp only [Act.put, x2, x3, x4, x5, x6, x7]
              refine tk (i := 26) (v := _) rfl (Or.inr ⟨by rfl, rfl⟩) ?_
              try simp only [Act.put, x2, x3, x4, x5, x6, x7]
              refine tk (i := 27) (v := _) rfl (Or.inr ⟨by rfl, rfl⟩) ?_
              try simp only [Act.put, x2, x3, x4, x5, x6, x7]
              refine tk (i := 28) (v := ?_) rfl (Or.inl ⟨by rfl, ?_⟩) ?_
              rotate_left
              · intro Wq hSw
                clear hSw
                go_simp
                all_goals (with_reducible rfl)
              try simp only [Act.put, x2, x3, x4, x5, x6, x7]
              refine wpAnyH_done (by kernel_rfl) ?_ _
              go_wp2_with fail
              go_meet
              case rel => exact ⟨rfl, id q1⟩
          case rest =>
          obtain ⟨rfl, hS⟩ := hcut
          clear HS0 FA FB EQ HO
          have HS0 := Lib.hid hS
          clear hS
          obtain ⟨ok, hok⟩ : ∃ ok, okB sa = ok := ⟨_, rfl⟩
          have HK := Lib.hid hok
          rw [hok]
          clear hok
          have HN : Hid (∃ (x2 y2 : Nat) (is2 : Bool), (x2 = if ok then x' else 0) ∧ (y2 = if ok then y' else 0) ∧ (is2 = if ok then is' else false) ∧ Sofar3 l x y is (a + 1) x2 y2 is2) := by
            refine ⟨_, _, _, rfl, rfl, rfl, ?_⟩
            cases ok
            · exact .inr ⟨⟨a, by omega, by rw [HSA.out]; exact HK.out⟩, rfl, rfl, rfl⟩
            · rcases HQ.out with ⟨h1, h2, h3, h4⟩ | ⟨⟨j, h1, h5⟩, h2, h3, h4⟩
              · refine .inl ⟨fun j hj => ?_, h2, h3, h4⟩
                rcases Nat.lt_or_ge j a with h | h
                · exact h1 j h
                · obtain rfl : j = a := by omega
                  rw [HSA.out]; exact HK.out
              · exact .inr ⟨⟨j, by omega, h5⟩, h2, h3, h4⟩
          obtain ⟨x2, y2, is2, hx2, hy2, his2, hs2⟩ := HN.out
          have HQ2 := Lib.hid hs2
          clear HN HQ hs2
          go_upto_if 112 with (fail)
          go_cut [7, 8, 9] (fun xv yv bv W => xv = .int .i64 x2 ∧ yv = .int .i64 y2 ∧ bv = .bool is2 ∧ (fun W => SgsAt W g o l ∧ SgsAt W g2 0 l ∧ Grew w 0 W) W)
          case first =>
            cases ok
            · simp only [Bool.false_eq_true, if_false] at hx2 hy2 his2
              subst hx2 hy2 his2
              go_wp2_with fail
              go_meet
              case rel => exact ⟨rfl, rfl, rfl, HS0.out⟩
            · simp only [if_true] at hx2 hy2 his2
              subst hx2 hy2 his2
              go_wp2_with fail
              go_meet
              case rel => exact ⟨rfl, rfl, rfl, HS0.out⟩
          case rest =>
          obtain ⟨rfl, rfl, rfl, hS⟩ := hcut
          clear HS0 hx2 hy2 his2
          have HS0 := Lib.hid hS
          clear hS
          go_upto_region 27 with (fail)
          go_cut [121] (fun tv W => tv = .bool false ∧ (fun W => SgsAt W g o l ∧ SgsAt W g2 0 l ∧ Grew w 0 W) W)
          case first =>
            clear HQ2 HE HF K HK
            have e2 := EE.out
            clear EE
            refine wp_region_held_drew (S := fun W => SgsAt W g o l ∧ SgsAt W g2 0 l ∧ Grew w 0 W) (by kernel_rfl) ?_ (fun q1 => ?_)
            · exact ⟨HS0.out.1.below (bel_drew _), HS0.out.2.1.below (bel_drew _), HS0.out.2.2.below (bel_drew _)⟩
            revert q1
            generalize World.drew _ = W1
            intro q1
            refine tk (i := 0) (v := ?_) rfl (Or.inl ⟨by rfl, ?_⟩) ?_
            rotate_left
            · intro Wq hSw
              clear hSw
              go_simp
              all_goals (with_reducible rfl)
            try simp only [Act.put, x2, x4, x5, x6, x7]
            refine tk (i := 1) (v := ?_) rfl (Or.inl ⟨by rfl, ?_⟩) ?_
            rotate_left
            · intro Wq hSw
              clear hSw
              go_simp
              all_goals (with_reducible rfl)
            try simp only [Act.put, x2, x3, x4, x5, x6, x7]
            refine tk (i := 2) (v := ?_) rfl (Or.inl ⟨by rfl, ?_⟩) ?_
            rotate_left
            · intro Wq hSw
              clear hSw
              go_simp
              all_goals (with_reducible rfl)
            try simp only [Act.put, x2, x3, x4, x5, x6, x7]
            refine tk (i := 3) (v := ?_) rfl (Or.inl ⟨by rfl, ?_⟩) ?_
            rotate_left
            · intro Wq hSw
              obtain ⟨k0, k1, k2, k3⟩ := (id hSw).2.1 a ha2
              rw [HSA.out] at k0 k1 k2 k3
              simp only [Nat.zero_add] at k0 k1 k2 k3
              clear hSw
              go_simp
              all_goals (with_reducible rfl)
            try simp only [Act.put, x2, x3, x4, x5, x6, x7]
            refine tk (i := 4) (v := ?_) rfl (Or.inl ⟨by rfl, ?_⟩) ?_
            rotate_left
            · intro Wq hSw
              clear hSw
              go_simp
              all_goals (with_reducible rfl)
            try simp only [Act.put, x2, x3, x4, x5, x6, x7]
            refine tk (i := 5) (v := ?_) rfl (Or.inl ⟨by rfl, ?_⟩) ?_
            rotate_left
            · intro Wq hSw
              clear hSw
              go_simp
              all_goals (with_reducible rfl)
            try simp only [Act.put, x2, x3, x4, x5, x6, x7]
            refine tk (i := 6) (v := ?_) rfl (Or.inl ⟨by rfl, ?_⟩) ?_
            rotate_left
            · intro Wq hSw
              clear hSw
              go_simp
              all_goals (with_reducible rfl)
            try simp only [Act.put, x2, x3, x4, x5, x6, x7]
            refine tk (i := 7) (v := ?_) rfl (Or.inl ⟨by rfl, ?_⟩) ?_
            rotate_left
            · intro Wq hSw
              obtain ⟨k0, k1, k2, k3⟩ := (id hSw).1 a ha2
              rw [HSA.out] at k0 k1 k2 k3
              clear hSw
              go_simp
              all_goals (with_reducible rfl)
            try simp only [Act.put, x2, x3, x4, x5, x6, x7]
            refine tk (i := 8) (v := ?_) rfl (Or.inl ⟨by rfl, ?_⟩) ?_
            rotate_left
            · intro Wq hSw
              clear hSw
              go_simp
              all_goals (with_reducible rfl)
            try simp only [Act.put, x2, x3, x4, x5, x6, x7]
            refine wpAnyH_done (by kernel_rfl) ?_ _
            go_wp2_with fail
            go_meet
            case rel => exact ⟨rfl, id q1⟩
          case rest =>
          obtain ⟨rfl, hS⟩ := hcut
          clear HS0
          have HS0 := Lib.hid hS
          clear hS
          obtain ⟨n1, n2, n3, n4, n5, n6⟩ := num_facts hn ha
          go_wp2_with fail
          go_roundw
          case rel => exact ⟨x2, y2, a + 1, is2, rfl, rfl, rfl, by go_num, by omega, HQ2.out, HS0.out⟩
          case measure => simp [intOf]; omega
        · obtain rfl : a = l.length := by omega
          have b4 : ((l.length : Int) < (l.length : Int)) = False := by simp
          obtain ⟨rfl, rfl, rfl⟩ := firstR_one HF.out (sofar3_end HE.out HQ.out)
          clear HQ HE HF
          go_wp2_with fail
          (with_reducible refine (K.out _).mono ?_); rintro e w3 ⟨rfl, hb1⟩
          have HG := Lib.hid (HS0.out.2.2.below hb1)
          clear HS0 hb1
          go_wp2
          go_ret
          exact ⟨rfl, HG.out.hb⟩

set_option maxHeartbeats 4000000 in
set_option maxRecDepth 100000 in
theorem firsts_zero (ad : Option Addr) (cap : Nat) (hz : ad = none → cap = 0) (w : World) : Calls Try.prog 14 #[.slice ad 0 cap] w (Gives (.bool true) w) := by
  have K := Lib.hid (fun W => known4_l W)
  obtain ⟨e0, hi0, hz0, hz1, hz2⟩ := info_parts info_seg
  go_enter Try.func14, Try.ntmps14
  go_upto_region 4 with (fail)
  go_cut [3] (fun v W => v = .slice none 0 0 ∧ Grew w 0 W)
  case first =>
    cases ad with
    | none =>
      obtain rfl := hz rfl
      go_wp2_with (first | (at_builtin; refine wpList_append_own_none rfl _ _ 58 rfl w.heap.size 61 e0 4 Try.underlying58 hi0 (.slice none 0 0) 0 [] rfl (World.ownsRow_nil _ _ _ _) rfl ?_) | go_in)
      go_wp2_with fail
      go_meet
      case rel => exact ⟨rfl, Below.refl _ _, Nat.le_refl _⟩
    | some a =>
      go_wp2_with (first | (at_builtin; refine wpList_append_own_at _ rfl _ _ 58 rfl w.heap.size 61 e0 (.agg #[.int .i64 0, .int .i64 0, .int .i64 0, .int .i64 0]) 4 32 Try.underlying58 hi0 hz0 hz1 hz2 rfl (by decide) (.slice none 0 0) 0 [] rfl (World.ownsRow_nil _ _ _ _) a 0 cap [] rfl rfl (fun j u h => by simp at h) (fun u h => by simp at h) ?c3 ?c4 ?c5 ?_) | go_in)
      case c3 => unfold maxLen; omega
      case c4 => omega
      case c5 => exact Nat.le_refl _
      intro v w1 hown hgrow hnil _
      obtain rfl := hnil
      have hbl : Below w.heap.size w w1 := (Below.refl _ _).grown hgrow (Nat.le_refl _) (fun g hg => by cases hg)
      clear hown hgrow
      go_wp2_with fail
      go_meet
      case rel => exact ⟨rfl, hbl, hbl.size⟩
  case rest =>
  obtain ⟨rfl, hG⟩ := hcut
  have HG := Lib.hid hG
  clear hG hz e0 hi0 hz0 hz1 hz2
  go_wp2_with fail
  (with_reducible refine (first_nil none 0 _).mono ?_); rintro e w2 ⟨fx, fy, fb, rfl, hF, hb1⟩
  obtain ⟨rfl, rfl, rfl⟩ : fx = 0 ∧ fy = 0 ∧ fb = false := firstR_one hF (.inl ⟨rfl, .inr ⟨rfl, rfl, rfl, fun a b _ h => absurd h (by simp)⟩⟩)
  replace HG : Hid (Grew w 0 w2) := HG.out.below hb1
  clear hF hb1
  go_wp2_with fail
  go_loopw [7, 8, 9, 10] (fun xv yv bv av W => xv = .int .i64 0 ∧ yv = .int .i64 0 ∧ bv = .bool false ∧ av = .int .i64 0 ∧ Grew w 0 W) (fun _ _ _ _ _ => 0)
  case atStart => exact ⟨rfl, rfl, rfl, rfl, HG.out⟩
  case round =>
    obtain ⟨rfl, rfl, rfl, rfl, hG⟩ := hrel
    clear HG
    have HG := Lib.hid hG
    clear hG
    go_wp2_with fail
    go_loopw [7, 8, 9, 14] (fun xv yv bv av W => xv = .int .i64 0 ∧ yv = .int .i64 0 ∧ bv = .bool false ∧ av = .int .i64 0 ∧ Grew w 0 W) (fun _ _ _ _ _ => 0)
    case atStart => exact ⟨rfl, rfl, rfl, rfl, HG.out⟩
    case round =>
      obtain ⟨rfl, rfl, rfl, rfl, hG⟩ := hrel
      clear HG
      have HG := Lib.hid hG
      clear hG
      go_wp2_with fail
      (with_reducible refine (K.out _).mono ?_); rintro e w3 ⟨rfl, hb1⟩
      replace HG := Lib.hid (HG.out.below hb1)
      clear hb1
      go_wp2
      go_ret
      exact ⟨rfl, HG.out.hb⟩
/-- a slice of segments, as it lies in memory -/
def SegRow (W : World) (v : Value) (l : List Sg) : Prop := ∃ ad cap, v = .slice ad l.length cap ∧ (ad = none → cap = 0) ∧ (0 < l.length → ∃ g o, ad = some ⟨g, o, none⟩ ∧ SgsAt W g o l)
theorem firsts_any {v : Value} {l : List Sg} (w : World) (h : SegRow w v l) : Calls Try.prog 14 #[v] w (Gives (.bool true) w) := by
  obtain ⟨ad, cap, rfl, hz, hf⟩ := h
  rcases Nat.lt_or_ge 40 l.length with hn | hn
  · exact firsts_long ad _ cap hn w
  · rcases Nat.eq_zero_or_pos l.length with h0 | h0
    · rw [h0]
      exact firsts_zero ad cap hz w
    · obtain ⟨g, o, rfl, hp⟩ := hf h0
      exact firsts_l l g o cap hn h0 w hp
end Go.Proofs.Ytojfggnimmaemaa
