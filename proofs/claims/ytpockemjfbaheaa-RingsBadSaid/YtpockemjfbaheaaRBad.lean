/-
  The law RingsBad.
-/
import Derived.Test.YtpockemjfbaheaaRKnown
namespace Go.Proofs.Ytpockemjfbaheaa
open Go.RowKit

def starL : List Pt := [⟨3, 4⟩, ⟨3, 5⟩, ⟨3, 6⟩, ⟨4, 5⟩, ⟨5, 6⟩, ⟨6, 4⟩]
theorem rings_star : ringsR 9 starL = ([], 3, 81) := by decide
theorem ptRow_star (W : World) (t : TypeId) : PtRow (W.alloc (.cells #[.int .i64 3, .int .i64 4, .int .i64 3, .int .i64 5, .int .i64 3, .int .i64 6, .int .i64 4, .int .i64 5, .int .i64 5, .int .i64 6, .int .i64 6, .int .i64 4] t)) (some ⟨W.heap.size, 0, none⟩) starL := by
  intro i hi
  refine ⟨_, _, rfl, ?_⟩
  match i, hi with
  | 0, _ => exact ⟨by simp [go_sem, pget, starL], by simp [go_sem, pget, starL]⟩
  | 1, _ => exact ⟨by simp [go_sem, pget, starL], by simp [go_sem, pget, starL]⟩
  | 2, _ => exact ⟨by simp [go_sem, pget, starL], by simp [go_sem, pget, starL]⟩
  | 3, _ => exact ⟨by simp [go_sem, pget, starL], by simp [go_sem, pget, starL]⟩
  | 4, _ => exact ⟨by simp [go_sem, pget, starL], by simp [go_sem, pget, starL]⟩
  | 5, _ => exact ⟨by simp [go_sem, pget, starL], by simp [go_sem, pget, starL]⟩
theorem ptRow_4 (W : World) (a b c d : Pt) (t : TypeId) : PtRow (W.alloc (.cells #[.int .i64 a.x, .int .i64 a.y, .int .i64 b.x, .int .i64 b.y, .int .i64 c.x, .int .i64 c.y, .int .i64 d.x, .int .i64 d.y] t)) (some ⟨W.heap.size, 0, none⟩) [a, b, c, d] := by
  intro i hi
  refine ⟨_, _, rfl, ?_⟩
  match i, hi with
  | 0, _ => exact ⟨by simp [go_sem, pget], by simp [go_sem, pget]⟩
  | 1, _ => exact ⟨by simp [go_sem, pget], by simp [go_sem, pget]⟩
  | 2, _ => exact ⟨by simp [go_sem, pget], by simp [go_sem, pget]⟩
  | 3, _ => exact ⟨by simp [go_sem, pget], by simp [go_sem, pget]⟩
def badL (m : Nat) : List Pt := [⟨0, 0⟩, ⟨(m : Int), 0⟩, ⟨0, -1⟩, ⟨-1 - (m : Int), 0⟩]
theorem bad_no (m : Nat) {q : Nat} (hq : q < 4) : ¬ okS (m : Int) (pget (badL m) q) := by
  unfold okS
  match q, hq with
  | 0, _ => simp [pget, badL]
  | 1, _ => simp [pget, badL]
  | 2, _ => simp [pget, badL]
  | 3, _ => simp [pget, badL]; omega
theorem wneg {m : Nat} (hm : m ≤ 100000) : wrap64 (-1 - (m : Int)) = -1 - (m : Int) ∧ IntKind.i64.wrap (-1 - (m : Int)) = -1 - (m : Int) :=
  ⟨by unfold wrap64; omega, IntWalk.i64_in _ (by omega)⟩
theorem u64mod (z : Int) (n : Nat) (hn : n ≤ 100000) : ∃ r : Nat, r ≤ n ∧ wrap64 ((IntKind.u64.wrap z).tmod ((n : Int) + 1)) = (r : Int) := by
  have h0 : 0 ≤ IntKind.u64.wrap z := by rw [IntKind.wrap_u64]; exact Int.emod_nonneg _ (by omega)
  generalize IntKind.u64.wrap z = y at *
  rw [Int.tmod_eq_emod_of_nonneg h0]
  have h3 := Int.emod_nonneg y (show (n : Int) + 1 ≠ 0 by omega)
  have h4 := Int.emod_lt_of_pos y (show 0 < (n : Int) + 1 by omega)
  generalize y % ((n : Int) + 1) = r at *
  exact ⟨r.toNat, by omega, by unfold wrap64; omega⟩
theorem u64mod4 (z : Int) : ∃ y : Int, IntKind.u64.wrap z = y ∧ (y.tmod 4 = 0 ∨ y.tmod 4 = 1 ∨ y.tmod 4 = 2 ∨ y.tmod 4 = 3) := by
  have h0 : 0 ≤ IntKind.u64.wrap z := by rw [IntKind.wrap_u64]; exact Int.emod_nonneg _ (by omega)
  generalize IntKind.u64.wrap z = y at *
  refine ⟨y, rfl, ?_⟩
  rw [Int.tmod_eq_emod_of_nonneg h0]
  omega
set_option maxHeartbeats 8000000 in
set_option maxRecDepth 100000 in
theorem bad_l (w : World) (m : Nat) (hm : m < 256) (l : List Pt) (ad : Option Addr) (cap : Nat) (hcap : l.length ≤ cap) (hP : PtRow w ad l) (hn : ad = none → cap = 0) (at' out : Int) :
    Calls Try.prog 8 #[.int .u8 (m : Int), .slice ad l.length cap, .int .i64 at', .int .i64 out] w (Gives (.bool true) w) := by
  have K := Lib.hid (fun W => known_l W)
  have HP := Lib.hid hP
  have HN := Lib.hid hn
  clear hP hn
  go_enter Try.func8, Try.ntmps8
  by_cases hbig : 100 < l.length
  · have b1 : ((100 : Int) < (l.length : Int)) = True := eq_true (by omega)
    go_wp2_with fail
    (with_reducible refine (K.out _).mono ?_); rintro e w1 ⟨rfl, hb1⟩
    go_wp2
    go_ret
    exact ⟨rfl, hb1⟩
  have b1 : ((100 : Int) < (l.length : Int)) = False := eq_false (by omega)
  have hlen : l.length ≤ 100 := by omega
  clear hbig
  go_upto_region 3 with (fail)
  go_cut [9] (fun kv W => ∃ k : Nat, kv = .int .i64 k ∧ k ≤ l.length ∧ w = W)
  case first =>
    go_wp2_with fail
    go_meet
    case rel =>
      obtain ⟨r, hr, e⟩ := u64mod at' l.length (by omega)
      exact ⟨r, by rw [e], hr, rfl⟩
  case rest =>
  obtain ⟨k, rfl, hk, rfl⟩ := hcut
  go_upto_region 4 with (fail)
  obtain ⟨w1, w3, -, -⟩ := wnum (i := m) (by omega)
  obtain ⟨w2, w4⟩ := wneg (m := m) (by omega)
  go_upto_region 5 with (fail)
  have HQ : Hid (PtRow (w.alloc (.cells #[.int .i64 0, .int .i64 0, .int .i64 (m : Int), .int .i64 0, .int .i64 0, .int .i64 (-1), .int .i64 (-1 - (m : Int)), .int .i64 0] 36)) (some ⟨w.heap.size, 0, none⟩) (badL m)) := ptRow_4 w ⟨0, 0⟩ ⟨(m : Int), 0⟩ ⟨0, -1⟩ ⟨-1 - (m : Int), 0⟩ 36
  have HB := Lib.hid (bl_one w (.cells #[.int .i64 0, .int .i64 0, .int .i64 (m : Int), .int .i64 0, .int .i64 0, .int .i64 (-1), .int .i64 (-1 - (m : Int)), .int .i64 0] 36))
  replace HP := Lib.hid (HP.out.below HB.out)
  have hbl : (badL m).length = 4 := rfl
  generalize w.alloc (.cells #[.int .i64 0, .int .i64 0, .int .i64 (m : Int), .int .i64 0, .int .i64 0, .int .i64 (-1), .int .i64 (-1 - (m : Int)), .int .i64 0] 36) = W0 at *
  obtain ⟨g10, hg10⟩ : ∃ g, w.heap.size = g := ⟨_, rfl⟩
  rw [hg10] at HQ ⊢
  clear w1 w2 w3 w4 hg10
  have HBN : Hid (∀ q, q < 4 → ¬ okS (m : Int) (pget (badL m) q)) := fun q hq => bad_no m hq
  generalize badL m = BL at *
  have c1 : ((0 : Int) ≤ (k : Int)) = True := eq_true (by omega)
  have c2 : ((k : Int) ≤ (l.length : Int)) = True := eq_true (by omega)
  have c3 : ((k : Int) ≤ (cap : Int)) = True := eq_true (by omega)
  have d2 : (k ≤ l.length) = True := eq_true (by omega)
  have d3 : (k ≤ cap) = True := eq_true (by omega)
  have d4 : (l.length ≤ cap) = True := eq_true (by omega)
  go_upto_region 6 with (fail)
  go_cut [11] (fun xv W => Op 36 W0 xv (l.take k) W)
  case first =>
    cases ad with
    | none =>
      obtain rfl := HN.out rfl
      have h0 : l.length = 0 := by omega
      obtain rfl := List.length_eq_zero_iff.1 h0
      obtain rfl : k = 0 := by simpa using hk
      go_wp2_with (at_builtin; refine app_pts rfl Try.underlying22 info_eseg _ _ rfl rfl (op_nil _ W0) rfl (L := []) rfl (ptRow_nil _ _) (fun _ => rfl) (by simp) ?_)
      intro v1 w1 hO1
      go_wp2_with fail
      go_meet
      case rel => exact hO1
    | some a =>
      go_wp2_with (at_builtin; refine app_pts rfl Try.underlying22 info_eseg _ _ rfl rfl (op_nil _ W0) rfl (L := l.take k) (by rw [List.length_take]; omega) (HP.out.take k) (fun h => by cases h) ?x2 ?_)
      case x2 => simp; omega
      intro v1 w1 hO1
      go_wp2_with fail
      go_meet
      case rel => exact hO1
  case rest =>
  have HO := Lib.hid hcut
  clear hcut
  have htl : (l.take k).length = k := by rw [List.length_take]; omega
  have hk9 : Hid (k + [pget BL 0].length ≤ 1000000) := (show k + 1 ≤ 1000000 by omega)
  go_upto_region 7 with (fail)
  obtain ⟨e0, hi0, hz0, hz1, hz2⟩ := info_parts info_eseg
  go_cut [11] (fun xv W => ∃ q, q < 4 ∧ Op 36 W0 xv (l.take k ++ [pget BL q]) W)
  case first =>
    obtain ⟨y, hq0, hq1⟩ := u64mod4 out
    have hlt0 : (0 : Nat) < BL.length := by rw [hbl]; decide
    have hlt1 : 1 < BL.length := by rw [hbl]; decide
    have hlt2 : 2 < BL.length := by rw [hbl]; decide
    have hlt3 : 3 < BL.length := by rw [hbl]; decide
    have HQB := Lib.hid (HQ.out.below HO.out.hb)
    rcases hq1 with hq1 | hq1 | hq1 | hq1
    · obtain ⟨k0, k1⟩ := ptRow_at HQB.out (i := 0) hlt0 rfl
      obtain ⟨s, hs⟩ : ∃ s, pget BL 0 = s := ⟨_, rfl⟩
      have HS := Lib.hid hs
      rw [hs] at k0 k1
      simp only [Nat.zero_add, Nat.zero_mul] at k0 k1
      clear hs hlt0 hlt1 hlt2 hlt3
      go_wp2_with (at_builtin; refine app_pts rfl Try.underlying22 info_eseg _ _ rfl rfl (HO.out.alloc _) rfl (L := [s]) rfl (ptRow_new _ s _) (fun h => by cases h) (by rw [htl]; exact hk9.out) ?_)
      intro v1 w1 hO1
      go_wp2_with fail
      go_meet
      case rel => exact ⟨0, by decide, by rw [HS.out]; exact hO1⟩
    · obtain ⟨k0, k1⟩ := ptRow_at HQB.out (i := 1) hlt1 rfl
      obtain ⟨s, hs⟩ : ∃ s, pget BL 1 = s := ⟨_, rfl⟩
      have HS := Lib.hid hs
      rw [hs] at k0 k1
      simp only [Nat.zero_add, Nat.reduceMul, Nat.reduceAdd] at k0 k1
      clear hs hlt0 hlt1 hlt2 hlt3
      go_wp2_with (at_builtin; refine app_pts rfl Try.underlying22 info_eseg _ _ rfl rfl (HO.out.alloc _) rfl (L := [s]) rfl (ptRow_new _ s _) (fun h => by cases h) (by rw [htl]; exact hk9.out) ?_)
      intro v1 w1 hO1
      go_wp2_with fail
      go_meet
      case rel => exact ⟨1, by decide, by rw [HS.out]; exact hO1⟩
    · obtain ⟨k0, k1⟩ := ptRow_at HQB.out (i := 2) hlt2 rfl
      obtain ⟨s, hs⟩ : ∃ s, pget BL 2 = s := ⟨_, rfl⟩
      have HS := Lib.hid hs
      rw [hs] at k0 k1
      simp only [Nat.zero_add, Nat.reduceMul, Nat.reduceAdd] at k0 k1
      clear hs hlt0 hlt1 hlt2 hlt3
      go_wp2_with (at_builtin; refine app_pts rfl Try.underlying22 info_eseg _ _ rfl rfl (HO.out.alloc _) rfl (L := [s]) rfl (ptRow_new _ s _) (fun h => by cases h) (by rw [htl]; exact hk9.out) ?_)
      intro v1 w1 hO1
      go_wp2_with fail
      go_meet
      case rel => exact ⟨2, by decide, by rw [HS.out]; exact hO1⟩
    · obtain ⟨k0, k1⟩ := ptRow_at HQB.out (i := 3) hlt3 rfl
      obtain ⟨s, hs⟩ : ∃ s, pget BL 3 = s := ⟨_, rfl⟩
      have HS := Lib.hid hs
      rw [hs] at k0 k1
      simp only [Nat.zero_add, Nat.reduceMul, Nat.reduceAdd] at k0 k1
      clear hs hlt0 hlt1 hlt2 hlt3
      go_wp2_with (at_builtin; refine app_pts rfl Try.underlying22 info_eseg _ _ rfl rfl (HO.out.alloc _) rfl (L := [s]) rfl (ptRow_new _ s _) (fun h => by cases h) (by rw [htl]; exact hk9.out) ?_)
      intro v1 w1 hO1
      go_wp2_with fail
      go_meet
      case rel => exact ⟨3, by decide, by rw [HS.out]; exact hO1⟩
  case rest =>
  obtain ⟨q, hq, hO⟩ := hcut
  clear HO
  have HO := Lib.hid hO
  clear hO
  go_upto_region 8 with (fail)
  go_cut [11] (fun xv W => Op 36 W0 xv (l.take k ++ [pget BL q] ++ l.drop k) W)
  case first =>
    cases ad with
    | none =>
      obtain rfl := HN.out rfl
      have h0 : l.length = 0 := by omega
      obtain rfl := List.length_eq_zero_iff.1 h0
      obtain rfl : k = 0 := by simpa using hk
      go_wp2_with (at_builtin; refine app_pts rfl Try.underlying22 info_eseg _ _ rfl rfl HO.out rfl (L := []) rfl (ptRow_nil _ _) (fun _ => rfl) (by simp) ?_)
      intro v1 w1 hO1
      go_wp2_with fail
      go_meet
      case rel => exact hO1
    | some a =>
      by_cases hck : cap = k
      · subst hck
        obtain rfl : cap = l.length := by omega
        have e1 : l.drop l.length = [] := List.drop_length
        go_wp2_with (at_builtin; refine app_pts rfl Try.underlying22 info_eseg _ _ rfl rfl HO.out rfl (L := []) (by simp) (ptRow_nil _ _) (fun h => by cases h) (by simp; omega) ?_)
        intro v1 w1 hO1
        go_wp2_with fail
        go_meet
        case rel => rw [e1, List.take_length, List.append_nil]; exact hO1
      · have c4 : (cap = k) = False := eq_false hck
        go_wp2_with (at_builtin; refine app_pts rfl Try.underlying22 info_eseg _ _ rfl rfl HO.out rfl (L := l.drop k) (by rw [List.length_drop]) ((HP.out.below HO.out.hb).drop k (fun g o h _ => by cases h; exact congrArg some (add_plain g o (k * 2)))) (fun h => by cases h) (by simp; omega) ?_)
        intro v1 w1 hO1
        go_wp2_with fail
        go_meet
        case rel => rw [List.append_assoc]; exact hO1
  case rest =>
  have HO1 := Lib.hid hcut
  have HNO : Hid (¬ okL (m : Int) (l.take k ++ [pget BL q] ++ l.drop k)) := fun h => HBN.out q hq (h.2.2 _ (by simp))
  have hll : (l.take k ++ [pget BL q] ++ l.drop k).length ≤ 101 := by simp; omega
  clear hcut HO HBN
  generalize l.take k ++ [pget BL q] ++ l.drop k = M at *
  obtain ⟨adM, cpM, hvM, -, hPM, -⟩ := HO1.out.slice
  have HBM := Lib.hid (bl_trans HB.out HO1.out.hb)
  have HPM := Lib.hid hPM
  clear hPM HO1 HP HQ HB
  subst hvM
  have HR := Lib.hid (fun W (h : Below wc.heap.size wc W) => rings_at (ringsR_arg HNO.out) adM cpM W (HPM.out.below h) (by omega) (by omega))
  have HD := Lib.hid (fun W (h : Below wc.heap.size wc W) => degrees_l (m : Int) M adM cpM W (HPM.out.below h) (by omega) (by omega))
  have HST := Lib.hid (fun W a (h : PtRow W a starL) => rings_at rings_star a 6 W h (by decide) (by decide))
  simp only [show starL.length = 6 from rfl, List.length_nil] at HST HR
  obtain ⟨W5, hW5⟩ : ∃ W5, W5 = wc := ⟨_, rfl⟩
  subst hW5
  obtain ⟨w1, w3, -, -⟩ := wnum (i := m) (by omega)
  go_wp2_with fail
  (with_reducible refine (HR.out _ (Below.refl _ _)).mono ?_); rintro e w6 ⟨a6, c6, rfl, -, -, -, hb6⟩
  have HB6 := Lib.hid hb6
  clear hb6 HR
  go_wp2_with fail
  (with_reducible refine (HD.out _ HB6.out).mono ?_)
  rintro e w7 (⟨h, -⟩ | ⟨-, rfl, hb7⟩)
  · exact absurd h HNO.out
  replace HB6 := Lib.hid (bl_trans HB6.out hb7)
  clear hb7 HD w1 w3
  go_wp2_with fail
  have HPS := Lib.hid (ptRow_star w7 36)
  replace HB6 := Lib.hid (bl_trans HB6.out (bl_one w7 (.cells #[.int .i64 3, .int .i64 4, .int .i64 3, .int .i64 5, .int .i64 3, .int .i64 6, .int .i64 4, .int .i64 5, .int .i64 5, .int .i64 6, .int .i64 6, .int .i64 4] 36)))
  generalize w7.alloc (.cells #[.int .i64 3, .int .i64 4, .int .i64 3, .int .i64 5, .int .i64 3, .int .i64 6, .int .i64 4, .int .i64 5, .int .i64 5, .int .i64 6, .int .i64 6, .int .i64 4] 36) = w8 at *
  generalize w7.heap.size = g8 at *
  (with_reducible refine (HST.out _ _ HPS.out).mono ?_); rintro e w9 ⟨a9, c9, rfl, -, -, -, hb9⟩
  replace HB6 := Lib.hid (bl_trans HB6.out hb9)
  clear hb9 HST HPS
  go_wp2_with fail
  (with_reducible refine (K.out _).mono ?_); rintro e wz ⟨rfl, hbz⟩
  replace HB6 := Lib.hid (bl_trans HB6.out hbz)
  clear hbz
  go_wp2_with fail
  go_ret
  exact ⟨rfl, bl_trans HBM.out HB6.out⟩
end Go.Proofs.Ytpockemjfbaheaa
