/-
  The law's square, known, many, ring.
-/
import Derived.Test.YtkidphekfnmhhaaWMean
namespace Go.Proofs.Ytkidphekfnmhhaa
open Go.RowKit

def sqP : List Pt := [⟨0, 0⟩, ⟨4, 0⟩, ⟨4, 4⟩, ⟨0, 4⟩]
def sqL : List Pt := [⟨0, 1⟩, ⟨1, 2⟩, ⟨2, 3⟩, ⟨3, 0⟩]
theorem sq1 : atN 1 sqP sqL ⟨1, 1⟩ = 1 ∧ atE 1 sqP sqL ⟨1, 1⟩ = 0 := by decide
theorem sq2 : atN 1 sqP sqL ⟨4, 2⟩ = 0 ∧ atE 1 sqP sqL ⟨4, 2⟩ = 0 := by decide
theorem sq3 : atN 1 sqP sqL ⟨5, 2⟩ = -1 ∧ atE 1 sqP sqL ⟨5, 2⟩ = 0 := by decide
theorem sq4 : midN sqP sqL [0, 2] = 1 ∧ midE sqP sqL [0, 2] = 0 := by decide
theorem sq5 : midN sqP sqL [0, 1] = 0 ∧ midE sqP sqL [0, 1] = 0 := by decide
theorem sq6 : midN sqP sqL [0, 1, 2] = 1 ∧ midE sqP sqL [0, 1, 2] = 0 := by decide
theorem sq7 : atN 1 sqP [⟨0, 4⟩] ⟨0, 0⟩ = 0 ∧ atE 1 sqP [⟨0, 4⟩] ⟨0, 0⟩ = 2 := by decide
theorem ptRow_n4 (W : World) (a b c d : Pt) (t : TypeId) : PtRow (W.alloc (.cells #[.int .i64 a.x, .int .i64 a.y, .int .i64 b.x, .int .i64 b.y, .int .i64 c.x, .int .i64 c.y, .int .i64 d.x, .int .i64 d.y] t)) (some ⟨W.heap.size, 0, none⟩) [a, b, c, d] := by
  intro i hi
  refine ⟨_, _, rfl, ?_⟩
  match i, hi with
  | 0, _ => exact ⟨by simp [go_sem, pget], by simp [go_sem, pget]⟩
  | 1, _ => exact ⟨by simp [go_sem, pget], by simp [go_sem, pget]⟩
  | 2, _ => exact ⟨by simp [go_sem, pget], by simp [go_sem, pget]⟩
  | 3, _ => exact ⟨by simp [go_sem, pget], by simp [go_sem, pget]⟩

set_option maxHeartbeats 4000000 in
set_option maxRecDepth 100000 in
theorem sqr9_l (w : World) : Calls Try.prog 31 #[] w fun e w' => ∃ g h, e = .returned (.tuple #[.slice (some ⟨g, 0, none⟩) 4 4, .slice (some ⟨h, 0, none⟩) 4 4]) ∧ PtRow w' (some ⟨g, 0, none⟩) sqP ∧ PtRow w' (some ⟨h, 0, none⟩) sqL ∧ Below w.heap.size w w' := by
  have H1 := hi (ptRow_n4 w ⟨0, 0⟩ ⟨4, 0⟩ ⟨4, 4⟩ ⟨0, 4⟩ 25)
  have H2 := hi (ptRow_n4 (w.alloc (.cells #[.int .i64 0, .int .i64 0, .int .i64 4, .int .i64 0, .int .i64 4, .int .i64 4, .int .i64 0, .int .i64 4] 25)) ⟨0, 1⟩ ⟨1, 2⟩ ⟨2, 3⟩ ⟨3, 0⟩ 51)
  have hs : (w.alloc (.cells #[.int .i64 0, .int .i64 0, .int .i64 4, .int .i64 0, .int .i64 4, .int .i64 4, .int .i64 0, .int .i64 4] 25)).heap.size = w.heap.size + 1 := by simp
  rw [hs] at H2
  clear hs
  have HB : Hid (Below w.heap.size w ((w.alloc (.cells #[.int .i64 0, .int .i64 0, .int .i64 4, .int .i64 0, .int .i64 4, .int .i64 4, .int .i64 0, .int .i64 4] 25)).alloc (.cells #[.int .i64 0, .int .i64 1, .int .i64 1, .int .i64 2, .int .i64 2, .int .i64 3, .int .i64 3, .int .i64 0] 51))) := bl_alloc (bl_one _ _) _
  have H1b := hi (H1.out.below (bl_one _ (.cells #[.int .i64 0, .int .i64 1, .int .i64 1, .int .i64 2, .int .i64 2, .int .i64 3, .int .i64 3, .int .i64 0] 51)))
  clear H1
  go_enter Try.func31, Try.ntmps31
  go_wp2_with fail
  go_ret2
  exact ⟨_, _, rfl, H1b.out, H2.out, HB.out⟩
theorem at9_u (p l : List Pt) (q : Pt) {n e : Int} (h : atN 1 p l q = n ∧ atE 1 p l q = e) (ap al : Option Addr) (cp cl : Nat) (w : World) (hP : PtRow w ap p) (hL : PtRow w al l) (hll : l.length ≤ 10000) :
    Calls Try.prog 14 #[.slice ap p.length cp, .slice al l.length cl, .agg #[.int .i64 q.x, .int .i64 q.y]] w (Gives (.tuple #[.int .i64 n, .int .i64 e]) w) := by
  have := at9_l p l q ap al cp cl w hP hL hll
  rwa [h.1, h.2] at this
theorem half9_u (p l : List Pt) (a b : Int) {n e : Int} (h : midN p l [a, b] = n ∧ midE p l [a, b] = e) (ap al : Option Addr) (cp cl : Nat) (w : World) (hP : PtRow w ap p) (hL : PtRow w al l) (hll : l.length ≤ 10000) :
    Calls Try.prog 16 #[.slice ap p.length cp, .slice al l.length cl, .int .i64 a, .int .i64 b] w (Gives (.tuple #[.int .i64 n, .int .i64 e]) w) := by
  have := half9_l p l a b ap al cp cl w hP hL hll
  rwa [h.1, h.2] at this
theorem third9_u (p l : List Pt) (a b c : Int) {n e : Int} (h : midN p l [a, b, c] = n ∧ midE p l [a, b, c] = e) (ap al : Option Addr) (cp cl : Nat) (w : World) (hP : PtRow w ap p) (hL : PtRow w al l) (hll : l.length ≤ 10000) :
    Calls Try.prog 18 #[.slice ap p.length cp, .slice al l.length cl, .int .i64 a, .int .i64 b, .int .i64 c] w (Gives (.tuple #[.int .i64 n, .int .i64 e]) w) := by
  have := third9_l p l a b c ap al cp cl w hP hL hll
  rwa [h.1, h.2] at this

set_option maxHeartbeats 8000000 in
set_option maxRecDepth 100000 in
theorem lawK_l (w : World) : Calls Try.prog 13 #[] w (Gives (.bool true) w) := by
  have hsq := hi (fun W => sqr9_l W)
  have A1 := hi (fun ap al W h1 h2 => at9_u sqP sqL ⟨1, 1⟩ sq1 ap al 4 4 W h1 h2 (by decide))
  have A2 := hi (fun ap al W h1 h2 => at9_u sqP sqL ⟨4, 2⟩ sq2 ap al 4 4 W h1 h2 (by decide))
  have A3 := hi (fun ap al W h1 h2 => at9_u sqP sqL ⟨5, 2⟩ sq3 ap al 4 4 W h1 h2 (by decide))
  have A4 := hi (fun ap al W h1 h2 => half9_u sqP sqL 0 2 sq4 ap al 4 4 W h1 h2 (by decide))
  have A5 := hi (fun ap al W h1 h2 => half9_u sqP sqL 0 1 sq5 ap al 4 4 W h1 h2 (by decide))
  have A6 := hi (fun ap al W h1 h2 => third9_u sqP sqL 0 1 2 sq6 ap al 4 4 W h1 h2 (by decide))
  have A7 := hi (fun ap al W h1 h2 => at9_u sqP [⟨0, 4⟩] ⟨0, 0⟩ sq7 ap al 4 1 W h1 h2 (by decide))
  simp only [show sqP.length = 4 from rfl, show sqL.length = 4 from rfl, List.length_cons, List.length_nil, Nat.zero_add] at A1 A2 A3 A4 A5 A6 A7
  go_enter Try.func13, Try.ntmps13
  go_wp2_with fail
  (with_reducible refine (hsq.out _).mono ?_); rintro e w1 ⟨g, h, rfl, hp, hl, hb⟩
  have HP := hi hp
  have HL := hi hl
  have HB := hi hb
  clear hp hl hb hsq
  go_wp2_with fail
  (with_reducible refine (A1.out _ _ _ HP.out HL.out).mono ?_); rintro e w2 ⟨rfl, hb⟩
  replace HP := hi (HP.out.below hb)
  replace HL := hi (HL.out.below hb)
  replace HB := hi (bl_trans HB.out hb)
  clear hb A1
  go_wp2_with fail
  (with_reducible refine (A2.out _ _ _ HP.out HL.out).mono ?_); rintro e w3 ⟨rfl, hb⟩
  replace HP := hi (HP.out.below hb)
  replace HL := hi (HL.out.below hb)
  replace HB := hi (bl_trans HB.out hb)
  clear hb A2
  go_wp2_with fail
  (with_reducible refine (A3.out _ _ _ HP.out HL.out).mono ?_); rintro e w4 ⟨rfl, hb⟩
  replace HP := hi (HP.out.below hb)
  replace HL := hi (HL.out.below hb)
  replace HB := hi (bl_trans HB.out hb)
  clear hb A3
  go_wp2_with fail
  (with_reducible refine (A4.out _ _ _ HP.out HL.out).mono ?_); rintro e w5 ⟨rfl, hb⟩
  replace HP := hi (HP.out.below hb)
  replace HL := hi (HL.out.below hb)
  replace HB := hi (bl_trans HB.out hb)
  clear hb A4
  go_wp2_with fail
  (with_reducible refine (A5.out _ _ _ HP.out HL.out).mono ?_); rintro e w6 ⟨rfl, hb⟩
  replace HP := hi (HP.out.below hb)
  replace HL := hi (HL.out.below hb)
  replace HB := hi (bl_trans HB.out hb)
  clear hb A5
  go_wp2_with fail
  (with_reducible refine (A6.out _ _ _ HP.out HL.out).mono ?_); rintro e w7 ⟨rfl, hb⟩
  replace HP := hi (HP.out.below hb)
  replace HL := hi (HL.out.below hb)
  replace HB := hi (bl_trans HB.out hb)
  clear hb A6
  go_wp2_with fail
  (with_reducible refine (A7.out _ _ _ (HP.out.below (bl_one _ _)) (ptRow_new _ ⟨0, 4⟩ _)).mono ?_); rintro e w8 ⟨rfl, hb⟩
  replace HB := hi (bl_trans (bl_trans HB.out (bl_one _ _)) hb)
  clear hb A7 HP HL
  go_wp2_with fail
  go_ret
  exact ⟨rfl, HB.out⟩

set_option maxHeartbeats 4000000 in
set_option maxRecDepth 100000 in
theorem many_l (n m : Nat) (ap al : Option Addr) (cp cl : Nat) (w : World) : Calls Try.prog 12 #[.slice ap n cp, .slice al m cl] w (Gives (.bool (decide (200 < n) || decide (200 < m))) w) := by
  obtain ⟨r, hr⟩ : ∃ r, (decide (200 < n) || decide (200 < m)) = r := ⟨_, rfl⟩
  rw [hr]
  have HR := hi hr
  clear hr
  go_enter Try.func12, Try.ntmps12
  by_cases h1 : 200 < n
  · have b1 : ((200 : Int) < (n : Int)) = True := eq_true (by omega)
    have b1' : (200 < n) = True := eq_true h1
    have HZ : Hid (r = true) := by unfold Hid; rw [← HR.out, decide_eq_true h1]; rfl
    clear h1 HR
    go_wp2_with fail
    go_ret
    exact ⟨by rw [HZ.out]; rfl, Below.refl _ _⟩
  · have b1 : ((200 : Int) < (n : Int)) = False := eq_false (by omega)
    have b1' : (200 < n) = False := eq_false h1
    by_cases h2 : 200 < m
    · have b2 : ((200 : Int) < (m : Int)) = True := eq_true (by omega)
      have b2' : (200 < m) = True := eq_true h2
      have HZ : Hid (r = true) := by unfold Hid; rw [← HR.out, decide_eq_true h2]; simp
      clear h1 h2 HR
      go_wp2_with fail
      go_ret
      exact ⟨by rw [HZ.out]; rfl, Below.refl _ _⟩
    · have b2 : ((200 : Int) < (m : Int)) = False := eq_false (by omega)
      have b2' : (200 < m) = False := eq_false h2
      have HZ : Hid (r = false) := by unfold Hid; rw [← HR.out, decide_eq_false h1, decide_eq_false h2]; rfl
      clear h1 h2 HR
      go_wp2_with fail
      go_ret
      exact ⟨by rw [HZ.out]; rfl, Below.refl _ _⟩
end Go.Proofs.Ytkidphekfnmhhaa
