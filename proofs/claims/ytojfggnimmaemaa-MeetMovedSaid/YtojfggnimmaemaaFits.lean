/-
  Contract of pred.Fits: places in a slice.
-/
import Derived.Test.YtojfggnimmaemaaPredMath
import Derived.Test.YtojfggnimmaemaaVar
import Derived.Test.YtojfggnimmaemaaKnown0
namespace Go.Proofs.Ytojfggnimmaemaa
open Go.RowKit

def pget (l : List Pt) (i : Nat) : Pt := l.getD i ⟨0, 0⟩
/-- places in a row, from an address on -/
def PtsAt (W : World) (g o : Nat) (l : List Pt) : Prop := ∀ i, i < l.length → W.cell? ⟨g, o + i * 2, none⟩ = some (.int .i64 (pget l i).x) ∧ W.cell? ⟨g, o + i * 2 + 1, none⟩ = some (.int .i64 (pget l i).y)
theorem PtsAt.below {W W' : World} {g o : Nat} {l : List Pt} (h : PtsAt W g o l) (hb : Below W.heap.size W W') : PtsAt W' g o l := fun i hi =>
  ⟨(hb.cell (p := ⟨g, _, none⟩) (cell_lt (h i hi).1)).trans (h i hi).1, (hb.cell (p := ⟨g, _, none⟩) (cell_lt (h i hi).1)).trans (h i hi).2⟩
def fitL (l : List Pt) : Bool := l.all fitB
theorem fitL_step (l : List Pt) (k : Nat) (h : k < l.length) : fitL (l.take (k + 1)) = (fitL (l.take k) && fitB (pget l k)) := by
  unfold fitL pget
  rw [List.take_succ_eq_append_getElem h, List.all_append]
  simp [List.getD_eq_getElem?_getD, List.getElem?_eq_getElem h]
theorem fitL_no (l : List Pt) (k : Nat) (h : k < l.length) (hf : fitB (pget l k) = false) : fitL l = false := by
  unfold fitL
  rw [List.all_eq_false]
  exact ⟨l[k], List.getElem_mem h, by
    have : pget l k = l[k] := by unfold pget; simp [List.getD_eq_getElem?_getD, List.getElem?_eq_getElem h]
    rw [← this, hf]; simp⟩
theorem fitB_no {p : Pt} (h : ¬ p.fits) : fitB p = false := by unfold fitB; simp [h]
theorem fitB_yes {p : Pt} (h : p.fits) : fitB p = true := fitB_iff.2 h

set_option maxHeartbeats 1000000 in
set_option maxRecDepth 100000 in
theorem fits_l (l : List Pt) (g o cap : Nat) (hbig : l.length ≤ 4611686018427387904) (w : World) (hl : PtsAt w g o l) :
    Calls Try.prog 42 #[.slice (some ⟨g, o, none⟩) l.length cap] w (Gives (.bool (fitL l)) w) := by
  have HL := Lib.hid hl
  clear hl
  go_enter Try.func42, Try.ntmps42
  go_wp2
  go_loopw [7] (fun kv W => ∃ k : Nat, k ≤ l.length ∧ kv = .int .i64 k ∧ fitL (l.take k) = true ∧ Grew w 0 W) (fun kv _ => l.length - (intOf kv).toNat)
  case atStart => exact ⟨0, by omega, rfl, rfl, by repeat (first | (with_reducible exact Below.refl _ _) | (with_reducible refine bl_alloc ?_ _) | (with_reducible refine Below.drew ?_) | (with_reducible refine below_drewN' ?_ _) | ((with_reducible refine bl_set ?_ ?_ _); (rotate_left; (dsimp only; omega)))), by simp⟩
  case round =>
    obtain ⟨k, hk, rfl, hf, hG⟩ := hrel
    have HF := Lib.hid hf
    have HG := Lib.hid hG
    clear hf hG
    by_cases hlt : k < l.length
    · obtain ⟨g0, g1⟩ := (HL.out.below HG.out.hb) k hlt
      have hst := Lib.hid (fitL_step l k hlt)
      have hno := Lib.hid (fitL_no l k hlt)
      generalize pget l k = q at *
      go_wp2
      all_goals
        first
          | (go_roundw
             case rel => exact ⟨k + 1, by omega, by go_num, by rw [hst.out, HF.out, fitB_yes (by unfold Pt.fits; omega)]; rfl, HG.out.new _⟩
             case measure => simp [intOf]; omega)
          | (go_ret
             exact ⟨by rw [hno.out (fitB_no (by unfold Pt.fits; omega))]; rfl, (HG.out.new _).hb⟩)
    · obtain rfl : k = l.length := by omega
      go_wp2
      go_ret
      exact ⟨by have := HF.out; rw [List.take_length] at this; rw [this]; rfl, HG.out.hb⟩
theorem pts1 (W : World) (a : Pt) (t : TypeId) : PtsAt (W.alloc (.cells #[.int .i64 a.x, .int .i64 a.y] t)) W.heap.size 0 [a] := by
  intro i hi
  have : i = 0 := by simp at hi; omega
  subst this
  constructor <;> simp [go_sem, pget]
theorem pts2 (W : World) (a b : Pt) (t : TypeId) : PtsAt (W.alloc (.cells #[.int .i64 a.x, .int .i64 a.y, .int .i64 b.x, .int .i64 b.y] t)) W.heap.size 0 [a, b] := by
  intro i hi
  have : i = 0 ∨ i = 1 := by simp at hi; omega
  rcases this with rfl | rfl <;> constructor <;> simp [go_sem, pget]
theorem pts3 (W : World) (a b c : Pt) (t : TypeId) : PtsAt (W.alloc (.cells #[.int .i64 a.x, .int .i64 a.y, .int .i64 b.x, .int .i64 b.y, .int .i64 c.x, .int .i64 c.y] t)) W.heap.size 0 [a, b, c] := by
  intro i hi
  have : i = 0 ∨ i = 1 ∨ i = 2 := by simp at hi; omega
  rcases this with rfl | rfl | rfl <;> constructor <;> simp [go_sem, pget]
theorem pts4 (W : World) (a b c d : Pt) (t : TypeId) : PtsAt (W.alloc (.cells #[.int .i64 a.x, .int .i64 a.y, .int .i64 b.x, .int .i64 b.y, .int .i64 c.x, .int .i64 c.y, .int .i64 d.x, .int .i64 d.y] t)) W.heap.size 0 [a, b, c, d] := by
  intro i hi
  have : i = 0 ∨ i = 1 ∨ i = 2 ∨ i = 3 := by simp at hi; omega
  rcases this with rfl | rfl | rfl | rfl <;> constructor <;> simp [go_sem, pget]
/-- Fits of places just laid out -/
theorem fits1 (W : World) (a : Pt) (t : TypeId) (r : Bool) (h : fitB a = r) : Calls Try.prog 42 #[.slice (some ⟨W.heap.size, 0, none⟩) 1 1] (W.alloc (.cells #[.int .i64 a.x, .int .i64 a.y] t)) (Gives (.bool r) (W.alloc (.cells #[.int .i64 a.x, .int .i64 a.y] t))) := by
  have := fits_l [a] W.heap.size 0 1 (by simp) _ (pts1 W a t)
  simpa [fitL, h] using this
theorem fits2 (W : World) (a b : Pt) (t : TypeId) (r : Bool) (h : (fitB a && fitB b) = r) : Calls Try.prog 42 #[.slice (some ⟨W.heap.size, 0, none⟩) 2 2] (W.alloc (.cells #[.int .i64 a.x, .int .i64 a.y, .int .i64 b.x, .int .i64 b.y] t)) (Gives (.bool r) (W.alloc (.cells #[.int .i64 a.x, .int .i64 a.y, .int .i64 b.x, .int .i64 b.y] t))) := by
  have := fits_l [a, b] W.heap.size 0 2 (by simp) _ (pts2 W a b t)
  rw [show fitL [a, b] = r by rw [← h]; simp [fitL]] at this
  exact this
theorem fits3 (W : World) (a b c : Pt) (t : TypeId) (r : Bool) (h : (fitB a && fitB b && fitB c) = r) : Calls Try.prog 42 #[.slice (some ⟨W.heap.size, 0, none⟩) 3 3] (W.alloc (.cells #[.int .i64 a.x, .int .i64 a.y, .int .i64 b.x, .int .i64 b.y, .int .i64 c.x, .int .i64 c.y] t)) (Gives (.bool r) (W.alloc (.cells #[.int .i64 a.x, .int .i64 a.y, .int .i64 b.x, .int .i64 b.y, .int .i64 c.x, .int .i64 c.y] t))) := by
  have := fits_l [a, b, c] W.heap.size 0 3 (by simp) _ (pts3 W a b c t)
  rw [show fitL [a, b, c] = r by rw [← h]; simp [fitL, Bool.and_assoc]] at this
  exact this
theorem fits4 (W : World) (a b c d : Pt) (t : TypeId) (r : Bool) (h : (fitB a && fitB b && fitB c && fitB d) = r) : Calls Try.prog 42 #[.slice (some ⟨W.heap.size, 0, none⟩) 4 4] (W.alloc (.cells #[.int .i64 a.x, .int .i64 a.y, .int .i64 b.x, .int .i64 b.y, .int .i64 c.x, .int .i64 c.y, .int .i64 d.x, .int .i64 d.y] t)) (Gives (.bool r) (W.alloc (.cells #[.int .i64 a.x, .int .i64 a.y, .int .i64 b.x, .int .i64 b.y, .int .i64 c.x, .int .i64 c.y, .int .i64 d.x, .int .i64 d.y] t))) := by
  have := fits_l [a, b, c, d] W.heap.size 0 4 (by simp) _ (pts4 W a b c d t)
  rw [show fitL [a, b, c, d] = r by rw [← h]; simp [fitL, Bool.and_assoc]] at this
  exact this
end Go.Proofs.Ytojfggnimmaemaa
