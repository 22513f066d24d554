/-
  Contracts of the token layer: isPositive, upTo, Number.
-/
import Derived.Test.YtdpbmkfgolemjaaDoorCut
set_option linter.unusedVariables false
set_option linter.unusedSimpArgs false
set_option linter.deprecated false
namespace Go.Proofs.YtdpbmkfgolemjaaDoor
open Go.RowKit

/-- digits, the first of which is not 0 -/
def Pos (l : List Int) : Prop := l ≠ [] ∧ AllDig l ∧ ∀ d ∈ l.head?, d ≠ 48
def Dg (b : UInt8) : Prop := 48 ≤ b.toNat ∧ b.toNat ≤ 57
theorem nums_dg {s : ByteArray} (h : ∀ (i : Nat) (h : i < s.size), Dg (s[i]'h)) : AllDig (nums s) := by
  intro d hd
  obtain ⟨i, hi, rfl⟩ := List.getElem_of_mem hd
  have hi' : i < s.size := by rw [← nums_length]; exact hi
  have e := nums_get s i hi'
  rw [List.getD_eq_getElem?_getD, List.getElem?_eq_getElem hi] at e
  simp at e
  rw [e]
  have := h i hi'
  unfold Dg at this
  omega
theorem dg_nums {s : ByteArray} (h : AllDig (nums s)) (i : Nat) (hi : i < s.size) : Dg (s[i]'hi) := by
  have hl : i < (nums s).length := by rw [nums_length]; exact hi
  have := h _ (List.getElem_mem hl)
  have e := nums_get s i hi
  rw [List.getD_eq_getElem?_getD, List.getElem?_eq_getElem hl] at e
  simp at e
  rw [e] at this
  unfold Dg; omega

def IsPosP (s : ByteArray) (w : World) (e : Ending) (w' : World) : Prop := ∃ b : Bool, e = .returned (.bool b) ∧ Hid (b = true ↔ Pos (nums s)) ∧ Below w.heap.size w w'

set_option maxHeartbeats 2000000 in
set_option maxRecDepth 100000 in
theorem isPos_c (s : ByteArray) (h2 : s.size ≤ 10000) (w : World) :
    Calls Tryd.prog 67 #[.string s] w (IsPosP s w) := by
  go_enter Tryd.func67, Tryd.ntmps67
  go_wp2
  go_loopw [3, 4] (fun _ _ W => ∃ pos : Nat, pos ≤ s.size ∧ Hid ((∀ (i : Nat) (h : i < s.size), i < pos → Dg (s[i]'h)) ∧ (∀ h : 0 < s.size, 0 < pos → (s[0]'h).toNat ≠ 48)) ∧ W = w.iter s pos) (fun _ _ W => s.size - W.iterPos w.heap.size)
  case atStart => exact ⟨0, by omega, ⟨fun i _ h => absurd h (by omega), fun _ h => absurd h (by omega)⟩, rfl⟩
  case round =>
    obtain ⟨pos, hp, HD, rfl⟩ := hrel
    by_cases hlt : pos < s.size
    · have no : ∀ (hb : ¬ (Dg (s[pos]'hlt) ∧ (pos = 0 → (s[pos]'hlt).toNat ≠ 48))), Hid (false = true ↔ Pos (nums s)) := by
        intro hb
        refine ⟨(fun h => by cases h), fun h => absurd ⟨dg_nums h.2.1 pos hlt, fun e => ?_⟩ hb⟩
        subst e
        have := h.2.2 _ (head_of hlt)
        omega
      rcases Nat.lt_or_ge (s[pos]'hlt).toNat 128 with ha | ha
      · have hnx : ∀ ty, (Instr.next (.pointer (some ⟨w.heap.size, 0, none⟩)) true ty).run Tryd.prog (w.iter s pos) = _ := fun ty => run_next_ascii w s pos ty hlt ha
        obtain ⟨x, hx⟩ : ∃ x : Nat, x = (s[pos]'hlt).toNat := ⟨_, rfl⟩
        have HNO := Lib.hid no
        clear no
        rw [← hx] at hnx ha
        have HX := Lib.hid hx
        clear hx
        rcases Nat.lt_or_ge x 48 with d0 | d0
        · have hno := HNO.out (fun h => by have := h.1; have := HX.out; unfold Dg at *; omega)
          have d0 : (x : Int) < 48 := by omega
          go_wp2
          go_ret
          exact ⟨false, rfl, hno, bl_alloc (Below.refl _ _) _⟩
        · have d0' : (48 : Int) ≤ (x : Int) := by omega
          rcases Nat.lt_or_ge 57 x with d1 | d1
          · have hno := HNO.out (fun h => by have := h.1; have := HX.out; unfold Dg at *; omega)
            have d1 : (57 : Int) < (x : Int) := by omega
            go_wp2
            go_ret
            exact ⟨false, rfl, hno, bl_alloc (Below.refl _ _) _⟩
          · have d1' : (x : Int) ≤ 57 := by omega
            by_cases h0 : pos = 0 ∧ x = 48
            · obtain ⟨rfl, rfl⟩ := h0
              have hno := HNO.out (fun h => h.2 rfl HX.out.symm)
              go_wp2
              go_ret
              exact ⟨false, rfl, hno, bl_alloc (Below.refl _ _) _⟩
            · have HG : Hid (∀ (i : Nat) (h : i < s.size), i < pos + 1 → Dg (s[i]'h)) := by
                intro i h hi
                rcases Nat.lt_or_ge i pos with h' | h'
                · exact HD.out.1 i h h'
                · obtain rfl : i = pos := by omega
                  have := HX.out
                  unfold Dg; omega
              have HF : Hid (∀ h : 0 < s.size, 0 < pos + 1 → (s[0]'h).toNat ≠ 48) := by
                intro h _
                rcases Nat.eq_zero_or_pos pos with hq | hq
                · subst hq
                  have := HX.out
                  intro e
                  exact h0 ⟨rfl, by omega⟩
                · exact HD.out.2 h hq
              rcases Nat.eq_zero_or_pos pos with hq | hq
              · subst hq
                have h48 : ((x : Int) == 48) = false := by simp; omega
                go_wp2
                go_roundw
                case rel => exact ⟨1, by omega, ⟨HG.out, HF.out⟩, rfl⟩
                case measure => simp; omega
              · have hp0 : ((pos : Int) == 0) = false := by simp; omega
                clear h0
                go_wp2
                go_roundw
                case rel => exact ⟨pos + 1, by omega, ⟨HG.out, HF.out⟩, rfl⟩
                case measure => simp; omega
      · have hno := no (fun h => by have := h.1; unfold Dg at this; omega)
        have hdh := (decode_high s pos hlt ha).1
        have hdl := decode_le s pos
        have hnx : ∀ ty, (Instr.next (.pointer (some ⟨w.heap.size, 0, none⟩)) true ty).run Tryd.prog (w.iter s pos) = _ := fun ty => run_next_any w s pos ty hlt
        obtain ⟨x, hx⟩ : ∃ x : Nat, x = (Utf8.decode s pos).1 := ⟨_, rfl⟩
        obtain ⟨p2, hp2⟩ : ∃ p2 : Nat, p2 = pos + (Utf8.decode s pos).2 := ⟨_, rfl⟩
        rw [← hx] at hdh hdl
        simp only [← hx, ← hp2] at hnx
        clear hx hp2 no
        have d0 : (48 : Int) ≤ (x : Int) := by omega
        have d1 : (57 : Int) < (x : Int) := by omega
        go_wp2
        go_ret
        exact ⟨false, rfl, hno, bl_alloc (Below.refl _ _) _⟩
    · have hnx : ∀ ty, (Instr.next (.pointer (some ⟨w.heap.size, 0, none⟩)) true ty).run Tryd.prog (w.iter s pos) = _ := fun ty => run_next_end w s pos ty hlt
      obtain rfl : pos = s.size := by omega
      obtain ⟨zb, hz, HZ⟩ : ∃ zb : Bool, (s.toList == []) = zb ∧ Hid ((s.toList == []) = zb) := ⟨_, rfl, rfl⟩
      have HB : Hid ((!zb) = true ↔ Pos (nums s)) := by
        unfold Hid
        rcases Nat.eq_zero_or_pos s.size with h0 | h0
        · have h1 := toList_nil h0
          rw [h1] at hz
          subst hz
          constructor
          · intro h; cases h
          · intro h
            have := nums_length s
            rw [h0] at this
            exact absurd (List.eq_nil_of_length_eq_zero this) h.1
        · have h1 := toList_ne h0
          have h4 : (s.toList == []) = false := by
            revert h1; cases s.toList <;> simp
          rw [h4] at hz
          subst hz
          refine ⟨fun _ => ⟨fun e => ?_, nums_dg (fun i h => HD.out.1 i h (by omega)), fun d hd => ?_⟩, fun _ => rfl⟩
          · have := nums_length s
            rw [e] at this
            simp at this
            omega
          · rw [head_of h0] at hd
            have := Option.some.inj hd
            have := HD.out.2 h0 h0
            omega
      clear HD
      cases zb
      all_goals
        go_wp2
        go_ret
        exact ⟨_, by first | rfl | simp, HB, bl_alloc (Below.refl _ _) _⟩
end Go.Proofs.YtdpbmkfgolemjaaDoor
