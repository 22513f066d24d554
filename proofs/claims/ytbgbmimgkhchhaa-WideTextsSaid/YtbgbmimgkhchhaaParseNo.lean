/-
  Contracts: strings.CutPrefix at any text, wide.isDecimal where the text is no number's.
-/
import Derived.Test.YtbgbmimgkhchhaaParseMath
import Derived.Laws.RangeAny
namespace Go.Proofs.Ytbgbmimgkhchhaa
open Go.RowKit

set_option maxHeartbeats 1000000 in
set_option maxRecDepth 100000 in
theorem cutPrefix_yes (s : ByteArray) (h1 : 0 < s.size) (h2 : s.size ≤ 1000) (h45 : (s[0]'h1).toNat = 45) (w : World) :
    Calls Try.prog 50 #[.string s, .string ⟨#[45]⟩] w fun e w' => e = .returned (.tuple #[.string (s.extract 1 s.size), .bool true]) ∧ w = w' := by
  have h3 : ((s.extract 0 1).toList == [45]) = true := by
    rw [extract_first h1]
    have e : s[0]'h1 = 45 := UInt8.toNat_inj.1 h45
    simp [e]
  clear h45
  go_enter Try.func50, Try.ntmps50
  go_wp2
  refine bodyPost_ret (v := .tuple #[.string (s.extract 1 s.size), .bool true]) (by simp [results, Try.results50, go_sem]) rfl ⟨rfl, rfl⟩

set_option maxHeartbeats 1000000 in
set_option maxRecDepth 100000 in
theorem cutPrefix_other (s : ByteArray) (h2 : s.size ≤ 1000) (h45 : ∀ h1 : 0 < s.size, (s[0]'h1).toNat ≠ 45) (w : World) :
    Calls Try.prog 50 #[.string s, .string ⟨#[45]⟩] w fun e w' => e = .returned (.tuple #[.string s, .bool false]) ∧ w = w' := by
  by_cases h1 : 0 < s.size
  · have h3 : ((s.extract 0 1).toList == [45]) = false := by
      rw [extract_first h1]
      have := h45 h1
      simp
      intro e
      rw [e] at this
      revert this; decide
    clear h45
    go_enter Try.func50, Try.ntmps50
    go_wp2
    refine bodyPost_ret (v := .tuple #[.string s, .bool false]) (by simp [results, Try.results50, go_sem]) rfl ⟨rfl, rfl⟩
  · have h3 : s.size = 0 := by omega
    clear h45
    go_enter Try.func50, Try.ntmps50
    go_wp2
    refine bodyPost_ret (v := .tuple #[.string s, .bool false]) (by simp [results, Try.results50, go_sem]) rfl ⟨rfl, rfl⟩

theorem toList_nil {s : ByteArray} (h : s.size = 0) : (s.toList == []) = true := by
  rw [ByteArray.toList_eq]
  have : s.data.toList = [] := List.eq_nil_of_length_eq_zero (by rw [Array.length_toList, ByteArray.size_data]; exact h)
  rw [this]; rfl
def Dig (b : UInt8) : Prop := 48 ≤ b.toNat ∧ b.toNat ≤ 57

set_option maxHeartbeats 2000000 in
set_option maxRecDepth 100000 in
theorem isDec_no (s : ByteArray) (h2 : s.size ≤ 1000) (hs : ¬ Dec s) (w : World) :
    Calls Try.prog 51 #[.string s] w fun e w' => e = .returned (.bool false) ∧ Below w.heap.size w w' := by
  by_cases h1 : 0 < s.size
  · have h3 := toList_ne h1
    have h4 : (s.toList == []) = false := by
      revert h3; cases s.toList <;> simp
    by_cases h6 : (s[0]'h1).toNat = 48 ∧ 1 < s.size
    · obtain ⟨h6, h7⟩ := h6
      have h7 : (1 : Int) < (s.size : Int) := by omega
      have h8 : ((((s[0]'h1).toNat : Nat) : Int) == 48) = true := by simp; omega
      clear hs
      go_enter Try.func51, Try.ntmps51
      go_wp2
      go_ret
      exact ⟨rfl, Below.refl _ _⟩
    · have HS := Lib.hid (show ¬ ∀ (i : Nat) (h : i < s.size), Dig (s[i]'h) from fun hd => hs ⟨h1, h2, fun h e => by
          rcases Nat.lt_or_ge 1 s.size with h' | h'
          · exact absurd ⟨e, h'⟩ h6
          · omega, hd⟩)
      clear hs
      have hor : (((((s[0]'h1).toNat : Nat) : Int) == 48) = false) ∨ ((((((s[0]'h1).toNat : Nat) : Int) == 48) = true) ∧ (s.size : Int) ≤ 1) := by
        by_cases h48 : (s[0]'h1).toNat = 48
        · exact .inr ⟨by simp; omega, by omega⟩
        · exact .inl (by simp; omega)
      clear h6
      rcases hor with h8 | ⟨h8, h7⟩
      all_goals
        go_enter Try.func51, Try.ntmps51
        go_wp2
        go_loopw [4] (fun _ W => ∃ pos : Nat, pos ≤ s.size ∧ Hid (∀ (i : Nat) (h : i < s.size), i < pos → Dig (s[i]'h)) ∧ W = w.iter s pos) (fun _ W => s.size - W.iterPos w.heap.size)
        case atStart => exact ⟨0, by omega, fun i _ h => absurd h (by omega), rfl⟩
        case round =>
          obtain ⟨pos, hp, HD, rfl⟩ := hrel
          by_cases hlt : pos < s.size
          · rcases Nat.lt_or_ge (s[pos]'hlt).toNat 128 with ha | ha
            · have hnx : ∀ ty, (Instr.next (.pointer (some ⟨w.heap.size, 0, none⟩)) true ty).run Try.prog (w.iter s pos) = _ := fun ty => run_next_ascii w s pos ty hlt ha
              obtain ⟨x, hx⟩ : ∃ x : Nat, x = (s[pos]'hlt).toNat := ⟨_, rfl⟩
              rw [← hx] at hnx ha
              have HX := Lib.hid hx
              clear hx
              rcases Nat.lt_or_ge x 48 with d0 | d0
              · have d0 : (x : Int) < 48 := by omega
                go_wp2
                go_ret
                exact ⟨rfl, bl_alloc (Below.refl _ _) _⟩
              · have d0 : (48 : Int) ≤ (x : Int) := by omega
                rcases Nat.lt_or_ge 57 x with d1 | d1
                · have d1 : (57 : Int) < (x : Int) := by omega
                  go_wp2
                  go_ret
                  exact ⟨rfl, bl_alloc (Below.refl _ _) _⟩
                · have d1 : (x : Int) ≤ 57 := by omega
                  go_wp2
                  go_roundw
                  case rel =>
                    refine ⟨pos + 1, by omega, fun i h hi => ?_, rfl⟩
                    rcases Nat.lt_or_ge i pos with h' | h'
                    · exact HD.out i h h'
                    · obtain rfl : i = pos := by omega
                      have := HX.out
                      unfold Dig; omega
                  case measure => simp; omega
            · have hdh := (decode_high s pos hlt ha).1
              have hdl := decode_le s pos
              have hnx : ∀ ty, (Instr.next (.pointer (some ⟨w.heap.size, 0, none⟩)) true ty).run Try.prog (w.iter s pos) = _ := fun ty => run_next_any w s pos ty hlt
              obtain ⟨x, hx⟩ : ∃ x : Nat, x = (Utf8.decode s pos).1 := ⟨_, rfl⟩
              obtain ⟨p2, hp2⟩ : ∃ p2 : Nat, p2 = pos + (Utf8.decode s pos).2 := ⟨_, rfl⟩
              rw [← hx] at hdh hdl
              simp only [← hx, ← hp2] at hnx
              clear hx hp2
              have d0 : (48 : Int) ≤ (x : Int) := by omega
              have d1 : (57 : Int) < (x : Int) := by omega
              go_wp2
              go_ret
              exact ⟨rfl, bl_alloc (Below.refl _ _) _⟩
          · exact absurd (fun i h => HD.out i h (by omega)) HS.out
  · have h3 := toList_nil (s := s) (by omega)
    clear hs
    go_enter Try.func51, Try.ntmps51
    go_wp2
    go_ret
    exact ⟨rfl, Below.refl _ _⟩
end Go.Proofs.Ytbgbmimgkhchhaa
