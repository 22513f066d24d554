/-
  Contracts: strings.CutPrefix, wide.isDecimal, wide.Parse at a text of digits.
-/
import Derived.Test.YtbgbmimgkhchhaaTen
import Derived.Test.YtbgbmimgkhchhaaFold
import Derived.Deep.DeepCutAuto
import Derived.Lib.OthersKept
namespace Go.Proofs.Ytbgbmimgkhchhaa
open Go.RowKit

/-- s is the text of a number without a sign and without a needless 0 in front -/
structure Dec (s : ByteArray) : Prop where
  pos : 0 < s.size
  small : s.size ≤ 1000
  lead : ∀ h : 0 < s.size, (s[0]'h).toNat = 48 → s.size = 1
  dig : ∀ (i : Nat) (h : i < s.size), 48 ≤ (s[i]'h).toNat ∧ (s[i]'h).toNat ≤ 57

theorem toList_ne {s : ByteArray} (h : 0 < s.size) : s.toList.isEmpty = false := by
  rw [ByteArray.toList_eq]
  rcases hl : s.data.toList with _ | ⟨x, l⟩
  · have : s.size = 0 := by rw [← ByteArray.size_data, ← Array.length_toList, hl]; rfl
    omega
  · rfl
theorem extract_first {s : ByteArray} (h : 0 < s.size) : (s.extract 0 1).toList = [s[0]'h] := by
  rw [ByteArray.toList_eq]
  have : (s.extract 0 1).data = s.data.extract 0 1 := by simp
  rw [this]
  apply List.ext_getElem
  · simp; omega
  · intro i h1 h2
    have : i = 0 := by simp at h2; omega
    subst this
    simp; rfl

set_option maxHeartbeats 1000000 in
set_option maxRecDepth 100000 in
theorem cutPrefix_no (s : ByteArray) (hs : Dec s) (w : World) :
    Calls Try.prog 50 #[.string s, .string ⟨#[45]⟩] w fun e w' => e = .returned (.tuple #[.string s, .bool false]) ∧ w = w' := by
  have h1 := hs.pos
  have h2 := hs.small
  have h3 : ((s.extract 0 1).toList == [45]) = false := by
    rw [extract_first h1]
    have := hs.dig 0 h1
    simp
    intro e
    rw [e] at this
    revert this; decide
  clear hs
  go_enter Try.func50, Try.ntmps50
  go_wp2
  refine bodyPost_ret (v := .tuple #[.string s, .bool false]) (by simp [results, Try.results50, go_sem]) rfl ⟨rfl, rfl⟩

set_option maxHeartbeats 1000000 in
set_option maxRecDepth 100000 in
theorem isDec_yes (s : ByteArray) (hs : Dec s) (w : World) :
    Calls Try.prog 51 #[.string s] w fun e w' => e = .returned (.bool true) ∧ Below w.heap.size w w' := by
  have h1 := hs.pos
  have h2 := hs.small
  have h3 := toList_ne h1
  have h4 : (s.toList == []) = false := by
    revert h3; cases s.toList <;> simp
  have HS := Lib.hid hs
  clear hs
  by_cases h6 : (s[0]'h1).toNat = 48
  · have h7 : (s.size : Int) ≤ 1 := by have := HS.out.lead h1 h6; omega
    go_enter Try.func51, Try.ntmps51
    go_wp2
    go_loopw [4] (fun _ W => ∃ pos : Nat, pos ≤ s.size ∧ W = w.iter s pos) (fun _ W => s.size - W.iterPos w.heap.size)
    case atStart => exact ⟨0, by omega, rfl⟩
    case round =>
      obtain ⟨pos, hp, rfl⟩ := hrel
      by_cases hlt : pos < s.size
      · have hd := HS.out.dig pos hlt
        have hnx : ∀ ty, (Instr.next (.pointer (some ⟨w.heap.size, 0, none⟩)) true ty).run Try.prog (w.iter s pos) = _ := fun ty => run_next_ascii w s pos ty hlt (by omega)
        have d0 : (48 : Int) ≤ ((s[pos]'hlt).toNat : Int) := by omega
        have d1 : ((s[pos]'hlt).toNat : Int) ≤ 57 := by omega
        go_wp2
        go_roundw
        case rel => exact ⟨pos + 1, by omega, rfl⟩
        case measure => simp; omega
      · have hnx : ∀ ty, (Instr.next (.pointer (some ⟨w.heap.size, 0, none⟩)) true ty).run Try.prog (w.iter s pos) = _ := fun ty => run_next_end w s pos ty hlt
        go_wp2
        go_ret
        exact ⟨rfl, bl_alloc (Below.refl _ _) _⟩
  · have h8 : ((((s[0]'h1).toNat : Nat) : Int) == 48) = false := by simp; omega
    go_enter Try.func51, Try.ntmps51
    go_wp2
    go_loopw [4] (fun _ W => ∃ pos : Nat, pos ≤ s.size ∧ W = w.iter s pos) (fun _ W => s.size - W.iterPos w.heap.size)
    case atStart => exact ⟨0, by omega, rfl⟩
    case round =>
      obtain ⟨pos, hp, rfl⟩ := hrel
      by_cases hlt : pos < s.size
      · have hd := HS.out.dig pos hlt
        have hnx : ∀ ty, (Instr.next (.pointer (some ⟨w.heap.size, 0, none⟩)) true ty).run Try.prog (w.iter s pos) = _ := fun ty => run_next_ascii w s pos ty hlt (by omega)
        have d0 : (48 : Int) ≤ ((s[pos]'hlt).toNat : Int) := by omega
        have d1 : ((s[pos]'hlt).toNat : Int) ≤ 57 := by omega
        go_wp2
        go_roundw
        case rel => exact ⟨pos + 1, by omega, rfl⟩
        case measure => simp; omega
      · have hnx : ∀ ty, (Instr.next (.pointer (some ⟨w.heap.size, 0, none⟩)) true ty).run Try.prog (w.iter s pos) = _ := fun ty => run_next_end w s pos ty hlt
        go_wp2
        go_ret
        exact ⟨rfl, bl_alloc (Below.refl _ _) _⟩
end Go.Proofs.Ytbgbmimgkhchhaa
