/-
  Contracts of the token layer: isBlank, wordStart, wordEnd; the words of a text.
-/
import Derived.Test.YtdpbmkfgolemjaaDoorCut
set_option linter.unusedVariables false
set_option linter.unusedSimpArgs false
set_option linter.deprecated false
namespace Go.Proofs.YtdpbmkfgolemjaaDoor
open Go.RowKit

def blankZ (c : Int) : Bool := c == 32 || c == 9 || c == 13 || c == 10
/-- where the next word begins: in a comment or not; the bytes from place k on -/
def ws : Bool → List Int → Nat → Nat
  | _, [], k => k
  | true, x :: r, k => ws (x != 10) r (k + 1)
  | false, x :: r, k => if x = 35 then ws true r (k + 1) else if blankZ x then ws false r (k + 1) else k
/-- where a word ends -/
def we : List Int → Nat → Nat
  | [], k => k
  | x :: r, k => if blankZ x then k else we r (k + 1)
theorem ws_ge : ∀ (l : List Int) (c : Bool) (k : Nat), k ≤ ws c l k ∧ ws c l k ≤ k + l.length
  | [], c, k => by cases c <;> simp [ws]
  | x :: r, true, k => by
    have := ws_ge r (x != 10) (k + 1)
    simp only [ws, List.length_cons]; omega
  | x :: r, false, k => by
    simp only [ws, List.length_cons]
    split
    · have := ws_ge r true (k + 1); omega
    · split
      · have := ws_ge r false (k + 1); omega
      · omega
theorem we_ge : ∀ (l : List Int) (k : Nat), k ≤ we l k ∧ we l k ≤ k + l.length
  | [], k => by simp [we]
  | x :: r, k => by
    simp only [we, List.length_cons]
    split
    · omega
    · have := we_ge r (k + 1); omega
theorem drop_nums {s : ByteArray} {k : Nat} (h : k < s.size) : (nums s).drop k = ((s[k]'h).toNat : Int) :: (nums s).drop (k + 1) := by
  have hl : k < (nums s).length := by rw [nums_length]; exact h
  rw [List.drop_eq_getElem_cons hl]
  congr 1
  have := nums_get s k h
  rw [List.getD_eq_getElem?_getD, List.getElem?_eq_getElem hl] at this
  simpa using this

set_option maxHeartbeats 1000000 in
set_option maxRecDepth 100000 in
theorem isBlank_c (c : Int) (w : World) : Calls Tryd.prog 65 #[.int .u8 c] w fun e w' => e = .returned (.bool (blankZ c)) ∧ w = w' := by
  by_cases h1 : c = 32
  · subst h1
    go_enter Tryd.func65, Tryd.ntmps65
    go_wp2
    go_ret
    exact ⟨rfl, rfl⟩
  by_cases h2 : c = 9
  · subst h2
    go_enter Tryd.func65, Tryd.ntmps65
    go_wp2
    go_ret
    exact ⟨rfl, rfl⟩
  by_cases h3 : c = 13
  · subst h3
    go_enter Tryd.func65, Tryd.ntmps65
    go_wp2
    go_ret
    exact ⟨rfl, rfl⟩
  by_cases h4 : c = 10
  · subst h4
    go_enter Tryd.func65, Tryd.ntmps65
    go_wp2
    go_ret
    exact ⟨rfl, rfl⟩
  have HB : Hid (blankZ c = false) := by unfold Hid blankZ; simp [h1, h2, h3, h4]
  have b1 : (c == 32) = false := by simp [h1]
  have b2 : (c == 9) = false := by simp [h2]
  have b3 : (c == 13) = false := by simp [h3]
  have b4 : (c == 10) = false := by simp [h4]
  go_enter Tryd.func65, Tryd.ntmps65
  go_wp2
  go_ret
  exact ⟨by rw [HB.out]; first | rfl | simp, by first | rfl | trivial⟩

def NatP (n : Nat) (w : World) (e : Ending) (w' : World) : Prop := e = .returned (.int .i64 (n : Int)) ∧ w = w'
set_option maxHeartbeats 1000000 in
set_option maxRecDepth 100000 in
theorem wordEnd_c (s : ByteArray) (h2 : s.size ≤ 4000000) (k : Nat) (hk : k ≤ s.size) (w : World) :
    Calls Tryd.prog 55 #[.string s, .int .i64 (k : Int)] w (NatP (we ((nums s).drop k) k) w) := by
  go_enter Tryd.func55, Tryd.ntmps55
  go_wp2
  go_loopw [1] (fun kv W => ∃ j : Nat, kv = .int .i64 (j : Int) ∧ k ≤ j ∧ j ≤ s.size ∧ Hid (we ((nums s).drop k) k = we ((nums s).drop j) j) ∧ w = W) (fun kv _ => 4000001 - (intOf kv).toNat)
  case atStart => exact ⟨k, rfl, by omega, hk, rfl, rfl⟩
  case round =>
    obtain ⟨j, rfl, hkj, hj, HQ, rfl⟩ := hrel
    by_cases hlt : j < s.size
    · obtain ⟨c, hc⟩ : ∃ c : Nat, (s[j]'hlt).toNat = c := ⟨_, rfl⟩
      have HD : Hid ((nums s).drop j = (c : Int) :: (nums s).drop (j + 1)) := by unfold Hid; rw [drop_nums hlt, hc]
      obtain ⟨b, hb⟩ : ∃ b, blankZ (c : Int) = b := ⟨_, rfl⟩
      have HB := Lib.hid hb
      have b1 : decide ((j : Int) < (s.size : Int)) = true := by simp; omega
      cases b
      · go_wp2_with (first
          | (go_at_call 65; (with_reducible refine (isBlank_c (c : Int) _).mono ?_); rintro e w1 ⟨rfl, rfl⟩; rw [HB.out])
          | go_in)
        go_roundw
        case rel => exact ⟨j + 1, by first | rfl | simp, by omega, by omega, by rw [HQ.out, HD.out]; simp only [we]; rw [HB.out]; rfl, by first | rfl | trivial⟩
        case measure => simp [intOf] <;> omega
      · go_wp2_with (first
          | (go_at_call 65; (with_reducible refine (isBlank_c (c : Int) _).mono ?_); rintro e w1 ⟨rfl, rfl⟩; rw [HB.out])
          | go_in)
        go_ret
        exact ⟨by rw [HQ.out, HD.out]; simp only [we]; rw [HB.out]; rfl, by first | rfl | trivial⟩
    · have b1 : decide ((j : Int) < (s.size : Int)) = false := by simp; omega
      go_wp2
      go_ret
      exact ⟨by rw [HQ.out, List.drop_of_length_le (by rw [nums_length]; omega)]; rfl, by first | rfl | trivial⟩

set_option maxHeartbeats 2000000 in
set_option maxRecDepth 100000 in
theorem wordStart_c (s : ByteArray) (h2 : s.size ≤ 4000000) (k : Nat) (hk : k ≤ s.size) (w : World) :
    Calls Tryd.prog 54 #[.string s, .int .i64 (k : Int)] w (NatP (ws false ((nums s).drop k) k) w) := by
  go_enter Tryd.func54, Tryd.ntmps54
  go_wp2
  go_loopw [1, 5] (fun kv cv W => ∃ (j : Nat) (cm : Bool), kv = .int .i64 (j : Int) ∧ cv = .bool cm ∧ j ≤ s.size ∧ Hid (ws false ((nums s).drop k) k = ws cm ((nums s).drop j) j) ∧ w = W) (fun kv _ _ => 4000001 - (intOf kv).toNat)
  case atStart => exact ⟨k, false, rfl, rfl, hk, rfl, rfl⟩
  case round =>
    obtain ⟨j, cm, rfl, rfl, hj, HQ, rfl⟩ := hrel
    by_cases hlt : j < s.size
    · obtain ⟨c, hc⟩ : ∃ c : Nat, (s[j]'hlt).toNat = c := ⟨_, rfl⟩
      have HD : Hid ((nums s).drop j = (c : Int) :: (nums s).drop (j + 1)) := by unfold Hid; rw [drop_nums hlt, hc]
      have b1 : decide ((j : Int) < (s.size : Int)) = true := by simp; omega
      cases cm
      · by_cases h35 : c = 35
        · subst h35
          go_wp2
          go_roundw
          case rel => exact ⟨j + 1, true, by first | rfl | simp, rfl, by omega, by rw [HQ.out, HD.out]; rfl, by first | rfl | trivial⟩
          case measure => simp [intOf] <;> omega
        · obtain ⟨b, hb⟩ : ∃ b, blankZ (c : Int) = b := ⟨_, rfl⟩
          have HB := Lib.hid hb
          have HC := Lib.hid (show ¬ (c : Int) = 35 by omega)
          have h35' : ((c : Int) == 35) = false := by simp; omega
          clear h35
          cases b
          · go_wp2_with (first
              | (go_at_call 65; (with_reducible refine (isBlank_c (c : Int) _).mono ?_); rintro e w1 ⟨rfl, rfl⟩; rw [HB.out])
              | go_in)
            go_ret
            exact ⟨by rw [HQ.out, HD.out]; simp only [ws]; rw [if_neg HC.out, HB.out]; rfl, by first | rfl | trivial⟩
          · go_wp2_with (first
              | (go_at_call 65; (with_reducible refine (isBlank_c (c : Int) _).mono ?_); rintro e w1 ⟨rfl, rfl⟩; rw [HB.out])
              | go_in)
            go_roundw
            case rel => exact ⟨j + 1, false, by first | rfl | simp, rfl, by omega, by rw [HQ.out, HD.out]; simp only [ws]; rw [if_neg HC.out, HB.out]; rfl, by first | rfl | trivial⟩
            case measure => simp [intOf] <;> omega
      · obtain ⟨nb, hnb⟩ : ∃ nb, ((c : Int) != 10) = nb := ⟨_, rfl⟩
        have HN := Lib.hid hnb
        go_wp2
        go_roundw
        case rel => exact ⟨j + 1, nb, by first | rfl | simp, by first | rfl | simp, by omega, by rw [HQ.out, HD.out]; show ws ((c : Int) != 10) _ _ = _; rw [HN.out], by first | rfl | trivial⟩
        case measure => simp [intOf] <;> omega
    · have b1 : decide ((j : Int) < (s.size : Int)) = false := by simp; omega
      go_wp2
      go_ret
      exact ⟨by rw [HQ.out, List.drop_of_length_le (by rw [nums_length]; omega)]; cases cm <;> rfl, by first | rfl | trivial⟩
end Go.Proofs.YtdpbmkfgolemjaaDoor
