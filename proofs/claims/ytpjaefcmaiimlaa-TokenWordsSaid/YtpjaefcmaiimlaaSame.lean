/-
  Contract of the document's side: Same, of two rows of the same words.
-/
import Derived.Test.YtpjaefcmaiimlaaLows
import Derived.Test.YtpjaefcmaiimlaaQuots
import Derived.Deep.QuietTactic
import Derived.Deep.DeepCutAuto
import Derived.BigQuiet
set_option linter.unusedVariables false
set_option linter.unusedSimpArgs false
set_option linter.deprecated false
namespace Go.Proofs.Ytpjaefcmaiimlaa
open Go.RowKit

/-- the words of a slice, in memory -/
def TokCells (w : World) (ad : Option Addr) (ts : List (Nat × ByteArray)) : Prop :=
  ∀ i (h : i < ts.length), ∃ g o, ad = some ⟨g, o, none⟩ ∧ w.cell? ⟨g, o + i * 2, none⟩ = some (.int .i64 ((ts[i].1 : Nat) : Int)) ∧ w.cell? ⟨g, o + i * 2 + 1, none⟩ = some (.string ts[i].2)
theorem TokCells.below {w w' : World} {ad : Option Addr} {ts : List (Nat × ByteArray)} (h : TokCells w ad ts) (hb : Below w.heap.size w w') : TokCells w' ad ts := by
  intro i hi
  obtain ⟨g, o, e, h1, h2⟩ := h i hi
  exact ⟨g, o, e, (hb.cell (cell_lt h1)).trans h1, (hb.cell (cell_lt h2)).trans h2⟩

set_option maxRecDepth 100000 in
theorem eqTok (x : Int) (s : ByteArray) (w : World) : (Op.equalIn 10000 32 (.agg #[.int .i64 x, .string s]) (.agg #[.int .i64 x, .string s])).run Try.prog w = .ok true w := by
  have hS : Try.prog.underlying 32 = some (.struct (Try.prog.fieldsOf 32)) := by kernel_rfl
  have hp : Try.prog.stoodInHeld 32 = false := by kernel_rfl
  have u4 := Try.underlying3
  have u5 := Try.underlying9
  rw [show (10000 : Nat) = 9999 + 1 from rfl, run_equalIn_agg w 9999 32 _ _ hS hp]
  simp only [Program.fieldsOf, Try.underlying32]
  go_simp

set_option maxHeartbeats 2000000 in
set_option maxRecDepth 100000 in
theorem same_c (ad ad' : Option Addr) (cap cap' : Nat) (ts : List (Nat × ByteArray)) (hn : ts.length ≤ 4000000) (w : World) (h1 : TokCells w ad ts) (h2 : TokCells w ad' ts) :
    Calls Try.prog 16 #[.slice ad ts.length cap, .slice ad' ts.length cap'] w fun e w' => e = .returned (.bool true) ∧ ∃ m, w' = w.drewN m := by
  have H1 := Lib.hid h1
  have H2 := Lib.hid h2
  clear h1 h2
  go_enter Try.func16, Try.ntmps16
  go_wp2
  go_loopw [5] (fun iv W => ∃ i m : Nat, iv = .int .i64 (i : Int) ∧ i ≤ ts.length ∧ W = w.drewN m) (fun iv _ => 4000001 - (intOf iv).toNat)
  case atStart => exact ⟨0, 0, rfl, by omega, rfl⟩
  case round =>
    obtain ⟨i, m, rfl, hi, rfl⟩ := hrel
    by_cases hlt : i < ts.length
    · have b1 : decide ((i : Int) < (ts.length : Int)) = true := by simp; omega
      obtain ⟨g, o, rfl, c0, c1⟩ := H1.out i hlt
      obtain ⟨g', o', rfl, d0, d1⟩ := H2.out i hlt
      obtain ⟨x, hx⟩ : ∃ x, x = ts[i] := ⟨_, rfl⟩
      rw [← hx] at c0 c1 d0 d1
      obtain ⟨xa, xt⟩ := x
      dsimp only at c0 c1 d0 d1
      clear hx
      have q := eqTok (xa : Int) xt
      have hii : (i : Int) < (ts.length : Int) := by omega
      go_upto_region 6 with (fail)
      go_quiet (fail)
      go_wp2
      go_roundw
      case rel => exact ⟨i + 1, _, by first | rfl | simp, by omega, by first | rfl | (rw [World.drewN_add]) | simp⟩
      case measure => simp [intOf] <;> omega
    · have b1 : decide ((i : Int) < (ts.length : Int)) = false := by simp; omega
      go_wp2
      go_ret
      exact ⟨rfl, m, rfl⟩
end Go.Proofs.Ytpjaefcmaiimlaa
