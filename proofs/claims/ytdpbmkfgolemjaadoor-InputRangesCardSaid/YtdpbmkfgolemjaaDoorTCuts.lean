/-
  The walk of the law TokenCuts.
-/
import Derived.Test.YtdpbmkfgolemjaaDoorRefAll
set_option linter.unusedVariables false
set_option linter.unusedSimpArgs false
set_option linter.deprecated false
namespace Go.Proofs.YtdpbmkfgolemjaaDoor
open Go.RowKit

theorem own_cells {W : World} {B : Nat} {v : Value} {s : ByteArray} (hr : W.ownsRow B 51 2 v (toks (nums s)).length (tokVals s (toks (nums s)))) :
    ∃ ad cp, v = .slice ad (wordsOf s).length cp ∧ TokCells W ad (wordsOf s) := by
  have hlen : (wordsOf s).length = (toks (nums s)).length := by simp [wordsOf]
  rw [hlen]
  rcases hr.2 with ⟨rfl, h0⟩ | ⟨g, cp, cur, rfl, h1⟩
  · rw [h0]
    refine ⟨none, 0, rfl, fun i hi => ?_⟩
    rw [hlen, h0] at hi
    omega
  · refine ⟨_, cp, rfl, fun i hi => ?_⟩
    have hi' : i < (toks (nums s)).length := by rw [← hlen]; exact hi
    obtain ⟨e1, e2⟩ := tokVals_get s (toks (nums s)) i hi'
    refine ⟨g, 0, rfl, ?_, ?_⟩
    · rw [Nat.zero_add, hr.cellAt (i * 2) (by omega), e1]
      simp [wordsOf]
    · rw [Nat.zero_add, hr.cellAt (i * 2 + 1) (by omega), e2]
      simp [wordsOf]
theorem refAll_w (ad : Option Addr) (cap : Nat) (s : ByteArray) (hl : s.size ≤ 1048576) (hcap : s.size ≤ cap) (w : World) (hB : BytesIn w ad s) :
    Calls Tryd.prog 20 #[.slice ad s.size cap] w fun e W' => ∃ ad' cp, e = .returned (.tuple #[.slice ad' (wordsOf s).length cp, .int .i64 0]) ∧ TokCells W' ad' (wordsOf s) ∧ Below w.heap.size w W' := by
  refine (refAll_c ad cap s hl hcap w hB).mono ?_
  rintro e W' ⟨v, rfl, hT⟩
  obtain ⟨ad', cp, rfl, h⟩ := own_cells hT.own
  exact ⟨ad', cp, rfl, h, hT.hb⟩
theorem extract_all (s : ByteArray) : s.extract 0 s.size = s := by
  apply nums_inj
  rw [nums_extract, List.drop_zero, List.take_of_length_le (by rw [nums_length]; omega)]
theorem conv_empty (ad : Option Addr) (cp : Nat) (w : World) : (convert 37 9 (.slice ad 0 cp)).run Tryd.prog w = .ok (.string ByteArray.empty) w := by
  cases ad with
  | none => exact run_convert_bytes_nil w 37 5 Tryd.underlying37 Tryd.underlying5 0 cp 9 Tryd.underlying9
  | some a =>
    rw [run_convert_bytes_string w 37 9 5 _ 0 cp Tryd.underlying37 Tryd.underlying5 Tryd.underlying9]
    simp [Conv.bytesToString, loadCells, loadCellsFrom]
theorem text_of {w : World} {ad : Option Addr} {cap : Nat} {s : ByteArray} (hB : BytesIn w ad s) : TextOf w (.slice ad s.size cap) s := by
  intro w' hb
  rcases Nat.eq_zero_or_pos s.size with h0 | h0
  · rw [h0, conv_empty]
    congr 2
    apply nums_inj
    have h1 := nums_length s
    rw [h0] at h1
    rw [List.eq_nil_of_length_eq_zero h1]
    rfl
  · obtain ⟨g, o, rfl, -⟩ := hB 0 h0
    have h := conv_part (hB.below hb) 0 s.size cap (by omega) (Nat.le_refl _)
    rw [extract_all] at h
    simpa using h

set_option maxHeartbeats 2000000 in
set_option maxRecDepth 100000 in
theorem all_big (ad : Option Addr) (len cap : Nat) (h : 1048576 < len) (w : World) :
    Calls Tryd.prog 31 #[.slice ad len cap] w fun e W' => e = .returned (.tuple #[.slice none 0 0, .int .i64 3]) ∧ w = W' := by
  have hl' : (1048576 : Int) < (len : Int) := by omega
  go_enter Tryd.func31, Tryd.ntmps31
  go_wp2
  go_ret2
  exact ⟨rfl, rfl⟩
set_option maxHeartbeats 2000000 in
set_option maxRecDepth 100000 in
theorem refAll_big (ad : Option Addr) (len cap : Nat) (h : 1048576 < len) (w : World) :
    Calls Tryd.prog 20 #[.slice ad len cap] w fun e W' => e = .returned (.tuple #[.slice none 0 0, .int .i64 3]) ∧ w = W' := by
  have hl' : (1048576 : Int) < (len : Int) := by omega
  go_enter Tryd.func20, Tryd.ntmps20
  go_wp2
  go_ret2
  exact ⟨rfl, rfl⟩
theorem words_len (s : ByteArray) : (wordsOf s).length ≤ s.size + 1 := by
  have := toksN_len ((nums s).length + 1) (nums s) 0
  unfold wordsOf toks
  rw [List.length_map]
  rw [nums_length] at this ⊢
  exact this
end Go.Proofs.YtdpbmkfgolemjaaDoor
