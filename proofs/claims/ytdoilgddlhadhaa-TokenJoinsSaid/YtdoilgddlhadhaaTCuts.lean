/-
  The walk of the law TokenCuts.
-/
import Derived.Test.YtdoilgddlhadhaaRefAll
namespace Go.Proofs.Ytdoilgddlhadhaa
open Go.RowKit

theorem own_cells {W : World} {B : Nat} {v : Value} {s : ByteArray} (hr : W.ownsRow B 37 2 v (toks (nums s)).length (tokVals s (toks (nums s)))) :
    ∃ ad cp, v = .slice ad (wordsOf s).length cp ∧ TokCells W ad (wordsOf s) := by
  have hlen : (wordsOf s).length = (toks (nums s)).length := by simp [wordsOf]
  rw [hlen]
  rcases hr.2 with ⟨rfl, h0⟩ | ⟨g, cp, cur, rfl, h1⟩
  · rw [h0]
    refine ⟨none, 0, rfl, fun i hi => ?_⟩
    rw [hlen, h0] at hi
    omega
  · refine ⟨_, cp, rfl, fun i hi => ?_⟩
    have hi' : i < (toks (nums s)).length := by rw [← hlen]; exact hi
    obtain ⟨e1, e2⟩ := tokVals_get s (toks (nums s)) i hi'
    refine ⟨g, 0, rfl, ?_, ?_⟩
    · rw [Nat.zero_add, hr.cellAt (i * 2) (by omega), e1]
      simp [wordsOf]
    · rw [Nat.zero_add, hr.cellAt (i * 2 + 1) (by omega), e2]
      simp [wordsOf]
theorem refAll_w (ad : Option Addr) (cap : Nat) (s : ByteArray) (hl : s.size ≤ 1048576) (hcap : s.size ≤ cap) (w : World) (hB : BytesIn w ad s) :
    Calls Try.prog 12 #[.slice ad s.size cap] w fun e W' => ∃ ad' cp, e = .returned (.tuple #[.slice ad' (wordsOf s).length cp, .int .i64 0]) ∧ TokCells W' ad' (wordsOf s) ∧ Below w.heap.size w W' := by
  refine (refAll_c ad cap s hl hcap w hB).mono ?_
  rintro e W' ⟨v, rfl, hT⟩
  obtain ⟨ad', cp, rfl, h⟩ := own_cells hT.own
  exact ⟨ad', cp, rfl, h, hT.hb⟩
theorem extract_all (s : ByteArray) : s.extract 0 s.size = s := by
  apply nums_inj
  rw [nums_extract, List.drop_zero, List.take_of_length_le (by rw [nums_length]; omega)]
theorem conv_empty (ad : Option Addr) (cp : Nat) (w : World) : (convert 22 9 (.slice ad 0 cp)).run Try.prog w = .ok (.string ByteArray.empty) w := by
  cases ad with
  | none => exact run_convert_bytes_nil w 22 5 Try.underlying22 Try.underlying5 0 cp 9 Try.underlying9
  | some a =>
    rw [run_convert_bytes_string w 22 9 5 _ 0 cp Try.underlying22 Try.underlying5 Try.underlying9]
    simp [Conv.bytesToString, loadCells, loadCellsFrom]
theorem text_of {w : World} {ad : Option Addr} {cap : Nat} {s : ByteArray} (hB : BytesIn w ad s) : TextOf w (.slice ad s.size cap) s := by
  intro w' hb
  rcases Nat.eq_zero_or_pos s.size with h0 | h0
  · rw [h0, conv_empty]
    congr 2
    apply nums_inj
    have h1 := nums_length s
    rw [h0] at h1
    rw [List.eq_nil_of_length_eq_zero h1]
    rfl
  · obtain ⟨g, o, rfl, -⟩ := hB 0 h0
    have h := conv_part (hB.below hb) 0 s.size cap (by omega) (Nat.le_refl _)
    rw [extract_all] at h
    simpa using h

set_option maxHeartbeats 2000000 in
set_option maxRecDepth 100000 in
theorem all_big (ad : Option Addr) (len cap : Nat) (h : 1048576 < len) (w : World) :
    Calls Try.prog 11 #[.slice ad len cap] w fun e W' => e = .returned (.tuple #[.slice none 0 0, .int .i64 3]) ∧ w = W' := by
  have hl' : (1048576 : Int) < (len : Int) := by omega
  go_enter Try.func11, Try.ntmps11
  go_wp2
  go_ret2
  exact ⟨rfl, rfl⟩
set_option maxHeartbeats 2000000 in
set_option maxRecDepth 100000 in
theorem refAll_big (ad : Option Addr) (len cap : Nat) (h : 1048576 < len) (w : World) :
    Calls Try.prog 12 #[.slice ad len cap] w fun e W' => e = .returned (.tuple #[.slice none 0 0, .int .i64 3]) ∧ w = W' := by
  have hl' : (1048576 : Int) < (len : Int) := by omega
  go_enter Try.func12, Try.ntmps12
  go_wp2
  go_ret2
  exact ⟨rfl, rfl⟩
theorem words_len (s : ByteArray) : (wordsOf s).length ≤ s.size + 1 := by
  have := toksN_len ((nums s).length + 1) (nums s) 0
  unfold wordsOf toks
  rw [List.length_map]
  rw [nums_length] at this ⊢
  exact this
theorem same_nil (w : World) : Calls Try.prog 13 #[.slice none 0 0, .slice none 0 0] w fun e w' => e = .returned (.bool true) ∧ ∃ m, w' = w.drewN m :=
  same_c none none 0 0 [] (by simp) w (fun i h => absurd h (by simp)) (fun i h => absurd h (by simp))

set_option maxHeartbeats 4000000 in
set_option maxRecDepth 100000 in
theorem tcuts_c (ad : Option Addr) (cap : Nat) (s : ByteArray) (hcap : s.size ≤ cap) (w : World) (hB : BytesIn w ad s) :
    Calls Try.prog 3 #[.slice ad s.size cap] w (Gives (.bool true) w) := by
  have HB := Lib.hid hB
  have HT : Hid (TextOf w (.slice ad s.size cap) s) := text_of hB
  have HL := Lib.hid (words_len s)
  clear hB
  obtain ⟨L, hL⟩ : ∃ L, (wordsOf s).length = L := ⟨_, rfl⟩
  have hLs : L ≤ s.size + 1 := by rw [← hL]; exact HL.out
  have HLL := Lib.hid hL
  go_enter Try.func3, Try.ntmps3
  by_cases h1 : s.size ≤ 5000
  · have h1' : (s.size : Int) ≤ 5000 := by omega
    go_upto_region 3 with (fail)
    go_cut [3, 4] (fun lv ev W => ∃ a1 c1, lv = .slice a1 L c1 ∧ ev = .int .i64 0 ∧ Hid (TokCells W a1 (wordsOf s)) ∧ Below w.heap.size w W)
    case first =>
      go_wp2_with (first
        | (go_at_call 11; (with_reducible refine (all_w ad s.size cap s rfl (by omega) _ HT.out).mono ?_); rintro e w1 ⟨a1, c1, rfl, hT1, hb1⟩
           rw [HLL.out])
        | go_in)
      go_meet
      case rel => exact ⟨a1, c1, rfl, rfl, hT1, hb1⟩
    case rest =>
    obtain ⟨a1, c1, rfl, rfl, HT1, hb⟩ := hcut
    have HBl := Lib.hid hb
    clear hb
    go_upto_region 4 with (fail)
    go_cut [5, 6] (fun lv ev W => ∃ a2 c2, lv = .slice a2 L c2 ∧ ev = .int .i64 0 ∧ Hid (TokCells W a1 (wordsOf s)) ∧ Hid (TokCells W a2 (wordsOf s)) ∧ Below w.heap.size w W)
    case first =>
      go_wp2_with (first
        | (go_at_call 12; (with_reducible refine (refAll_w ad cap s (by omega) hcap _ (HB.out.below HBl.out)).mono ?_); rintro e w1 ⟨a2, c2, rfl, hT2, hb2⟩
           have HB2 := Lib.hid hb2
           rw [HLL.out])
        | go_in)
      go_meet
      case rel => exact ⟨a2, c2, rfl, rfl, HT1.out.below HB2.out, hT2, bl_trans HBl.out HB2.out⟩
    case rest =>
    obtain ⟨a2, c2, rfl, rfl, HT2, HT3, hb⟩ := hcut
    clear HBl HT1
    have HBl := Lib.hid hb
    clear hb
    have hsame := same_c a1 a2 c1 c2 (wordsOf s) (by omega) wc HT2.out HT3.out
    rw [hL] at hsame
    have HS := Lib.hid hsame
    clear hsame hL
    go_wp2_with (first
      | (go_at_call 13; (with_reducible refine HS.out.mono ?_); rintro e w4 ⟨rfl, m, rfl⟩)
      | (go_at_call 10; (with_reducible refine (known_c _).mono ?_); rintro e w5 ⟨rfl, hb5⟩)
      | go_in)
    go_ret
    exact ⟨by first | rfl | simp, bl_trans (below_drewN' HBl.out _) hb5⟩
  · have h1' : (5000 : Int) < (s.size : Int) := by omega
    by_cases h2 : s.size ≤ 1048576
    · have h2' : (s.size : Int) ≤ 1048576 := by omega
      go_wp2_with (first
        | (go_at_call 10; (with_reducible refine (known_c _).mono ?_); rintro e w5 ⟨rfl, hb5⟩)
        | go_in)
      go_ret
      exact ⟨by first | rfl | simp, hb5⟩
    · have h2' : ¬ (s.size : Int) ≤ 1048576 := by omega
      go_wp2_with (first
        | (go_at_call 11; (with_reducible refine (all_big ad s.size cap (by omega) _).mono ?_); rintro e w1 ⟨rfl, rfl⟩)
        | (go_at_call 12; (with_reducible refine (refAll_big ad s.size cap (by omega) _).mono ?_); rintro e w1 ⟨rfl, rfl⟩)
        | (go_at_call 13; (with_reducible refine (same_nil _).mono ?_); rintro e w4 ⟨rfl, m, rfl⟩)
        | (go_at_call 10; (with_reducible refine (known_c _).mono ?_); rintro e w5 ⟨rfl, hb5⟩)
        | go_in)
      go_ret
      exact ⟨by first | rfl | simp, bl_trans (below_drewN' (Below.refl _ _) _) hb5⟩
end Go.Proofs.Ytdoilgddlhadhaa
