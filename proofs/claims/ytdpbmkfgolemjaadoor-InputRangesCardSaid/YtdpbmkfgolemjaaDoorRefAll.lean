/-
  Contract of the document's side: All.
-/
import Derived.Test.YtdpbmkfgolemjaaDoorRefAllMath
import Derived.Test.YtdpbmkfgolemjaaDoorTokKnown
import Derived.OwnWalk
set_option linter.unusedVariables false
set_option linter.unusedSimpArgs false
set_option linter.deprecated false
namespace Go.Proofs.YtdpbmkfgolemjaaDoor
open Go.RowKit

/-- the bytes of a slice in memory -/
def BytesIn (w : World) (ad : Option Addr) (s : ByteArray) : Prop := ∀ i (h : i < s.size), ∃ g o, ad = some ⟨g, o, none⟩ ∧ w.cell? ⟨g, o + i, none⟩ = some (.int .u8 (((s[i]'h).toNat : Nat) : Int))
theorem BytesIn.below {w w' : World} {ad : Option Addr} {s : ByteArray} (h : BytesIn w ad s) (hb : Below w.heap.size w w') : BytesIn w' ad s := by
  intro i hi
  obtain ⟨g, o, e, h1⟩ := h i hi
  exact ⟨g, o, e, (hb.cell (cell_lt h1)).trans h1⟩
theorem nums_extract (s : ByteArray) (a b : Nat) : nums (s.extract a b) = ((nums s).take b).drop a := by
  unfold nums
  have : (s.extract a b).data = s.data.extract a b := by simp
  rw [this, Array.toList_extract, List.extract_eq_drop_take', List.map_drop, List.map_take]
theorem conv_part {w : World} {g o : Nat} {s : ByteArray} (hB : BytesIn w (some ⟨g, o, none⟩) s) (a b c : Nat) (hab : a ≤ b) (hbs : b ≤ s.size) :
    (convert 37 9 (.slice (some ⟨g, o + a, none⟩) (b - a) c)).run Tryd.prog w = .ok (.string (s.extract a b)) w := by
  have hl : (nums (s.extract a b)).length = b - a := by
    rw [nums_extract, List.length_drop, List.length_take, nums_length]; omega
  have h := run_convert_bytes_arg w 37 5 Tryd.underlying37 Tryd.underlying5 g (o + a) (b - a) c (nums (s.extract a b)) hl (fun i hi => by
    obtain ⟨g', o', e, h1⟩ := hB (a + i) (by omega)
    injection e with e
    injection e with e1 e2
    subst e1 e2
    rw [Nat.add_assoc, h1]
    congr 2
    have h2 : a + i < s.size := by omega
    have h3 := nums_get s (a + i) h2
    rw [← h3, nums_extract, List.getD_eq_getElem?_getD, List.getD_eq_getElem?_getD, List.getElem?_drop, List.getElem?_take, if_pos (by omega)]) 9 Tryd.underlying9
  rw [str_nums] at h
  exact h

/-- the words so far, in the call's own memory -/
structure Tw (B : Nat) (w : World) (s : ByteArray) (v : Value) (done : List (Nat × Nat)) (W : World) : Prop where
  own : W.ownsRow B 51 2 v done.length (tokVals s done)
  hb : Below B w W
  sz : B ≤ W.heap.size
theorem Tw.alloc {B : Nat} {w W : World} {s : ByteArray} {v : Value} {done : List (Nat × Nat)} (h : Tw B w s v done W) (o : Obj) : Tw B w s v done (W.alloc o) :=
  ⟨h.own.alloc o, h.hb.alloc h.sz o, by simp; have := h.sz; omega⟩
theorem Tw.more {B : Nat} {w W W' : World} {s : ByteArray} {v v' : Value} {done : List (Nat × Nat)} {x : Nat × Nat} (h : Tw B w s v done W) (ho : W'.ownsRow B 51 2 v' (done.length + 1) (tokVals s done ++ [.int .i64 (x.1 : Int), .string (s.extract x.1 x.2)])) (hg : W.grownBy W' v.ownBlock) : Tw B w s v' (done ++ [x]) W' :=
  ⟨by rw [tokVals_snoc]; simpa using ho, h.hb.grown hg h.sz (fun k e => (h.own.lt k e).1), Nat.le_trans h.sz hg.size⟩
def frV : Option Nat → Int
  | none => -1
  | some a => (a : Int)
def InvO (l : List Int) (done : List (Nat × Nat)) (cm : Bool) (fr : Option Nat) (i : Nat) : Prop :=
  match fr with
  | none => InvN l done cm i
  | some a => cm = false ∧ InvS l done a i
def RA (w : World) (s : ByteArray) (ov cv fv iv : Value) (W : World) : Prop :=
  ∃ (i : Nat) (cm : Bool) (fr : Option Nat) (done : List (Nat × Nat)), iv = .int .i64 (i : Int) ∧ cv = .bool cm ∧ fv = .int .i64 (frV fr) ∧ i ≤ s.size + 1 ∧ Hid (InvO (nums s) done cm fr i) ∧ Tw w.heap.size w s ov done W

set_option maxHeartbeats 8000000 in
set_option maxRecDepth 100000 in
theorem refAll_c (ad : Option Addr) (cap : Nat) (s : ByteArray) (hl : s.size ≤ 1048576) (hcap : s.size ≤ cap) (w : World) (hB : BytesIn w ad s) :
    Calls Tryd.prog 20 #[.slice ad s.size cap] w fun e W' => ∃ v, e = .returned (.tuple #[v, .int .i64 0]) ∧ Tw w.heap.size w s v (toks (nums s)) W' := by
  obtain ⟨i0, hi, hz0, hz1, hz2⟩ := info_parts info_tok
  have HB := Lib.hid hB
  clear hB
  have hl' : (s.size : Int) ≤ 1048576 := by omega
  have hlen : (nums s).length = s.size := nums_length s
  go_enter Tryd.func20, Tryd.ntmps20
  go_wp2
  go_loopw [4, 5, 6, 7] (fun ov cv fv iv W => RA w s ov cv fv iv W) (fun _ _ _ iv _ => s.size + 2 - (intOf iv).toNat)
  case atStart => exact ⟨0, false, none, [], rfl, rfl, rfl, by omega, inv_zero _, World.ownsRow_nil _ _ _ _, Below.refl _ _, Nat.le_refl _⟩
  case round =>
    obtain ⟨i, cm, fr, done, rfl, rfl, rfl, hi1, HI, hT⟩ := hrel
    have HT := Lib.hid hT
    have hsz := hT.sz
    clear hT
    by_cases hgo : i ≤ s.size
    · have b1 : decide ((i : Int) ≤ (s.size : Int)) = true := by simp; omega
      by_cases hlt : i < s.size
      · have b2 : decide ((i : Int) < (s.size : Int)) = true := by simp; omega
        have hii : (i : Int) < (s.size : Int) := by omega
        obtain ⟨g, o, rfl, hc⟩ := HB.out i hlt
        have hcell := (HT.out.hb.cell (cell_lt hc)).trans hc
        obtain ⟨c, hcn⟩ : ∃ c : Nat, (s[i]'hlt).toNat = c := ⟨_, rfl⟩
        have HX : Hid ((nums s).getD i 0 = (c : Int)) := by unfold Hid; rw [nums_get s i hlt, hcn]
        rw [hcn] at hcell
        clear hc hcn
        obtain ⟨bl, hbl⟩ : ∃ bl, blankZ (c : Int) = bl := ⟨_, rfl⟩
        have HBL := Lib.hid hbl
        clear hbl
        go_upto_region 12 with (fail)
        go_cut [9] (fun bv W => bv = .bool bl ∧ wr = W)
        case first =>
          have hor : ((c : Int) = 32 ∨ (c : Int) = 9 ∨ (c : Int) = 13 ∨ (c : Int) = 10) ∨ (((c : Int) == 32) = false ∧ ((c : Int) == 9) = false ∧ ((c : Int) == 13) = false ∧ ((c : Int) == 10) = false) := by
            simp only [beq_eq_false_iff_ne]; omega
          have HBL2 := HBL.out
          clear hcell
          rcases hor with (h | h | h | h) | ⟨h1, h2, h3, h4⟩
          · obtain rfl : c = 32 := by omega
            obtain rfl : true = bl := HBL2
            go_wp2
            go_meet
            case rel => exact ⟨by first | rfl | simp, rfl⟩
          · obtain rfl : c = 9 := by omega
            obtain rfl : true = bl := HBL2
            go_wp2
            go_meet
            case rel => exact ⟨by first | rfl | simp, rfl⟩
          · obtain rfl : c = 13 := by omega
            obtain rfl : true = bl := HBL2
            go_wp2
            go_meet
            case rel => exact ⟨by first | rfl | simp, rfl⟩
          · obtain rfl : c = 10 := by omega
            obtain rfl : true = bl := HBL2
            go_wp2
            go_meet
            case rel => exact ⟨by first | rfl | simp, rfl⟩
          · obtain rfl : bl = false := by rw [← HBL2]; unfold blankZ; rw [h1, h2, h3, h4]; rfl
            go_wp2
            go_meet
            case rel => exact ⟨by first | rfl | simp, rfl⟩
        case rest =>
        obtain ⟨rfl, rfl⟩ := hcut
        have hil : i < (nums s).length := by omega
        cases cm
        · cases fr with
          | none =>
            have hN : Hid (InvN (nums s) done false i) := HI.out
            simp only [frV]
            by_cases h35 : c = 35
            · subst h35
              obtain rfl : bl = false := HBL.out.symm
              have HQ : Hid (InvN (nums s) done true (i + 1)) := inv_D hil HX.out hN.out
              go_wp2
              go_roundw
              case rel => exact ⟨i + 1, true, none, done, by first | rfl | simp, rfl, by first | rfl | simp, by omega, HQ.out, HT.out⟩
              case measure => simp [intOf] <;> omega
            · have h35' : ((c : Int) == 35) = false := by simp; omega
              have H35 := Lib.hid (show (c : Int) ≠ 35 by omega)
              clear h35
              cases bl
              · have HQ : Hid (InvS (nums s) done i (i + 1)) := inv_E hil HX.out HBL.out H35.out hN.out
                go_wp2
                go_roundw
                case rel => exact ⟨i + 1, false, some i, done, by first | rfl | simp, rfl, by first | rfl | simp, by omega, ⟨rfl, HQ.out⟩, HT.out⟩
                case measure => simp [intOf] <;> omega
              · have HQ : Hid (InvN (nums s) done false (i + 1)) := inv_F hil HX.out HBL.out hN.out
                go_wp2
                go_roundw
                case rel => exact ⟨i + 1, false, none, done, by first | rfl | simp, rfl, by first | rfl | simp, by omega, HQ.out, HT.out⟩
                case measure => simp [intOf] <;> omega
          | some a =>
            have hS : Hid (InvS (nums s) done a i) := HI.out.2
            have hai : a < i := by obtain ⟨f, h1, h2, -⟩ := hS.out; exact h2
            simp only [frV]
            have ha0 : ¬ (a : Int) < 0 := by omega
            cases bl
            · have HQ : Hid (InvS (nums s) done a (i + 1)) := inv_C hil HX.out HBL.out hS.out
              go_wp2
              go_roundw
              case rel => exact ⟨i + 1, false, some a, done, by first | rfl | simp, rfl, by first | rfl | simp, by omega, ⟨rfl, HQ.out⟩, HT.out⟩
              case measure => simp [intOf] <;> omega
            · have HQ : Hid (InvN (nums s) (done ++ [(a, i)]) false (i + 1)) := inv_B hil HX.out HBL.out hS.out
              have e1 : (a : Int) ≤ (i : Int) := by omega
              have e2 : (i : Int) ≤ (cap : Int) := by omega
              have hdl : done.length ≤ 1048577 := by have := invS_len hS.out; omega
              have hcv := conv_part (HB.out.below HT.out.hb) a i (cap - a) (by omega) (by omega)
              go_wp2_with (first
                | (at_builtin; refine wpList_append_own _ rfl _ _ 46 rfl w.heap.size 51 i0 (.agg #[.int .i64 0, .string ⟨#[]⟩]) 2 24 Tryd.underlying46 hi hz0 hz1 hz2 rfl (by decide) _ _ _ rfl (HT.out.alloc _).own ⟨wr.heap.size, 0, none⟩ 1 1 [.int .i64 (a : Int), .string (s.extract a i)] rfl rfl (cells_two_new _ _ _ _) (by intro u hu; simp at hu; rcases hu with rfl | rfl <;> rfl) (by unfold maxLen; omega) (by omega) (by simp; omega) ?_)
                | go_in)
              intro v' w1 hown' hgrow _
              have R : Hid (Tw w.heap.size w s v' (done ++ [(a, i)]) w1) := (HT.out.alloc _).more hown' hgrow
              clear hown' hgrow hcv
              go_wp2
              go_roundw
              case rel => exact ⟨i + 1, false, none, done ++ [(a, i)], by first | rfl | simp, rfl, by first | rfl | simp, by omega, HQ.out, R.out⟩
              case measure => simp [intOf] <;> omega
        · cases fr with
          | none =>
            have hN : Hid (InvN (nums s) done true i) := HI.out
            obtain ⟨nb, hnb⟩ : ∃ nb, ((c : Int) != 10) = nb := ⟨_, rfl⟩
            have HQ : Hid (InvN (nums s) done nb (i + 1)) := by rw [← hnb]; exact inv_A hil HX.out hN.out
            simp only [frV]
            go_wp2
            go_roundw
            case rel => exact ⟨i + 1, nb, none, done, by first | rfl | simp, by first | rfl | simp, by first | rfl | simp, by omega, HQ.out, HT.out⟩
            case measure => simp [intOf] <;> omega
          | some a => exact absurd HI.out.1 (by simp)
      · obtain rfl : i = s.size := by omega
        have b2 : decide ((s.size : Int) < (s.size : Int)) = false := by simp
        cases cm
        · cases fr with
          | none =>
            have hN : Hid (InvN (nums s) done false s.size) := HI.out
            have HQ : Hid (InvN (nums s) done false (s.size + 1)) := invN_end hlen.symm hN.out
            simp only [frV]
            go_wp2
            go_roundw
            case rel => exact ⟨s.size + 1, false, none, done, by first | rfl | simp, rfl, by first | rfl | simp, by omega, HQ.out, HT.out⟩
            case measure => simp [intOf] <;> omega
          | some a =>
            have hS : Hid (InvS (nums s) done a s.size) := HI.out.2
            have hai : a < s.size := by obtain ⟨f, h1, h2, -⟩ := hS.out; exact h2
            have HQ : Hid (InvN (nums s) (done ++ [(a, s.size)]) false (s.size + 1)) := inv_B2 hlen.symm hS.out
            simp only [frV]
            have ha0 : ¬ (a : Int) < 0 := by omega
            obtain ⟨g, o, rfl, -⟩ := HB.out a hai
            have e1 : (a : Int) ≤ (s.size : Int) := by omega
            have e2 : (s.size : Int) ≤ (cap : Int) := by omega
            have hdl : done.length ≤ 1048577 := by have := invS_len hS.out; omega
            have hcv := conv_part (HB.out.below HT.out.hb) a s.size (cap - a) (by omega) (by omega)
            go_wp2_with (first
              | (at_builtin; refine wpList_append_own _ rfl _ _ 46 rfl w.heap.size 51 i0 (.agg #[.int .i64 0, .string ⟨#[]⟩]) 2 24 Tryd.underlying46 hi hz0 hz1 hz2 rfl (by decide) _ _ _ rfl (HT.out.alloc _).own ⟨wr.heap.size, 0, none⟩ 1 1 [.int .i64 (a : Int), .string (s.extract a s.size)] rfl rfl (cells_two_new _ _ _ _) (by intro u hu; simp at hu; rcases hu with rfl | rfl <;> rfl) (by unfold maxLen; omega) (by omega) (by simp; omega) ?_)
              | go_in)
            intro v' w1 hown' hgrow _
            have R : Hid (Tw w.heap.size w s v' (done ++ [(a, s.size)]) w1) := (HT.out.alloc _).more hown' hgrow
            clear hown' hgrow hcv
            go_wp2
            go_roundw
            case rel => exact ⟨s.size + 1, false, none, done ++ [(a, s.size)], by first | rfl | simp, rfl, by first | rfl | simp, by omega, HQ.out, R.out⟩
            case measure => simp [intOf] <;> omega
        · cases fr with
          | none =>
            have hN : Hid (InvN (nums s) done true s.size) := HI.out
            have HQ : Hid (InvN (nums s) done false (s.size + 1)) := invN_end hlen.symm hN.out
            simp only [frV]
            go_wp2
            go_roundw
            case rel => exact ⟨s.size + 1, false, none, done, by first | rfl | simp, by first | rfl | simp, by first | rfl | simp, by omega, HQ.out, HT.out⟩
            case measure => simp [intOf] <;> omega
          | some a => exact absurd HI.out.1 (by simp)
    · obtain rfl : i = s.size + 1 := by omega
      have b1 : decide (((s.size + 1 : Nat) : Int) ≤ (s.size : Int)) = false := by simp; omega
      have hno : ¬ ((s.size : Int) + 1 ≤ (s.size : Int)) := by omega
      cases fr with
      | none =>
        have HD : Hid (toks (nums s) = done) := inv_done (by omega) (show InvN (nums s) done cm (s.size + 1) from HI.out)
        go_wp2
        go_ret2
        exact ⟨_, rfl, by rw [HD.out]; exact HT.out⟩
      | some a =>
        have hS : InvS (nums s) done a (s.size + 1) := HI.out.2
        obtain ⟨f, h1, -⟩ := hS
        omega
end Go.Proofs.YtdpbmkfgolemjaaDoor
