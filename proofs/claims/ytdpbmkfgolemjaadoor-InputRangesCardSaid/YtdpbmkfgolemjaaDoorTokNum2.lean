/-
  Contracts of the token layer: upTo, Number.
-/
import Derived.Test.YtdpbmkfgolemjaaDoorTokNum
set_option linter.unusedVariables false
set_option linter.unusedSimpArgs false
set_option linter.deprecated false
namespace Go.Proofs.YtdpbmkfgolemjaaDoor
open Go.RowKit

/-- what upTo answers of digits -/
def UpIs (v : Int) (b : Bool) (l : List Int) (most : Int) : Prop := (b = true ∧ v = dv l ∧ dv l ≤ most) ∨ (b = false ∧ most < dv l)
theorem dv_take_le {l : List Int} (h : AllDig l) (k : Nat) : dv (l.take k) ≤ dv l := by
  have : ∀ (n : Nat) (r p : List Int), r.length = n → AllDig (p ++ r) → 0 ≤ dv p → dv p ≤ dv (p ++ r) := by
    intro n
    induction n with
    | zero =>
      intro r p hr _ _
      rw [List.eq_nil_of_length_eq_zero hr, List.append_nil]
      exact Int.le_refl _
    | succ n ih =>
      intro r p hr ha hp
      rcases snoc_cases r with rfl | ⟨i, x, rfl⟩
      · simp at hr
      · rw [← List.append_assoc] at ha ⊢
        have h1 := allDig_init ha
        have := ih i p (by simp at hr; omega) h1.1 hp
        rw [dv_snoc]
        omega
  have e := List.take_append_drop k l
  have hp : AllDig (l.take k) := fun d hd => h d (List.mem_of_mem_take hd)
  have := this _ (l.drop k) (l.take k) rfl (by rw [e]; exact h) (dv_nonneg _ _ rfl hp)
  rwa [e] at this
def UpToP (s : ByteArray) (most : Int) (w : World) (e : Ending) (w' : World) : Prop :=
  ∃ v b, e = .returned (.tuple #[.int .i64 v, .bool b]) ∧ Hid (UpIs v b (nums s) most) ∧ Below w.heap.size w w'
theorem upDig (x : Nat) (h0 : 48 ≤ x) (h1 : x ≤ 57) : wrap32 ((x : Int) - 48) = (x : Int) - 48 ∧ wrap64 ((x : Int) - 48) = (x : Int) - 48 := by
  unfold wrap32 wrap64; omega
theorem upSub (most d : Int) (h0 : 0 ≤ d) (h1 : d ≤ most) (h2 : most ≤ 9223372036854775807) : wrap64 (most - d) = most - d ∧ (most - d).tdiv 10 = (most - d) / 10 ∧ wrap64 ((most - d) / 10) = (most - d) / 10 := by
  refine ⟨by unfold wrap64; omega, Int.tdiv_eq_ediv_of_nonneg (by omega), by unfold wrap64; omega⟩
theorem upAdd (n d most : Int) (h0 : 0 ≤ d) (h1 : d ≤ 9) (hn : 0 ≤ n) (h2 : most ≤ 9223372036854775807) (h : n ≤ (most - d) / 10) : wrap64 (10 * n) = 10 * n ∧ wrap64 (10 * n + d) = 10 * n + d ∧ 10 * n + d ≤ most := by
  unfold wrap64; omega

set_option maxHeartbeats 2000000 in
set_option maxRecDepth 100000 in
theorem upTo_c (s : ByteArray) (h2 : s.size ≤ 10000) (hne : 0 < s.size) (ha : AllDig (nums s)) (most : Int) (hm0 : -9223372036854775808 ≤ most) (hm1 : most ≤ 9223372036854775807) (w : World) :
    Calls Tryd.prog 68 #[.string s, .int .i64 most] w (UpToP s most w) := by
  have HA := Lib.hid ha
  have HM := Lib.hid (And.intro hm0 hm1)
  clear ha
  go_enter Tryd.func68, Tryd.ntmps68
  go_wp2
  go_loopw [6] (fun nv W => ∃ (pos : Nat) (n : Int), nv = .int .i64 n ∧ pos ≤ s.size ∧ 0 ≤ n ∧ Hid (n = dv ((nums s).take pos) ∧ (0 < pos → n ≤ most)) ∧ W = w.iter s pos) (fun _ W => s.size - W.iterPos w.heap.size)
  case atStart => exact ⟨0, 0, rfl, by omega, by omega, ⟨by simp [dv], fun h => absurd h (by omega)⟩, rfl⟩
  case round =>
    obtain ⟨pos, n, rfl, hp, hn0, HQ, rfl⟩ := hrel
    by_cases hlt : pos < s.size
    · have hd := dg_nums HA.out pos hlt
      unfold Dg at hd
      have hnx : ∀ ty, (Instr.next (.pointer (some ⟨w.heap.size, 0, none⟩)) true ty).run Tryd.prog (w.iter s pos) = _ := fun ty => run_next_ascii w s pos ty hlt (by omega)
      obtain ⟨x, hx⟩ : ∃ x : Nat, x = (s[pos]'hlt).toNat := ⟨_, rfl⟩
      rw [← hx] at hnx hd
      have hX : Hid (dv ((nums s).take (pos + 1)) = dv ((nums s).take pos) * 10 + ((x : Int) - 48)) := by
        have hl : pos < (nums s).length := by rw [nums_length]; exact hlt
        unfold Hid
        rw [List.take_succ_eq_append_getElem hl, dv_snoc]
        have := nums_get s pos hlt
        rw [List.getD_eq_getElem?_getD, List.getElem?_eq_getElem hl] at this
        simp at this
        rw [this, hx]
      have hT : Hid (dv ((nums s).take (pos + 1)) ≤ dv (nums s)) := dv_take_le HA.out _
      clear hx
      obtain ⟨d1, d2⟩ := upDig x hd.1 hd.2
      obtain ⟨d, hdd⟩ : ∃ d : Int, (x : Int) - 48 = d := ⟨_, rfl⟩
      have hdr : 0 ≤ d ∧ d ≤ 9 := by omega
      have HDR := Lib.hid hdr
      rw [hdd] at d1 d2 hX
      have HDD := Lib.hid hdd
      clear hd hdr
      by_cases hgt : most < d
      · have HG := Lib.hid hgt
        go_wp2
        go_ret2
        refine ⟨0, false, rfl, .inr ⟨rfl, ?_⟩, bl_alloc (Below.refl _ _) _⟩
        have h1 := hX.out
        have h3 := hT.out
        have h4 := HQ.out.1
        have h5 := HG.out
        have h6 := dv_nonneg _ _ rfl (fun q hq => HA.out q (List.mem_of_mem_take hq) : AllDig ((nums s).take pos))
        omega
      · obtain ⟨u1, u2, u3⟩ := upSub most d HDR.out.1 (by omega) HM.out.2
        obtain ⟨q, hq⟩ : ∃ q, (most - d) / 10 = q := ⟨_, rfl⟩
        rw [hq] at u2 u3
        by_cases hg2 : q < n
        · have HG := Lib.hid (And.intro hg2 hq)
          clear hq
          go_wp2
          go_ret2
          refine ⟨0, false, rfl, .inr ⟨rfl, ?_⟩, bl_alloc (Below.refl _ _) _⟩
          have h1 := hX.out
          have h3 := hT.out
          have h4 := HQ.out.1
          have h5 := HG.out
          have h6 := HDR.out
          omega
        · obtain ⟨a1, a2, a3⟩ := upAdd n d most HDR.out.1 HDR.out.2 hn0 HM.out.2 (by omega)
          have HG := Lib.hid a3
          have HN : Hid (0 ≤ 10 * n + d) := by have := HDR.out; unfold Hid; omega
          clear hq a3
          go_wp2
          go_roundw
          case rel => exact ⟨pos + 1, 10 * n + d, by first | rfl | (rw [a2]), by omega, HN.out, ⟨by rw [hX.out, ← HQ.out.1]; omega, fun _ => HG.out⟩, rfl⟩
          case measure => simp; omega
    · have hnx : ∀ ty, (Instr.next (.pointer (some ⟨w.heap.size, 0, none⟩)) true ty).run Tryd.prog (w.iter s pos) = _ := fun ty => run_next_end w s pos ty hlt
      obtain rfl : pos = s.size := by omega
      go_wp2
      go_ret2
      exact ⟨n, true, rfl, .inl ⟨rfl, by rw [HQ.out.1, List.take_of_length_le (by rw [nums_length]; omega)], by have := HQ.out.2 hne; rw [HQ.out.1, List.take_of_length_le (by rw [nums_length]; omega)] at this; exact this⟩, bl_alloc (Below.refl _ _) _⟩

/-- the digits of a text -/
def digOf (l : List Int) : List Int := if l.head? = some 45 then l.tail else l
def Valid (l : List Int) : Prop := l = [48] ∨ Pos (digOf l)
def NumSpec (l : List Int) (most v er : Int) : Prop :=
  (er = 11 ∧ v = 0 ∧ ¬ Valid l) ∨ (er = 10 ∧ v = 0 ∧ Valid l ∧ most < dv (digOf l)) ∨ (er = 0 ∧ Valid l ∧ dv (digOf l) ≤ most ∧ v = if l.head? = some 45 then - dv (digOf l) else dv (digOf l))
def NumberP (s : ByteArray) (most : Int) (w : World) (e : Ending) (w' : World) : Prop :=
  ∃ v er, e = .returned (.tuple #[.int .i64 v, .int .i64 er]) ∧ Hid (NumSpec (nums s) most v er) ∧ Below w.heap.size w w'
theorem pos_dig {l : List Int} (h : Pos l) : AllDig l := h.2.1

set_option maxHeartbeats 2000000 in
set_option maxRecDepth 100000 in
theorem number_c (s : ByteArray) (h2 : s.size ≤ 10000) (most : Int) (hm0 : -9223372036854775808 ≤ most) (hm1 : most ≤ 9223372036854775807) (w : World) :
    Calls Tryd.prog 58 #[.string s, .int .i64 most] w (NumberP s most w) := by
  have HM := Lib.hid (And.intro hm0 hm1)
  obtain ⟨zb, hz, HZ⟩ : ∃ zb, (s.toList == [48]) = zb ∧ Hid ((s.toList == [48]) = zb) := ⟨_, rfl, rfl⟩
  have HZ2 : Hid (zb = decide (nums s = [48])) := by unfold Hid; rw [← hz]; exact toList_48
  go_enter Tryd.func58, Tryd.ntmps58
  go_upto_region 1 with (fail)
  go_cut [6, 7] (fun tv mv W => ∃ (t : ByteArray) (mn : Bool), tv = .string t ∧ mv = .bool mn ∧ t.size ≤ 10000 ∧ Hid (nums t = digOf (nums s) ∧ (mn = true ↔ (nums s).head? = some 45)) ∧ w = W)
  case first =>
    go_wp2_with (first
      | (go_at_call 66; (with_reducible refine (cut_any s h2 _).mono ?_); rintro e w1 ⟨t, mn, rfl, rfl, hk⟩)
      | go_in)
    go_meet
    case rel =>
      refine ⟨t, mn, rfl, rfl, ?_, ?_, rfl⟩
      · rcases hk.out with ⟨-, h⟩ | ⟨-, h, -⟩
        · have h3 := nums_length s
          rw [h] at h3
          have h4 := nums_length t
          simp at h3
          omega
        · rw [h]; exact h2
      · unfold Hid digOf
        rcases hk.out with ⟨h0, h⟩ | ⟨h0, h, h1⟩
        · rw [h]
          exact ⟨by simp, by simp [h0]⟩
        · rw [if_neg h1, h]
          exact ⟨rfl, by simp [h0, h1]⟩
  case rest =>
  obtain ⟨t, mn, rfl, rfl, ht2, HT, rfl⟩ := hcut
  go_upto_region 2 with (fail)
  go_cut [21] (fun bv W => ∃ bad : Bool, bv = .bool bad ∧ Hid ((bad = true ∧ ¬ Valid (nums s)) ∨ (bad = false ∧ Valid (nums s) ∧ AllDig (nums t) ∧ 0 < t.size)) ∧ Below w.heap.size w W)
  case first =>
    cases zb
    · go_wp2_with (first
        | (go_at_call 67; (with_reducible refine (isPos_c t ht2 _).mono ?_); rintro e w1 ⟨b, rfl, hk, hb1⟩)
        | go_in)
      go_meet
      case rel =>
        refine ⟨!b, by first | rfl | simp, ?_, hb1⟩
        have h48 : nums s ≠ [48] := by have := HZ2.out; simpa using this
        have hp := hk.out
        rw [HT.out.1] at hp
        cases b
        · refine .inl ⟨rfl, fun h => ?_⟩
          rcases h with h | h
          · exact h48 h
          · have := hp.2 h; cases this
        · have hP := hp.1 rfl
          refine .inr ⟨rfl, .inr hP, by rw [HT.out.1]; exact hP.2.1, ?_⟩
          rw [← nums_length, HT.out.1]
          exact List.length_pos_iff.2 hP.1
    · go_wp2
      go_meet
      case rel =>
        have h48 : nums s = [48] := by have := HZ2.out; simpa using this
        have hd : nums t = [48] := by rw [HT.out.1, h48]; rfl
        refine ⟨false, by first | rfl | simp, .inr ⟨rfl, .inl h48, ?_, ?_⟩, Below.refl _ _⟩
        · rw [hd]; intro d hd'; simp at hd'; omega
        · rw [← nums_length, hd]; simp
  case rest =>
  obtain ⟨bad, rfl, HV, hb⟩ := hcut
  have HB := Lib.hid hb
  clear hb
  cases bad
  · obtain ⟨hv, hall, hts⟩ : Valid (nums s) ∧ AllDig (nums t) ∧ 0 < t.size := by
      rcases HV.out with ⟨h, -⟩ | ⟨-, h⟩
      · cases h
      · exact h
    have HV2 := Lib.hid hv
    have HAL := Lib.hid hall
    clear hv hall HV
    go_upto_region 4 with (fail)
    go_cut [8, 9] (fun vv bv W => ∃ v b, vv = .int .i64 v ∧ bv = .bool b ∧ Hid (UpIs v b (nums t) most) ∧ Below w.heap.size w W)
    case first =>
      go_wp2_with (first
        | (go_at_call 68; (with_reducible refine (upTo_c t ht2 hts HAL.out most HM.out.1 HM.out.2 _).mono ?_); rintro e w2 ⟨v, b, rfl, hk, hb2⟩
           have HB2 := Lib.hid (bl_trans HB.out hb2))
        | go_in)
      go_meet
      case rel => exact ⟨v, b, rfl, rfl, hk, HB2.out⟩
    case rest =>
    obtain ⟨v, b, rfl, rfl, HU, hb⟩ := hcut
    clear HB
    have HB := Lib.hid hb
    clear hb
    cases b
    · go_wp2
      go_ret2
      refine ⟨0, 10, rfl, .inr (.inl ⟨rfl, rfl, HV2.out, ?_⟩), HB.out⟩
      rcases HU.out with ⟨h, -⟩ | ⟨-, h⟩
      · cases h
      · rw [← HT.out.1]; exact h
    · obtain ⟨hv1, hv2⟩ : v = dv (nums t) ∧ dv (nums t) ≤ most := by
        rcases HU.out with ⟨-, h⟩ | ⟨h, -⟩
        · exact h
        · cases h
      have HVV := Lib.hid (And.intro hv1 hv2)
      have hvr : 0 ≤ v ∧ v ≤ 9223372036854775807 := by
        have := dv_nonneg _ _ rfl HAL.out
        have := HM.out
        omega
      have hw : wrap64 (-v) = -v := by unfold wrap64; omega
      clear hv1 hv2 hvr
      cases mn
      · go_wp2
        go_ret2
        refine ⟨v, 0, rfl, .inr (.inr ⟨rfl, HV2.out, by rw [← HT.out.1]; exact HVV.out.2, ?_⟩), HB.out⟩
        have hh : ¬ (nums s).head? = some 45 := fun h => by have := HT.out.2.2 h; cases this
        rw [if_neg hh, ← HT.out.1]; exact HVV.out.1
      · go_wp2
        go_ret2
        refine ⟨-v, 0, by first | rfl | rw [hw], .inr (.inr ⟨rfl, HV2.out, by rw [← HT.out.1]; exact HVV.out.2, ?_⟩), HB.out⟩
        have hh : (nums s).head? = some 45 := HT.out.2.1 (by first | rfl | trivial)
        rw [if_pos hh, ← HT.out.1, HVV.out.1]
  · have HN : Hid (¬ Valid (nums s)) := by
      rcases HV.out with ⟨-, h⟩ | ⟨h, -⟩
      · exact h
      · cases h
    go_wp2
    go_ret2
    exact ⟨0, 11, rfl, .inl ⟨rfl, rfl, HN.out⟩, HB.out⟩
end Go.Proofs.YtdpbmkfgolemjaaDoor
