/-
  Contract of the document's side: Number, the walk.
-/
import Derived.Test.YtdpbmkfgolemjaaDoorRefNumber
import Derived.Test.YtdpbmkfgolemjaaDoorGeoAll
set_option linter.unusedVariables false
set_option linter.unusedSimpArgs false
set_option linter.deprecated false
namespace Go.Proofs.YtdpbmkfgolemjaaDoor
open Go.RowKit

def RNumP (s : ByteArray) (most : Int) (w : World) (e : Ending) (w' : World) : Prop :=
  ∃ v er, e = .returned (.tuple #[.int .i64 v, .int .i64 er]) ∧ Hid (NumSpec (nums s) most v er) ∧ Below w.heap.size w w'
/-- the digits, told -/
structure DigT (s t : ByteArray) : Prop where
  nt : nums t = digOf (nums s)
  al : AllDig (nums t)
  va : Valid (nums s)
  ne : 0 < t.size
  ts : t.size ≤ s.size
  sg : t.size < s.size ↔ (nums s).head? = some 45

def NR (w : World) (go : Nat) (t : ByteArray) (iv : Value) (W : World) : Prop :=
  ∃ (i : Nat) (m : Bool) (ad : Option Addr) (n c : Nat) (z : Int), iv = .int .i64 i ∧ i ≤ t.size ∧ i ≤ 30 ∧ Hid (z = dv ((nums t).take i)) ∧ NB w go m ad n c z W
theorem allDig_take {l : List Int} (h : AllDig l) (i : Nat) : AllDig (l.take i) := fun d hd => h d (List.mem_of_mem_take hd)
theorem take_nums {t : ByteArray} {i : Nat} (hi : i < t.size) : (nums t).take (i + 1) = (nums t).take i ++ [((t[i]'hi).toNat : Int)] := by
  have hl : i < (nums t).length := by rw [nums_length]; exact hi
  have e := nums_get t i hi
  rw [List.getD_eq_getElem?_getD, List.getElem?_eq_getElem hl] at e
  simp at e
  rw [List.take_succ_eq_append_getElem hl, e]
set_option maxHeartbeats 8000000 in
set_option maxRecDepth 100000 in
theorem refNumber_c (s : ByteArray) (h2 : s.size ≤ 10000) (most : Int) (hm : -9223372036854775808 ≤ most ∧ most ≤ 9223372036854775807) (w : World) :
    Calls Tryd.prog 34 #[.string s, .int .i64 most] w (RNumP s most w) := by
  have HM := Lib.hid hm
  clear hm
  obtain ⟨zb, hz, HZ⟩ : ∃ zb, (s.toList == [48]) = zb ∧ Hid ((s.toList == [48]) = zb) := ⟨_, rfl, rfl⟩
  have HZ2 : Hid (zb = decide (nums s = [48])) := by unfold Hid; rw [← hz]; exact toList_48
  go_enter Tryd.func34, Tryd.ntmps34
  go_wp2
  go_loopw [6] (fun iv W => ∃ i : Nat, iv = .int .i64 (i : Int) ∧ i ≤ s.size ∧ Hid (∀ j, j < i → OkCh s j) ∧ w = W) (fun iv _ => 10001 - (intOf iv).toNat)
  case atStart => exact ⟨0, rfl, by omega, fun j hj => absurd hj (by omega), rfl⟩
  case round =>
    obtain ⟨i, rfl, hi, HO, rfl⟩ := hrel
    by_cases hlt : i < s.size
    · have b1 : decide ((i : Int) < (s.size : Int)) = true := by simp; omega
      obtain ⟨c, hc⟩ : ∃ c : Nat, (s[i]'hlt).toNat = c := ⟨_, rfl⟩
      by_cases hok : OkCh s i
      · have HQ : Hid (∀ j, j < i + 1 → OkCh s j) := by
          intro j hj
          rcases Nat.lt_or_ge j i with h | h
          · exact HO.out j h
          · obtain rfl : j = i := by omega
            exact hok
        have h5 := hok hlt
        unfold Dg at h5
        rw [hc] at h5
        clear hok
        rcases h5 with ⟨h6, h7⟩ | ⟨rfl, rfl⟩
        · have h6' : (48 : Int) ≤ (c : Int) := by omega
          have h7' : (c : Int) ≤ 57 := by omega
          go_wp2
          go_roundw
          case rel => exact ⟨i + 1, by first | rfl | simp, by omega, HQ.out, by first | rfl | trivial⟩
          case measure => simp [intOf] <;> omega
        · go_wp2
          go_roundw
          case rel => exact ⟨1, by first | rfl | simp, by omega, HQ.out, by first | rfl | trivial⟩
          case measure => simp [intOf] <;> omega
      · have HN : Hid (¬ Valid (nums s)) := bad_no hok
        have h5 : ((c : Int) < 48 ∨ (57 : Int) < (c : Int)) ∧ ((0 : Int) < (i : Int) ∨ ((c : Int) != 45) = true) := by
          have h6 : ¬ (Dg (s[i]'hlt) ∨ (i = 0 ∧ (s[i]'hlt).toNat = 45)) := fun h => hok fun _ => h
          unfold Dg at h6
          rw [hc] at h6
          simp only [bne_iff_ne]
          omega
        clear hok
        obtain ⟨h6, h7⟩ := h5
        have h8 : ((i : Int) > 0) ∨ (¬ ((0 : Int) < (i : Int)) ∧ ((c : Int) != 45) = true) := by
          rcases Int.lt_or_le 0 (i : Int) with h | h
          · exact .inl h
          · rcases h7 with h' | h'
            · omega
            · exact .inr ⟨by omega, h'⟩
        clear h7
        rcases h8 with h8 | ⟨h8, h9⟩
        · rcases h6 with h6 | h6
          all_goals
            go_wp2
            go_ret2
            exact ⟨0, 11, rfl, .inl ⟨rfl, rfl, HN.out⟩, Below.refl _ _⟩
        · obtain rfl : i = 0 := by omega
          clear h8 hi
          rcases h6 with h6 | h6
          all_goals
            go_wp2
            go_ret2
            exact ⟨0, 11, rfl, .inl ⟨rfl, rfl, HN.out⟩, Below.refl _ _⟩
    · obtain rfl : i = s.size := by omega
      have b1 : decide ((s.size : Int) < (s.size : Int)) = false := by simp
      have HAD : Hid (AllDig (digOf (nums s))) := ok_dig fun j hj => HO.out j hj hj
      go_upto_region 7 with (fail)
      clear HO
      go_cut [46] (fun bv W => ∃ nb : Bool, bv = .bool nb ∧ Hid ((nb = true ∧ (nums s).head? = some 45 ∧ 0 < s.size) ∨ (nb = false ∧ (nums s).head? ≠ some 45)) ∧ w = W)
      case first =>
        rcases Nat.eq_zero_or_pos s.size with h0 | h0
        · have hh : Hid ((nums s).head? ≠ some 45) := by
            have := nums_length s
            rw [h0] at this
            rw [List.eq_nil_of_length_eq_zero this]
            intro h
            cases h
          have b2 : decide ((0 : Int) < (s.size : Int)) = false := by rw [h0]; rfl
          have hn0 : ¬ 0 < s.size := by omega
          clear h0
          go_wp2
          go_meet
          case rel => exact ⟨false, by first | rfl | simp, .inr ⟨rfl, hh.out⟩, rfl⟩
        · obtain ⟨c, hc⟩ : ∃ c : Nat, (s[0]'h0).toNat = c := ⟨_, rfl⟩
          have hd := head_of h0
          rw [hc] at hd
          have b2 : decide ((0 : Int) < (s.size : Int)) = true := by simp; omega
          by_cases h45 : c = 45
          · subst h45
            have hd : Hid ((nums s).head? = some (45 : Int)) := hd
            go_wp2
            go_meet
            case rel => exact ⟨true, by first | rfl | simp, .inl ⟨rfl, hd.out, h0⟩, rfl⟩
          · have hh : Hid ((nums s).head? ≠ some 45) := by
              rw [hd]
              intro h
              have := Option.some.inj h
              omega
            have h45' : ((c : Int) == 45) = false := by simp; omega
            clear hd h45
            go_wp2
            go_meet
            case rel => exact ⟨false, by first | rfl | simp, .inr ⟨rfl, hh.out⟩, rfl⟩
      case rest =>
      obtain ⟨nb, rfl, HB, rfl⟩ := hcut
      go_upto_if 46 with (fail)
      go_cut [7] (fun tv W => ∃ t : ByteArray, tv = .string t ∧ t.size ≤ s.size ∧ Hid (nums t = digOf (nums s) ∧ (t.size < s.size ↔ (nums s).head? = some 45)) ∧ w = W)
      case first =>
        cases nb
        · have HT : Hid (nums s = digOf (nums s) ∧ (s.size < s.size ↔ (nums s).head? = some 45)) := by
            rcases HB.out with ⟨h, -⟩ | ⟨-, hh⟩
            · cases h
            · exact ⟨by unfold digOf; rw [if_neg hh], ⟨fun h => absurd h (by omega), fun h => absurd h hh⟩⟩
          clear HB
          go_wp2
          go_meet
          case rel => exact ⟨s, rfl, by omega, HT.out, rfl⟩
        · obtain ⟨hd, h0⟩ : (nums s).head? = some 45 ∧ 0 < s.size := by
            rcases HB.out with ⟨-, h⟩ | ⟨h, -⟩
            · exact h
            · cases h
          have HT : Hid (nums (s.extract 1 s.size) = digOf (nums s) ∧ ((s.extract 1 s.size).size < s.size ↔ (nums s).head? = some 45)) := by
            refine ⟨by unfold digOf; rw [if_pos hd, nums_tail], ?_⟩
            rw [hd, ByteArray.size_extract]
            simp; omega
          have hsz : (s.extract 1 s.size).size ≤ s.size := by rw [ByteArray.size_extract]; omega
          have HSZ := Lib.hid hsz
          clear hd hsz HB
          go_wp2
          go_meet
          case rel => exact ⟨s.extract 1 s.size, by first | rfl | simp, HSZ.out, HT.out, rfl⟩
      case rest =>
      obtain ⟨t, rfl, hts, HT, rfl⟩ := hcut
      go_upto_region 9 with (fail)
      go_cut [60] (fun bv W => ∃ bad : Bool, bv = .bool bad ∧ Hid ((bad = true ∧ ¬ Valid (nums s)) ∨ (bad = false ∧ DigT s t)) ∧ w = W)
      case first =>
        rcases Nat.eq_zero_or_pos t.size with h0 | h0
        · have HN : Hid (¬ Valid (nums s)) := by
            have h3 := nums_length t
            rw [h0] at h3
            have h4 := List.eq_nil_of_length_eq_zero h3
            rw [HT.out.1] at h4
            rintro (h | h)
            · rw [h] at h4
              exact absurd h4 (by decide)
            · exact h.1 h4
          have hn0 : ¬ 0 < t.size := by omega
          clear hts
          go_wp2
          go_meet
          case rel => exact ⟨true, by first | rfl | simp, .inl ⟨rfl, HN.out⟩, rfl⟩
        · obtain ⟨c, hc⟩ : ∃ c : Nat, (t[0]'h0).toNat = c := ⟨_, rfl⟩
          have hd := head_of h0
          rw [hc, HT.out.1] at hd
          have hD := Lib.hid hd
          clear hd
          have b2 : ((t.size : Int) == 0) = false := beq_eq_false_iff_ne.mpr (by omega)
          have HDT : Valid (nums s) → Hid (DigT s t) := fun hv => ⟨HT.out.1, by rw [HT.out.1]; exact HAD.out, hv, h0, hts, HT.out.2⟩
          have HDT2 := Lib.hid HDT
          clear HDT
          by_cases h48 : c = 48
          · subst h48
            cases zb
            · have HN : Hid (¬ Valid (nums s)) := by
                have h4 : nums s ≠ [48] := by have := HZ2.out; simpa using this
                rintro (h | h)
                · exact h4 h
                · exact h.2.2 _ hD.out rfl
              go_wp2
              go_meet
              case rel => exact ⟨true, by first | rfl | simp, .inl ⟨rfl, HN.out⟩, rfl⟩
            · have HV := HDT2.out (.inl (by have := HZ2.out; simpa using this))
              go_wp2
              go_meet
              case rel => exact ⟨false, by first | rfl | simp, .inr ⟨rfl, HV.out⟩, rfl⟩
          · have h48' : ((c : Int) == 48) = false := by simp; omega
            have HV := HDT2.out (.inr ⟨by intro e; have := hD.out; rw [e] at this; simp at this, HAD.out, fun d hd => by have h9 := Option.some.inj (hd.symm.trans hD.out); intro h10; rw [h10] at h9; exact h48 (by omega)⟩)
            clear h48
            go_wp2
            go_meet
            case rel => exact ⟨false, by first | rfl | simp, .inr ⟨rfl, HV.out⟩, rfl⟩
      case rest =>
      obtain ⟨bad, rfl, HV, rfl⟩ := hcut
      clear HAD HT
      cases bad
      · obtain ⟨hnt, hal, hva, hne, -, hsg⟩ : DigT s t := by
          rcases HV.out with ⟨h, -⟩ | ⟨-, h⟩
          · cases h
          · exact h
        have HD := Lib.hid (And.intro hnt (And.intro hal (And.intro hva hsg)))
        clear hnt hal hva hsg HV
        go_upto_region 12 with (fail)
        generalize hgo : w.heap.size = go at *
        have HGO := Lib.hid hgo
        clear hgo
        refine wp_abs (fun W => NB w go false none 0 0 0 W) ?_ ?_
        · have eg := HGO.out
          subst eg
          exact ⟨by simp [go_sem], by simp [go_sem], by simp [go_sem], by simp [go_sem], ⟨false, none, 0, 0, fun _ => 0, rfl, ⟨fun _ => by omega, fun _ _ => rfl, .inl rfl, .inl rfl⟩, fun _ => rfl, by simp [sg, dval]⟩, by omega, bl_one _ _⟩
        intro W2 hS0
        have HS0 := Lib.hid hS0
        clear hS0
        go_wp2
        go_loopw [9] (fun iv W => NR w go t iv W) (fun iv _ => 31 - (intOf iv).toNat)
        case atStart => exact ⟨0, _, _, _, _, _, rfl, by omega, by omega, rfl, HS0.out⟩
        case round =>
          obtain ⟨i, m, ad, n, c, z, rfl, hi, hi2, HQ, hS⟩ := hrel
          have HS := Lib.hid hS
          clear hS
          go_upto_region 13 with (fail)
          go_cut [69] (fun bv W => ∃ b : Bool, bv = .bool b ∧ Hid (b = decide (i < t.size ∧ i < 30)) ∧ wr = W)
          case first =>
            have HX : Hid (i < t.size ∧ i < 30 ∨ ¬ (i < t.size ∧ i < 30)) := Decidable.em _
            rcases Nat.lt_or_ge i t.size with h8 | h8
            · have b1 : decide ((i : Int) < (t.size : Int)) = true := by simp; omega
              go_wp2
              go_meet
              case rel => exact ⟨decide ((i : Int) < 30), by first | rfl | simp, decide_eq_decide.2 ⟨fun h => by omega, fun h => by omega⟩, rfl⟩
            · have b1 : decide ((i : Int) < (t.size : Int)) = false := by simp; omega
              go_wp2
              go_meet
              case rel => exact ⟨false, by first | rfl | simp, by unfold Hid; simp; omega, rfl⟩
          case rest =>
          obtain ⟨b, rfl, HC, rfl⟩ := hcut
          cases b
          · have hx : i = t.size ∨ (i = 30 ∧ 30 < t.size) := by
              have := HC.out
              have h : ¬ (i < t.size ∧ i < 30) := of_decide_eq_false this.symm
              omega
            clear HC
            have HBl := Lib.hid HS.out.hb
            have HZN := Lib.hid HS.out.hN
            have HS0 : Hid ((fun W => Var W (go) [.bool m, .slice ad n c] ∧ Grew w 0 W) _) := ⟨var2 HS.out.lt HS.out.c0 HS.out.c1 HS.out.f0 HS.out.f1, HS.out.hb, HS.out.hb.size⟩
            have hnn : 0 ≤ dv (nums t) := dv_nonneg _ _ rfl HD.out.2.1
            clear HS
            go_upto_region 16 with (fail)
            go_cut [95] (fun bv W => ∃ b : Bool, bv = .bool b ∧ Hid ((b = true ∧ most < dv (nums t)) ∨ (b = false ∧ dv (nums t) ≤ most)) ∧ Below w.heap.size w W)
            case first =>
              rcases Nat.lt_or_ge 30 t.size with h30 | h30
              · have b1 : decide ((30 : Int) < (t.size : Int)) = true := by simp; omega
                have HE : Hid (most < dv (nums t)) := by
                  have hp : ∀ d ∈ (nums t).head?, d ≠ 48 := by
                    rcases HD.out.2.2.1 with h | h
                    · have h4 := HD.out.1
                      rw [h] at h4
                      have h5 := nums_length t
                      rw [h4] at h5
                      unfold digOf at h5
                      simp at h5
                      omega
                    · rw [HD.out.1]; exact h.2.2
                  have h3 := dv_ge10 (t.size - 1) (nums t) (by rw [nums_length]; omega) HD.out.2.1 hp
                  have h4 := p10_le (t.size - 1) (by omega)
                  have h5 : (9223372036854775807 : Int) < 10 ^ 30 := by omega
                  have h6 := HM.out.2
                  unfold Hid; omega
                clear hnn h30 hx HQ hne
                refine wp_region_bel (by kernel_rfl) (fun q1 => ?_)
                revert q1
                generalize World.drew _ = W1
                intro q1
                refine tk (i := 0) (v := ?_) rfl (Or.inl ⟨by rfl, ?_⟩) ?_
                rotate_left
                · intro Wq hSw
                  clear hSw
                  go_simp
                  all_goals (with_reducible rfl)
                try simp only [Act.put, x2, x4, x5, x6, x7]
                refine tk (i := 1) (v := ?_) rfl (Or.inl ⟨by rfl, ?_⟩) ?_
                rotate_left
                · intro Wq hSw
                  clear hSw
                  go_simp
                  all_goals (with_reducible rfl)
                try simp only [Act.put, x2, x3, x4, x5, x6, x7]
                refine tk (i := 2) (v := ?_) rfl (Or.inl ⟨by rfl, ?_⟩) ?_
                rotate_left
                · intro Wq hSw
                  clear hSw
                  go_simp
                  all_goals (with_reducible rfl)
                try simp only [Act.put, x2, x3, x4, x5, x6, x7]
                refine tk (i := 3) (v := ?_) rfl (Or.inl ⟨by rfl, ?_⟩) ?_
                rotate_left
                · intro Wq hSw
                  clear hSw
                  go_simp
                  all_goals (with_reducible rfl)
                try simp only [Act.put, x2, x3, x4, x5, x6, x7]
                refine tk (i := 4) (v := _) rfl (Or.inr ⟨by rfl, rfl⟩) ?_
                try simp only [Act.put, x2, x3, x4, x5, x6, x7]
                refine tk (i := 5) (v := _) rfl (Or.inr ⟨by rfl, rfl⟩) ?_
                try simp only [Act.put, x2, x3, x4, x5, x6, x7]
                refine tk (i := 6) (v := ?_) rfl (Or.inl ⟨by rfl, ?_⟩) ?_
                rotate_left
                · intro Wq hSw
                  clear hSw
                  go_simp
                  all_goals (with_reducible rfl)
                try simp only [Act.put, x2, x3, x4, x5, x6, x7]
                refine tk (i := 7) (v := ?_) rfl (Or.inl ⟨by rfl, ?_⟩) ?_
                rotate_left
                · intro Wq hSw
                  clear hSw
                  go_simp
                  all_goals (with_reducible rfl)
                try simp only [Act.put, x2, x3, x4, x5, x6, x7]
                refine tk (i := 8) (v := _) rfl (Or.inr ⟨by rfl, rfl⟩) ?_
                try simp only [Act.put, x2, x3, x4, x5, x6, x7]
                refine tk (i := 9) (v := _) rfl (Or.inr ⟨by rfl, rfl⟩) ?_
                try simp only [Act.put, x2, x3, x4, x5, x6, x7]
                refine tk (i := 10) (v := _) rfl (Or.inr ⟨by rfl, rfl⟩) ?_
                try simp only [Act.put, x2, x3, x4, x5, x6, x7]
                refine tk (i := 11) (v := _) rfl (Or.inr ⟨by rfl, rfl⟩) ?_
                try simp only [Act.put, x2, x3, x4, x5, x6, x7]
                refine tk (i := 12) (v := _) rfl (Or.inr ⟨by rfl, rfl⟩) ?_
                try simp only [Act.put, x2, x3, x4, x5, x6, x7]
                refine tk (i := 13) (v := ?_) rfl (Or.inl ⟨by rfl, ?_⟩) ?_
                rotate_left
                · intro Wq hSw
                  clear hSw
                  go_simp
                  all_goals (with_reducible rfl)
                try simp only [Act.put, x2, x3, x4, x5, x6, x7]
                refine wpAnyH_done (by kernel_rfl) ?_ _
                go_wp2_with fail
                go_meet
                case rel => exact ⟨true, rfl, .inl ⟨rfl, HE.out⟩, bl_trans HBl.out q1⟩
              · have b1 : decide ((30 : Int) < (t.size : Int)) = false := by simp; omega
                obtain rfl : i = t.size := by omega
                have HE : Hid (z = dv (nums t)) := by
                  have := HQ.out
                  rwa [List.take_of_length_le (by rw [nums_length]; omega)] at this
                rcases Int.lt_or_le most 0 with hm0 | hm0
                · have b2 : decide (most < 0) = true := by simp; omega
                  have HE2 : Hid (most < dv (nums t)) := by unfold Hid; omega
                  clear hx HQ h30 hm0 hnn hne HE
                  refine wp_region_bel (by kernel_rfl) (fun q1 => ?_)
                  revert q1
                  generalize World.drew _ = W1
                  intro q1
                  refine tk (i := 0) (v := ?_) rfl (Or.inl ⟨by rfl, ?_⟩) ?_
                  rotate_left
                  · intro Wq hSw
                    clear hSw
                    go_simp
                    all_goals (with_reducible rfl)
                  try simp only [Act.put, x2, x4, x5, x6, x7]
                  refine tk (i := 1) (v := ?_) rfl (Or.inl ⟨by rfl, ?_⟩) ?_
                  rotate_left
                  · intro Wq hSw
                    clear hSw
                    go_simp
                    all_goals (with_reducible rfl)
                  try simp only [Act.put, x2, x3, x4, x5, x6, x7]
                  refine tk (i := 2) (v := ?_) rfl (Or.inl ⟨by rfl, ?_⟩) ?_
                  rotate_left
                  · intro Wq hSw
                    clear hSw
                    go_simp
                    all_goals (with_reducible rfl)
                  try simp only [Act.put, x2, x3, x4, x5, x6, x7]
                  refine tk (i := 3) (v := ?_) rfl (Or.inl ⟨by rfl, ?_⟩) ?_
                  rotate_left
                  · intro Wq hSw
                    clear hSw
                    go_simp
                    all_goals (with_reducible rfl)
                  try simp only [Act.put, x2, x3, x4, x5, x6, x7]
                  refine tk (i := 4) (v := ?_) rfl (Or.inl ⟨by rfl, ?_⟩) ?_
                  rotate_left
                  · intro Wq hSw
                    clear hSw
                    go_simp
                    all_goals (with_reducible rfl)
                  try simp only [Act.put, x2, x3, x4, x5, x6, x7]
                  refine tk (i := 5) (v := ?_) rfl (Or.inl ⟨by rfl, ?_⟩) ?_
                  rotate_left
                  · intro Wq hSw
                    clear hSw
                    go_simp
                    all_goals (with_reducible rfl)
                  try simp only [Act.put, x2, x3, x4, x5, x6, x7]
                  refine tk (i := 6) (v := ?_) rfl (Or.inl ⟨by rfl, ?_⟩) ?_
                  rotate_left
                  · intro Wq hSw
                    clear hSw
                    go_simp
                    all_goals (with_reducible rfl)
                  try simp only [Act.put, x2, x3, x4, x5, x6, x7]
                  refine tk (i := 7) (v := ?_) rfl (Or.inl ⟨by rfl, ?_⟩) ?_
                  rotate_left
                  · intro Wq hSw
                    clear hSw
                    go_simp
                    all_goals (with_reducible rfl)
                  try simp only [Act.put, x2, x3, x4, x5, x6, x7]
                  refine tk (i := 8) (v := _) rfl (Or.inr ⟨by rfl, rfl⟩) ?_
                  try simp only [Act.put, x2, x3, x4, x5, x6, x7]
                  refine tk (i := 9) (v := _) rfl (Or.inr ⟨by rfl, rfl⟩) ?_
                  try simp only [Act.put, x2, x3, x4, x5, x6, x7]
                  refine tk (i := 10) (v := _) rfl (Or.inr ⟨by rfl, rfl⟩) ?_
                  try simp only [Act.put, x2, x3, x4, x5, x6, x7]
                  refine tk (i := 11) (v := _) rfl (Or.inr ⟨by rfl, rfl⟩) ?_
                  try simp only [Act.put, x2, x3, x4, x5, x6, x7]
                  refine tk (i := 12) (v := _) rfl (Or.inr ⟨by rfl, rfl⟩) ?_
                  try simp only [Act.put, x2, x3, x4, x5, x6, x7]
                  refine tk (i := 13) (v := ?_) rfl (Or.inl ⟨by rfl, ?_⟩) ?_
                  rotate_left
                  · intro Wq hSw
                    clear hSw
                    go_simp
                    all_goals (with_reducible rfl)
                  try simp only [Act.put, x2, x3, x4, x5, x6, x7]
                  refine wpAnyH_done (by kernel_rfl) ?_ _
                  go_wp2_with fail
                  go_meet
                  case rel => exact ⟨true, rfl, .inl ⟨rfl, HE2.out⟩, bl_trans HBl.out q1⟩
                · have b2 : decide (most < 0) = false := by simp; omega
                  have HB1 : Hid (-BIG < z ∧ z < BIG) := by
                    have e : z = dv (nums t) := HE.out
                    have h3 := dv_big (nums t) (by rw [nums_length]; omega) HD.out.2.1
                    unfold Hid; omega
                  have HB2 : Hid (-BIG < most ∧ most < BIG) := by
                    have h3 := p16le 30 (by unfold K4; omega)
                    have h5 : (9223372036854775807 : Int) < 10 ^ 30 := by omega
                    have h6 := HM.out.2
                    have h7 : (10 : Int) ^ 30 ≤ 16 ^ 30 := by decide
                    unfold Hid; omega
                  obtain ⟨q, hq, HG⟩ : ∃ q, sgZ (z - most) = q ∧ Hid ((0 < q ∧ most < z) ∨ (¬ 0 < q ∧ z ≤ most)) := by
                    refine ⟨_, rfl, ?_⟩
                    unfold Hid sgZ
                    split
                    · omega
                    · split <;> omega
                  have HQ2 := Lib.hid hq
                  have HE2 : Hid ((decide (0 < q) = true ∧ most < dv (nums t)) ∨ (decide (0 < q) = false ∧ dv (nums t) ≤ most)) := by
                    have h4 : z = dv (nums t) := HE.out
                    rcases HG.out with ⟨h2, h3⟩ | ⟨h2, h3⟩
                    · exact .inl ⟨decide_eq_true h2, by omega⟩
                    · exact .inr ⟨decide_eq_false h2, by omega⟩
                  clear hx HQ h30 hm0 hnn hne HE hq HG
                  refine wp_region_bel (by kernel_rfl) (fun q1 => ?_)
                  revert q1
                  generalize World.drew _ = W1
                  intro q1
                  refine tk (i := 0) (v := ?_) rfl (Or.inl ⟨by rfl, ?_⟩) ?_
                  rotate_left
                  · intro Wq hSw
                    clear hSw
                    go_simp
                    all_goals (with_reducible rfl)
                  try simp only [Act.put, x2, x4, x5, x6, x7]
                  refine tk (i := 1) (v := ?_) rfl (Or.inl ⟨by rfl, ?_⟩) ?_
                  rotate_left
                  · intro Wq hSw
                    clear hSw
                    go_simp
                    all_goals (with_reducible rfl)
                  try simp only [Act.put, x2, x3, x4, x5, x6, x7]
                  refine tk (i := 2) (v := ?_) rfl (Or.inl ⟨by rfl, ?_⟩) ?_
                  rotate_left
                  · intro Wq hSw
                    clear hSw
                    go_simp
                    all_goals (with_reducible rfl)
                  try simp only [Act.put, x2, x3, x4, x5, x6, x7]
                  refine tk (i := 3) (v := ?_) rfl (Or.inl ⟨by rfl, ?_⟩) ?_
                  rotate_left
                  · intro Wq hSw
                    clear hSw
                    go_simp
                    all_goals (with_reducible rfl)
                  try simp only [Act.put, x2, x3, x4, x5, x6, x7]
                  refine tk (i := 4) (v := ?_) rfl (Or.inl ⟨by rfl, ?_⟩) ?_
                  rotate_left
                  · intro Wq hSw
                    clear hSw
                    go_simp
                    all_goals (with_reducible rfl)
                  try simp only [Act.put, x2, x3, x4, x5, x6, x7]
                  refine tk (i := 5) (v := ?_) rfl (Or.inl ⟨by rfl, ?_⟩) ?_
                  rotate_left
                  · intro Wq hSw
                    clear hSw
                    go_simp
                    all_goals (with_reducible rfl)
                  try simp only [Act.put, x2, x3, x4, x5, x6, x7]
                  refine tk (i := 6) (v := ?_) rfl (Or.inl ⟨by rfl, ?_⟩) ?_
                  rotate_left
                  · intro Wq hSw
                    clear hSw
                    go_simp
                    all_goals (with_reducible rfl)
                  try simp only [Act.put, x2, x3, x4, x5, x6, x7]
                  refine tk (i := 7) (v := ?_) rfl (Or.inl ⟨by rfl, ?_⟩) ?_
                  rotate_left
                  · intro Wq hSw
                    clear hSw
                    go_simp
                    all_goals (with_reducible rfl)
                  try simp only [Act.put, x2, x3, x4, x5, x6, x7]
                  refine tk (i := 8) (v := ?_) rfl (Or.inl ⟨by rfl, ?_⟩) ?_
                  rotate_left
                  · intro Wq hSw
                    obtain ⟨k0, k1⟩ := (HS0.out.1.below hSw).two
                    clear hSw
                    go_simp
                    all_goals (with_reducible rfl)
                  try simp only [Act.put, x2, x3, x4, x5, x6, x7]
                  refine tk (i := 9) (v := ?_) rfl (Or.inl ⟨by rfl, ?_⟩) ?_
                  rotate_left
                  · intro Wq hSw
                    clear hSw
                    go_simp
                    all_goals (with_reducible rfl)
                  try simp only [Act.put, x2, x3, x4, x5, x6, x7]
                  refine r1 (i := 10) rfl (fun K hK => ?_)
                  go_simp
                  go_at_call 21
                  (with_reducible refine (small_num most HM.out.1 HM.out.2 _).mono ?_); rintro e w1 ⟨va, rfl, hNa, hb1⟩
                  have HNa := Lib.hid hNa
                  clear hNa
                  go_wp2_with fail
                  refine hK.out _ _ (bl_trans q1 hb1) (fun q2 => ?_)
                  clear hK K q1 hb1
                  have q1 := q2
                  clear q2
                  try simp only [Act.put, x2, x3, x4, x5, x6, x7]
                  refine r1 (i := 11) rfl (fun K hK => ?_)
                  go_simp
                  go_at_call 48
                  (with_reducible refine (cmp_num _ va z most _ (HZN.out.below q1) HNa.out HB1.out HB2.out).mono ?_); rintro e w1 ⟨rfl, hb1⟩
                  rw [HQ2.out]
                  go_wp2_with fail
                  refine hK.out _ _ (bl_trans q1 hb1) (fun q2 => ?_)
                  clear hK K q1 hb1
                  have q1 := q2
                  clear q2
                  try simp only [Act.put, x2, x3, x4, x5, x6, x7]
                  refine tk (i := 12) (v := ?_) rfl (Or.inl ⟨by rfl, ?_⟩) ?_
                  rotate_left
                  · intro Wq hSw
                    clear hSw
                    go_simp
                    all_goals (with_reducible rfl)
                  try simp only [Act.put, x2, x3, x4, x5, x6, x7]
                  refine tk (i := 13) (v := ?_) rfl (Or.inl ⟨by rfl, ?_⟩) ?_
                  rotate_left
                  · intro Wq hSw
                    clear hSw
                    go_simp
                    all_goals (with_reducible rfl)
                  try simp only [Act.put, x2, x3, x4, x5, x6, x7]
                  refine wpAnyH_done (by kernel_rfl) ?_ _
                  go_wp2_with fail
                  go_meet
                  case rel => exact ⟨decide (0 < q), rfl, HE2.out, bl_trans HBl.out q1⟩
            case rest =>
            obtain ⟨b, rfl, HB, hb⟩ := hcut
            clear HBl HZN HS0 HQ hx
            have HBl := Lib.hid hb
            clear hb
            cases b
            · have HLE : Hid (dv (nums t) ≤ most) := by
                rcases HB.out with ⟨h, -⟩ | ⟨-, h⟩
                · cases h
                · exact h
              clear HB hi hi2
              go_wp2_with fail
              go_loopw [10, 11] (fun xv iv W => ∃ (i : Nat) (x : Int), i ≤ t.size ∧ iv = .int .i64 i ∧ xv = .int .i64 x ∧ Hid (x = dv ((nums t).take i)) ∧ Below w.heap.size w W) (fun _ iv _ => t.size - (intOf iv).toNat)
              case atStart => exact ⟨0, 0, by omega, rfl, rfl, rfl, HBl.out⟩
              case round =>
                obtain ⟨i, x, hi, rfl, rfl, HX, hb⟩ := hrel
                clear HBl
                have HBl := Lib.hid hb
                clear hb
                by_cases hlt : i < t.size
                · have b1 : decide ((i : Int) < (t.size : Int)) = true := by simp; omega
                  obtain ⟨ch, hc⟩ : ∃ ch : Nat, (t[i]'hlt).toNat = ch := ⟨_, rfl⟩
                  have HT1 := Lib.hid (show (nums t).take (i + 1) = (nums t).take i ++ [(ch : Int)] by rw [take_nums hlt, hc])
                  obtain ⟨h48, h57⟩ : (48 : Int) ≤ (ch : Int) ∧ (ch : Int) ≤ 57 := HD.out.2.1 _ (List.mem_of_mem_take (i := i + 1) (by rw [HT1.out]; simp))
                  have HX1 : Hid (x * 10 + ((ch : Int) - 48) = dv ((nums t).take (i + 1))) := by
                    unfold Hid
                    rw [HT1.out, dv_snoc, ← HX.out]
                  have h0 : 0 ≤ x := by rw [HX.out]; exact dv_nonneg _ _ rfl (allDig_take HD.out.2.1 i)
                  have h1 : x * 10 + ((ch : Int) - 48) ≤ 9223372036854775807 := by
                    have e := dv_take_le HD.out.2.1 (i + 1)
                    rw [← HX1.out] at e
                    have e2 := HLE.out
                    have e3 := HM.out.2
                    omega
                  have HW := Lib.hid (lastW x ch h0 ⟨h48, h57⟩ h1)
                  have hw1 : IntKind.i64.wrap (ch : Int) = ch := IntWalk.i64_in _ (by omega)
                  clear h0 h1 h48 h57
                  go_wp2_with fail
                  go_roundw
                  case rel => exact ⟨i + 1, _, by omega, by go_num, rfl, (by unfold Hid; first | exact HW.out.trans HX1.out | (simp only [hw1, IntKind.wrap_i64] at *; exact HW.out.trans HX1.out)), HBl.out⟩
                  case measure => simp [intOf]; omega
                · obtain rfl : i = t.size := by omega
                  have b1 : decide ((t.size : Int) < (t.size : Int)) = false := by simp
                  have HX1 : Hid (x = dv (nums t)) := by
                    have := HX.out
                    rwa [List.take_of_length_le (by rw [nums_length]; omega)] at this
                  have h1 : 0 ≤ x ∧ x ≤ 9223372036854775807 := by
                    have e : x = dv (nums t) := HX1.out
                    have e2 := HLE.out
                    have e3 := HM.out.2
                    have e4 := dv_nonneg _ _ rfl HD.out.2.1
                    omega
                  have w1 : wrap64 (-x) = -x := by unfold wrap64; omega
                  have w2 : IntKind.i64.wrap (-x) = -x := IntWalk.i64_in _ (by omega)
                  clear h1 hlt HX b1
                  rcases Nat.lt_or_ge t.size s.size with h2 | h2
                  · have b1 : decide ((t.size : Int) < (s.size : Int)) = true := by simp; omega
                    have HV2 : Hid (NumSpec (nums s) most (-x) 0) := .inr (.inr ⟨rfl, HD.out.2.2.1, by rw [← HD.out.1]; exact HLE.out, by rw [if_pos (HD.out.2.2.2.1 h2), ← HD.out.1, HX1.out]⟩)
                    clear hts
                    go_wp2_with fail
                    go_ret2
                    exact ⟨_, 0, rfl, HV2.out, HBl.out⟩
                  · have b1 : decide ((t.size : Int) < (s.size : Int)) = false := by simp; omega
                    have HV2 : Hid (NumSpec (nums s) most x 0) := .inr (.inr ⟨rfl, HD.out.2.2.1, by rw [← HD.out.1]; exact HLE.out, by rw [if_neg (fun h => absurd (HD.out.2.2.2.2 h) (by omega)), ← HD.out.1, HX1.out]⟩)
                    clear hts
                    go_wp2_with fail
                    go_ret2
                    exact ⟨_, 0, rfl, HV2.out, HBl.out⟩
            · have HGT : Hid (most < dv (nums t)) := by
                rcases HB.out with ⟨-, h⟩ | ⟨h, -⟩
                · exact h
                · cases h
              clear HB
              go_wp2_with fail
              go_ret2
              exact ⟨0, 10, rfl, .inr (.inl ⟨rfl, rfl, HD.out.2.2.1, by rw [← HD.out.1]; exact HGT.out⟩), HBl.out⟩
          · obtain ⟨hlt, hlt2⟩ : i < t.size ∧ i < 30 := by have := HC.out; simpa using this.symm
            obtain ⟨ch, hc⟩ : ∃ ch : Nat, (t[i]'hlt).toNat = ch := ⟨_, rfl⟩
            have HT1 := Lib.hid (show (nums t).take (i + 1) = (nums t).take i ++ [(ch : Int)] by rw [take_nums hlt, hc])
            obtain ⟨h48, h57⟩ : (48 : Int) ≤ (ch : Int) ∧ (ch : Int) ≤ 57 := HD.out.2.1 _ (List.mem_of_mem_take (i := i + 1) (by rw [HT1.out]; simp))
            have hw1 : IntKind.i64.wrap (ch : Int) = ch := IntWalk.i64_in _ (by omega)
            have hw2 : IntKind.i64.wrap ((ch : Int) - 48) = (ch : Int) - 48 := IntWalk.i64_in _ (by omega)
            clear HC
            go_upto_region 15 with (fail)
            have k0 := HS.out.c0
            have k1 := HS.out.c1
            have h0 := HS.out.f0
            have h1 := HS.out.f1
            have hz : 0 ≤ z ∧ z * 10 < BIG := by
              have e : z = dv ((nums t).take i) := HQ.out
              have hl : ((nums t).take i).length ≤ 30 := by rw [List.length_take]; omega
              have ha := allDig_take HD.out.2.1 i
              have hn := dv_nonneg _ _ rfl ha
              have h2 := dv_lt _ _ rfl ha
              have h3 := p16le (((nums t).take i).length + 1) (by unfold K4; omega)
              rw [Int.pow_succ] at h3
              rw [e]; omega
            have HB1 : Hid (-BIG < z ∧ z < BIG) := by unfold Hid; omega
            have HB2 : Hid (-BIG < z * 10 ∧ z * 10 < BIG) := by unfold Hid; omega
            have HB3 : Hid (-BIG < (10 : Int) ∧ (10 : Int) < BIG) := by have h9 := p16le 2 (by unfold K4; omega); rw [show (16 : Int) ^ 2 = 256 from by decide] at h9; unfold Hid; omega
            have HB4 : Hid (-BIG < (ch : Int) - 48 ∧ (ch : Int) - 48 < BIG) := by have h9 := p16le 2 (by unfold K4; omega); rw [show (16 : Int) ^ 2 = 256 from by decide] at h9; unfold Hid; omega
            clear hz
            go_region_with (first
              | (go_at_call 21; (with_reducible refine (small_num 10 (by omega) (by omega) _).mono ?_); rintro e w1 ⟨v1, rfl, hN1, hb1⟩
                 have HN1 := Lib.hid hN1
                 clear hN1
                 have HS1 := Lib.hid (HS.out.below (bl_trans (bl_drew1 _) hb1))
                 have k2 := HS1.out.c0
                 have k3 := HS1.out.c1
                 have HX1 : Hid (NumIs (.agg #[.bool m, .slice ad n c]) z w1) := HS1.out.hN)
              | (go_at_call 46; (with_reducible refine (times_num _ v1 z _ w1 HX1.out HN1.out HB1.out HB3.out).mono ?_); rintro e w2 ⟨v2, rfl, hN2, hb2⟩
                 have HN2 := Lib.hid hN2
                 clear hN2
                 have HS2 := Lib.hid (HS1.out.below hb2))
              | (go_at_call 21; (with_reducible refine (small_num ((ch : Int) - 48) (by omega) (by omega) _).mono ?_); rintro e w3 ⟨v3, rfl, hN3, hb3⟩
                 have HN3 := Lib.hid hN3
                 clear hN3
                 have HN23 := Lib.hid (HN2.out.below hb3)
                 have HS3 := Lib.hid (HS2.out.below hb3))
              | (go_at_call 47; (with_reducible refine (plus_c v2 v3 _ _ w3 HN23.out HN3.out HB2.out HB4.out).mono ?_); rintro e w4 ⟨v4, rfl, hN4, hb4⟩
                 obtain ⟨nm, nad, nn, nc, rfl⟩ := hN4.shape
                 have HN4 := Lib.hid hN4
                 clear hN4
                 have HS4 := Lib.hid (HS3.out.below hb4)
                 have k4 := HS4.out.c0
                 have k5 := HS4.out.c1
                 have h4 := HS4.out.f0
                 have h5 := HS4.out.f1))
            all_goals
              go_wp2
              go_roundw
              case rel =>
                refine ⟨i + 1, nm, nad, nn, nc, z * 10 + ((ch : Int) - 48), by first | rfl | simp, by omega, by omega, ?_, HS4.out.put _ _ _ _ _ HN4.out⟩
                unfold Hid
                rw [HT1.out, dv_snoc, ← HQ.out]
              case measure => simp [intOf] <;> omega
      · have HN : Hid (¬ Valid (nums s)) := by
          rcases HV.out with ⟨-, h⟩ | ⟨h, -⟩
          · exact h
          · cases h
        go_wp2
        go_ret2
        exact ⟨0, 11, rfl, .inl ⟨rfl, rfl, HN.out⟩, Below.refl _ _⟩
end Go.Proofs.YtdpbmkfgolemjaaDoor
