/-
  Contract of the document's side: Parse.
-/
import Derived.Test.YtbgbmimgkhchhaaParseAny
import Derived.Test.YtbgbmimgkhchhaaRefMul
namespace Go.Proofs.Ytbgbmimgkhchhaa
open Go.RowKit

/-- the digits of the first i signs -/
def dl (l : List Int) (i : Nat) : List Int := if l.head? = some 45 then (l.take i).drop 1 else l.take i
theorem dl_zero (l : List Int) : dl l 0 = [] := by unfold dl; split <;> simp
theorem dl_first {l : List Int} (h : l.head? = some 45) : dl l 1 = [] := by
  unfold dl
  rw [if_pos h]
  cases l <;> simp
theorem dl_succ {l : List Int} {i : Nat} (hi : i < l.length) (h : ¬ (i = 0 ∧ l.head? = some 45)) : dl l (i + 1) = dl l i ++ [l.getD i 0] := by
  have e : l.getD i 0 = l[i] := by rw [List.getD_eq_getElem?_getD, List.getElem?_eq_getElem hi]; rfl
  unfold dl
  rw [e]
  split
  · rename_i hh
    have h0 : i ≠ 0 := fun h0 => h ⟨h0, hh⟩
    rw [List.take_succ_eq_append_getElem hi, List.drop_append_of_le_length (by simp; omega)]
  · rw [List.take_succ_eq_append_getElem hi]
theorem dl_len (l : List Int) (i : Nat) : (dl l i).length ≤ l.length := by
  unfold dl
  split <;> simp <;> omega
theorem dl_all (l : List Int) : sval l = (if l.head? = some 45 then - dv (dl l l.length) else dv (dl l l.length)) := by
  unfold sval dl
  split
  · rw [List.take_length, List.drop_one]
  · rw [List.take_length]
theorem textZ_sign (z : Int) (h0 : -BIG < z) (h1 : z < BIG) (i : Nat) (hi : i < (textZ z).length) : (i = 0 ∧ (textZ z).getD i 0 = 45) ∨ (48 ≤ (textZ z).getD i 0 ∧ (textZ z).getD i 0 ≤ 57) := by
  have hm : (textZ z).getD i 0 ∈ textZ z := by
    rw [List.getD_eq_getElem?_getD, List.getElem?_eq_getElem hi]; exact List.getElem_mem hi
  rcases textZ_cases z h0 h1 with ⟨-, e⟩ | ⟨-, e, -⟩ | ⟨-, e, -⟩ <;> rw [e] at hm hi ⊢
  · simp only [List.mem_singleton] at hm; right; omega
  · exact .inr (digs_all _ _ _ hm)
  · cases i with
    | zero => exact .inl ⟨rfl, rfl⟩
    | succ i =>
      right
      have hi' : i < (digs (K5 + 1) (-z).toNat).length := by simpa using hi
      rw [List.getD_cons_succ, List.getD_eq_getElem?_getD, List.getElem?_eq_getElem hi']
      exact digs_all _ _ _ (List.getElem_mem hi')

def PR (w : World) (go : Nat) (l : List Int) (iv : Value) (W : World) : Prop :=
  ∃ (i : Nat) (x : Nv), iv = .int .i64 i ∧ i ≤ l.length ∧ Hid (x.z = dv (dl l i) ∧ AllDig (dl l i)) ∧ MulS w go x W

set_option maxHeartbeats 4000000 in
set_option maxRecDepth 100000 in
theorem refParse_any (s : ByteArray) (hsz : s.size ≤ 300) (w : World) :
    Calls Try.prog 34 #[.string s] w (PAnyP s w) := by
  obtain ⟨l, hl⟩ : ∃ l, l = nums s := ⟨_, rfl⟩
  have hlen : l.length = s.size := by rw [hl, nums_length]
  have HL := Lib.hid hl
  clear hl
  go_enter Try.func34, Try.ntmps34
  go_upto_region 2 with (fail)
  generalize hgo : w.heap.size + 1 = go at *
  have HGO := Lib.hid hgo
  clear hgo
  refine wp_abs (fun W => MulS w go ⟨false, none, 0, 0, 0⟩ W) ?_ ?_
  · have eg := HGO.out
    subst eg
    have hv := (var_new w.heap.size w (Nat.le_refl _) w.heap.size rfl 25).below (bl_one _ (.cells #[.bool false, .slice none 0 0] 28))
    exact ⟨⟨by simp [go_sem], by simp [go_sem], ⟨false, none, 0, 0, fun _ => 0, rfl, ⟨fun _ => by omega, fun _ _ => rfl, .inl rfl, .inl rfl⟩, fun _ => rfl, by simp [sg, dval]⟩⟩, by simp [go_sem], by simp [go_sem], hv, by omega, bl_trans (bl_one _ _) (bl_one _ _)⟩
  clear HGO
  intro W2 hS0
  have HS0 := Lib.hid hS0
  clear hS0
  go_wp2
  go_loopw [5] (fun iv W => PR w go l iv W) (fun iv _ => 301 - (intOf iv).toNat)
  case atStart => exact ⟨0, _, rfl, by omega, ⟨by rw [dl_zero]; rfl, by rw [dl_zero]; intro d hd; cases hd⟩, HS0.out⟩
  case round =>
    obtain ⟨i, x, rfl, hi, HQ, hS⟩ := hrel
    have HS := Lib.hid hS
    clear hS
    by_cases hlt : i < s.size
    · have b1 : decide ((i : Int) < (s.size : Int)) = true := by simp; omega
      obtain ⟨ch, hc⟩ : ∃ ch : Nat, (s[i]'hlt).toNat = ch := ⟨_, rfl⟩
      have hli : Hid (l.getD i 0 = (ch : Int) ∧ i < l.length) := ⟨by rw [HL.out, nums_get s i hlt, hc], by omega⟩
      by_cases hA : i = 0 ∧ ch = 45
      · obtain ⟨rfl, rfl⟩ := hA
        have hh : l.head? = some 45 := by
          have := head_of hlt
          rw [← HL.out, hc] at this
          exact this
        have HH := Lib.hid hh
        clear hh
        go_wp2
        go_roundw
        case rel =>
          refine ⟨1, x, by first | rfl | simp, by omega, ?_, HS.out⟩
          have h1 := HQ.out
          rw [dl_zero] at h1
          rw [dl_first HH.out]
          exact h1
        case measure => simp [intOf] <;> omega
      · by_cases hB : 48 ≤ ch ∧ ch ≤ 57
        · have h45 : ¬ (ch : Int) = 45 := by omega
          have h48 : (48 : Int) ≤ (ch : Int) := by omega
          have h57 : (ch : Int) ≤ 57 := by omega
          have HD := Lib.hid (show dl l (i + 1) = dl l i ++ [(ch : Int)] by
            rw [dl_succ hli.out.2 (fun h => hA ⟨h.1, by
              obtain ⟨h6, h7⟩ := h
              subst h6
              have := head_of hlt
              rw [← HL.out, h7, hc] at this
              have h5 := Option.some.inj this
              omega⟩), hli.out.1])
          have hw1 : IntKind.i64.wrap (ch : Int) = ch := IntWalk.i64_in _ (by omega)
          have hw2 : IntKind.i64.wrap ((ch : Int) - 48) = (ch : Int) - 48 := IntWalk.i64_in _ (by omega)
          clear hA hB
          go_upto_region 8 with (fail)
          obtain ⟨xm, xad, xn, xc, xz⟩ := x
          have k0 := HS.out.nv.c0
          have k1 := HS.out.nv.c1
          have h0 := HS.out.f0
          have h1 := HS.out.f1
          dsimp only at k0 k1
          have hxz : 0 ≤ xz ∧ xz * 10 < BIG := by
            have e : xz = dv (dl l i) := HQ.out.1
            have hl := dl_len l i
            have hn := dv_nonneg _ (dl l i) rfl HQ.out.2
            have h2 := dv_lt _ (dl l i) rfl HQ.out.2
            have h3 := p16le ((dl l i).length + 1) (by unfold K4; omega)
            rw [Int.pow_succ] at h3
            rw [e]; omega
          have HB1 : Hid (-BIG < xz ∧ xz < BIG) := by unfold Hid; omega
          have HB2 : Hid (-BIG < xz * 10 ∧ xz * 10 < BIG) := by unfold Hid; omega
          have HB3 : Hid (-BIG < (10 : Int) ∧ (10 : Int) < BIG) := by have := m256_big2; unfold M256 at this; unfold Hid; omega
          have HB4 : Hid (-BIG < (ch : Int) - 48 ∧ (ch : Int) - 48 < BIG) := by have := m256_big2; unfold M256 at this; unfold Hid; omega
          clear hxz
          go_region_with (first
            | (go_at_call 14; (with_reducible refine (small_num 10 (by omega) (by omega) _).mono ?_); rintro e w1 ⟨v1, rfl, hN1, hb1⟩
               have HN1 := Lib.hid hN1
               clear hN1
               have HS1 := Lib.hid (HS.out.below (bl_trans (bl_drew1 _) hb1))
               have k2 := HS1.out.nv.c0
               have k3 := HS1.out.nv.c1
               dsimp only at k2 k3
               have HX1 : Hid (NumIs (.agg #[.bool xm, .slice xad xn xc]) xz w1) := HS1.out.nv.hN)
            | (go_at_call 31; (with_reducible refine (times_num _ v1 xz _ w1 HX1.out HN1.out HB1.out HB3.out).mono ?_); rintro e w2 ⟨v2, rfl, hN2, hb2⟩
               have HN2 := Lib.hid hN2
               clear hN2
               have HS2 := Lib.hid (HS1.out.below hb2))
            | (go_at_call 14; (with_reducible refine (small_num ((ch : Int) - 48) (by omega) (by omega) _).mono ?_); rintro e w3 ⟨v3, rfl, hN3, hb3⟩
               have HN3 := Lib.hid hN3
               clear hN3
               have HN23 := Lib.hid (HN2.out.below hb3)
               have HS3 := Lib.hid (HS2.out.below hb3))
            | (go_at_call 32; (with_reducible refine (plus_c v2 v3 _ _ w3 HN23.out HN3.out HB2.out HB4.out).mono ?_); rintro e w4 ⟨v4, rfl, hN4, hb4⟩
               obtain ⟨nm, nad, nn, nc, rfl⟩ := hN4.shape
               have HN4 := Lib.hid hN4
               clear hN4
               have HS4 := Lib.hid (HS3.out.below hb4)
               have k4 := HS4.out.nv.c0
               have k5 := HS4.out.nv.c1
               have h4 := HS4.out.f0
               have h5 := HS4.out.f1
               dsimp only at k4 k5))
          all_goals
            go_wp2
            go_roundw
            case rel =>
              refine ⟨i + 1, ⟨nm, nad, nn, nc, xz * 10 + ((ch : Int) - 48)⟩, by first | rfl | simp, by omega, ?_, HS4.out.put _ _ _ _ _ HN4.out⟩
              have h1 : xz = dv (dl l i) ∧ AllDig (dl l i) := HQ.out
              rw [HD.out, dv_snoc, ← h1.1]
              refine ⟨rfl, fun d hd => ?_⟩
              rcases List.mem_append.1 hd with h | h
              · exact h1.2 d h
              · simp at h; omega
            case measure => simp [intOf] <;> omega
        · have HBad : Hid (∀ z, -BIG < z → z < BIG → nums s ≠ textZ z) := by
            intro z z0 z1 e
            have := textZ_sign z z0 z1 i (by rw [← e, nums_length]; exact hlt)
            rw [← e, nums_get s i hlt, hc] at this
            omega
          obtain ⟨-, ⟨v0, v1, v2, v3, v4⟩, ⟨f0, f1, f2, f3, f4⟩⟩ := HS.out.r
          simp only [Nat.zero_add] at v1 v2 v3 v4 f1 f2 f3 f4
          have hbw := Lib.hid HS.out.hb
          have h3 : (¬ (ch : Int) = 45 ∧ (ch : Int) < 48) ∨ (¬ (ch : Int) = 45 ∧ ¬ (ch : Int) < 48 ∧ (57 : Int) < (ch : Int)) ∨ (((i : Int) == 0) = false ∧ ch = 45) := by
            rcases Decidable.em (ch = 45) with h | h
            · exact .inr (.inr ⟨by simp; omega, h⟩)
            · omega
          clear hA hB hli
          rcases h3 with ⟨h4, h5⟩ | ⟨h4, h5, h6⟩ | ⟨h4, rfl⟩
          all_goals
            go_wp2
            refine bodyPost_ret (v := .tuple #[(.agg #[.bool false, .int .u64 0, .int .u64 0, .int .u64 0, .int .u64 0]), .int .i64 11]) (by simp [results, Try.results34, go_sem, v0, v1, v2, v3, v4]) rfl ?_
            refine ⟨false, 0, 0, 0, 0, 11, in4_zero, .inr ⟨HBad.out, rfl, rfl, rfl, rfl, rfl, rfl⟩, rfl, ?_⟩
            have hb := hbw.out
            repeat (first | (with_reducible exact Below.refl _ _) | (with_reducible refine bl_alloc ?_ _) | (with_reducible refine Below.drew ?_) | (with_reducible refine below_drewN' ?_ _) | ((with_reducible refine bl_set ?_ ?_ _); (rotate_left; (dsimp only; omega))))
            exact hb
    · have ei : i = s.size := by omega
      subst ei
      have b1 : decide ((s.size : Int) < (s.size : Int)) = false := by simp
      obtain ⟨xm, xad, xn, xc, xz⟩ := x
      have hq : xz = dv (dl l l.length) ∧ AllDig (dl l l.length) := by rw [hlen]; exact HQ.out
      have HQ2 := Lib.hid hq
      clear hq
      have HZ : Hid (-BIG < sval l ∧ sval l < BIG) := by
        have h2 := dv_nonneg _ _ rfl HQ2.out.2
        have h3 := dv_big (dl l l.length) (by have := dl_len l l.length; omega) HQ2.out.2
        unfold Hid
        rw [dl_all]
        split <;> omega
      go_upto_region 9 with (fail)
      have k0 := HS.out.nv.c0
      have k1 := HS.out.nv.c1
      have h0 := HS.out.f0
      have h1 := HS.out.f1
      dsimp only at k0 k1
      have HX : Hid (NumIs (.agg #[.bool xm, .slice xad xn xc]) xz wr) := HS.out.nv.hN
      go_cut [49] (fun bv W => ∃ b : Bool, bv = .bool b ∧ Hid ((b = true ∧ sval l = - xz) ∨ (b = false ∧ sval l = xz)) ∧ wr = W)
      case first =>
        by_cases hh : l.head? = some 45
        · have hp : 0 < s.size := by
            rw [← hlen]
            rcases hx : l with _ | ⟨y, r⟩
            · rw [hx] at hh; simp at hh
            · simp
          have hc0 : (s[0]'hp).toNat = 45 := by
            have := head_of hp
            rw [← HL.out, hh] at this
            have := Option.some.inj this
            omega
          have b2 : decide ((0 : Int) < (s.size : Int)) = true := by simp; omega
          have HE : Hid (sval l = - xz) := by unfold Hid; rw [dl_all, if_pos hh, HQ2.out.1]
          clear hh
          go_wp2
          go_meet
          case rel => exact ⟨true, by first | rfl | simp, .inl ⟨rfl, HE.out⟩, rfl⟩
        · have HE : Hid (sval l = xz) := by unfold Hid; rw [dl_all, if_neg hh, HQ2.out.1]
          rcases Nat.eq_zero_or_pos s.size with hp | hp
          · have b2 : decide ((0 : Int) < (s.size : Int)) = false := by rw [hp]; rfl
            have hn : ¬ 0 < s.size := by omega
            clear hh hp
            go_wp2
            go_meet
            case rel => exact ⟨false, by first | rfl | simp, .inr ⟨rfl, HE.out⟩, rfl⟩
          · have b2 : decide ((0 : Int) < (s.size : Int)) = true := by simp; omega
            obtain ⟨ch, hc0⟩ : ∃ ch : Nat, (s[0]'hp).toNat = ch := ⟨_, rfl⟩
            have hc1 : ¬ (ch : Int) = 45 := by
              intro h
              apply hh
              rw [HL.out, head_of hp, hc0, h]
            clear hh
            go_wp2
            go_meet
            case rel => exact ⟨false, by first | rfl | (simp; exact hc1), .inr ⟨rfl, HE.out⟩, rfl⟩
      case rest =>
      obtain ⟨b, rfl, HE, rfl⟩ := hcut
      cases b
      case' false =>
        have HE1 : Hid (sval l = xz) := by
          rcases HE.out with ⟨h, -⟩ | ⟨-, h⟩
          · cases h
          · exact h
        go_upto_region 11 with (fail)
        refine wp_abs (fun W => ∃ nm nad nn nc, MulS w go ⟨nm, nad, nn, nc, sval l⟩ W) ?_ ?_
        · exact ⟨xm, xad, xn, xc, by rw [HE1.out]; exact HS.out⟩
      case' true =>
        have HE1 : Hid (sval l = - xz) := by
          rcases HE.out with ⟨-, h⟩ | ⟨h, -⟩
          · exact h
          · cases h
        go_upto_region 11 with (first
          | (go_at_call 12; (with_reducible refine (neg_num _ xz _ HX.out).mono ?_); rintro e w1 ⟨v1, rfl, hN1, hb1⟩
             obtain ⟨nm, nad, nn, nc, rfl⟩ := hN1.shape
             rw [← HE1.out] at hN1
             have HN1 := Lib.hid hN1
             clear hN1
             have HS1 := Lib.hid (HS.out.below hb1)
             have k4 := HS1.out.nv.c0
             have k5 := HS1.out.nv.c1
             have h4 := HS1.out.f0
             have h5 := HS1.out.f1
             dsimp only at k4 k5))
        refine wp_abs (fun W => ∃ nm nad nn nc, MulS w go ⟨nm, nad, nn, nc, sval l⟩ W) ?_ ?_
        · exact ⟨_, _, _, _, HS1.out.put _ _ _ _ _ HN1.out⟩
      all_goals
        intro wc hcut
        obtain ⟨nm, nad, nn, nc, hS⟩ := hcut
        try clear k4 k5 h4 h5 HS1 HN1 hb1
        clear HS k0 k1 h0 h1 HX HE HE1
        have HS := Lib.hid hS
        clear hS
        have k0 := HS.out.nv.c0
        have k1 := HS.out.nv.c1
        dsimp only at k0 k1
        have HX2 : Hid (NumIs (.agg #[.bool nm, .slice nad nn nc]) (sval l) wc) := HS.out.nv.hN
        go_cut [55] (fun bv W => ∃ b : Bool, bv = .bool b ∧ Hid ((b = false ∧ nums s = textZ (sval l)) ∨ (b = true ∧ nums s ≠ textZ (sval l))) ∧ MulS w go ⟨nm, nad, nn, nc, sval l⟩ W)
        case first =>
          go_wp2_with (first
            | (go_at_call 22; (with_reducible refine (refText_num _ (sval l) _ HX2.out HZ.out).mono ?_); rintro e w1 ⟨rfl, hb1⟩
               have HS1 := Lib.hid (HS.out.below hb1)
               obtain ⟨b, hb, HB⟩ : ∃ b : Bool, ((strOfNums (textZ (sval l))).toList == s.toList) = b ∧ Hid (((strOfNums (textZ (sval l))).toList == s.toList) = b) := ⟨_, rfl, rfl⟩)
            | go_in)
          go_meet
          case rel =>
            refine ⟨!b, by first | rfl | simp, ?_, HS1.out⟩
            cases b
            · refine .inr ⟨rfl, fun h => ?_⟩
              have := HB.out
              rw [← h, str_nums] at this
              simp at this
            · refine .inl ⟨rfl, ?_⟩
              have h1 := eq_of_beq HB.out
              rw [ByteArray.toList_eq, ByteArray.toList_eq] at h1
              have h2 : strOfNums (textZ (sval l)) = s := ByteArray.ext (Array.toList_inj.1 h1)
              rw [← h2, nums_str _ (textZ_range _ HZ.out.1 HZ.out.2)]
        case rest =>
          obtain ⟨b, rfl, HB, hS⟩ := hcut
          clear HS k0 k1 HX2
          have HS := Lib.hid hS
          clear hS
          have k0 := HS.out.nv.c0
          have k1 := HS.out.nv.c1
          dsimp only at k0 k1
          cases b
          · have HE2 : Hid (nums s = textZ (sval l)) := by
              rcases HB.out with ⟨-, h⟩ | ⟨h, -⟩
              · exact h
              · cases h
            have HX2 : Hid (NumIs (.agg #[.bool nm, .slice nad nn nc]) (sval l) wc) := HS.out.nv.hN
            go_wp2_with fail
            refine (told_num _ (sval l) _ HX2.out).mono ?_
            rintro e w1 ⟨rm, r0, r1, r2, r3, er, hi', hk, rfl, hb1⟩
            have HI := Lib.hid hi'
            clear hi'
            have HS1 := HS.out.below hb1
            obtain ⟨-, ⟨v0, v1, v2, v3, v4⟩, ⟨f0, f1, f2, f3, f4⟩⟩ := HS1.r
            simp only [Nat.zero_add] at v1 v2 v3 v4 f1 f2 f3 f4
            have hbw := Lib.hid HS1.hb
            clear HS1
            go_wp2
            refine bodyPost_ret (v := .tuple #[(.agg #[.bool rm, .int .u64 r0, .int .u64 r1, .int .u64 r2, .int .u64 r3]), .int .i64 er]) (by simp [results, Try.results34, go_sem, v0, v1, v2, v3, v4]) rfl ?_
            refine ⟨rm, r0, r1, r2, r3, er, HI.out, .inl ⟨sval l, HZ.out.1, HZ.out.2, HE2.out, hk.out⟩, rfl, ?_⟩
            have hb := hbw.out
            repeat (first | (with_reducible exact Below.refl _ _) | (with_reducible refine bl_alloc ?_ _) | (with_reducible refine Below.drew ?_) | (with_reducible refine below_drewN' ?_ _) | ((with_reducible refine bl_set ?_ ?_ _); (rotate_left; (dsimp only; omega))))
            exact hb
          · have HE2 : Hid (∀ z, -BIG < z → z < BIG → nums s ≠ textZ z) := by
              intro z z0 z1 e
              rcases HB.out with ⟨h, -⟩ | ⟨-, h⟩
              · cases h
              · apply h
                rw [HL.out, e, sval_textZ z z0 z1]
            obtain ⟨-, ⟨v0, v1, v2, v3, v4⟩, ⟨f0, f1, f2, f3, f4⟩⟩ := HS.out.r
            simp only [Nat.zero_add] at v1 v2 v3 v4 f1 f2 f3 f4
            have hbw := Lib.hid HS.out.hb
            go_wp2
            refine bodyPost_ret (v := .tuple #[(.agg #[.bool false, .int .u64 0, .int .u64 0, .int .u64 0, .int .u64 0]), .int .i64 11]) (by simp [results, Try.results34, go_sem, v0, v1, v2, v3, v4]) rfl ?_
            refine ⟨false, 0, 0, 0, 0, 11, in4_zero, .inr ⟨HE2.out, rfl, rfl, rfl, rfl, rfl, rfl⟩, rfl, ?_⟩
            have hb := hbw.out
            repeat (first | (with_reducible exact Below.refl _ _) | (with_reducible refine bl_alloc ?_ _) | (with_reducible refine Below.drew ?_) | (with_reducible refine below_drewN' ?_ _) | ((with_reducible refine bl_set ?_ ?_ _); (rotate_left; (dsimp only; omega))))
            exact hb
end Go.Proofs.Ytbgbmimgkhchhaa
