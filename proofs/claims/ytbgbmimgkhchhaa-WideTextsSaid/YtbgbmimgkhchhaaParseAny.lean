/-
  Contract of wide.Parse at any text.
-/
import Derived.Test.YtbgbmimgkhchhaaParseG
namespace Go.Proofs.Ytbgbmimgkhchhaa
open Go.RowKit

set_option maxHeartbeats 2000000 in
set_option maxRecDepth 100000 in
theorem parse_no (full s : ByteArray) (mn : Bool) (hcut : ∀ w, Calls Try.prog 50 #[.string full, .string ⟨#[45]⟩] w fun e w' => e = .returned (.tuple #[.string s, .bool mn]) ∧ w = w') (hs2 : s.size ≤ 1000) (hs : ¬ Dec s ∨ Dec s ∧ mn = true ∧ (s.toList == [48]) = true) (w : World) :
    Calls Try.prog 33 #[.string full] w fun e w' => e = .returned (.tuple #[(.agg #[.bool false, .int .u64 0, .int .u64 0, .int .u64 0, .int .u64 0]), .int .i64 11]) ∧ Below w.heap.size w w' := by
  have HC := Lib.hid hcut
  clear hcut
  go_enter Try.func33, Try.ntmps33
  go_upto_region 1 with (fail)
  refine wp_abs (fun W => PW w W) ?_ ?_
  · refine ⟨?_, ?_, by repeat (first | (with_reducible exact Below.refl _ _) | (with_reducible refine bl_alloc ?_ _) | (with_reducible refine Below.drew ?_) | (with_reducible refine below_drewN' ?_ _) | ((with_reducible refine bl_set ?_ ?_ _); (rotate_left; (dsimp only; omega))))⟩
    all_goals (constructor <;> simp [go_sem])
  intro W0 S0
  have H0 := Lib.hid S0
  clear S0
  go_wp2_with fail
  refine (HC.out _).mono ?_
  rintro e w1 ⟨rfl, rfl⟩
  go_upto_region 2 with (fail)
  go_cut [24] (fun bv W => bv = .bool true ∧ PW w W)
  case first =>
    rcases hs with hs | ⟨hs, rfl, hm⟩
    · go_wp2_with (first
        | (go_at_call 51; (with_reducible refine (isDec_no s hs2 hs _).mono ?_); rintro e w2 ⟨rfl, hb⟩)
        | go_in)
      go_meet
      case rel => exact ⟨by first | rfl | simp, H0.out.below hb⟩
    · have HS := Lib.hid hs
      clear hs
      go_wp2_with (first
        | (go_at_call 51; (with_reducible refine (isDec_yes s HS.out _).mono ?_); rintro e w2 ⟨rfl, hb⟩)
        | go_in)
      go_meet
      case rel => exact ⟨by first | rfl | simp, H0.out.below hb⟩
  case rest =>
  obtain ⟨rfl, S2⟩ := hcut
  clear H0 hs
  obtain ⟨⟨r0, r1, r2, r3, r4⟩, ⟨k0, k1, k2, k3, k4⟩, hb⟩ := S2
  simp only [Nat.zero_add] at r1 r2 r3 r4 k1 k2 k3 k4
  go_wp2
  refine bodyPost_ret (v := .tuple #[(.agg #[.bool false, .int .u64 0, .int .u64 0, .int .u64 0, .int .u64 0]), .int .i64 11]) (by simp [results, Try.results33, go_sem, r0, r1, r2, r3, r4]) rfl ⟨rfl, ?_⟩
  repeat (first | (with_reducible exact Below.refl _ _) | (with_reducible refine bl_alloc ?_ _) | (with_reducible refine Below.drew ?_) | (with_reducible refine below_drewN' ?_ _) | ((with_reducible refine bl_set ?_ ?_ _); (rotate_left; (dsimp only; omega))))
  exact hb

theorem dec_of {t : ByteArray} (h2 : t.size ≤ 1000) (ha : AllDig (nums t)) (h0 : nums t ≠ []) (h : (∀ d ∈ (nums t).head?, d ≠ 48) ∨ nums t = [48]) : Dec t := by
  have hp : 0 < t.size := by
    rw [← nums_length]
    exact List.length_pos_iff.2 h0
  refine ⟨hp, h2, fun hp e => ?_, fun i hi => ?_⟩
  · rcases h with h | h
    · have := h _ (head_of hp)
      omega
    · rw [← nums_length, h]; rfl
  · have hm : (nums t).getD i 0 ∈ nums t := by
      have hl : i < (nums t).length := by rw [nums_length]; exact hi
      rw [List.getD_eq_getElem?_getD, List.getElem?_eq_getElem hl]
      exact List.getElem_mem hl
    have := ha _ hm
    rw [nums_get t i hi] at this
    omega
theorem nums_tail (s : ByteArray) : nums (s.extract 1 s.size) = (nums s).tail := by
  have : (s.extract 1 s.size).data = s.data.extract 1 s.size := by simp
  unfold nums
  rw [this, Array.toList_extract, ← List.map_tail]
  congr 1
  rw [← ByteArray.size_data, ← Array.length_toList]
  rcases s.data.toList with _ | ⟨x, l⟩
  · rfl
  · simp [List.extract]
theorem toList_48 {t : ByteArray} : (t.toList == [48]) = decide (nums t = [48]) := by
  rw [ByteArray.toList_eq]
  have e : nums t = t.data.toList.map fun x => (x.toNat : Int) := rfl
  rw [e]
  rcases t.data.toList with _ | ⟨x, _ | ⟨y, l⟩⟩
  · rfl
  · by_cases h : x = 48
    · subst h; rfl
    · have : ¬ (x.toNat : Int) = 48 := fun h' => h (UInt8.toNat_inj.1 (by show x.toNat = 48; omega))
      have h1 : ([x] == [48]) = false := by simp [h]
      rw [h1]; simp; omega
  · simp
theorem head_cons {l : List Int} {x : Int} (h : l.head? = some x) : l = x :: l.tail := by
  cases l with
  | nil => simp at h
  | cons a r => simp at h; simp [h]
def PAnyP (s : ByteArray) (w : World) (e : Ending) (w' : World) : Prop :=
  ∃ (m : Bool) (a b c d er : Int), In4 a b c d ∧ Hid (PSpec s m a b c d er) ∧ e = .returned (.tuple #[(.agg #[.bool m, .int .u64 a, .int .u64 b, .int .u64 c, .int .u64 d]), .int .i64 er]) ∧ Below w.heap.size w w'
theorem q_ok {m mn : Bool} {a b c d er Z z : Int} (hi : In4 a b c d) (h : (er = 0 ∧ m = (mn && decide (V4 a b c d ≠ 0)) ∧ V4 a b c d = Z) ∨ (er = 10 ∧ (m = false ∧ a = 0 ∧ b = 0 ∧ c = 0 ∧ d = 0) ∧ M256 ≤ Z)) (hz : z = if mn then -Z else Z) : WideOk z m a b c d er := by
  rcases h with ⟨rfl, hm, hv⟩ | ⟨rfl, h0, hv⟩
  · have hn := norm_of hm
    have hb := wv_bounds (m := m) hi
    have e : WV m a b c d = z := by rw [hn.1, hz, hv]
    rw [e] at hb
    exact .inl ⟨rfl, e, hn.2, hb.1, hb.2⟩
  · refine .inr ⟨rfl, h0, ?_⟩
    rw [hz]
    cases mn <;> simp <;> omega
theorem parse_any (s : ByteArray) (h3 : s.size ≤ 400) (w : World) : Calls Try.prog 33 #[.string s] w (PAnyP s w) := by
  by_cases hm : (nums s).head? = some 45
  · have hp : 0 < s.size := by
      rw [← nums_length]
      rcases hx : nums s with _ | ⟨x, l⟩
      · rw [hx] at hm; simp at hm
      · simp
    have h45 : (s[0]'hp).toNat = 45 := by
      have := head_of hp
      rw [hm] at this
      injection this with this
      omega
    have hcut := cutPrefix_yes s hp (by omega) h45
    obtain ⟨t, ht⟩ : ∃ t, t = s.extract 1 s.size := ⟨_, rfl⟩
    rw [← ht] at hcut
    have hn : nums s = 45 :: nums t := by rw [ht, nums_tail]; exact head_cons hm
    have hts : t.size ≤ 400 := by rw [← nums_length]; rw [← nums_length, hn] at h3; simp at h3; omega
    by_cases hd : Dec t ∧ (t.toList == [48]) = false
    · refine (parse_gen s t true hcut hd.1 (fun _ => hd.2) w).mono ?_
      rintro e w' ⟨m, a, b, c, d, er, hi, hq, he, hb⟩
      obtain ⟨e1, e2, e3⟩ := dec_text hd.1 hts
      have hne : decTo t t.size ≠ 0 := by
        intro h0
        rw [if_pos h0] at e1
        have := hd.2
        rw [toList_48, e1] at this
        simp at this
      refine ⟨m, a, b, c, d, er, hi, .inl ⟨- decTo t t.size, by omega, by omega, ?_, q_ok hi hq.out (by simp)⟩, he, hb⟩
      rw [hn, e1, if_neg hne]
      unfold textZ
      rw [if_neg (by omega), if_pos (by omega), show (- decTo t t.size).natAbs = (decTo t t.size).toNat by omega]
      rfl
    · refine (parse_no s t true hcut (by omega) ?_ w).mono ?_
      · by_cases hdt : Dec t
        · refine .inr ⟨hdt, rfl, ?_⟩
          rcases hx : (t.toList == [48]) with _ | _
          · exact absurd ⟨hdt, hx⟩ hd
          · rfl
        · exact .inl hdt
      · rintro e w' ⟨he, hb⟩
        refine ⟨false, 0, 0, 0, 0, 11, in4_zero, .inr ⟨fun z z0 z1 hz => hd ?_, rfl, rfl, rfl, rfl, rfl, rfl⟩, he, hb⟩
        rcases textZ_cases z z0 z1 with ⟨-, e⟩ | ⟨-, e, -⟩ | ⟨hneg, e, hk⟩ <;> rw [e, hn] at hz
        · simp at hz
        · have := digs_all (K5 + 1) z.toNat 45 (by rw [← hz]; simp)
          omega
        · injection hz with _ hz
          have hh := digs_head _ _ hk
          have hne := digs_ne _ _ (show (-z).toNat ≠ 0 by omega) hk
          rw [← hz] at hh hne
          refine ⟨dec_of (by omega) (by rw [hz]; exact digs_all _ _) hne (.inl hh), ?_⟩
          rw [toList_48]
          simp only [decide_eq_false_iff_not]
          intro h48
          rw [h48] at hh
          exact hh 48 (by simp) rfl
  · have hcut := cutPrefix_other s (by omega) (fun hp h => hm (by rw [head_of hp, h]; rfl))
    by_cases hd : Dec s
    · refine (parse_gen s s false hcut hd (fun h => by cases h) w).mono ?_
      rintro e w' ⟨m, a, b, c, d, er, hi, hq, he, hb⟩
      obtain ⟨e1, e2, e3⟩ := dec_text hd h3
      have hB : 0 < BIG := p16_pos 100
      refine ⟨m, a, b, c, d, er, hi, .inl ⟨decTo s s.size, by omega, e3, ?_, q_ok hi hq.out (by simp)⟩, he, hb⟩
      rw [e1]
      unfold textZ
      split
      · rfl
      · rw [if_neg (by omega), show (decTo s s.size).natAbs = (decTo s s.size).toNat by omega]
        rfl
    · refine (parse_no s s false hcut (by omega) (.inl hd) w).mono ?_
      rintro e w' ⟨he, hb⟩
      refine ⟨false, 0, 0, 0, 0, 11, in4_zero, .inr ⟨fun z z0 z1 hz => hd ?_, rfl, rfl, rfl, rfl, rfl, rfl⟩, he, hb⟩
      rcases textZ_cases z z0 z1 with ⟨-, e⟩ | ⟨hpos, e, hk⟩ | ⟨-, e, -⟩ <;> rw [e] at hz
      · exact dec_of (by omega) (by rw [hz]; intro d hd; simp at hd; omega) (by rw [hz]; simp) (.inr hz)
      · exact dec_of (by omega) (by rw [hz]; exact digs_all _ _) (by rw [hz]; exact digs_ne _ _ (by omega) hk) (.inl (by rw [hz]; exact digs_head _ _ hk))
      · exact absurd (by rw [hz]; rfl) hm
end Go.Proofs.Ytbgbmimgkhchhaa
