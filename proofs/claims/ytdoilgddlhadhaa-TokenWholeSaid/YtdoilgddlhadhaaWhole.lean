/-
  The walk of the law TokenWhole.
-/
import Derived.Test.YtdoilgddlhadhaaWhole0
namespace Go.Proofs.Ytdoilgddlhadhaa
open Go.RowKit

set_option maxHeartbeats 8000000 in
set_option maxRecDepth 100000 in
theorem whole_l (ad : Option Addr) (cap : Nat) (s : ByteArray) (hcap : s.size ≤ cap) (w : World) (hB : BytesIn w ad s) : Calls Try.prog 9 #[.slice ad s.size cap] w (Gives (.bool true) w) := by
  have K := Lib.hid (fun W => known_c W)
  have HB := Lib.hid hB
  have HT : Hid (TextOf w (.slice ad s.size cap) s) := text_of hB
  clear hB
  go_enter Try.func9, Try.ntmps9
  rcases Nat.lt_or_ge 5000 s.size with h1 | h1
  · have b1 : ((5000 : Int) < (s.size : Int)) = True := by simp; omega
    go_wp2_with fail
    (with_reducible refine (K.out _).mono ?_); rintro e w1 ⟨rfl, hb1⟩
    go_wp2
    go_ret
    exact ⟨rfl, by repeat (first | (with_reducible exact Below.refl _ _) | (with_reducible refine bl_alloc ?_ _) | (with_reducible refine Below.drew ?_) | (with_reducible refine below_drewN' ?_ _) | (with_reducible refine bl_trans ?_ hb1) | ((with_reducible refine bl_set ?_ ?_ _); (rotate_left; (dsimp only; omega))))⟩
  have b1 : ((5000 : Int) < (s.size : Int)) = False := by simp; omega
  have HW := Lib.hid (fun (i : Nat) (hi : i < (wordsOf s).length) => words_at s hi)
  have HL := Lib.hid (words_len s)
  have CA := Lib.hid (all_w ad s.size cap s rfl (by omega) w HT.out)
  have L0 : Hid (lastOf (toks (nums s)) 0 0 = 0) := rfl
  generalize wordsOf s = ts at *
  generalize lastOf (toks (nums s)) 0 = la at *
  clear HT
  go_upto_region 3 with (fail)
  go_cut [3, 4] (fun lv ev W => ∃ a1 c1, lv = .slice a1 ts.length c1 ∧ ev = .int .i64 0 ∧ (fun W => TokCells W a1 ts ∧ BytesIn W ad s ∧ Below w.heap.size w W) W)
  case first =>
    go_wp2_with fail
    (with_reducible refine CA.out.mono ?_); rintro e w1 ⟨a1, c1, rfl, hT1, hb1⟩
    have HX : Hid ((fun W => TokCells W a1 ts ∧ BytesIn W ad s ∧ Below w.heap.size w W) w1) := ⟨hT1, HB.out.below hb1, hb1⟩
    clear hT1 hb1
    go_wp2_with fail
    go_meet
    case rel => exact ⟨a1, c1, rfl, rfl, HX.out⟩
  case rest =>
  obtain ⟨a1, c1, rfl, rfl, hS⟩ := hcut
  have HS0 := Lib.hid hS
  have hL := HL.out
  clear hS CA HB HL
  go_wp2_with fail
  go_loopw [5, 6] (fun lv iv W => ∃ i : Nat, i ≤ ts.length ∧ iv = .int .i64 i ∧ lv = .int .i64 (la i : Nat) ∧ (fun W => TokCells W a1 ts ∧ BytesIn W ad s ∧ Below w.heap.size w W) W) (fun _ iv _ => ts.length - (intOf iv).toNat)
  case atStart => exact ⟨0, by omega, rfl, by rw [L0.out]; rfl, HS0.out⟩
  case round =>
    obtain ⟨i, hi, rfl, rfl, hS⟩ := hrel
    clear HS0
    have HS0 : Hid ((fun W => TokCells W a1 ts ∧ BytesIn W ad s ∧ Below w.heap.size w W) _) := hS
    clear hS b1
    by_cases hlt : i < ts.length
    · have b1 : ((i : Int) < (ts.length : Int)) = True := by simp; omega
      obtain ⟨a, b, he, hT, hla, hlb⟩ := HW.out i hlt
      obtain ⟨n, rfl⟩ : ∃ n, b = a + n := ⟨b - a, by have := hT.lt; omega⟩
      have hn0 : 0 < n := by have := hT.lt; omega
      have hle : a + n ≤ s.size := by have := hT.le; rw [nums_length] at this; exact this
      obtain ⟨gt, ot, rfl, -, -⟩ := HS0.out.1 i hlt
      obtain ⟨g, o, rfl, -⟩ := HS0.out.2.1 a (by omega)
      obtain ⟨t, ht⟩ : ∃ t, t = s.extract a (a + n) := ⟨_, rfl⟩
      have hts : t.size = n := by rw [ht, ByteArray.size_extract]; omega
      rw [← ht] at he
      have HE := Lib.hid he
      have HTX := Lib.hid ht
      have HTA := Lib.hid hT
      have HLB := Lib.hid hlb
      have HLE := Lib.hid hle
      have HTG := Lib.hid (fun k (hk : k < n) => by
        have := ext_get s (a := a) (b := a + n) (k := k) (by omega) hle
        rw [← ht] at this
        exact this : ∀ k, k < n → (nums t).getD k 0 = (nums s).getD (a + k) 0)
      clear he ht hT hlb
      go_upto_region 10 with (fail)
      go_cut [7] (fun nv W => nv = .int .i64 (n : Int) ∧ (fun W => TokCells W (some ⟨gt, ot, none⟩) ts ∧ BytesIn W (some ⟨g, o, none⟩) s ∧ Below w.heap.size w W) W)
      case first =>
        obtain ⟨k0, k1⟩ := tokCells_at HS0.out.1 hlt HE.out
        go_wp2_with fail
        go_meet
        case rel => exact ⟨by first | rfl | rw [hts], HS0.out⟩
      case rest =>
      obtain ⟨rfl, hS⟩ := hcut
      clear HS0
      have HS0 := Lib.hid hS
      clear hS
      go_upto_region 11 with (fail)
      go_cut [86] (fun tv W => tv = .bool false ∧ (fun W => TokCells W (some ⟨gt, ot, none⟩) ts ∧ BytesIn W (some ⟨g, o, none⟩) s ∧ Below w.heap.size w W) W)
      case first =>
        have e1 : ((n : Int) == 0) = false := by simp; omega
        have e2 : decide ((a : Int) < (la i : Int)) = false := by simp; omega
        have e3 : decide ((s.size : Int) < (a : Int) + (n : Int)) = false := by simp; omega
        have e2' : ((a : Int) < (la i : Int)) = False := by simp; omega
        have e3' : ((s.size : Int) < (a : Int) + (n : Int)) = False := by simp; omega
        have f1 : (0 ≤ (a : Int) + (n : Int)) = True := eq_true (by omega)
        have f2 : ((a : Int) + (n : Int) ≤ (cap : Int)) = True := eq_true (by omega)
        have f3 : ((a : Int) + (n : Int)).toNat = a + n := by omega
        have f4 : (cap = a) = False := eq_false (by omega)
        obtain ⟨w1, w2⟩ := wsum (a := a) (n := n) (by omega)
        have t0 : 0 < t.size := by omega
        obtain ⟨c, hc⟩ : ∃ c : Nat, (t[0]'t0).toNat = c := ⟨_, rfl⟩
        have e4 : ((c : Int) == 35) = false := by
          have h := HTA.out.sh
          have h2 := HTG.out 0 hn0
          rw [Nat.add_zero] at h2
          rw [← h2, nums_get t 0 t0, hc] at h
          simp
          omega
        generalize la i = lz at *
        clear HTA HTG HW hL h1
        refine wp_region_held_drew (S := fun W => TokCells W (some ⟨gt, ot, none⟩) ts ∧ BytesIn W (some ⟨g, o, none⟩) s ∧ Below w.heap.size w W) (by kernel_rfl) ?_ (fun q1 => ?_)
        · exact ⟨HS0.out.1.below (bel_drew _), HS0.out.2.1.below (bel_drew _), bl_trans HS0.out.2.2 (bel_drew _)⟩
        revert q1
        generalize World.drew _ = W1
        intro q1
        refine tk (i := 0) (v := ?_) rfl (Or.inl ⟨by rfl, ?_⟩) ?_
        rotate_left
        · intro Wq hSw
          clear hSw
          go_simp
          all_goals (with_reducible rfl)
        try simp only [Act.put, x2, x4, x5, x6, x7]
        refine tk (i := 1) (v := ?_) rfl (Or.inl ⟨by rfl, ?_⟩) ?_
        rotate_left
        · intro Wq hSw
          clear hSw
          go_simp
          all_goals (with_reducible rfl)
        try simp only [Act.put, x2, x3, x4, x5, x6, x7]
        refine tk (i := 2) (v := ?_) rfl (Or.inl ⟨by rfl, ?_⟩) ?_
        rotate_left
        · intro Wq hSw
          clear hSw
          go_simp
          all_goals (with_reducible rfl)
        try simp only [Act.put, x2, x3, x4, x5, x6, x7]
        refine tk (i := 3) (v := ?_) rfl (Or.inl ⟨by rfl, ?_⟩) ?_
        rotate_left
        · intro Wq hSw
          clear hSw
          go_simp
          all_goals (with_reducible rfl)
        try simp only [Act.put, x2, x3, x4, x5, x6, x7]
        refine tk (i := 4) (v := ?_) rfl (Or.inl ⟨by rfl, ?_⟩) ?_
        rotate_left
        · intro Wq hSw
          clear hSw
          go_simp
          all_goals (with_reducible rfl)
        try simp only [Act.put, x2, x3, x4, x5, x6, x7]
        refine tk (i := 5) (v := ?_) rfl (Or.inl ⟨by rfl, ?_⟩) ?_
        rotate_left
        · intro Wq hSw
          clear hSw
          go_simp
          all_goals (with_reducible rfl)
        try simp only [Act.put, x2, x3, x4, x5, x6, x7]
        refine tk (i := 6) (v := ?_) rfl (Or.inl ⟨by rfl, ?_⟩) ?_
        rotate_left
        · intro Wq hSw
          clear hSw
          go_simp
          all_goals (with_reducible rfl)
        try simp only [Act.put, x2, x3, x4, x5, x6, x7]
        refine tk (i := 7) (v := ?_) rfl (Or.inl ⟨by rfl, ?_⟩) ?_
        rotate_left
        · intro Wq hSw
          obtain ⟨k0, k1⟩ := tokCells_at (id hSw).1 hlt HE.out
          clear hSw
          go_simp
          all_goals (with_reducible rfl)
        try simp only [Act.put, x2, x3, x4, x5, x6, x7]
        refine tk (i := 8) (v := ?_) rfl (Or.inl ⟨by rfl, ?_⟩) ?_
        rotate_left
        · intro Wq hSw
          clear hSw
          go_simp
          all_goals (with_reducible rfl)
        try simp only [Act.put, x2, x3, x4, x5, x6, x7]
        refine tk (i := 9) (v := ?_) rfl (Or.inl ⟨by rfl, ?_⟩) ?_
        rotate_left
        · intro Wq hSw
          clear hSw
          go_simp
          all_goals (with_reducible rfl)
        try simp only [Act.put, x2, x3, x4, x5, x6, x7]
        refine tk (i := 10) (v := ?_) rfl (Or.inl ⟨by rfl, ?_⟩) ?_
        rotate_left
        · intro Wq hSw
          clear hSw
          go_simp
          all_goals (with_reducible rfl)
        try simp only [Act.put, x2, x3, x4, x5, x6, x7]
        refine tk (i := 11) (v := ?_) rfl (Or.inl ⟨by rfl, ?_⟩) ?_
        rotate_left
        · intro Wq hSw
          clear hSw
          go_simp
          all_goals (with_reducible rfl)
        try simp only [Act.put, x2, x3, x4, x5, x6, x7]
        refine tk (i := 12) (v := ?_) rfl (Or.inl ⟨by rfl, ?_⟩) ?_
        rotate_left
        · intro Wq hSw
          clear hSw
          go_simp
          all_goals (with_reducible rfl)
        try simp only [Act.put, x2, x3, x4, x5, x6, x7]
        refine tk (i := 13) (v := ?_) rfl (Or.inl ⟨by rfl, ?_⟩) ?_
        rotate_left
        · intro Wq hSw
          clear hSw
          go_simp
          all_goals (with_reducible rfl)
        try simp only [Act.put, x2, x3, x4, x5, x6, x7]
        refine tk (i := 14) (v := ?_) rfl (Or.inl ⟨by rfl, ?_⟩) ?_
        rotate_left
        · intro Wq hSw
          clear hSw
          go_simp
          all_goals (with_reducible rfl)
        try simp only [Act.put, x2, x3, x4, x5, x6, x7]
        refine tk (i := 15) (v := ?_) rfl (Or.inl ⟨by rfl, ?_⟩) ?_
        rotate_left
        · intro Wq hSw
          clear hSw
          go_simp
          all_goals (with_reducible rfl)
        try simp only [Act.put, x2, x3, x4, x5, x6, x7]
        refine tk (i := 16) (v := ?_) rfl (Or.inl ⟨by rfl, ?_⟩) ?_
        rotate_left
        · intro Wq hSw
          obtain ⟨k0, k1⟩ := tokCells_at (id hSw).1 hlt HE.out
          clear hSw
          go_simp
          all_goals (with_reducible rfl)
        try simp only [Act.put, x2, x3, x4, x5, x6, x7]
        refine tk (i := 17) (v := ?_) rfl (Or.inl ⟨by rfl, ?_⟩) ?_
        rotate_left
        · intro Wq hSw
          clear hSw
          go_simp
          all_goals (with_reducible rfl)
        try simp only [Act.put, x2, x3, x4, x5, x6, x7]
        refine tk (i := 18) (v := ?_) rfl (Or.inl ⟨by rfl, ?_⟩) ?_
        rotate_left
        · intro Wq hSw
          clear hSw
          go_simp
          all_goals (with_reducible rfl)
        try simp only [Act.put, x2, x3, x4, x5, x6, x7]
        refine tk (i := 19) (v := ?_) rfl (Or.inl ⟨by rfl, ?_⟩) ?_
        rotate_left
        · intro Wq hSw
          clear hSw
          go_simp
          all_goals (with_reducible rfl)
        try simp only [Act.put, x2, x3, x4, x5, x6, x7]
        refine tk (i := 20) (v := ?_) rfl (Or.inl ⟨by rfl, ?_⟩) ?_
        rotate_left
        · intro Wq hSw
          clear hSw
          go_simp
          all_goals (with_reducible rfl)
        try simp only [Act.put, x2, x3, x4, x5, x6, x7]
        refine tk (i := 21) (v := ?_) rfl (Or.inl ⟨by rfl, ?_⟩) ?_
        rotate_left
        · intro Wq hSw
          clear hSw
          go_simp
          all_goals (with_reducible rfl)
        try simp only [Act.put, x2, x3, x4, x5, x6, x7]
        refine tk (i := 22) (v := ?_) rfl (Or.inl ⟨by rfl, ?_⟩) ?_
        rotate_left
        · intro Wq hSw
          clear hSw
          go_simp
          all_goals (with_reducible rfl)
        try simp only [Act.put, x2, x3, x4, x5, x6, x7]
        refine tk (i := 23) (v := ?_) rfl (Or.inl ⟨by rfl, ?_⟩) ?_
        rotate_left
        · intro Wq hSw
          clear hSw
          go_simp
          all_goals (with_reducible rfl)
        try simp only [Act.put, x2, x3, x4, x5, x6, x7]
        refine tk (i := 24) (v := ?_) rfl (Or.inl ⟨by rfl, ?_⟩) ?_
        rotate_left
        · intro Wq hSw
          clear hSw
          go_simp
          all_goals (with_reducible rfl)
        try simp only [Act.put, x2, x3, x4, x5, x6, x7]
        refine tk (i := 25) (v := ?_) rfl (Or.inl ⟨by rfl, ?_⟩) ?_
        rotate_left
        · intro Wq hSw
          clear hSw
          go_simp
          all_goals (with_reducible rfl)
        try simp only [Act.put, x2, x3, x4, x5, x6, x7]
        refine tk (i := 26) (v := ?_) rfl (Or.inl ⟨by rfl, ?_⟩) ?_
        rotate_left
        · intro Wq hSw
          clear hSw
          go_simp
          all_goals (with_reducible rfl)
        try simp only [Act.put, x2, x3, x4, x5, x6, x7]
        refine tk (i := 27) (v := ?_) rfl (Or.inl ⟨by rfl, ?_⟩) ?_
        rotate_left
        · intro Wq hSw
          clear hSw
          go_simp
          all_goals (with_reducible rfl)
        try simp only [Act.put, x2, x3, x4, x5, x6, x7]
        refine tk (i := 28) (v := ?_) rfl (Or.inl ⟨by rfl, ?_⟩) ?_
        rotate_left
        · intro Wq hSw
          clear hSw
          go_simp
          all_goals (with_reducible rfl)
        try simp only [Act.put, x2, x3, x4, x5, x6, x7]
        refine tk (i := 29) (v := ?_) rfl (Or.inl ⟨by rfl, ?_⟩) ?_
        rotate_left
        · intro Wq hSw
          obtain ⟨k0, k1⟩ := tokCells_at (id hSw).1 hlt HE.out
          clear hSw
          go_simp
          all_goals (with_reducible rfl)
        try simp only [Act.put, x2, x3, x4, x5, x6, x7]
        refine tk (i := 30) (v := ?_) rfl (Or.inl ⟨by rfl, ?_⟩) ?_
        rotate_left
        · intro Wq hSw
          clear hSw
          go_simp
          all_goals (with_reducible rfl)
        try simp only [Act.put, x2, x3, x4, x5, x6, x7]
        refine tk (i := 31) (v := ?_) rfl (Or.inl ⟨by rfl, ?_⟩) ?_
        rotate_left
        · intro Wq hSw
          clear hSw
          go_simp
          all_goals (with_reducible rfl)
        try simp only [Act.put, x2, x3, x4, x5, x6, x7]
        refine tk (i := 32) (v := ?_) rfl (Or.inl ⟨by rfl, ?_⟩) ?_
        rotate_left
        · intro Wq hSw
          clear hSw
          go_simp
          all_goals (with_reducible rfl)
        try simp only [Act.put, x2, x3, x4, x5, x6, x7]
        refine tk (i := 33) (v := ?_) rfl (Or.inl ⟨by rfl, ?_⟩) ?_
        rotate_left
        · intro Wq hSw
          clear hSw
          go_simp
          all_goals (with_reducible rfl)
        try simp only [Act.put, x2, x3, x4, x5, x6, x7]
        refine tk (i := 34) (v := ?_) rfl (Or.inl ⟨by rfl, ?_⟩) ?_
        rotate_left
        · intro Wq hSw
          obtain ⟨k0, k1⟩ := tokCells_at (id hSw).1 hlt HE.out
          clear hSw
          go_simp
          all_goals (with_reducible rfl)
        try simp only [Act.put, x2, x3, x4, x5, x6, x7]
        refine tk (i := 35) (v := ?_) rfl (Or.inl ⟨by rfl, ?_⟩) ?_
        rotate_left
        · intro Wq hSw
          clear hSw
          go_simp
          all_goals (with_reducible rfl)
        try simp only [Act.put, x2, x3, x4, x5, x6, x7]
        refine tk (i := 36) (v := ?_) rfl (Or.inl ⟨by rfl, ?_⟩) ?_
        rotate_left
        · intro Wq hSw
          clear hSw
          go_simp
          all_goals (with_reducible rfl)
        try simp only [Act.put, x2, x3, x4, x5, x6, x7]
        refine tk (i := 37) (v := ?_) rfl (Or.inl ⟨by rfl, ?_⟩) ?_
        rotate_left
        · intro Wq hSw
          clear hSw
          go_simp
          all_goals (with_reducible rfl)
        try simp only [Act.put, x2, x3, x4, x5, x6, x7]
        refine tk (i := 38) (v := ?_) rfl (Or.inl ⟨by rfl, ?_⟩) ?_
        rotate_left
        · intro Wq hSw
          have hcv := conv_part (id hSw).2.1 a (a + n) (cap - a) (by omega) HLE.out
          rw [show a + n - a = n by omega] at hcv
          rw [← HTX.out] at hcv
          clear hSw
          go_simp
          all_goals (with_reducible rfl)
        try simp only [Act.put, x2, x3, x4, x5, x6, x7]
        refine tk (i := 39) (v := ?_) rfl (Or.inl ⟨by rfl, ?_⟩) ?_
        rotate_left
        · intro Wq hSw
          clear hSw
          go_simp
          all_goals (with_reducible rfl)
        try simp only [Act.put, x2, x3, x4, x5, x6, x7]
        refine tk (i := 40) (v := ?_) rfl (Or.inl ⟨by rfl, ?_⟩) ?_
        rotate_left
        · intro Wq hSw
          clear hSw
          go_simp
          all_goals (with_reducible rfl)
        try simp only [Act.put, x2, x3, x4, x5, x6, x7]
        refine tk (i := 41) (v := ?_) rfl (Or.inl ⟨by rfl, ?_⟩) ?_
        rotate_left
        · intro Wq hSw
          clear hSw
          go_simp
          all_goals (with_reducible rfl)
        try simp only [Act.put, x2, x3, x4, x5, x6, x7]
        refine tk (i := 42) (v := ?_) rfl (Or.inl ⟨by rfl, ?_⟩) ?_
        rotate_left
        · intro Wq hSw
          clear hSw
          go_simp
          all_goals (with_reducible rfl)
        try simp only [Act.put, x2, x3, x4, x5, x6, x7]
        refine tk (i := 43) (v := ?_) rfl (Or.inl ⟨by rfl, ?_⟩) ?_
        rotate_left
        · intro Wq hSw
          obtain ⟨k0, k1⟩ := tokCells_at (id hSw).1 hlt HE.out
          clear hSw
          go_simp
          all_goals (with_reducible rfl)
        try simp only [Act.put, x2, x3, x4, x5, x6, x7]
        refine tk (i := 44) (v := ?_) rfl (Or.inl ⟨by rfl, ?_⟩) ?_
        rotate_left
        · intro Wq hSw
          clear hSw
          go_simp
          all_goals (with_reducible rfl)
        try simp only [Act.put, x2, x3, x4, x5, x6, x7]
        refine tk (i := 45) (v := ?_) rfl (Or.inl ⟨by rfl, ?_⟩) ?_
        rotate_left
        · intro Wq hSw
          clear hSw
          go_simp
          all_goals (with_reducible rfl)
        try simp only [Act.put, x2, x3, x4, x5, x6, x7]
        refine tk (i := 46) (v := ?_) rfl (Or.inl ⟨by rfl, ?_⟩) ?_
        rotate_left
        · intro Wq hSw
          clear hSw
          go_simp
          all_goals (with_reducible rfl)
        try simp only [Act.put, x2, x3, x4, x5, x6, x7]
        refine tk (i := 47) (v := ?_) rfl (Or.inl ⟨by rfl, ?_⟩) ?_
        rotate_left
        · intro Wq hSw
          clear hSw
          go_simp
          all_goals (with_reducible rfl)
        try simp only [Act.put, x2, x3, x4, x5, x6, x7]
        refine tk (i := 48) (v := ?_) rfl (Or.inl ⟨by rfl, ?_⟩) ?_
        rotate_left
        · intro Wq hSw
          clear hSw
          go_simp
          all_goals (with_reducible rfl)
        try simp only [Act.put, x2, x3, x4, x5, x6, x7]
        refine tk (i := 49) (v := ?_) rfl (Or.inl ⟨by rfl, ?_⟩) ?_
        rotate_left
        · intro Wq hSw
          clear hSw
          go_simp
          all_goals (with_reducible rfl)
        try simp only [Act.put, x2, x3, x4, x5, x6, x7]
        refine tk (i := 50) (v := ?_) rfl (Or.inl ⟨by rfl, ?_⟩) ?_
        rotate_left
        · intro Wq hSw
          clear hSw
          go_simp
          all_goals (with_reducible rfl)
        try simp only [Act.put, x2, x3, x4, x5, x6, x7]
        refine tk (i := 51) (v := ?_) rfl (Or.inl ⟨by rfl, ?_⟩) ?_
        rotate_left
        · intro Wq hSw
          obtain ⟨k0, k1⟩ := tokCells_at (id hSw).1 hlt HE.out
          clear hSw
          go_simp
          all_goals (with_reducible rfl)
        try simp only [Act.put, x2, x3, x4, x5, x6, x7]
        refine tk (i := 52) (v := ?_) rfl (Or.inl ⟨by rfl, ?_⟩) ?_
        rotate_left
        · intro Wq hSw
          clear hSw
          go_simp
          all_goals (with_reducible rfl)
        try simp only [Act.put, x2, x3, x4, x5, x6, x7]
        refine tk (i := 53) (v := ?_) rfl (Or.inl ⟨by rfl, ?_⟩) ?_
        rotate_left
        · intro Wq hSw
          clear hSw
          go_simp
          all_goals (with_reducible rfl)
        try simp only [Act.put, x2, x3, x4, x5, x6, x7]
        refine tk (i := 54) (v := ?_) rfl (Or.inl ⟨by rfl, ?_⟩) ?_
        rotate_left
        · intro Wq hSw
          clear hSw
          go_simp
          all_goals (with_reducible rfl)
        try simp only [Act.put, x2, x3, x4, x5, x6, x7]
        refine wpAnyH_done (by kernel_rfl) ?_ _
        go_wp2_with fail
        go_meet
        case rel => exact ⟨rfl, id q1⟩
      case rest =>
      obtain ⟨rfl, hS⟩ := hcut
      clear HS0
      have HS0 := Lib.hid hS
      clear hS
      go_upto_region 13 with (fail)
      obtain ⟨lz, hlz⟩ : ∃ lz, a + n = lz := ⟨_, rfl⟩
      have HLZ := Lib.hid hlz
      rw [hlz] at HLB
      clear hlz
      go_cut [5] (fun lv W => lv = .int .i64 (lz : Int) ∧ (fun W => TokCells W (some ⟨gt, ot, none⟩) ts ∧ BytesIn W (some ⟨g, o, none⟩) s ∧ Below w.heap.size w W) W)
      case first =>
        obtain ⟨k0, k1⟩ := tokCells_at HS0.out.1 hlt HE.out
        obtain ⟨w1, w2⟩ := wsum (a := a) (n := n) (by omega)
        go_wp2_with fail
        go_meet
        case rel => exact ⟨by rw [← HLZ.out, Int.natCast_add], HS0.out⟩
      case rest =>
      obtain ⟨rfl, hS⟩ := hcut
      clear HS0
      have HS0 := Lib.hid hS
      clear hS hla
      go_wp2_with fail
      go_loopw [8] (fun kv W => ∃ k : Nat, k ≤ n ∧ kv = .int .i64 k ∧ (fun W => TokCells W (some ⟨gt, ot, none⟩) ts ∧ BytesIn W (some ⟨g, o, none⟩) s ∧ Below w.heap.size w W) W) (fun kv _ => n - (intOf kv).toNat)
      case atStart => exact ⟨0, by omega, rfl, HS0.out⟩
      case round =>
        obtain ⟨k, hk, rfl, hS⟩ := hrel
        clear HS0
        have HS0 : Hid ((fun W => TokCells W (some ⟨gt, ot, none⟩) ts ∧ BytesIn W (some ⟨g, o, none⟩) s ∧ Below w.heap.size w W) _) := hS
        clear hS
        by_cases hk2 : k < n
        · have b2 : ((k : Int) < (n : Int)) = True := by simp; omega
          have hkt : k < t.size := by omega
          obtain ⟨c, hc⟩ : ∃ c : Nat, (t[k]'hkt).toNat = c := ⟨_, rfl⟩
          have HC : Hid (blankZ (c : Int) = false) := by
            have h := HTA.out.mid (a + k) (by omega) (by omega)
            rw [← HTG.out k hk2, nums_get t k hkt, hc] at h
            exact h
          obtain ⟨k0, k1⟩ := tokCells_at HS0.out.1 hlt HE.out
          obtain ⟨m1, m2, m3, m4⟩ := wnum (i := k) (by omega)
          go_wp2_with fail
          (with_reducible refine (blank_l (c : Int) _).mono ?_); rintro e w1 ⟨rfl, rfl⟩
          rw [HC.out]
          clear k0 k1
          go_wp2_with fail
          clear m1 m2 m3 m4 hc hkt HC HTG HTA
          go_roundw
          case rel =>
            have hk3 : k + 1 ≤ n := hk2
            exact ⟨k + 1, hk3, by rw [Int.natCast_add]; rfl, HS0.out⟩
          case measure => simp [intOf]; omega
        · obtain rfl : k = n := by omega
          have b2 : ((k : Int) < (k : Int)) = False := by simp
          go_upto_region 19 with (fail)
          go_cut [139] (fun tv W => tv = .bool false ∧ (fun W => TokCells W (some ⟨gt, ot, none⟩) ts ∧ BytesIn W (some ⟨g, o, none⟩) s ∧ Below w.heap.size w W) W)
          case first =>
            obtain ⟨k0, k1⟩ := tokCells_at HS0.out.1 hlt HE.out
            have HBH := Lib.hid HTA.out.behind
            have HAH := Lib.hid HTA.out.ahead
            clear HTG HTA
            have hlz2 : lz ≤ s.size := by have := HLZ.out; omega
            have HAD : Hid (((((0 : Int) < (a : Int)) = False) ∧ ((0 < a) = False)) ∨ ∃ (d e : Nat) (_ : (0 < a) = True) (_ : ((0 : Int) < (a : Int)) = True) (_ : wrap64 ((a : Int) - 1) = (e : Int)) (_ : IntKind.i64.wrap ((a : Int) - 1) = (e : Int)) (_ : (a : Int) - 1 = (e : Int)) (_ : e < s.size), wr.cell? ⟨g, o + e, none⟩ = some (.int .u8 (d : Int)) ∧ Hid (blankZ (d : Int) = true)) := by
              rcases Nat.eq_zero_or_pos a with ha | ha
              · exact .inl ⟨eq_false (by omega), eq_false (by omega)⟩
              · obtain ⟨e, he⟩ : ∃ e, a = e + 1 := ⟨a - 1, by omega⟩
                have he2 : e < s.size := by omega
                refine .inr ⟨(s[e]'he2).toNat, e, eq_true (by omega), eq_true (by omega), ?_, ?_, by omega, he2, bytes_at HS0.out.2.1 he2 rfl, ?_⟩
                · unfold wrap64; omega
                · exact (IntWalk.i64_in _ (by omega)).trans (by omega)
                · have h := HAH.out ha
                  rw [show a - 1 = e by omega, nums_get s e he2] at h
                  exact h
            clear HAH
            rcases Nat.lt_or_ge lz s.size with h2 | h2
            · have e1 : ((lz : Int) < (s.size : Int)) = True := eq_true (by omega)
              obtain ⟨c, hc⟩ : ∃ c : Nat, (s[lz]'h2).toNat = c := ⟨_, rfl⟩
              have kc := bytes_at HS0.out.2.1 h2 hc
              have HC : Hid (blankZ (c : Int) = true) := by
                have h := HBH.out (by rw [nums_length, HLZ.out]; exact h2)
                rw [HLZ.out, nums_get s lz h2, hc] at h
                exact h
              clear hc HBH
              rcases HAD.out with ⟨e2, e2'⟩ | ⟨d, e, e2', e2, w1, w2, w3, he2, kd, HD⟩
              · clear HAD
                go_wp2_with fail
                (with_reducible refine (blank_l (c : Int) _).mono ?_); rintro e w1 ⟨rfl, rfl⟩
                rw [HC.out]
                go_wp2_with fail
                go_meet
                case rel => exact ⟨rfl, HS0.out⟩
              · have e5 : ((e : Int) < (s.size : Int)) = True := eq_true (by omega)
                clear HAD
                go_wp2_with fail
                (with_reducible refine (blank_l (c : Int) _).mono ?_); rintro _ _ ⟨rfl, rfl⟩
                rw [HC.out]
                go_wp2_with fail
                (with_reducible refine (blank_l (d : Int) _).mono ?_); rintro _ _ ⟨rfl, rfl⟩
                rw [HD.out]
                go_wp2_with fail
                go_meet
                case rel => exact ⟨rfl, HS0.out⟩
            · have e1 : ((lz : Int) < (s.size : Int)) = False := eq_false (by omega)
              clear HBH
              rcases HAD.out with ⟨e2, e2'⟩ | ⟨d, e, e2', e2, w1, w2, w3, he2, kd, HD⟩
              · clear HAD
                go_wp2_with fail
                go_meet
                case rel => exact ⟨rfl, HS0.out⟩
              · have e5 : ((e : Int) < (s.size : Int)) = True := eq_true (by omega)
                clear HAD
                go_wp2_with fail
                (with_reducible refine (blank_l (d : Int) _).mono ?_); rintro _ _ ⟨rfl, rfl⟩
                rw [HD.out]
                go_wp2_with fail
                go_meet
                case rel => exact ⟨rfl, HS0.out⟩
          case rest =>
          obtain ⟨rfl, hS⟩ := hcut
          clear HS0
          have HS0 := Lib.hid hS
          clear hS
          obtain ⟨m1, m2, m3, m4⟩ := wnum (i := i) (by omega)
          go_wp2_with fail
          go_roundw
          case rel => exact ⟨i + 1, by omega, by go_num, by rw [HLB.out], HS0.out⟩
          case measure => simp [intOf]; omega
    · obtain rfl : i = ts.length := by omega
      have b1 : ((ts.length : Int) < (ts.length : Int)) = False := by simp
      go_wp2_with fail
      (with_reducible refine (K.out _).mono ?_); rintro e w1 ⟨rfl, hb1⟩
      have HG := Lib.hid (bl_trans HS0.out.2.2 hb1)
      clear hb1
      go_wp2
      go_ret
      exact ⟨rfl, HG.out⟩
end Go.Proofs.Ytdoilgddlhadhaa
