/-
  Contract of wide.Parse at any text of up to 300 bytes.
-/
import Derived.Test.YtbgbmimgkhchhaaParseNo
namespace Go.Proofs.Ytbgbmimgkhchhaa
open Go.RowKit

def ParseQ (mn : Bool) (s : ByteArray) (w : World) (e : Ending) (w' : World) : Prop :=
  ∃ (m : Bool) (a b c d er : Int), In4 a b c d ∧ Hid ((er = 0 ∧ m = (mn && decide (V4 a b c d ≠ 0)) ∧ V4 a b c d = decTo s s.size) ∨ (er = 10 ∧ (m = false ∧ a = 0 ∧ b = 0 ∧ c = 0 ∧ d = 0) ∧ M256 ≤ decTo s s.size)) ∧ e = .returned (.tuple #[(.agg #[.bool m, .int .u64 a, .int .u64 b, .int .u64 c, .int .u64 d]), .int .i64 er]) ∧ Below w.heap.size w w'

set_option maxHeartbeats 2000000 in
set_option maxRecDepth 100000 in
theorem parse_gen (full s : ByteArray) (mn : Bool) (hcut : ∀ w, Calls Try.prog 50 #[.string full, .string ⟨#[45]⟩] w fun e w' => e = .returned (.tuple #[.string s, .bool mn]) ∧ w = w') (hs : Dec s) (hm : mn = true → (s.toList == [48]) = false) (w : World) :
    Calls Try.prog 33 #[.string full] w (ParseQ mn s w) := by
  have HC := Lib.hid hcut
  clear hcut
  have HS := Lib.hid hs
  clear hs
  go_enter Try.func33, Try.ntmps33
  go_upto_region 1 with (fail)
  refine wp_abs (fun W => PW w W) ?_ ?_
  · refine ⟨?_, ?_, by repeat (first | (with_reducible exact Below.refl _ _) | (with_reducible refine bl_alloc ?_ _) | (with_reducible refine Below.drew ?_) | (with_reducible refine below_drewN' ?_ _) | ((with_reducible refine bl_set ?_ ?_ _); (rotate_left; (dsimp only; omega))))⟩
    all_goals (constructor <;> simp [go_sem])
  intro W0 S0
  have H0 := Lib.hid S0
  clear S0
  go_wp2_with fail
  refine (HC.out _).mono ?_
  rintro e w1 ⟨rfl, rfl⟩
  go_upto_region 2 with (fail)
  go_cut [24] (fun bv W => bv = .bool false ∧ PW w W)
  case first =>
    cases mn
    · go_wp2_with (first
        | (go_at_call 51; (with_reducible refine (isDec_yes s HS.out _).mono ?_); rintro e w2 ⟨rfl, hb⟩)
        | go_in)
      go_meet
      case rel => exact ⟨by first | rfl | simp, H0.out.below hb⟩
    · have hm1 := hm rfl
      go_wp2_with (first
        | (go_at_call 51; (with_reducible refine (isDec_yes s HS.out _).mono ?_); rintro e w2 ⟨rfl, hb⟩)
        | go_in)
      go_meet
      case rel => exact ⟨by first | rfl | simp, H0.out.below hb⟩
  case rest =>
  obtain ⟨rfl, S2⟩ := hcut
  clear H0 hm
  generalize hw2 : wc = w2 at *
  clear hw2
  have H2 := Lib.hid S2
  clear S2
  have hlt2 := H2.out.r1.lt
  go_wp2
  generalize hg : w2.heap.size = g at *
  have HG := Lib.hid hg
  clear hg
  go_loopw [9] (fun _ W => ParseR w s g (g + 1) W) (fun _ W => s.size - W.iterPos (g + 1))
  case atStart =>
    have eg := HG.out
    subst eg
    refine ⟨0, 0, 0, 0, 0, by omega, ?_, in4_zero, ?_, ?_, ?_, by rw [v4_zero0]; rfl⟩
    · have := World.iter_heap (w2.alloc (.cells #[.int .u64 0, .int .u64 0, .int .u64 0, .int .u64 0] 23)) s 0
      simpa using this
    · have hh : At4 (w2.alloc (.cells #[.int .u64 0, .int .u64 0, .int .u64 0, .int .u64 0] 23)) w2.heap.size 0 0 0 0 := by constructor <;> simp [go_sem]
      exact hh.below (bl_one _ _)
    · have hh : At4 (w2.alloc (.cells #[.int .u64 0, .int .u64 0, .int .u64 0, .int .u64 0] 23)) w2.heap.size 0 0 0 0 := by constructor <;> simp [go_sem]
      have hf : Free4 (w2.alloc (.cells #[.int .u64 0, .int .u64 0, .int .u64 0, .int .u64 0] 23)) w2.heap.size := by constructor <;> simp [go_sem]
      exact hf.below hh.lt (bl_one _ _)
    · exact (H2.out.below (bl_one _ _)).below (bl_one _ _)
  case round =>
    obtain ⟨pos, a, b, c, d, hp, hk, hi, E, F, S, hV⟩ := hrel
    have H3 := Lib.hid (And.intro hi (And.intro E (And.intro F (And.intro S hV))))
    have HK := Lib.hid hk
    clear hi F S hV
    by_cases hlt : pos < s.size
    · have hnx : ∀ ty, (Instr.next (.pointer (some ⟨g + 1, 0, none⟩)) true ty).run Try.prog wr = _ := fun ty => Lib.run_next_ascii_at wr (g + 1) s pos ty hk hlt (by have := HS.out.dig pos hlt; omega)
      have d0 : (48 : Int) ≤ ((s[pos]'hlt).toNat : Int) := by have := HS.out.dig pos hlt; omega
      have d1 : ((s[pos]'hlt).toNat : Int) ≤ 57 := by have := HS.out.dig pos hlt; omega
      have hE := H3.out.2.1.iterAt (k := g + 1) (by omega) s (pos + 1)
      obtain ⟨e0, e1, e2, e3⟩ := hE
      clear E hk
      go_wp2_with fail
      refine (tenfold_c a b c d (((s[pos]'hlt).toNat : Int) - 48) H3.out.1 (by unfold In1; omega) _).mono ?_
      rintro e w4 ⟨s0, s1, s2, s3, co, hs4, hco, hv4, rfl, hb4⟩
      have H4 := Lib.hid (And.intro ((H3.out.2.2.2.1.iterAt (k := g + 1) (by omega) s (pos + 1)).below hb4) (And.intro ((H3.out.2.1.iterAt (k := g + 1) (by omega) s (pos + 1)).below hb4) ((H3.out.2.2.1.iterAt (k := g + 1) (by omega) s (pos + 1)).below (H3.out.2.1.iterAt (k := g + 1) (by omega) s (pos + 1)).lt hb4)))
      have HK4 := Lib.hid (show w4.heap[g + 1]? = some (.stringIter s (pos + 1)) from (hb4.block (g + 1) (by
        rw [Lib.iterAt_size]
        rcases Nat.lt_or_ge (g + 1) wr.heap.size with h | h
        · exact h
        · have := HK.out; rw [Array.getElem?_eq_none h] at this; cases this)).trans (Lib.iterAt_heap wr (g + 1) s pos (pos + 1) HK.out))
      clear e0 e1 e2 e3 hnx hb4
      obtain ⟨⟨⟨r0, r1, r2, r3, r4⟩, ⟨k0, k1, k2, k3, k4⟩, -⟩, ⟨e0, e1, e2, e3⟩, ⟨f0, f1, f2, f3⟩⟩ := H4.out
      simp only [Nat.zero_add] at r1 r2 r3 r4 k1 k2 k3 k4
      have hn1 : ¬ (w.heap.size = g) := by omega
      by_cases hc0 : co = 0
      · have hc0' : (co != 0) = false := by simp [hc0]
        have Hc := Lib.hid hc0
        clear hc0
        go_wp2
        go_roundw
        case rel =>
          refine ⟨pos + 1, s0, s1, s2, s3, by omega, ?_, hs4, H4.out.2.1.store s0 s1 s2 s3, (((H4.out.2.2.far _ _).far _ _).far _ _).far _ _, (((H4.out.1.far (by omega) _ _).far (by omega) _ _).far (by omega) _ _).far (by omega) _ _, ?_⟩
          · have hh := HK4.out
            simpa [World.setCell, Array.getElem?_modify] using hh
          · have h1 := hv4.out
            have h2 := H3.out.2.2.2.2
            have h3 := Hc.out
            rw [decTo_succ pos hlt, ← h2]
            rw [h3] at h1
            omega
        case measure =>
          rw [iterPos_of (s := s) (p := pos + 1) (by have hh := HK4.out; simpa [World.setCell, Array.getElem?_modify] using hh), iterPos_of HK.out]
          omega
      · have hc0' : (co != 0) = true := by simp [hc0]
        have Hc := Lib.hid hc0
        clear hc0
        go_wp2
        refine bodyPost_ret (v := .tuple #[(.agg #[.bool false, .int .u64 0, .int .u64 0, .int .u64 0, .int .u64 0]), .int .i64 10]) (by simp [results, Try.results33, go_sem, r0, r1, r2, r3, r4]) rfl ⟨false, 0, 0, 0, 0, 10, in4_zero, Or.inr ⟨rfl, ⟨rfl, rfl, rfl, rfl, rfl⟩, ?_⟩, rfl, ?_⟩
        · have h1 := hv4.out
          have h2 := H3.out.2.2.2.2
          have h3 := Hc.out
          have h4 := v4_bounds hs4
          have h5 : decTo s (pos + 1) = V4 a b c d * 10 + (((s[pos]'hlt).toNat : Int) - 48) := by rw [decTo_succ pos hlt, ← h2]
          have h6 := decTo_mono HS.out (pos + 1) (s.size - (pos + 1))
          rw [show pos + 1 + (s.size - (pos + 1)) = s.size by omega] at h6
          unfold In1 at hco
          unfold M256 at *
          omega
        · have := H4.out.1.hb
          repeat (first | (with_reducible exact Below.refl _ _) | (with_reducible refine bl_alloc ?_ _) | (with_reducible refine Below.drew ?_) | (with_reducible refine below_drewN' ?_ _) | ((with_reducible refine bl_set ?_ ?_ _); (rotate_left; (dsimp only; omega))))
          exact this
    · obtain rfl : pos = s.size := by omega
      have hnx : ∀ ty, (Instr.next (.pointer (some ⟨g + 1, 0, none⟩)) true ty).run Try.prog wr = _ := fun ty => Lib.run_next_end_at wr (g + 1) s s.size ty hk hlt
      obtain ⟨e0, e1, e2, e3⟩ := E
      clear hk
      go_wp2_with fail
      refine (signed_c mn a b c d H3.out.1 _).mono ?_
      rintro e w4 ⟨m', hm, rfl, hb4⟩
      have H4 := Lib.hid (H3.out.2.2.2.1.below hb4)
      clear e0 e1 e2 e3 hnx hb4
      obtain ⟨⟨r0, r1, r2, r3, r4⟩, ⟨k0, k1, k2, k3, k4⟩, -⟩ := H4.out
      simp only [Nat.zero_add] at r1 r2 r3 r4 k1 k2 k3 k4
      go_wp2
      refine bodyPost_ret (v := .tuple #[(.agg #[.bool m', .int .u64 a, .int .u64 b, .int .u64 c, .int .u64 d]), .int .i64 0]) (by simp [results, Try.results33, go_sem, r0, r1, r2, r3, r4]) rfl ⟨m', a, b, c, d, 0, H3.out.1, Or.inl ⟨rfl, hm.out, H3.out.2.2.2.2⟩, rfl, ?_⟩
      have := H4.out.hb
      repeat (first | (with_reducible exact Below.refl _ _) | (with_reducible refine bl_alloc ?_ _) | (with_reducible refine Below.drew ?_) | (with_reducible refine below_drewN' ?_ _) | ((with_reducible refine bl_set ?_ ?_ _); (rotate_left; (dsimp only; omega))))
      exact this
end Go.Proofs.Ytbgbmimgkhchhaa
