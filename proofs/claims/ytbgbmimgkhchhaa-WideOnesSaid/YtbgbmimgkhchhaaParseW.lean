/-
  Contract of wide.Parse at a text of digits.
-/
import Derived.Test.YtbgbmimgkhchhaaParse
namespace Go.Proofs.Ytbgbmimgkhchhaa
open Go.RowKit

/-- the number of the first n digits -/
def decTo (s : ByteArray) : Nat → Int
  | 0 => 0
  | n + 1 => decTo s n * 10 + (((if h : n < s.size then (s[n]'h).toNat else 48 : Nat) : Int) - 48)
theorem decTo_nonneg {s : ByteArray} (hs : Dec s) : ∀ n, 0 ≤ decTo s n
  | 0 => by simp [decTo]
  | n + 1 => by
    have := decTo_nonneg hs n
    simp only [decTo]
    split
    · rename_i h; have := hs.dig n h; omega
    · omega
theorem decTo_mono {s : ByteArray} (hs : Dec s) (n : Nat) : ∀ k, decTo s n ≤ decTo s (n + k)
  | 0 => by simp
  | k + 1 => by
    have h1 := decTo_mono hs n k
    have h2 := decTo_nonneg hs (n + k)
    rw [← Nat.add_assoc]
    simp only [decTo]
    split
    · rename_i h; have := hs.dig (n + k) h; omega
    · omega
theorem decTo_succ {s : ByteArray} (n : Nat) (h : n < s.size) : decTo s (n + 1) = decTo s n * 10 + (((s[n]'h).toNat : Int) - 48) := by
  simp only [decTo]; rw [dif_pos h]

structure PW (w : World) (W : World) : Prop where
  r1 : At5 W w.heap.size 0 ⟨false, 0, 0, 0, 0⟩
  r2 : Free5 W w.heap.size 0
  hb : Below w.heap.size w W
theorem PW.below {w W W' : World} (h : PW w W) (hb : Below W.heap.size W W') : PW w W' := ⟨h.r1.below hb h.r1.lt, h.r2.below hb h.r1.lt, bl_trans h.hb hb⟩

/-- ahead of a round: k the iterator's block, g the number's -/
def ParseR (w : World) (s : ByteArray) (g k : Nat) (W : World) : Prop :=
  ∃ (pos : Nat) (a b c d : Int), pos ≤ s.size ∧ W.heap[k]? = some (.stringIter s pos) ∧ In4 a b c d ∧ At4 W g a b c d ∧ Free4 W g ∧ PW w W ∧ V4 a b c d = decTo s pos

theorem PW.iterAt {w W : World} (h : PW w W) {k : Nat} (hk : w.heap.size < k) (s : ByteArray) (p : Nat) : PW w (W.iterAt k s p) := by
  have hc : ∀ b o, b ≠ k → (W.iterAt k s p).cell? ⟨b, o, none⟩ = W.cell? ⟨b, o, none⟩ := fun b o hne => World.cell?_of_block (Lib.iterAt_other W k b s p hne)
  have hf : ∀ b o, b ≠ k → (W.iterAt k s p).frozen? ⟨b, o, none⟩ = W.frozen? ⟨b, o, none⟩ := fun b o hne => World.frozen?_of_block (Lib.iterAt_other W k b s p hne)
  refine ⟨⟨?_, ?_, ?_, ?_, ?_⟩, ⟨?_, ?_, ?_, ?_, ?_⟩, Lib.below_iterAt h.hb (by omega) s p⟩
  · rw [hc _ _ (by omega)]; exact h.r1.c0
  · rw [hc _ _ (by omega)]; exact h.r1.c1
  · rw [hc _ _ (by omega)]; exact h.r1.c2
  · rw [hc _ _ (by omega)]; exact h.r1.c3
  · rw [hc _ _ (by omega)]; exact h.r1.c4
  · rw [hf _ _ (by omega)]; exact h.r2.f0
  · rw [hf _ _ (by omega)]; exact h.r2.f1
  · rw [hf _ _ (by omega)]; exact h.r2.f2
  · rw [hf _ _ (by omega)]; exact h.r2.f3
  · rw [hf _ _ (by omega)]; exact h.r2.f4
theorem At4.iterAt {W : World} {g : Nat} {a b c d : Int} (h : At4 W g a b c d) {k : Nat} (hk : g ≠ k) (s : ByteArray) (p : Nat) : At4 (W.iterAt k s p) g a b c d := by
  have hc : ∀ o, (W.iterAt k s p).cell? ⟨g, o, none⟩ = W.cell? ⟨g, o, none⟩ := fun o => World.cell?_of_block (Lib.iterAt_other W k g s p hk)
  exact ⟨(hc _).trans h.c0, (hc _).trans h.c1, (hc _).trans h.c2, (hc _).trans h.c3⟩
theorem Free4.iterAt {W : World} {g : Nat} (h : Free4 W g) {k : Nat} (hk : g ≠ k) (s : ByteArray) (p : Nat) : Free4 (W.iterAt k s p) g := by
  have hc : ∀ o, (W.iterAt k s p).frozen? ⟨g, o, none⟩ = W.frozen? ⟨g, o, none⟩ := fun o => World.frozen?_of_block (Lib.iterAt_other W k g s p hk)
  exact ⟨(hc _).trans h.f0, (hc _).trans h.f1, (hc _).trans h.f2, (hc _).trans h.f3⟩
theorem PW.far {w W : World} (h : PW w W) {g : Nat} (hg : w.heap.size < g) (o : Nat) (v : Value) : PW w (W.setCell ⟨g, o, none⟩ v) := by
  have far : ∀ b j, g ≠ b → (W.setCell ⟨g, o, none⟩ v).cell? ⟨b, j, none⟩ = W.cell? ⟨b, j, none⟩ := fun b j hne => World.cell?_setCell_far _ _ _ _ hne
  refine ⟨⟨?_, ?_, ?_, ?_, ?_⟩, ⟨?_, ?_, ?_, ?_, ?_⟩, bl_set h.hb (by dsimp only; omega) _⟩
  · rw [far _ _ (by omega)]; exact h.r1.c0
  · rw [far _ _ (by omega)]; exact h.r1.c1
  · rw [far _ _ (by omega)]; exact h.r1.c2
  · rw [far _ _ (by omega)]; exact h.r1.c3
  · rw [far _ _ (by omega)]; exact h.r1.c4
  · rw [World.frozen?_setCell]; exact h.r2.f0
  · rw [World.frozen?_setCell]; exact h.r2.f1
  · rw [World.frozen?_setCell]; exact h.r2.f2
  · rw [World.frozen?_setCell]; exact h.r2.f3
  · rw [World.frozen?_setCell]; exact h.r2.f4

def ParseP (s : ByteArray) (w : World) (e : Ending) (w' : World) : Prop :=
  ∃ (m : Bool) (a b c d er : Int), In4 a b c d ∧ Hid ((er = 0 ∧ m = false ∧ V4 a b c d = decTo s s.size) ∨ (er = 10 ∧ (m = false ∧ a = 0 ∧ b = 0 ∧ c = 0 ∧ d = 0) ∧ M256 ≤ decTo s s.size)) ∧ e = .returned (.tuple #[(.agg #[.bool m, .int .u64 a, .int .u64 b, .int .u64 c, .int .u64 d]), .int .i64 er]) ∧ Below w.heap.size w w'

set_option maxHeartbeats 2000000 in
set_option maxRecDepth 100000 in
theorem parse_dec (s : ByteArray) (hs : Dec s) (w : World) :
    Calls Try.prog 33 #[.string s] w (ParseP s w) := by
  have HS := Lib.hid hs
  clear hs
  go_enter Try.func33, Try.ntmps33
  go_upto_region 1 with (fail)
  refine wp_abs (fun W => PW w W) ?_ ?_
  · refine ⟨?_, ?_, by repeat (first | (with_reducible exact Below.refl _ _) | (with_reducible refine bl_alloc ?_ _) | (with_reducible refine Below.drew ?_) | (with_reducible refine below_drewN' ?_ _) | ((with_reducible refine bl_set ?_ ?_ _); (rotate_left; (dsimp only; omega))))⟩
    all_goals (constructor <;> simp [go_sem])
  intro W0 S0
  have H0 := Lib.hid S0
  clear S0
  go_wp2_with fail
  refine (cutPrefix_no s HS.out _).mono ?_
  rintro e w1 ⟨rfl, rfl⟩
  go_wp2_with fail
  refine (isDec_yes s HS.out _).mono ?_
  rintro e w2 ⟨rfl, hb⟩
  have H2 := Lib.hid (H0.out.below hb)
  clear H0 hb
  have hlt2 := H2.out.r1.lt
  go_wp2
  generalize hg : w2.heap.size = g at *
  have HG := Lib.hid hg
  clear hg
  go_loopw [9] (fun _ W => ParseR w s g (g + 1) W) (fun _ W => s.size - W.iterPos (g + 1))
  case atStart =>
    have eg := HG.out
    subst eg
    refine ⟨0, 0, 0, 0, 0, by omega, ?_, in4_zero, ?_, ?_, ?_, by rw [v4_zero0]; rfl⟩
    · have := World.iter_heap (w2.alloc (.cells #[.int .u64 0, .int .u64 0, .int .u64 0, .int .u64 0] 23)) s 0
      simpa using this
    · have hh : At4 (w2.alloc (.cells #[.int .u64 0, .int .u64 0, .int .u64 0, .int .u64 0] 23)) w2.heap.size 0 0 0 0 := by constructor <;> simp [go_sem]
      exact hh.below (bl_one _ _)
    · have hh : At4 (w2.alloc (.cells #[.int .u64 0, .int .u64 0, .int .u64 0, .int .u64 0] 23)) w2.heap.size 0 0 0 0 := by constructor <;> simp [go_sem]
      have hf : Free4 (w2.alloc (.cells #[.int .u64 0, .int .u64 0, .int .u64 0, .int .u64 0] 23)) w2.heap.size := by constructor <;> simp [go_sem]
      exact hf.below hh.lt (bl_one _ _)
    · exact (H2.out.below (bl_one _ _)).below (bl_one _ _)
  case round =>
    obtain ⟨pos, a, b, c, d, hp, hk, hi, E, F, S, hV⟩ := hrel
    have H3 := Lib.hid (And.intro hi (And.intro E (And.intro F (And.intro S hV))))
    have HK := Lib.hid hk
    clear hi F S hV
    by_cases hlt : pos < s.size
    · have hnx : ∀ ty, (Instr.next (.pointer (some ⟨g + 1, 0, none⟩)) true ty).run Try.prog wr = _ := fun ty => Lib.run_next_ascii_at wr (g + 1) s pos ty hk hlt (by have := HS.out.dig pos hlt; omega)
      have d0 : (48 : Int) ≤ ((s[pos]'hlt).toNat : Int) := by have := HS.out.dig pos hlt; omega
      have d1 : ((s[pos]'hlt).toNat : Int) ≤ 57 := by have := HS.out.dig pos hlt; omega
      have hE := H3.out.2.1.iterAt (k := g + 1) (by omega) s (pos + 1)
      obtain ⟨e0, e1, e2, e3⟩ := hE
      clear E hk
      go_wp2_with fail
      refine (tenfold_c a b c d (((s[pos]'hlt).toNat : Int) - 48) H3.out.1 (by unfold In1; omega) _).mono ?_
      rintro e w4 ⟨s0, s1, s2, s3, co, hs4, hco, hv4, rfl, hb4⟩
      have H4 := Lib.hid (And.intro ((H3.out.2.2.2.1.iterAt (k := g + 1) (by omega) s (pos + 1)).below hb4) (And.intro ((H3.out.2.1.iterAt (k := g + 1) (by omega) s (pos + 1)).below hb4) ((H3.out.2.2.1.iterAt (k := g + 1) (by omega) s (pos + 1)).below (H3.out.2.1.iterAt (k := g + 1) (by omega) s (pos + 1)).lt hb4)))
      have HK4 := Lib.hid (show w4.heap[g + 1]? = some (.stringIter s (pos + 1)) from (hb4.block (g + 1) (by
        rw [Lib.iterAt_size]
        rcases Nat.lt_or_ge (g + 1) wr.heap.size with h | h
        · exact h
        · have := HK.out; rw [Array.getElem?_eq_none h] at this; cases this)).trans (Lib.iterAt_heap wr (g + 1) s pos (pos + 1) HK.out))
      clear e0 e1 e2 e3 hnx hb4
      obtain ⟨⟨⟨r0, r1, r2, r3, r4⟩, ⟨k0, k1, k2, k3, k4⟩, -⟩, ⟨e0, e1, e2, e3⟩, ⟨f0, f1, f2, f3⟩⟩ := H4.out
      simp only [Nat.zero_add] at r1 r2 r3 r4 k1 k2 k3 k4
      have hn1 : ¬ (w.heap.size = g) := by omega
      by_cases hc0 : co = 0
      · have hc0' : (co != 0) = false := by simp [hc0]
        have Hc := Lib.hid hc0
        clear hc0
        go_wp2
        go_roundw
        case rel =>
          refine ⟨pos + 1, s0, s1, s2, s3, by omega, ?_, hs4, H4.out.2.1.store s0 s1 s2 s3, (((H4.out.2.2.far _ _).far _ _).far _ _).far _ _, (((H4.out.1.far (by omega) _ _).far (by omega) _ _).far (by omega) _ _).far (by omega) _ _, ?_⟩
          · have hh := HK4.out
            simpa [World.setCell, Array.getElem?_modify] using hh
          · have h1 := hv4.out
            have h2 := H3.out.2.2.2.2
            have h3 := Hc.out
            rw [decTo_succ pos hlt, ← h2]
            rw [h3] at h1
            omega
        case measure =>
          rw [iterPos_of (s := s) (p := pos + 1) (by have hh := HK4.out; simpa [World.setCell, Array.getElem?_modify] using hh), iterPos_of HK.out]
          omega
      · have hc0' : (co != 0) = true := by simp [hc0]
        have Hc := Lib.hid hc0
        clear hc0
        go_wp2
        refine bodyPost_ret (v := .tuple #[(.agg #[.bool false, .int .u64 0, .int .u64 0, .int .u64 0, .int .u64 0]), .int .i64 10]) (by simp [results, Try.results33, go_sem, r0, r1, r2, r3, r4]) rfl ⟨false, 0, 0, 0, 0, 10, in4_zero, Or.inr ⟨rfl, ⟨rfl, rfl, rfl, rfl, rfl⟩, ?_⟩, rfl, ?_⟩
        · have h1 := hv4.out
          have h2 := H3.out.2.2.2.2
          have h3 := Hc.out
          have h4 := v4_bounds hs4
          have h5 : decTo s (pos + 1) = V4 a b c d * 10 + (((s[pos]'hlt).toNat : Int) - 48) := by rw [decTo_succ pos hlt, ← h2]
          have h6 := decTo_mono HS.out (pos + 1) (s.size - (pos + 1))
          rw [show pos + 1 + (s.size - (pos + 1)) = s.size by omega] at h6
          unfold In1 at hco
          unfold M256 at *
          omega
        · have := H4.out.1.hb
          repeat (first | (with_reducible exact Below.refl _ _) | (with_reducible refine bl_alloc ?_ _) | (with_reducible refine Below.drew ?_) | (with_reducible refine below_drewN' ?_ _) | ((with_reducible refine bl_set ?_ ?_ _); (rotate_left; (dsimp only; omega))))
          exact this
    · obtain rfl : pos = s.size := by omega
      have hnx : ∀ ty, (Instr.next (.pointer (some ⟨g + 1, 0, none⟩)) true ty).run Try.prog wr = _ := fun ty => Lib.run_next_end_at wr (g + 1) s s.size ty hk hlt
      obtain ⟨e0, e1, e2, e3⟩ := E
      clear hk
      go_wp2_with fail
      refine (signed_c false a b c d H3.out.1 _).mono ?_
      rintro e w4 ⟨m', hm, rfl, hb4⟩
      have H4 := Lib.hid (H3.out.2.2.2.1.below hb4)
      clear e0 e1 e2 e3 hnx hb4
      obtain ⟨⟨r0, r1, r2, r3, r4⟩, ⟨k0, k1, k2, k3, k4⟩, -⟩ := H4.out
      simp only [Nat.zero_add] at r1 r2 r3 r4 k1 k2 k3 k4
      go_wp2
      refine bodyPost_ret (v := .tuple #[(.agg #[.bool m', .int .u64 a, .int .u64 b, .int .u64 c, .int .u64 d]), .int .i64 0]) (by simp [results, Try.results33, go_sem, r0, r1, r2, r3, r4]) rfl ⟨m', a, b, c, d, 0, H3.out.1, Or.inl ⟨rfl, by simpa using hm.out, H3.out.2.2.2.2⟩, rfl, ?_⟩
      have := H4.out.hb
      repeat (first | (with_reducible exact Below.refl _ _) | (with_reducible refine bl_alloc ?_ _) | (with_reducible refine Below.drew ?_) | (with_reducible refine below_drewN' ?_ _) | ((with_reducible refine bl_set ?_ ?_ _); (rotate_left; (dsimp only; omega))))
      exact this
end Go.Proofs.Ytbgbmimgkhchhaa
