/-
  Contract of wide.Text.
-/
import Derived.Test.YtbgbmimgkhchhaaTen
import Derived.Test.YtbgbmimgkhchhaaTextMath
import Derived.Test.YtbgbmimgkhchhaaFold
import Derived.Deep.DeepCutAuto
namespace Go.Proofs.Ytbgbmimgkhchhaa
open Go.RowKit

/-- the bytes ds from the place 'at' on -/
def BytesAt (W : World) (g at' : Nat) (ds : List Int) : Prop := ∀ i, i < ds.length → W.cell? ⟨g, at' + i, none⟩ = some (.int .u8 (ds.getD i 0))
structure TextW (w : World) (x : Wd) (g : Nat) (at' : Nat) (ds : List Int) (W : World) : Prop where
  a1 : At5 W w.heap.size 0 x
  t1 : ∀ i, i < 79 → ∃ v : Int, W.cell? ⟨g, i, none⟩ = some (.int .u8 v)
  t2 : ∀ i, i < 79 → W.frozen? ⟨g, i, none⟩ = false
  t3 : BytesAt W g at' ds
  hb : Below w.heap.size w W
theorem TextW.lt {w : World} {x : Wd} {g at' : Nat} {ds : List Int} {W : World} (h : TextW w x g at' ds W) : g < W.heap.size := by
  obtain ⟨v, hv⟩ := h.t1 0 (by omega)
  exact cell_lt hv
theorem TextW.below {w : World} {x : Wd} {g at' : Nat} {ds : List Int} {W W' : World} (h : TextW w x g at' ds W) (hb : Below W.heap.size W W') : TextW w x g at' ds W' :=
  ⟨h.a1.below hb h.a1.lt, fun i hi => by
    obtain ⟨v, hv⟩ := h.t1 i hi
    exact ⟨v, (hb.cell (p := ⟨g, i, none⟩) h.lt).trans hv⟩, fun i hi => (hb.frozen (p := ⟨g, i, none⟩) h.lt).trans (h.t2 i hi), fun i hi => (hb.cell (p := ⟨g, _, none⟩) h.lt).trans (h.t3 i hi), bl_trans h.hb hb⟩
theorem TextW.far {w : World} {x : Wd} {g at' : Nat} {ds : List Int} {W : World} (h : TextW w x g at' ds W) {k : Nat} (hk : k ≠ g) (hw : w.heap.size < k) (o : Nat) (v : Value) : TextW w x g at' ds (W.setCell ⟨k, o, none⟩ v) := by
  have far : ∀ b j, k ≠ b → (W.setCell ⟨k, o, none⟩ v).cell? ⟨b, j, none⟩ = W.cell? ⟨b, j, none⟩ := fun b j hne => World.cell?_setCell_far _ _ _ _ hne
  refine ⟨⟨?_, ?_, ?_, ?_, ?_⟩, fun i hi => ?_, fun i hi => (World.frozen?_setCell _ _ _ _).trans (h.t2 i hi), fun i hi => (far _ _ hk).trans (h.t3 i hi), bl_set h.hb (by dsimp only; omega) _⟩
  · rw [far _ _ (by omega)]; exact h.a1.c0
  · rw [far _ _ (by omega)]; exact h.a1.c1
  · rw [far _ _ (by omega)]; exact h.a1.c2
  · rw [far _ _ (by omega)]; exact h.a1.c3
  · rw [far _ _ (by omega)]; exact h.a1.c4
  · obtain ⟨v, hv⟩ := h.t1 i hi
    exact ⟨v, (far _ _ hk).trans hv⟩
theorem TextW.put {w : World} {x : Wd} {g at' : Nat} {ds : List Int} {W : World} (h : TextW w x g (at' + 1) ds W) (hg : w.heap.size < g) (hat : at' < 79) (v : Int) : TextW w x g at' (v :: ds) (W.setCell ⟨g, at', none⟩ (.int .u8 v)) := by
  have far : ∀ b j, g ≠ b → (W.setCell ⟨g, at', none⟩ (.int .u8 v)).cell? ⟨b, j, none⟩ = W.cell? ⟨b, j, none⟩ := fun b j hne => World.cell?_setCell_far _ _ _ _ hne
  have oth : ∀ j, j ≠ at' → (W.setCell ⟨g, at', none⟩ (.int .u8 v)).cell? ⟨g, j, none⟩ = W.cell? ⟨g, j, none⟩ := fun j hne => World.cell?_setCell_other _ _ _ _ (by intro e; injection e with _ e2; exact hne e2.symm)
  obtain ⟨v0, hv0⟩ := h.t1 at' hat
  have same : (W.setCell ⟨g, at', none⟩ (.int .u8 v)).cell? ⟨g, at', none⟩ = some (.int .u8 v) := World.cell?_setCell_same _ _ _ hv0
  refine ⟨⟨?_, ?_, ?_, ?_, ?_⟩, fun i hi => ?_, fun i hi => (World.frozen?_setCell _ _ _ _).trans (h.t2 i hi), fun i hi => ?_, bl_set h.hb (by dsimp only; omega) _⟩
  · rw [far _ _ (by omega)]; exact h.a1.c0
  · rw [far _ _ (by omega)]; exact h.a1.c1
  · rw [far _ _ (by omega)]; exact h.a1.c2
  · rw [far _ _ (by omega)]; exact h.a1.c3
  · rw [far _ _ (by omega)]; exact h.a1.c4
  · by_cases e : i = at'
    · subst e; exact ⟨v, same⟩
    · obtain ⟨v1, hv1⟩ := h.t1 i hi
      exact ⟨v1, (oth i e).trans hv1⟩
  · cases i with
    | zero => simpa using same
    | succ i =>
      rw [oth _ (by omega)]
      have := h.t3 i (by simpa using hi)
      rw [show at' + (i + 1) = at' + 1 + i by omega]
      simpa using this

theorem sliceText (W : World) (g n : Nat) (h : n < 79) : (Instr.sliceAt 66 (.pointer (some ⟨g, 0, none⟩)) (some (.int .i64 (n : Int))) none none).run Try.prog W = .ok (.slice (some ⟨g, n, none⟩) (79 - n) (79 - n)) W := by
  have ht : Try.prog.underlying 66 = some (.array (Try.prog.arrayLen 66) (Try.prog.elem 66)) := by kernel_rfl
  have hl : Try.prog.arrayLen 66 = 79 := by kernel_rfl
  have hs : ∀ w : World, (sizeOf (Try.prog.elem 66)).run Try.prog w = .ok 1 w := fun w => by kernel_rfl
  rw [run_sliceAt_array_l W 66 ⟨g, 0, none⟩ ht .i64 (n : Int) (by omega) (by rw [hl]; omega), hs]
  simp only [Result.andThen_ok, slicedAt, hl, Int.toNat_natCast]
  rw [if_neg (by omega)]
  simp [Addr.add]; omega
theorem zero66 : Try.zeroCells66 = Array.replicate 79 (.int .u8 0) := by kernel_rfl

/-- ahead of a round: the rest, and the digits that are written -/
def TextR (w : World) (x : Wd) (g : Nat) (s4 s5 : Value) (W : World) : Prop :=
  ∃ (at' : Nat) (ds : List Int) (k : Nat) (p q r s : Int), s4 = .int .i64 at' ∧ s5 = .pointer (some ⟨k, 0, none⟩) ∧ In4 p q r s ∧ At4 W k p q r s ∧ Free4 W k ∧ k ≠ g ∧ w.heap.size < k ∧ TextW w x g at' ds W ∧
    ds.length + at' = 79 ∧ digs 80 (V4 x.a x.b x.c x.d).toNat = digs 80 (V4 p q r s).toNat ++ ds ∧ (digs 80 (V4 p q r s).toNat).length + 1 ≤ at'

theorem text_step {V S dg : Int} (hV : 0 ≤ V ∧ V < M256) (hS : 0 ≤ S ∧ S < M256) (h0 : V ≠ 0) (h : V = S * 10 + dg ∧ 0 ≤ dg ∧ dg < 10) : digs 80 V.toNat = digs 80 S.toNat ++ [48 + dg] ∧ True := by
  refine ⟨?_, trivial⟩
  have h78 := m256_lt
  have hlt : V.toNat < 10 ^ 79 := by
    have h1 : ((V.toNat : Nat) : Int) < 10 ^ 78 := by omega
    have h2 : V.toNat < 10 ^ 78 := by exact_mod_cast h1
    omega
  rw [digs_step V.toNat (by omega) hlt, show V.toNat / 10 = S.toNat by omega, show ((V.toNat % 10 : Nat) : Int) = dg by omega]

theorem text_pos {V : Int} {ds : List Int} {n : Nat} (hV : 0 ≤ V ∧ V < M256) (h0 : V ≠ 0) (h : digs 80 V.toNat = ds) (hl : ds.length + n = 79) : n < 79 := by
  have h78 := m256_lt
  have hlt : V.toNat < 10 ^ 79 := by
    have h1 : ((V.toNat : Nat) : Int) < 10 ^ 78 := by omega
    have h2 : V.toNat < 10 ^ 78 := by exact_mod_cast h1
    omega
  rw [digs_step V.toNat (by omega) hlt] at h
  rw [← h] at hl
  simp at hl
  omega

def TextP (m : Bool) (V : Int) (w : World) (e : Ending) (w' : World) : Prop := e = .returned (.string (strOfNums (textOf m V.toNat))) ∧ Below w.heap.size w w'

set_option maxHeartbeats 2000000 in
set_option maxRecDepth 100000 in
theorem text_c (m : Bool) (a b c d : Int) (hA : In4 a b c d) (w : World) :
    Calls Try.prog 21 #[(.agg #[.bool m, .int .u64 a, .int .u64 b, .int .u64 c, .int .u64 d])] w (TextP m (V4 a b c d) w) := by
  have HA := hid_mk hA
  clear hA
  go_enter Try.func21, Try.ntmps21
  go_upto_region 1 with (fail)
  refine wp_abs (fun W => At5 W w.heap.size 0 ⟨m, a, b, c, d⟩ ∧ Below w.heap.size w W) ?_ ?_
  · refine ⟨?_, by repeat (first | (with_reducible exact Below.refl _ _) | (with_reducible refine bl_alloc ?_ _) | (with_reducible refine Below.drew ?_) | (with_reducible refine below_drewN' ?_ _) | ((with_reducible refine bl_set ?_ ?_ _); (rotate_left; (dsimp only; omega))))⟩
    all_goals (constructor <;> simp [go_sem])
  rintro W0 ⟨S0, hb0⟩
  have H0 := Lib.hid (And.intro S0 hb0)
  obtain ⟨c0, c1, c2, c3, c4⟩ := S0
  simp only [Nat.zero_add] at c1 c2 c3 c4
  clear hb0
  go_wp2_with fail
  refine (sign_c m a b c d HA.out _).mono ?_
  rintro e w1 ⟨rfl, hb⟩
  have H1 := Lib.hid (And.intro (H0.out.1.below hb H0.out.1.lt) (bl_trans H0.out.2 hb))
  clear c0 c1 c2 c3 c4 H0 hb
  by_cases hY : V4 a b c d = 0
  · have HY := Lib.hid hY
    have hsg : (sgn m (V4 a b c d) == 0) = true := by simp [sgn, hY]
    clear hY
    go_wp2
    go_ret
    refine ⟨?_, H1.out.2⟩
    rw [HY.out]; rfl
  · have HY := Lib.hid hY
    have hsg : (sgn m (V4 a b c d) == 0) = false := by simp [sgn, hY]; cases m <;> simp
    clear hY
    obtain ⟨c0, c1, c2, c3, c4⟩ := H1.out.1
    simp only [Nat.zero_add] at c1 c2 c3 c4
    have hlt := H1.out.1.lt
    go_wp2
    generalize hg : w1.heap.size = g at *
    have HG := Lib.hid hg
    clear hg
    refine wp_abs (fun W => TextW w ⟨m, a, b, c, d⟩ g 79 [] W ∧ At4 W (g + 1) a b c d ∧ Free4 W (g + 1)) ?_ ?_
    · have eg := HG.out
      subst eg
      refine ⟨⟨(H1.out.1.alloc _).alloc _, fun i hi => ⟨0, ?_⟩, fun i hi => ?_, fun i hi => by simp at hi, bl_alloc (bl_alloc H1.out.2 _) _⟩, ?_, ?_⟩
      · have : i < (Array.replicate 79 (Value.int .u8 0)).size := by simpa using hi
        simp [go_sem, zero66, hi]
      · simp [go_sem]
      all_goals (constructor <;> simp [go_sem])
    rintro W2 ⟨S2, E2, F2⟩
    have H2 := Lib.hid (And.intro S2 (And.intro E2 F2))
    clear c0 c1 c2 c3 c4 H1 S2 E2 F2
    go_loopw [4, 5] (fun s4 s5 W => TextR w ⟨m, a, b, c, d⟩ g s4 s5 W) (fun s4 _ _ => (intOf s4).toNat)
    case atStart =>
      refine ⟨79, [], g + 1, a, b, c, d, rfl, rfl, HA.out, H2.out.2.1, H2.out.2.2, by omega, by omega, H2.out.1, rfl, by simp, ?_⟩
      have hb := v4_bounds HA.out
      have h78 := m256_lt
      have := digs_le 78 (V4 a b c d).toNat (by have : (((V4 a b c d).toNat : Nat) : Int) < 10 ^ 78 := by omega
                                                exact_mod_cast this) (by omega)
      omega
    case round =>
      obtain ⟨at', ds, k, p, q, r, s, rfl, rfl, hi, E, F, hkg, hwk, S, hlen, hdig, hroom⟩ := hrel
      obtain ⟨zb, hz, he⟩ := isz p q r s hi
      have H3 := Lib.hid (And.intro hi (And.intro E (And.intro F (And.intro S (And.intro hlen (And.intro hdig hroom))))))
      obtain ⟨e0, e1, e2, e3⟩ := E
      clear hi F S hlen hdig hroom
      cases zb
      · go_wp2_with fail
        refine (tenth_c p q r s H3.out.1 _).mono ?_
        rintro e w4 ⟨s0, s1, s2, s3, dg, hs, hd, rfl, hb4⟩
        have H4 := Lib.hid (And.intro (H3.out.2.2.2.1.below hb4) (And.intro (H3.out.2.1.below hb4) (H3.out.2.2.1.below H3.out.2.1.lt hb4)))
        obtain ⟨n, rfl⟩ : ∃ n, at' = n + 1 := ⟨at' - 1, by have := H3.out.2.2.2.2.2.2; omega⟩
        have hn79 : n < 79 := by have := H3.out.2.2.2.2.1; omega
        obtain ⟨v0, hv0⟩ := H4.out.1.t1 n hn79
        have hf0 := H4.out.1.t2 n hn79
        clear e0 e1 e2 e3 hb4
        obtain ⟨⟨e0, e1, e2, e3⟩, ⟨f0, f1, f2, f3⟩⟩ := H4.out.2
        have hd0 : 0 ≤ dg := hd.out.2.1
        have hd1 : dg < 10 := hd.out.2.2
        have hkg' : ¬ (g = k) := fun h => hkg h.symm
        have hkl : k < w4.heap.size := H4.out.2.1.lt
        have hgl : g < w4.heap.size := H4.out.1.lt
        go_wp2
        go_roundw
        case rel =>
          have hdg := text_step (V := V4 p q r s) (S := V4 s0 s1 s2 s3) (v4_bounds H3.out.1) (v4_bounds hs) (fun h => absurd (hz.out.2 h) (by simp)) hd.out
          refine ⟨n, (48 + dg) :: ds, w4.heap.size, s0, s1, s2, s3, by first | rfl | (congr 1; omega), rfl, hs, ?_, ?_, by omega, by have := H4.out.1.a1.lt; omega, ?_, ?_, ?_, ?_⟩
          · constructor <;> simp [go_sem]
          · constructor <;> simp [go_sem]
          · exact (((((H4.out.1.far hkg hwk _ _).far hkg hwk _ _).far hkg hwk _ _).far hkg hwk _ _).put hlt hn79 _).below (bl_one _ _)
          · have := H3.out.2.2.2.2.1; simp only [List.length_cons]; omega
          · have := H3.out.2.2.2.2.2.1
            rw [this, hdg.1]; simp
          · have := H3.out.2.2.2.2.2.2
            rw [hdg.1] at this
            simp at this; omega
        case measure => simp [intOf]
      · have hV : V4 p q r s = 0 := hz.out.1 (by simp)
        have hds : digs 80 (V4 a b c d).toNat = ds := by
          have := H3.out.2.2.2.2.2.1
          rw [hV] at this
          simpa [digs] using this
        have Hds := Lib.hid hds
        clear hds hV
        obtain ⟨⟨c0, -, -, -, -⟩, -, -, -, -⟩ := H3.out.2.2.2.1
        have hlen := H3.out.2.2.2.2.1
        cases m
        · have hcv := fun cap => run_convert_bytes_arg wr 69 5 Try.underlying69 Try.underlying5 g at' (79 - at') cap ds (by omega) (fun i hi => H3.out.2.2.2.1.t3 i (by omega)) 9 Try.underlying9
          have hsl := sliceText wr g at' (text_pos (v4_bounds HA.out) HY.out Hds.out hlen)
          have Hlen := Lib.hid hlen
          clear hlen
          go_wp2
          go_ret
          refine ⟨?_, H3.out.2.2.2.1.hb⟩
          have e : textOf false (V4 a b c d).toNat = ds := by
            unfold textOf
            rw [if_neg (by have := v4_bounds HA.out; have := HY.out; omega), Hds.out]; rfl
          rw [e]; rfl
        · obtain ⟨n, rfl⟩ : ∃ n, at' = n + 1 := ⟨at' - 1, by have := H3.out.2.2.2.2.2.2; omega⟩
          have hn79 : n < 79 := by omega
          obtain ⟨v0, hv0⟩ := H3.out.2.2.2.1.t1 n hn79
          have hf0 := H3.out.2.2.2.1.t2 n hn79
          have T5 := H3.out.2.2.2.1.put hlt hn79 45
          have hcv := fun cap => run_convert_bytes_arg (wr.setCell ⟨g, n, none⟩ (.int .u8 45)) 69 5 Try.underlying69 Try.underlying5 g n (79 - n) cap (45 :: ds) (by simp only [List.length_cons]; omega) (fun i hi => T5.t3 i (by simp only [List.length_cons]; omega)) 9 Try.underlying9
          have hsl := sliceText (wr.setCell ⟨g, n, none⟩ (.int .u8 45)) g n hn79
          have Hlen := Lib.hid hlen
          have H5 := Lib.hid T5
          clear hlen T5
          go_wp2
          go_ret
          refine ⟨?_, H5.out.hb⟩
          have e : textOf true (V4 a b c d).toNat = 45 :: ds := by
            unfold textOf
            rw [if_neg (by have := v4_bounds HA.out; have := HY.out; omega), Hds.out]; rfl
          rw [e]; rfl
end Go.Proofs.Ytbgbmimgkhchhaa
