/-
  Contracts of the document's side: Of.
-/
import Derived.Test.YtpockemjfbaheaaTrim
import Derived.Test.YtpockemjfbaheaaAt4
import Derived.Test.YtpockemjfbaheaaLimbs
import Derived.WalkKit
namespace Go.Proofs.Ytpockemjfbaheaa
open Go.RowKit

theorem info_int : (Try.prog.info? 3).map (fun i => (i.zero, i.size, i.bytes)) = some (some (.int .i64 0), 1, 8) := by kernel_rfl

/-- the n-th limb, the n-th digit to the base 65536 -/
def lim (a b c d : Int) (n : Nat) : Int := [a, b, c, d].getD n 0
def dsF (a b c d : Int) (n : Nat) : Int := lim a b c d (n / 4) / 65536 ^ (n % 4) % 65536
def dsOf (a b c d : Int) (n : Nat) : List Int := (List.range n).map (dsF a b c d)
theorem dsOf_succ (a b c d : Int) (n : Nat) : dsOf a b c d (n + 1) = dsOf a b c d n ++ [dsF a b c d n] := by
  unfold dsOf; rw [List.range_succ, List.map_append]; rfl
theorem dsOf_len (a b c d : Int) (n : Nat) : (dsOf a b c d n).length = n := by simp [dsOf]

/-- a row of numbers that the call owns, behind block B, and all below B as it was -/
structure Rw (B : Nat) (w : World) (v : Value) (ds : List Int) (W : World) : Prop where
  own : W.ownsRow B 3 1 v ds.length (ds.map (Value.int .i64))
  hb : Below B w W
  sz : B ≤ W.heap.size

theorem Rw.nil {B : Nat} {w : World} (h : B ≤ w.heap.size) : Rw B w (.slice none 0 0) [] w := ⟨World.ownsRow_nil _ _ _ _, Below.refl _ _, h⟩
theorem Rw.alloc {B : Nat} {w W : World} {v : Value} {ds : List Int} (h : Rw B w v ds W) (o : Obj) : Rw B w v ds (W.alloc o) :=
  ⟨h.own.alloc o, h.hb.alloc h.sz o, by simp; have := h.sz; omega⟩
theorem Rw.more {B : Nat} {w W W' : World} {v v' : Value} {ds : List Int} {x : Int} (h : Rw B w v ds W) (ho : W'.ownsRow B 3 1 v' (ds.length + 1) (ds.map (Value.int .i64) ++ [.int .i64 x])) (hg : W.grownBy W' v.ownBlock) : Rw B w v' (ds ++ [x]) W' :=
  ⟨by simpa using ho, h.hb.grown hg h.sz (fun k e => (h.own.lt k e).1), Nat.le_trans h.sz hg.size⟩

def OfIn (B : Nat) (w : World) (a b c d : Int) (i : Nat) (dv xv kv : Value) (W : World) : Prop :=
  ∃ k : Nat, kv = .int .i64 k ∧ k ≤ 4 ∧ (∃ x : Int, xv = .int .u64 x ∧ In1 x ∧ Hid (x = lim a b c d i / 65536 ^ k)) ∧ Rw B w dv (dsOf a b c d (4 * i + k)) W

/-- what Of answers: the sixteen digits without the noughts behind -/
def ROfP (m : Bool) (a b c d : Int) (w : World) (e : Ending) (w' : World) : Prop :=
  ∃ n g cap : Nat, TrimAt (dsOf a b c d 16) n ∧ e = .returned (.agg #[.bool (m && decide (0 < n)), .slice (some ⟨g, 0, none⟩) n cap]) ∧ g < w'.heap.size ∧ n ≤ cap ∧ cap ≤ 9223372036854775807 ∧
    Hid (∀ j, j < 16 → w'.cell? ⟨g, j, none⟩ = some (.int .i64 ((dsOf a b c d 16).getD j 0))) ∧ Below w.heap.size w w'

set_option maxHeartbeats 1000000 in
set_option maxRecDepth 100000 in
theorem refOf_c (m : Bool) (a b c d : Int) (hA : In4 a b c d) (w : World) :
    Calls Try.prog 20 #[(.agg #[.bool m, .int .u64 a, .int .u64 b, .int .u64 c, .int .u64 d])] w (ROfP m a b c d w) := by
  obtain ⟨i0, hi, hz0, hz1, hz2⟩ := info_parts info_int
  have HA := hid_mk hA
  clear hA
  go_enter Try.func20, Try.ntmps20
  go_wp2
  refine wp_abs (fun W => W.heap.size = w.heap.size + 2 ∧ Below w.heap.size w W ∧ (∀ n, n < 4 → W.cell? ⟨w.heap.size, 1 + n, none⟩ = some (.int .u64 (lim a b c d n))) ∧ W.cell? ⟨w.heap.size, 0, none⟩ = some (.bool m) ∧ W.frozen? ⟨w.heap.size + 1, 0, none⟩ = false ∧ W.frozen? ⟨w.heap.size + 1, 1, none⟩ = false ∧ W.cell? ⟨w.heap.size + 1, 0, none⟩ = some (.bool false) ∧ W.cell? ⟨w.heap.size + 1, 1, none⟩ = some (.slice none 0 0)) ?_ ?_
  · refine ⟨by simp, by repeat (first | (with_reducible exact Below.refl _ _) | (with_reducible refine bl_alloc ?_ _) | (with_reducible refine Below.drew ?_) | (with_reducible refine below_drewN' ?_ _) | ((with_reducible refine bl_set ?_ ?_ _); (rotate_left; (dsimp only; omega)))), ?_, by simp [go_sem], by simp [go_sem], by simp [go_sem], by simp [go_sem], by simp [go_sem]⟩
    intro n hn
    have : n = 0 ∨ n = 1 ∨ n = 2 ∨ n = 3 := by omega
    rcases this with rfl | rfl | rfl | rfl <;> simp [go_sem, lim]
  have HX : Hid (∀ n, n < 4 → In1 (lim a b c d n)) := by
    intro n hn
    obtain ⟨q0, q1, q2, q3⟩ := HA.out
    have : n = 0 ∨ n = 1 ∨ n = 2 ∨ n = 3 := by omega
    rcases this with rfl | rfl | rfl | rfl <;> simpa [lim]
  rintro W2 ⟨hs, hb2, hL, hM, f0, f1, z0, z1⟩
  go_loopw [3, 4] (fun dv iv W => ∃ i : Nat, iv = .int .i64 i ∧ i ≤ 4 ∧ Rw (w.heap.size + 2) W2 dv (dsOf a b c d (4 * i)) W) (fun _ iv _ => 4 - (intOf iv).toNat)
  case atStart => exact ⟨0, rfl, by omega, by rw [← hs]; exact Rw.nil (Nat.le_refl _)⟩
  case round =>
    obtain ⟨i, rfl, hi4, hR⟩ := hrel
    by_cases hlt : i < 4
    · have hLi : wr.cell? ⟨w.heap.size, 1 + i, none⟩ = some (.int .u64 (lim a b c d i)) := (hR.hb.cell (by dsimp only; omega)).trans (hL i hlt)
      have HR := Lib.hid hR
      clear hR
      have hx0 : In1 (lim a b c d i) := HX.out i hlt
      have hb4 : decide ((i : Int) < 4) = true := by simp; omega
      go_wp2
      go_loopw [3, 5, 6] (fun dv xv kv W => OfIn (w.heap.size + 2) W2 a b c d i dv xv kv W) (fun _ _ kv _ => 4 - (intOf kv).toNat)
      case atStart => exact ⟨0, rfl, by omega, ⟨_, rfl, hx0, by unfold Hid; simp⟩, HR.out⟩
      case round =>
        obtain ⟨k, rfl, hk4, ⟨x, rfl, hx, hxe⟩, hR⟩ := hrel
        have hRs := hR.sz
        have HR := Lib.hid hR
        clear hR
        by_cases hk : k < 4
        · have hxu := hx
          unfold In1 at hxu
          have et : wrap64 (x.tmod 65536) = x % 65536 := by
            rw [Int.tmod_eq_emod_of_nonneg hxu.1]; unfold wrap64; omega
          have eq : x.tdiv 65536 = x / 65536 := Int.tdiv_eq_ediv_of_nonneg hxu.1
          go_wp2_with (first
            | (at_builtin; refine wpList_append_own _ rfl _ _ 24 rfl (w.heap.size + 2) 3 i0 (.int .i64 0) 1 8 Try.underlying24 hi hz0 hz1 hz2 rfl (by decide) _ _ _ rfl (HR.out.alloc _).own ⟨wr.heap.size, 0, none⟩ 1 1 [.int .i64 (x % 65536)] rfl rfl ?c1 ?c2 ?c3 ?c4 ?c5 ?_)
            | go_in)
          case c1 => exact cell_one_new _ _ _
          case c2 => intro u hu; simp at hu; subst hu; rfl
          case c3 => rw [dsOf_len]; unfold maxLen; omega
          case c4 => rw [dsOf_len]; omega
          case c5 => simp; omega
          intro v' w1 hown' hgrow _
          have R : Hid (Rw (w.heap.size + 2) W2 v' (dsOf a b c d (4 * i + k) ++ [x % 65536]) w1) := (HR.out.alloc _).more hown' hgrow
          clear hown' hgrow et
          go_wp2
          go_roundw
          case rel =>
            refine ⟨k + 1, by first | rfl | simp, by omega, ⟨x / 65536, by first | rfl | trivial, by unfold In1; omega, ?_⟩, ?_⟩
            · have h1 := hxe.out
              unfold Hid
              rw [h1, Int.pow_succ, Int.ediv_ediv_of_nonneg (by exact Int.pow_nonneg (by omega))]
            · have h1 := R.out
              have e1 : dsF a b c d (4 * i + k) = x % 65536 := by
                unfold dsF
                rw [show (4 * i + k) / 4 = i by omega, show (4 * i + k) % 4 = k by omega, ← hxe.out]
              rw [← Nat.add_assoc, dsOf_succ, e1]
              exact h1
          case measure => simp [intOf] <;> omega
        · have ek : k = 4 := by omega
          subst ek
          go_wp2
          go_roundw
          case rel => exact ⟨i + 1, by first | rfl | simp, by omega, HR.out⟩
          case measure => simp [intOf] <;> omega
    · have ei : i = 4 := by omega
      subst ei
      obtain ⟨g, cap, hsl, hgB0, hgl, hcap, hcm, hcell⟩ : ∃ g cap, u3 = .slice (some ⟨g, 0, none⟩) 16 cap ∧ w.heap.size + 2 ≤ g ∧ g < wr.heap.size ∧ 16 ≤ cap ∧ cap ≤ 9223372036854775807 ∧ Hid (∀ j, j < 16 → wr.cell? ⟨g, j, none⟩ = some (.int .i64 ((dsOf a b c d 16).getD j 0))) := by
        have ho := hR.own
        have hlen : (dsOf a b c d (4 * 4)).length = 16 := dsOf_len _ _ _ _ _
        rw [hlen] at ho
        rcases ho.2 with ⟨-, h0⟩ | ⟨g, cap, cur, e1, h1, h2, h3, h4, -, -⟩
        · exact absurd h0 (by omega)
        · subst e1
          refine ⟨g, cap, rfl, h1, ?_, h3, h4, ?_⟩
          · exact (Array.getElem?_eq_some_iff.1 h2).1
          · intro j hj
            rw [ho.cellAt j (by omega), List.getElem?_map, List.getD_eq_getElem?_getD, List.getElem?_eq_getElem (by rw [hlen]; omega)]
            rfl
      subst hsl
      have HR := Lib.hid hR
      have hM' : wr.cell? ⟨w.heap.size, 0, none⟩ = some (.bool m) := (hR.hb.cell (by dsimp only; omega)).trans hM
      have hsz := hR.sz
      have G : Hid (Below (w.heap.size + 2) W2 wr ∧ W2.frozen? ⟨w.heap.size + 1, 0, none⟩ = false ∧ W2.frozen? ⟨w.heap.size + 1, 1, none⟩ = false ∧ W2.cell? ⟨w.heap.size + 1, 0, none⟩ = some (.bool false) ∧ W2.cell? ⟨w.heap.size + 1, 1, none⟩ = some (.slice none 0 0)) := ⟨hR.hb, f0, f1, z0, z1⟩
      clear hR hM f0 f1 hL z0 z1
      go_wp2_with fail
      have hl16 : (dsOf a b c d 16).length = 16 := dsOf_len _ _ _ _ _
      have ht := trim_some m g cap (dsOf a b c d 16) (by omega) hcm wr hgl (by rw [hl16]; exact hcell.out)
      rw [hl16] at ht
      refine ht.mono ?_
      rintro e w3 ⟨n, hn, rfl, hb3⟩
      have hb4 : Below (w.heap.size + 2) W2 w3 := G.out.1.trans (hb3.mono hsz)
      have f0 : w3.frozen? ⟨w.heap.size + 1, 0, none⟩ = false := (hb4.frozen (by dsimp only; omega)).trans G.out.2.1
      have f1 : w3.frozen? ⟨w.heap.size + 1, 1, none⟩ = false := (hb4.frozen (by dsimp only; omega)).trans G.out.2.2.1
      have z0 : w3.cell? ⟨w.heap.size + 1, 0, none⟩ = some (.bool false) := (hb4.cell (by dsimp only; omega)).trans G.out.2.2.2.1
      have z1 : w3.cell? ⟨w.heap.size + 1, 1, none⟩ = some (.slice none 0 0) := (hb4.cell (by dsimp only; omega)).trans G.out.2.2.2.2
      have hgB : w.heap.size + 2 ≤ g := hgB0
      go_wp2
      refine bodyPost_ret (v := .agg #[.bool (m && decide (0 < n)), .slice (some ⟨g, 0, none⟩) n cap]) (by simp [results, Try.results20, go_sem, z0, z1]) rfl ⟨n, g, cap, hn, rfl, ?_, ?_, hcm, ?_, ?_⟩
      · have := hb3.size; simp; omega
      · have := hn.1; omega
      · intro j hj
        rw [← hcell.out j hj, ← hb3.cell (p := ⟨g, j, none⟩) hgl]
        exact (World.cell?_setCell_other _ _ _ _ (by intro e; injection e with e1; omega)).trans (World.cell?_setCell_other _ _ _ _ (by intro e; injection e with e1; omega))
      · have hb5 : Below w.heap.size w w3 := hb2.trans (hb4.mono (by omega))
        repeat (first | (with_reducible exact Below.refl _ _) | (with_reducible refine bl_alloc ?_ _) | (with_reducible refine Below.drew ?_) | (with_reducible refine below_drewN' ?_ _) | ((with_reducible refine bl_set ?_ ?_ _); (rotate_left; (dsimp only; omega))))
        exact hb5
end Go.Proofs.Ytpockemjfbaheaa
