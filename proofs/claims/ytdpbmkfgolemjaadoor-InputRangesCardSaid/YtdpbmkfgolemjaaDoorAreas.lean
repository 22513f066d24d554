/-
  The document's digit changes nothing at all.
-/
import Derived.Test.YtdpbmkfgolemjaaDoorRefNums
import Derived.BigQuiet
import Derived.Deep.DeepCutAuto
import Derived.OwnWalk
set_option linter.unusedVariables false
set_option linter.unusedSimpArgs false
set_option linter.deprecated false
namespace Go.Proofs.YtdpbmkfgolemjaaDoor
open Go.RowKit

set_option maxHeartbeats 1000000 in
set_option maxRecDepth 100000 in
theorem digit_in' (g c n i : Nat) (x : Int) (hi : i < n) (w : World) (hcell : w.cell? ⟨g, i, none⟩ = some (.int .i64 x)) :
    Calls Tryd.prog 59 #[.slice (some ⟨g, 0, none⟩) n c, .int .i64 i] w fun e w' => e = .returned (.int .i64 x) ∧ w' = w := by
  have h1 : decide ((i : Int) < (n : Int)) = true := by simp; omega
  go_enter Tryd.func59, Tryd.ntmps59
  go_wp2
  go_ret
  exact ⟨rfl, rfl⟩
set_option maxHeartbeats 1000000 in
set_option maxRecDepth 100000 in
theorem digit_out' (ad : Option Addr) (c n i : Nat) (hi : n ≤ i) (w : World) :
    Calls Tryd.prog 59 #[.slice ad n c, .int .i64 i] w fun e w' => e = .returned (.int .i64 0) ∧ w' = w := by
  have h1 : decide ((i : Int) < (n : Int)) = false := by simp; omega
  go_enter Tryd.func59, Tryd.ntmps59
  go_wp2
  go_ret
  exact ⟨rfl, rfl⟩
theorem DigAt.drewN {W : World} {ad : Option Addr} {n cap : Nat} {f : Nat → Int} (h : DigAt W ad n cap f) (k : Nat) : DigAt (W.drewN k) ad n cap f := h.below (below_drewN' (Below.refl _ _) k)
theorem digit_same {W : World} {ad : Option Addr} {n c : Nat} {f : Nat → Int} (d1 : DigAt W ad n c f) (i k : Nat) :
    Calls Tryd.prog 59 #[.slice ad n c, .int .i64 i] (W.drewN k) fun e w' => e = .returned (.int .i64 (f i)) ∧ ∃ m, w' = W.drewN m := by
  refine Calls.quiet_of_same ?_
  have d2 := d1.drewN k
  rcases Nat.lt_or_ge i n with h | h
  · rcases d2.mem with h0 | ⟨g, rfl, a1, a2, a3, a4⟩
    · omega
    · exact digit_in' g c n i (f i) h _ (a4.out i h)
  · rw [d2.hi i h]; exact digit_out' ad c n i h _
end Go.Proofs.YtdpbmkfgolemjaaDoor

/-
  Contract of the document's side: Times.
-/
namespace Go.Proofs.YtdpbmkfgolemjaaDoor
open Go.RowKit

/-- the frame of Times -/
structure TimesW (w : World) (m m' : Bool) (s s' : Value) (W : World) : Prop where
  sz : w.heap.size + 3 ≤ W.heap.size
  hb : Below w.heap.size w W
  a0 : W.cell? ⟨w.heap.size, 0, none⟩ = some (.bool m)
  a1 : W.cell? ⟨w.heap.size, 1, none⟩ = some s
  b0 : W.cell? ⟨w.heap.size + 1, 0, none⟩ = some (.bool m')
  b1 : W.cell? ⟨w.heap.size + 1, 1, none⟩ = some s'
  f0 : W.frozen? ⟨w.heap.size + 2, 0, none⟩ = false
  f1 : W.frozen? ⟨w.heap.size + 2, 1, none⟩ = false
  z0 : W.cell? ⟨w.heap.size + 2, 0, none⟩ = some (.bool false)
  z1 : W.cell? ⟨w.heap.size + 2, 1, none⟩ = some (.slice none 0 0)
theorem getD_set (ds : List Int) (j i : Nat) (x : Int) (hj : j < ds.length) : (ds.set j x).getD i 0 = if i = j then x else ds.getD i 0 := by
  rw [List.getD_eq_getElem?_getD, List.getD_eq_getElem?_getD, List.getElem?_set]
  by_cases h : j = i
  · subst h; simp [hj]
  · rw [if_neg h, if_neg (fun e => h e.symm)]
theorem dval_put {f h : Nat → Int} (j : Nat) (x : Int) (hj : h j = x) (he : ∀ i, i ≠ j → h i = f i) : ∀ n, dval h n = dval f n + (if j < n then (x - f j) * 65536 ^ j else 0)
  | 0 => by simp [dval]
  | n + 1 => by
    simp only [dval]
    rw [dval_put j x hj he n]
    by_cases h1 : j < n
    · rw [if_pos h1, if_pos (by omega), he n (by omega)]; omega
    · by_cases h2 : j = n
      · subst h2
        rw [if_neg h1, if_pos (by omega), hj, Int.sub_mul]; omega
      · rw [if_neg h1, if_neg (by omega), he n (by omega)]; omega
theorem lval_set (ds : List Int) (j : Nat) (x : Int) (hj : j < ds.length) : lval (ds.set j x) = lval ds + (x - ds.getD j 0) * 65536 ^ j := by
  unfold lval
  rw [List.length_set, dval_put (f := fun i => ds.getD i 0) j x (by rw [getD_set _ _ _ _ hj, if_pos rfl]) (fun i hi => by rw [getD_set _ _ _ _ hj, if_neg hi]), if_pos hj]
theorem bd_set {ds : List Int} {j : Nat} {x : Int} (h : Bd ds) (hj : j < ds.length) (h0 : 0 ≤ x) (h1 : x < 65536) : Bd (ds.set j x) := by
  intro i
  rw [getD_set _ _ _ _ hj]
  have := h i
  split <;> omega
theorem Rw.put {B : Nat} {w W : World} {g n : Nat} {ds : List Int} (h : Rw B w (.slice (some ⟨g, 0, none⟩) n n) ds W) (hn : ds.length = n) (j : Nat) (x : Int) : Rw B w (.slice (some ⟨g, 0, none⟩) n n) (ds.set j x) (W.setCell ⟨g, j, none⟩ (.int .i64 x)) := by
  have ho := h.own
  rw [hn] at ho
  obtain ⟨h1, h2⟩ := ho.stored j (.int .i64 x)
  have hb := (ho.lt g rfl)
  refine ⟨?_, h.hb.setCell hb.1 _, by simpa using h.sz⟩
  rw [List.length_set, hn, List.map_set]
  exact h1
theorem Rw.at {B : Nat} {w W : World} {g n : Nat} {ds : List Int} (h : Rw B w (.slice (some ⟨g, 0, none⟩) n n) ds W) (hn : ds.length = n) : (∀ j, j < n → W.cell? ⟨g, j, none⟩ = some (.int .i64 (ds.getD j 0)) ∧ W.frozen? ⟨g, j, none⟩ = false) ∧ B ≤ g ∧ g < W.heap.size := by
  have ho := h.own
  rw [hn] at ho
  refine ⟨fun j hj => ⟨?_, ho.frozenAt j⟩, ho.lt g rfl⟩
  rw [ho.cellAt j (by omega), List.getElem?_map, List.getD_eq_getElem?_getD, List.getElem?_eq_getElem (by omega)]
  rfl

theorem getD_rep (n j : Nat) : (List.replicate n (0 : Int)).getD j 0 = 0 := by
  rw [List.getD_eq_getElem?_getD, List.getElem?_replicate]
  split <;> rfl
theorem bd_rep (n : Nat) : Bd (List.replicate n 0) := fun j => by rw [getD_rep]; omega
theorem lval_rep (n : Nat) : lval (List.replicate n 0) = 0 := by
  unfold lval
  rw [dval_ext (h := fun _ => 0) _ (fun j _ => getD_rep n j)]
  exact dval_ge (n := 0) (f := fun _ => 0) (fun _ _ => rfl) (Nat.zero_le _)
theorem wrapN (t : Nat) (h : t ≤ 201) : wrap64 (t : Int) = t := by unfold wrap64; omega
theorem wrapK (t : Nat) (h : t ≤ 201) : IntKind.i64.wrap (t : Int) = t := IntWalk.i64_in _ (by omega)
theorem wrapS (t : Nat) (h : t ≤ 101) : wrap64 ((t : Int) + 1) = (t : Int) + 1 := by unfold wrap64; omega
theorem wrapP (p : Int) (h0 : 0 ≤ p) (h1 : p ≤ 4294836225) : IntKind.i64.wrap p = p := IntWalk.i64_in _ (by omega)
theorem wrapQ (p : Int) (h0 : 0 ≤ p) (h1 : p ≤ 4294836225) : wrap64 p = p := by unfold wrap64; omega
theorem xb (d p c : Int) (h0 : 0 ≤ d) (h1 : d < 65536) (h2 : 0 ≤ p) (h3 : p ≤ 4294836225) (h4 : 0 ≤ c) (h5 : c < 65536) : 0 ≤ d + p + c ∧ d + p + c < 4294967296 := by omega
theorem sg_mul (m m' : Bool) (F H : Int) : sg m * F * (sg m' * H) = sg (m != m') * (F * H) := by
  cases m <;> cases m' <;> simp [sg, Int.mul_neg, Int.neg_mul]
theorem measK (kk : Nat) (h : kk ≤ 101) : 102 - ((kk : Int) + 1).toNat < 102 - (kk : Int).toNat := by omega
theorem wrapq (q : Int) (h0 : 0 ≤ q) (h1 : q < 65536) : wrap64 q = q := by unfold wrap64; omega
theorem qb (x : Int) (h0 : 0 ≤ x) (h1 : x < 4294967296) : 0 ≤ x / 65536 ∧ x / 65536 < 65536 := by omega
theorem remK (x : Int) (h0 : 0 ≤ x) (_h1 : x < 4294967296) : x.tmod 65536 = x % 65536 := Int.tmod_eq_emod_of_nonneg h0
theorem quoK (x : Int) (h0 : 0 ≤ x) (_h1 : x < 4294967296) : x.tdiv 65536 = x / 65536 := Int.tdiv_eq_ediv_of_nonneg h0
theorem times_step {ds : List Int} {cy x dj p : Int} {i k kk t : Nat} {f h : Nat → Int} (hq : (∀ j, i + k + 1 ≤ j → ds.getD j 0 = 0) ∧ (kk ≤ k → ds.getD (i + k) 0 = 0) ∧ lval ds + cy * 65536 ^ (i + kk) = dval f i * dval h k + f i * dval h kk * 65536 ^ i)
    (ht : t = i + kk) (htl : t < ds.length) (hdj : dj = ds.getD (i + kk) 0) (hp : p = f i * h kk) (hx : x = dj + p + cy) (hkk : kk ≤ k) :
    (∀ j, i + k + 1 ≤ j → (ds.set t (x % 65536)).getD j 0 = 0) ∧ (kk + 1 ≤ k → (ds.set t (x % 65536)).getD (i + k) 0 = 0) ∧ lval (ds.set t (x % 65536)) + x / 65536 * 65536 ^ (i + (kk + 1)) = dval f i * dval h k + f i * dval h (kk + 1) * 65536 ^ i := by
  subst ht
  refine ⟨fun j hj => ?_, fun hk1 => ?_, ?_⟩
  · rw [getD_set _ _ _ _ htl, if_neg (by omega)]; exact hq.1 j hj
  · rw [getD_set _ _ _ _ htl, if_neg (by omega)]; exact hq.2.1 (by omega)
  · rw [lval_set _ _ _ htl, ← hdj, ← Nat.add_assoc, Int.pow_succ]
    simp only [dval]
    have h3 := hq.2.2
    have e1 : x / 65536 * (65536 ^ (i + kk) * 65536) = x / 65536 * 65536 * 65536 ^ (i + kk) := by
      rw [Int.mul_comm (65536 ^ (i + kk)), Int.mul_assoc]
    have e2 : (x % 65536 - dj) * 65536 ^ (i + kk) + x / 65536 * 65536 * 65536 ^ (i + kk) = (p + cy) * 65536 ^ (i + kk) := by
      rw [← Int.add_mul]; congr 1; omega
    have e3 : f i * (dval h kk + h kk * 65536 ^ kk) * 65536 ^ i = f i * dval h kk * 65536 ^ i + p * 65536 ^ (i + kk) := by
      rw [Int.mul_add, Int.add_mul, hp, Int.pow_add, Int.mul_comm (65536 ^ i)]
      congr 1
      simp only [Int.mul_assoc]
    rw [e1, e3]
    rw [Int.add_mul] at e2
    omega
/-- ahead of row i -/
def TimesO (B : Nat) (W2 : World) (N g n k : Nat) (f h : Nat → Int) (iv : Value) (W : World) : Prop :=
  ∃ (ds : List Int) (i : Nat), iv = .int .i64 i ∧ i ≤ n ∧ Rw B W2 (.slice (some ⟨g, 0, none⟩) N N) ds W ∧ ds.length = N ∧ Bd ds ∧ Hid ((∀ j, i + k ≤ j → ds.getD j 0 = 0) ∧ lval ds = dval f i * dval h k)
/-- in row i, ahead of place kk -/
def TimesI (B : Nat) (W2 : World) (N g k : Nat) (f h : Nat → Int) (i : Nat) (cv kv : Value) (W : World) : Prop :=
  ∃ (ds : List Int) (cy : Int) (kk : Nat), cv = .int .i64 cy ∧ kv = .int .i64 kk ∧ (kk ≤ k ∨ (kk = k + 1 ∧ cy = 0)) ∧ 0 ≤ cy ∧ cy < 65536 ∧ Rw B W2 (.slice (some ⟨g, 0, none⟩) N N) ds W ∧ ds.length = N ∧ Bd ds ∧
    Hid ((∀ j, i + k + 1 ≤ j → ds.getD j 0 = 0) ∧ (kk ≤ k → ds.getD (i + k) 0 = 0) ∧ lval ds + cy * 65536 ^ (i + kk) = dval f i * dval h k + f i * dval h kk * 65536 ^ i)

set_option maxHeartbeats 4000000 in
set_option maxRecDepth 100000 in
theorem times_raw (m m' : Bool) (ad ad' : Option Addr) (n k c c' : Nat) (f h : Nat → Int) (hn : n ≤ 100) (hk : k ≤ 100) (w : World) (d1 : DigAt w ad n c f) (d2 : DigAt w ad' k c' h) :
    Calls Tryd.prog 46 #[.agg #[.bool m, .slice ad n c], .agg #[.bool m', .slice ad' k c']] w fun e w' => ∃ u, e = .returned u ∧ NumIs u (sg m * dval f n * (sg m' * dval h k)) w' ∧ Below w.heap.size w w' := by
  obtain ⟨i0, hi, hz0, hz1, hz2⟩ := info_parts info_int
  have D1 := Lib.hid d1
  have D2 := Lib.hid d2
  clear d1 d2
  obtain ⟨N, hN⟩ : ∃ N, n + k < N ∧ N ≤ n + k + 1 := ⟨n + k + 1, by omega, by omega⟩
  go_enter Tryd.func46, Tryd.ntmps46
  go_upto_region 1 with (fail)
  refine wp_abs (fun W => TimesW w m m' (.slice ad n c) (.slice ad' k c') W) ?_ ?_
  · constructor <;> first | (simp [go_sem]; done) | repeat (first | (with_reducible exact Below.refl _ _) | (with_reducible refine bl_alloc ?_ _) | (with_reducible refine Below.drew ?_) | (with_reducible refine below_drewN' ?_ _) | ((with_reducible refine bl_set ?_ ?_ _); (rotate_left; (dsimp only; omega))))
  intro W2 hW
  have c1 := hW.a1
  have c2 := hW.b1
  have HW := Lib.hid hW
  clear hW
  go_wp2_with (first
    | (refine wpList_make_full _ rfl _ _ 55 rfl W2.heap.size 3 i0 (.int .i64 0) 1 Tryd.underlying55 hi hz0 hz1 .i64 .i64 _ _ N rfl rfl (by omega) (by omega) (by rw [hz2]; omega) (by unfold maxLen; omega) (Nat.le_refl _) ?_)
    | go_in)
  intro W3 hown hgrow
  have R0 : Hid (Rw W2.heap.size W2 (.slice (some ⟨W2.heap.size, 0, none⟩) N N) (List.replicate N 0) W3) := by
    refine ⟨?_, (Below.refl _ _).grown hgrow (Nat.le_refl _) (fun k e => by cases e), Nat.le_trans (Nat.le_refl _) hgrow.size⟩
    rw [toList_madeCells_one] at hown
    simpa using hown
  clear hown hgrow c1 c2
  have hNN : n + k < N ∧ N ≤ n + k + 1 := by omega
  have HN := Lib.hid hNN
  have hNb : N ≤ 201 := by omega
  clear hNN hN
  generalize hg : W2.heap.size = g at *
  have hgw : w.heap.size + 3 ≤ g := by rw [← hg]; exact HW.out.sz
  have HG := Lib.hid hg
  clear hg
  go_wp2
  go_loopw [6] (fun iv W => TimesO g W2 N g n k f h iv W) (fun iv _ => 102 - (intOf iv).toNat)
  case atStart => exact ⟨_, 0, rfl, by omega, R0.out, by simp, bd_rep _, ⟨fun j _ => getD_rep _ j, by rw [lval_rep]; simp [dval]⟩⟩
  case round =>
    obtain ⟨ds, i, rfl, hin, hR, hlen, hB, HQ⟩ := hrel
    have HR := Lib.hid hR
    have HB := Lib.hid hB
    have hRs := hR.sz
    clear hR hB
    have c1 : wr.cell? ⟨w.heap.size, 1, none⟩ = some (.slice ad n c) := (HR.out.hb.cell (by dsimp only; omega)).trans HW.out.a1
    by_cases hgo : i < n
    · have b1 : decide ((i : Int) < (n : Int)) = true := by simp; omega
      go_upto_region 7 with (fail)
      go_loopw [7, 8] (fun cv kv W => TimesI g W2 N g k f h i cv kv W) (fun _ kv _ => 102 - (intOf kv).toNat)
      case atStart => exact ⟨ds, 0, 0, rfl, rfl, .inl (by omega), by omega, by omega, HR.out, hlen, HB.out, ⟨fun j hj => HQ.out.1 j (by omega), fun _ => HQ.out.1 _ (by omega), by rw [HQ.out.2]; simp [dval]⟩⟩
      case round =>
        clear c1 HR HB HQ hlen hRs
        obtain ⟨ds, cy, kk, rfl, rfl, hkk, hc0, hc1, hR, hlen, hB, HQ⟩ := hrel
        have HR := Lib.hid hR
        have HB := Lib.hid hB
        have hRs := hR.sz
        clear hR hB
        have c2 : wr.cell? ⟨w.heap.size + 1, 1, none⟩ = some (.slice ad' k c') := (HR.out.hb.cell (by dsimp only; omega)).trans HW.out.b1
        by_cases hgo2 : kk < k ∨ 0 < cy
        · have hkk1 : kk ≤ k := by clear HR HB HQ c2 hRs; omega
          have HGO := Lib.hid hgo2
          clear hkk hgo2
          go_upto_region 7 with (fail)
          go_cut [34] (fun bv W => bv = .bool true ∧ wr = W)
          case first =>
            rcases (show kk < k ∨ (¬ kk < k ∧ 0 < cy) by have := HGO.out; omega) with h1 | ⟨h1, h2⟩
            · have b2 : decide ((kk : Int) < (k : Int)) = true := by simp; omega
              go_wp2
              go_meet
              case rel => exact ⟨rfl, rfl⟩
            · have b2 : decide ((kk : Int) < (k : Int)) = false := by simp; omega
              have b3 : decide (0 < cy) = true := by simp; omega
              go_wp2
              go_meet
              case rel => exact ⟨rfl, rfl⟩
          case rest =>
            obtain ⟨rfl, rfl⟩ := hcut
            have c1 : wr.cell? ⟨w.heap.size, 1, none⟩ = some (.slice ad n c) := (HR.out.hb.cell (by dsimp only; omega)).trans HW.out.a1
            have hDa : Hid (DigAt wr ad n c f) := D1.out.below (bl_trans HW.out.hb (by rw [HG.out]; exact HR.out.hb))
            have hDb : Hid (DigAt wr ad' k c' h) := D2.out.below (bl_trans HW.out.hb (by rw [HG.out]; exact HR.out.hb))
            obtain ⟨hat, hgB, hgl⟩ := HR.out.at hlen
            have c3 := (hat (i + kk) (by have := HN.out; omega)).1
            have hfr := (hat (i + kk) (by have := HN.out; omega)).2
            have HAT := Lib.hid hat
            clear hat
            rcases hDa.out.mem with h0 | ⟨ga, rfl, y1, y2, y3, y4⟩
            · omega
            have c4 : wr.cell? ⟨ga, i, none⟩ = some (.int .i64 (f i)) := y4.out i hgo
            clear y4
            have hfb := hDa.out.bd i
            have hhb := hDb.out.bd kk
            have hdb := HB.out (i + kk)
            obtain ⟨dj, hdj⟩ : ∃ dj, dj = ds.getD (i + kk) 0 := ⟨_, rfl⟩
            rw [← hdj] at c3 hdb
            obtain ⟨p, hp, hp0, hp1⟩ : ∃ p, p = f i * h kk ∧ 0 ≤ p ∧ p ≤ 4294836225 := ⟨_, rfl, Int.mul_nonneg hfb.1 hhb.1, Int.le_trans (Int.mul_le_mul (show f i ≤ 65535 by omega) (show h kk ≤ 65535 by omega) hhb.1 (by omega)) (by omega)⟩
            have hwp : IntKind.i64.wrap (f i * h kk) = p := by rw [← hp]; exact wrapP p hp0 hp1
            have hwp' : wrap64 (f i * h kk) = p := by rw [← hp]; exact wrapQ p hp0 hp1
            obtain ⟨t, ht⟩ : ∃ t, t = i + kk := ⟨_, rfl⟩
            have hti : (i : Int) + (kk : Int) = (t : Int) := by omega
            have htl : t < N := by have := HN.out; omega
            have htl' : (t : Int) < (N : Int) := by omega
            have htb : t ≤ 201 := by omega
            have htw : IntKind.i64.wrap (t : Int) = (t : Int) := wrapK t htb
            have htw' : wrap64 (t : Int) = (t : Int) := wrapN t htb
            have hkb : kk ≤ 101 := by omega
            rw [← ht] at c3 hfr
            have HT := Lib.hid ht
            have HDJ := Lib.hid hdj
            have HPP := Lib.hid hp
            clear ht hdj hp
            go_upto_region 9 with (fail)
            go_cut [9] (fun xv W => xv = .int .i64 (dj + p + cy) ∧ Below wr.heap.size wr W)
            case first =>
              go_quiet ((go_at_call 59; exact digit_same hDb.out kk _))
              go_wp2
              go_meet
              case rel => exact ⟨by first | rfl | simp [hwp], below_drewN' (Below.refl _ _) _⟩
            case rest =>
              obtain ⟨rfl, hb⟩ := hcut
              have RW : Hid (Rw g W2 (.slice (some ⟨g, 0, none⟩) N N) ds wc) := HR.out.kept hb
              obtain ⟨x, hx, hx0, hx1⟩ : ∃ x, x = dj + p + cy ∧ 0 ≤ x ∧ x < 4294967296 := ⟨_, rfl, (xb _ _ _ hdb.1 hdb.2 hp0 hp1 hc0 hc1).1, (xb _ _ _ hdb.1 hdb.2 hp0 hp1 hc0 hc1).2⟩
              have HX := Lib.hid hx
              rw [← hx]
              have f3 : wc.frozen? ⟨g, t, none⟩ = false := (hb.frozen (by exact hgl)).trans hfr
              have c5 : wc.cell? ⟨g, t, none⟩ = some (.int .i64 dj) := (hb.cell (by exact hgl)).trans c3
              have HCY : Hid (cy < 65536) := hc1
              have HIH : Hid (kk = k → cy = x) := by
                intro e
                have z1 : dj = 0 := by rw [HDJ.out, e]; exact HQ.out.2.1 (by omega)
                have z2 : p = 0 := by rw [HPP.out, e, hDb.out.hi k (Nat.le_refl _)]; simp
                have := HX.out
                omega
              obtain ⟨y, hy⟩ : ∃ y, y = x % 65536 := ⟨_, rfl⟩
              obtain ⟨q, hq⟩ : ∃ q, q = x / 65536 := ⟨_, rfl⟩
              have er : x.tmod 65536 = y := by rw [hy]; exact remK x hx0 hx1
              have eq : x.tdiv 65536 = q := by rw [hq]; exact quoK x hx0 hx1
              have hqb : 0 ≤ q ∧ q < 65536 := by rw [hq]; exact qb x hx0 hx1
              have HBN : Hid (ds.length = N ∧ kk ≤ k ∧ k ≤ 100 ∧ t < N ∧ 0 ≤ x ∧ x < 4294967296 ∧ y = x % 65536 ∧ q = x / 65536 ∧ kk ≤ 101) := ⟨hlen, hkk1, hk, htl, hx0, hx1, hy, hq, hkb⟩
              clear hx c1 c2 c3 c4 hDa hDb hfr hb hwp hwp' htw hp0 hp1 hfb hhb hdb HGO y1 y2 y3 hlen hkk1 hn hk hx0 hx1 hy hq hgB hgl hRs hin hgo hNb htb hgw hc0 hc1 b1
              go_wp2
              go_roundw
              case rel =>
                obtain ⟨hlen, hkk1, hk, htl, hx0, hx1, hy, hq, hkb'⟩ := HBN.out
                have hcy' := hqb
                refine ⟨ds.set t y, q, kk + 1, rfl, rfl, ?_, hcy'.1, hcy'.2, RW.out.put hlen t y, by rw [List.length_set]; exact hlen, bd_set HB.out (by rw [hlen]; exact htl) (by omega) (by omega), ?_⟩
                · rcases Nat.lt_or_ge kk k with h1 | h1
                  · exact .inl h1
                  · have := HIH.out (Nat.le_antisymm hkk1 h1)
                    exact .inr ⟨by omega, by have := HCY.out; omega⟩
                · rw [hy, hq]
                  exact times_step HQ.out HT.out (by rw [hlen]; exact htl) HDJ.out HPP.out HX.out hkk1
              case measure =>
                obtain ⟨hlen, hkk1, hk, htl, hx0, hx1, hy, hq, hkb'⟩ := HBN.out
                simp only [intOf]
                exact measK kk hkb
        · have ec : cy = 0 := by clear HR HB HQ c2 hRs; omega
          have hkk2 : k ≤ kk := by clear HR HB HQ c2 hRs; omega
          clear hkk hgo2
          subst ec
          have b2 : decide ((kk : Int) < (k : Int)) = false := by simp; omega
          go_wp2
          go_roundw
          case rel =>
            refine ⟨ds, i + 1, by first | rfl | simp, by omega, HR.out, hlen, HB.out, fun j hj => HQ.out.1 j (by omega), ?_⟩
            have h3 := HQ.out.2.2
            rw [dval_ge D2.out.hi hkk2] at h3
            simp only [dval]
            rw [Int.add_mul]
            have e : f i * 65536 ^ i * dval h k = f i * dval h k * 65536 ^ i := by rw [Int.mul_assoc, Int.mul_comm (65536 ^ i), Int.mul_assoc]
            omega
          case measure => simp [intOf] <;> omega
    · have ei : i = n := by omega
      have b1 : decide ((i : Int) < (n : Int)) = false := by simp; omega
      obtain ⟨mm, hmm⟩ : ∃ mm, mm = (m != m') := ⟨_, rfl⟩
      have hM : wr.cell? ⟨w.heap.size, 0, none⟩ = some (.bool m) := (HR.out.hb.cell (by dsimp only; omega)).trans HW.out.a0
      have hM' : wr.cell? ⟨w.heap.size + 1, 0, none⟩ = some (.bool m') := (HR.out.hb.cell (by dsimp only; omega)).trans HW.out.b0
      have hbW : Hid (Below w.heap.size w wr ∧ wr.frozen? ⟨w.heap.size + 2, 0, none⟩ = false ∧ wr.frozen? ⟨w.heap.size + 2, 1, none⟩ = false ∧ wr.cell? ⟨w.heap.size + 2, 0, none⟩ = some (.bool false) ∧ wr.cell? ⟨w.heap.size + 2, 1, none⟩ = some (.slice none 0 0)) :=
        ⟨bl_trans HW.out.hb (by rw [HG.out]; exact HR.out.hb), (HR.out.hb.frozen (by dsimp only; omega)).trans HW.out.f0, (HR.out.hb.frozen (by dsimp only; omega)).trans HW.out.f1, (HR.out.hb.cell (by dsimp only; omega)).trans HW.out.z0, (HR.out.hb.cell (by dsimp only; omega)).trans HW.out.z1⟩
      have hdone : Hid (sg m * dval f n * (sg m' * dval h k) = sg (m != m') * lval ds) := by
        unfold Hid
        rw [HQ.out.2, ei]
        exact sg_mul m m' _ _
      have HM := Lib.hid hmm
      have hTR := Lib.hid (trim_row (m != m') HR.out HB.out)
      rw [← hmm] at hTR hdone
      clear hmm
      cases m <;> cases m'
      all_goals
        have em := HM.out
        simp only [bne_self_eq_false, Bool.true_bne, Bool.false_bne, Bool.not_false] at em
        subst em
        go_wp2_with fail
        refine hTR.out.mono ?_
        rintro e w3 ⟨u, rfl, hN3, hb3⟩
        obtain ⟨m3, ad3, n3, cap3, f3, rfl, hD3, hm3, hz3⟩ := hN3
        have HD := Lib.hid hD3
        clear hD3
        have f0 : w3.frozen? ⟨w.heap.size + 1 + 1, 0, none⟩ = false := (hb3.frozen (by dsimp only; omega)).trans hbW.out.2.1
        have f1 : w3.frozen? ⟨w.heap.size + 1 + 1, 1, none⟩ = false := (hb3.frozen (by dsimp only; omega)).trans hbW.out.2.2.1
        have z0 : w3.cell? ⟨w.heap.size + 1 + 1, 0, none⟩ = some (.bool false) := (hb3.cell (by dsimp only; omega)).trans hbW.out.2.2.2.1
        have z1 : w3.cell? ⟨w.heap.size + 1 + 1, 1, none⟩ = some (.slice none 0 0) := (hb3.cell (by dsimp only; omega)).trans hbW.out.2.2.2.2
        go_wp2
        refine bodyPost_ret (v := .agg #[.bool m3, .slice ad3 n3 cap3]) (by simp [results, Tryd.results46, go_sem, z0, z1]) rfl ⟨_, rfl, ⟨m3, ad3, n3, cap3, f3, rfl, HD.out.res z0 _ _, hm3, by rw [hdone.out]; exact hz3⟩, ?_⟩
        have hb5 : Below w.heap.size w w3 := bl_trans hbW.out.1 hb3
        exact bl_set (bl_set hb5 (by dsimp only; omega) _) (by dsimp only; omega) _

theorem times_num (v u : Value) (z y : Int) (w : World) (h1 : NumIs v z w) (h2 : NumIs u y w) (b1 : -BIG < z ∧ z < BIG) (b2 : -BIG < y ∧ y < BIG) :
    Calls Tryd.prog 46 #[v, u] w fun e w' => ∃ x, e = .returned x ∧ NumIs x (z * y) w' ∧ Below w.heap.size w w' := by
  obtain ⟨m, ad, n, c, f, rfl, d1, -, rfl⟩ := h1
  obtain ⟨m', ad', k, c', h, rfl, d2, -, rfl⟩ := h2
  exact times_raw m m' ad ad' n k c c' f h (len_of d1 m b1.1 b1.2) (len_of d2 m' b2.1 b2.2) w d1 d2
end Go.Proofs.YtdpbmkfgolemjaaDoor

/-
  Contract of the document's side: Small.
-/
namespace Go.Proofs.YtdpbmkfgolemjaaDoor
open Go.RowKit

def SmallI (B : Nat) (W2 : World) (m : Bool) (Z : Int) (dv xv : Value) (W : World) : Prop :=
  ∃ (ds : List Int) (X : Int), xv = .int .i64 (sg m * X) ∧ Rw B W2 dv ds W ∧ Bd ds ∧ Hid (Z = lval ds + X * 65536 ^ ds.length) ∧ 0 ≤ X ∧ X ≤ Z ∧ ds.length ≤ 4

theorem small_len {ds : List Int} {Z X : Int} (hB : Bd ds) (hq : Z = lval ds + X * 65536 ^ ds.length) (hZ : Z ≤ 9223372036854775808) (h0 : 0 < X) : ds.length ≤ 3 := by
  rcases Nat.lt_or_ge 3 ds.length with h | h
  · exfalso
    have c5 : (65536 : Int) ^ 4 ≤ 65536 ^ ds.length := p16_le (by omega)
    have c6 : 1 * (65536 : Int) ^ ds.length ≤ X * 65536 ^ ds.length := Int.mul_le_mul_of_nonneg_right (by omega) (by have := p16_pos ds.length; omega)
    have c7 := (lval_bound hB).1
    rw [show (65536 : Int) ^ 4 = 18446744073709551616 from rfl] at c5
    omega
  · exact h
theorem small_step {ds : List Int} {Z X : Int} (hq : Z = lval ds + X * 65536 ^ ds.length) :
    Z = lval (ds ++ [X % 65536]) + X / 65536 * 65536 ^ (ds ++ [X % 65536]).length := by
  rw [lval_snoc, List.length_append, List.length_singleton, Int.pow_succ, hq]
  have e2 : X / 65536 * (65536 ^ ds.length * 65536) = X / 65536 * 65536 * 65536 ^ ds.length := by
    rw [Int.mul_comm (65536 ^ ds.length), Int.mul_assoc]
  have e3 : X * 65536 ^ ds.length = (X % 65536 + X / 65536 * 65536) * 65536 ^ ds.length := by
    congr 1; omega
  rw [e2, e3, Int.add_mul]
  omega
theorem sg_tdiv (m : Bool) (X : Int) (h : 0 ≤ X) : (sg m * X).tdiv 65536 = sg m * (X / 65536) ∧ (sg m * X).tmod 65536 = sg m * (X % 65536) := by
  cases m
  · simp only [sg, Bool.false_eq_true, if_false, Int.one_mul]
    exact ⟨Int.tdiv_eq_ediv_of_nonneg h, Int.tmod_eq_emod_of_nonneg h⟩
  · have e1 : (-1 : Int) * X = -X := by omega
    have e2 : (-1 : Int) * (X / 65536) = -(X / 65536) := by omega
    have e3 : (-1 : Int) * (X % 65536) = -(X % 65536) := by omega
    simp only [sg, if_true]
    rw [e1, e2, e3, Int.neg_tdiv, Int.neg_tmod, Int.tdiv_eq_ediv_of_nonneg h, Int.tmod_eq_emod_of_nonneg h]
    exact ⟨rfl, rfl⟩

set_option maxHeartbeats 1000000 in
set_option maxRecDepth 100000 in
theorem small_num (z : Int) (h0 : -9223372036854775808 ≤ z) (h1 : z ≤ 9223372036854775807) (w : World) :
    Calls Tryd.prog 21 #[.int .i64 z] w fun e w' => ∃ v, e = .returned v ∧ NumIs v z w' ∧ Below w.heap.size w w' := by
  obtain ⟨i0, hi, hz0, hz1, hz2⟩ := info_parts info_int
  obtain ⟨m, Z, hm, hz, hZ0, hZ1⟩ : ∃ (m : Bool) (Z : Int), decide (z < 0) = m ∧ z = sg m * Z ∧ 0 ≤ Z ∧ Z ≤ 9223372036854775808 := by
    by_cases h : z < 0
    · exact ⟨true, -z, by simp; omega, by simp [sg], by omega, by omega⟩
    · exact ⟨false, z, by simp; omega, by simp [sg], by omega, by omega⟩
  have HZ := Lib.hid hz
  clear hz
  go_enter Tryd.func21, Tryd.ntmps21
  go_wp2
  refine wp_abs (fun W => w.heap.size + 1 ≤ W.heap.size ∧ Below w.heap.size w W ∧ W.frozen? ⟨w.heap.size, 0, none⟩ = false ∧ W.frozen? ⟨w.heap.size, 1, none⟩ = false ∧ W.cell? ⟨w.heap.size, 0, none⟩ = some (.bool false) ∧ W.cell? ⟨w.heap.size, 1, none⟩ = some (.slice none 0 0)) ?_ ?_
  · refine ⟨by simp, by repeat (first | (with_reducible exact Below.refl _ _) | (with_reducible refine bl_alloc ?_ _) | (with_reducible refine Below.drew ?_) | (with_reducible refine below_drewN' ?_ _) | ((with_reducible refine bl_set ?_ ?_ _); (rotate_left; (dsimp only; omega)))), ?_, ?_, ?_, ?_⟩ <;> simp [go_sem]
  rintro W2 ⟨hs, hb2, f0, f1, z0, z1⟩
  have HF : Hid (W2.frozen? ⟨w.heap.size, 0, none⟩ = false ∧ W2.frozen? ⟨w.heap.size, 1, none⟩ = false ∧ W2.cell? ⟨w.heap.size, 0, none⟩ = some (.bool false) ∧ W2.cell? ⟨w.heap.size, 1, none⟩ = some (.slice none 0 0)) := ⟨f0, f1, z0, z1⟩
  clear f0 f1 z0 z1
  go_loopw [3, 4] (fun dv xv W => SmallI W2.heap.size W2 m Z dv xv W) (fun _ xv _ => (sg m * intOf xv).toNat)
  case atStart => exact ⟨[], Z, by rw [← HZ.out], Rw.nil (Nat.le_refl _), bd_nil, by unfold Hid; simp [lval, dval], hZ0, by omega, by simp⟩
  case round =>
    obtain ⟨ds, X, rfl, hR, hB, HQ, hX0, hXZ, hl4⟩ := hrel
    have HR := Lib.hid hR
    have HB := Lib.hid hB
    have hRs := hR.sz
    clear hR hB
    by_cases hx0 : X = 0
    · subst hx0
      have hdone : Hid (Z = lval ds) := by have := HQ.out; unfold Hid; rw [this]; simp
      have hx1 : (sg m * 0 == 0) = true := by simp
      have hbW : Hid (Below w.heap.size w wr ∧ wr.frozen? ⟨w.heap.size, 0, none⟩ = false ∧ wr.frozen? ⟨w.heap.size, 1, none⟩ = false ∧ wr.cell? ⟨w.heap.size, 0, none⟩ = some (.bool false) ∧ wr.cell? ⟨w.heap.size, 1, none⟩ = some (.slice none 0 0)) :=
        ⟨bl_trans hb2 HR.out.hb, (HR.out.hb.frozen (by dsimp only; omega)).trans HF.out.1, (HR.out.hb.frozen (by dsimp only; omega)).trans HF.out.2.1, (HR.out.hb.cell (by dsimp only; omega)).trans HF.out.2.2.1, (HR.out.hb.cell (by dsimp only; omega)).trans HF.out.2.2.2⟩
      go_wp2_with fail
      refine (trim_row m HR.out HB.out).mono ?_
      rintro e w3 ⟨u, rfl, hN, hb3⟩
      obtain ⟨m3, ad3, n3, cap3, f3, rfl, hD3, hm3, hz3⟩ := hN
      have HD := Lib.hid hD3
      clear hD3
      have f0 : w3.frozen? ⟨w.heap.size, 0, none⟩ = false := (hb3.frozen (by dsimp only; omega)).trans hbW.out.2.1
      have f1 : w3.frozen? ⟨w.heap.size, 1, none⟩ = false := (hb3.frozen (by dsimp only; omega)).trans hbW.out.2.2.1
      have z0 : w3.cell? ⟨w.heap.size, 0, none⟩ = some (.bool false) := (hb3.cell (by dsimp only; omega)).trans hbW.out.2.2.2.1
      have z1 : w3.cell? ⟨w.heap.size, 1, none⟩ = some (.slice none 0 0) := (hb3.cell (by dsimp only; omega)).trans hbW.out.2.2.2.2
      go_wp2
      refine bodyPost_ret (v := .agg #[.bool m3, .slice ad3 n3 cap3]) (by simp [results, Tryd.results21, go_sem, z0, z1]) rfl ⟨_, rfl, ⟨m3, ad3, n3, cap3, f3, rfl, HD.out.res z0 _ _, hm3, by rw [HZ.out, hdone.out]; exact hz3⟩, ?_⟩
      have hb5 : Below w.heap.size w w3 := bl_trans hbW.out.1 hb3
      exact bl_set (bl_set hb5 (by dsimp only; omega) _) (by dsimp only; omega) _
    · have hl : ds.length ≤ 3 := small_len HB.out HQ.out hZ1 (by omega)
      have hts := sg_tdiv m X hX0
      obtain ⟨x, hx⟩ : ∃ x, x = sg m * X := ⟨_, rfl⟩
      obtain ⟨q, hq⟩ : ∃ q, q = sg m * (X / 65536) := ⟨_, rfl⟩
      obtain ⟨rr, hrr⟩ : ∃ rr, rr = sg m * (X % 65536) := ⟨_, rfl⟩
      rw [← hx, ← hq, ← hrr] at hts
      rw [← hx]
      have hx1 : (x == 0) = false := by simp; rw [hx]; cases m <;> simp [sg] <;> omega
      have hsel : (decide (rr < 0) = true ∧ rr < 0 ∧ -rr = X % 65536) ∨ (decide (rr < 0) = false ∧ rr = X % 65536) := by
        cases m
        · simp [sg] at hrr
          exact .inr ⟨by simp; omega, by omega⟩
        · simp [sg] at hrr
          by_cases h : rr < 0
          · exact .inl ⟨by simp; omega, h, by omega⟩
          · exact .inr ⟨by simp; omega, by omega⟩
      have brr : -65536 < rr ∧ rr < 65536 := by omega
      have bq : -9223372036854775808 ≤ q ∧ q ≤ 9223372036854775807 := by rw [hq]; cases m <;> simp [sg] <;> omega
      have hme : Hid ((sg m * q).toNat < (sg m * x).toNat) := by
        unfold Hid; rw [hq, hx]
        cases m <;> simp [sg] <;> omega
      have HQQ := Lib.hid hq
      have t1 := hts.1
      have t2 := hts.2
      clear hq hx hrr hts
      rcases hsel with ⟨s1, s2, s3⟩ | ⟨s1, s3⟩
      case' inl =>
        have en : IntKind.i64.wrap (-rr) = X % 65536 := by rw [s3]; exact IntWalk.i64_in _ (by omega)
        have en' : wrap64 (-rr) = X % 65536 := by rw [s3]; unfold wrap64; omega
        clear s3
      case' inr => subst s3
      all_goals
        go_wp2_with (first
          | (at_builtin; refine wpList_append_own _ rfl _ _ 55 rfl W2.heap.size 3 i0 (.int .i64 0) 1 8 Tryd.underlying55 hi hz0 hz1 hz2 rfl (by decide) _ _ _ rfl (HR.out.alloc _).own ⟨wr.heap.size, 0, none⟩ 1 1 [.int .i64 (X % 65536)] rfl rfl (cell_one_new _ _ _) (by intro u hu; simp at hu; subst hu; rfl) (by unfold maxLen; omega) (by omega) (by simp; omega) ?_)
          | go_in)
        intro v' w1 hown' hgrow _
        have R : Hid (Rw W2.heap.size W2 v' (ds ++ [X % 65536]) w1) := (HR.out.alloc _).more hown' hgrow
        clear hown' hgrow
        go_wp2
        go_roundw
        case rel =>
          refine ⟨ds ++ [X % 65536], X / 65536, by rw [← HQQ.out], R.out, bd_snoc HB.out (by omega) (by omega), small_step HQ.out, by omega, by omega, by simp; omega⟩
        case measure => simp only [intOf]; exact hme.out
end Go.Proofs.YtdpbmkfgolemjaaDoor
